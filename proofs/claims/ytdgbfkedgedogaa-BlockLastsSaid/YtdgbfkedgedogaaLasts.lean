/- BlockLasts walked. -/
import Derived.Test.YtdgbfkedgedogaaMay
namespace Go.Proofs.Ytdgbfkedgedogaa
open Go.RowKit Go.Maps
theorem info9 : (Try.prog.info? 9).map (fun i => (i.zero, i.size, i.bytes)) = some (some (.string ⟨#[]⟩), 1, 16) := by kernel_rfl
/-- Two texts alike? Closed to the walk's simp. -/
def alike (x y : ByteArray) : Bool := x.toList == y.toList
theorem sem_stralike (t : TypeId) (x y : ByteArray) : binOp .eql t (.string x) (.string y) = pure (.bool (alike x y)) := binOp_string_eql t x y
theorem alike_self (x : ByteArray) : alike x x = true := by unfold alike; simp
def anyB (l : List Sec) (s : Sec) : Nat → Bool
  | 0 => false
  | m + 1 => anyB l s m || alike (lstr (l.getD m [])) (lstr s)
theorem anyB_of {l : List Sec} {s : Sec} {x : Nat} (hx : l.getD x [] = s) : ∀ m, x < m → anyB l s m = true
  | 0, h => by omega
  | m + 1, h => by
    unfold anyB
    by_cases e : x = m
    · subst e; rw [hx, alike_self, Bool.or_true]
    · rw [anyB_of hx m (by omega), Bool.true_or]
theorem anyB_mem {l : List Sec} {s : Sec} (h : s ∈ l) : anyB l s l.length = true := by
  obtain ⟨x, hx, rfl⟩ := List.getElem_of_mem h
  exact anyB_of (by rw [List.getD, List.getElem?_eq_getElem hx]; rfl) l.length hx
attribute [local go_sem 9000] sem_strneq sem_stralike
set_option maxRecDepth 100000 in
set_option maxHeartbeats 4000000 in
theorem lasts_any (a : Option Addr) (len cap : Nat) (l : List Deed) (a2 : Option Addr) (len2 cap2 : Nat) (l2 : List Deed) (K : BitVec 64) (w : World) (hS : Deeds a len l w) (hS2 : Deeds a2 len2 l2 w) (hlen : len ≤ 140737488355328) (hlen2 : len2 ≤ 140737488355328) :
    Calls Try.prog 4 #[.slice a len cap, .slice a2 len2 cap2, .int .u64 (u64 K)] w fun e w' => e = .returned (.bool true) ∧ Below w.heap.size w w' := by
  obtain ⟨i0, hi0, hz0, hz1, hz2⟩ := info_parts info9
  go_enter Try.func4, Try.ntmps4
  go_wp2_with fail
  refine (awake_any _).mono ?_
  rintro e w1 ⟨rfl, b1⟩
  dsimp only
  go_wp2_with fail
  refine (few_any a len cap l _ (hS.below b1) hlen).mono ?_
  rintro e w1' ⟨rfl, rfl⟩
  cases hg1 : few l
  · dsimp only
    go_wp2_with fail
    go_ret
    exact ⟨rfl, b1⟩
  dsimp only
  go_wp2_with fail
  refine (few_any a2 len2 cap2 l2 _ (hS2.below b1) hlen2).mono ?_
  rintro e w1' ⟨rfl, rfl⟩
  cases hg2 : few l2
  · dsimp only
    go_wp2_with fail
    go_ret
    exact ⟨rfl, b1⟩
  have hl200 := (few_spec hg1).1
  have hl200b := (few_spec hg2).1
  have hlenA : len ≤ 200 := by rw [hS.count]; exact hl200
  have hlenB : len2 ≤ 200 := by rw [hS2.count]; exact hl200b
  have hlenA' : (len : Int) ≤ 200 := by omega
  have hlenB' : (len2 : Int) ≤ 200 := by omega
  dsimp only
  go_wp2_with fail
  refine (on_new 6 _ (by decide) (by decide)).mono ?_
  rintro e w2 ⟨p, h2, rfl, O2, o2, b2⟩
  have C2 := Lib.hid (Ctx.new O2 o2 b2 b1)
  clear O2 o2 b2 b1
  dsimp only
  go_wp2_with fail
  have HS := Lib.hid hS
  have HS2 := Lib.hid hS2
  clear hS hS2
  go_loopw [9] (fun i wr => ∃ (k : Nat) (h : Hd) (t : St), k ≤ len ∧ i = .int .i64 k ∧ Calm t ∧ Ctx w.heap.size w p h t k wr) (fun i _ => len - (intOf i).toNat)
  case atStart => exact ⟨0, _, _, by omega, rfl, Calm.new, C2.out⟩
  case round =>
    obtain ⟨k, h, t, hk, rfl, hcalm, C⟩ := hrel
    by_cases hlt : k < len
    · have hlt' : (k : Int) < (len : Int) := by omega
      have hk0 : (0 : Int) ≤ (k : Int) := by omega
      obtain ⟨b, off, rfl, hr⟩ := (HS.out.below C.below).cell k hlt
      obtain ⟨f0, f1, f2, _⟩ := HS.out.fit hlt
      have hbw : b < w.heap.size := by
        obtain ⟨b', off', e, hr'⟩ := HS.out.cell k hlt
        injection e with e; injection e with e _
        rw [e]; exact block_lt_of_cell (hr' 0 _ rfl)
      have c0 : wr.cell? ⟨b, off + k * 5, none⟩ = some (.int .i64 (l.getD k deed0).kind) := hr 0 _ rfl
      have c1 : wr.cell? ⟨b, off + k * 5 + 1, none⟩ = some (.int .i64 (l.getD k deed0).at_) := hr 1 _ rfl
      have c2 : wr.cell? ⟨b, off + k * 5 + 2, none⟩ = some (.string (l.getD k deed0).data) := hr 2 _ rfl
      clear hr
      generalize l.getD k deed0 = x at *
      have hmb := C.mine hbw
      by_cases hkind : x.kind = 0
      · rw [hkind] at c0
        have HC := Lib.hid C
        have HQ := Lib.hid hcalm
        clear C hcalm
        go_wp2_with fail
        go_region_held3 (fun w' => w'.cell? ⟨b, off + k * 5 + 1, none⟩ = some (.int .i64 x.at_) ∧ w'.cell? ⟨b, off + k * 5 + 2, none⟩ = some (.string x.data)) (first | exact ⟨c1, c2⟩ | exact ⟨(T4.cell hmb).trans c1, (T4.cell hmb).trans c2⟩)
          (first | (go_at_call 12; (with_reducible refine (on_write (HC.out.drew.on) (by omega) x.at_ f1 x.data f2).mono ?_); rintro e w4 ⟨rfl, h4, O4, T4⟩))
        have C4 := Lib.hid ((HC.out.drew.turn O4 T4))
        clear O4 T4
        go_wp2_with fail
        go_roundw
        case rel => exact ⟨k + 1, _, _, by omega, by go_num, HQ.out.write _ _, C4.out⟩
        case measure => simp [intOf]; omega
      · have hkind' : ¬ x.kind = 0 := hkind
        go_wp2_with fail
        go_roundw
        case rel => exact ⟨k + 1, _, _, by omega, by go_num, hcalm, C.mono (Nat.le_succ k)⟩
        case measure => simp [intOf]; omega
    · obtain rfl : k = len := by omega
      go_wp2_with fail
      refine (on_flush C.on (by omega)).mono ?_
      rintro e w3 ⟨rfl, h3, O3, T3⟩
      obtain ⟨e1, e2⟩ := calm_flush hcalm.down hcalm.cut
      rw [e2]
      rw [e1] at O3
      have C3 := Lib.hid (C.turn O3 T3)
      have Q3 := Lib.hid hcalm.sync
      clear C O3 T3 hcalm e1 e2
      dsimp only
      go_wp2_with fail
      refine (on_waiting C3.out.on).mono ?_
      rintro e w3' ⟨rfl, rfl⟩
      rw [show ((t.sync.waiting : Nat) : Int) = 0 from rfl]
      have hl3 : Hid (∀ a, t.sync.lasts a = t.seen a) := fun a => rfl
      have hf3 : Hid (t.sync.first = []) := rfl
      have hs3 : Hid (∀ a, t.sync.seen a = t.seen a) := fun a => rfl
      generalize t.seen = f at hl3 hs3
      generalize t.sync = t3 at C3 Q3 hl3 hf3 hs3
      dsimp only
      have hz : (#[.slice none 0 0, .slice none 0 0, .slice none 0 0, .slice none 0 0, .slice none 0 0, .slice none 0 0] : Array Value) = mayA (fun _ => .slice none 0 0) := rfl
      have C5 := Lib.hid (C3.out.grown ((Below.refl w3.heap.size w3).alloc (Nat.le_refl _) (.cells (mayA (fun _ => .slice none 0 0)) 54)))
      have M5 := Lib.hid (show May w.heap.size p h3 w3.heap.size (fun _ => .slice none 0 0) (fun _ => []) (w3.alloc (.cells (mayA (fun _ => .slice none 0 0)) 54)) from
        ⟨C3.out.on.mine_new (Nat.le_refl _) (by simp), heap_alloc_new _ _, fun i _ => World.ownsRow_nil _ _ _ _, fun i _ g hg => (by cases hg), fun i j _ _ _ g hg => (by cases hg)⟩)
      have hBB := C3.out.len
      clear C3
      go_wp2_with fail
      try rw [hz]
      clear hz
      generalize World.alloc w3 _ = w5 at C5 M5 ⊢
      generalize w3.heap.size = B at C5 M5 hBB ⊢
      go_loopw [11] (fun i wr => ∃ (j : Nat) (v : Nat → Value) (M : Nat → List Sec), j ≤ 6 ∧ i = .int .i64 j ∧ Ctx w.heap.size w p h3 t3 k wr ∧ May w.heap.size p h3 B v M wr ∧ ∀ i, i < 6 → M i = if i < j then [f i] else []) (fun i _ => 6 - (intOf i).toNat)
      case atStart => exact ⟨0, _, _, by omega, rfl, C5.out, M5.out, fun i _ => by rw [if_neg (by omega)]⟩
      case round =>
        obtain ⟨j, v, M, hj, rfl, C, m, hM⟩ := hrel
        by_cases hj6 : j < 6
        · have hj6' : (j : Int) < 6 := by omega
          have hj0 : (0 : Int) ≤ (j : Int) := by omega
          obtain ⟨hS, hR⟩ := Q3.out.read hj6
          rw [hs3.out] at hS
          have HM := Lib.hid hM
          clear hM
          go_wp2_with fail
          refine (on_read C.on (by omega) (j : Int) (WalkArith.wf_i64 (by omega))).mono ?_
          rintro e w6 ⟨rfl, O6, B6⟩
          rw [hS, hR]
          have C6 := Lib.hid (C.grown B6)
          have m6 := m.grown B6
          have m7 := m6.grown ((Below.refl w6.heap.size w6).alloc (Nat.le_refl _) (.cells #[.string (lstr (f j))] 9))
          have C7 := Lib.hid (C6.out.grown ((Below.refl w6.heap.size w6).alloc (Nat.le_refl _) (.cells #[.string (lstr (f j))] 9)))
          have cB := m6.cell hj6
          have hown := m7.row j hj6
          have hlB := m6.mineB.1
          have hneB : B ≠ w6.heap.size := by omega
          have HMj : Hid ((M j).length = 0) := by rw [HM.out j hj6, if_neg (by omega)]; exact rfl
          have Hm7 := Lib.hid m7
          clear C m B6 O6 m6 m7 hS hR
          dsimp only
          go_wp2_with (first
            | (at_builtin; refine wpList_append_lies _ rfl _ _ _ rfl 0 9 i0 _ 1 16 Try.underlying29 hi0 hz0 hz1 hz2 rfl (by omega) (v j) (M j).length (texts (M j)) (by rfl) hown
                ⟨w6.heap.size, 0, none⟩ 1 1 [.string (lstr (f j))] (by rfl) (by rfl) (World.news_of_block (heap_alloc_new w6 _)) (by simp [Value.oneCell']) (by omega) (by rw [HMj.out]; decide) (by rw [HMj.out]; decide) (Nat.zero_le _) _ rfl ?_; intro g cap3 w8 hown8 hgrow hat hlt8; obtain ⟨m9, C9, cB8, fB8, -⟩ := Hm7.out.more C7.out hBB hj6 hown8 hgrow hat)
            | fail)
          go_roundw
          case rel =>
            refine ⟨j + 1, _, _, by omega, by go_num, C9, m9, fun i hi => ?_⟩
            unfold updM
            by_cases e : i = j
            · rw [if_pos e, if_pos (by omega), HM.out j hj6, if_neg (by omega), e]; rfl
            · rw [if_neg e, HM.out i hi]
              by_cases e2 : i < j
              · rw [if_pos e2, if_pos (by omega)]
              · rw [if_neg e2, if_neg (by omega)]
          case measure => simp [intOf]; omega
        · obtain rfl : j = 6 := by omega
          rw [show ((6 : Nat) : Int) = 6 from rfl]
          have L0 := Lib.hid (show LastT f t3 M from ⟨Q3.out, hl3.out, fun x hx => (by rw [hf3.out] at hx; cases hx), fun i hi => ⟨[], by rw [hM i hi, if_pos hi]⟩⟩)
          have HL0 : Hid (∀ i, i < 6 → (M i).length ≤ 0 + 1) := fun i hi => by rw [hM i hi, if_pos hi]; exact Nat.le_refl _
          have HC := Lib.hid C
          have Hm := Lib.hid m
          clear hM C m
          go_wp2_with fail
          go_loopw [14] (fun i wr => ∃ (j : Nat) (h : Hd) (t : St) (v : Nat → Value) (M : Nat → List Sec), j ≤ len2 ∧ i = .int .i64 j ∧ LastT f t M ∧ Ctx w.heap.size w p h t (k + j) wr ∧ May w.heap.size p h B v M wr ∧ ∀ i, i < 6 → (M i).length ≤ j + 1) (fun i _ => len2 - (intOf i).toNat)
          case atStart => exact ⟨0, _, _, _, _, by omega, rfl, L0.out, HC.out, Hm.out, HL0.out⟩
          case round =>
            obtain ⟨j, h, t, v, M, hj, rfl, LT, C, m, hML⟩ := hrel
            by_cases hlt2 : j < len2
            · have hlt2' : (j : Int) < (len2 : Int) := by omega
              have hj0 : (0 : Int) ≤ (j : Int) := by omega
              obtain ⟨b, off, rfl, hr⟩ := (HS2.out.below C.below).cell j hlt2
              obtain ⟨f0, f1, f2, _⟩ := HS2.out.fit hlt2
              have c0 : wr.cell? ⟨b, off + j * 5, none⟩ = some (.int .i64 (l2.getD j deed0).kind) := hr 0 _ rfl
              have c1 : wr.cell? ⟨b, off + j * 5 + 1, none⟩ = some (.int .i64 (l2.getD j deed0).at_) := hr 1 _ rfl
              have c2 : wr.cell? ⟨b, off + j * 5 + 2, none⟩ = some (.string (l2.getD j deed0).data) := hr 2 _ rfl
              have c3 : wr.cell? ⟨b, off + j * 5 + 3, none⟩ = some (.int .i64 (l2.getD j deed0).cut) := hr 3 _ rfl
              have c4 : wr.cell? ⟨b, off + j * 5 + 4, none⟩ = some (.int .u64 (Ytdgbfkedgedogaa.u64 (l2.getD j deed0).keep)) := hr 4 _ rfl
              clear hr
              generalize l2.getD j deed0 = x at *
              generalize x.kind = xk at *
              generalize x.at_ = xa at *
              generalize x.data = xd at *
              generalize x.cut = xc at *
              generalize x.keep = xK at *
              have C1 := Lib.hid (C.grown ((Below.refl wr.heap.size wr).alloc (Nat.le_refl _) (.cells #[.int .i64 xk, .int .i64 xa, .string xd, .int .i64 xc, .int .u64 (Ytdgbfkedgedogaa.u64 xK)] 38)))
              have m1 := Lib.hid (m.grown ((Below.refl wr.heap.size wr).alloc (Nat.le_refl _) (.cells #[.int .i64 xk, .int .i64 xa, .string xd, .int .i64 xc, .int .u64 (Ytdgbfkedgedogaa.u64 xK)] 38)))
              have hA := heap_alloc_new wr (.cells #[.int .i64 xk, .int .i64 xa, .string xd, .int .i64 xc, .int .u64 (Ytdgbfkedgedogaa.u64 xK)] 38)
              have HA := Lib.hid hA
              have HLT := Lib.hid LT
              have HML := Lib.hid hML
              clear hA LT hML
              have hmA := Lib.hid (C.on.mine_new (w' := wr.alloc (.cells #[.int .i64 xk, .int .i64 xa, .string xd, .int .i64 xc, .int .u64 (Ytdgbfkedgedogaa.u64 xK)] 38)) (Nat.le_refl _) (by simp))
              by_cases hkind : xk = 0
              · rw [hkind] at c0 C1 m1 HA hmA
                have hdown := HLT.out.calm.down
                have hsize := HLT.out.calm.size
                have hcut := HLT.out.calm.cut
                clear C m
                go_wp2_with fail
                generalize World.alloc wr _ = wa at C1 m1 HA hmA ⊢
                generalize wr.heap.size = A at HA hmA ⊢
                refine (on_write C1.out.on (by omega) xa f1 xd f2).mono ?_
                rintro e w4 ⟨rfl, h4, O4, T4⟩
                by_cases hok : t.refusal xa = 0 ∧ xd.size ≤ 32
                · obtain ⟨hok1, hok2⟩ := hok
                  obtain ⟨n, hn, hn6⟩ : ∃ n : Nat, xa = (n : Int) ∧ n < 6 := by
                    unfold St.refusal at hok1
                    rw [hdown, hsize] at hok1
                    by_cases hq : xa < 0 ∨ 6 ≤ xa
                    · rw [if_neg (by simp), if_pos hq] at hok1; cases hok1
                    · exact ⟨xa.toNat, by omega, by omega⟩
                  subst hn
                  obtain ⟨e1, e2⟩ := calm_write hdown hcut (a := (n : Int)) (by omega) (by rw [hsize]; omega) hok2
                  rw [e2]
                  rw [e1] at O4
                  have hpl := pad_length xd hok2
                  have LT4 := Lib.hid (HLT.out.put hn6 hpl)
                  have C4 := Lib.hid (C1.out.turn O4 T4)
                  have m4 := Lib.hid (m1.out.turn T4)
                  have hA4 := Lib.hid ((T4.keep hmA.out).trans HA.out)
                  have cA4 : w4.cell? ⟨A, 1, none⟩ = some (.int .i64 (n : Int)) := cell_block hA4.out 1
                  have mA4 := Lib.hid (T4.mine hmA.out)
                  clear O4 T4 e1 e2 C1 m1 HA hmA
                  obtain ⟨hS, hR⟩ := LT4.out.calm.read hn6
                  have hSP : (t.put n (pad xd)).seen n = pad xd := by show setAt t.seen n (pad xd) n = _; unfold setAt; rw [if_pos rfl]
                  rw [hSP] at hS
                  clear hSP
                  generalize t.put n (pad xd) = t4 at LT4 C4 hS hR
                  generalize pad xd = P at LT4 hS hpl
                  dsimp only
                  go_wp2_with fail
                  refine (on_read C4.out.on (by omega) (n : Int) (WalkArith.wf_i64 (by omega))).mono ?_
                  rintro e w5 ⟨rfl, O5, B5⟩
                  rw [hS, hR]
                  have C5' := C4.out.grown B5
                  have m5' := m4.out.grown B5
                  have hA5 : w5.heap[A]? = _ := (B5.block A mA4.out.1).trans hA4.out
                  have mA5 : Mine w5 p h4 A := mA4.out.below B5
                  have cA5 : w5.cell? ⟨A, 1, none⟩ = some (.int .i64 (n : Int)) := cell_block hA5 1
                  have cB := m5'.cell hn6
                  have C7 := Lib.hid ((C5'.grown ((Below.refl w5.heap.size w5).alloc (Nat.le_refl _) (.cells #[.string (lstr P)] 9))).drew)
                  have m7' := ((m5'.grown ((Below.refl w5.heap.size w5).alloc (Nat.le_refl _) (.cells #[.string (lstr P)] 9))).drew)
                  have hown := m7'.row n hn6
                  have m7 := Lib.hid m7'
                  have cA7 : (w5.alloc (.cells #[.string (lstr P)] 9)).drew.cell? ⟨A, 1, none⟩ = some (.int .i64 (n : Int)) := (World.cell?_of_block (Below.heap_alloc _ _ _ mA5.1)).trans cA5
                  have mA7 : Mine (w5.alloc (.cells #[.string (lstr P)] 9)).drew p h4 A := ⟨Nat.lt_of_lt_of_le mA5.1 (by simp), mA5.2⟩
                  have hAB : A ≠ B := fun e => by rw [e, m5'.block] at hA5; injection hA5 with hA5; injection hA5 with _ h2 _; cases h2
                  have hAv : (v n).ownBlock ≠ some A := fun e => by
                    obtain ⟨cur, hc⟩ := row_block9 (m5'.row n hn6) e
                    rw [hA5] at hc; injection hc with hc; injection hc with _ h2 _; cases h2
                  have hlB := m5'.mineB.1
                  have hneB : B ≠ w5.heap.size := by omega
                  have hnv := heap_alloc_new w5 (.cells #[.string (lstr P)] 9)
                  have hmx : (M n).length + 1 ≤ maxLen := by have := HML.out n hn6; unfold maxLen; omega
                  have hbx : ((M n).length + 1) * 16 ≤ 140737488355328 := by have := HML.out n hn6; omega
                  have hn0 : (0 : Int) ≤ (n : Int) := by omega
                  have hn6' : (n : Int) < 6 := by omega
                  have HAB := Lib.hid hAB
                  have HAv := Lib.hid hAv
                  have HMA := Lib.hid mA7
                  clear O5 B5 C5' m5' m7' hA5 hS hR hAB hAv mA7 C4 m4 hA4 mA4 cA4 hpl
                  dsimp only
                  go_wp2_with fail
                  refine wp_region_held_drew (S := fun w' => w'.cell? ⟨A, 1, none⟩ = some (.int .i64 (n : Int))) (by kernel_rfl) cA5 (fun hHeld => ?_)
                  refine wpAnyH_take (i := 0) (v := .pointer (some ⟨A, 1, none⟩)) rfl (by kernel_rfl) (by kernel_rfl) (by kernel_rfl) (fun _ _ _ h => h) (Or.inl ⟨by rfl, ?_⟩) (by assumption) ?_
                  focus (intro w' hS1; (try dsimp only at hS1); go_simp)
                  simp only [List.getElem_toArray, List.getElem_cons_succ, List.getElem_cons_zero, Act.put, List.setIfInBounds_toArray, List.set_cons_zero, List.set_cons_succ]
                  refine wpAnyH_take (i := 1) (v := .int .i64 (n : Int)) rfl (by kernel_rfl) (by kernel_rfl) (by kernel_rfl) (fun _ _ _ h => h) (Or.inl ⟨by rfl, ?_⟩) (by assumption) ?_
                  focus (intro w' hS1; (try dsimp only at hS1); go_simp)
                  simp only [List.getElem_toArray, List.getElem_cons_succ, List.getElem_cons_zero, Act.put, List.setIfInBounds_toArray, List.set_cons_zero, List.set_cons_succ]
                  refine wpAnyH_take (i := 2) (v := .pointer (some ⟨A, 1, none⟩)) rfl (by kernel_rfl) (by kernel_rfl) (by kernel_rfl) (fun _ _ _ h => h) (Or.inl ⟨by rfl, ?_⟩) (by assumption) ?_
                  focus (intro w' hS1; (try dsimp only at hS1); go_simp)
                  simp only [List.getElem_toArray, List.getElem_cons_succ, List.getElem_cons_zero, Act.put, List.setIfInBounds_toArray, List.set_cons_zero, List.set_cons_succ]
                  refine wpAnyH_take (i := 3) (v := .int .i64 (n : Int)) rfl (by kernel_rfl) (by kernel_rfl) (by kernel_rfl) (fun _ _ _ h => h) (Or.inl ⟨by rfl, ?_⟩) (by assumption) ?_
                  focus (intro w' hS1; (try dsimp only at hS1); go_simp)
                  simp only [List.getElem_toArray, List.getElem_cons_succ, List.getElem_cons_zero, Act.put, List.setIfInBounds_toArray, List.set_cons_zero, List.set_cons_succ]
                  refine wpAnyH_take (i := 4) (v := .pointer (some ⟨B, n, none⟩)) rfl (by kernel_rfl) (by kernel_rfl) (by kernel_rfl) (fun _ _ _ h => h) (Or.inl ⟨by rfl, ?_⟩) (by assumption) ?_
                  focus (intro w' hS1; (try dsimp only at hS1); go_simp)
                  simp only [List.getElem_toArray, List.getElem_cons_succ, List.getElem_cons_zero, Act.put, List.setIfInBounds_toArray, List.set_cons_zero, List.set_cons_succ]
                  refine wpAnyH_take (i := 6) (v := .string (lstr P)) rfl (by kernel_rfl) (by kernel_rfl) (by kernel_rfl) (fun _ _ _ h => h) (Or.inl ⟨by rfl, ?_⟩) (by assumption) ?_
                  focus (intro w' hS1; (try dsimp only at hS1); go_simp)
                  simp only [List.getElem_toArray, List.getElem_cons_succ, List.getElem_cons_zero, Act.put, List.setIfInBounds_toArray, List.set_cons_zero, List.set_cons_succ]
                  refine wpAnyH_ready (rs := [5, 7]) (by kernel_rfl) (by simp) ?_
                  refine AllReadyH.cons (o := _) rfl (fun K hK => ?_) (AllReadyH.cons (o := _) rfl (fun K hK => ?_) AllReadyH.nil)
                  · try simp only [List.getElem_toArray, List.getElem_cons_succ, List.getElem_cons_zero]
                    rw [if_pos (by rfl)]
                    go_simp
                    refine hK.out _ _ cA5 (fun hHeld => ?_)
                    clear hK K
                    try simp only [List.getElem_toArray, List.getElem_cons_succ, List.getElem_cons_zero, Act.put, List.setIfInBounds_toArray, List.set_cons_zero, List.set_cons_succ]
                    refine wpAnyH_ready (rs := [7]) (by kernel_rfl) (by simp) ?_
                    refine AllReadyH.cons (o := _) rfl (fun K hK => ?_) AllReadyH.nil
                    try simp only [List.getElem_toArray, List.getElem_cons_succ, List.getElem_cons_zero]
                    rw [if_pos (by rfl)]
                    go_simp
                    refine hK.out _ _ cA7 (fun hHeld => ?_)
                    clear hK K
                    try simp only [List.getElem_toArray, List.getElem_cons_succ, List.getElem_cons_zero, Act.put, List.setIfInBounds_toArray, List.set_cons_zero, List.set_cons_succ]
                    refine wpAnyH_ready (rs := [8]) (by kernel_rfl) (by simp) ?_
                    refine AllReadyH.cons (o := _) rfl (fun K hK => ?_) AllReadyH.nil
                    try simp only [List.getElem_toArray, List.getElem_cons_succ, List.getElem_cons_zero]
                    rw [if_pos (by rfl)]
                    refine wp_append_lies _ (.tmp 127) (.tmp 129) 29 (by rfl) 0 9 i0 _ 1 16 Try.underlying29 hi0 hz0 hz1 hz2 rfl (by omega) (v n) (M n).length (texts (M n)) (by rfl) hown
                      ⟨w5.heap.size, 0, none⟩ 1 1 [.string (lstr P)] (by rfl) (by rfl) (World.news_of_block (w := (w5.alloc (.cells #[.string (lstr P)] 9)).drew) hnv) (by simp [Value.oneCell']) (by omega) hmx hbx (Nat.zero_le _) (w5.heap.size + 1) (by simp) ?_
                    intro g cap3 w8 hown8 hgrow hat hlt8
                    obtain ⟨m9, C9, cB8, fB8, hk9⟩ := m7.out.more C7.out hBB hn6 hown8 hgrow (hat.imp id (fun e => by rw [e]; simp))
                    have cA8 : w8.cell? ⟨A, 1, none⟩ = some (.int .i64 (n : Int)) := (World.cell?_of_block (hk9 A HMA.out HAB.out HAv.out).2).trans cA7
                    have cA9 := (World.cell?_of_block (a := ⟨A, 1, none⟩) (hk9 A HMA.out HAB.out HAv.out).1).trans cA7
                    refine hK.out _ _ cA8 (fun hHeld => ?_)
                    clear hK K
                    try simp only [List.getElem_toArray, List.getElem_cons_succ, List.getElem_cons_zero, Act.put, List.setIfInBounds_toArray, List.set_cons_zero, List.set_cons_succ]
                    refine wpAnyH_take (i := 9) (v := .pointer (some ⟨B, n, none⟩)) rfl (by kernel_rfl) (by kernel_rfl) (by kernel_rfl) (fun _ _ _ h => h) (Or.inl ⟨by rfl, ?_⟩) (by assumption) ?_
                    focus (intro w' hS1; (try dsimp only at hS1); go_simp)
                    simp only [List.getElem_toArray, List.getElem_cons_succ, List.getElem_cons_zero, Act.put, List.setIfInBounds_toArray, List.set_cons_zero, List.set_cons_succ]
                    refine wpAnyH_ready (rs := [10]) (by kernel_rfl) (by simp) ?_
                    refine AllReadyH.cons (o := _) rfl (fun K hK => ?_) AllReadyH.nil
                    try simp only [List.getElem_toArray, List.getElem_cons_succ, List.getElem_cons_zero]
                    rw [if_pos (by rfl)]
                    go_simp
                    refine hK.out _ _ cA9 (fun hHeld => ?_)
                    clear hK K
                    try simp only [List.getElem_toArray, List.getElem_cons_succ, List.getElem_cons_zero, Act.put, List.setIfInBounds_toArray, List.set_cons_zero, List.set_cons_succ]
                    refine wpAnyH_done (by kernel_rfl) ?_ _
                    clear hHeld cA8 cA9 cB8 fB8 hk9
                    go_wp2_with fail
                    go_roundw
                    case rel =>
                      refine ⟨j + 1, _, _, _, _, by omega, by go_num, LT4.out, C9, m9, fun i hi => ?_⟩
                      have := HML.out i hi
                      unfold updM
                      split
                      · rename_i e
                        rw [List.length_append, ← e, List.length_singleton]; omega
                      · omega
                    case measure => simp [intOf]; omega
                  · try simp only [List.getElem_toArray, List.getElem_cons_succ, List.getElem_cons_zero]
                    rw [if_pos (by rfl)]
                    go_simp
                    refine hK.out _ _ cA7 (fun hHeld => ?_)
                    clear hK K
                    try simp only [List.getElem_toArray, List.getElem_cons_succ, List.getElem_cons_zero, Act.put, List.setIfInBounds_toArray, List.set_cons_zero, List.set_cons_succ]
                    refine wpAnyH_ready (rs := [5]) (by kernel_rfl) (by simp) ?_
                    refine AllReadyH.cons (o := _) rfl (fun K hK => ?_) AllReadyH.nil
                    try simp only [List.getElem_toArray, List.getElem_cons_succ, List.getElem_cons_zero]
                    rw [if_pos (by rfl)]
                    go_simp
                    refine hK.out _ _ cA7 (fun hHeld => ?_)
                    clear hK K
                    try simp only [List.getElem_toArray, List.getElem_cons_succ, List.getElem_cons_zero, Act.put, List.setIfInBounds_toArray, List.set_cons_zero, List.set_cons_succ]
                    refine wpAnyH_ready (rs := [8]) (by kernel_rfl) (by simp) ?_
                    refine AllReadyH.cons (o := _) rfl (fun K hK => ?_) AllReadyH.nil
                    try simp only [List.getElem_toArray, List.getElem_cons_succ, List.getElem_cons_zero]
                    rw [if_pos (by rfl)]
                    refine wp_append_lies _ (.tmp 127) (.tmp 129) 29 (by rfl) 0 9 i0 _ 1 16 Try.underlying29 hi0 hz0 hz1 hz2 rfl (by omega) (v n) (M n).length (texts (M n)) (by rfl) hown
                      ⟨w5.heap.size, 0, none⟩ 1 1 [.string (lstr P)] (by rfl) (by rfl) (World.news_of_block (w := (w5.alloc (.cells #[.string (lstr P)] 9)).drew) hnv) (by simp [Value.oneCell']) (by omega) hmx hbx (Nat.zero_le _) (w5.heap.size + 1) (by simp) ?_
                    intro g cap3 w8 hown8 hgrow hat hlt8
                    obtain ⟨m9, C9, cB8, fB8, hk9⟩ := m7.out.more C7.out hBB hn6 hown8 hgrow (hat.imp id (fun e => by rw [e]; simp))
                    have cA8 : w8.cell? ⟨A, 1, none⟩ = some (.int .i64 (n : Int)) := (World.cell?_of_block (hk9 A HMA.out HAB.out HAv.out).2).trans cA7
                    have cA9 := (World.cell?_of_block (a := ⟨A, 1, none⟩) (hk9 A HMA.out HAB.out HAv.out).1).trans cA7
                    refine hK.out _ _ cA8 (fun hHeld => ?_)
                    clear hK K
                    try simp only [List.getElem_toArray, List.getElem_cons_succ, List.getElem_cons_zero, Act.put, List.setIfInBounds_toArray, List.set_cons_zero, List.set_cons_succ]
                    refine wpAnyH_take (i := 9) (v := .pointer (some ⟨B, n, none⟩)) rfl (by kernel_rfl) (by kernel_rfl) (by kernel_rfl) (fun _ _ _ h => h) (Or.inl ⟨by rfl, ?_⟩) (by assumption) ?_
                    focus (intro w' hS1; (try dsimp only at hS1); go_simp)
                    simp only [List.getElem_toArray, List.getElem_cons_succ, List.getElem_cons_zero, Act.put, List.setIfInBounds_toArray, List.set_cons_zero, List.set_cons_succ]
                    refine wpAnyH_ready (rs := [10]) (by kernel_rfl) (by simp) ?_
                    refine AllReadyH.cons (o := _) rfl (fun K hK => ?_) AllReadyH.nil
                    try simp only [List.getElem_toArray, List.getElem_cons_succ, List.getElem_cons_zero]
                    rw [if_pos (by rfl)]
                    go_simp
                    refine hK.out _ _ cA9 (fun hHeld => ?_)
                    clear hK K
                    try simp only [List.getElem_toArray, List.getElem_cons_succ, List.getElem_cons_zero, Act.put, List.setIfInBounds_toArray, List.set_cons_zero, List.set_cons_succ]
                    refine wpAnyH_done (by kernel_rfl) ?_ _
                    clear hHeld cA8 cA9 cB8 fB8 hk9
                    go_wp2_with fail
                    go_roundw
                    case rel =>
                      refine ⟨j + 1, _, _, _, _, by omega, by go_num, LT4.out, C9, m9, fun i hi => ?_⟩
                      have := HML.out i hi
                      unfold updM
                      split
                      · rename_i e
                        rw [List.length_append, ← e, List.length_singleton]; omega
                      · omega
                    case measure => simp [intOf]; omega
                · have hnz : ¬ t.writeE xa xd = 0 := by
                    unfold St.writeE
                    by_cases h1 : t.refusal xa = 0
                    · rw [if_neg (by simp [h1]), if_pos (by by_cases h2 : xd.size ≤ 32; exact absurd ⟨h1, h2⟩ hok; omega)]; decide
                    · rw [if_pos h1]; exact h1
                  have he : t.write xa xd = t := by
                    unfold St.write
                    rw [if_pos (by
                      by_cases h1 : t.refusal xa = 0
                      · exact .inr (by by_cases h2 : xd.size ≤ 32; exact absurd ⟨h1, h2⟩ hok; omega)
                      · exact .inl h1)]
                  rw [he] at O4
                  have C4 := Lib.hid (C1.out.turn O4 T4)
                  have m4 := Lib.hid (m1.out.turn T4)
                  clear O4 T4 he C1 m1 HA hmA hok
                  generalize t.writeE xa xd = E at hnz ⊢
                  dsimp only
                  go_wp2_with fail
                  go_roundw
                  case rel => exact ⟨j + 1, _, _, _, _, by omega, by go_num, HLT.out, C4.out, m4.out, fun i hi => by have := HML.out i hi; omega⟩
                  case measure => simp [intOf]; omega
              · have hkind' : ¬ xk = 0 := hkind
                clear C m
                go_wp2_with fail
                go_roundw
                case rel => exact ⟨j + 1, _, _, _, _, by omega, by go_num, HLT.out, C1.out.mono (by omega), m1.out, fun i hi => by have := HML.out i hi; omega⟩
                case measure => simp [intOf]; omega
            · obtain rfl : j = len2 := by omega
              have HC2 := Lib.hid C
              have Hm2 := Lib.hid m
              have HLT := Lib.hid LT
              have HML := Lib.hid hML
              clear C m LT hML
              go_wp2_with fail
              refine (on_crash HC2.out.on (by omega) K).mono ?_
              rintro e w4 ⟨rfl, h4, O4, T4⟩
              rw [calm_crash HLT.out.calm.down K] at O4
              have C4 := Lib.hid (HC2.out.turn O4 T4)
              have m4 := Lib.hid (Hm2.out.turn T4)
              clear O4 T4
              dsimp only
              go_wp2_with fail
              refine (on_start C4.out.on).mono ?_
              rintro e w6 ⟨rfl, h6, O6, T6⟩
              have C6 := Lib.hid (C4.out.turn O6 T6)
              have m6 := Lib.hid (m4.out.turn T6)
              clear O6 T6 C4 m4
              have hsz : (t.drop K).size = 6 := HLT.out.calm.size
              have hseen : Hid (∀ i : Nat, i < 6 → ∃ S : Sec, ({ t.drop K with down := false } : St).readS (i : Int) = lstr S ∧ ({ t.drop K with down := false } : St).refusal (i : Int) = 0 ∧ S ∈ M i ∧ (K = 0 → S = f i)) := fun i hi => by
                have hr : ({ t.drop K with down := false } : St).refusal (i : Int) = 0 := live_refusal rfl (by omega) (by show (i : Int) < (t.drop K).size; rw [hsz]; omega)
                obtain ⟨g1, g2⟩ := HLT.out.ends K hi
                refine ⟨(t.drop K).seen i, ?_, hr, g1, g2⟩
                unfold St.readS
                rw [if_neg (by rw [hr]; simp)]
              have hwt : ({ t.drop K with down := false } : St).waiting = 0 := rfl
              have hhead : Hid (∀ i, i < 6 → ∃ r, M i = f i :: r) := fun i hi => HLT.out.head i hi
              clear hsz HC2 Hm2 HLT
              generalize ({ t.drop K with down := false } : St) = t6 at C6 hseen hwt
              dsimp only
              go_wp2_with fail
              go_loopw [18] (fun i wr => ∃ (q : Nat), q ≤ 6 ∧ i = .int .i64 q ∧ Ctx w.heap.size w p h6 t6 (k + j) wr ∧ May w.heap.size p h6 B v M wr) (fun i _ => 6 - (intOf i).toNat)
              case atStart => exact ⟨0, by omega, rfl, C6.out, m6.out⟩
              case round =>
                obtain ⟨q, hq, rfl, C, m⟩ := hrel
                by_cases hq6 : q < 6
                · have hq6' : (q : Int) < 6 := by omega
                  have hq0 : (0 : Int) ≤ (q : Int) := by omega
                  obtain ⟨S, hS, hR, hmem, hK0⟩ := hseen.out q hq6
                  obtain ⟨r, hr⟩ := hhead.out q hq6
                  go_wp2_with fail
                  refine (on_read C.on (by omega) (q : Int) (WalkArith.wf_i64 (by omega))).mono ?_
                  rintro e w7 ⟨rfl, O7, B7⟩
                  rw [hS, hR]
                  have C7 := Lib.hid (C.grown B7)
                  have m7' := m.grown B7
                  have m7 := Lib.hid m7'
                  have hML7 : (M q).length ≤ 201 := by have := HML.out q hq6; omega
                  have hpos : 0 < (M q).length := by rw [hr]; simp
                  obtain ⟨g, cap3, hv, -, -⟩ := (m7'.row q hq6).form hpos
                  have cB : w7.cell? ⟨B, q, none⟩ = some (.slice (some ⟨g, 0, none⟩) (M q).length cap3) := by rw [m7'.cell hq6, hv]
                  have hcg : Hid (∀ x, x < (M q).length → w7.cell? ⟨g, x, none⟩ = some (.string (lstr ((M q).getD x [])))) := fun x hx => by
                    have := (m7'.row q hq6).cells (g := g) (by rw [hv]; rfl) x (.string (lstr ((M q).getD x []))) (by unfold texts; rw [List.getElem?_map, List.getD, List.getElem?_eq_getElem hx]; rfl)
                    rwa [Go.WideShapes.add_plain, Nat.zero_add] at this
                  have hhd : Hid ((M q).getD 0 [] = f q) := by rw [hr]; exact rfl
                  have hany : Hid (anyB (M q) S (M q).length = true) := anyB_mem hmem
                  have HK0 := Lib.hid hK0
                  clear C m B7 O7 m7' hS hR hmem hK0 hr hpos hv
                  generalize M q = Mq at hML7 cB hcg hhd hany
                  have hML8 : (Mq.length : Int) ≤ 201 := by omega
                  dsimp only
                  go_wp2_with fail
                  go_loop [21, 22] (fun b x => ∃ y : Nat, y ≤ Mq.length ∧ x = .int .i64 y ∧ b = .bool (anyB Mq S y)) (fun _ x => Mq.length - (intOf x).toNat)
                  case atStart => exact ⟨0, by omega, rfl, rfl⟩
                  case round =>
                    obtain ⟨y, hy, rfl, rfl⟩ := hrel
                    by_cases hyl : y < Mq.length
                    · have hyl' : (y : Int) < (Mq.length : Int) := by omega
                      have hy0 : (0 : Int) ≤ (y : Int) := by omega
                      have cg := hcg.out y hyl
                      have HA := Lib.hid (show anyB Mq S (y + 1) = (anyB Mq S y || alike (lstr (Mq.getD y [])) (lstr S)) from rfl)
                      generalize anyB Mq S y = bb at HA ⊢
                      generalize Mq.getD y [] = T at HA cg
                      cases bb
                      · go_wp2_with fail
                        go_round
                        case rel => exact ⟨y + 1, by omega, by go_num, by rw [HA.out, Bool.false_or]⟩
                        case measure => simp [intOf]; omega
                      · go_wp2_with fail
                        go_round
                        case rel => exact ⟨y + 1, by omega, by go_num, by rw [HA.out, Bool.true_or]⟩
                        case measure => simp [intOf]; omega
                    · obtain rfl : y = Mq.length := by omega
                      rw [hany.out]
                      have hpos : 0 < Mq.length := by
                        rcases Nat.eq_zero_or_pos Mq.length with h0 | h0
                        · have := hany.out; rw [h0] at this; cases this
                        · exact h0
                      have hpos' : (0 : Int) < (Mq.length : Int) := by omega
                      have cg0 := hcg.out 0 hpos
                      rw [hhd.out] at cg0
                      by_cases hKz : K = 0
                      · have hu : Ytdgbfkedgedogaa.u64 K = 0 := by rw [hKz]; rfl
                        rw [HK0.out hKz]
                        go_wp2_with fail
                        go_roundw
                        case rel => exact ⟨q + 1, by omega, by go_num, C7.out, m7.out⟩
                        case measure => simp [intOf]; omega
                      · have hu : ¬ Ytdgbfkedgedogaa.u64 K = 0 := fun e => hKz (by unfold Ytdgbfkedgedogaa.u64 at e; exact BitVec.eq_of_toNat_eq (by simpa using e))
                        go_wp2_with fail
                        go_roundw
                        case rel => exact ⟨q + 1, by omega, by go_num, C7.out, m7.out⟩
                        case measure => simp [intOf]; omega
                · obtain rfl : q = 6 := by omega
                  have hb := C.below
                  go_wp2_with fail
                  refine (on_waiting C.on).mono ?_
                  rintro e w7 ⟨rfl, rfl⟩
                  rw [hwt]
                  dsimp only
                  go_wp2_with fail
                  go_ret
                  exact ⟨rfl, hb⟩
end Go.Proofs.Ytdgbfkedgedogaa
