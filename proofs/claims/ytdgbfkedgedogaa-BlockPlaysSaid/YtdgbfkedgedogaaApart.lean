/- BlockApart walked. -/
import Derived.Test.YtdgbfkedgedogaaKeeps
namespace Go.Proofs.Ytdgbfkedgedogaa
open Go.RowKit Go.Maps
theorem sem_strneq (t : TypeId) (x : ByteArray) : binOp .neq t (.string x) (.string x) = pure (.bool false) := by rw [binOp_string_neq]; simp
/-- A disk of six sectors, with the power on, and nothing armed. -/
structure Calm (t : St) : Prop where
  down : t.down = false
  size : t.size = 6
  cut : t.cut = 0
  lens : ∀ a, (t.seen a).length = 32
theorem Calm.new : Calm (St.new 6) := ⟨rfl, rfl, rfl, fun _ => rfl⟩
theorem Calm.put {t : St} (h : Calm t) (a : Int) {l : Sec} (hl : l.length = 32) : Calm (t.put a l) :=
  ⟨h.down, h.size, h.cut, fun x => by
    show (setAt t.seen a l x).length = 32
    unfold setAt
    split
    · exact hl
    · exact h.lens x⟩
theorem Calm.sync {t : St} (h : Calm t) : Calm t.sync := ⟨h.down, h.size, h.cut, h.lens⟩
theorem Calm.write {t : St} (h : Calm t) (a : Int) (d : ByteArray) : Calm (t.write a d) := by
  unfold St.write
  by_cases hq : t.refusal a ≠ 0 ∨ 32 < d.size
  · rw [if_pos hq]; exact h
  · rw [if_neg hq]
    unfold St.failing
    rw [if_pos (show (t.put a (pad d)).cut = 0 from h.cut)]
    exact h.put a (pad_length d (by omega))
theorem Calm.read {t : St} (h : Calm t) {i : Nat} (hi : i < 6) : t.readS (i : Int) = lstr (t.seen i) ∧ t.refusal (i : Int) = 0 := by
  have hr := live_refusal h.down (a := (i : Int)) (by omega) (by rw [h.size]; omega)
  refine ⟨?_, hr⟩
  unfold St.readS
  rw [if_neg (by rw [hr]; simp)]
theorem lstr_len (l : Sec) : (lstr l).size = l.length := rfl
/-- A disk, its own blocks from base on; below that all is as it was. -/
structure Ctx (base : Nat) (w : World) (p : Nat) (h : Hd) (t : St) (n : Nat) (wr : World) : Prop where
  on : On wr p h t n
  own : ∀ j, owned p h j → base ≤ j
  below : Below base w wr
  len : base ≤ wr.heap.size
theorem Ctx.turn {base : Nat} {w : World} {p : Nat} {h h' : Hd} {t t' : St} {n n' : Nat} {wr w' : World} (C : Ctx base w p h t n wr) (O : On w' p h' t' n') (T : Turn p wr w' h h') : Ctx base w p h' t' n' w' :=
  ⟨O, T.owns C.len C.own, C.below.trans (T.below C.len C.own), Nat.le_trans C.len T.size⟩
theorem Ctx.grown {base : Nat} {w : World} {p : Nat} {h : Hd} {t : St} {n : Nat} {wr w' : World} (C : Ctx base w p h t n wr) (b : Below wr.heap.size wr w') : Ctx base w p h t n w' :=
  ⟨C.on.grown b, C.own, C.below.trans (b.mono C.len), Nat.le_trans C.len b.size⟩
theorem Ctx.drew {base : Nat} {w : World} {p : Nat} {h : Hd} {t : St} {n : Nat} {wr : World} (C : Ctx base w p h t n wr) : Ctx base w p h t n wr.drew :=
  ⟨C.on.kept (fun _ _ => rfl), C.own, C.below.drew, C.len⟩
theorem Ctx.mono {base : Nat} {w : World} {p : Nat} {h : Hd} {t : St} {n m : Nat} {wr : World} (C : Ctx base w p h t n wr) (hm : n ≤ m) : Ctx base w p h t m wr := ⟨C.on.mono hm, C.own, C.below, C.len⟩
theorem Ctx.mine {base : Nat} {w : World} {p : Nat} {h : Hd} {t : St} {n : Nat} {wr : World} (C : Ctx base w p h t n wr) {b : Nat} (hb : b < base) : Mine wr p h b := ⟨Nat.lt_of_lt_of_le hb C.len, fun e => by have := C.own b e; omega⟩
theorem Ctx.new {w w0 w1 : World} {p : Nat} {h : Hd} {t : St} (O : On w1 p h t 0) (ho : ∀ k, owned p h k → w0.heap.size ≤ k) (hb : Below w0.heap.size w0 w1) (b0 : Below w.heap.size w w0) : Ctx w.heap.size w p h t 0 w1 :=
  ⟨O, fun k hk => Nat.le_trans b0.size (ho k hk), b0.trans (hb.mono b0.size), Nat.le_trans b0.size hb.size⟩
theorem ik_of {a : Int} (h : (ik a).wf = true) : -9223372036854775808 ≤ a ∧ a ≤ 9223372036854775807 := by
  simp [Lit.wf, IntKind.min, IntKind.max, IntKind.signed, IntKind.bits] at h
  omega

/-- Six texts, as far as they are told. -/
def wasA (f : Nat → ByteArray) (k : Nat) : Array Value := #[.string (if 0 < k then f 0 else ⟨#[]⟩), .string (if 1 < k then f 1 else ⟨#[]⟩), .string (if 2 < k then f 2 else ⟨#[]⟩), .string (if 3 < k then f 3 else ⟨#[]⟩), .string (if 4 < k then f 4 else ⟨#[]⟩), .string (if 5 < k then f 5 else ⟨#[]⟩)]
theorem wasA_set (f : Nat → ByteArray) {k : Nat} (hk : k < 6) : (wasA f k).setIfInBounds k (.string (f k)) = wasA f (k + 1) := by
  have : k = 0 ∨ k = 1 ∨ k = 2 ∨ k = 3 ∨ k = 4 ∨ k = 5 := by omega
  rcases this with rfl | rfl | rfl | rfl | rfl | rfl <;> rfl
theorem wasA_at (f : Nat → ByteArray) (n : Nat) {k : Nat} (hk : k < 6) : (wasA f n)[k]? = some (.string (if k < n then f k else ⟨#[]⟩)) := by
  have : k = 0 ∨ k = 1 ∨ k = 2 ∨ k = 3 ∨ k = 4 ∨ k = 5 := by omega
  rcases this with rfl | rfl | rfl | rfl | rfl | rfl <;> rfl
structure Was (p : Nat) (h : Hd) (B : Nat) (f : Nat → ByteArray) (k : Nat) (wr : World) : Prop where
  mine : Mine wr p h B
  block : wr.heap[B]? = some (.cells (wasA f k) 56 (0, 0))
theorem Was.turn {p : Nat} {h h' : Hd} {B : Nat} {f : Nat → ByteArray} {k : Nat} {wr w' : World} (W : Was p h B f k wr) (T : Turn p wr w' h h') : Was p h' B f k w' := ⟨T.mine W.mine, (T.keep W.mine).trans W.block⟩
theorem Was.grown {p : Nat} {h : Hd} {B : Nat} {f : Nat → ByteArray} {k : Nat} {wr w' : World} (W : Was p h B f k wr) (b : Below wr.heap.size wr w') : Was p h B f k w' := ⟨W.mine.below b, (b.block _ W.mine.1).trans W.block⟩
theorem Was.cell {p : Nat} {h : Hd} {B : Nat} {f : Nat → ByteArray} {n : Nat} {wr : World} (W : Was p h B f n wr) {k : Nat} (hk : k < 6) : wr.cell? ⟨B, k, none⟩ = some (.string (if k < n then f k else ⟨#[]⟩)) := by
  rw [cell_block W.block, wasA_at f n hk]
theorem Was.free {p : Nat} {h : Hd} {B : Nat} {f : Nat → ByteArray} {n : Nat} {wr : World} (W : Was p h B f n wr) (k : Nat) : wr.frozen? ⟨B, k, none⟩ = false := free_block W.block k
theorem Was.set {p : Nat} {h : Hd} {B : Nat} {f : Nat → ByteArray} {k : Nat} {wr : World} (W : Was p h B f k wr) (hk : k < 6) : Was p h B f (k + 1) (wr.setCell ⟨B, k, none⟩ (.string (f k))) :=
  ⟨⟨by simpa [World.setCell] using W.mine.1, W.mine.2⟩, by rw [block_setCell W.block, wasA_set f hk]⟩
theorem Ctx.setCell {base : Nat} {w : World} {p : Nat} {h : Hd} {t : St} {n : Nat} {wr : World} (C : Ctx base w p h t n wr) {B : Nat} (hB : base ≤ B) (hm : Mine wr p h B) (k : Nat) (v : Value) : Ctx base w p h t n (wr.setCell ⟨B, k, none⟩ v) :=
  ⟨C.on.kept (fun j hj => Below.heap_setCell _ _ _ _ (fun e => hm.2 (by rw [← show j = B from e]; exact hj))), C.own, C.below.setCell (p := ⟨B, k, none⟩) hB _, by simpa [World.setCell] using C.len⟩
theorem On.room {w : World} {p : Nat} {h : Hd} {t : St} {n : Nat} (O : On w p h t n) : t.waiting ≤ n := by
  obtain ⟨s, D, G, R⟩ := O
  have h1 := G.room
  have h2 := R.waiting
  omega
theorem lstr_take (d : ByteArray) (h : d.size ≤ 32) : (lstr (pad d)).extract 0 d.size = d := by
  apply Go.WideShapes.bytes_inj
  rw [ByteArray.data_extract, Array.toList_extract]
  unfold lstr pad
  rw [List.extract_eq_take_drop]
  simp
attribute [local go_sem 9000] sem_strneq
set_option maxRecDepth 100000 in
set_option maxHeartbeats 2000000 in
theorem apart_any (a : Option Addr) (len cap : Nat) (l : List Deed) (at_ : Int) (d : ByteArray) (w : World) (hS : Deeds a len l w) (hlen : len ≤ 140737488355328) (hat : (ik at_).wf = true) (hd : d.size ≤ maxLen) :
    Calls Try.prog 5 #[.slice a len cap, .int .i64 at_, .string d] w fun e w' => e = .returned (.bool true) ∧ Below w.heap.size w w' := by
  have hlen' : (len : Int) ≤ 140737488355328 := by omega
  obtain ⟨hat0, hat1⟩ := ik_of hat
  go_enter Try.func5, Try.ntmps5
  go_wp2_with fail
  refine (awake_any _).mono ?_
  rintro e w1 ⟨rfl, b1⟩
  dsimp only
  go_wp2_with fail
  refine (few_any a len cap l _ (hS.below b1) hlen).mono ?_
  rintro e w1' ⟨rfl, rfl⟩
  by_cases hg : few l = true ∧ 0 ≤ at_ ∧ at_ ≤ 5 ∧ d.size ≤ 32
  · obtain ⟨hg1, hg2, hg3, hg4⟩ := hg
    have hg4' : (d.size : Int) ≤ 32 := by omega
    obtain ⟨hl200, hdl⟩ := few_spec hg1
    have hlen2 : len ≤ 200 := by rw [hS.count]; exact hl200
    have hlen2' : (len : Int) ≤ 200 := by omega
    rw [hg1]
    dsimp only
    go_wp2_with fail
    refine (on_new 6 _ (by decide) (by decide)).mono ?_
    rintro e w2 ⟨p, h2, rfl, O2, o2, b2⟩
    have C2 := Lib.hid (Ctx.new O2 o2 b2 b1)
    clear O2 o2 b2 b1
    dsimp only
    go_wp2_with fail
    have HS := Lib.hid hS
    clear hS
    go_loopw [9] (fun i wr => ∃ (k : Nat) (h : Hd) (t : St), k ≤ len ∧ i = .int .i64 k ∧ Calm t ∧ Ctx w.heap.size w p h t k wr) (fun i _ => len - (intOf i).toNat)
    case atStart => exact ⟨0, _, _, by omega, rfl, Calm.new, C2.out⟩
    case round =>
      obtain ⟨k, h, t, hk, rfl, hcalm, C⟩ := hrel
      by_cases hlt : k < len
      · have hlt' : (k : Int) < (len : Int) := by omega
        have hk0 : (0 : Int) ≤ (k : Int) := by omega
        obtain ⟨b, off, rfl, hr⟩ := (HS.out.below C.below).cell k hlt
        obtain ⟨f0, f1, f2, _⟩ := HS.out.fit hlt
        have hbw : b < w.heap.size := by
          obtain ⟨b', off', e, hr'⟩ := HS.out.cell k hlt
          injection e with e; injection e with e _
          rw [e]; exact block_lt_of_cell (hr' 0 _ rfl)
        have c0 : wr.cell? ⟨b, off + k * 5, none⟩ = some (.int .i64 (l.getD k deed0).kind) := hr 0 _ rfl
        have c1 : wr.cell? ⟨b, off + k * 5 + 1, none⟩ = some (.int .i64 (l.getD k deed0).at_) := hr 1 _ rfl
        have c2 : wr.cell? ⟨b, off + k * 5 + 2, none⟩ = some (.string (l.getD k deed0).data) := hr 2 _ rfl
        clear hr
        generalize l.getD k deed0 = x at *
        have hmb := C.mine hbw
        by_cases hkind : x.kind = 0
        · rw [hkind] at c0
          have HC := Lib.hid C
          have HQ := Lib.hid hcalm
          clear C hcalm
          go_wp2_with fail
          go_region_held3 (fun w' => w'.cell? ⟨b, off + k * 5 + 1, none⟩ = some (.int .i64 x.at_) ∧ w'.cell? ⟨b, off + k * 5 + 2, none⟩ = some (.string x.data)) (first | exact ⟨c1, c2⟩ | exact ⟨(T4.cell hmb).trans c1, (T4.cell hmb).trans c2⟩)
            (first | (go_at_call 12; (with_reducible refine (on_write (HC.out.drew.on) (by omega) x.at_ f1 x.data f2).mono ?_); rintro e w4 ⟨rfl, h4, O4, T4⟩))
          have C4 := Lib.hid ((HC.out.drew.turn O4 T4))
          clear O4 T4
          go_wp2_with fail
          go_roundw
          case rel => exact ⟨k + 1, _, _, by omega, by go_num, HQ.out.write _ _, C4.out⟩
          case measure => simp [intOf]; omega
        · have hkind' : ¬ x.kind = 0 := hkind
          go_wp2_with fail
          go_roundw
          case rel => exact ⟨k + 1, _, _, by omega, by go_num, hcalm, C.mono (Nat.le_succ k)⟩
          case measure => simp [intOf]; omega
      · obtain rfl : k = len := by omega
        have hf := fun i (hi : i < 6) => hcalm.read hi
        have C5 := Lib.hid (C.grown ((Below.refl wr.heap.size wr).alloc (Nat.le_refl _) (.cells (wasA (fun i => lstr (t.seen i)) 0) 56)))
        have W5 := Lib.hid (show Was p h wr.heap.size (fun i => lstr (t.seen i)) 0 (wr.alloc (.cells (wasA (fun i => lstr (t.seen i)) 0) 56)) from ⟨C.on.mine_new (Nat.le_refl _) (by simp), heap_alloc_new _ _⟩)
        have hBB := C.len
        have HQ := Lib.hid hcalm
        have hroom := C.on.room
        clear C hcalm
        have hz : (#[.string ⟨#[]⟩, .string ⟨#[]⟩, .string ⟨#[]⟩, .string ⟨#[]⟩, .string ⟨#[]⟩, .string ⟨#[]⟩] : Array Value) = wasA (fun i => lstr (t.seen i)) 0 := rfl
        go_wp2_with fail
        try rw [hz]
        clear hz
        generalize World.alloc wr _ = w5 at C5 W5 ⊢
        generalize wr.heap.size = B at C5 W5 hBB ⊢
        go_loopw [11] (fun i wr => ∃ j : Nat, j ≤ 6 ∧ i = .int .i64 j ∧ Ctx w.heap.size w p h t k wr ∧ Was p h B (fun i => lstr (t.seen i)) j wr) (fun i _ => 6 - (intOf i).toNat)
        case atStart => exact ⟨0, by omega, rfl, C5.out, W5.out⟩
        case round =>
          obtain ⟨j, hj, rfl, C, W⟩ := hrel
          by_cases hj6 : j < 6
          · have hj6' : (j : Int) < 6 := by omega
            obtain ⟨hS, hR⟩ := hf j hj6
            go_wp2_with fail
            refine (on_read C.on (by omega) (j : Int) (WalkArith.wf_i64 (by omega))).mono ?_
            rintro e w6 ⟨rfl, O6, B6⟩
            rw [hS, hR]
            have W6 := W.grown B6
            have cB := W6.cell hj6
            rw [if_neg (by omega)] at cB
            have fB := W6.free j
            have C7 := Lib.hid ((C.grown B6).setCell hBB W6.mine j (.string (lstr (t.seen j))))
            have W7 := Lib.hid (W6.set hj6)
            clear C W B6 O6 W6 hS hR
            dsimp only
            go_wp2_with fail
            go_roundw
            case rel => exact ⟨j + 1, by omega, by go_num, C7.out, W7.out⟩
            case measure => simp [intOf]; omega
          · obtain rfl : j = 6 := by omega
            rw [show ((6 : Nat) : Int) = 6 from rfl]
            go_wp2_with fail
            refine (on_waiting C.on).mono ?_
            rintro e w6 ⟨rfl, rfl⟩
            dsimp only
            go_wp2_with fail
            refine (on_write C.on (by omega) at_ hat d hd).mono ?_
            rintro e w7 ⟨rfl, h7, O7, T7⟩
            obtain ⟨e1, e2⟩ := calm_write HQ.out.down HQ.out.cut hg2 (by rw [HQ.out.size]; omega) hg4
            rw [e2]
            rw [e1] at O7
            have C7 := Lib.hid (C.turn O7 T7)
            have W7 := Lib.hid (W.turn T7)
            clear C W O7 T7 e1 e2
            dsimp only
            go_wp2_with fail
            refine (on_waiting C7.out.on).mono ?_
            rintro e w7' ⟨rfl, rfl⟩
            have ew : (((t.put at_ (pad d)).waiting : Nat) : Int) = (t.waiting : Int) + 1 := by show ((t.waiting + 1 : Nat) : Int) = _; push_cast; rfl
            rw [ew]
            have hw0 : (t.waiting : Int) ≤ 200 := by omega
            dsimp only
            go_wp2_with fail
            have Q7 := Lib.hid (HQ.out.put at_ (pad_length d hg4))
            have hs7 : Hid (∀ i : Nat, i < 6 → (t.put at_ (pad d)).seen i = if (i : Int) = at_ then pad d else t.seen i) := fun i hi => rfl
            generalize t.put at_ (pad d) = t7 at C7 Q7 hs7
            go_loopw [13] (fun i wr => ∃ (m : Nat) (h : Hd) (t' : St), m ≤ 2 ∧ i = .int .i64 m ∧ Calm t' ∧ (∀ i : Nat, i < 6 → t'.seen i = if (i : Int) = at_ then pad d else t.seen i) ∧ Ctx w.heap.size w p h t' (k + 1) wr ∧ Was p h B (fun i => lstr (t.seen i)) 6 wr) (fun i _ => 2 - (intOf i).toNat)
            case atStart => exact ⟨0, _, _, by omega, rfl, Q7.out, hs7.out, C7.out, W7.out⟩
            case round =>
              obtain ⟨m, h8, t8, hm, rfl, hc8, hs8, C8, W8⟩ := hrel
              by_cases hm2 : m < 2
              · have hm2' : (m : Int) < 2 := by omega
                have HC8 := Lib.hid C8
                have HW8 := Lib.hid W8
                have HQ8 := Lib.hid hc8
                have HS8 := Lib.hid hs8
                clear C8 W8 hc8 hs8
                go_wp2_with fail
                go_loopw [14] (fun i wr => ∃ (j : Nat), j ≤ 6 ∧ i = .int .i64 j ∧ Ctx w.heap.size w p h8 t8 (k + 1) wr ∧ Was p h8 B (fun i => lstr (t.seen i)) 6 wr) (fun i _ => 6 - (intOf i).toNat)
                case atStart => exact ⟨0, by omega, rfl, HC8.out, HW8.out⟩
                case round =>
                  obtain ⟨j, hj, rfl, C, W⟩ := hrel
                  by_cases hj6 : j < 6
                  · have hj6' : (j : Int) < 6 := by omega
                    have hj0 : (0 : Int) ≤ (j : Int) := by omega
                    obtain ⟨hS, hR⟩ := HQ8.out.read hj6
                    have hlen8 := HQ8.out.lens j
                    rw [HS8.out j hj6] at hS hlen8
                    have cB := W.cell hj6
                    rw [if_pos hj6] at cB
                    go_wp2_with fail
                    refine (on_read C.on (by omega) (j : Int) (WalkArith.wf_i64 (by omega))).mono ?_
                    rintro e w9 ⟨rfl, O9, B9⟩
                    have C9 := Lib.hid (C.grown B9)
                    have W9 := Lib.hid (W.grown B9)
                    have cB9 : w9.cell? ⟨B, j, none⟩ = some (.string (lstr (t.seen j))) := (B9.cell (p := ⟨B, j, none⟩) W.mine.1).trans cB
                    rw [hS, hR]
                    clear hS hR C W B9 O9 cB
                    by_cases hja : (j : Int) = at_
                    · have hex := lstr_take d hg4
                      rw [if_pos hja] at hlen8 ⊢
                      have hsz : (lstr (pad d)).size = 32 := hlen8
                      generalize lstr (pad d) = S at hex hsz ⊢
                      dsimp only
                      clear hlen8
                      go_wp2_with fail
                      refine ⟨⟨j + 1, by omega, by rw [← hja]; push_cast; rfl, C9.out, W9.out⟩, ?_⟩
                      simp [intOf]; omega
                    · rw [if_neg hja] at hlen8 ⊢
                      have hsz : (lstr (t.seen j)).size = 32 := hlen8
                      generalize lstr (t.seen j) = S at cB9 hsz ⊢
                      clear hlen8
                      dsimp only
                      go_wp2_with fail
                      go_roundw
                      case rel => exact ⟨j + 1, by omega, by go_num, C9.out, W9.out⟩
                      case measure => simp [intOf]; omega
                  · obtain rfl : j = 6 := by omega
                    go_wp2_with fail
                    refine (on_flush C.on (by omega)).mono ?_
                    rintro e w9 ⟨rfl, h9, O9, T9⟩
                    obtain ⟨e1, e2⟩ := calm_flush HQ8.out.down HQ8.out.cut
                    rw [e2]
                    rw [e1] at O9
                    have C9 := Lib.hid (C.turn O9 T9)
                    have W9 := Lib.hid (W.turn T9)
                    clear C W O9 T9 e1 e2
                    dsimp only
                    go_wp2_with fail
                    refine (on_waiting C9.out.on).mono ?_
                    rintro e w9' ⟨rfl, rfl⟩
                    rw [show ((t8.sync.waiting : Nat) : Int) = 0 from rfl]
                    dsimp only
                    go_wp2_with fail
                    go_roundw
                    case rel => exact ⟨m + 1, _, _, by omega, by go_num, HQ8.out.sync, HS8.out, C9.out, W9.out⟩
                    case measure => simp [intOf]; omega
              · obtain rfl : m = 2 := by omega
                have hb := C8.below
                go_wp2_with fail
                go_ret
                exact ⟨rfl, hb⟩
  · have fin : ∀ b, few l = b → (b = false ∨ at_ < 0 ∨ 5 < at_ ∨ 32 < d.size) := fun b hb => by
      by_cases h1 : few l = true
      · by_cases h2 : at_ < 0
        · exact .inr (.inl h2)
        · by_cases h3 : 5 < at_
          · exact .inr (.inr (.inl h3))
          · exact .inr (.inr (.inr (by
              by_cases h4 : d.size ≤ 32
              · exact absurd ⟨h1, by omega, by omega, h4⟩ hg
              · omega)))
      · exact .inl (by rw [← hb]; simpa using h1)
    have hb1 := Lib.hid b1
    clear hg
    generalize few l = b at fin ⊢
    have fin := fin b rfl
    cases b
    · dsimp only
      go_wp2_with fail
      go_ret
      exact ⟨rfl, hb1.out⟩
    · by_cases h2 : at_ < 0
      · dsimp only
        go_wp2_with fail
        go_ret
        exact ⟨rfl, hb1.out⟩
      · by_cases h3 : 5 < at_
        · dsimp only
          go_wp2_with fail
          go_ret
          exact ⟨rfl, hb1.out⟩
        · have h4 : (32 : Int) < (d.size : Int) := by
            rcases fin with h | h | h | h
            · cases h
            · exact absurd h h2
            · exact absurd h h3
            · omega
          dsimp only
          go_wp2_with fail
          go_ret
          exact ⟨rfl, hb1.out⟩
end Go.Proofs.Ytdgbfkedgedogaa
