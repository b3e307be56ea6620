/- chunk.Fill, walked. -/
import Derived.Test.YtnapjloapgfcfaaDoorFillA
namespace Go.Proofs.YtnapjloapgfcfaaDoor
set_option maxRecDepth 100000
open Go.RowKit Go.Shelf Sha
attribute [local go_sem] Oper.semAt_some

set_option maxHeartbeats 4000000 in
theorem fill_ok (na : Option Addr) (ln cn : Nat) (names : List ByteArray) (m : Nat) (w : World) (gk : Nat) (lb : Array Value) (G : ByteArray → Option ByteArray) (hN : Strs na ln names w) (hG : Looks gk lb G w) (eg : ∀ args w, (callFunc gk args).run Tryd.prog w = .ok (.enter gk args) w)
    (hm : m ≤ 4096) (hln : ln = (m + 15) / 16) (pk : Nat → Option (List UInt8)) (R : List UInt8 × Int) (hR : FillSpec ln (m : Int) pk R)
    (hp0 : ∀ k, k < ln → (names.getD k ByteArray.empty).size = 0 → pk k = some (List.replicate (place m k) 0)) (hp1 : ∀ k, k < ln → 0 < (names.getD k ByteArray.empty).size → pk k = (G (names.getD k ByteArray.empty)).map fun c => c.data.toList) (hsz : ∀ k, k < ln → ∀ c, G (names.getD k ByteArray.empty) = some c → c.size ≤ 1000000) (hnm : ∀ k, k < ln → (names.getD k ByteArray.empty).size ≤ 140737488355328) :
    Calls Tryd.prog 23 #[.slice na ln cn, .int .i64 (m : Int), .func (.func gk) #[] lb] w (Both R w) := by
  have hmi : (m : Int) ≤ 4096 := by omega
  have hcount := fun w' => count_any m w' (by omega)
  rw [← hln] at hcount
  have hcq : ∀ w', Calls Tryd.prog 31 #[.int .i64 (m : Int)] w' fun e w2 => e = .returned (.int .i64 (ln : Int)) ∧ w2 = w' := fun w' => (hcount w').mono (fun e w2 h => ⟨h.1, h.2.symm⟩)
  have hnil : ∀ w', (binOp .eql 42 (.func (.func gk) #[] lb) .nilFunc).run Tryd.prog w' = .ok (.bool false) w' := fun _ => rfl
  have d0 : decide ((m : Int) < 0) = false := by simp
  have d1 : decide (4096 < (m : Int)) = false := by simp; omega
  have hplaces := fun w' => places_any (m : Int) w'
  have hmk := run_make8 m (by omega)
  have hmx : Tryd.prog.follows .mixedOrders = true := by kernel_rfl
  have hok : ¬ ((m : Int) < 0 ∨ 4096 < (m : Int) ∨ (ln : Int) ≠ ((m : Int) + 15) / 16) := by omega
  have HR := Lib.hid hR
  have HOK := Lib.hid hok
  have HLN := Lib.hid hln
  clear hln hR hok
  refine (callsIn_wide (n := 6)).1 ?_
  refine callsIn_of_wp_marks Tryd.func23 rfl trivial ?_ rfl
  simp only [Tryd.ntmps23, List.size_toArray, List.length_cons, List.length_nil, Nat.reduceAdd, Nat.reduceSub, Array.replicate_succ, Array.replicate_zero, List.push_toArray, List.append_toArray, List.nil_append, List.cons_append]
  gi_wp2
  refine wpIn_wide.2 ?_
  go_quiet (first | (go_at_call 31; exact Calls.quiet_of_same (hcq _)))
  gi_wp2_with (refine ⟨trivial, ?_⟩; gi_at_call 32; refine (callsIn_wide.2 (hplaces _)).mono ?_; rintro e w' ⟨rfl, rfl⟩)
  have hF0 : Fst na ln cn gk m lb pk w [] (((((((((w.alloc (.cells #[.slice na ln cn] 35)).alloc (.cells #[.func (.func gk) #[] lb] 42)).alloc (.cells #[.string ⟨#[]⟩] 9)).alloc (.cells #[.int .i64 0] 23)).drewN nq).alloc (.cells (madeCells #[.int .u8 0] m) 5)).alloc (.cells #[.slice (some ⟨w.heap.size + 1 + 1 + 1 + 1, 0, none⟩) m m] 48)).alloc (.cells #[.int .i64 0] 23)).alloc (.cells #[.int .i64 (m : Int)] 3)) := by
    have b0 := Boxed.new w 35 (.slice na ln cn)
    have b1 := Boxed.new (w.alloc (.cells #[.slice na ln cn] 35)) 42 (.func (.func gk) #[] lb)
    have b2 := Boxed.new ((w.alloc (.cells #[.slice na ln cn] 35)).alloc (.cells #[.func (.func gk) #[] lb] 42)) 9 (.string ⟨#[]⟩)
    have b3 := Boxed.new (((w.alloc (.cells #[.slice na ln cn] 35)).alloc (.cells #[.func (.func gk) #[] lb] 42)).alloc (.cells #[.string ⟨#[]⟩] 9)) 23 (.int .i64 0)
    have hB3 : Below w.heap.size w ((((w.alloc (.cells #[.slice na ln cn] 35)).alloc (.cells #[.func (.func gk) #[] lb] 42)).alloc (.cells #[.string ⟨#[]⟩] 9)).alloc (.cells #[.int .i64 0] 23)) := ((((Below.refl _ w).alloc (Nat.le_refl _) _).alloc (by simp) _).alloc (by simp; omega) _).alloc (by simp; omega) _
    rw [World.size_alloc] at b1
    rw [World.size_alloc, World.size_alloc] at b2
    rw [World.size_alloc, World.size_alloc, World.size_alloc] at b3
    have b0 := ((b0.alloc (.cells #[.func (.func gk) #[] lb] 42)).alloc (.cells #[.string ⟨#[]⟩] 9)).alloc (.cells #[.int .i64 0] 23)
    have b1 := (b1.alloc (.cells #[.string ⟨#[]⟩] 9)).alloc (.cells #[.int .i64 0] 23)
    have b2 := b2.alloc (.cells #[.int .i64 0] 23)
    have hs3 : ((((w.alloc (.cells #[.slice na ln cn] 35)).alloc (.cells #[.func (.func gk) #[] lb] 42)).alloc (.cells #[.string ⟨#[]⟩] 9)).alloc (.cells #[.int .i64 0] 23)).heap.size = w.heap.size + 1 + 1 + 1 + 1 := by simp
    generalize ((((w.alloc (.cells #[.slice na ln cn] 35)).alloc (.cells #[.func (.func gk) #[] lb] 42)).alloc (.cells #[.string ⟨#[]⟩] 9)).alloc (.cells #[.int .i64 0] 23)) = w3 at b0 b1 b2 b3 hB3 hs3 ⊢
    have hB3' : Below w.heap.size w (w3.drewN nq) := hB3.trans ⟨rfl, rfl, rfl, Nat.le_refl _, fun _ _ => rfl⟩
    have hs3' : (w3.drewN nq).heap.size = w.heap.size + 1 + 1 + 1 + 1 := hs3
    have b0 : Boxed (w3.drewN nq) _ _ _ := b0
    have b1 : Boxed (w3.drewN nq) _ _ _ := b1
    have b2 : Boxed (w3.drewN nq) _ _ _ := b2
    have b3 : Boxed (w3.drewN nq) _ _ _ := b3
    generalize w3.drewN nq = w4 at b0 b1 b2 b3 hB3' hs3' ⊢
    clear hB3 hs3
    have b4 := bfile_new m w4
    have b5 := Boxed.new (w4.alloc (.cells (madeCells #[.int .u8 0] m) 5)) 48 (.slice (some ⟨w.heap.size + 1 + 1 + 1 + 1, 0, none⟩) m m)
    have b6 := Boxed.new ((w4.alloc (.cells (madeCells #[.int .u8 0] m) 5)).alloc (.cells #[.slice (some ⟨w.heap.size + 1 + 1 + 1 + 1, 0, none⟩) m m] 48)) 23 (.int .i64 0)
    have b7 := Boxed.new (((w4.alloc (.cells (madeCells #[.int .u8 0] m) 5)).alloc (.cells #[.slice (some ⟨w.heap.size + 1 + 1 + 1 + 1, 0, none⟩) m m] 48)).alloc (.cells #[.int .i64 0] 23)) 3 (.int .i64 (m : Int))
    rw [hs3'] at b4
    rw [World.size_alloc, hs3'] at b5
    rw [World.size_alloc, World.size_alloc, hs3'] at b6
    rw [World.size_alloc, World.size_alloc, World.size_alloc, hs3'] at b7
    have ab : ∀ {g : Nat} {l : List UInt8} {W : World} (o : Obj), Bfile g l W → Bfile g l (W.alloc o) := fun o h => h.below ((Below.refl _ _).alloc (Nat.le_refl _) _)
    exact ⟨(((b0.alloc _).alloc _).alloc _).alloc _, (((b1.alloc _).alloc _).alloc _).alloc _, (((b2.alloc _).alloc _).alloc _).alloc _, (((b3.alloc _).alloc _).alloc _).alloc _, ⟨_, ab _ (ab _ (ab _ b4)), bytes_nil m pk⟩, (b5.alloc _).alloc _, b6.alloc _, b7, (fun x hx => by cases hx),
      (((hB3'.alloc (by omega) _).alloc (by simp; omega) _).alloc (by simp; omega) _).alloc (by simp; omega) _⟩
  have hsz0 : (((((((((w.alloc (.cells #[.slice na ln cn] 35)).alloc (.cells #[.func (.func gk) #[] lb] 42)).alloc (.cells #[.string ⟨#[]⟩] 9)).alloc (.cells #[.int .i64 0] 23)).drewN nq).alloc (.cells (madeCells #[.int .u8 0] m) 5)).alloc (.cells #[.slice (some ⟨w.heap.size + 1 + 1 + 1 + 1, 0, none⟩) m m] 48)).alloc (.cells #[.int .i64 0] 23)).alloc (.cells #[.int .i64 (m : Int)] 3)).heap.size = w.heap.size + 8 := by simp
  generalize hW0 : (((((((((w.alloc (.cells #[.slice na ln cn] 35)).alloc (.cells #[.func (.func gk) #[] lb] 42)).alloc (.cells #[.string ⟨#[]⟩] 9)).alloc (.cells #[.int .i64 0] 23)).drewN nq).alloc (.cells (madeCells #[.int .u8 0] m) 5)).alloc (.cells #[.slice (some ⟨w.heap.size + 1 + 1 + 1 + 1, 0, none⟩) m m] 48)).alloc (.cells #[.int .i64 0] 23)).alloc (.cells #[.int .i64 (m : Int)] 3)) = W0 at hF0 hsz0 ⊢
  clear hW0
  refine wpIn_rangeFunc_ownG rfl (by omega) (gf := 38) (lb := #[.pointer (some ⟨w.heap.size + 1 + 1 + 1 + 1 + 1 + 1 + 1, 0, none⟩)]) rfl trivial (enters_of Tryd.func38 (by kernel_rfl) rfl)
    (goes_stops Fence.wide (6 - 1) trivial rfl (by omega) (w.heap.size + 1 + 1 + 1 + 1 + 1 + 1 + 1) m (by omega) W0 (by omega) hF0.num.cell) keepC_t (keepC_b (w := W0)) (Below.refl _ _) (fun _ => rfl)
    (Fst na ln cn gk m lb pk w) (Fex m pk w)
    (fst_own na ln cn gk m lb pk w _ (by omega)) (fex_own m pk w _ (by omega))
    hF0
    (fun x => { tmps := #[.slice na ln cn, .int .i64 (m : Int), .func (.func gk) #[] lb, .pointer (some ⟨w.heap.size, 0, none⟩), undef, .pointer (some ⟨w.heap.size + 1, 0, none⟩), .pointer (some ⟨w.heap.size + 1 + 1, 0, none⟩), .pointer (some ⟨w.heap.size + 1 + 1 + 1, 0, none⟩), .pointer (some ⟨w.heap.size + 1 + 1 + 1 + 1 + 1, 0, none⟩), .pointer (some ⟨w.heap.size + 1 + 1 + 1 + 1 + 1 + 1, 0, none⟩), .int .i64 (16 * (x.1 : Int)), .int .i64 ((upto m x.1 : Nat) : Int), undef, undef, undef, .int .i64 (m : Int), .bool false, .bool false, .int .i64 (m : Int), .bool false, .bool false, .bool false, .slice na ln cn, .int .i64 (ln : Int), .int .i64 (m : Int), .int .i64 (ln : Int), .bool false, .bool false, .func (.func gk) #[] lb, .bool false, .int .i64 (m : Int), .slice (some ⟨w.heap.size + 1 + 1 + 1 + 1, 0, none⟩) m m, .int .i64 (m : Int), .func (.func 38) #[] #[.pointer (some ⟨w.heap.size + 1 + 1 + 1 + 1 + 1 + 1 + 1, 0, none⟩)], .int .i64 (16 * (x.1 : Int)), .int .i64 ((upto m x.1 : Nat) : Int), undef, undef, undef, undef, undef, undef, undef, undef, undef, undef, undef, undef, undef, undef, undef, undef, undef, undef, undef, undef, undef, undef, undef, undef, undef, undef, undef, undef, undef, undef, undef, undef], defers := [] }) ?assign ?body ?done ?stop
  case assign =>
    intro l x W K hk
    unfold plEnc
    gi_wp2
    exact hk
  case body =>
    rintro l pre ⟨x, hx⟩ W hF hlen
    dsimp only
    have hxl : x < ln := by rw [HLN.out]; omega
    obtain ⟨b, off, rfl, hc⟩ := (hN.below hF.below).cell x hxl
    have hxi : (x : Int) < (ln : Int) := by omega
    have hq : (16 * (x : Int)).tdiv 16 = (x : Int) := Int.mul_tdiv_cancel_left _ (by decide)
    have hpu : upto m x - 16 * x = place m x := by unfold upto place; omega
    have hxu : 16 * x ≤ upto m x := by unfold upto; omega
    have hum : upto m x ≤ m := by unfold upto; omega
    have hxm : 16 * (x : Int) < (m : Int) := by omega
    have hxu' : 16 * (x : Int) ≤ ((upto m x : Nat) : Int) := by omega
    have hum' : ((upto m x : Nat) : Int) ≤ (m : Int) := by omega
    have p0 := hp0 x hxl
    have p1 := hp1 x hxl
    have ps := hsz x hxl
    have pn := hnm x hxl
    generalize names.getD x ByteArray.empty = y at hc p0 p1 ps pn
    have hcn := hF.names.cell
    have hcg := hF.get.cell
    have hc1 := hF.r1.cell
    have hf1 := hF.r1.frozen
    have hc2 := hF.r2.cell
    have hf2 := hF.r2.frozen
    have hc5 := hF.file.cell
    have hc6 := hF.flag.cell
    have hf6 := hF.flag.frozen
    have HGY := Lib.hid (hG y W pn hF.below)
    have HF := Lib.hid hF
    clear hF hlen
    generalize hu : upto m x = u at hpu hxu hum hxu' hum' ⊢
    by_cases hy : y.size = 0
    · have hye : y.toList.isEmpty = true := str_isEmpty0 hy
      have HP := Lib.hid (p0 hy)
      clear p0 p1 ps hy
      gi_wp2
      exact ⟨KeepsFrom.refl _ _, fun _ e => e, fst_zero HF.out ⟨x, hx⟩ HP.out⟩
    · have hye : y.toList.isEmpty = false := str_isEmpty (by omega)
      have hp := p1 (by omega)
      clear p0 p1 hy
      cases hGy : G y with
      | none =>
        rw [hGy] at HGY hp
        have HP := Lib.hid (show pk x = none from hp)
        clear hp ps
        gi_wp2_with (refine ⟨trivial, ?_⟩; refine (CallsIn.inRound l (callsIn_wide.2 HGY.out)).mono ?_; rintro e w1 ⟨rfl, rfl⟩; dsimp only [Option.getD, Option.isSome])
        have q1 := HF.out.r1.set (.string ⟨#[]⟩)
        have q2 := (HF.out.r2.kept (grownBy_setCell' W (w.heap.size + 1 + 1) (.string ⟨#[]⟩)) (by simp)).set (.int .i64 4)
        exact ⟨((KeepsOthers.setCell _ _ _).trans (KeepsOthers.setCell _ _ _)).from _, rfl, ⟨⟨x, hx⟩, by simp, HP.out⟩, q1.kept (grownBy_setCell' _ _ _) (by simp), q2, (HF.out.below.setCell (p := ⟨w.heap.size + 1 + 1, 0, none⟩) (by show w.heap.size ≤ w.heap.size + 1 + 1; omega) _).setCell (p := ⟨w.heap.size + 1 + 1 + 1, 0, none⟩) (by show w.heap.size ≤ w.heap.size + 1 + 1 + 1; omega) _⟩
      | some c =>
        rw [hGy] at HGY hp
        have HP := Lib.hid (show pk x = some c.data.toList from hp)
        have hcs := ps c hGy
        clear hp ps
        have hcl : c.data.toList.length = c.size := Array.length_toList
        have hcpi : ((place m x : Nat) : Int) = (u : Int) - 16 * (x : Int) := by omega
        by_cases hlen : c.size = place m x
        · have hlen' : (c.size : Int) = (u : Int) - 16 * (x : Int) := by omega
          obtain ⟨W2, hcp, hkf, hkc, hf2⟩ := fst_step (W1 := W) HF.out ⟨x, hx⟩ HP.out ⟨rfl, rfl, rfl, Nat.le_refl _, fun _ _ _ => rfl⟩ (KeepsOthers.refl _) (by rw [flag_right ⟨x, hx⟩ HP.out (by rw [hcl]; exact hlen)]; exact HF.out.flag) (w.heap.size + 8)
          have HF2 := Lib.hid hf2
          have HKF := Lib.hid hkf
          have HKC := Lib.hid hkc
          clear hf2 hkf hkc
          gi_wp2_with (refine ⟨trivial, ?_⟩; refine (CallsIn.inRound l (callsIn_wide.2 HGY.out)).mono ?_; rintro e w1 ⟨rfl, rfl⟩; dsimp only [Option.getD, Option.isSome])
          exact ⟨HKF.out, HKC.out, HF2.out⟩
        · have hlen' : ¬ (c.size : Int) = (u : Int) - 16 * (x : Int) := by omega
          have hlb : ((c.size : Int) != (u : Int) - 16 * (x : Int)) = true := by rw [bne_iff_ne]; exact hlen'
          have hg6 := grownBy_setCell' W (w.heap.size + 1 + 1 + 1 + 1 + 1 + 1) (.int .i64 2)
          have hfl6 := HF.out.flag.set (.int .i64 2)
          obtain ⟨W2, hcp, hkf, hkc, hf2⟩ := fst_step (W1 := W.setCell ⟨w.heap.size + 1 + 1 + 1 + 1 + 1 + 1, 0, none⟩ (.int .i64 2)) HF.out ⟨x, hx⟩ HP.out hg6 (KeepsOthers.setCell _ _ _) (by rw [flag_wrong (pre := pre) ⟨x, hx⟩ HP.out (by rw [hcl]; exact hlen)]; exact hfl6) (w.heap.size + 8)
          have hc5 : (W.setCell ⟨w.heap.size + 1 + 1 + 1 + 1 + 1 + 1, 0, none⟩ (.int .i64 2)).cell? ⟨w.heap.size + 1 + 1 + 1 + 1 + 1, 0, none⟩ = some (.slice (some ⟨w.heap.size + 1 + 1 + 1 + 1, 0, none⟩) m m) := (HF.out.file.kept hg6 (by simp)).cell
          have HF2 := Lib.hid hf2
          have HKF := Lib.hid hkf
          have HKC := Lib.hid hkc
          clear hf2 hkf hkc hg6 hfl6 hcl hcpi
          gi_wp2_with (refine ⟨trivial, ?_⟩; refine (CallsIn.inRound l (callsIn_wide.2 HGY.out)).mono ?_; rintro e w1 ⟨rfl, rfl⟩; dsimp only [Option.getD, Option.isSome])
          exact ⟨HKF.out, HKC.out, HF2.out⟩
  case done =>
    rintro D ys W hD hys hF hk
    have hin : ∀ i, i < ln → ∃ y ∈ ys, y.1 = i := fun i hi => by
      have h : i ∈ ys.map (·.1) := by rw [show ys.map (·.1) = _ from hys, List.mem_range, ← HLN.out]; exact hi
      exact List.mem_map.1 h
    have hall : ∀ i, i < ln → (pk i).isSome = true := fun i hi => by obtain ⟨y, hy, rfl⟩ := hin i hi; exact hF.known y hy
    have hc5 := hF.file.cell
    have hc6 := hF.flag.cell
    have hc1 := hF.r1.cell
    have hf1 := hF.r1.frozen
    have hc2 := hF.r2.cell
    have hf2 := hF.r2.frozen
    obtain ⟨l, hl, hlb⟩ := hF.bytes
    by_cases hr : rt pk ys = true
    · have hlens : ∀ i, i < ln → ((pk i).getD []).length = place m i := fun i hi => by
        obtain ⟨y, hy, rfl⟩ := hin i hi
        have := List.all_eq_true.1 hr y hy
        simpa using this
      have HRW := Lib.hid (HR.out.whole m rfl HOK.out hall hlens)
      have HLW := Lib.hid (bytes_all hlb hys hr (by rw [← HLN.out]; exact hlens))
      rw [← HLN.out] at HLW
      have hcv := hl.text m hlb.1.symm m
      rw [show flagOf pk ys = 0 from by unfold flagOf; rw [if_pos hr]] at hc6
      have HF := Lib.hid hF
      clear hF hlb hl hall hin hlens
      gi_wp2
      have q1 : Boxed ((W.setCell ⟨w.heap.size + 1 + 1, 0, none⟩ (.string (lstr l))).setCell ⟨w.heap.size + 1 + 1 + 1, 0, none⟩ (.int .i64 0)) (w.heap.size + 1 + 1) 9 (.string (lstr l)) := (HF.out.r1.set _).kept (grownBy_setCell' _ _ _) (by simp)
      have q2 : Boxed ((W.setCell ⟨w.heap.size + 1 + 1, 0, none⟩ (.string (lstr l))).setCell ⟨w.heap.size + 1 + 1 + 1, 0, none⟩ (.int .i64 0)) (w.heap.size + 1 + 1 + 1) 23 (.int .i64 0) := (HF.out.r2.kept (grownBy_setCell' W (w.heap.size + 1 + 1) (.string (lstr l))) (by simp)).set _
      have hB5 : Below w.heap.size w ((W.setCell ⟨w.heap.size + 1 + 1, 0, none⟩ (.string (lstr l))).setCell ⟨w.heap.size + 1 + 1 + 1, 0, none⟩ (.int .i64 0)) := (HF.out.below.setCell (p := ⟨w.heap.size + 1 + 1, 0, none⟩) (by show w.heap.size ≤ w.heap.size + 1 + 1; omega) _).setCell (p := ⟨w.heap.size + 1 + 1 + 1, 0, none⟩) (by show w.heap.size ≤ w.heap.size + 1 + 1 + 1; omega) _
      have hk5 : ((W.setCell ⟨w.heap.size + 1 + 1, 0, none⟩ (.string (lstr l))).setCell ⟨w.heap.size + 1 + 1 + 1, 0, none⟩ (.int .i64 0)).heap[D]? = some (.deferred (some [])) := ((KeepsOthers.setCell W ⟨w.heap.size + 1 + 1, 0, none⟩ (.string (lstr l))).trans (KeepsOthers.setCell _ ⟨w.heap.size + 1 + 1 + 1, 0, none⟩ (.int .i64 0))).same D _ hk rfl
      generalize (W.setCell ⟨w.heap.size + 1 + 1, 0, none⟩ (.string (lstr l))).setCell ⟨w.heap.size + 1 + 1 + 1, 0, none⟩ (.int .i64 0) = W5 at q1 q2 hB5 hk5 ⊢
      refine ⟨by simp, .inl ⟨_, _, rfl, run_takeDeferred hk5, ?_⟩⟩
      have c1 := cell_kept q1.cell (grownBy_putObj' _ D (.deferred none)) (fun r e => by cases e; exact ⟨_, hk5, rfl⟩)
      have c2 := cell_kept q2.cell (grownBy_putObj' _ D (.deferred none)) (fun r e => by cases e; exact ⟨_, hk5, rfl⟩)
      refine ⟨.tuple #[.string (lstr l), .int .i64 0], ?_, ?_⟩
      · simp [results, Tryd.results23, go_sem, c1, c2, lstr_nil]
      · show Both R w _ _
        rw [HRW.out, ← HLW.out]
        exact ⟨rfl, hB5.trans (belowK_b (w := w) (Nat.le_refl _) _ D _ _ (by omega) hk5 rfl rfl)⟩
    · have hwr : ∃ y ∈ ys, ¬ ((pk y.1).getD []).length = place m y.1 := by
        have h := (Bool.not_eq_true _ ▸ hr : rt pk ys = false)
        unfold rt at h
        rw [List.all_eq_false] at h
        obtain ⟨y, hy, h⟩ := h
        exact ⟨y, hy, by simpa using h⟩
      obtain ⟨y, hy, hyl⟩ := hwr
      have HRW := Lib.hid (HR.out.form m rfl HOK.out hall y.1 (by have := y.2; rw [HLN.out]; omega) hyl)
      rw [show flagOf pk ys = 2 from by unfold flagOf; rw [if_neg hr]] at hc6
      have HF := Lib.hid hF
      clear hF hlb hl hall hin hr hy hyl
      gi_wp2
      gi_region_with_o (fail)
      all_goals gi_wp2
      all_goals
        have q1 : Boxed ((W.setCell ⟨w.heap.size + 1 + 1, 0, none⟩ (.string ⟨#[]⟩)).setCell ⟨w.heap.size + 1 + 1 + 1, 0, none⟩ (.int .i64 2)) (w.heap.size + 1 + 1) 9 (.string ⟨#[]⟩) := (HF.out.r1.set _).kept (grownBy_setCell' _ _ _) (by simp)
        have q2 : Boxed ((W.setCell ⟨w.heap.size + 1 + 1, 0, none⟩ (.string ⟨#[]⟩)).setCell ⟨w.heap.size + 1 + 1 + 1, 0, none⟩ (.int .i64 2)) (w.heap.size + 1 + 1 + 1) 23 (.int .i64 2) := (HF.out.r2.kept (grownBy_setCell' W (w.heap.size + 1 + 1) (.string ⟨#[]⟩)) (by simp)).set _
        have hB5 : Below w.heap.size w ((W.setCell ⟨w.heap.size + 1 + 1, 0, none⟩ (.string ⟨#[]⟩)).setCell ⟨w.heap.size + 1 + 1 + 1, 0, none⟩ (.int .i64 2)) := (HF.out.below.setCell (p := ⟨w.heap.size + 1 + 1, 0, none⟩) (by show w.heap.size ≤ w.heap.size + 1 + 1; omega) _).setCell (p := ⟨w.heap.size + 1 + 1 + 1, 0, none⟩) (by show w.heap.size ≤ w.heap.size + 1 + 1 + 1; omega) _
        have hk5 : ((W.setCell ⟨w.heap.size + 1 + 1, 0, none⟩ (.string ⟨#[]⟩)).setCell ⟨w.heap.size + 1 + 1 + 1, 0, none⟩ (.int .i64 2)).heap[D]? = some (.deferred (some [])) := ((KeepsOthers.setCell W ⟨w.heap.size + 1 + 1, 0, none⟩ (.string ⟨#[]⟩)).trans (KeepsOthers.setCell _ ⟨w.heap.size + 1 + 1 + 1, 0, none⟩ (.int .i64 2))).same D _ hk rfl
        have q1 : Boxed ((W.setCell ⟨w.heap.size + 1 + 1, 0, none⟩ (.string ⟨#[]⟩)).setCell ⟨w.heap.size + 1 + 1 + 1, 0, none⟩ (.int .i64 2)).drew _ _ _ := q1
        have q2 : Boxed ((W.setCell ⟨w.heap.size + 1 + 1, 0, none⟩ (.string ⟨#[]⟩)).setCell ⟨w.heap.size + 1 + 1 + 1, 0, none⟩ (.int .i64 2)).drew _ _ _ := q2
        have hB5 := hB5.drew
        have hk5 : ((W.setCell ⟨w.heap.size + 1 + 1, 0, none⟩ (.string ⟨#[]⟩)).setCell ⟨w.heap.size + 1 + 1 + 1, 0, none⟩ (.int .i64 2)).drew.heap[D]? = _ := hk5
        generalize ((W.setCell ⟨w.heap.size + 1 + 1, 0, none⟩ (.string ⟨#[]⟩)).setCell ⟨w.heap.size + 1 + 1 + 1, 0, none⟩ (.int .i64 2)).drew = W5 at q1 q2 hB5 hk5 ⊢
        refine ⟨by simp, .inl ⟨_, _, rfl, run_takeDeferred hk5, ?_⟩⟩
        have c1 := cell_kept q1.cell (grownBy_putObj' _ D (.deferred none)) (fun r e => by cases e; exact ⟨_, hk5, rfl⟩)
        have c2 := cell_kept q2.cell (grownBy_putObj' _ D (.deferred none)) (fun r e => by cases e; exact ⟨_, hk5, rfl⟩)
        refine ⟨.tuple #[.string (lstr []), .int .i64 2], ?_, ?_⟩
        · simp [results, Tryd.results23, go_sem, c1, c2, lstr_nil]
        · show Both R w _ _
          rw [HRW.out]
          exact ⟨rfl, hB5.trans (belowK_b (w := w) (Nat.le_refl _) _ D _ _ (by omega) hk5 rfl rfl)⟩
  case stop =>
    rintro D c pre W hD hpre ⟨rfl, ⟨y, hy, hlack⟩, h1, h2, hB⟩ hk
    have HRW := Lib.hid (HR.out.none m rfl HOK.out y.1 (by have := y.2; rw [HLN.out]; omega) hlack)
    have hc1 := h1.cell
    have hc2 := h2.cell
    gi_wp2
    refine ⟨by simp, .inl ⟨_, _, rfl, run_takeDeferred hk, ?_⟩⟩
    have c1 := cell_kept h1.cell (grownBy_putObj' _ D (.deferred none)) (fun r e => by cases e; exact ⟨_, hk, rfl⟩)
    have c2 := cell_kept h2.cell (grownBy_putObj' _ D (.deferred none)) (fun r e => by cases e; exact ⟨_, hk, rfl⟩)
    refine ⟨.tuple #[.string (lstr []), .int .i64 4], ?_, ?_⟩
    · simp [results, Tryd.results23, go_sem, c1, c2, lstr_nil]
    · show Both R w _ _
      rw [HRW.out]
      exact ⟨rfl, hB.trans (belowK_b (w := w) (Nat.le_refl _) _ D _ _ (by omega) hk rfl rfl)⟩
end Go.Proofs.YtnapjloapgfcfaaDoor
