/- BlockCounts walked. -/
import Derived.Test.YtdgbfkedgedogaaAwake
namespace Go.Proofs.Ytdgbfkedgedogaa
open Go.RowKit Go.Maps
structure Bools (a : Option Addr) (len : Nat) (l : List Bool) (w : World) : Prop where
  count : len = l.length
  cell : ∀ i, i < len → ∃ b off, a = some ⟨b, off, none⟩ ∧ w.cell? ⟨b, off + i, none⟩ = some (.bool (l.getD i false))
theorem Bools.below {a : Option Addr} {len : Nat} {l : List Bool} {w w' : World} (h : Bools a len l w) (hb : Below w.heap.size w w') : Bools a len l w' :=
  ⟨h.count, fun i hi => by
    obtain ⟨b, off, ha, hc⟩ := h.cell i hi
    exact ⟨b, off, ha, (hb.cell (p := ⟨b, _, none⟩) (block_lt_of_cell hc)).trans hc⟩⟩
theorem sem_rem2i (t : TypeId) (k : Nat) : binOp .rem t (.int .i64 (k : Int)) (.int .i64 2) = pure (.int .i64 ((k % 2 : Nat) : Int)) := by
  rw [binOp_rem]
  show (pure (Value.int .i64 ((k : Int).tmod 2)) : Sem Value) = _
  rw [Int.tmod_eq_emod_of_nonneg (by omega)]; rfl
theorem failing_size (t : St) : t.failing.size = t.size := by
  unfold St.failing St.crash St.drop
  split
  · rfl
  · split
    · split <;> rfl
    · rfl
theorem failing_down {t : St} (h : t.down = false) : t.failing.down = t.failed := by
  unfold St.failing St.failed St.crash St.drop
  by_cases h0 : t.cut = 0
  · rw [if_pos h0, h, h0]; rfl
  · rw [if_neg h0]
    by_cases h1 : t.cut = 1
    · rw [if_pos h1, h1]; simp [h]
    · rw [if_neg h1, decide_eq_false h1]; exact h
theorem failing_cut {t : St} (h : t.down = false) : t.failing.cut = if t.cut = 0 then 0 else t.cut - 1 := by
  unfold St.failing St.crash St.drop
  by_cases h0 : t.cut = 0
  · rw [if_pos h0, if_pos h0, h0]
  · rw [if_neg h0, if_neg h0]
    by_cases h1 : t.cut = 1
    · rw [if_pos h1, h1]; simp [h]
    · rw [if_neg h1]
theorem live_refusal {t : St} (h : t.down = false) {a : Int} (h0 : 0 ≤ a) (h1 : a < t.size) : t.refusal a = 0 := by
  unfold St.refusal; rw [h, if_neg (by simp), if_neg (by omega)]
/-- What an effect does to what is armed. -/
structure Eff (t t' : St) (e : Int) : Prop where
  err : e = if t.cut = 1 then 7 else 0
  down : t'.down = decide (t.cut = 1)
  size : t'.size = t.size
  cut : t'.cut = if t.cut = 0 then 0 else t.cut - 1
theorem live_write {t : St} (h : t.down = false) {a : Int} (h0 : 0 ≤ a) (h1 : a < t.size) {d : ByteArray} (hd : d.size ≤ 32) : Eff t (t.write a d) (t.writeE a d) := by
  have hr := live_refusal h h0 h1
  unfold St.write St.writeE
  rw [if_neg (by rw [hr]; simp; omega), if_neg (by simp [hr]), if_neg (by omega)]
  exact ⟨by unfold St.failed; by_cases hc : t.cut = 1 <;> simp [hc], failing_down (t := t.put a (pad d)) h, failing_size _, failing_cut (t := t.put a (pad d)) h⟩
theorem live_flush {t : St} (h : t.down = false) : Eff t t.flush t.flushE := by
  unfold St.flush St.flushE
  rw [h, if_neg (by simp), Bool.false_or]
  have hd := failing_down h
  have hs := failing_size t
  have hc := failing_cut h
  unfold St.failed at hd ⊢
  by_cases h1 : t.cut = 1
  · rw [decide_eq_true h1, if_pos rfl, if_pos rfl]
    exact ⟨by rw [if_pos h1], by rw [hd], hs, hc⟩
  · rw [decide_eq_false h1, if_neg (by simp), if_neg (by simp)]
    exact ⟨by rw [if_neg h1], by show t.failing.down = _; rw [hd], hs, hc⟩
/-- What is armed behind k effects, if the power has not failed. -/
def left (c : Int) (k : Nat) : Int := if 1 ≤ c then c - k else 0
structure CountsW (base : Nat) (w : World) (p B : Nat) (c : Int) (k : Nat) (h : Hd) (t : St) (wr : World) : Prop where
  on : On wr p h t k
  down : t.down = false
  size : t.size = 2
  cut : t.cut = left c k
  notyet : ∀ j : Nat, 1 ≤ j → j ≤ k → c ≠ j
  mine : Mine wr p h B
  cell : wr.cell? ⟨B, 0, none⟩ = some (.int .i64 c)
  own : ∀ j, owned p h j → base ≤ j
  below : Below base w wr
  len : base ≤ wr.heap.size

theorem On.mono {w : World} {p : Nat} {h : Hd} {t : St} {a b : Nat} (O : On w p h t a) (hab : a ≤ b) : On w p h t b := let ⟨s, D, G, R⟩ := O; ⟨s, D, G.mono hab, R⟩
theorem CountsW.ok {base : Nat} {w : World} {p B : Nat} {c : Int} {k : Nat} {h h' : Hd} {t t' : St} {wr w' : World} {e : Int} (C : CountsW base w p B c k h t wr) (E : Eff t t' e) (O : On w' p h' t' (k + 1)) (T : Turn p wr w' h h') (hne : ¬ c = (k : Int) + 1) :
    e = 0 ∧ CountsW base w p B c (k + 1) h' t' w' := by
  have hcut := C.cut
  have h1 : t.cut ≠ 1 := by
    rw [hcut]; unfold left; split <;> omega
  refine ⟨by rw [E.err, if_neg h1], ⟨O, by rw [E.down, decide_eq_false h1], by rw [E.size, C.size], ?_, ?_, T.mine C.mine, (T.cell C.mine).trans C.cell, T.owns C.len C.own, C.below.trans (T.below C.len C.own), Nat.le_trans C.len T.size⟩⟩
  · rw [E.cut, hcut]
    have hn := C.notyet
    unfold left
    by_cases hc : 1 ≤ c
    · rw [if_pos hc, if_pos hc]
      by_cases hz : c - (k : Int) = 0
      · exact absurd (by omega : c = (k : Int)) (hn k (by omega) (Nat.le_refl _))
      · rw [if_neg hz]; push_cast; omega
    · rw [if_neg hc, if_neg hc, if_pos rfl]
  · intro j h1 h2
    by_cases hj : j = k + 1
    · rw [hj]; push_cast; exact hne
    · exact C.notyet j h1 (by omega)
theorem CountsW.drew {base : Nat} {w : World} {p B : Nat} {c : Int} {k : Nat} {h : Hd} {t : St} {wr : World} (C : CountsW base w p B c k h t wr) : CountsW base w p B c k h t wr.drew :=
  ⟨C.on.kept (fun _ _ => rfl), C.down, C.size, C.cut, C.notyet, C.mine, C.cell, C.own, C.below.drew, C.len⟩
/-- The power has failed, and nothing is armed. -/
structure DoneW (base : Nat) (w : World) (p : Nat) (n : Nat) (d : Bool) (h : Hd) (t : St) (wr : World) : Prop where
  on : On wr p h t n
  down : t.down = d
  size : t.size = 2
  cut : t.cut = 0
  own : ∀ j, owned p h j → base ≤ j
  below : Below base w wr
  len : base ≤ wr.heap.size
theorem CountsW.fail {base : Nat} {w : World} {p B : Nat} {c : Int} {k : Nat} {h h' : Hd} {t t' : St} {wr w' : World} {e : Int} (C : CountsW base w p B c k h t wr) (E : Eff t t' e) (O : On w' p h' t' (k + 1)) (T : Turn p wr w' h h') (he : c = (k : Int) + 1) :
    e = 7 ∧ DoneW base w p (k + 1) true h' t' w' ∧ w'.cell? ⟨B, 0, none⟩ = some (.int .i64 c) := by
  have hcut : t.cut = 1 := by rw [C.cut]; unfold left; rw [if_pos (by omega)]; omega
  refine ⟨by rw [E.err, if_pos hcut], ⟨O, by rw [E.down, decide_eq_true hcut], by rw [E.size, C.size], by rw [E.cut, hcut]; rfl, T.owns C.len C.own, C.below.trans (T.below C.len C.own), Nat.le_trans C.len T.size⟩, (T.cell C.mine).trans C.cell⟩
theorem DoneW.eff {base : Nat} {w : World} {p n : Nat} {h h' : Hd} {t t' : St} {wr w' : World} {e : Int} (C : DoneW base w p n false h t wr) (E : Eff t t' e) {m : Nat} (O : On w' p h' t' m) (T : Turn p wr w' h h') :
    e = 0 ∧ DoneW base w p m false h' t' w' := by
  have h1 : ¬ t.cut = 1 := by rw [C.cut]; omega
  exact ⟨by rw [E.err, if_neg h1], ⟨O, by rw [E.down, decide_eq_false h1], by rw [E.size, C.size], by rw [E.cut, C.cut]; rfl, T.owns C.len C.own, C.below.trans (T.below C.len C.own), Nat.le_trans C.len T.size⟩⟩
theorem DoneW.drew {base : Nat} {w : World} {p n : Nat} {d : Bool} {h : Hd} {t : St} {wr : World} (C : DoneW base w p n d h t wr) : DoneW base w p n d h t wr.drew :=
  ⟨C.on.kept (fun _ _ => rfl), C.down, C.size, C.cut, C.own, C.below.drew, C.len⟩
theorem DoneW.start {base : Nat} {w : World} {p n : Nat} {d : Bool} {h h' : Hd} {t : St} {wr w' : World} (C : DoneW base w p n d h t wr) (O : On w' p h' { t with down := false } n) (T : Turn p wr w' h h') : DoneW base w p n false h' { t with down := false } w' :=
  ⟨O, rfl, C.size, C.cut, T.owns C.len C.own, C.below.trans (T.below C.len C.own), Nat.le_trans C.len T.size⟩

theorem wrapI {n : Int} (h0 : -9223372036854775808 ≤ n) (h1 : n ≤ 9223372036854775807) : IntKind.i64.wrap n = n := by
  simp only [IntKind.wrap, IntKind.bits, IntKind.signed]
  simp
  omega
/-- A number that isn't m; closed to the walk's simp. -/
def other (m z : Int) : Int := if z = m then m + 1 else z
theorem other_ne (m z : Int) : other m z ≠ m := by unfold other; split <;> omega
theorem other_of {m z : Int} (h : ¬ z = m) : z = other m z := by unfold other; rw [if_neg h]
theorem sem_other_eql (t : TypeId) (m z : Int) : binOp .eql t (.int .i64 (other m z)) (.int .i64 m) = pure (.bool false) := by
  rw [binOp_eql, show (other m z == m) = false from beq_false_of_ne (other_ne m z)]
theorem sem_other_neq (t : TypeId) (m z : Int) : binOp .neq t (.int .i64 (other m z)) (.int .i64 m) = pure (.bool true) := by
  rw [binOp_neq, bne, show (other m z == m) = false from beq_false_of_ne (other_ne m z)]; rfl
theorem sem_inteq (t : TypeId) (k : IntKind) (x : Int) : binOp .eql t (.int k x) (.int k x) = pure (.bool true) := by rw [binOp_eql, beq_self_eq_true]
theorem sem_intneq (t : TypeId) (k : IntKind) (x : Int) : binOp .neq t (.int k x) (.int k x) = pure (.bool false) := by rw [binOp_neq, bne, beq_self_eq_true]; rfl
attribute [local go_sem 9000] sem_rem2i sem_other_eql sem_other_neq sem_inteq sem_intneq
set_option maxRecDepth 100000 in
set_option maxHeartbeats 2000000 in
theorem counts_any (c : Int) (kk : BitVec 64) (a : Option Addr) (len cap : Nat) (l : List Bool) (w : World) (hc0 : -9223372036854775808 ≤ c) (hc1 : c ≤ 9223372036854775807) (hS : Bools a len l w) (hlen : len ≤ 140737488355328) :
    Calls Try.prog 6 #[.agg #[.int .i64 c, .int .u64 (u64 kk)], .slice a len cap] w fun e w' => e = .returned (.bool true) ∧ Below w.heap.size w w' := by
  have hlen' : (len : Int) ≤ 140737488355328 := by omega
  have b0 : Below w.heap.size w (w.alloc (.cells #[.int .i64 c, .int .u64 (u64 kk)] 33)) := (Below.refl _ _).alloc (Nat.le_refl _) _
  have hB := heap_alloc_new w (.cells #[.int .i64 c, .int .u64 (u64 kk)] 33)
  have hsz : (w.alloc (.cells #[.int .i64 c, .int .u64 (u64 kk)] 33)).heap.size = w.heap.size + 1 := by simp
  go_enter Try.func6, Try.ntmps6
  go_wp2_with fail
  refine (awake_any _).mono ?_
  rintro e w1 ⟨rfl, b1⟩
  have hB1 := (b1.block w.heap.size (by omega)).trans hB
  have bw1 := b0.trans (b1.mono (by omega))
  have hs1 := b1.size
  clear hB b0 b1
  dsimp only
  by_cases h60 : len ≤ 60
  · have h60' : (len : Int) ≤ 60 := by omega
    go_wp2_with fail
    refine (on_new 2 _ (by decide) (by decide)).mono ?_
    rintro e w2 ⟨p, h2, rfl, O2, o2, b2⟩
    have hB2 := (b2.block w.heap.size (by omega)).trans hB1
    have bw2 := bw1.trans (b2.mono (by omega))
    have cB0 : w2.cell? ⟨w.heap.size, 0, none⟩ = some (.int .i64 c) := cell_block hB2 0
    have cB1 : w2.cell? ⟨w.heap.size, 1, none⟩ = some (.int .u64 (u64 kk)) := cell_block hB2 1
    have hm2 : Mine w2 p h2 w.heap.size := ⟨by have := b2.size; omega, fun e => by have := o2 _ e; omega⟩
    dsimp only
    go_wp2_with fail
    refine (on_arm O2 c hc1 kk).mono ?_
    rintro e w3 ⟨rfl, h3, O3, T3⟩
    have C3 : CountsW w.heap.size w p w.heap.size c 0 h3 ((St.new 2).armed c kk) w3 := by
      have hb := T3.below (B := w.heap.size) (by have := b2.size; omega) (fun k hk => by have := o2 k hk; omega)
      refine ⟨O3, ?_, ?_, ?_, fun j h1 h2 => by omega, T3.mine hm2, (T3.cell hm2).trans cB0, T3.owns (B := w.heap.size) (by have := b2.size; omega) (fun k hk => by have := o2 k hk; omega), bw2.trans hb, by have := b2.size; have := T3.size; omega⟩
      · unfold St.armed; split <;> rfl
      · unfold St.armed; split <;> rfl
      · unfold St.armed left; split <;> simp
    have C3' := Lib.hid C3
    clear O2 o2 b2 hB2 cB0 cB1 hm2 O3 T3 C3 hB1 bw1 bw2
    dsimp only
    go_wp2_with fail
    go_loopw [7] (fun i wr => ∃ (k : Nat) (h : Hd) (t : St), k ≤ len ∧ i = .int .i64 k ∧ CountsW w.heap.size w p w.heap.size c k h t wr) (fun i _ => len - (intOf i).toNat)
    case atStart => exact ⟨0, _, _, by omega, rfl, C3'.out⟩
    case round =>
      obtain ⟨k, h, t, hk, rfl, C⟩ := hrel
      by_cases hlt : k < len
      · have hlt' : (k : Int) < (len : Int) := by omega
        have hk60 : (k : Int) < 60 := by omega
        obtain ⟨b, off, rfl, hcl⟩ := (hS.below (C.below)).cell k hlt
        have hwr : IntKind.i64.wrap ((k : Int) + 1) = (k : Int) + 1 := wrapI (by omega) (by omega)
        have hfl : Hid (l.getD k false = true ∨ l.getD k false = false) := by cases l.getD k false <;> simp [Hid]
        rcases hfl.out with hb | hb
        · rw [hb] at hcl
          go_wp2_with fail
          refine (on_flush C.on (by omega)).mono ?_
          rintro e w4 ⟨rfl, h4, O4, T4⟩
          have E := live_flush C.down
          have O4' := O4.mono (Nat.le_succ k)
          by_cases hck : c = (k : Int) + 1
          · obtain ⟨he, C4, cB0⟩ := C.fail E O4' T4 hck
            rw [he]
            clear E O4' he C O4 T4
            have cB : w4.cell? ⟨w.heap.size, 0, none⟩ = some (.int .i64 ((k : Int) + 1)) := cB0.trans (by rw [hck])
            have HD := Lib.hid C4
            have hD := C4.down
            clear C4 cB0
            go_wp2_with fail
            go_region_held3 (fun w' => w'.cell? ⟨w.heap.size, 0, none⟩ = some (.int .i64 ((k : Int) + 1))) (exact cB) (first | (go_at_call 23; (with_reducible refine (on_down (HD.out.on.kept (w' := w4.drew) (fun _ _ => rfl))).mono ?_); rintro e w' ⟨rfl, rfl⟩; rw [hD]))
            all_goals (
              go_wp2_with fail
              refine (on_down HD.out.drew.on).mono ?_
              rintro e w5 ⟨rfl, rfl⟩
              rw [hD]
              dsimp only
              go_wp2_with fail
              refine (on_start HD.out.drew.on).mono ?_
              rintro e w6 ⟨rfl, h6, O6, T6⟩
              have HD6 := Lib.hid (HD.out.drew.start O6 T6)
              clear O6 T6 HD hD cB
              dsimp only
              generalize ({ t.flush with down := false } : St) = t6 at HD6
              go_wp2_with fail
              go_loopw [9] (fun i wr => ∃ (j : Nat) (h : Hd) (t : St), j ≤ 5 ∧ i = .int .i64 j ∧ DoneW w.heap.size w p (k + 1 + j) false h t wr) (fun i _ => 5 - (intOf i).toNat)
              case atStart => exact ⟨0, _, _, by omega, rfl, HD6.out⟩
              case round =>
                obtain ⟨j, h7, t7, hj, rfl, C7⟩ := hrel
                by_cases hj5 : j < 5
                · have hj5' : (j : Int) < 5 := by omega
                  go_wp2_with fail
                  refine (on_write C7.on (by omega) 0 (by decide) ⟨#[121]⟩ (by decide)).mono ?_
                  rintro e w8 ⟨rfl, h8, O8, T8⟩
                  obtain ⟨he, C8⟩ := C7.eff (live_write C7.down (a := 0) (by decide) (by rw [C7.size]; decide) (d := ⟨#[121]⟩) (by decide)) O8 T8
                  rw [he]
                  clear he O8 T8 C7
                  dsimp only
                  go_wp2_with fail
                  refine (on_flush C8.on (by omega)).mono ?_
                  rintro e w9 ⟨rfl, h9, O9, T9⟩
                  obtain ⟨he, C9⟩ := C8.eff (live_flush C8.down) O9 T9
                  rw [he]
                  clear he O9 T9 C8
                  dsimp only
                  go_wp2_with fail
                  go_roundw
                  case rel => exact ⟨j + 1, _, _, by omega, by go_num, C9⟩
                  case measure => simp [intOf]; omega
                · obtain rfl : j = 5 := by omega
                  go_wp2_with fail
                  refine (on_down C7.on).mono ?_
                  rintro e w8 ⟨rfl, rfl⟩
                  rw [C7.down]
                  dsimp only
                  go_wp2_with fail
                  go_ret
                  exact ⟨rfl, C7.below⟩)
          · obtain ⟨he, C4⟩ := C.ok E O4' T4 hck
            rw [he]
            clear E O4' he C O4 T4
            have cB : w4.cell? ⟨w.heap.size, 0, none⟩ = some (.int .i64 (other ((k : Int) + 1) c)) := C4.cell.trans (by rw [← other_of hck])
            have HD := Lib.hid C4
            have hD := C4.down
            clear C4
            go_wp2_with fail
            go_region_held3 (fun w' => w'.cell? ⟨w.heap.size, 0, none⟩ = some (.int .i64 (other ((k : Int) + 1) c))) (exact cB) (first | (go_at_call 23; (with_reducible refine (on_down (HD.out.on.kept (w' := w4.drew) (fun _ _ => rfl))).mono ?_); rintro e w' ⟨rfl, rfl⟩; rw [hD]))
            all_goals (
              go_wp2_with fail
              refine (on_down HD.out.drew.on).mono ?_
              rintro e w5 ⟨rfl, rfl⟩
              rw [hD]
              dsimp only
              go_wp2_with fail
              go_roundw
              case rel => exact ⟨k + 1, _, _, by omega, by go_num, HD.out.drew⟩
              case measure => simp [intOf]; omega)
        · rw [hb] at hcl
          go_wp2_with fail
          refine (on_write C.on (by omega) ((k % 2 : Nat) : Int) (WalkArith.wf_i64 (by omega)) ⟨#[120]⟩ (by decide)).mono ?_
          rintro e w4 ⟨rfl, h4, O4, T4⟩
          have E := live_write C.down (a := ((k % 2 : Nat) : Int)) (by omega) (by rw [C.size]; omega) (d := ⟨#[120]⟩) (by decide)
          have O4' := O4
          by_cases hck : c = (k : Int) + 1
          · obtain ⟨he, C4, cB0⟩ := C.fail E O4' T4 hck
            rw [he]
            clear E O4' he C O4 T4
            have cB : w4.cell? ⟨w.heap.size, 0, none⟩ = some (.int .i64 ((k : Int) + 1)) := cB0.trans (by rw [hck])
            have HD := Lib.hid C4
            have hD := C4.down
            clear C4 cB0
            go_wp2_with fail
            go_region_held3 (fun w' => w'.cell? ⟨w.heap.size, 0, none⟩ = some (.int .i64 ((k : Int) + 1))) (exact cB) (first | (go_at_call 23; (with_reducible refine (on_down (HD.out.on.kept (w' := w4.drew) (fun _ _ => rfl))).mono ?_); rintro e w' ⟨rfl, rfl⟩; rw [hD]))
            all_goals (
              go_wp2_with fail
              refine (on_down HD.out.drew.on).mono ?_
              rintro e w5 ⟨rfl, rfl⟩
              rw [hD]
              dsimp only
              go_wp2_with fail
              refine (on_start HD.out.drew.on).mono ?_
              rintro e w6 ⟨rfl, h6, O6, T6⟩
              have HD6 := Lib.hid (HD.out.drew.start O6 T6)
              clear O6 T6 HD hD cB
              dsimp only
              generalize ({ t.write ((k % 2 : Nat) : Int) ⟨#[120]⟩ with down := false } : St) = t6 at HD6
              go_wp2_with fail
              go_loopw [9] (fun i wr => ∃ (j : Nat) (h : Hd) (t : St), j ≤ 5 ∧ i = .int .i64 j ∧ DoneW w.heap.size w p (k + 1 + j) false h t wr) (fun i _ => 5 - (intOf i).toNat)
              case atStart => exact ⟨0, _, _, by omega, rfl, HD6.out⟩
              case round =>
                obtain ⟨j, h7, t7, hj, rfl, C7⟩ := hrel
                by_cases hj5 : j < 5
                · have hj5' : (j : Int) < 5 := by omega
                  go_wp2_with fail
                  refine (on_write C7.on (by omega) 0 (by decide) ⟨#[121]⟩ (by decide)).mono ?_
                  rintro e w8 ⟨rfl, h8, O8, T8⟩
                  obtain ⟨he, C8⟩ := C7.eff (live_write C7.down (a := 0) (by decide) (by rw [C7.size]; decide) (d := ⟨#[121]⟩) (by decide)) O8 T8
                  rw [he]
                  clear he O8 T8 C7
                  dsimp only
                  go_wp2_with fail
                  refine (on_flush C8.on (by omega)).mono ?_
                  rintro e w9 ⟨rfl, h9, O9, T9⟩
                  obtain ⟨he, C9⟩ := C8.eff (live_flush C8.down) O9 T9
                  rw [he]
                  clear he O9 T9 C8
                  dsimp only
                  go_wp2_with fail
                  go_roundw
                  case rel => exact ⟨j + 1, _, _, by omega, by go_num, C9⟩
                  case measure => simp [intOf]; omega
                · obtain rfl : j = 5 := by omega
                  go_wp2_with fail
                  refine (on_down C7.on).mono ?_
                  rintro e w8 ⟨rfl, rfl⟩
                  rw [C7.down]
                  dsimp only
                  go_wp2_with fail
                  go_ret
                  exact ⟨rfl, C7.below⟩)
          · obtain ⟨he, C4⟩ := C.ok E O4' T4 hck
            rw [he]
            clear E O4' he C O4 T4
            have cB : w4.cell? ⟨w.heap.size, 0, none⟩ = some (.int .i64 (other ((k : Int) + 1) c)) := C4.cell.trans (by rw [← other_of hck])
            have HD := Lib.hid C4
            have hD := C4.down
            clear C4
            go_wp2_with fail
            go_region_held3 (fun w' => w'.cell? ⟨w.heap.size, 0, none⟩ = some (.int .i64 (other ((k : Int) + 1) c))) (exact cB) (first | (go_at_call 23; (with_reducible refine (on_down (HD.out.on.kept (w' := w4.drew) (fun _ _ => rfl))).mono ?_); rintro e w' ⟨rfl, rfl⟩; rw [hD]))
            all_goals (
              go_wp2_with fail
              refine (on_down HD.out.drew.on).mono ?_
              rintro e w5 ⟨rfl, rfl⟩
              rw [hD]
              dsimp only
              go_wp2_with fail
              go_roundw
              case rel => exact ⟨k + 1, _, _, by omega, by go_num, HD.out.drew⟩
              case measure => simp [intOf]; omega)
      · obtain rfl : k = len := by omega
        have hb := C.below
        go_wp2_with fail
        go_ret
        exact ⟨rfl, hb⟩
  · have h60' : (60 : Int) < (len : Int) := by omega
    go_wp2_with fail
    go_ret
    exact ⟨rfl, bw1⟩
end Go.Proofs.Ytdgbfkedgedogaa
