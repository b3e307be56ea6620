/- The laws' own first question. -/
import Derived.Test.YtdgbfkedgedogaaAbs
namespace Go.Proofs.Ytdgbfkedgedogaa
open Go.RowKit Go.Maps
def ta : St := (St.new 2).write 0 ⟨#[97]⟩
def tb : St := ta.write 1 ⟨#[98]⟩
def tc : St := tb.crash 2
def td : St := { tc.write 0 ⟨#[120]⟩ with down := false }
theorem a1 : (St.new 2).writeE 0 ⟨#[97]⟩ = 0 := by decide +kernel
theorem a2 : ta.writeE 1 ⟨#[98]⟩ = 0 := by decide +kernel
theorem a3 : tb.waiting = 2 := by decide +kernel
theorem a4 : tc.writeE 0 ⟨#[120]⟩ = 7 := by decide +kernel
theorem a5 : td.readS 0 = ⟨#[0, 0, 0, 0, 0, 0, 0, 0, 0, 0, 0, 0, 0, 0, 0, 0, 0, 0, 0, 0, 0, 0, 0, 0, 0, 0, 0, 0, 0, 0, 0, 0]⟩ := by decide +kernel
theorem a6 : td.readS 1 = ⟨#[98, 0, 0, 0, 0, 0, 0, 0, 0, 0, 0, 0, 0, 0, 0, 0, 0, 0, 0, 0, 0, 0, 0, 0, 0, 0, 0, 0, 0, 0, 0, 0]⟩ := by decide +kernel
theorem a7 : td.refusal 0 = 0 := by decide +kernel
theorem a8 : td.refusal 1 = 0 := by decide +kernel
theorem a9 : td.flushE = 0 := by decide +kernel
theorem a10 : td.flush.size = 2 := by decide +kernel
theorem a11 : td.flush.down = false := by decide +kernel
theorem a12 : td.flush.writeE 2 ⟨#[]⟩ = 1 := by decide +kernel
theorem turn_below {p : Nat} {w w' w0 : World} {h h' : Hd} (t : Turn p w w' h h') (hb : Below w0.heap.size w0 w) (ho : ∀ k, owned p h k → w0.heap.size ≤ k) : Below w0.heap.size w0 w' ∧ ∀ k, owned p h' k → w0.heap.size ≤ k :=
  ⟨hb.trans (t.below hb.size ho), t.owns hb.size ho⟩

set_option maxRecDepth 100000 in
set_option maxHeartbeats 1000000 in
theorem awake_any (w : World) :
    Calls Try.prog 8 #[] w fun e w' => e = .returned (.bool true) ∧ Below w.heap.size w w' := by
  go_enter Try.func8, Try.ntmps8
  go_wp2_with fail
  refine (on_new 2 _ (by decide) (by decide)).mono ?_
  rintro e w1 ⟨p, h1, rfl, O1, o1, b1⟩
  dsimp only
  go_wp2_with fail
  refine (new_not 0 _ (.inl (by decide))).mono ?_
  rintro e w1' ⟨rfl, rfl⟩
  dsimp only
  go_wp2_with fail
  refine (on_write O1 (by decide) 0 (by decide) ⟨#[97]⟩ (by decide)).mono ?_
  rintro e w2 ⟨rfl, h2, O2, T2⟩
  obtain ⟨b2, o2⟩ := turn_below T2 b1 o1
  rw [a1]
  clear O1 b1 o1 T2
  dsimp only
  go_wp2_with fail
  refine (on_write O2 (by decide) 1 (by decide) ⟨#[98]⟩ (by decide)).mono ?_
  rintro e w3 ⟨rfl, h3, O3, T3⟩
  obtain ⟨b3, o3⟩ := turn_below T3 b2 o2
  rw [show (((St.new 2).write 0 ⟨#[97]⟩).writeE 1 ⟨#[98]⟩) = 0 from a2]
  clear O2 b2 o2 T3
  dsimp only
  go_wp2_with fail
  refine (on_waiting O3).mono ?_
  rintro e w3' ⟨rfl, rfl⟩
  rw [show (((St.new 2).write 0 ⟨#[97]⟩).write 1 ⟨#[98]⟩) = tb from rfl] at O3 ⊢
  rw [a3]
  dsimp only
  go_wp2_with fail
  refine (on_crash O3 (by decide) 2).mono ?_
  rintro e w4 ⟨rfl, h4, O4, T4⟩
  obtain ⟨b4, o4⟩ := turn_below T4 b3 o3
  clear O3 b3 o3 T4
  rw [show tb.crash 2 = tc from rfl] at O4
  dsimp only
  go_wp2_with fail
  refine (on_write O4 (by decide) 0 (by decide) ⟨#[120]⟩ (by decide)).mono ?_
  rintro e w5 ⟨rfl, h5, O5, T5⟩
  obtain ⟨b5, o5⟩ := turn_below T5 b4 o4
  rw [a4]
  clear O4 b4 o4 T5
  dsimp only
  go_wp2_with fail
  refine (on_start O5).mono ?_
  rintro e w6 ⟨rfl, h6, O6, T6⟩
  obtain ⟨b6, o6⟩ := turn_below T6 b5 o5
  clear O5 b5 o5 T6
  rw [show ({ tc.write 0 ⟨#[120]⟩ with down := false } : St) = td from rfl] at O6
  dsimp only
  go_wp2_with fail
  refine (on_read O6 (by decide) 0 (by decide)).mono ?_
  rintro e w7 ⟨rfl, O7, T7⟩
  have b7 := b6.trans (T7.mono b6.size)
  clear O6 b6 T7
  rw [a5, a7]
  dsimp only
  go_wp2_with fail
  refine (on_read O7 (by decide) 1 (by decide)).mono ?_
  rintro e w8 ⟨rfl, O8, T8⟩
  have b8 := b7.trans (T8.mono b7.size)
  clear O7 b7 T8
  rw [a6, a8]
  dsimp only
  go_wp2_with fail
  refine (on_flush O8 (by decide)).mono ?_
  rintro e w9 ⟨rfl, h9, O9, T9⟩
  obtain ⟨b9, o9⟩ := turn_below T9 b8 o6
  clear O8 b8 o6 T9
  rw [a9]
  dsimp only
  go_wp2_with fail
  refine (on_size O9).mono ?_
  rintro e w9' ⟨rfl, rfl⟩
  rw [a10]
  dsimp only
  go_wp2_with fail
  refine (on_down O9).mono ?_
  rintro e w9' ⟨rfl, rfl⟩
  rw [a11]
  dsimp only
  go_wp2_with fail
  refine (on_write O9 (by decide) 2 (by decide) ⟨#[]⟩ (by decide)).mono ?_
  rintro e w10 ⟨rfl, h10, O10, T10⟩
  obtain ⟨b10, o10⟩ := turn_below T10 b9 o9
  rw [a12]
  clear O9 b9 o9 T10
  dsimp only
  go_wp2_with fail
  go_ret
  exact ⟨rfl, b10⟩
/-- A call out of a row. -/
structure Deed where
  kind : Int
  at_ : Int
  data : ByteArray
  cut : Int
  keep : BitVec 64
def deed0 : Deed := ⟨0, 0, ⟨#[]⟩, 0, 0⟩
def Deed.cells (x : Deed) : List Value := [.int .i64 x.kind, .int .i64 x.at_, .string x.data, .int .i64 x.cut, .int .u64 (u64 x.keep)]
structure Deeds (a : Option Addr) (len : Nat) (l : List Deed) (w : World) : Prop where
  count : len = l.length
  cell : ∀ i, i < len → ∃ b off, a = some ⟨b, off, none⟩ ∧ w.rangeAt b (off + i * 5) (l.getD i deed0).cells
  fits : ∀ x ∈ l, (ik x.kind).wf = true ∧ (ik x.at_).wf = true ∧ x.data.size ≤ maxLen ∧ (ik x.cut).wf = true
theorem Deeds.below {a : Option Addr} {len : Nat} {l : List Deed} {w w' : World} (h : Deeds a len l w) (hb : Below w.heap.size w w') : Deeds a len l w' :=
  ⟨h.count, fun i hi => by
    obtain ⟨b, off, ha, hr⟩ := h.cell i hi
    exact ⟨b, off, ha, fun j v hv => (hb.cell (p := ⟨b, _, none⟩) (block_lt_of_cell (hr j v hv))).trans (hr j v hv)⟩, h.fits⟩
theorem Deeds.fit {a : Option Addr} {len : Nat} {l : List Deed} {w : World} (h : Deeds a len l w) {i : Nat} (hi : i < len) : (ik (l.getD i deed0).kind).wf = true ∧ (ik (l.getD i deed0).at_).wf = true ∧ (l.getD i deed0).data.size ≤ maxLen ∧ (ik (l.getD i deed0).cut).wf = true := by
  rw [h.count] at hi
  exact h.fits _ (by rw [List.getD, List.getElem?_eq_getElem hi]; exact List.getElem_mem hi)
def few (l : List Deed) : Bool := l.all (fun x => decide (x.data.size ≤ 300)) && decide (l.length ≤ 200)
theorem few_no_count {l : List Deed} (h : 200 < l.length) : few l = false := by unfold few; rw [decide_eq_false (by omega), Bool.and_false]
theorem few_no_data {l : List Deed} {k : Nat} (hk : k < l.length) (h : 300 < (l.getD k deed0).data.size) : few l = false := by
  unfold few
  rw [List.all_eq_false.2 ⟨l.getD k deed0, by rw [List.getD, List.getElem?_eq_getElem hk]; exact List.getElem_mem hk, fun e => by have := of_decide_eq_true e; omega⟩, Bool.false_and]
theorem few_yes {l : List Deed} (h : ∀ j, j < l.length → (l.getD j deed0).data.size ≤ 300) (h2 : l.length ≤ 200) : few l = true := by
  unfold few
  rw [decide_eq_true h2, Bool.and_true, List.all_eq_true]
  intro x hx
  obtain ⟨j, hj, rfl⟩ := List.getElem_of_mem hx
  have := h j hj
  rw [List.getD, List.getElem?_eq_getElem hj] at this
  exact decide_eq_true this
theorem few_spec {l : List Deed} (h : few l = true) : l.length ≤ 200 ∧ ∀ x ∈ l, x.data.size ≤ 300 := by
  unfold few at h
  rw [Bool.and_eq_true, List.all_eq_true] at h
  exact ⟨of_decide_eq_true h.2, fun x hx => of_decide_eq_true (h.1 x hx)⟩
set_option maxRecDepth 100000 in
set_option maxHeartbeats 1000000 in
theorem few_any (a : Option Addr) (len cap : Nat) (l : List Deed) (w : World) (hS : Deeds a len l w) (hlen : len ≤ 140737488355328) :
    Calls Try.prog 9 #[.slice a len cap] w fun e w' => e = .returned (.bool (few l)) ∧ w = w' := by
  have hl1 : (len : Int) ≤ 140737488355328 := by omega
  have HN := Lib.hid (fun h => @few_no_count l h)
  have HD := Lib.hid (fun k hk h => @few_no_data l k hk h)
  have HY := Lib.hid (fun h h2 => @few_yes l h h2)
  have hc := hS.count
  go_enter Try.func9, Try.ntmps9
  go_wp2
  go_loop [3] (fun i => ∃ k : Nat, k ≤ len ∧ i = .int .i64 k ∧ (∀ j, j < k → (l.getD j deed0).data.size ≤ 300) ∧ k ≤ 200) (fun i => len - (intOf i).toNat)
  case atStart => exact ⟨0, by omega, rfl, fun j hj => by omega, by omega⟩
  case round =>
    obtain ⟨k, hk, rfl, hj, h200⟩ := hrel
    by_cases hlt : k < len
    · obtain ⟨b, off, rfl, hr⟩ := hS.cell k hlt
      have hfit := (hS.fit hlt).2.2.1
      have h2 : w.cell? ⟨b, off + k * 5 + 2, none⟩ = some (.string (l.getD k deed0).data) := hr 2 _ rfl
      clear hr
      have HJ := Lib.hid hj
      have HS := Lib.hid hS
      clear hj hS
      have hlt' : (k : Int) < (len : Int) := by omega
      by_cases hk2 : k = 200
      · have hk2' : ¬ (k : Int) < 200 := by omega
        have hk3 : (200 : Int) ≤ (k : Int) := by omega
        go_wp2
        go_ret
        rw [HN.out (by omega)]
        exact ⟨rfl, rfl⟩
      · have hk2' : (k : Int) < 200 := by omega
        have HX : Hid (300 < (l.getD k deed0).data.size → few l = false) := fun h => HD.out k (by omega) h
        have HJ2 : Hid ((l.getD k deed0).data.size ≤ 300 → ∀ j, j < k + 1 → (l.getD j deed0).data.size ≤ 300) := fun h j hj => by
          by_cases e : j = k
          · rw [e]; exact h
          · exact HJ.out j (by omega)
        generalize (l.getD k deed0).data = d at *
        by_cases hd : d.size ≤ 300
        · have hd' : (d.size : Int) ≤ 300 := by omega
          go_wp2
          go_round
          case rel => exact ⟨k + 1, by omega, by go_num, HJ2.out hd, by omega⟩
          case measure => simp [intOf]; omega
        · have hd' : (300 : Int) < (d.size : Int) := by omega
          have hd2 := hfit
          go_wp2
          go_ret
          rw [HX.out (by omega)]
          exact ⟨rfl, rfl⟩
    · obtain rfl : k = len := by omega
      have HJ := Lib.hid hj
      clear hj
      go_wp2
      go_ret
      rw [HY.out (fun j hj => HJ.out j (by omega)) (by omega)]
      exact ⟨rfl, rfl⟩
end Go.Proofs.Ytdgbfkedgedogaa
