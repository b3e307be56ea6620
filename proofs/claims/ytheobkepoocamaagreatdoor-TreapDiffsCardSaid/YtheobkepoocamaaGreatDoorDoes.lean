/- Rows of acts; the law's few. The law's does: acts, done to a map and to the document's pairs. -/
import Derived.Test.YtheobkepoocamaaGreatDoorRefNm
import Derived.Test.YtheobkepoocamaaGreatDoorRefPut
import Derived.Test.YtheobkepoocamaaGreatDoorMaps
namespace Go.Proofs.YtheobkepoocamaaGreatDoor
set_option maxRecDepth 100000
open Go.RowKit Go.Less
attribute [local go_sem 9000] sem_eql sem_neq sem_lss sem_leq sem_gtr sem_geq
/-- A key is put, or goes. -/
structure AcT where
  k : ByteArray
  v : ByteArray
  g : Bool
def acell (x : AcT) : List Value := [.string x.k, .string x.v, .bool x.g]
def arow (l : List AcT) : List Value := l.flatMap acell
abbrev a0 : AcT := ⟨⟨#[]⟩, ⟨#[]⟩, false⟩
/-- A row of acts, wherever it lies. -/
structure Ats (a : Option Addr) (n : Nat) (l : List AcT) (w : World) : Prop where
  count : n = l.length
  cell : ∀ i, i < n → ∃ b off, a = some ⟨b, off, none⟩ ∧ w.cell? ⟨b, off + i * 3, none⟩ = some (.string (l.getD i a0).k) ∧ w.cell? ⟨b, off + i * 3 + 1, none⟩ = some (.string (l.getD i a0).v) ∧ w.cell? ⟨b, off + i * 3 + 2, none⟩ = some (.bool (l.getD i a0).g)
theorem Ats.below {a : Option Addr} {n : Nat} {l : List AcT} {w w' : World} (h : Ats a n l w) (hb : Below w.heap.size w w') : Ats a n l w' :=
  ⟨h.count, fun i hi => by
    obtain ⟨b, off, rfl, h0, h1, h2⟩ := h.cell i hi
    have hl := block_lt_of_cell h0
    exact ⟨b, off, rfl, (hb.cell (p := ⟨b, off + i * 3, none⟩) hl).trans h0, (hb.cell (p := ⟨b, off + i * 3 + 1, none⟩) hl).trans h1, (hb.cell (p := ⟨b, off + i * 3 + 2, none⟩) hl).trans h2⟩⟩
def okAct (x : AcT) : Bool := decide (x.k.size ≤ 100) && decide (x.v.size ≤ 200)
/-- Few and short enough? -/
def fewB (l : List AcT) : Bool := decide (l.length ≤ 60) && l.all okAct
theorem takea {l : List AcT} {j : Nat} (h : j < l.length) : l.take (j + 1) = l.take j ++ [l.getD j a0] := by
  rw [List.take_succ_eq_append_getElem h]; simp [List.getD, List.getElem?_eq_getElem h]
theorem getD_mem {l : List AcT} {j : Nat} (h : j < l.length) : l.getD j a0 ∈ l := by
  rw [List.getD, List.getElem?_eq_getElem h]; exact List.getElem_mem h
theorem few_not {l : List AcT} {j : Nat} (h : j < l.length) (hx : okAct (l.getD j a0) = false ∨ 60 ≤ j) : fewB l = false := by
  unfold fewB
  rcases hx with hx | hx
  · rw [show l.all okAct = false from ?_, Bool.and_false]
    rw [List.all_eq_false]
    exact ⟨_, getD_mem h, by rw [hx]; decide⟩
  · rw [show decide (l.length ≤ 60) = false from decide_eq_false (by omega), Bool.false_and]
set_option maxHeartbeats 2000000 in
theorem few_any {a : Option Addr} {n c : Nat} {l : List AcT} {w : World} (hA : Ats a n l w) (hn : n ≤ 140737488355328) :
    Calls Tryz.prog 5 #[.slice a n c] w fun e w' => e = .returned (.bool (fewB l)) ∧ w = w' := by
  have HA := Lib.hid hA
  have hnI : (n : Int) ≤ 140737488355328 := by omega
  clear hA hn
  go_enter Tryz.func5, Tryz.ntmps5
  go_wp2_with fail
  go_loop [3] (fun i => ∃ j : Nat, j ≤ n ∧ j ≤ 60 ∧ i = .int .i64 (j : Int) ∧ (l.take j).all okAct = true) (fun i => n - (intOf i).toNat)
  case atStart => exact ⟨0, Nat.zero_le _, Nat.zero_le _, rfl, rfl⟩
  case round =>
    obtain ⟨j, hj, hj60, rfl, hall⟩ := hrel
    have HL := Lib.hid hall
    clear hall
    by_cases hlt : j < n
    · obtain ⟨b, off, rfl, h0, h1, h2⟩ := HA.out.cell j hlt
      have hjl : j < l.length := by have := HA.out.count; omega
      have hj0 : (j : Int) < (n : Int) := by omega
      have HT := Lib.hid (takea hjl)
      by_cases h60 : 60 ≤ j
      · have HF := Lib.hid (few_not hjl (.inr h60))
        have h60' : (60 : Int) ≤ (j : Int) := by omega
        clear hjl h0 h1 h2
        go_wp2_with fail
        go_ret
        exact ⟨by rw [HF.out]; rfl, rfl⟩
      · have h60' : ¬ (60 : Int) ≤ (j : Int) := by omega
        have HN := Lib.hid (fun h => few_not hjl (.inl h))
        generalize l.getD j a0 = x at h0 h1 h2 HN HT
        by_cases hk : x.k.size ≤ 100
        · have hk' : (x.k.size : Int) ≤ 100 := by omega
          by_cases hv : x.v.size ≤ 200
          · have hv' : (x.v.size : Int) ≤ 200 := by omega
            have HX := Lib.hid (show okAct x = true by unfold okAct; rw [decide_eq_true hk, decide_eq_true hv]; rfl)
            clear hk hv hjl h2
            go_wp2_with fail
            go_round
            case rel => exact ⟨j + 1, by omega, by omega, by go_num, by rw [HT.out, List.all_append, HL.out]; simp [HX.out]⟩
            case measure => simp [intOf]; omega
          · have hv' : (200 : Int) < (x.v.size : Int) := by omega
            have HX := Lib.hid (HN.out (show okAct x = false by unfold okAct; rw [decide_eq_false hv, Bool.and_false]))
            clear hk hv hjl h2 HN
            go_wp2_with fail
            go_ret
            exact ⟨by rw [HX.out]; rfl, rfl⟩
        · have hk' : (100 : Int) < (x.k.size : Int) := by omega
          have HX := Lib.hid (HN.out (show okAct x = false by unfold okAct; rw [decide_eq_false hk, Bool.false_and]))
          clear hk hjl h2 HN
          go_wp2_with fail
          go_ret
          exact ⟨by rw [HX.out]; rfl, rfl⟩
    · obtain rfl : j = n := by omega
      have HF := Lib.hid (show fewB l = true by
        have h1 := HA.out.count
        have h2 := HL.out
        rw [h1, List.take_length] at h2
        unfold fewB; rw [h2, decide_eq_true (by omega)]; rfl)
      go_wp2_with fail
      go_ret
      exact ⟨by rw [HF.out]; rfl, rfl⟩
end Go.Proofs.YtheobkepoocamaaGreatDoor
namespace Go.Proofs.YtheobkepoocamaaGreatDoor
set_option maxRecDepth 100000
open Go.RowKit Go.Less
/-- One act. -/
def act (p : List Pr) (x : AcT) : List Pr := if x.g then Tr.del p x.k else Tr.put less p x.k x.v
def run (l : List AcT) : List Pr := l.foldl act []
theorem run_snoc (l : List AcT) (x : AcT) : run (l ++ [x]) = act (run l) x := by unfold run; rw [List.foldl_append]; rfl
theorem act_len (p : List Pr) (x : AcT) : (act p x).length ≤ p.length + 1 := by
  unfold act; split
  · exact Nat.le_succ_of_le (rdel_len p x.k)
  · exact rput_len p x.k x.v
theorem act_short {p : List Pr} {x : AcT} (h : Short p) (hx : okAct x = true) : Short (act p x) := by
  unfold okAct at hx
  rw [Bool.and_eq_true, decide_eq_true_eq, decide_eq_true_eq] at hx
  unfold act; split
  · exact fun y hy => h y (Tr.mem_del.1 hy).1
  · intro y hy
    rcases Tr.mem_put hy with rfl | hy
    · exact hx
    · exact h y hy
theorem run_take {l : List AcT} {j : Nat} (h : j < l.length) : run (l.take (j + 1)) = act (run (l.take j)) (l.getD j a0) := by rw [takea h, run_snoc]
theorem run_short (l : List AcT) (h : l.all okAct = true) : ∀ j, j ≤ l.length → Short (run (l.take j)) ∧ (run (l.take j)).length ≤ j := by
  intro j
  induction j with
  | zero => exact fun _ => ⟨fun y hy => (by cases hy), Nat.le_refl _⟩
  | succ j ih =>
    intro hj
    obtain ⟨h1, h2⟩ := ih (by omega)
    rw [run_take (by omega)]
    have hx := List.all_eq_true.1 h _ (getD_mem (l := l) (j := j) (by omega))
    exact ⟨act_short h1 hx, by have := act_len (run (l.take j)) (l.getD j a0); omega⟩
/-- A map and pairs are answered. -/
def Did (p : List Pr) (w : World) (e : Ending) (w' : World) : Prop := ∃ m ao cap, e = .returned (.tuple #[pv m, .slice ao p.length cap]) ∧ Rp w' m p ∧ Prs ao p.length p w' ∧ p.length ≤ cap ∧ Below w.heap.size w w'
theorem own_cap {w : World} {base : Nat} {ao : Option Addr} {cap : Nat} {l : List Pr} (h : Own base (.slice ao l.length cap) l w) : l.length ≤ cap := by
  obtain ⟨_, ⟨e, h0⟩ | ⟨g, cap', cur, e, _, _, h1, _⟩⟩ := h
  · rw [h0]; exact Nat.zero_le _
  · injection e with _ _ e; rw [e]; exact h1
/-- Where the loop stands. -/
structure Doing (w : World) (p : List Pr) (m : Option Nat) (ao : Option Addr) (cap : Nat) (W : World) : Prop where
  map : Rp W m p
  prs : Prs ao p.length p W
  cap : p.length ≤ cap
  below : Below w.heap.size w W
theorem Doing.kept {w W W' : World} {p : List Pr} {m : Option Nat} {ao : Option Addr} {cap : Nat} (h : Doing w p m ao cap W) (hb : Below W.heap.size W W') : Doing w p m ao cap W' :=
  ⟨h.map.below hb, h.prs.below hb, h.cap, btr hb h.below⟩
set_option maxHeartbeats 4000000 in
theorem does_any {a : Option Addr} {n c : Nat} {l : List AcT} {w : World} (hA : Ats a n l w) (hn : n ≤ 200) (hl : l.all okAct = true) (hD : Dg w) : Calls Tryz.prog 6 #[.slice a n c] w (Did (run l) w) := by
  have HA := Lib.hid hA
  have hnI : (n : Int) ≤ 200 := by omega
  have HD := Lib.hid hD
  have HS := Lib.hid (run_short l hl)
  have HO := Lib.hid (fun j (hj : j < l.length) => List.all_eq_true.1 hl _ (getD_mem hj))
  have HN := Lib.hid hn
  clear hA hn hl hD
  go_enter Tryz.func6, Tryz.ntmps6
  go_wp2_with fail
  go_loopw [4, 5, 6] (fun x y i wr => ∃ (j : Nat) (p : List Pr) (m : Option Nat) (ao : Option Addr) (cap : Nat), j ≤ n ∧ i = .int .i64 (j : Int) ∧ x = pv m ∧ y = .slice ao p.length cap ∧ p = run (l.take j) ∧ Doing w p m ao cap wr) (fun _ _ i _ => n - (intOf i).toNat)
  case atStart => exact ⟨0, [], none, none, 0, Nat.zero_le _, rfl, rfl, rfl, rfl, ⟨rp_nil w, prs_nil _ _, Nat.le_refl _, Below.refl _ _⟩⟩
  case round =>
    obtain ⟨j, p, m, ao, cap, hj, rfl, rfl, rfl, hp, hG⟩ := hrel
    have HG := Lib.hid hG
    have HP := Lib.hid hp
    have hpl : p.length ≤ 200 := by
      have h1 := HA.out.count
      have h2 := (HS.out j (by omega)).2
      have h3 := HN.out
      rw [← hp] at h2; omega
    have HPL := Lib.hid hpl
    clear hG hp hpl
    by_cases hlt : j < n
    · obtain ⟨b, off, rfl, h0, h1, h2⟩ := HA.out.cell j hlt
      have hjl : j < l.length := by have := HA.out.count; omega
      have hj0 : (j : Int) < (n : Int) := by omega
      have HT := Lib.hid (run_take hjl)
      have hx := HO.out j hjl
      generalize l.getD j a0 = x at h0 h1 h2 HT hx
      unfold okAct at hx
      rw [Bool.and_eq_true, decide_eq_true_eq, decide_eq_true_eq] at hx
      have HX := Lib.hid hx
      have HC := Lib.hid (show ∀ W, Below w.heap.size w W → W.cell? ⟨b, off + j * 3, none⟩ = some (.string x.k) ∧ W.cell? ⟨b, off + j * 3 + 1, none⟩ = some (.string x.v) ∧ W.cell? ⟨b, off + j * 3 + 2, none⟩ = some (.bool x.g) from fun W hb =>
        ⟨(hb.cell (p := ⟨b, off + j * 3, none⟩) (block_lt_of_cell h0)).trans h0, (hb.cell (p := ⟨b, off + j * 3 + 1, none⟩) (block_lt_of_cell h1)).trans h1, (hb.cell (p := ⟨b, off + j * 3 + 2, none⟩) (block_lt_of_cell h2)).trans h2⟩)
      obtain ⟨c0, c1, c2⟩ := HC.out _ HG.out.below
      clear h0 h1 h2 hx hjl
      cases hg : x.g
      · -- put
        have HE := Lib.hid (show run (l.take (j + 1)) = Tr.put less p x.k x.v by rw [HT.out, ← HP.out]; unfold act; rw [hg]; rfl)
        rw [hg] at c2
        have hbd := HG.out.below.drew
        have hgd := HG.out.kept (Below.refl wr.heap.size wr).drew
        have HPut := Lib.hid (mput_any hgd.map (HD.out.below hbd) (Nat.le_trans HPL.out (by decide)) x.k x.v HX.out.1 HX.out.2)
        have HGd := Lib.hid hgd
        clear hgd
        go_wp2_with fail
        go_region_held3 (fun W => W.cell? ⟨b, off + j * 3, none⟩ = some (.string x.k) ∧ W.cell? ⟨b, off + j * 3 + 1, none⟩ = some (.string x.v))
          (first | exact ⟨(HC.out _ hbd).1, (HC.out _ hbd).2.1⟩ | exact ⟨(HC.out _ HG1.out.below).1, (HC.out _ HG1.out.below).2.1⟩)
          ((go_at_call 12; (with_reducible refine HPut.out.mono ?_); rintro e w1 ⟨m1, rfl, hm1, hw1⟩; have HG1 := Lib.hid (HGd.out.kept hw1); have HM1 := Lib.hid hm1))
        clear c0 c1 c2 hbd HPut hm1 hw1
        obtain ⟨d0, d1, d2⟩ := HC.out _ HG1.out.below
        have hbd := HG1.out.below.drew
        have hgd := HG1.out.kept (Below.refl w1.heap.size w1).drew
        have HRPut := Lib.hid (rput_any ao p.length cap p x.k x.v w1.drew hgd.prs (Nat.le_trans HPL.out (by decide)))
        have HGd1 := Lib.hid hgd
        clear hgd d2
        go_wp2_with fail
        go_region_held3 (fun W => W.cell? ⟨b, off + j * 3, none⟩ = some (.string x.k) ∧ W.cell? ⟨b, off + j * 3 + 1, none⟩ = some (.string x.v))
          (first | exact ⟨(HC.out _ hbd).1, (HC.out _ hbd).2.1⟩ | exact ⟨(HC.out _ HG2.out.below).1, (HC.out _ HG2.out.below).2.1⟩)
          ((go_at_call 19; (with_reducible refine HRPut.out.mono ?_); rintro e w2 ⟨ao2, cap2, rfl, ho2, hw2⟩; have HG2 := Lib.hid (show Doing w (put p x.k x.v) m1 ao2 cap2 w2 from ⟨HM1.out.below ((Below.refl w1.heap.size w1).drew.trans hw2), own_prs ho2, own_cap ho2, btr hw2 HGd1.out.below⟩)))
        clear d0 d1 hbd HRPut ho2 hw2
        go_wp2_with fail
        go_roundw
        case rel => exact ⟨j + 1, put p x.k x.v, m1, ao2, cap2, by omega, by go_num, rfl, rfl, HE.out.symm, HG2.out⟩
        case measure => simp [intOf]; omega
      · have HE := Lib.hid (show run (l.take (j + 1)) = Tr.del p x.k by rw [HT.out, ← HP.out]; unfold act; rw [hg]; rfl)
        rw [hg] at c2
        go_wp2_with fail
        refine (mdel_any HG.out.map (HD.out.below HG.out.below) (Nat.le_trans HPL.out (by decide)) x.k).mono ?_
        rintro e w1 ⟨m1, rfl, hm1, hw1⟩
        have HG1 := Lib.hid (HG.out.kept hw1)
        have HM1 := Lib.hid hm1
        obtain ⟨d0, d1, d2⟩ := HC.out _ HG1.out.below
        clear c0 c1 c2 d1 d2 hm1 hw1
        dsimp only
        go_wp2_with fail
        refine (rdel_any ao p.length cap p x.k w1 HG1.out.prs (Nat.le_trans HPL.out (by decide))).mono ?_
        rintro e w2 ⟨ao2, cap2, rfl, ho2, hw2⟩
        have HG2 := Lib.hid (show Doing w (Tr.del p x.k) m1 ao2 cap2 w2 from ⟨HM1.out.below hw2, own_prs ho2, own_cap ho2, btr hw2 HG1.out.below⟩)
        clear ho2 hw2 d0
        dsimp only
        go_wp2_with fail
        go_roundw
        case rel => exact ⟨j + 1, Tr.del p x.k, m1, ao2, cap2, by omega, by go_num, rfl, rfl, HE.out.symm, HG2.out⟩
        case measure => simp [intOf]; omega
    · obtain rfl : j = n := by omega
      have HE := Lib.hid (show run l = p by rw [HP.out, HA.out.count, List.take_length])
      go_wp2_with fail
      go_ret2
      rw [HE.out]
      exact ⟨m, ao, cap, rfl, HG.out.map, HG.out.prs, HG.out.cap, HG.out.below⟩
end Go.Proofs.YtheobkepoocamaaGreatDoor
