/- Put, Del, Get, Name, Len. -/
import Derived.Test.YtheobkepoocamaaGreatDoorCanon
import Derived.Test.YtheobkepoocamaaGreatDoorPut
import Derived.Test.YtheobkepoocamaaGreatDoorPair
namespace Go.Proofs.YtheobkepoocamaaGreatDoor
set_option maxRecDepth 100000
open Go.RowKit Go.Less Sha
theorem field51_1 (a b : ByteArray) (c : Int) (w : World) : (Instr.field 51 (.agg #[.string a, .string b, .int .i64 c]) 1).run Tryz.prog w = .ok (.string b) w := by kernel_rfl
theorem field51_2 (a b : ByteArray) (c : Int) (w : World) : (Instr.field 51 (.agg #[.string a, .string b, .int .i64 c]) 2).run Tryz.prog w = .ok (.int .i64 c) w := by kernel_rfl
/-- A map is answered. -/
def Mapped (l : List Pr) (w : World) (e : Ending) (w' : World) : Prop := ∃ m, e = .returned (pv m) ∧ Rp w' m l ∧ Below w.heap.size w w'
theorem lone_node {w : World} {b : Nat} {x y : ByteArray} (h : Tree w (some b) (.node .leaf x y .leaf)) : Node w b .leaf x y .leaf none none := by
  obtain ⟨b', pl, pr, e, hN⟩ := tree_node h
  injection e with e
  subst e
  have h1 : pl = none := hN.left
  have h2 : pr = none := hN.right
  subst h1; subst h2
  exact hN
set_option maxHeartbeats 1000000 in
theorem mput_any {w : World} {m : Option Nat} {l : List Pr} (h : Rp w m l) (hD : Dg w) (hn : l.length ≤ 5000) (k v : ByteArray) (hk : k.size ≤ 100) (hv : v.size ≤ 200) :
    Calls Tryz.prog 12 #[pv m, .string k, .string v] w (Mapped (Tr.put less l k v) w) := by
  have HT := Lib.hid (treeOf_any h.map)
  have HP := Lib.hid (pair_any k v w hD hk hv)
  have HS := Lib.hid h.sorted
  have HD := Lib.hid hD
  have hlen : (cn l).len ≤ 10000 := by rw [cn_len]; omega
  have HL := Lib.hid hlen
  have HE := Lib.hid (cn_put h.sorted k v)
  have HQ := Lib.hid (Tr.sorted_put rising h.sorted k v)
  clear h hD hn hk hv hlen
  go_enter Tryz.func12, Tryz.ntmps12
  go_wp2_with fail
  refine HT.out.mono ?_
  rintro e w' ⟨p, rfl, hp, rfl⟩
  have HPP := Lib.hid hp
  clear hp
  dsimp only
  go_wp2_with fail
  refine HP.out.mono ?_
  rintro e w1 ⟨b, rfl, hb, hw1⟩
  dsimp only
  go_wp2_with fail
  refine (put_any k v b (cn l) p w1 (HPP.out.below hw1) (lone_node hb) (HD.out.below hw1) HL.out).mono ?_
  rintro e w2 ⟨q, rfl, hq, hw2⟩
  dsimp only
  go_wp2_with fail
  refine (mapOf_any hq).mono ?_
  rintro e w3 ⟨m', rfl, hm, hw3⟩
  dsimp only
  go_wp2_with fail
  go_ret
  exact ⟨m', rfl, ⟨HQ.out, by rw [← HE.out]; exact hm⟩, btrans hw3 (btrans hw2 hw1)⟩
set_option maxHeartbeats 1000000 in
theorem mdel_any {w : World} {m : Option Nat} {l : List Pr} (h : Rp w m l) (hD : Dg w) (hn : l.length ≤ 5000) (k : ByteArray) :
    Calls Tryz.prog 15 #[pv m, .string k] w (Mapped (Tr.del l k) w) := by
  have HT := Lib.hid (treeOf_any h.map)
  have HD := Lib.hid hD
  have hlen : (cn l).len ≤ 10000 := by rw [cn_len]; omega
  have HL := Lib.hid hlen
  have HE := Lib.hid (cn_drop h.sorted k)
  have HQ := Lib.hid (Tr.sorted_del h.sorted k)
  clear h hD hn hlen
  go_enter Tryz.func15, Tryz.ntmps15
  go_wp2_with fail
  refine HT.out.mono ?_
  rintro e w' ⟨p, rfl, hp, rfl⟩
  have HPP := Lib.hid hp
  clear hp
  dsimp only
  go_wp2_with fail
  refine (drop_any k (cn l) p w HPP.out HD.out HL.out).mono ?_
  rintro e w2 ⟨q, rfl, hq, hw2⟩
  dsimp only
  go_wp2_with fail
  refine (mapOf_any hq).mono ?_
  rintro e w3 ⟨m', rfl, hm, hw3⟩
  dsimp only
  go_wp2_with fail
  go_ret
  exact ⟨m', rfl, ⟨HQ.out, by rw [← HE.out]; exact hm⟩, btrans hw3 hw2⟩
set_option maxHeartbeats 1000000 in
theorem mlen_any {w : World} {m : Option Nat} {l : List Pr} (h : Rp w m l) : Calls Tryz.prog 17 #[pv m] w fun e w' => e = .returned (.int .i64 (l.length : Int)) ∧ Below w.heap.size w w' := by
  have HT := Lib.hid (treeOf_any h.map)
  have HN := Lib.hid (cn_len l)
  have hf := field51_2
  clear h
  go_enter Tryz.func17, Tryz.ntmps17
  go_wp2_with fail
  refine HT.out.mono ?_
  rintro e w' ⟨p, rfl, hp, rfl⟩
  dsimp only
  go_wp2_with fail
  refine (loadOf_any hp).mono ?_
  rw [ld_eq]
  rintro e w1 ⟨rfl, hw1⟩
  dsimp only
  go_wp2_with fail
  go_ret
  exact ⟨by rw [← HN.out]; rfl, hw1⟩
set_option maxHeartbeats 1000000 in
theorem mname_any {w : World} {m : Option Nat} {l : List Pr} (h : Rp w m l) : Calls Tryz.prog 16 #[pv m] w fun e w' => e = .returned (.string (nm (cn l))) ∧ Below w.heap.size w w' := by
  have HT := Lib.hid (treeOf_any h.map)
  have HC := Lib.hid (fun W => clone_any (nm (cn l)) W (Nat.le_trans (nm_size _) (by decide)))
  have hf := field51_1
  clear h
  go_enter Tryz.func16, Tryz.ntmps16
  go_wp2_with fail
  refine HT.out.mono ?_
  rintro e w' ⟨p, rfl, hp, rfl⟩
  dsimp only
  go_wp2_with fail
  refine (loadOf_any hp).mono ?_
  rw [ld_eq]
  rintro e w1 ⟨rfl, hw1⟩
  dsimp only
  go_wp2_with fail
  refine (HC.out _).mono ?_
  rintro e w2 ⟨rfl, hw2⟩
  dsimp only
  go_wp2_with fail
  go_ret
  exact ⟨rfl, btrans hw2 hw1⟩
set_option maxHeartbeats 1000000 in
theorem mget_there {w : World} {m : Option Nat} {l : List Pr} (h : Rp w m l) (x v : ByteArray) (hx : Tr.get l x = some v) : Calls Tryz.prog 13 #[pv m, .string x] w fun e w' => e = .returned (.tuple #[.string v, .bool true]) ∧ Below w.heap.size w w' := by
  have HT := Lib.hid (treeOf_any h.map)
  have hf := cn_find h.sorted x
  rw [hx] at hf
  have HF := Lib.hid hf
  clear h hf
  go_enter Tryz.func13, Tryz.ntmps13
  go_wp2_with fail
  refine HT.out.mono ?_
  rintro e w' ⟨p, rfl, hp, rfl⟩
  dsimp only
  go_wp2_with fail
  refine (find_any hp x).mono ?_
  rintro e w' ⟨q, rfl, hq, rfl⟩
  have hfo := HF.out
  generalize Tr.T.find less (cn l) x = u at hq hfo
  cases u with
  | leaf => cases hfo
  | node l' k' v' r' =>
    obtain rfl : v' = v := by injection hfo
    obtain ⟨b, pl, pr, rfl, hN⟩ := tree_node hq
    have c2 := hN.c2
    have HC := Lib.hid (clone_any v' w (Nat.le_trans hN.val (by decide)))
    clear hN hq hfo HF hp HT
    simp only [pv, ap_some]
    go_wp2_with fail
    refine HC.out.mono ?_
    rintro e w2 ⟨rfl, hw2⟩
    dsimp only
    go_wp2_with fail
    go_ret2
    exact ⟨rfl, hw2⟩
end Go.Proofs.YtheobkepoocamaaGreatDoor
