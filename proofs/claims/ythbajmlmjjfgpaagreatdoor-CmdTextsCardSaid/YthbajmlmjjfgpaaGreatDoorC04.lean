/- A part of the proofs. -/
import Derived.Lib.AppendStr
import Derived.Deep.RegionLaw
import Derived.Deep.AppendLies
import Derived.Laws.OwnMore
import Derived.OwnWalk
import Derived.Laws.MakeOwn
import Derived.Lib.ConvBytes
import Derived.Laws.IdiomStrings
import Derived.Laws.AppendOwn
import Derived.Laws.BytesArg
import Derived.Test.YthbajmlmjjfgpaaGreatDoorC03
set_option maxRecDepth 1000000
set_option maxHeartbeats 16000000
open Go.Lib (hid)
open Go.Proofs.Tryz
namespace Go.Proofs.YthbajmlmjjfgpaaGreatDoor.T8
open Go.RowKit Go.Less Sha
theorem rank_at (k : ByteArray) (w : World) (g : Nat) (hc : w.cell? ⟨g, 0, none⟩ = some (.string k)) (hD : Dg w) (hk : k.size <= 100) :
  Calls prog 210 #[.int .u8 2, .slice (some ⟨g, 0, none⟩) 1 1] w λe w' => e = .returned (.string (rk k)) /\ Below w.heap.size w w' := by
 have hS : Strs (some ⟨g, 0, none⟩) 1 [k] w :=
  ⟨rfl, λi hi => ⟨g, 0, rfl, by
   match i, hi with
   | 0, _ => rw [Nat.zero_add]; exact hc⟩⟩
 refine (join_any 2 (some ⟨g, 0, none⟩) 1 1 [k] _ hD.k hD.i hS ?_ (by omega)).mono ?_
 ·simp only [joined, List.flatMap_cons, List.flatMap_nil, List.length_append, num_length, size_data, List.length_nil]; omega
 ·rintro e w' ⟨rfl, h⟩
  exact ⟨rfl, h⟩
theorem above_leaf (k v : ByteArray) (w : World) (hD : Dg w) (hk : k.size <= 100) (hv : v.size <= 10000) :
  Calls prog 283 #[.agg #[.string v, .string ⟨#[]⟩, .int .i64 0], .string k, .agg #[.string ⟨#[]⟩, .string ⟨#[]⟩, .int .i64 0], .agg #[.string ⟨#[]⟩, .string ⟨#[]⟩, .int .i64 0]] w λe w' => e = .returned (.agg #[.string v, .string (nm (.node .leaf k v .leaf)), .int .i64 1]) /\ Below w.heap.size w w' := above_lit v ⟨#[]⟩ 0 k .leaf .leaf w hD hk hv (by decide) (by decide)
theorem getd {A B C D E F G : Prop} (h : A /\ B /\ C /\ D /\ E /\ F /\ G) : G := h.2.2.2.2.2.2
def Lf (w : World) (g z : Nat) (v : ByteArray) (W : World) : Prop :=
 W.cell? ⟨g, 0, none⟩ = some (.string v) /\ W.cell? ⟨g, 1, none⟩ = some (.string ⟨#[]⟩) /\ W.cell? ⟨g, 2, none⟩ = some (.int .i64 0) /\ W.cell? ⟨z, 0, none⟩ = some (.string ⟨#[]⟩) /\ W.cell? ⟨z, 1, none⟩ = some (.string ⟨#[]⟩) /\ W.cell? ⟨z, 2, none⟩ = some (.int .i64 0) /\ Below w.heap.size w W
theorem Lf.kept {w w1 W : World} {g z : Nat} {v : ByteArray} (hb : Below w1.heap.size w1 W) (h : Lf w g z v w1) : Lf w g z v W :=
 have q {x : Nat} {o : Nat} {y : Value} (hc : w1.cell? ⟨x, o, none⟩ = some y) : W.cell? ⟨x, o, none⟩ = some y := (hb.cell (p := ⟨x, o, none⟩) (block_lt_of_cell hc)).trans hc
 ⟨q h.1, q h.2.1, q h.2.2.1, q h.2.2.2.1, q h.2.2.2.2.1, q h.2.2.2.2.2.1, btrans hb h.2.2.2.2.2.2⟩
theorem leaf_any (k v : ByteArray) (w : World) (hD : Dg w) (hk : k.size <= 100) (hv : v.size <= 10000) :
  Calls prog 198 #[.string k, .agg #[.string v, .string ⟨#[]⟩, .int .i64 0]] w (Grown (.node .leaf k v .leaf) w) := by
 have hz := zero51
 have hm := method_above
 have HC := hid (λW => clone_any k W (by omega))
 have HD := hid hD
 have HA := hid (λW hD => above_leaf k v W hD hk hv)
 clear hD
 go_enter func198, ntmps198
 go_wp2_with fail
 refine (HC.out _).mono ?_
 rintro e w1 ⟨rfl, hw1⟩
 have hB := balloc (.cells #[.string ⟨#[]⟩, .string ⟨#[]⟩, .int .i64 0] 112) (below_one w (.cells #[.string v, .string ⟨#[]⟩, .int .i64 0] 112))
 have hL : Lf w w.heap.size (w.heap.size + 1) v w1 := Lf.kept hw1 ⟨by go_simp, by go_simp, by go_simp, by go_simp, by go_simp, by go_simp, hB⟩
 clear hw1 hB
 have hL' := Lf.kept (Below.refl w1.heap.size w1).drew hL
 dsimp only
 go_wp2_with fail
 go_region_held3 (λW => W.cell? ⟨w.heap.size, 0, none⟩ = some (.string v) /\ W.cell? ⟨w.heap.size, 1, none⟩ = some (.string ⟨#[]⟩) /\ W.cell? ⟨w.heap.size, 2, none⟩ = some (.int .i64 0) /\ W.cell? ⟨w.heap.size + 1, 0, none⟩ = some (.string ⟨#[]⟩) /\ W.cell? ⟨w.heap.size + 1, 1, none⟩ = some (.string ⟨#[]⟩) /\ W.cell? ⟨w.heap.size + 1, 2, none⟩ = some (.int .i64 0) /\ Below w.heap.size w W)
  (first | exact hL' | (have hq : Lf w w.heap.size (w.heap.size + 1) v _ := (by assumption); exact hq) | exact Lf.kept (below_one _ _) (by assumption))
  (first
  | (go_at_call 210; (with_reducible refine (rank_at k _ _ (by first | assumption | go_simp) (HD.out.below (getd (by assumption))) hk).mono ?_); rintro e w2 ⟨rfl, hw2⟩; have hl2 := Lf.kept hw2 (by assumption))
  | (go_at_call 283; (with_reducible refine (HA.out _ (HD.out.below (getd (by assumption)))).mono ?_); rintro e w3 ⟨rfl, hw3⟩; have hl3 := Lf.kept hw3 (by assumption)))
 go_wp2_with fail
 go_ret
 have hb := getd hl3
 have h1 := balloc (.cells #[.string k, .string (rk k), .string v, .string (nm (.node .leaf k v .leaf)), .int .i64 1, .pointer none, .pointer none] 156) hb
 exact ⟨w3.heap.size, rfl, ⟨w3.heap.size, none, none, rfl, heap_alloc_new w3 _, hk, hv, rfl, rfl⟩, h1⟩
theorem pair_any (k v : ByteArray) (w : World) (hD : Dg w) (hk : k.size <= 100) (hv : v.size <= 10000) :
  Calls prog 171 #[.string k, .string v] w (Grown (.node .leaf k v .leaf) w) := by
 have HC := hid (clone_any v w (by omega))
 have HL := hid (λW hD => leaf_any k v W hD hk hv)
 go_enter func171, ntmps171
 go_wp2_with fail
 refine HC.out.mono ?_
 rintro e w1 ⟨rfl, hw1⟩
 dsimp only
 go_wp2_with fail
 refine (HL.out _ (hD.below hw1)).mono ?_
 rintro e w2 ⟨b, rfl, hT, hw2⟩
 dsimp only
 go_wp2_with fail
 go_ret
 exact ⟨b, rfl, hT, btrans hw2 hw1⟩
theorem field51_1 (a b : ByteArray) (c : Int) (w : World) : (Instr.field 112 (.agg #[.string a, .string b, .int .i64 c]) 1).run prog w = .ok (.string b) w := by kernel_rfl
theorem field51_2 (a b : ByteArray) (c : Int) (w : World) : (Instr.field 112 (.agg #[.string a, .string b, .int .i64 c]) 2).run prog w = .ok (.int .i64 c) w := by kernel_rfl
def Mapped (l : List Pr) (w : World) (e : Ending) (w' : World) : Prop := ∃ m, e = .returned (pv m) /\ Rp w' m l /\ Below w.heap.size w w'
theorem lone_node {w : World} {b : Nat} {x y : ByteArray} (h : Tree w (some b) (.node .leaf x y .leaf)) : Node w b .leaf x y .leaf none none := by
 obtain ⟨b', pl, pr, e, hN⟩ := tree_node h
 injection e with e
 subst e
 have h1 : pl = none := hN.left
 have h2 : pr = none := hN.right
 subst h1; subst h2
 exact hN
theorem mput_any {w : World} {m : Option Nat} {l : List Pr} (h : Rp w m l) (hD : Dg w) (hn : l.length <= 5000) (k v : ByteArray) (hk : k.size <= 100) (hv : v.size <= 10000) :
  Calls prog 133 #[pv m, .string k, .string v] w (Mapped (Tr.put less l k v) w) := by
 have HT := hid (treeOf_any h.map)
 have HP := hid (pair_any k v w hD hk hv)
 have HD := hid hD
 have hlen : (cn l).len <= 10000 := by rw [cn_len]; omega
 have HL := hid hlen
 have HE := hid (cn_put h.sorted k v)
 have HQ := hid (Tr.sorted_put rising h.sorted k v)
 clear h hD hn hk hv hlen
 go_enter func133, ntmps133
 go_wp2_with fail
 refine HT.out.mono ?_
 rintro e w' ⟨p, rfl, hp, rfl⟩
 have HPP := hid hp
 clear hp
 dsimp only
 go_wp2_with fail
 refine HP.out.mono ?_
 rintro e w1 ⟨b, rfl, hb, hw1⟩
 dsimp only
 go_wp2_with fail
 refine (put_any k v b (cn l) p w1 (HPP.out.below hw1) (lone_node hb) (HD.out.below hw1) HL.out).mono ?_
 rintro e w2 ⟨q, rfl, hq, hw2⟩
 dsimp only
 go_wp2_with fail
 refine (mapOf_any hq).mono ?_
 rintro e w3 ⟨m', rfl, hm, hw3⟩
 dsimp only
 go_wp2_with fail
 go_ret
 exact ⟨m', rfl, ⟨HQ.out, by rw [<- HE.out]; exact hm⟩, btrans hw3 (btrans hw2 hw1)⟩
theorem mdel_any {w : World} {m : Option Nat} {l : List Pr} (h : Rp w m l) (hD : Dg w) (hn : l.length <= 5000) (k : ByteArray) :
  Calls prog 112 #[pv m, .string k] w (Mapped (Tr.del l k) w) := by
 have HT := hid (treeOf_any h.map)
 have HD := hid hD
 have hlen : (cn l).len <= 10000 := by rw [cn_len]; omega
 have HL := hid hlen
 have HE := hid (cn_drop h.sorted k)
 have HQ := hid (Tr.sorted_del h.sorted k)
 clear h hD hn hlen
 go_enter func112, ntmps112
 go_wp2_with fail
 refine HT.out.mono ?_
 rintro e w' ⟨p, rfl, hp, rfl⟩
 have HPP := hid hp
 clear hp
 dsimp only
 go_wp2_with fail
 refine (drop_any k (cn l) p w HPP.out HD.out HL.out).mono ?_
 rintro e w2 ⟨q, rfl, hq, hw2⟩
 dsimp only
 go_wp2_with fail
 refine (mapOf_any hq).mono ?_
 rintro e w3 ⟨m', rfl, hm, hw3⟩
 dsimp only
 go_wp2_with fail
 go_ret
 exact ⟨m', rfl, ⟨HQ.out, by rw [<- HE.out]; exact hm⟩, btrans hw3 hw2⟩
theorem mlen_any {w : World} {m : Option Nat} {l : List Pr} (h : Rp w m l) : Calls prog 101 #[pv m] w λe w' => e = .returned (.int .i64 (l.length : Int)) /\ Below w.heap.size w w' := by
 have HT := hid (treeOf_any h.map)
 have HN := hid (cn_len l)
 have hf := field51_2
 clear h
 go_enter func101, ntmps101
 go_wp2_with fail
 refine HT.out.mono ?_
 rintro e w' ⟨p, rfl, hp, rfl⟩
 dsimp only
 go_wp2_with fail
 refine (loadOf_any hp).mono ?_
 rw [ld_eq]
 rintro e w1 ⟨rfl, hw1⟩
 dsimp only
 go_wp2_with fail
 go_ret
 exact ⟨by rw [<- HN.out]; rfl, hw1⟩
theorem mname_any {w : World} {m : Option Nat} {l : List Pr} (h : Rp w m l) : Calls prog 18 #[pv m] w λe w' => e = .returned (.string (nm (cn l))) /\ Below w.heap.size w w' := by
 have HT := hid (treeOf_any h.map)
 have HC := hid (λW => clone_any (nm (cn l)) W (Nat.le_trans (nm_size _) (by decide)))
 have hf := field51_1
 clear h
 go_enter func18, ntmps18
 go_wp2_with fail
 refine HT.out.mono ?_
 rintro e w' ⟨p, rfl, hp, rfl⟩
 dsimp only
 go_wp2_with fail
 refine (loadOf_any hp).mono ?_
 rw [ld_eq]
 rintro e w1 ⟨rfl, hw1⟩
 dsimp only
 go_wp2_with fail
 refine (HC.out _).mono ?_
 rintro e w2 ⟨rfl, hw2⟩
 dsimp only
 go_wp2_with fail
 go_ret
 exact ⟨rfl, btrans hw2 hw1⟩
theorem mget_there {w : World} {m : Option Nat} {l : List Pr} (h : Rp w m l) (x v : ByteArray) (hx : Tr.get l x = some v) : Calls prog 32 #[pv m, .string x] w λe w' => e = .returned (.tuple #[.string v, .bool true]) /\ Below w.heap.size w w' := by
 have HT := hid (treeOf_any h.map)
 have hf := cn_find h.sorted x
 rw [hx] at hf
 have HF := hid hf
 clear h hf
 go_enter func32, ntmps32
 go_wp2_with fail
 refine HT.out.mono ?_
 rintro e w' ⟨p, rfl, hp, rfl⟩
 dsimp only
 go_wp2_with fail
 refine (find_any hp x).mono ?_
 rintro e w' ⟨q, rfl, hq, rfl⟩
 have hfo := HF.out
 generalize Tr.T.find less (cn l) x = u at hq hfo
 cases u with
 | leaf => cases hfo
 | node l' k' v' r' =>
  obtain rfl : v' = v := by injection hfo
  obtain ⟨b, pl, pr, rfl, hN⟩ := tree_node hq
  have c2 := hN.c2
  have HC := hid (clone_any v' w (Nat.le_trans hN.val (by decide)))
  clear hN hq hfo HF hp HT
  simp only [pv, ap_some]
  go_wp2_with fail
  refine HC.out.mono ?_
  rintro e w2 ⟨rfl, hw2⟩
  dsimp only
  go_wp2_with fail
  go_ret2
  exact ⟨rfl, hw2⟩
end Go.Proofs.YthbajmlmjjfgpaaGreatDoor.T8
namespace Go.Proofs.YthbajmlmjjfgpaaGreatDoor.T8
open Go.RowKit Sha
attribute [local go_sem 9000] run_bytes1
def byteOf (q : Nat) : UInt8 := UInt8.ofNat q
theorem byteOf_eq (q : Nat) : (q : Int) % 256 = ((byteOf q).toNat : Int) := by unfold byteOf; rw [UInt8.toNat_ofNat']; rfl
def numStr (n k : Nat) : ByteArray := ⟨(num n k).toArray⟩
theorem numStr_data (n k : Nat) : (numStr n k).data.toList = num n k := rfl
def lstr (l : List UInt8) : ByteArray := ⟨l.toArray⟩
theorem lstr_size (l : List UInt8) : (lstr l).size = l.length := by show l.toArray.size = _; rw [List.size_toArray]
theorem lstr_append (a b : List UInt8) : lstr a ++ lstr b = lstr (a ++ b) := by
 apply ByteArray.ext
 rw [ByteArray.data_append]
 apply Array.ext'
 rw [Array.toList_append]; rfl
theorem info9' : (prog.info? 9).map (λi => (i.zero, i.size, i.bytes)) = some (some (.string ⟨#[]⟩), 1, 16) := by kernel_rfl
end Go.Proofs.YthbajmlmjjfgpaaGreatDoor.T8
namespace Go.Proofs.YthbajmlmjjfgpaaGreatDoor.T8
open Go.RowKit
theorem owns_form {w : World} {base : Nat} {e : TypeId} {size : Nat} {v : Value} {n : Nat} {xs : List Value} (h : w.ownsRow base e size v n xs) : ∃ a c, v = .slice a n c := by
 obtain ⟨_, ⟨rfl, rfl⟩ | ⟨g, cap, _, rfl, _⟩⟩ := h
 ·exact ⟨_, _, rfl⟩
 ·exact ⟨_, _, rfl⟩
theorem owns_lt {w : World} {base : Nat} {e : TypeId} {size : Nat} {v : Value} {n : Nat} {xs : List Value} (h : w.ownsRow base e size v n xs) : ∀ k, v.ownBlock = some k -> base <= k /\ k < w.heap.size := by
 intro k hk
 obtain ⟨_, ⟨rfl, rfl⟩ | ⟨g, cap, cur, rfl, h1, h2, _⟩⟩ := h
 ·cases hk
 ·injection hk with hk
  subst hk
  refine ⟨h1, ?_⟩
  rcases Nat.lt_or_ge g w.heap.size with h3 | h3
  ·exact h3
  ·rw [Array.getElem?_eq_none h3] at h2; cases h2
theorem owned_below {w w' : World} {base : Nat} {e : TypeId} {size : Nat} {v : Value} {n : Nat} {xs : List Value} (h : w.ownsRow base e size v n xs) (hb : Below w.heap.size w w') : w'.ownsRow base e size v n xs :=
 World.ownsRow.kept h (⟨hb.os, hb.tape, hb.output, hb.size, λk hk _ => hb.block k hk⟩ : w.grownBy w' none) (by cases v.ownBlock <;> simp)
theorem at_app1 {ops : Array Oper} {rest : List Oper} {o : Oper} {a : Act} {Q : Exit -> Act -> World -> Prop} {w : World} (hgd : o.guard = none) (s x : Operand)
  (ho : o.op = .call { callee := .builtin .append, args := #[s, x], argTypes := #[57, 57] })
  (base : Nat) (v : Value) (n : Nat) (xs : List Value) (hs : a.eval s = v) (hown : w.ownsRow base 9 1 v n xs)
  (b : Nat) (u : Value) (hx : a.eval x = .slice (some ⟨b, 0, none⟩) 1 1) (hc : w.cell? ⟨b, 0, none⟩ = some u) (hu : u.oneCell' = true) (hn : n <= 1000000) (hbase : base <= w.heap.size)
  (h : ∀ ao' cap' w', w'.ownsRow base 9 1 (.slice ao' (n + 1) cap') (n + 1) (xs ++ [u]) -> w.grownBy w' v.ownBlock -> wpList prog ops Q rest (a.put o.dst (.slice ao' (n + 1) cap')) w') :
  wpList prog ops Q (o :: rest) a w := by
 obtain ⟨i0, hi, hz0, hz1, hz2⟩ := info_parts info9'
 refine wpList_append_own w hgd s x 57 ho base 9 i0 (.string ⟨#[]⟩) 1 16 underlying57 hi hz0 hz1 hz2 rfl (by decide) v n xs hs hown ⟨b, 0, none⟩ 1 1 [u] hx rfl ?_ ?_ (by unfold maxLen; omega) (by omega) hbase ?_
 ·intro j y hj
  match j with
  | 0 => simp at hj; subst hj; simpa [Addr.add] using hc
  | j + 1 => simp at hj
 ·intro y hy; simp at hy; subst hy; exact hu
 ·intro v' w' hown' hg _
  obtain ⟨ao', cap', rfl⟩ := owns_form hown'
  exact h ao' cap' w' hown' hg
theorem step_app1 {ops : Array Oper} {o : Oper} {a : Act} {w : World} {K : Act -> World -> Prop} {Q : Exit -> Act -> World -> Prop} {E : Prop} (hgd : o.guard = none) (s x : Operand)
  (ho : o.op = .call { callee := .builtin .append, args := #[s, x], argTypes := #[57, 57] })
  (base : Nat) (v : Value) (n : Nat) (xs : List Value) (hs : a.eval s = v) (hown : w.ownsRow base 9 1 v n xs)
  (b : Nat) (u : Value) (hx : a.eval x = .slice (some ⟨b, 0, none⟩) 1 1) (hc : w.cell? ⟨b, 0, none⟩ = some u) (hu : u.oneCell' = true) (hn : n <= 1000000) (hbase : base <= w.heap.size)
  (h : ∀ ao' cap' w', w'.ownsRow base 9 1 (.slice ao' (n + 1) cap') (n + 1) (xs ++ [u]) -> w.grownBy w' v.ownBlock -> K (a.put o.dst (.slice ao' (n + 1) cap')) w') :
  if Region.wanted o (yielded ops a.tmps) = true then Oper.wp prog o a w K Q else E := by
 have hw : Region.wanted o (yielded ops a.tmps) = true := by simp [Region.wanted, hgd]
 rw [if_pos hw]
 obtain ⟨i0, hi, hz0, hz1, hz2⟩ := info_parts info9'
 refine wp_append_own w s x 57 ho base 9 i0 (.string ⟨#[]⟩) 1 16 underlying57 hi hz0 hz1 hz2 rfl (by decide) v n xs hs hown ⟨b, 0, none⟩ 1 1 [u] hx rfl ?_ ?_ (by unfold maxLen; omega) (by omega) hbase ?_
 ·intro j y hj
  match j with
  | 0 => simp at hj; subst hj; simpa [Addr.add] using hc
  | j + 1 => simp at hj
 ·intro y hy; simp at hy; subst hy; exact hu
 ·intro v' w' hown' hg _
  obtain ⟨ao', cap', rfl⟩ := owns_form hown'
  exact h ao' cap' w' hown' hg
end Go.Proofs.YthbajmlmjjfgpaaGreatDoor.T8
namespace Go.Proofs.YthbajmlmjjfgpaaGreatDoor.T8
open Go.RowKit Go.Less
def Tells (gk : Nat) (lb : Array Value) (m : Nat) (w0 : World) (P : List Tt -> World -> Prop) : Prop := ∀ (pre : List Tt) (b : Nat) (l : Tt) (k v : ByteArray) (r : Tt) (pl pr : Option Nat) (W : World), pre.length < m -> P pre W -> Node w0 b l k v r pl pr ->
 Calls prog gk (#[.pointer (some ⟨b, 0, none⟩)] ++ lb) W λe W' => e = .returned (.tuple #[]) /\ P (pre ++ [.node l k v r]) W'
def Told (P : List Tt -> World -> Prop) (x : List Tt) (e : Ending) (w' : World) : Prop := e = .returned (.tuple #[]) /\ P x w'
theorem walk_any (gk : Nat) (lb : Array Value) (eg : ∀ args w, (callFunc gk args).run prog w = .ok (.enter gk args) w) (w0 : World) (m : Nat) (P : List Tt -> World -> Prop) (hP : Tells gk lb m w0 P) (hB : ∀ pre W, P pre W -> Below w0.heap.size w0 W) :
  ∀ (t : Tt) (p : Option Nat) (pre : List Tt) (W : World), Tree w0 p t -> P pre W -> pre.length + t.len <= m -> Calls prog 173 #[pv p, .func (.func gk) #[] lb] W (Told P (pre ++ t.subs)) := by
 have HP := hid hP
 have HB := hid hB
 clear hP hB
 intro t
 induction t with
 | leaf =>
  intro p pre W hT hp hn
  obtain rfl : p = none := hT
  have HQ := hid hp
  have hm : pre ++ Tr.T.subs (.leaf : Tt) = pre := List.append_nil _
  rw [hm]
  clear hp hn hm
  show Calls prog 173 #[.pointer none, .func (.func gk) #[] lb] W _
  go_enter func173, ntmps173
  go_wp2_with fail
  go_end0
  exact ⟨rfl, HQ.out⟩
 | node l k v r ihl ihr =>
  intro p pre W hT hp hn
  obtain ⟨b, pl, pr, rfl, hN⟩ := tree_node hT
  simp only [Tr.T.len] at hn
  have hb0 := HB.out pre W hp
  have c5 := (hN.below hb0).c5
  have hll := Tr.T.subs_len l
  have HI := hid (ihl pl pre W hN.left hp (by omega))
  have HF := hid (λW1 (h1 : P (pre ++ l.subs) W1) => HP.out (pre ++ l.subs) b l k v r pl pr W1 (by rw [List.length_append, hll]; omega) h1 hN)
  have HJ := hid (λW2 (h2 : P (pre ++ l.subs ++ [.node l k v r]) W2) => ihr pr (pre ++ l.subs ++ [.node l k v r]) W2 hN.right h2 (by simp only [List.length_append, List.length_singleton, hll]; omega))
  have HN := hid hN
  have hm : pre ++ Tr.T.subs (.node l k v r) = pre ++ l.subs ++ [.node l k v r] ++ r.subs := by simp [Tr.T.subs]
  rw [hm]
  clear hT hp hn hN hb0 hll ihl ihr hm
  show Calls prog 173 #[.pointer (some ⟨b, 0, none⟩), .func (.func gk) #[] lb] W _
  go_enter func173, ntmps173
  go_wp2_with fail
  refine HI.out.mono ?_
  rintro e W1 ⟨rfl, h1⟩
  have HH1 := hid h1
  clear h1
  dsimp only
  go_wp2_with fail
  refine (HF.out _ HH1.out).mono ?_
  rintro e W2 ⟨rfl, h2⟩
  have c6 := (HN.out.below (HB.out _ _ h2)).c6
  have HH2 := hid h2
  clear h2
  dsimp only
  go_wp2_with fail
  refine (HJ.out _ HH2.out).mono ?_
  rintro e W3 ⟨rfl, h3⟩
  have HH3 := hid h3
  clear h3
  dsimp only
  go_wp2_with fail
  go_end0
  exact ⟨rfl, HH3.out⟩
end Go.Proofs.YthbajmlmjjfgpaaGreatDoor.T8
namespace Go.Proofs.YthbajmlmjjfgpaaGreatDoor.T8
open Go.RowKit Go.Less
attribute [local go_sem 9000] sem_eql sem_neq sem_lss sem_leq sem_gtr sem_geq
def pairs (l : List Tt) : List Pr := l.filterMap Tr.T.pair?
theorem pairs_snoc (pre : List Tt) (l : Tt) (k v : ByteArray) (r : Tt) : pairs (pre ++ [.node l k v r]) = pairs pre ++ [(k, v)] := by simp [pairs, Tr.T.pair?]
theorem pairs_len (l : List Tt) : (pairs l).length <= l.length := List.length_filterMap_le _ _
theorem pairs_subs (t : Tt) : pairs t.subs = t.rows := Tr.T.subs_rows t
theorem cell_obj {w : World} {b : Nat} {cs : Array Value} {t : TypeId} {fr : Nat × Nat} (h : w.heap[b]? = some (.cells cs t fr)) (k : Nat) : w.cell? ⟨b, k, none⟩ = cs[k]? := by
 simp [World.cell?, h]
theorem free_obj {w : World} {b : Nat} {cs : Array Value} {t : TypeId} (h : w.heap[b]? = some (.cells cs t (0, 0))) (k : Nat) : w.frozen? ⟨b, k, none⟩ = false := by
 simp [World.frozen?, h]
theorem grown_obj {w w' : World} {row : Option Nat} {b : Nat} {o : Obj} (hg : w.grownBy w' row) (h : w.heap[b]? = some o) (hne : some b ≠ row) : w'.heap[b]? = some o := (hg.block b (lt_of_obj h) hne).trans h
theorem set_obj {w : World} {b : Nat} {x y : Value} {t : TypeId} (h : w.heap[b]? = some (.cells #[x] t (0, 0))) : (w.setCell ⟨b, 0, none⟩ y).heap[b]? = some (.cells #[y] t (0, 0)) := by
 have := heap_setCell_same w b 0 #[x] t y h
 simpa using this
theorem below_drew {w w' : World} (h : Below w.drew.heap.size w.drew w') : Below w.heap.size w w' := ((Below.refl w.heap.size w).drew).trans h
def PointsIn (w : World) (t : Tt) (W : World) (e : Ending) (W' : World) : Prop := ∃ p, e = .returned (pv p) /\ Tree w p t /\ W = W'
theorem treeOf_at {w W : World} {m : Option Nat} {t : Tt} (h : IsMap w m t) (hb : Below w.heap.size w W) : Calls prog 51 #[pv m] W (PointsIn w t W) := by
 cases m with
 | none =>
  clear hb
  show Calls prog 51 #[.pointer none] W _
  go_enter func51, ntmps51
  go_wp2_with fail
  go_ret
  exact ⟨none, rfl, h.symm ▸ rfl, rfl⟩
 | some b =>
  obtain ⟨p, h1, h2⟩ := h
  have c0 : W.cell? ⟨b, 0, none⟩ = some (pv p) := cell_obj ((hb.block b (lt_of_obj h1)).trans h1) 0
  have H := hid h2
  clear h1 h2 hb
  show Calls prog 51 #[.pointer (some ⟨b, 0, none⟩)] W _
  go_enter func51, ntmps51
  go_wp2_with fail
  go_ret
  exact ⟨p, rfl, H.out, rfl⟩
theorem owns_lower {w : World} {base base' : Nat} {e : TypeId} {size : Nat} {v : Value} {n : Nat} {xs : List Value} (h : w.ownsRow base e size v n xs) (hb : base' <= base) : w.ownsRow base' e size v n xs := by
 refine ⟨h.1, ?_⟩
 rcases h.2 with hn | ⟨g, cap, cur, hv, h1, rest⟩
 ·exact .inl hn
 ·exact .inr ⟨g, cap, cur, hv, Nat.le_trans hb h1, rest⟩
end Go.Proofs.YthbajmlmjjfgpaaGreatDoor.T8
namespace Go.Proofs.YthbajmlmjjfgpaaGreatDoor.T8
open Go.RowKit Go.Less
attribute [local go_sem 9000] sem_eql sem_neq
theorem own_ne {W : World} {base : Nat} {v : Value} {n : Nat} {xs : List Value} {gk : Nat} {cs : Array Value} {fr : Nat × Nat} (h : W.ownsRow base 9 1 v n xs) (hk : W.heap[gk]? = some (.cells cs 57 fr)) : v.ownBlock ≠ some gk := by
 intro e
 obtain ⟨_, ⟨rfl, rfl⟩ | ⟨g, cap, cur, rfl, h1, h2, _⟩⟩ := h
 ·cases e
 ·injection e with e
  subst e
  rw [hk] at h2
  injection h2 with h2
  injection h2 with _ h2 _
  cases h2
structure Kz (w : World) (gk : Nat) (l : List ByteArray) (W : World) : Prop where
 keys : ∃ ao cap, W.heap[gk]? = some (.cells #[.slice ao l.length cap] 57 (0, 0)) /\ W.ownsRow w.heap.size 9 1 (.slice ao l.length cap) l.length (l.map Value.string)
 lo : w.heap.size <= gk
 below : Below w.heap.size w W
theorem Kz.kept {w W W' : World} {gk : Nat} {l : List ByteArray} (h : Kz w gk l W) (hb : Below W.heap.size W W') : Kz w gk l W' := by
 obtain ⟨ao, cap, h1, h2⟩ := h.keys
 exact ⟨⟨ao, cap, (hb.block _ (lt_of_obj h1)).trans h1, owned_below h2 hb⟩, h.lo, h.below.trans (hb.mono h.below.size)⟩
theorem kz_more {w W5 w1 w4 : World} {gk : Nat} {l : List ByteArray} {k : ByteArray} {ao ao4 : Option Addr} {cap cap4 : Nat} (h : Kz w gk l W5) (hw : Below W5.heap.size W5 w1)
  (hO : (w1.alloc (.cells #[.string k] 9)).ownsRow w.heap.size 9 1 (.slice ao l.length cap) l.length (l.map Value.string))
  (hO4 : w4.ownsRow w.heap.size 9 1 (.slice ao4 (l.length + 1) cap4) (l.length + 1) (l.map Value.string ++ [.string k]))
  (hg : (w1.alloc (.cells #[.string k] 9)).grownBy w4 (Value.slice ao l.length cap).ownBlock) :
  (∃ v, w4.heap[gk]? = some (.cells #[v] 57 (0, 0))) /\ Kz w gk (l ++ [k]) (w4.setCell ⟨gk, 0, none⟩ (.slice ao4 (l.length + 1) cap4)) := by
 have h3 := (h.kept hw).kept (below_one w1 (.cells #[.string k] 9))
 obtain ⟨a0, c0, hk, _⟩ := h3.keys
 have hk4 := grown_obj hg hk (own_ne hO hk).symm
 have lo := h.lo
 have hl : (l ++ [k]).length = l.length + 1 := by simp
 refine ⟨⟨_, hk4⟩, ⟨ao4, cap4, ?_, ?_⟩, lo, ?_⟩
 ·rw [hl]; exact set_obj hk4
 ·rw [hl, List.map_append]
  refine World.ownsRow.kept hO4 (?_ : w4.grownBy _ (some gk)) (.inr (own_ne hO4 hk4))
  exact ⟨rfl, rfl, rfl, by simp [World.setCell], λj hj hne => heap_setCell_other w4 ⟨gk, 0, none⟩ j _ (λe => hne (by rw [e]))⟩
 ·refine Below.setCell ?_ lo _
  exact h3.below.grown hg h3.below.size (λj hj => (owns_lt hO j hj).1)
def keysOf (l : List Pr) : List ByteArray := l.map (·.1)
theorem keyz_any (w : World) (gk : Nat) (m : Nat) (hm : m <= 100000) :
  Tells 174 #[.pointer (some ⟨gk, 0, none⟩)] m w (λpre W => Kz w gk (keysOf (pairs pre)) W) := by
 intro pre b l k v r pl pr W hp hK hN
 have hK : Kz w gk (keysOf (pairs pre)) W := hK
 show Calls prog 174 #[.pointer (some ⟨b, 0, none⟩), .pointer (some ⟨gk, 0, none⟩)] W (λe W' => e = .returned (.tuple #[]) /\ Kz w gk (keysOf (pairs (pre ++ [.node l k v r]))) W')
 have hlen : (keysOf (pairs pre)).length <= 200000 := by unfold keysOf; rw [List.length_map]; have := pairs_len pre; omega
 have HE := hid (show keysOf (pairs (pre ++ [.node l k v r])) = keysOf (pairs pre) ++ [k] by rw [pairs_snoc]; unfold keysOf; rw [List.map_append]; rfl)
 have HLen := hid hlen
 generalize keysOf (pairs (pre ++ [.node l k v r])) = YL at *
 generalize keysOf (pairs pre) = XL at *
 have HC := hid (λW1 => clone_any k W1 (Nat.le_trans hN.key (by decide)))
 have hNW := hN.below hK.below
 obtain ⟨ao, cap, hk1, hk2⟩ := hK.keys
 have ckb := hNW.c0
 have ck5 : W.cell? ⟨gk, 0, none⟩ = some (.slice ao XL.length cap) := cell_obj hk1 0
 have hgk := lt_of_obj hk1
 have HO5 := hid hk2
 have HK5 := hid hK
 have HZ0 := hid hK.below.size
 clear hp hK hN hlen hNW hk1 hk2
 go_enter func174, ntmps174
 go_wp2_with fail
 go_region_law (first
   | (refine step_app1 rfl _ _ rfl w.heap.size _ XL.length (XL.map Value.string) (by rfl) HO3.out w1.heap.size (.string k) (by rfl) (by simp) rfl (Nat.le_trans HLen.out (by decide)) HZ.out ?_; intro ao4 cap4 w4 hown4 hgrow4; have hmid := kz_more HK5.out hw1 HO3.out hown4 hgrow4; have HK4 := hid hmid.2; obtain ⟨v4, hk4⟩ := hmid.1; have ck4 := cell_obj hk4 0; have fk4 := free_obj hk4 0; clear hown4 hgrow4 hk4 hmid)
   | (go_simp; (with_reducible refine (HC.out _).mono ?_); rintro e w1 ⟨rfl, hw1d⟩; have hw1 := below_drew hw1d; have ck1 := (hw1.cell (p := ⟨gk, 0, none⟩) hgk).trans ck5; have ck2 : (w1.alloc (.cells #[.string k] 9)).cell? ⟨gk, 0, none⟩ = some (.slice ao XL.length cap) := ((below_one w1 (.cells #[.string k] 9)).cell (p := ⟨gk, 0, none⟩) (Nat.lt_of_lt_of_le hgk hw1.size)).trans ck1; have HO3 := hid (owned_below (owned_below HO5.out hw1) (below_one w1 (.cells #[.string k] 9))); have HZ := hid (Nat.le_trans (Nat.le_trans HZ0.out hw1.size) (below_one w1 (.cells #[.string k] 9)).size)))
 all_goals
  go_wp2_with fail
  go_end0
  exact ⟨rfl, by rw [HE.out]; exact HK4.out⟩
theorem run_make52 (n : Nat) (hn : n <= 1000000) (w : World) : (Instr.makeSlice 57 (.int .i64 0) (.int .i64 (n : Int))).run prog w = .ok (.slice (some ⟨w.heap.size, 0, none⟩) 0 n) (w.alloc (.cells (madeCells #[.string ⟨#[]⟩] n) 9)) := by
 obtain ⟨i0, hi, hz0, hz1, hz2⟩ := info_parts info9'
 have h := run_make (P := prog) w 57 9 i0 _ underlying57 hi hz0 .i64 .i64 0 (n : Int) (by omega) (by omega) (by rw [hz2]; omega) (by omega)
 rw [hz1, Nat.mul_one, Int.toNat_natCast] at h
 exact h
theorem kz_start (w w1 : World) (n : Nat) (hb : Below w.heap.size w w1) (hn : n <= 1000000) : Kz w (w1.heap.size + 1) [] ((w1.alloc (.cells (madeCells #[.string ⟨#[]⟩] n) 9)).alloc (.cells #[.slice (some ⟨w1.heap.size, 0, none⟩) 0 n] 57)) := by
 have h0 := heap_alloc_new (w1.alloc (.cells (madeCells #[.string ⟨#[]⟩] n) 9)) (.cells #[.slice (some ⟨w1.heap.size, 0, none⟩) 0 n] 57)
 rw [show (w1.alloc (.cells (madeCells #[.string ⟨#[]⟩] n) 9)).heap.size = w1.heap.size + 1 from by simp] at h0
 have hr : (w1.alloc (.cells (madeCells #[.string ⟨#[]⟩] n) 9)).ownsRow w1.heap.size 9 1 (.slice (some ⟨w1.heap.size, 0, none⟩) 0 n) 0 [] := World.ownsRow_made (e := 9) (size := 1) (base := w1.heap.size) w1 (madeCells #[.string ⟨#[]⟩] n) n (by simp) (by unfold maxLen; omega) (by rw [size_madeCells]; omega)
 have hs := hb.size
 exact ⟨⟨_, n, h0, (owned_below (owns_lower hr hs) (below_one _ _))⟩, by omega, balloc _ (balloc _ hb)⟩
def Keyed (l : List ByteArray) (w : World) (e : Ending) (w' : World) : Prop := ∃ ao cap, e = .returned (.slice ao l.length cap) /\ w'.ownsRow w.heap.size 9 1 (.slice ao l.length cap) l.length (l.map Value.string) /\ Below w.heap.size w w'
theorem mkeys_any {w : World} {m : Option Nat} {l : List Pr} (h : Rp w m l) (hn : l.length <= 5000) : Calls prog 135 #[pv m] w (Keyed (keysOf l) w) := by
 have HL := hid (mlen_any h)
 have HT := hid (λW (hb : Below w.heap.size w W) => treeOf_at h.map hb)
 have HK0 := hid (λw1 (hb : Below w.heap.size w w1) => kz_start w w1 l.length hb (by omega))
 have hmk := run_make52 l.length (by omega)
 have hcl : (cn l).len <= 5000 := by rw [cn_len]; exact hn
 have HCL := hid hcl
 have HRow := hid (show keysOf (pairs (cn l).subs) = keysOf l by rw [pairs_subs, cn_rows])
 clear h hcl
 generalize l.length = n at *
 go_enter func135, ntmps135
 go_wp2_with fail
 refine HL.out.mono ?_
 rintro e w1 ⟨rfl, hw1⟩
 have HK1 := hid (HK0.out w1 hw1)
 clear HK0 HL hw1
 dsimp only
 go_wp2_with fail
 generalize ((w1.alloc (.cells (madeCells #[.string ⟨#[]⟩] n) 9)).alloc (.cells #[.slice (some ⟨w1.heap.size, 0, none⟩) 0 n] 57)) = W0 at HK1 |-
 generalize w1.heap.size + 1 = gk at HK1 |-
 refine (HT.out _ HK1.out.below).mono ?_
 rintro e w' ⟨p, rfl, hp, rfl⟩
 have HP := hid hp
 clear hp
 dsimp only
 go_wp2_with fail
 refine (walk_any 174 _ (enters_of func174 (by kernel_rfl) rfl) w 5000 (λpre W => Kz w gk (keysOf (pairs pre)) W) (keyz_any w gk 5000 (by decide)) (λ_ _ h => h.below) (cn l) p [] W0 HP.out HK1.out (by rw [List.length_nil, Nat.zero_add]; exact HCL.out)).mono ?_
 rintro e W1 ⟨rfl, h1⟩
 rw [List.nil_append, HRow.out] at h1
 obtain ⟨ao, cap, hk, ho⟩ := h1.keys
 have c2 := cell_obj hk 0
 have HO := hid ho
 have HB := hid h1.below
 clear hk ho h1
 dsimp only
 go_wp2_with fail
 go_ret
 exact ⟨ao, cap, rfl, HO.out, HB.out⟩
end Go.Proofs.YthbajmlmjjfgpaaGreatDoor.T8
namespace Chk
def b (l : List UInt8) (i : Nat) : UInt8 := l.getD i 0
theorem ext {l m : List UInt8} (hl : l.length = m.length) (h : ∀ i, i < l.length -> b l i = b m i) : l = m := by
 apply List.ext_getElem hl
 intro i h1 h2
 have := h i h1
 unfold b at this
 rwa [List.getD, List.getD, List.getElem?_eq_getElem h1, List.getElem?_eq_getElem h2] at this
def rule (n : Nat) (f : Nat -> UInt8) : List UInt8 := (List.range n).map f
theorem rule_length (n : Nat) (f : Nat -> UInt8) : (rule n f).length = n := by unfold rule; rw [List.length_map, List.length_range]
theorem rule_b {n i : Nat} (f : Nat -> UInt8) (h : i < n) : b (rule n f) i = f i := by
 unfold b rule
 rw [List.getD, List.getElem?_map, List.getElem?_range h]; rfl
theorem rule_is {l : List UInt8} {n : Nat} {f : Nat -> UInt8} (hl : l.length = n) (h : ∀ i, i < n -> b l i = f i) : l = rule n f :=
 ext (by rw [rule_length]; exact hl) λi hi => by rw [h i (by omega), rule_b f (by omega)]
theorem b_over {l : List UInt8} {i : Nat} (h : l.length <= i) : b l i = 0 := by unfold b; rw [List.getD, List.getElem?_eq_none h]; rfl
theorem b_append_left {l m : List UInt8} {i : Nat} (h : i < l.length) : b (l ++ m) i = b l i := by unfold b; rw [List.getD, List.getD, List.getElem?_append_left h]
theorem b_append_right {l m : List UInt8} {i : Nat} (h : l.length <= i) : b (l ++ m) i = b m (i - l.length) := by unfold b; rw [List.getD, List.getD, List.getElem?_append_right h]
theorem b_drop (l : List UInt8) (k i : Nat) : b (l.drop k) i = b l (k + i) := by unfold b; rw [List.getD, List.getD, List.getElem?_drop]
theorem b_take {l : List UInt8} {k i : Nat} (h : i < k) : b (l.take k) i = b l i := by unfold b; rw [List.getD, List.getD, List.getElem?_take, if_pos h]
def trunc (l : List UInt8) (n : Nat) : List UInt8 := rule n (b l)
def put (l : List UInt8) (off : Nat) (d : List UInt8) : List UInt8 := if d = [] then l else rule (max l.length (off + d.length)) λi => if off <= i /\ i < off + d.length then b d (i - off) else b l i
def get (l : List UInt8) (off n : Nat) : List UInt8 := rule (min n (l.length - off)) λi => b l (off + i)
theorem get_take (l : List UInt8) (off n : Nat) : get l off n = (l.drop off).take n :=
 (rule_is (by rw [List.length_take, List.length_drop]) λi hi => by rw [b_take (by omega), b_drop]).symm
theorem put_nil (l : List UInt8) (off : Nat) : put l off [] = l := by unfold put; rw [if_pos rfl]
theorem put_is {l d : List UInt8} {off : Nat} (h : d ≠ []) : put l off d = rule (max l.length (off + d.length)) λi => if off <= i /\ i < off + d.length then b d (i - off) else b l i := by unfold put; rw [if_neg h]
theorem put_length {l d : List UInt8} {off : Nat} (h : d ≠ []) : (put l off d).length = max l.length (off + d.length) := by rw [put_is h, rule_length]
theorem trunc_length (l : List UInt8) (n : Nat) : (trunc l n).length = n := rule_length _ _
theorem trunc_b {l : List UInt8} {n i : Nat} (h : i < n) : b (trunc l n) i = b l i := rule_b _ h
theorem get_length (l : List UInt8) (off n : Nat) : (get l off n).length = min n (l.length - off) := rule_length _ _
def cut (l : List UInt8) : List (List UInt8) := match l with
 | [] => []
 | x :: l => (x :: l).take 16 :: cut ((x :: l).drop 16)
 termination_by l.length
 decreasing_by rw [List.length_drop, List.length_cons]; omega
def blank (l : List UInt8) : Bool := l.all (· == 0)
end Chk
namespace Go.Proofs.YthbajmlmjjfgpaaGreatDoor.T6
open T8
open Go.RowKit Sha
theorem info5b : (prog.info? 5).map (λi => (i.zero, i.size, i.bytes)) = some (some (.int .u8 0), 1, 1) := by kernel_rfl
theorem run_make8 (n : Nat) (hn : n <= 1000000) (w : World) : (Instr.makeSlice 91 (.int .i64 (n : Int)) (.int .i64 (n : Int))).run prog w = .ok (.slice (some ⟨w.heap.size, 0, none⟩) n n) (w.alloc (.cells (madeCells #[.int .u8 0] n) 5)) := by
 obtain ⟨i0, hi, hz0, hz1, hz2⟩ := info_parts info5b
 have h := run_make (P := prog) w 91 5 i0 _ underlying91 hi hz0 .i64 .i64 (n : Int) (n : Int) (by omega) (Int.le_refl _) (by rw [hz2]; omega) (by omega)
 rw [hz1, Nat.mul_one, Int.toNat_natCast] at h
 exact h
def putR (s : List UInt8) (off : Int) (d : List UInt8) : List UInt8 × Int :=
 if off < 0 then ([], 1) else if 4096 < off + d.length then ([], 3) else (Chk.put s off.toNat d, 0)
def truncR (s : List UInt8) (n : Int) : List UInt8 × Int := if n < 0 then ([], 1) else if 4096 < n then ([], 3) else (Chk.trunc s n.toNat, 0)
def getR (s : List UInt8) (off n : Int) : List UInt8 × Int := if off < 0 \/ n < 0 then ([], 1) else (Chk.get s off.toNat n.toNat, 0)
def copyR (s : List UInt8) (off : Int) (src : List UInt8) (f n : Int) : List UInt8 × Int :=
 if f < 0 \/ n < 0 \/ (src.length : Int) < f + n then ([], 1) else putR s off ((src.drop f.toNat).take n.toNat)
def Both (r : List UInt8 × Int) (w : World) (e : Ending) (w' : World) : Prop := e = .returned (.tuple #[.string (lstr r.1), .int .i64 r.2]) /\ Below w.heap.size w w'
theorem lstr_nil : lstr [] = ⟨#[]⟩ := rfl
theorem lstr_own (s : ByteArray) : lstr s.data.toList = s := rfl
theorem b_at (s : ByteArray) {i : Nat} (h : i < s.size) : s[i] = Chk.b s.data.toList i := by
 unfold Chk.b
 rw [List.getD, List.getElem?_eq_getElem (by rw [Array.length_toList]; exact h)]; rfl
theorem str_empty {d : ByteArray} (h : d.size = 0) : d = ⟨#[]⟩ := Go.WideShapes.bytes_inj (List.eq_nil_of_length_eq_zero (Array.length_toList.trans h))
theorem cut_text (x : ByteArray) (a n : Nat) (_ : a + n <= x.size) : x.extract a (a + n) = lstr ((x.data.toList.drop a).take n) := by
 apply Go.WideShapes.bytes_inj
 rw [ByteArray.data_extract, Array.toList_extract, List.extract_eq_take_drop, Nat.add_sub_cancel_left]
 rfl
theorem lstr_data (l : List UInt8) : (lstr l).data.toList = l := rfl
def Bfile (g : Nat) (l : List UInt8) (w : World) : Prop := w.heap[g]? = some (.cells (l.map bv).toArray 5 (0, 0))
theorem Bfile.lt {g : Nat} {l : List UInt8} {w : World} (h : Bfile g l w) : g < w.heap.size := (Array.getElem?_eq_some_iff.1 h).1
theorem Bfile.below {g : Nat} {l : List UInt8} {w w' : World} (h : Bfile g l w) (hb : Below w.heap.size w w') : Bfile g l w' := (hb.block g h.lt).trans h
theorem Bfile.cell {g : Nat} {l : List UInt8} {w : World} (h : Bfile g l w) (i : Nat) (hi : i < l.length) : w.cell? ⟨g, i, none⟩ = some (bv (Chk.b l i)) := by
 unfold World.cell?
 rw [show w.heap[(⟨g, i, none⟩ : Addr).block]? = _ from h]
 simp [Chk.b, List.getD, hi]
theorem Bfile.text {g : Nat} {l : List UInt8} {w : World} (h : Bfile g l w) (n : Nat) (hn : n = l.length) (c : Nat) : (convert 91 9 (.slice (some ⟨g, 0, none⟩) n c)).run prog w = .ok (.string (lstr l)) w := by
 subst hn
 refine run_convert_bytes_back (P := prog) w 91 9 5 ⟨g, 0, none⟩ c l underlying91 underlying5 underlying9 (λj hj => ?_)
 rw [Go.WideShapes.add_plain, Nat.zero_add, h.cell j hj]
 simp [Chk.b, List.getD, List.getElem?_eq_getElem hj]
theorem bfile_new (n : Nat) (w : World) : Bfile w.heap.size (List.replicate n 0) (w.alloc (.cells (madeCells #[.int .u8 0] n) 5)) := by
 unfold Bfile
 rw [heap_alloc_new, List.map_replicate]
 have := toList_madeCells_one (.int .u8 0) n
 rw [show madeCells #[Value.int .u8 0] n = (List.replicate n (.int .u8 0)).toArray from by rw [<- this, Array.toArray_toList]]
 rfl
def laid (l : List UInt8) (o : Nat) (xs : List UInt8) : List UInt8 := l.take o ++ xs ++ l.drop (o + xs.length)
theorem laid_length {l xs : List UInt8} {o : Nat} (h : o + xs.length <= l.length) : (laid l o xs).length = l.length := by
 unfold laid; rw [List.length_append, List.length_append, List.length_take, List.length_drop]; omega
theorem laid_b {l xs : List UInt8} {o i : Nat} (h : o + xs.length <= l.length) : Chk.b (laid l o xs) i = if o <= i /\ i < o + xs.length then Chk.b xs (i - o) else Chk.b l i := by
 have ht : (l.take o).length = o := by rw [List.length_take]; omega
 unfold laid
 by_cases h1 : i < o
 ·rw [if_neg (by omega), Chk.b_append_left (by rw [List.length_append, ht]; omega), Chk.b_append_left (by rw [ht]; exact h1), Chk.b_take h1]
 ·by_cases h2 : i < o + xs.length
  ·rw [if_pos (by omega), Chk.b_append_left (by rw [List.length_append, ht]; exact h2), Chk.b_append_right (by rw [ht]; omega), ht]
  ·rw [if_neg (by omega), Chk.b_append_right (by rw [List.length_append, ht]; omega), List.length_append, ht, Chk.b_drop, show o + xs.length + (i - (o + xs.length)) = i from by omega]
theorem run_copy8 (w : World) (g o len cap n : Nat) (ty : TypeId) (l : List UInt8) (r : ByteArray) (hf : Bfile g l w) (hn : n = min r.size len) (hfit : o + len <= l.length) :
  (Builtin.copy_ #[91, 9] ty #[.slice (some ⟨g, o, none⟩) len cap, .string r]).run prog w = .ok (goInt n) (w.setRow g ((laid l o (r.data.toList.take n)).map bv).toArray) := by
 have hrs : r.data.toList.length = r.size := by rw [Array.length_toList]; rfl
 have hst := run_storeCells_at prog g o 5 ((r.data.toList.take n).map (λb => bv b)) 0 _ w hf (by rw [List.size_toArray, List.length_map, List.length_map, List.length_take]; omega) (by intro v hv; obtain ⟨x, _, rfl⟩ := List.mem_map.1 hv; rfl)
 have hz : (sizeOf 5).run prog w = .ok 1 w := by kernel_rfl
 have hmin : Nat.min r.size len = n := hn.symm
 have h := run_copy_gen w 91 9 ty 5 underlying91 hz (some ⟨g, o, none⟩) len cap r n hmin _ _ rfl (by rw [<- List.map_take]; exact hst)
 rw [h]
 congr 3
 unfold laid
 simp only [List.map_append, List.map_take, List.map_drop, List.length_map, List.length_take, Nat.add_zero]
theorem bfile_laid {w : World} {g o : Nat} {l : List UInt8} (xs : List UInt8) (hf : Bfile g l w) : Bfile g (laid l o xs) (w.setRow g ((laid l o xs).map bv).toArray) := setRow_heap w g _ _ 5 _ hf
theorem trunc_laid (l : List UInt8) (n : Nat) : laid (List.replicate n 0) 0 (l.take (min l.length n)) = Chk.trunc l n := by
 have hl : (l.take (min l.length n)).length = min l.length n := by rw [List.length_take]; omega
 refine Chk.rule_is (by rw [laid_length (by rw [hl, List.length_replicate]; omega), List.length_replicate]) λi hi => ?_
 rw [laid_b (by rw [hl, List.length_replicate]; omega), hl]
 by_cases h : i < l.length
 ·rw [if_pos (by omega), Nat.sub_zero, Chk.b_take (by omega)]
 ·rw [if_neg (by omega), Chk.b_over (l := l) (by omega)]
  simp [Chk.b, List.getD, hi]
theorem put_laid {l d : List UInt8} {off : Nat} (hd : d ≠ []) : laid (Chk.trunc l (max l.length (off + d.length))) off d = Chk.put l off d := by
 rw [Chk.put_is hd]
 refine Chk.rule_is (by rw [laid_length (by rw [Chk.trunc_length]; omega), Chk.trunc_length]) λi hi => ?_
 rw [laid_b (by rw [Chk.trunc_length]; omega)]
 split
 ·rfl
 ·exact Chk.trunc_b hi
def Sized (l : List UInt8) (n : Nat) (w : World) (e : Ending) (w' : World) : Prop := ∃ g, w.heap.size <= g /\ e = .returned (.slice (some ⟨g, 0, none⟩) n n) /\ Bfile g (Chk.trunc l n) w' /\ Below w.heap.size w w'
theorem sized_any (s : ByteArray) (n : Nat) (w : World) (hn : n <= 1000000) : Calls prog 87 #[.string s, .int .i64 (n : Int)] w (Sized s.data.toList n w) := by
 have hmk := run_make8 n hn
 have hcp := run_copy8 (w.alloc (.cells (madeCells #[.int .u8 0] n) 5)) w.heap.size 0 n n (min s.size n) 3 (List.replicate n 0) s (bfile_new n w) rfl (by rw [List.length_replicate]; omega)
 have hf := bfile_laid (o := 0) (s.data.toList.take (min s.size n)) (bfile_new n w)
 have ht := trunc_laid s.data.toList n
 rw [show s.data.toList.length = s.size from Array.length_toList] at ht
 rw [ht] at hf hcp
 have hB : Below w.heap.size w ((w.alloc (.cells (madeCells #[.int .u8 0] n) 5)).setRow w.heap.size ((Chk.trunc s.data.toList n).map bv).toArray) := below_setRow ((Below.refl w.heap.size w).alloc (Nat.le_refl _) _) (Nat.le_refl _) _
 generalize hw2 : (w.alloc (.cells (madeCells #[.int .u8 0] n) 5)).setRow w.heap.size ((Chk.trunc s.data.toList n).map bv).toArray = w2 at hcp hf hB
 have HF := hid hf
 clear hf ht hw2
 go_enter func87, ntmps87
 go_wp2_with fail
 go_ret
 exact ⟨_, Nat.le_refl _, rfl, HF.out, hB⟩
theorem str_isEmpty {d : ByteArray} (h : 0 < d.size) : d.toList.isEmpty = false := by
 rw [Lib.toList_data]
 cases hd : d.data.toList with
 | nil => have : d.data.toList.length = d.size := Array.length_toList
          rw [hd] at this; simp at this; omega
 | cons _ _ => rfl
theorem str_isEmpty0 {d : ByteArray} (h : d.size = 0) : d.toList.isEmpty = true := by
 rw [str_empty h, Lib.toList_data]; rfl
def PutEnd (s d : List UInt8) (o M : Nat) (w : World) : Prop := ∀ (w1 : World) (g : Nat), w.heap.size <= g -> Bfile g (Chk.trunc s M) w1 -> Below w.heap.size w w1 -> ∃ w2, (Builtin.copy_ #[91, 9] 3 #[.slice (some ⟨g, o, none⟩) (M - o) (M - o), .string (lstr d)]).run prog w1 = .ok (goInt d.length) w2 /\ (convert 91 9 (.slice (some ⟨g, 0, none⟩) M M)).run prog w2 = .ok (.string (lstr (Chk.put s o d))) w2 /\ Below w.heap.size w w2
theorem put_end {s d : List UInt8} {o M : Nat} (w : World) (hd : d ≠ []) (hM : max s.length (o + d.length) = M) : PutEnd s d o M w := by
 intro w1 g hg hf hw
 have hl : (lstr d).size = d.length := lstr_size d
 have hoM : o + d.length <= M := by omega
 have hcp := run_copy8 w1 g o (M - o) (M - o) d.length 3 _ (lstr d) hf (by rw [hl]; omega) (by rw [Chk.trunc_length]; omega)
 rw [lstr_data, List.take_length, show laid (Chk.trunc s M) o d = Chk.put s o d from by rw [<- hM]; exact put_laid hd] at hcp
 have hf2 := bfile_laid (o := o) d hf
 rw [show laid (Chk.trunc s M) o d = Chk.put s o d from by rw [<- hM]; exact put_laid hd] at hf2
 exact ⟨_, hcp, hf2.text M (by rw [Chk.put_length hd, hM]) M, below_setRow hw hg _⟩
theorem put_some (s : ByteArray) (o : Nat) (d : ByteArray) (w : World) (hs : s.size <= 1000000) (h3 : 0 < d.size) (hos : o + d.size <= 4096) (HR : Hid (putR s.data.toList (o : Int) d.data.toList = (Chk.put s.data.toList o d.data.toList, 0))) :
  Calls prog 36 #[.string s, .int .i64 (o : Int), .string d] w (Both (putR s.data.toList (o : Int) d.data.toList) w) := by
 have hdl : d.data.toList.length = d.size := Array.length_toList
 have hsl : s.data.toList.length = s.size := Array.length_toList
 have hne : d.toList.isEmpty = false := str_isEmpty h3
 have hdne : d.data.toList ≠ [] := λe => by
  have h := congrArg List.length e
  rw [hdl] at h
  exact absurd h (by show ¬ d.size = 0; omega)
 obtain ⟨M, hM⟩ : ∃ M, max s.size (o + d.size) = M := ⟨_, rfl⟩
 have HX := hid (sized_any s M w (by omega))
 have HE := hid (put_end (s := s.data.toList) (d := d.data.toList) (o := o) (M := M) w hdne (by rw [hsl, hdl]; exact hM))
 unfold PutEnd at HE
 rw [show lstr d.data.toList = d from rfl, hdl] at HE
 have hoM : (o : Int) <= (M : Int) := by omega
 have hoM1 : ¬ o = M := by omega
 have hoM2 : ¬ (o : Int) = (M : Int) := by omega
 have hoM3 : o < M := by omega
 have hos1 : (o : Int) <= 4096 - (d.size : Int) := by omega
 have hos0 : (0 : Int) <= (o : Int) := by omega
 have hds : (d.size : Int) <= 4096 := by omega
 have hM1 : max (s.size : Int) ((o : Int) + (d.size : Int)) = (M : Int) := by omega
 clear hsl hdl hdne hM hos h3 hs
 go_enter func36, ntmps36
 go_wp2_with fail
 refine HX.out.mono ?_
 rintro e w1 ⟨g, hg, rfl, hf, hw⟩
 obtain ⟨w2, hcp, hcv, hB⟩ := HE.out w1 g hg hf hw
 have HB := hid hB
 clear hf hw hB HE HX hM1
 generalize Chk.put s.data.toList o d.data.toList = l at hcv HR
 dsimp only
 go_wp2_with fail
 go_ret2
 show Both (putR s.data.toList (o : Int) d.data.toList) w _ _
 rw [HR.out]
 exact ⟨rfl, HB.out⟩
end Go.Proofs.YthbajmlmjjfgpaaGreatDoor.T6
