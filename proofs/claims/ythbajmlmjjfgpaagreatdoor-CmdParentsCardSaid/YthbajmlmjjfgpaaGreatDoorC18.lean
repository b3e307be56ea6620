/- A part of the proofs. -/
import Derived.Laws.EntriesVeiled
import Derived.Lib.CountLaws
import Derived.Test.YthbajmlmjjfgpaaGreatDoorC17
set_option maxRecDepth 1000000
set_option maxHeartbeats 16000000
open Go.Lib (hid)
open Go.Proofs.Tryz
namespace Go.Proofs.YthbajmlmjjfgpaaGreatDoor
open Go.RowKit Go.Less
attribute [local go_sem 9000] sem_eql sem_neq
theorem isFull_any (k mo : Int) (d t : ByteArray) (a : Option Addr) (n c : Nat) (w : World) (_hn : n <= 1000000) : Calls prog 159 #[nv k mo d t a n c] w λe w' => e = .returned (.bool (decide ((64 : Int) <= (n : Int)))) /\ Below w.heap.size w w' := by
 go_enter func159, ntmps159
 go_wp2_with fail
 go_ret
 exact ⟨rfl, below_one _ _⟩
theorem isPath_any (p : ByteArray) (w : World) (hp : p.size <= 140737488355328) : Calls prog 83 #[.string p] w λe w' => e = .returned (.bool (spl p).isSome) /\ Below w.heap.size w w' := by
 have HS := hid (λW => split_any p W hp)
 have HR := hid (show (spl p).isSome = (Nm.split p.data.toList).isSome from by unfold spl; rw [Option.isSome_map])
 go_enter func83, ntmps83
 go_wp2_with fail
 refine (HS.out _).mono ?_
 rintro e w1 hX
 have HB := hid hX.below
 cases hsp : Nm.split p.data.toList with
 | none =>
  obtain rfl := hX.no hsp
  rw [hsp] at HR
  clear hX hsp
  dsimp only
  go_wp2_with fail
  go_ret
  rw [HR.out]
  exact ⟨rfl, HB.out⟩
 | some ns =>
  obtain ⟨ao, cap, rfl, hT⟩ := hX.yes ns hsp
  rw [hsp] at HR
  clear hX hsp hT
  dsimp only
  go_wp2_with fail
  go_ret
  rw [HR.out]
  exact ⟨rfl, HB.out⟩
def twoB (k : Int) : Bool := decide (k = 4) || decide (k = 7) || decide (k = 10)
theorem two_any (k : Int) (w : World) : Calls prog 84 #[.int .i64 k] w λe w' => e = .returned (.bool (twoB k)) /\ Below w.heap.size w w' := by
 by_cases h4 : k = 4
 ·subst h4
  go_enter func84, ntmps84
  go_wp2_with fail
  go_ret
  exact ⟨rfl, Below.refl _ _⟩
 by_cases h7 : k = 7
 ·subst h7
  go_enter func84, ntmps84
  go_wp2_with fail
  go_ret
  exact ⟨rfl, Below.refl _ _⟩
 by_cases h10 : k = 10
 ·subst h10
  go_enter func84, ntmps84
  go_wp2_with fail
  go_ret
  exact ⟨rfl, Below.refl _ _⟩
 have HR := hid (show twoB k = false by unfold twoB; simp [h4, h7, h10])
 go_enter func84, ntmps84
 go_wp2_with fail
 go_ret
 rw [HR.out]
 refine ⟨?_, Below.refl _ _⟩
 show Ending.returned (.bool (k == 4 || k == 7 || k == 10)) = _
 simp [h4, h7, h10]
def inoR (s : ByteArray) : Int × Bool := if s.size = 4 then (vl s.data.toList, decide (1 <= vl s.data.toList) && decide (vl s.data.toList <= 2147483647)) else (0, false)
attribute [local go_sem 9000] sem_shlsv run_c32 run_c64
theorem inoOf_any (s : ByteArray) (w : World) : Calls prog 136 #[.string s] w λe w' => e = .returned (.tuple #[.int .i64 (inoR s).1, .bool (inoR s).2]) /\ w' = w := by
 by_cases h4 : s.size = 4
 ·have HL := hid (show s.data.toList.length = 4 from Array.length_toList.trans h4)
  have HR := hid (show inoR s = (vl s.data.toList, decide (1 <= vl s.data.toList) && decide (vl s.data.toList <= 2147483647)) from if_pos h4)
  have hsz : s.size = 4 := h4
  clear h4
  go_enter func136, ntmps136
  go_wp2_with fail
  go_loopw [4, 5, 11] (λv _ i wr => (∃ z : Nat, z <= 4 /\ i = .int .i64 z /\ v = .int .u32 (sv s.data.toList z)) /\ wr = w) (λ_ _ i _ => 4 - (intOf i).toNat)
  case atStart => exact ⟨⟨0, Nat.zero_le _, rfl, rfl⟩, rfl⟩
  case round =>
   obtain ⟨⟨z, hz, rfl, rfl⟩, rfl⟩ := hrel
   have z0i : (0 : Int) <= (z : Int) := by omega
   by_cases hz4 : z < 4
   ·have hz4i : (z : Int) < 4 := by omega
    have hzs : z < s.size := by omega
    have hor := or_sv s.data.toList z hz4 s[z] (by rw [HL.out]; exact hz4) (b_at s hzs)
    go_wp2_with fail
    go_roundw
    case rel => exact ⟨⟨z + 1, by omega, by go_num, by first | rfl | rw [hor]⟩, by first | rfl | trivial⟩
    case measure => simp [intOf]; omega
   ·obtain rfl : z = 4 := by omega
    have h0 : 0 <= sv s.data.toList 4 := vl_lo _
    have h1 := sv_top HL.out
    have HV := hid (show sv s.data.toList 4 = vl s.data.toList by unfold sv; rw [List.take_of_length_le (by rw [HL.out]; exact Nat.le_refl _)])
    rw [<- HV.out] at HR
    generalize sv s.data.toList 4 = V at *
    by_cases hV : 1 <= V
    ·by_cases hW : V <= 2147483647
     ·have HR := hid (show inoR s = (V, true) by rw [HR.out, decide_eq_true hV, decide_eq_true hW]; rfl)
      go_wp2_with fail
      go_ret2
      rw [HR.out]
      exact ⟨rfl, rfl⟩
     ·have HR := hid (show inoR s = (V, false) by rw [HR.out, decide_eq_false hW, Bool.and_false])
      go_wp2_with fail
      go_ret2
      rw [HR.out]
      exact ⟨rfl, rfl⟩
    ·have HR := hid (show inoR s = (V, false) by rw [HR.out, decide_eq_false hV]; rfl)
     go_wp2_with fail
     go_ret2
     rw [HR.out]
     exact ⟨rfl, rfl⟩
 ·have HR := hid (show inoR s = (0, false) from if_neg h4)
  have hsi : ¬ (s.size : Int) = 4 := by omega
  clear h4
  go_enter func136, ntmps136
  go_wp2_with fail
  go_ret2
  rw [HR.out]
  exact ⟨rfl, rfl⟩
end Go.Proofs.YthbajmlmjjfgpaaGreatDoor
namespace Go.Proofs.YthbajmlmjjfgpaaGreatDoor
open Go.RowKit Go.Less
open T8 (pv Dg Rp keysOf mkeys_any Keyed)
attribute [local go_sem 9000] sem_eql sem_neq
theorem ino_key {i : Int} (h : 1 <= i /\ i <= 2147483647) : inoR (Fs.key i) = (i, true) := by
 unfold inoR
 rw [if_pos (Fs.key_size i)]
 have e : vl (Fs.key i).data.toList = i := by
  show ((Nd.val (Nd.n4 i.toNat) : Nat) : Int) = i
  rw [<- Nd.v4_val rfl, Nd.v4_n4 (by omega)]; omega
 rw [e, decide_eq_true h.1, decide_eq_true h.2]; rfl
theorem info3 : (prog.info? 3).map (λi => (i.zero, i.size, i.bytes)) = some (some (.int .i64 0), 1, 8) := by kernel_rfl
theorem run_make67 (n : Nat) (hn : n <= 1000000) (w : World) : (Instr.makeSlice 88 (.int .i64 0) (.int .i64 (n : Int))).run prog w = .ok (.slice (some ⟨w.heap.size, 0, none⟩) 0 n) (w.alloc (.cells (madeCells #[.int .i64 0] n) 3)) := by
 obtain ⟨i0, hi, hz0, hz1, hz2⟩ := info_parts info3
 have h := run_make (P := prog) w 88 3 i0 _ underlying88 hi hz0 .i64 .i64 0 (n : Int) (by omega) (by omega) (by rw [hz2]; omega) (by omega)
 rw [hz1, Nat.mul_one, Int.toNat_natCast] at h
 exact h
abbrev Irow (base : Nat) (v : Value) (l : List Int) (w : World) : Prop := w.ownsRow base 3 1 v l.length (l.map λi => .int .i64 i)
theorem at_int {ops : Array Oper} {rest : List Oper} {o : Oper} {a : Act} {Q : Exit -> Act -> World -> Prop} {w : World} (hgd : o.guard = none) (s x : Operand)
  (ho : o.op = .call { callee := .builtin .append, args := #[s, x], argTypes := #[88, 88] })
  (base : Nat) (v : Value) (l : List Int) (hs : a.eval s = v) (hown : Irow base v l w)
  (b : Nat) (u : Int) (hx : a.eval x = .slice (some ⟨b, 0, none⟩) 1 1) (hc : w.cell? ⟨b, 0, none⟩ = some (.int .i64 u)) (hn : l.length <= 1000000) (hbase : base <= w.heap.size)
  (h : ∀ ao' cap' w', Irow base (.slice ao' (l.length + 1) cap') (l ++ [u]) w' -> w.grownBy w' v.ownBlock -> wpList prog ops Q rest (a.put o.dst (.slice ao' (l.length + 1) cap')) w') :
  wpList prog ops Q (o :: rest) a w := by
 obtain ⟨i0, hi, hz0, hz1, hz2⟩ := info_parts info3
 refine wpList_append_own w hgd s x 88 ho base 3 i0 (.int .i64 0) 1 8 underlying88 hi hz0 hz1 hz2 rfl (by decide) v l.length _ hs hown ⟨b, 0, none⟩ 1 1 [.int .i64 u] hx rfl ?_ ?_ (by unfold maxLen; omega) (by omega) hbase ?_
 ·intro j y hj
  match j with
  | 0 => simp at hj; subst hj; simpa [Addr.add] using hc
  | j + 1 => simp at hj
 ·intro y hy; simp at hy; subst hy; rfl
 ·intro v' w' hown' hg _
  obtain ⟨ao', cap', rfl⟩ := owns_form hown'
  refine h ao' cap' w' ?_ hg
  unfold Irow
  rw [List.length_append, List.map_append]
  exact hown'
theorem irow_mono {b b' : Nat} {v : Value} {l : List Int} {w : World} (h : Irow b v l w) (hb : b' <= b) : Irow b' v l w := by
 refine ⟨h.1, ?_⟩
 rcases h.2 with h1 | ⟨g, cap, cur, e, h2, r⟩
 ·exact .inl h1
 ·exact .inr ⟨g, cap, cur, e, Nat.le_trans hb h2, r⟩
def inosL (l : List Fs.Item) : List Int := l.map (·.1)
def Numbered (l : List Int) (w : World) (e : Ending) (w' : World) : Prop := ∃ ao cap, e = .returned (.slice ao l.length cap) /\ Irow w.heap.size (.slice ao l.length cap) l w' /\ Below w.heap.size w w'
theorem keys_at {l : List Fs.Item} {j : Nat} {y : Fs.Item} (h : l[j]? = some y) : (keysOf (Fs.kv l)).getD j ByteArray.empty = Fs.key y.1 := by
 have e : keysOf (Fs.kv l) = l.map λy => Fs.key y.1 := Fs.kv_keys l
 rw [e, List.getD, List.getElem?_map, h]; rfl
theorem inos_more {l : List Fs.Item} {j : Nat} {y : Fs.Item} (h : l[j]? = some y) : inosL (l.take (j + 1)) = inosL (l.take j) ++ [y.1] := by
 unfold inosL; rw [take_succ_some h, List.map_append]; rfl
theorem irow_start (w : World) (n : Nat) (hn : n <= 1000000) : Irow w.heap.size (.slice (some ⟨w.heap.size, 0, none⟩) 0 n) [] (w.alloc (.cells (madeCells #[.int .i64 0] n) 3)) :=
 World.ownsRow_made (e := 3) (size := 1) (base := w.heap.size) w (madeCells #[.int .i64 0] n) n (by simp) (by unfold maxLen; omega) (by rw [size_madeCells]; omega)
theorem inos_any (m : Option Nat) (nx : Int) (l : List Fs.Item) (w : World) (h : Sv w m l) : Calls prog 91 #[stv m nx] w (Numbered (inosL l) w) := by
 have hl : l.length <= 1000 := h.ok.few
 have hlen : (keysOf (Fs.kv l)).length = l.length := by unfold keysOf; rw [List.length_map, Fs.kv_len]
 have HKy := hid (λW (hb : Below w.heap.size w W) => mkeys_any (h.rp.below hb) (by rw [Fs.kv_len]; omega))
 have HPo := hid h.ok.pos
 have HB := hid (Bxs.one w #[pv m, .int .i64 nx] 108)
 clear h
 go_enter func91, ntmps91
 go_wp2_with fail
 refine (HKy.out _ HB.out.below).mono ?_
 rintro e w1 ⟨ao, cap, rfl, hrow, hb⟩
 rw [hlen] at hrow |-
 have hS : Strs ao l.length (keysOf (Fs.kv l)) w1 := by
  have hT : Trow (w.alloc (.cells #[pv m, .int .i64 nx] 108)).heap.size (.slice ao l.length cap) ((keysOf (Fs.kv l)).map λb => b.data.toList) w1 := by
   unfold Trow
   rw [List.length_map, hlen, List.map_map]
   exact hrow
  have := trow_strs hT (by rw [List.length_map, hlen])
  rwa [List.map_map, show (lstr ∘ λb : ByteArray => b.data.toList) = id from rfl, List.map_id] at this
 have HS := hid (λW (hb : Below w1.heap.size w1 W) => hS.below hb)
 have HB1 := hid (HB.out.below.trans (hb.mono HB.out.below.size))
 have hmk := run_make67 l.length (by omega) w1
 have HR0 := hid (irow_start w1 l.length (by omega))
 have HBa := hid (below_one w1 (.cells (madeCells #[.int .i64 0] l.length) 3))
 obtain ⟨n, hn⟩ : ∃ n, n = l.length := ⟨_, rfl⟩
 have HN := hid hn
 rw [<- hn] at hmk HR0 HBa hl HS |-
 have hni : (n : Int) <= 1000 := by omega
 clear hrow hS hb HB HKy hlen hn
 dsimp only
 go_wp2_with fail
 generalize w1.alloc (.cells (madeCells #[.int .i64 0] n) 3) = W2 at HR0 HBa |-
 go_loopw [4, 6, 7, 8, 17] (λx4 _ _ _ x17 wr => ∃ (j : Nat) (a4 : Option Addr) (c4 : Nat), j <= n /\ x17 = .int .i64 j /\ x4 = .slice a4 j c4 /\ Irow w1.heap.size (.slice a4 j c4) (inosL (l.take j)) wr /\ Below w1.heap.size w1 wr) (λ_ _ _ _ x17 _ => n - (intOf x17).toNat)
 case atStart => exact ⟨0, _, _, Nat.zero_le _, rfl, rfl, HR0.out, HBa.out⟩
 case round =>
  clear HR0 HBa hmk
  obtain ⟨j, a4, c4, hj, rfl, rfl, hR, hW1⟩ := hrel
  by_cases hlt : j < n
  ·have j0 : (j : Int) < (n : Int) := by omega
   have hj0 : (0 : Int) <= (j : Int) := by omega
   have hjl : j < l.length := by rw [<- HN.out]; exact hlt
   obtain ⟨y, hy⟩ : ∃ y, l[j]? = some y := ⟨_, List.getElem?_eq_getElem hjl⟩
   obtain ⟨b1, o1, rfl, nc⟩ := (HS.out wr hW1).cell j hlt
   rw [keys_at hy] at nc
   have HI := hid (λW => inoOf_any (Fs.key y.1) W)
   rw [ino_key (HPo.out y (List.mem_of_getElem? hy))] at HI
   have HM := hid (inos_more hy)
   have HRo := hid hR
   have HW1 := hid hW1
   have hlen9 : (inosL (l.take j)).length = j := by unfold inosL; rw [List.length_map, List.length_take]; omega
   have HL9 := hid hlen9
   generalize Fs.key y.1 = ky at *
   clear hR hW1 hy hlen9
   go_wp2_with fail
   refine (HI.out wr).mono ?_
   rintro e w' ⟨rfl, rfl⟩
   dsimp only
   have HOa := hid (owned_below HRo.out (below_one w' (.cells #[.int .i64 y.1] 3)))
   have hcz : (w'.alloc (.cells #[.int .i64 y.1] 3)).cell? ⟨w'.heap.size, 0, none⟩ = some (.int .i64 y.1) := World.cell?_alloc_new _ _ _ _
   have hsz9 : w1.heap.size <= (w'.alloc (.cells #[.int .i64 y.1] 3)).heap.size := by have := HW1.out.size; rw [size1]; omega
   go_wp2_with (first | (refine at_int rfl _ _ rfl w1.heap.size _ (inosL (l.take j)) (by rfl) HOa.out w'.heap.size y.1 (by rfl) hcz (by rw [HL9.out]; omega) hsz9 ?_; intro ao5 cap5 w5 hown5 hgrow5; have HO5 := hid (show Irow w1.heap.size (.slice ao5 (j + 1) cap5) (inosL (l.take j) ++ [y.1]) w5 from by have := hown5; rw [HL9.out] at this; exact this); have HB5 := hid ((HW1.out.trans ((below_one w' (.cells #[.int .i64 y.1] 3)).mono HW1.out.size)).grown hgrow5 (Nat.le_trans HW1.out.size (by rw [size1]; omega)) (λk hk => (World.ownsRow.lt HOa.out k hk).1)); clear hown5 hgrow5) | fail)
   go_roundw
   case rel => exact ⟨j + 1, ao5, cap5, by omega, by go_num, by rw [HL9.out], by rw [HM.out]; exact HO5.out, HB5.out⟩
   case measure => simp [intOf]; omega
  ·obtain rfl : j = n := by omega
   have HRo := hid hR
   have HW1 := hid hW1
   clear hR hW1
   go_wp2_with fail
   go_ret
   have hR : Irow w1.heap.size (.slice a4 j c4) (inosL l) wr := by have := HRo.out; rwa [List.take_of_length_le (by rw [HN.out]; exact Nat.le_refl _)] at this
   have hlen9 : (inosL l).length = j := by unfold inosL; rw [List.length_map, <- HN.out]
   refine ⟨a4, c4, by rw [hlen9]; rfl, ?_, HB1.out.trans (HW1.out.mono HB1.out.size)⟩
   rw [hlen9]
   exact irow_mono hR HB1.out.size
end Go.Proofs.YthbajmlmjjfgpaaGreatDoor
namespace Go.Proofs.YthbajmlmjjfgpaaGreatDoor
open Go.RowKit Go.Less
open T8 (pv Dg)
attribute [local go_sem 9000] sem_eql sem_neq
structure Ints (a : Option Addr) (n : Nat) (l : List Int) (w : World) : Prop where
 count : n = l.length
 cell : ∀ i, i < n -> ∃ b off, a = some ⟨b, off, none⟩ /\ w.cell? ⟨b, off + i, none⟩ = some (.int .i64 (l.getD i 0))
theorem Ints.below {a : Option Addr} {n : Nat} {l : List Int} {w w' : World} (h : Ints a n l w) (hb : Below w.heap.size w w') : Ints a n l w' :=
 ⟨h.count, λi hi => by
  obtain ⟨b, off, e, hc⟩ := h.cell i hi
  exact ⟨b, off, e, (hb.cell (p := ⟨b, off + i, none⟩) (block_lt_of_cell hc)).trans hc⟩⟩
theorem irow_ints {base n : Nat} {a : Option Addr} {c : Nat} {l : List Int} {w : World} (h : Irow base (.slice a n c) l w) (hn : n = l.length) : Ints a n l w := by
 subst hn
 have h2 := h
 refine ⟨rfl, λi hi => ?_⟩
 obtain ⟨_, ⟨e, h0⟩ | ⟨g, cap, cur, e, _⟩⟩ := h
 ·omega
 ·injection e with e1 e2 e3
  subst e1
  subst e3
  refine ⟨g, 0, rfl, ?_⟩
  rw [Nat.zero_add, World.ownsRow.cellAt h2 i (by omega), List.getElem?_map, List.getElem?_eq_getElem hi]
  simp [List.getD, List.getElem?_eq_getElem hi]
theorem any_more {α : Type} {p : α -> Bool} {l : List α} {k : Nat} {z : α} (h : (l.take k).any p = false) (hk : k < l.length) (hp : p (l.getD k z) = false) : (l.take (k + 1)).any p = false := by
 rw [List.take_succ_eq_append_getElem hk, List.any_append, h]
 rw [List.getD, List.getElem?_eq_getElem hk, Option.getD_some] at hp
 simp [hp]
theorem any_hit {α : Type} {p : α -> Bool} {l : List α} {k : Nat} {z : α} (hk : k < l.length) (hp : p (l.getD k z) = true) : l.any p = true := by
 rw [List.getD, List.getElem?_eq_getElem hk, Option.getD_some] at hp
 exact List.any_eq_true.2 ⟨_, List.getElem_mem hk, hp⟩
theorem ixfE_any (gk : Nat) (lb : Array Value) (eg : ∀ args w, (callFunc gk args).run prog w = .ok (.enter gk args) w) (p : En -> Bool) (a : Option Addr) (n cap : Nat) (l : List En) (w : World) (hE : Ents a n l w) (hn : n <= 1000000)
  (HC0 : ∀ x ∈ l, ∀ W, Below w.heap.size w W -> Calls prog gk (#[ev x] ++ lb) W λe w' => e = .returned (.bool (p x)) /\ Below W.heap.size W w') :
  Calls prog 105 #[.slice a n cap, .func (.func gk) #[] lb] w λe w' => (∃ z : Int, e = .returned (.int .i64 z) /\ (0 <= z ↔ l.any p = true)) /\ Below w.heap.size w w' := by
 have HNL := hid hE.count
 have hni : (n : Int) <= 1000000 := by omega
 have HE := hid (λW (hb : Below w.heap.size w W) => hE.below hb)
 have HCa := hid HC0
 clear hE HC0
 go_enter func105, ntmps105
 go_wp2_with fail
 go_loopw [8] (λv wr => ∃ k : Nat, k <= n /\ v = .int .i64 k /\ Below w.heap.size w wr /\ Hid ((l.take k).any p = false)) (λv _ => n - (intOf v).toNat)
 case atStart => exact ⟨0, Nat.zero_le _, rfl, Below.refl _ _, rfl⟩
 case round =>
  obtain ⟨k, hk, rfl, hB, HA⟩ := hrel
  by_cases hlt : k < n
  ·have k0 : (k : Int) < (n : Int) := by omega
   have hk0 : (0 : Int) <= (k : Int) := by omega
   have hkl : k < l.length := by rw [<- HNL.out]; exact hlt
   obtain ⟨b, off, rfl, c0, c1⟩ := (HE.out _ hB).cell k hlt
   have HM := hid (λh => any_more (p := p) (z := z0) HA.out hkl h)
   have HH := hid (λh => any_hit (p := p) (z := z0) hkl h)
   have hmem : l.getD k z0 ∈ l := by rw [List.getD, List.getElem?_eq_getElem hkl]; exact List.getElem_mem hkl
   generalize l.getD k z0 = x at *
   have HC := hid (HCa.out x hmem wr hB)
   have HBh := hid hB
   clear hB hkl hmem
   cases hr : p x with
   | false =>
    rw [hr] at HC
    have HR := hid (HM.out hr)
    clear hr HM HH
    go_wp2_with fail
    refine HC.out.mono ?_
    rintro e w2 ⟨rfl, hw2⟩
    have HB2 := hid (HBh.out.trans (hw2.mono HBh.out.size))
    clear hw2
    dsimp only
    go_wp2_with fail
    go_roundw
    case rel => exact ⟨k + 1, by omega, by go_num, HB2.out, HR.out⟩
    case measure => simp [intOf]; omega
   | true =>
    rw [hr] at HC
    have HR := hid (HH.out hr)
    clear hr HM HH
    go_wp2_with fail
    refine HC.out.mono ?_
    rintro e w2 ⟨rfl, hw2⟩
    have HB2 := hid (HBh.out.trans (hw2.mono HBh.out.size))
    clear hw2
    dsimp only
    go_wp2_with fail
    go_ret
    exact ⟨⟨_, rfl, by rw [HR.out]; simp⟩, HB2.out⟩
  ·obtain rfl : k = n := by omega
   have HR := hid (show l.any p = false by have h := HA.out; rw [HNL.out, List.take_length] at h; exact h)
   have HBh := hid hB
   clear hB
   go_wp2_with fail
   go_ret
   exact ⟨⟨_, rfl, by rw [HR.out]; decide⟩, HBh.out⟩
theorem cofE_any (gk : Nat) (lb : Array Value) (eg : ∀ args w, (callFunc gk args).run prog w = .ok (.enter gk args) w) (p : En -> Bool) (a : Option Addr) (n cap : Nat) (l : List En) (w : World) (hE : Ents a n l w) (hn : n <= 1000000)
  (HC0 : ∀ x ∈ l, ∀ W, Below w.heap.size w W -> Calls prog gk (#[ev x] ++ lb) W λe w' => e = .returned (.bool (p x)) /\ Below W.heap.size W w') :
  Calls prog 140 #[.slice a n cap, .func (.func gk) #[] lb] w λe w' => e = .returned (.bool (l.any p)) /\ Below w.heap.size w w' := by
 have HI := hid (ixfE_any gk lb eg p a n cap l w hE hn HC0)
 clear hE hn HC0
 generalize l.any p = r at *
 go_enter func140, ntmps140
 go_wp2_with fail
 refine HI.out.mono ?_
 rintro e w1 ⟨⟨z, rfl, hz⟩, hB⟩
 dsimp only
 cases r with
 | true =>
  have h0 : 0 <= z := hz.2 rfl
  clear hz
  go_wp2_with fail
  go_ret
  exact ⟨by simp, hB⟩
 | false =>
  have h0 : ¬ 0 <= z := λh => by have := hz.1 h; cases this
  clear hz
  go_wp2_with fail
  go_ret
  exact ⟨by simp, hB⟩
theorem ixfI_any (gk : Nat) (lb : Array Value) (eg : ∀ args w, (callFunc gk args).run prog w = .ok (.enter gk args) w) (p : Int -> Bool) (a : Option Addr) (n cap : Nat) (l : List Int) (w : World) (hE : Ints a n l w) (hn : n <= 1000000)
  (HC0 : ∀ x ∈ l, ∀ W, Below w.heap.size w W -> Calls prog gk (#[.int .i64 x] ++ lb) W λe w' => e = .returned (.bool (p x)) /\ Below W.heap.size W w') :
  Calls prog 204 #[.slice a n cap, .func (.func gk) #[] lb] w λe w' => (∃ z : Int, e = .returned (.int .i64 z) /\ (0 <= z ↔ l.any p = true)) /\ Below w.heap.size w w' := by
 have HNL := hid hE.count
 have hni : (n : Int) <= 1000000 := by omega
 have HE := hid (λW (hb : Below w.heap.size w W) => hE.below hb)
 have HCa := hid HC0
 clear hE HC0
 go_enter func204, ntmps204
 go_wp2_with fail
 go_loopw [8] (λv wr => ∃ k : Nat, k <= n /\ v = .int .i64 k /\ Below w.heap.size w wr /\ Hid ((l.take k).any p = false)) (λv _ => n - (intOf v).toNat)
 case atStart => exact ⟨0, Nat.zero_le _, rfl, Below.refl _ _, rfl⟩
 case round =>
  obtain ⟨k, hk, rfl, hB, HA⟩ := hrel
  by_cases hlt : k < n
  ·have k0 : (k : Int) < (n : Int) := by omega
   have hk0 : (0 : Int) <= (k : Int) := by omega
   have hkl : k < l.length := by rw [<- HNL.out]; exact hlt
   obtain ⟨b, off, rfl, c0⟩ := (HE.out _ hB).cell k hlt
   have HM := hid (λh => any_more (p := p) (z := 0) HA.out hkl h)
   have HH := hid (λh => any_hit (p := p) (z := 0) hkl h)
   have hmem : l.getD k 0 ∈ l := by rw [List.getD, List.getElem?_eq_getElem hkl]; exact List.getElem_mem hkl
   generalize l.getD k 0 = x at *
   have HC := hid (HCa.out x hmem wr hB)
   have HBh := hid hB
   clear hB hkl hmem
   cases hr : p x with
   | false =>
    rw [hr] at HC
    have HR := hid (HM.out hr)
    clear hr HM HH
    go_wp2_with fail
    refine HC.out.mono ?_
    rintro e w2 ⟨rfl, hw2⟩
    have HB2 := hid (HBh.out.trans (hw2.mono HBh.out.size))
    clear hw2
    dsimp only
    go_wp2_with fail
    go_roundw
    case rel => exact ⟨k + 1, by omega, by go_num, HB2.out, HR.out⟩
    case measure => simp [intOf]; omega
   | true =>
    rw [hr] at HC
    have HR := hid (HH.out hr)
    clear hr HM HH
    go_wp2_with fail
    refine HC.out.mono ?_
    rintro e w2 ⟨rfl, hw2⟩
    have HB2 := hid (HBh.out.trans (hw2.mono HBh.out.size))
    clear hw2
    dsimp only
    go_wp2_with fail
    go_ret
    exact ⟨⟨_, rfl, by rw [HR.out]; simp⟩, HB2.out⟩
  ·obtain rfl : k = n := by omega
   have HR := hid (show l.any p = false by have h := HA.out; rw [HNL.out, List.take_length] at h; exact h)
   have HBh := hid hB
   clear hB
   go_wp2_with fail
   go_ret
   exact ⟨⟨_, rfl, by rw [HR.out]; decide⟩, HBh.out⟩
theorem cofI_any (gk : Nat) (lb : Array Value) (eg : ∀ args w, (callFunc gk args).run prog w = .ok (.enter gk args) w) (p : Int -> Bool) (a : Option Addr) (n cap : Nat) (l : List Int) (w : World) (hE : Ints a n l w) (hn : n <= 1000000)
  (HC0 : ∀ x ∈ l, ∀ W, Below w.heap.size w W -> Calls prog gk (#[.int .i64 x] ++ lb) W λe w' => e = .returned (.bool (p x)) /\ Below W.heap.size W w') :
  Calls prog 184 #[.slice a n cap, .func (.func gk) #[] lb] w λe w' => e = .returned (.bool (l.any p)) /\ Below w.heap.size w w' := by
 have HI := hid (ixfI_any gk lb eg p a n cap l w hE hn HC0)
 clear hE hn HC0
 generalize l.any p = r at *
 go_enter func184, ntmps184
 go_wp2_with fail
 refine HI.out.mono ?_
 rintro e w1 ⟨⟨z, rfl, hz⟩, hB⟩
 dsimp only
 cases r with
 | true =>
  have h0 : 0 <= z := hz.2 rfl
  clear hz
  go_wp2_with fail
  go_ret
  exact ⟨by simp, hB⟩
 | false =>
  have h0 : ¬ 0 <= z := λh => by have := hz.1 h; cases this
  clear hz
  go_wp2_with fail
  go_ret
  exact ⟨by simp, hB⟩
def namesB (i : Int) (x : En) : Bool := decide (x.2 = i)
def dirNames (l : List Fs.Item) (i d : Int) : Bool := (Fs.nodeD l d).ents.any (namesB i)
def namedB (l : List Fs.Item) (i : Int) : Bool := (inosL l).any (dirNames l i)
theorem namedB_is {l : List Fs.Item} (h : Okl l) (i : Int) : namedB l i = decide (Fs.links l i ≠ 0) := by
 have key : namedB l i = true ↔ Fs.links l i ≠ 0 := by
  rw [Ne, Fs.countP_zero]
  unfold namedB inosL dirNames namesB
  simp only [List.any_eq_true, List.mem_map, decide_eq_true_eq]
  constructor
  ·rintro ⟨d, ⟨y, hy, rfl⟩, e, he, rfl⟩ hall
   rw [Fs.nodeD_of (Fs.node_at h.inos (show (y.1, y.2) ∈ l from hy))] at he
   exact hall y hy e he rfl
  ·intro hn
   refine Classical.byContradiction λhc => hn λy hy e he heq => hc ⟨y.1, ⟨y, hy, rfl⟩, e, ?_, heq⟩
   rw [Fs.nodeD_of (Fs.node_at h.inos (show (y.1, y.2) ∈ l from hy))]
   exact he
 cases hb : namedB l i with
 | true => exact (decide_eq_true (key.1 hb)).symm
 | false => exact (decide_eq_false λhc => by rw [key.2 hc] at hb; cases hb).symm
theorem c160_any (x : En) (i : Int) (g : Nat) (w : World) (hg : w.cell? ⟨g, 0, none⟩ = some (.int .i64 i)) : Calls prog 185 #[ev x, .pointer (some ⟨g, 0, none⟩)] w λe w' => e = .returned (.bool (namesB i x)) /\ Below w.heap.size w w' := by
 have hlt := block_lt_of_cell hg
 have HR := hid (show namesB i x = decide (x.2 = i) from rfl)
 go_enter func185, ntmps185
 go_wp2_with fail
 go_ret
 rw [HR.out]
 exact ⟨by rfl, (Below.refl _ _).alloc (Nat.le_refl _) _⟩
theorem c161_any (m : Option Nat) (nx : Int) (l : List Fs.Item) (i d : Int) (gs gi gf : Nat) (w : World) (h : Sv w m l) (h1 : w.heap[gs]? = some (.cells #[pv m, .int .i64 nx] 108 (0, 0))) (h2 : w.cell? ⟨gi, 0, none⟩ = some (.int .i64 i)) (h3 : w.cell? ⟨gf, 0, none⟩ = some (.func (.func 185) #[] #[.pointer (some ⟨gi, 0, none⟩)])) :
  Calls prog 186 #[.int .i64 d, .pointer (some ⟨gs, 0, none⟩), .pointer (some ⟨gf, 0, none⟩)] w λe w' => e = .returned (.bool (dirNames l i d)) /\ Below w.heap.size w w' := by
 have HN := hid (pNode_any m nx l d w h)
 have s0 : w.cell? ⟨gs, 0, none⟩ = some (pv m) := cell_obj h1 0
 have s1 : w.cell? ⟨gs, 1, none⟩ = some (.int .i64 nx) := cell_obj h1 1
 have hsm := h.ok.small d
 have eg : ∀ args w, (callFunc 185 args).run prog w = .ok (.enter 185 args) w := enters_of func185 (by kernel_rfl) rfl
 have HR := hid (show dirNames l i d = (Fs.nodeD l d).ents.any (namesB i) from rfl)
 have HG := hid (show ∀ W, Below w.heap.size w W -> W.cell? ⟨gi, 0, none⟩ = some (.int .i64 i) from λW hb => (hb.cell (block_lt_of_cell h2)).trans h2)
 have HF := hid (show ∀ W, Below w.heap.size w W -> W.cell? ⟨gf, 0, none⟩ = some (.func (.func 185) #[] #[.pointer (some ⟨gi, 0, none⟩)]) from λW hb => (hb.cell (block_lt_of_cell h3)).trans h3)
 clear h h1 h2 h3
 unfold Node11 at HN
 generalize Fs.nodeD l d = x at *
 obtain ⟨k, mo, dd, t, es⟩ := x
 dsimp only at hsm HN HR
 go_enter func186, ntmps186
 go_wp2_with fail
 refine HN.out.mono ?_
 rintro e w1 ⟨a, c, rfl, hE, hb⟩
 have HE := hid (hE.below (below_one w1 (.cells #[.int .i64 k, .int .i64 mo, .string dd, .string t, .slice a es.length c] 67)))
 have HB := hid (hb.trans ((below_one w1 (.cells #[.int .i64 k, .int .i64 mo, .string dd, .string t, .slice a es.length c] 67)).mono hb.size))
 have f0 := HF.out _ HB.out
 clear s0 s1 hE hb
 dsimp only
 go_wp2_with fail
 have hn9 : es.length <= 1000000 := by omega
 have HE9 := HE.out
 clear HF f0 hsm
 generalize w1.alloc (.cells #[.int .i64 k, .int .i64 mo, .string dd, .string t, .slice a es.length c] 67) = W3 at HE HE9 HB |-
 have HGB := hid (λ(W : World) (hW : Below W3.heap.size W3 W) => HG.out W (HB.out.trans (hW.mono HB.out.size)))
 clear HG
 have HC9 : ∀ x ∈ es, ∀ W, Below W3.heap.size W3 W -> Calls prog 185 (#[ev x] ++ #[.pointer (some ⟨gi, 0, none⟩)]) W λe w' => e = .returned (.bool (namesB i x)) /\ Below W.heap.size W w' := λx _ W hW => by
  show Calls prog 185 #[ev x, .pointer (some ⟨gi, 0, none⟩)] W _
  exact c160_any x i gi W (HGB.out W hW)
 have H9 := hid (cofE_any 185 #[.pointer (some ⟨gi, 0, none⟩)] eg (namesB i) a es.length c es W3 HE9 hn9 HC9)
 clear HE9 HC9 HGB
 refine H9.out.mono ?_
 rintro e w2 ⟨rfl, hb2⟩
 dsimp only
 go_wp2_with fail
 go_ret
 rw [HR.out]
 exact ⟨rfl, HB.out.trans (hb2.mono HB.out.size)⟩
theorem isNamed_any (m : Option Nat) (nx : Int) (l : List Fs.Item) (i : Int) (w : World) (h : Sv w m l) : Calls prog 154 #[stv m nx, .int .i64 i] w λe w' => e = .returned (.bool (decide (Fs.links l i ≠ 0))) /\ Below w.heap.size w w' := by
 have HIn := hid (λW (hb : Below w.heap.size w W) => inos_any m nx l W (h.below hb))
 have HR := hid (namedB_is h.ok i)
 have HSv := hid (λW (hb : Below w.heap.size w W) => h.below hb)
 have hl : (inosL l).length <= 1000 := by unfold inosL; rw [List.length_map]; exact h.ok.few
 have eg : ∀ args w, (callFunc 186 args).run prog w = .ok (.enter 186 args) w := enters_of func186 (by kernel_rfl) rfl
 clear h
 have HB := hid (show Bxs w [(w.heap.size, #[pv m, .int .i64 nx], 108), (w.heap.size + 1, #[.int .i64 i], 3), (w.heap.size + 1 + 1, #[.func (.func 185) #[] #[.pointer (some ⟨w.heap.size + 1, 0, none⟩)]], 174)] (((w.alloc (.cells #[pv m, .int .i64 nx] 108)).alloc (.cells #[.int .i64 i] 3)).alloc (.cells #[.func (.func 185) #[] #[.pointer (some ⟨w.heap.size + 1, 0, none⟩)]] 174)) from Bxs.three w _ _ _ _ _ _)
 go_enter func154, ntmps154
 go_wp2_with fail
 generalize ((w.alloc (.cells #[pv m, .int .i64 nx] 108)).alloc (.cells #[.int .i64 i] 3)).alloc (.cells #[.func (.func 185) #[] #[.pointer (some ⟨w.heap.size + 1, 0, none⟩)]] 174) = W0 at HB |-
 go_wp2_with fail
 refine (HIn.out W0 HB.out.below).mono ?_
 rintro e w1 ⟨ao, cap, rfl, hrow, hb⟩
 have hbk := hb
 have HI := hid (irow_ints hrow rfl)
 clear hrow
 have HB := hid (HB.out.kept hbk)
 clear hbk
 dsimp only
 go_wp2_with fail
 have HC9 : ∀ x ∈ inosL l, ∀ W, Below w1.heap.size w1 W -> Calls prog 186 (#[.int .i64 x] ++ #[.pointer (some ⟨w.heap.size, 0, none⟩), .pointer (some ⟨w.heap.size + 1 + 1, 0, none⟩)]) W λe w' => e = .returned (.bool (dirNames l i x)) /\ Below W.heap.size W w' := λx _ W hW => by
  show Calls prog 186 #[.int .i64 x, .pointer (some ⟨w.heap.size, 0, none⟩), .pointer (some ⟨w.heap.size + 1 + 1, 0, none⟩)] W _
  exact c161_any m nx l i x w.heap.size (w.heap.size + 1) (w.heap.size + 1 + 1) W (HSv.out W (HB.out.below.trans (hW.mono HB.out.below.size))) ((HB.out.kept hW).obj 0 rfl) ((HB.out.kept hW).cell 1 rfl 0) ((HB.out.kept hW).cell 2 rfl 0)
 have H9 := hid (cofI_any 186 #[.pointer (some ⟨w.heap.size, 0, none⟩), .pointer (some ⟨w.heap.size + 1 + 1, 0, none⟩)] eg (dirNames l i) ao (inosL l).length cap (inosL l) w1 HI.out (by omega) HC9)
 clear HC9
 refine H9.out.mono ?_
 rintro e w8 ⟨rfl, hb2⟩
 have HB2 := hid (HB.out.below.trans (hb2.mono HB.out.below.size))
 clear hb2
 dsimp only
 go_wp2_with fail
 go_ret
 rw [<- HR.out]
 exact ⟨rfl, HB2.out⟩
theorem height_step (m : Option Nat) (nx : Int) (l : List Fs.Item) (k mo : Int) (d t : ByteArray) (es : List En) (a : Option Addr) (c : Nat) (w : World) (V : En -> Nat) (h : Sv w m l) (hE : Ents a es.length es w) (hel : es.length <= 64)
  (hV : ∀ e ∈ es, V e <= 100 /\ ∀ W a' c', Below w.heap.size w W -> Ents a' (Fs.nodeD l e.2).ents.length (Fs.nodeD l e.2).ents W -> Calls prog 161 #[stv m nx, nv (Fs.nodeD l e.2).kind (Fs.nodeD l e.2).mode (Fs.nodeD l e.2).data (Fs.nodeD l e.2).target a' (Fs.nodeD l e.2).ents.length c'] W λr w' => r = .returned (.int .i64 (V e)) /\ Below W.heap.size W w') :
  Calls prog 161 #[stv m nx, nv k mo d t a es.length c] w λe w' => e = .returned (.int .i64 (vfold V es)) /\ Below w.heap.size w w' := by
 have HN := hid (λi W (hb : Below w.heap.size w W) => pNode_any m nx l i W (h.below hb))
 have HEn := hid (λW (hb : Below w.heap.size w W) => hE.below hb)
 have HV := hid hV
 have HB := hid (show Bxs w [(w.heap.size, #[pv m, .int .i64 nx], 108), (w.heap.size + 1, #[.int .i64 k, .int .i64 mo, .string d, .string t, .slice a es.length c], 67)] ((w.alloc (.cells #[pv m, .int .i64 nx] 108)).alloc (.cells #[.int .i64 k, .int .i64 mo, .string d, .string t, .slice a es.length c] 67)) from Bxs.two w _ _ _ _)
 clear h hE hV
 go_enter func161, ntmps161
 go_wp2_with fail
 generalize (w.alloc (.cells #[pv m, .int .i64 nx] 108)).alloc (.cells #[.int .i64 k, .int .i64 mo, .string d, .string t, .slice a es.length c] 67) = W0 at HB |-
 go_loopw [5, 7, 8, 9, 13] (λx5 _ _ _ x13 wr => ∃ q : Nat, q <= es.length /\ x13 = .int .i64 q /\ x5 = .int .i64 (vfold V (es.take q)) /\ Bxs w [(w.heap.size, #[pv m, .int .i64 nx], 108), (w.heap.size + 1, #[.int .i64 k, .int .i64 mo, .string d, .string t, .slice a es.length c], 67)] wr) (λ_ _ _ _ x13 _ => es.length - (intOf x13).toNat)
 case atStart => exact ⟨0, Nat.zero_le _, rfl, rfl, HB.out⟩
 case round =>
  clear HB
  obtain ⟨q, hq, rfl, rfl, hb⟩ := hrel
  have HB := hid hb
  clear hb
  by_cases hlt : q < es.length
  ·have q0 : (q : Int) < (es.length : Int) := by omega
   have hq0 : (0 : Int) <= (q : Int) := by omega
   have hE := HEn.out wr HB.out.below
   obtain ⟨b2, o2, rfl, -, -⟩ := hE.cell q hlt
   obtain ⟨y, hy, d0, d1⟩ := ents_at hE hlt
   obtain ⟨hy1, hy2⟩ := HV.out y (List.mem_of_getElem? hy)
   have HY2 := hid hy2
   have HT := hid (show vfold V (es.take (q + 1)) = max (vfold V (es.take q)) (1 + V y) by rw [take_succ_some hy, vfold_snoc])
   clear hy hE hy2
   generalize vfold V (es.take q) = N at *
   generalize V y = M at *
   have hwr : IntKind.i64.wrap (1 + (M : Int)) = 1 + (M : Int) := IntWalk.i64_in _ (by omega)
   have hmx : max (N : Int) (1 + (M : Int)) = ((max N (1 + M) : Nat) : Int) := by omega
   have s0 : (wr.alloc (.cells #[.string y.1, .int .i64 y.2] 146)).cell? ⟨w.heap.size, 0, none⟩ = some (pv m) := (HB.out.kept (below_one wr _)).cell 0 rfl 0
   have s1 : (wr.alloc (.cells #[.string y.1, .int .i64 y.2] 146)).cell? ⟨w.heap.size, 1, none⟩ = some (.int .i64 nx) := (HB.out.kept (below_one wr _)).cell 0 rfl 1
   go_wp2_with fail
   refine (HN.out y.2 _ (HB.out.kept (below_one wr (.cells #[.string y.1, .int .i64 y.2] 146))).below).mono ?_
   rintro e w2 ⟨ea, ec, rfl, hE2, hb2⟩
   have HB2 := hid ((HB.out.kept (below_one wr (.cells #[.string y.1, .int .i64 y.2] 146))).kept hb2)
   have HY3 := hid (λW a' c' (hb : Below w.heap.size w W) hE => HY2.out W a' c' hb hE)
   obtain ⟨z, hz⟩ : ∃ z, Fs.nodeD l y.2 = z := ⟨_, rfl⟩
   rw [hz] at HY3 hE2 |-
   obtain ⟨k2, m2, dd2, t2, e2⟩ := z
   clear HY2 hz s0 s1 hb2 d0 d1
   have HB3 := hid (HB2.out.kept (below_one w2 (.cells #[.int .i64 k2, .int .i64 m2, .string dd2, .string t2, .slice ea e2.length ec] 67)))
   have HE3 := hid (hE2.below (below_one w2 (.cells #[.int .i64 k2, .int .i64 m2, .string dd2, .string t2, .slice ea e2.length ec] 67)))
   have s0 : (w2.alloc (.cells #[.int .i64 k2, .int .i64 m2, .string dd2, .string t2, .slice ea e2.length ec] 67)).cell? ⟨w.heap.size, 0, none⟩ = some (pv m) := HB3.out.cell 0 rfl 0
   have s1 : (w2.alloc (.cells #[.int .i64 k2, .int .i64 m2, .string dd2, .string t2, .slice ea e2.length ec] 67)).cell? ⟨w.heap.size, 1, none⟩ = some (.int .i64 nx) := HB3.out.cell 0 rfl 1
   clear hE2
   dsimp only
   go_wp2_with fail
   refine (HY3.out _ ea ec HB3.out.below HE3.out).mono ?_
   rintro e w3 ⟨rfl, hb3⟩
   have HB4 := hid (HB3.out.kept hb3)
   clear s0 s1 hb3
   dsimp only
   go_wp2_with fail
   go_roundw
   case rel => exact ⟨q + 1, by omega, by go_num, by rw [HT.out], HB4.out⟩
   case measure => simp [intOf]; omega
  ·obtain rfl : q = es.length := by omega
   have HR := hid (show vfold V (es.take es.length) = vfold V es by rw [List.take_length])
   go_wp2_with fail
   go_ret
   rw [HR.out]
   exact ⟨rfl, HB.out.below⟩
theorem height_any (m : Option Nat) (nx : Int) (l : List Fs.Item) (w0 : World) (h : Sv w0 m l) : ∀ (K : Nat), K <= 100 -> ∀ (i : Int) (a : Option Addr) (c : Nat) (w : World), Below w0.heap.size w0 w -> Ents a (Fs.nodeD l i).ents.length (Fs.nodeD l i).ents w -> Dp l K i ->
  Calls prog 161 #[stv m nx, nv (Fs.nodeD l i).kind (Fs.nodeD l i).mode (Fs.nodeD l i).data (Fs.nodeD l i).target a (Fs.nodeD l i).ents.length c] w λe w' => e = .returned (.int .i64 (Fs.deep l K i)) /\ Below w.heap.size w w' := by
 intro K
 induction K with
 | zero =>
  intro _ i a c w hb hE hD
  have hD : (Fs.nodeD l i).ents = [] := hD
  refine (height_step m nx l _ _ _ _ (Fs.nodeD l i).ents a c w (λ_ => 0) (h.below hb) hE (h.ok.small i) (by rw [hD]; intro e he; cases he)).mono ?_
  rintro e w' ⟨rfl, hb⟩
  rw [hD]
  exact ⟨rfl, hb⟩
 | succ K ih =>
  intro hK i a c w hb hE hD
  exact height_step m nx l _ _ _ _ (Fs.nodeD l i).ents a c w (λe => Fs.deep l K e.2) (h.below hb) hE (h.ok.small i) λe he => ⟨Nat.le_trans (deep_small _ _ _) (by omega), λW a' c' hb' hE' => ih (by omega) e.2 a' c' W (hb.trans (hb'.mono hb.size)) hE' (hD e he)⟩
end Go.Proofs.YthbajmlmjjfgpaaGreatDoor
namespace Go.Proofs.YthbajmlmjjfgpaaGreatDoor
open Go.RowKit Go.Less
attribute [local go_sem 9000] sem_eql sem_neq
theorem count_any (s : ByteArray) (w : World) : Calls prog 160 #[.string s, .string ⟨#[47]⟩] w λe w' => e = .returned (.int .i64 (Lib.countByte s.data.toList 47)) /\ w' = w := by
 go_enter func160, ntmps160
 go_wp2
 rw [run_callFunc_extern func190 (by kernel_rfl) (by kernel_rfl) (by kernel_rfl) (e := Extern.BytealgCount.count) (by kernel_rfl), Lib.run_countString]
 simp only [Result.andThen]
 rw [Oper.upon_value]
 go_wp2
 go_ret
 exact ⟨rfl, rfl⟩
end Go.Proofs.YthbajmlmjjfgpaaGreatDoor
namespace Go.Proofs.YthbajmlmjjfgpaaGreatDoor
open T8 (pv)
theorem bx3 (w : World) (m : Option Nat) (nx kd : Int) (oa ob : ByteArray) (oo og on : Int) (od : ByteArray) : ∃ W0, ((w.alloc (.cells #[pv m, .int .i64 nx] 108)).alloc (.cells #[.int .i64 kd, .string oa, .string ob, .int .i64 oo, .int .i64 og, .int .i64 on, .string od] 74)).alloc (.cells #[.pointer none, .int .i64 0] 108) = W0 /\ RowKit.Hid (Bxs w [(w.heap.size, #[pv m, .int .i64 nx], 108), (w.heap.size + 1, #[.int .i64 kd, .string oa, .string ob, .int .i64 oo, .int .i64 og, .int .i64 on, .string od], 74), (w.heap.size + 1 + 1, #[.pointer none, .int .i64 0], 108)] W0) := ⟨_, rfl, hid (Bxs.three w _ _ _ _ _ _)⟩
end Go.Proofs.YthbajmlmjjfgpaaGreatDoor
