/- A part of the proofs. -/
import Derived.ScopeJumps
import Derived.Shelf.Strings.Builder1
import Derived.Shelf.Strings.Builder2
import Derived.Shelf.Strings.BuilderF
import Derived.Shelf.Strings.BuilderK
import Derived.Shelf.Strings.Repeat
import Derived.Test.YthbajmlmjjfgpaaGreatDoorC01
set_option maxRecDepth 1000000
set_option maxHeartbeats 16000000
open Go.Lib (hid)
open Go.Proofs.Tryz
namespace Go.Proofs.YthbajmlmjjfgpaaGreatDoor.T8
open Go.RowKit Sha
def strLen : Value -> Nat | .string s => s.size | _ => 0
theorem pc_over (ws : Nat -> BitVec 32) (m : Nat -> UInt8) (h n : Nat) (hl t : Int) (r : List UInt8) (hn : h + n <= 64) (hr : n <= r.length) :
  ((pc ws m hl t).toList.take (8 + h + 0) ++ (r.take n).map (λb => bv b) ++ (pc ws m hl t).toList.drop (8 + h + 0 + ((r.take n).map (λb => bv b)).length)).toArray = pc ws (over m h n r) hl t := by
 have hlen : ((r.take n).map (λb => bv b)).length = n := by simp; omega
 have hz := pc_size ws m hl t
 have key : ∀ i : Nat, ((pc ws m hl t).toList.take (8 + h + 0) ++ (r.take n).map (λb => bv b) ++ (pc ws m hl t).toList.drop (8 + h + 0 + ((r.take n).map (λb => bv b)).length))[i]? = (pc ws (over m h n r) hl t)[i]? := by
  intro i
  rw [hlen, Nat.add_zero]
  have hT : ((pc ws m hl t).toList.take (8 + h)).length = 8 + h := by rw [List.length_take, Array.length_toList, hz]; omega
  by_cases h1 : i < 8
  ·rw [List.append_assoc, List.getElem?_append_left (by omega), List.getElem?_take, if_pos (by omega), Array.getElem?_toList, pc_word _ _ _ _ i h1, pc_word _ _ _ _ i h1]
  ·by_cases h2 : i < 72
   ·obtain ⟨j, rfl⟩ : ∃ j, i = 8 + j := ⟨i - 8, by omega⟩
    rw [pc_byte _ _ _ _ j (by omega)]
    unfold over
    by_cases h3 : j < h
    ·rw [List.append_assoc, List.getElem?_append_left (by omega), List.getElem?_take, if_pos (by omega), Array.getElem?_toList, pc_byte _ _ _ _ j (by omega), if_neg (by omega)]
    ·by_cases h4 : j < h + n
     ·rw [List.getElem?_append_left (by rw [List.length_append, hT, hlen]; omega), List.getElem?_append_right (by omega), hT, if_pos ⟨by omega, h4⟩, show 8 + j - (8 + h) = j - h by omega]
      rw [List.getElem?_map, List.getElem?_take, if_pos (by omega), List.getElem?_eq_getElem (by omega)]
      simp [List.getD, List.getElem?_eq_getElem (show j - h < r.length by omega)]
     ·rw [List.getElem?_append_right (by rw [List.length_append, hT, hlen]; omega), List.length_append, hT, hlen, List.getElem?_drop, Array.getElem?_toList, show 8 + h + n + (8 + j - (8 + h + n)) = 8 + j by omega, pc_byte _ _ _ _ j (by omega), if_neg (by omega)]
   ·rw [List.getElem?_append_right (by rw [List.length_append, hT, hlen]; omega), List.length_append, hT, hlen, List.getElem?_drop, Array.getElem?_toList, show 8 + h + n + (i - (8 + h + n)) = i by omega]
    by_cases h5 : i < 74
    ·obtain rfl | rfl : i = 72 \/ i = 73 := by omega
     ·rfl
     ·rfl
    ·rw [Array.getElem?_eq_none (by rw [pc_size]; omega), Array.getElem?_eq_none (by rw [pc_size]; omega)]
 apply Array.ext'
 apply List.ext_getElem?
 intro i
 rw [List.toList_toArray, key i, Array.getElem?_toList]
theorem run_copy_gen {P : Program} (w : World) (dT sT ty elem : TypeId) (hu : P.underlying dT = some (.slice elem)) (hz : (sizeOf elem).run P w = .ok 1 w) (base : Option Addr) (dLen dCap : Nat) (r : ByteArray) (n : Nat) (hn : Nat.min r.size dLen = n) (a : Addr) (w2 : World) (hb : base = some a)
  (hst : (storeCells a ((r.data.toList.map λb => (Value.int .u8 (b.toNat : Int))).take n)).run P w = .ok () w2) :
  (Builtin.copy_ #[dT, sT] ty #[.slice base dLen dCap, .string r]).run P w = .ok (goInt n) w2 := by
 subst hb
 simp [Builtin.copy_, run_underlying hu, Builtin.lenOf, Builtin.firstCells, hz, hn, hst]
theorem run_copy_str (w : World) (b h n : Nat) (r : ByteArray) (ws : Nat -> BitVec 32) (m : Nat -> UInt8) (hl t : Int) (ty : TypeId) (hh : h < 64) (hn : n = min r.size (64 - h)) (hp : w.heap[b]? = some (.cells (pc ws m hl t) 268 (0, 0))) :
  (Builtin.copy_ #[91, 9] ty #[.slice (some ⟨b, 8 + h, none⟩) (64 - h) (64 - h), .string r]).run prog w =
   .ok (goInt n) (w.setRow b (pc ws (over m h n r.data.toList) hl t)) := by
 have hrs : r.data.toList.length = r.size := by rw [Array.length_toList]; rfl
 have hst := run_storeCells_at prog b (8 + h) 268 ((r.data.toList.take n).map (λb => bv b)) 0 _ w hp (by rw [pc_size, List.length_map, List.length_take]; omega) (by intro v hv; obtain ⟨x, _, rfl⟩ := List.mem_map.1 hv; rfl)
 rw [pc_over ws m h n hl t r.data.toList (by omega) (by omega)] at hst
 have hz : (sizeOf 5).run prog w = .ok 1 w := by kernel_rfl
 have hmin : Nat.min r.size (64 - h) = n := hn.symm
 exact run_copy_gen w 91 9 ty 5 underlying91 hz (some ⟨b, 8 + h, none⟩) (64 - h) (64 - h) r n hmin _ _ rfl (by rw [<- List.map_take]; exact hst)
theorem scope_jumps2 {P : Program} {a : Act} {w : World} {Q : Exit -> Act -> World -> Prop} {c rest : Code} (l : Nat) (J : Act -> World -> Prop) (μ : Act -> World -> Nat) (hf : findLabel c l = some (Code.skip.seq rest))
  (pass : ∀ a w, J a w -> rest.wp P (Exit.jump l (λa' w' => J a' w' /\ μ a' w' < μ a w) Q) a w)
  (first : (∀ a w, J a w -> rest.wp P (Exit.jump l J Q) a w) -> c.wp P (Exit.jump l J Q) a w) : (Code.scope c).wp P Q a w :=
 wp_scope_jumps l J μ hf (first λa w hj => Code.wp_mono (λe a w h => by cases e <;> first | exact h | exact ⟨h.1, h.2.1⟩) (pass a w hj))
  (λa w hj => wp_seq (wp_skip (pass a w hj)))
structure FeedW (b : Nat) (Z : List UInt8) (T : Int) (w : World) (r : ByteArray) (wr : World) : Prop where
 ex : ∃ (F : List UInt8) (s : St) (m : Nat -> UInt8) (h : Nat), F ++ r.data.toList = Z /\ Holds F s m h /\ wr.heap[b]? = some (.cells (pc s.get m h T) 268 (0, 0))
 only : OnlyB b w wr
def Fed (b : Nat) (S : List UInt8) (w : World) : Prop := ∃ (s : St) (m : Nat -> UInt8) (h : Nat), Holds S s m h /\ w.heap[b]? = some (.cells (pc s.get m h S.length) 268 (0, 0))
theorem FeedW.start {b : Nat} {S : List UInt8} {x : ByteArray} {s : St} {m : Nat -> UInt8} {h : Nat} {w : World} (hh : Holds S s m h) (hp : w.heap[b]? = some (.cells (pc s.get m h S.length) 268 (0, 0))) :
  FeedW b (S ++ x.data.toList) ((S.length + x.size : Nat) : Int) w x (w.setCell ⟨b, 73, none⟩ (.int .u64 ((S.length : Int) + (x.size : Int)))) := by
 refine ⟨⟨S, s, m, h, rfl, hh, ?_⟩, (OnlyB.refl b w).setCell (p := ⟨b, 73, none⟩) (.inl rfl) _⟩
 rw [heap_setCell_same w b 73 _ _ _ hp, pc_setTotal, Int.natCast_add]
theorem cut_tail (r : ByteArray) (n : Nat) : (r.extract n r.size).data.toList = r.data.toList.drop n := by
 rw [ByteArray.data_extract, Array.toList_extract, List.extract_eq_take_drop, List.take_of_length_le]
 rw [List.length_drop, Array.length_toList]; exact Nat.le_refl _
theorem fed_over (wr : World) (b : Nat) (ws : Nat -> BitVec 32) (m m' : Nat -> UInt8) (h t : Int) (w : World) (hp : wr.heap[b]? = some (.cells (pc ws m h t) 268 (0, 0))) (ho : OnlyB b w wr) :
  (wr.drew.setRow b (pc ws m' h t)).heap[b]? = some (.cells (pc ws m' h t) 268 (0, 0)) /\ OnlyB b w (wr.drew.setRow b (pc ws m' h t)) :=
 ⟨setRow_heap wr.drew b _ _ _ _ hp, (ho.drewN 1).setRow (.inl rfl) _⟩
theorem feed_any (b : Nat) (S : List UInt8) (x : ByteArray) (w : World) (hb1 : b ≠ 3) (hp : Fed b S w) (hsz : S.length + x.size <= 1099511627776)
  (hK : ∀ j, j < 64 -> w.cell? ⟨3, j, none⟩ = some (wv (kAt j))) :
  Calls prog 224 #[.pointer (some ⟨b, 0, none⟩), .string x] w λe w' => e = .returned (.tuple #[]) /\ OnlyB b w w' /\ Fed b (S ++ x.data.toList) w' := by
 obtain ⟨s, m, h, hh, hp⟩ := hp
 have ht := (cell_of_row w b 73 _ _ _ hp).trans (pc_total _ _ _ _)
 have hf := frozen_of_row w b 73 _ _ hp
 have HK := hid hK
 clear hK
 go_enter func224, ntmps224
 go_wp2
 refine scope_jumps2 0 (λa' wr => ∃ (r : ByteArray) (v4 v5 v6 v7 v8 v9 v10 v11 v12 v13 v14 v15 v16 v17 v18 v19 v20 v21 v22 v23 v24 v25 v26 v27 v28 v29 v30 v31 v32 v33 v34 v35 v36 v37 v38 v39 v40 v41 v42 v43 v44 v45 : Value), a' = { tmps := #[.pointer (some ⟨b, 0, none⟩), .string r, undef, undef, v4, v5, v6, v7, v8, v9, v10, v11, v12, v13, v14, v15, v16, v17, v18, v19, v20, v21, v22, v23, v24, v25, v26, v27, v28, v29, v30, v31, v32, v33, v34, v35, v36, v37, v38, v39, v40, v41, v42, v43, v44, v45], defers := [] } /\ FeedW b (S ++ x.data.toList) ((S.length + x.size : Nat) : Int) w r wr) (λa' _ => strLen (a'.tmps.getD 1 undef)) rfl ?_ ?_
 ·rintro a' wr ⟨r, v4, v5, v6, v7, v8, v9, v10, v11, v12, v13, v14, v15, v16, v17, v18, v19, v20, v21, v22, v23, v24, v25, v26, v27, v28, v29, v30, v31, v32, v33, v34, v35, v36, v37, v38, v39, v40, v41, v42, v43, v44, v45, rfl, hr⟩
  obtain ⟨⟨F, s1, m1, h1, hF, hH, hp1⟩, ho⟩ := hr
  have hh1 : h1 < 64 := by have := hH.place; omega
  have c2 := (cell_of_row wr b 72 _ _ _ hp1).trans (pc_held _ _ _ _)
  have hs := λW : World => run_blockSlice W b 8 (h1 : Int) h1 rfl hh1
  by_cases hc : 64 - h1 <= r.size
  ·have hcp := run_copy_str wr.drew b h1 (64 - h1) r s1.get m1 h1 ((S.length + x.size : Nat) : Int) 3 hh1 (by omega) hp1
   have hw2 := fed_over wr b s1.get m1 (over m1 h1 (64 - h1) r.data.toList) h1 ((S.length + x.size : Nat) : Int) w hp1 ho
   generalize World.setRow _ _ _ = w2 at hcp hw2
   obtain ⟨hp2, ho2⟩ := hw2
   have c2' := (cell_of_row w2 b 72 _ _ _ hp2).trans (pc_held _ _ _ _)
   have f2' := frozen_of_row w2 b 72 _ _ hp2
   have hfull := λm' => hH.full r.data.toList m' (by rw [Array.length_toList]; exact hc)
   have hdone : ∀ n, (F ++ r.data.toList.take n) ++ (r.extract n r.size).data.toList = S ++ x.data.toList := by
    intro n
    rw [<- hF, List.append_assoc, cut_tail, List.take_append_drop]
   have hmeas : 0 < 64 - h1 := by omega
   have HF := hid hfull
   have HD := hid hdone
   have hq : ((h1 : Int) + ((64 - h1 : Nat) : Int) == 64) = true := by rw [beq_iff_eq]; omega
   have hge : ((64 - h1 : Nat) : Int) <= (r.size : Int) := by omega
   have h1le : (h1 : Int) + ((64 - h1 : Nat) : Int) <= 64 := by omega
   clear hfull hdone hF hH ho hc
   generalize 64 - h1 = n at *
   have hp3 : (w2.setCell ⟨b, 72, none⟩ (.int .i64 ((h1 : Int) + (n : Int)))).heap[b]? = some (.cells (pc s1.get (over m1 h1 n r.data.toList) ((h1 : Int) + (n : Int)) ((S.length + x.size : Nat) : Int)) 268 (0, 0)) := by
    rw [heap_setCell_same w2 b 72 _ _ _ hp2, pc_setHeld]
   have ho3 : OnlyB b w (w2.setCell ⟨b, 72, none⟩ (.int .i64 ((h1 : Int) + (n : Int)))) := ho2.setCell (p := ⟨b, 72, none⟩) (.inl rfl) _
   have HP := hid (pressBlock_any b s1 (over m1 h1 n r.data.toList) _ _ _ hb1 hp3 (λj hj => (ho3.cell ⟨3, j, none⟩ (lt_of_K HK.out) hb1.symm).trans (HK.out j hj)))
   have HO := hid ho3
   clear hp3 ho3 ho2 hp2
   go_wp2
   go_still_tail 9, (by kernel_rfl)
   change wpList _ _ _ _ _ wr.drew
   go_wp2_with (go_at_call 246; refine HP.out.mono ?_; rintro e w4 ⟨rfl, ho4, hp4⟩; have c4 := (cell_of_row w4 b 72 _ _ _ hp4).trans (pc_held _ _ _ _); have f4 := frozen_of_row w4 b 72 _ _ hp4)
   go_step3
   refine ⟨rfl, ⟨r.extract n r.size, _, _, _, _, _, _, _, _, _, _, _, _, _, _, _, _, _, _, _, _, _, _, _, _, _, _, _, _, _, _, _, _, _, _, _, _, _, _, _, _, _, _, rfl, ⟨⟨F ++ r.data.toList.take n, _, over m1 h1 n r.data.toList, 0, HD.out n, HF.out _, ?_⟩, (HO.out.trans ho4).setCell (p := ⟨b, 72, none⟩) (.inl rfl) _⟩⟩, ?_⟩
   ·rw [heap_setCell_same w4 b 72 _ _ _ hp4, pc_setHeld]; rfl
   ·simp [strLen]; omega
  ·have hcp := run_copy_str wr.drew b h1 r.size r s1.get m1 h1 ((S.length + x.size : Nat) : Int) 3 hh1 (by omega) hp1
   have hw2 := fed_over wr b s1.get m1 (over m1 h1 r.size r.data.toList) h1 ((S.length + x.size : Nat) : Int) w hp1 ho
   generalize World.setRow _ _ _ = w2 at hcp hw2
   obtain ⟨hp2, ho2⟩ := hw2
   have c2' := (cell_of_row w2 b 72 _ _ _ hp2).trans (pc_held _ _ _ _)
   have f2' := frozen_of_row w2 b 72 _ _ hp2
   have hless := hid (hH.less r.data.toList (by rw [Array.length_toList]; show h1 + r.size < 64; omega))
   have HF := hid hF
   have HP2 := hid hp2
   have hq : (h1 : Int) + (r.size : Int) < 64 := by omega
   clear hF hH ho hc hp2
   go_wp2
   go_still_tail 9, (by kernel_rfl)
   change wpList _ _ _ _ _ wr.drew
   go_wp2
   simp only [Exit.jump]
   go_end0
   refine ⟨rfl, ho2.setCell (p := ⟨b, 72, none⟩) (.inl rfl) _, s1, over m1 h1 r.size r.data.toList, h1 + r.size, ?_, ?_⟩
   ·rw [<- HF.out]; exact hless.out
   ·rw [heap_setCell_same w2 b 72 _ _ _ HP2.out, pc_setHeld, List.length_append, Array.length_toList, Int.natCast_add]; rfl
 ·intro hpass
  go_wp2
  go_step3
  rename_i Kf hKf
  exact hKf _ _ (hpass _ _ ⟨x, _, _, _, _, _, _, _, _, _, _, _, _, _, _, _, _, _, _, _, _, _, _, _, _, _, _, _, _, _, _, _, _, _, _, _, _, _, _, _, _, _, _, rfl, FeedW.start hh hp⟩)
end Go.Proofs.YthbajmlmjjfgpaaGreatDoor.T8
namespace Go.Proofs.YthbajmlmjjfgpaaGreatDoor.T8
open Go.Shelf
def ren : Go.Shelf.Ren := ⟨λ| 99 => 260 | 105 => 247 | 165 => 243 | 166 => 41 | 167 => 15 | 169 => 44 | 170 => 261 | 206 => 223 | 212 => 259 | 240 => 92 | 241 => 256 | 263 => 265 | 264 => 266 | 276 => 137 | 277 => 263 | n => n, λ| 0 => 0 | 3 => 3 | 4 => 4 | 5 => 5 | 9 => 9 | 20 => 20 | 37 => 91 | 46 => 157 | 51 => 195 | 53 => 197 | 70 => 90 | 72 => 93 | 75 => 98 | 76 => 99 | 80 => 46 | 109 => 301 | 127 => 162 | 146 => 288 | 148 => 308 | 164 => 193 | n => n, λ| n => n⟩
theorem lays105 : Go.Proofs.Lays.n105 prog ren := {
 mixed := by kernel_rfl
 f99 := func260.trans (congrArg some (by kernel_rfl))
 f105 := func247.trans (congrArg some (by kernel_rfl))
 f165 := func243.trans (congrArg some (by kernel_rfl))
 f166 := func41.trans (congrArg some (by kernel_rfl))
 f169 := func44.trans (congrArg some (by kernel_rfl))
 f170 := func261.trans (congrArg some (by kernel_rfl))
 f206 := func223.trans (congrArg some (by kernel_rfl))
 f212 := func259.trans (congrArg some (by kernel_rfl))
 f240 := func92.trans (congrArg some (by kernel_rfl))
 f241 := func256.trans (congrArg some (by kernel_rfl))
 f263 := func265.trans (congrArg some (by kernel_rfl))
 f264 := func266.trans (congrArg some (by kernel_rfl))
 f276 := func137.trans (congrArg some (by kernel_rfl))
 f277 := func263.trans (congrArg some (by kernel_rfl))
 t0 := underlying0
 a0 := Tryz.isAgg0
 z0 := Tryz.sizeOf0
 v0 := Tryz.zeroValue0
 t3 := underlying3
 a3 := Tryz.isAgg3
 z3 := Tryz.sizeOf3
 v3 := Tryz.zeroValue3
 t4 := underlying4
 a4 := Tryz.isAgg4
 z4 := Tryz.sizeOf4
 v4 := Tryz.zeroValue4
 t5 := underlying5
 a5 := Tryz.isAgg5
 z5 := Tryz.sizeOf5
 v5 := Tryz.zeroValue5
 t9 := underlying9
 a9 := Tryz.isAgg9
 z9 := Tryz.sizeOf9
 v9 := Tryz.zeroValue9
 t20 := underlying20
 a20 := Tryz.isAgg20
 z20 := Tryz.sizeOf20
 v20 := Tryz.zeroValue20
 t37 := underlying91
 a37 := Tryz.isAgg91
 z37 := Tryz.sizeOf91
 v37 := Tryz.zeroValue91
 t46 := underlying157
 a46 := Tryz.isAgg157
 z46 := Tryz.sizeOf157
 v46 := Tryz.zeroValue157
 t51 := underlying195
 a51 := Tryz.isAgg195
 z51 := Tryz.sizeOf195
 v51 := Tryz.zeroValue195
 t53 := underlying197
 a53 := Tryz.isAgg197
 z53 := Tryz.sizeOf197
 v53 := Tryz.zeroValue197
 t70 := underlying90
 a70 := Tryz.isAgg90
 z70 := Tryz.sizeOf90
 v70 := Tryz.zeroValue90
 t72 := underlying93
 a72 := Tryz.isAgg93
 z72 := Tryz.sizeOf93
 v72 := Tryz.zeroValue93
 t75 := underlying98
 a75 := Tryz.isAgg98
 z75 := Tryz.sizeOf98
 v75 := Tryz.zeroValue98
 t76 := underlying99
 a76 := Tryz.isAgg99
 z76 := Tryz.sizeOf99
 v76 := Tryz.zeroValue99
 t109 := underlying301
 a109 := Tryz.isAgg301
 z109 := Tryz.sizeOf301
 v109 := Tryz.zeroValue301
 t127 := underlying162
 a127 := Tryz.isAgg162
 z127 := Tryz.sizeOf162
 v127 := Tryz.zeroValue162
 t146 := underlying288
 a146 := Tryz.isAgg288
 z146 := Tryz.sizeOf288
 v146 := Tryz.zeroValue288
 t148 := underlying308
 a148 := Tryz.isAgg308
 z148 := Tryz.sizeOf308
 v148 := Tryz.zeroValue308
 t164 := underlying193
 a164 := Tryz.isAgg193
 z164 := Tryz.sizeOf193
 v164 := Tryz.zeroValue193 }
theorem lays166 : Go.Proofs.Lays.n166 prog ren := {
 mixed := by kernel_rfl
 f166 := func41.trans (congrArg some (by kernel_rfl))
 f240 := func92.trans (congrArg some (by kernel_rfl))
 f276 := func137.trans (congrArg some (by kernel_rfl))
 t0 := underlying0
 a0 := Tryz.isAgg0
 z0 := Tryz.sizeOf0
 v0 := Tryz.zeroValue0
 t3 := underlying3
 a3 := Tryz.isAgg3
 z3 := Tryz.sizeOf3
 v3 := Tryz.zeroValue3
 t4 := underlying4
 a4 := Tryz.isAgg4
 z4 := Tryz.sizeOf4
 v4 := Tryz.zeroValue4
 t9 := underlying9
 a9 := Tryz.isAgg9
 z9 := Tryz.sizeOf9
 v9 := Tryz.zeroValue9
 t20 := underlying20
 a20 := Tryz.isAgg20
 z20 := Tryz.sizeOf20
 v20 := Tryz.zeroValue20
 t37 := underlying91
 a37 := Tryz.isAgg91
 z37 := Tryz.sizeOf91
 v37 := Tryz.zeroValue91
 t70 := underlying90
 a70 := Tryz.isAgg90
 z70 := Tryz.sizeOf90
 v70 := Tryz.zeroValue90
 t72 := underlying93
 a72 := Tryz.isAgg93
 z72 := Tryz.sizeOf93
 v72 := Tryz.zeroValue93
 t75 := underlying98
 a75 := Tryz.isAgg98
 z75 := Tryz.sizeOf98
 v75 := Tryz.zeroValue98
 t164 := underlying193
 a164 := Tryz.isAgg193
 z164 := Tryz.sizeOf193
 v164 := Tryz.zeroValue193 }
theorem lays169 : Go.Proofs.Lays.n169 prog ren := {
 mixed := by kernel_rfl
 f169 := func44.trans (congrArg some (by kernel_rfl))
 t0 := underlying0
 a0 := Tryz.isAgg0
 z0 := Tryz.sizeOf0
 v0 := Tryz.zeroValue0
 t3 := underlying3
 a3 := Tryz.isAgg3
 z3 := Tryz.sizeOf3
 v3 := Tryz.zeroValue3
 t9 := underlying9
 a9 := Tryz.isAgg9
 z9 := Tryz.sizeOf9
 v9 := Tryz.zeroValue9
 t37 := underlying91
 a37 := Tryz.isAgg91
 z37 := Tryz.sizeOf91
 v37 := Tryz.zeroValue91
 t70 := underlying90
 a70 := Tryz.isAgg90
 z70 := Tryz.sizeOf90
 v70 := Tryz.zeroValue90
 t72 := underlying93
 a72 := Tryz.isAgg93
 z72 := Tryz.sizeOf93
 v72 := Tryz.zeroValue93
 t127 := underlying162
 a127 := Tryz.isAgg162
 z127 := Tryz.sizeOf162
 v127 := Tryz.zeroValue162 }
open Go.Shelf in
theorem extra : Builder.Extra prog ren := {
 sizeBuilder := by kernel_rfl
 liesBuilder := by kernel_rfl
 t5 := underlying5
 a5 := Tryz.isAgg5
 z5 := Tryz.sizeOf5
 v5 := Tryz.zeroValue5
 infoByte := by kernel_rfl
 cellsByte := by kernel_rfl
 sizeByte := by kernel_rfl
 neB5 := by decide }
end Go.Proofs.YthbajmlmjjfgpaaGreatDoor.T8
namespace Go.Proofs.YthbajmlmjjfgpaaGreatDoor.T8
open Go.RowKit Sha
def KOk (w : World) : Prop := ∀ j, j < 64 -> w.cell? ⟨3, j, none⟩ = some (wv (kAt j))
theorem KOk.lt {w : World} (h : KOk w) : 3 < w.heap.size := lt_of_K h
theorem KOk.below {w w' : World} (h : KOk w) (hb : Below w.heap.size w w') : KOk w' := λj hj => (hb.cell (p := ⟨3, j, none⟩) h.lt).trans (h j hj)
theorem KOk.only {b : Nat} {w w' : World} (h : KOk w) (hb : OnlyB b w w') (hb1 : b ≠ 3) : KOk w' := λj hj => (hb.cell ⟨3, j, none⟩ h.lt hb1.symm).trans (h j hj)
theorem Fed.lt {b : Nat} {S : List UInt8} {w : World} (h : Fed b S w) : b < w.heap.size := by
 obtain ⟨s, m, k, _, hp⟩ := h; exact lt_of_block hp
theorem Fed.below {b : Nat} {S : List UInt8} {w w' : World} (h : Fed b S w) (hb : Below w.heap.size w w') : Fed b S w' := by
 have hlt := h.lt
 obtain ⟨s, m, k, hh, hp⟩ := h
 exact ⟨s, m, k, hh, (hb.block b hlt).trans hp⟩
theorem wordText_int (n : Int) (w : World) (h0 : 0 <= n) (h1 : n < 4294967296) : Calls prog 225 #[.int .u32 n] w λe w' => e = .returned (.string ⟨(wordBytes (BitVec.ofNat 32 n.toNat)).toArray⟩) /\ Below w.heap.size w w' := by
 have e : u32 (BitVec.ofNat 32 n.toNat) = n := by unfold u32; rw [BitVec.toNat_ofNat]; omega
 have := wordText_any (BitVec.ofNat 32 n.toNat) w
 rw [show wv (BitVec.ofNat 32 n.toNat) = .int .u32 n by unfold wv; rw [e]] at this
 exact this
def zeros (c : Nat) : ByteArray := ⟨(List.replicate c 0).toArray⟩
theorem zeros_size (c : Nat) : (zeros c).size = c := by simp [zeros, ByteArray.size]
theorem zeros_data (c : Nat) : (zeros c).data.toList = List.replicate c 0 := by simp [zeros]
theorem repeatL_zero : ∀ c, Lib.repeatL [0] c = List.replicate c 0 := by
 intro c
 induction c with
 | zero => rfl
 | succ c ih => simp [Lib.repeatL, List.replicate_succ] at ih |-; try exact ih
theorem repeat_zeros (c : Nat) (w : World) (hc : c < 64) :
  Calls prog 247 #[.string ⟨#[0]⟩, .int .i64 c] w λe w' => e = .returned (.string (zeros c)) /\ Below w.heap.size w w' := by
 refine (Any.strings_Repeat lays105 extra ⟨#[0]⟩ c w (by omega) (by simp [ByteArray.size]; omega)).mono ?_
 rintro e w' ⟨rfl, hb⟩
 refine ⟨?_, hb⟩
 rw [repeatL_zero]; rfl
def wordStr (x : BitVec 32) : ByteArray := ⟨(wordBytes x).toArray⟩
theorem wordStr_size (x : BitVec 32) : (wordStr x).size = 4 := rfl
theorem wordStr_data (x : BitVec 32) : (wordStr x).data.toList = wordBytes x := rfl
theorem wordText_n (n : Int) (w : World) (h0 : 0 <= n) (h1 : n < 4294967296) : Calls prog 225 #[.int .u32 n] w λe w' => e = .returned (.string (wordStr (BitVec.ofNat 32 n.toNat))) /\ Below w.heap.size w w' := wordText_int n w h0 h1
theorem wordText_str (x : BitVec 32) (w : World) : Calls prog 225 #[wv x] w λe w' => e = .returned (.string (wordStr x)) /\ Below w.heap.size w w' := wordText_any x w
theorem builder_below {T e : TypeId} {B b : Nat} {bs : List Value} {w w' : World} (h : Lib.IsBuilder T e B b bs w) (hb : Below w.heap.size w w') : Lib.IsBuilder T e B b bs w' := by
 have hg : w.grownBy w' none := ⟨hb.os, hb.tape, hb.output, hb.size, λk hk _ => hb.block k hk⟩
 have step : ∀ p, Lib.BuilderAt T e B b p bs w -> Lib.BuilderAt T e B b p bs w' := by
  rintro p ⟨hB, v, hv, ho, hne⟩
  refine ⟨hB, v, (hb.block b (lt_of_block hv)).trans hv, ho.kept hg ?_, hne⟩
  cases v.ownBlock <;> simp
 exact h.elim (λx => .inl (step _ x)) (λx => .inr (step _ x))
theorem builder_new (w : World) : Lib.IsBuilder 93 5 w.heap.size w.heap.size (Lib.byteCells []) (w.alloc (.cells #[.pointer none, .slice none 0 0] 93)) :=
 .inl ⟨Nat.le_refl _, .slice none 0 0, heap_alloc_new w _, World.ownsRow_nil _ _ _ _, by simp [Value.ownBlock]⟩
theorem strCells_word (x : BitVec 32) : Lib.strCells (wordStr x) = Lib.byteCells (wordBytes x) := rfl
theorem byteCells_append (a b : List UInt8) : Lib.byteCells a ++ Lib.byteCells b = Lib.byteCells (a ++ b) := by simp [Lib.byteCells]
theorem tail_num (S : List UInt8) (X : List UInt8) : (S ++ 128 :: X) ++ (wordBytes (BitVec.ofNat 32 (S.length * 8 / 4294967296)) ++ wordBytes (BitVec.ofNat 32 (S.length * 8 % 4294967296))) = S ++ 128 :: X ++ num (8 * S.length) 8 := by
 rw [num_words, Nat.mul_comm 8 S.length]
 rw [show BitVec.ofNat 32 (S.length * 8 % 4294967296) = BitVec.ofNat 32 (S.length * 8) by apply BitVec.eq_of_toNat_eq; rw [BitVec.toNat_ofNat, BitVec.toNat_ofNat]; omega]
theorem finish_any (b : Nat) (S : List UInt8) (w : World) (hb1 : b ≠ 3) (hp : Fed b S w) (hsz : S.length <= 1000000000000) (hK : KOk w) :
  Calls prog 226 #[.pointer (some ⟨b, 0, none⟩)] w λe w' => e = .returned (.string ⟨(sha S).toArray⟩) /\ OnlyB b w w' := by
 obtain ⟨s, m, h, hh, hp⟩ := hp
 have ht := (cell_of_row w b 73 _ _ _ hp).trans (pc_total _ _ _ _)
 have hc := (cell_of_row w b 72 _ _ _ hp).trans (pc_held _ _ _ _)
 have hpl := hh.place
 have h64 : (h : Int) < 64 := by omega
 have hn : ((119 : Int) - (h : Int)) % 64 = ((119 - h) % 64 : Nat) := by omega
 have HN := hid hn
 have HP := hid hpl
 clear hn hpl
 go_enter func226, ntmps226
 go_wp2_with fail
 rw [HN.out]
 have hcc : (119 - h) % 64 < 64 := by omega
 have HC := hid (show (119 - h) % 64 = (119 - S.length % 64) % 64 by rw [HP.out])
 generalize (119 - h) % 64 = c at hcc HC |-
 refine (repeat_zeros c _ hcc).mono ?_
 rintro e w1 ⟨rfl, hw1⟩
 have hF1 : Fed b S w1 := Fed.below ⟨s, m, h, hh, hp⟩ hw1
 have hK1 := hK.below hw1
 have hO1 := (OnlyB.refl b w).of_below hw1
 have hz := zeros_size c
 generalize hzz : zeros c = z at hz |-
 have HZ := hid (show z.data.toList = List.replicate c 0 by rw [<- hzz, zeros_data])
 have hz1 : (z.size : Int) < 64 := by omega
 clear hzz hz
 go_wp2_with fail
 refine (feed_any b S _ _ hb1 hF1 (by rw [ByteArray.size_append]; show S.length + (1 + z.size) <= _; omega) hK1).mono ?_
 rintro e w2 ⟨rfl, ho2, hF2⟩
 have hK2 := hK1.only ho2 hb1
 have hO2 := hO1.trans ho2
 rw [ByteArray.data_append, Array.toList_append, HZ.out] at hF2
 have hF2' : Fed b (S ++ 128 :: List.replicate c 0) w2 := hF2
 clear hF1 hK1 hO1 ho2 hF2
 go_wp2_with fail
 refine (wordText_n _ _ (by omega) (by omega)).mono ?_
 rintro e w3 ⟨rfl, hw3⟩
 go_wp2_with fail
 refine (wordText_n _ _ (by omega) (by omega)).mono ?_
 rintro e w4 ⟨rfl, hw4⟩
 have hF4 := (hF2'.below hw3).below hw4
 have hK4 := (hK2.below hw3).below hw4
 have hO4 := (hO2.of_below hw3).of_below hw4
 clear hF2' hK2 hO2 hw3 hw4
 have hx1 := wordStr_size (BitVec.ofNat 32 ((S.length : Int) * 8 / 4294967296).toNat)
 have hx2 := wordStr_size (BitVec.ofNat 32 ((S.length : Int) * 8 % 4294967296).toNat)
 go_wp2_with fail
 refine (feed_any b _ _ _ hb1 hF4 (by rw [ByteArray.size_append, wordStr_size, wordStr_size, List.length_append, List.length_cons, List.length_replicate]; omega) hK4).mono ?_
 rintro e w5 ⟨rfl, ho5, hF5⟩
 have hO5 := hO4.trans ho5
 rw [ByteArray.data_append, Array.toList_append, wordStr_data, wordStr_data, HC.out, tail_num] at hF5
 obtain ⟨s5, m5, h5, hh5, hp5⟩ := hF5
 have hw5 := hh5.words
 have HX := hid (show sha S = s5.out by rw [hw5]; rfl)
 have hb5 : b < w5.heap.size := lt_of_block hp5
 clear hF4 hK4 hO4 ho5 hh5 hw5
 have hcw : ∀ j, j < 8 -> w5.cell? ⟨b, j, none⟩ = some (wv (s5.get j)) := λj hj => (cell_of_row w5 b _ _ _ _ hp5).trans (pc_word _ _ _ _ j hj)
 have c0 := hcw 0 (by omega)
 have c1 := hcw 1 (by omega)
 have c2 := hcw 2 (by omega)
 have c3 := hcw 3 (by omega)
 have c4 := hcw 4 (by omega)
 have c5 := hcw 5 (by omega)
 have c6 := hcw 6 (by omega)
 have c7 := hcw 7 (by omega)
 simp only [St.get] at c0 c1 c2 c3 c4 c5 c6 c7
 clear hcw
 dsimp only
 go_wp2_with fail
 go_loopw [38] (λi wr => ∃ k : Nat, k <= 8 /\ i = .int .i64 k /\ Lib.IsBuilder 93 5 w5.heap.size w5.heap.size (Lib.byteCells (s5.outK k)) wr /\ Below w5.heap.size w5 wr) (λi _ => 8 - (intOf i).toNat)
 case atStart => exact ⟨0, by omega, rfl, builder_new w5, (Below.refl _ _).alloc (Nat.le_refl _) _⟩
 case round =>
  obtain ⟨k, hk, rfl, hB, hW⟩ := hrel
  by_cases hlt : k < 8
  ·have hix := index_st s5 k hlt
   have hk0 : (k : Int) < 8 := by omega
   have hsz := hW.size
   go_wp2_with fail
   refine (wordText_str _ _).mono ?_
   rintro e w6 ⟨rfl, hw6⟩
   have hB6 := builder_below hB hw6
   have hs6 := hw6.size
   dsimp only
   go_wp2_with fail
   refine (Any.Builder_WriteString lays166 extra w5.heap.size w5.heap.size _ _ _ hB6 (by rw [wordStr_size]; show (List.map _ _).length + 4 <= _; rw [List.length_map, outK_length]; omega) (by omega)).mono ?_
   rintro e w7 ⟨rfl, hB7, hw7⟩
   dsimp only
   go_wp2_with fail
   go_roundw
   case rel =>
    refine ⟨k + 1, by omega, by go_num, .inr ?_, (hW.trans (hw6.mono hsz)).trans hw7⟩
    rw [strCells_word, byteCells_append] at hB7
    exact hB7
   case measure => simp [intOf]; omega
  ·obtain rfl : k = 8 := by omega
   rw [outK_eight] at hB
   have hsz := hW.size
   clear hlt hk
   go_wp2_with fail
   refine (Any.Builder_String_any lays169 extra w5.heap.size w5.heap.size _ _ hB hsz).mono ?_
   rintro e w6 ⟨rfl, hw6⟩
   dsimp only
   go_wp2_with fail
   go_ret
   exact ⟨by rw [HX.out]; rfl, hO5.of_below (hW.trans hw6)⟩
def IOk (w : World) : Prop := ∀ j, j < 8 -> w.cell? ⟨2, j, none⟩ = some (wv (init.get j))
def blank : Array Value := pc (λ_ => 0) (λ_ => 0) 0 0
def fresh : Array Value := pc init.get (λ_ => 0) 0 0
theorem zero36 : ∀ w : World, (zeroValue 268).run prog w = .ok (.agg blank) w := λ_ => by kernel_rfl
theorem blank_size : blank.size = 74 := pc_size _ _ _ _
theorem fresh_size : fresh.size = 74 := pc_size _ _ _ _
theorem fresh_one : (fresh.all λx => x.oneCell') = true := by kernel_rfl
theorem fed_new (w : World) : Fed w.heap.size [] ((w.alloc (.cells blank 268)).setRow w.heap.size fresh) :=
 ⟨init, λ_ => 0, 0, Holds.nil _, setRow_heap _ _ _ _ _ _ (heap_alloc_new w _)⟩
theorem below_new (w : World) : Below w.heap.size w ((w.alloc (.cells blank 268)).setRow w.heap.size fresh) :=
 below_setRow ((Below.refl _ _).alloc (Nat.le_refl _) _) (Nat.le_refl _) _
structure Strs (a : Option Addr) (len : Nat) (ss : List ByteArray) (w : World) : Prop where
 count : len = ss.length
 cell : ∀ i, i < len -> ∃ b off, a = some ⟨b, off, none⟩ /\ w.cell? ⟨b, off + i, none⟩ = some (.string (ss.getD i ByteArray.empty))
theorem Strs.below {a : Option Addr} {len : Nat} {ss : List ByteArray} {w w' : World} (h : Strs a len ss w) (hb : Below w.heap.size w w') : Strs a len ss w' :=
 ⟨h.count, λi hi => by
  obtain ⟨b, off, ha, hc⟩ := h.cell i hi
  exact ⟨b, off, ha, (hb.cell (p := ⟨b, off + i, none⟩) (block_lt_of_cell hc)).trans hc⟩⟩
attribute [local go_sem 9000] run_bytes1
def joined (ss : List ByteArray) : List UInt8 := ss.flatMap λs => num s.size 4 ++ s.data.toList
theorem joined_take_succ (ss : List ByteArray) (k : Nat) (h : k < ss.length) : joined (ss.take (k + 1)) = joined (ss.take k) ++ (num (ss.getD k ByteArray.empty).size 4 ++ (ss.getD k ByteArray.empty).data.toList) := by
 rw [List.take_succ_eq_append_getElem h]
 unfold joined
 rw [List.flatMap_append]
 simp [List.getD, List.getElem?_eq_getElem h]
theorem joined_le (ss : List ByteArray) (k : Nat) : (joined (ss.take k)).length <= (joined ss).length := by
 have : joined ss = joined (ss.take k) ++ joined (ss.drop k) := by rw [joined, joined, joined, <- List.flatMap_append, List.take_append_drop]
 rw [this, List.length_append]; omega
theorem join_any (t : UInt8) (a : Option Addr) (len cap : Nat) (ss : List ByteArray) (w : World) (hK : KOk w) (hI : IOk w) (hS : Strs a len ss w) (hsz : 1 + (joined ss).length <= 4294967295) (hlen : len <= 1000000000000) :
  Calls prog 210 #[bv t, .slice a len cap] w λe w' => e = .returned (.string ⟨(sha (t :: joined ss)).toArray⟩) /\ Below w.heap.size w w' := by
 have c0 := hI 0 (by omega)
 have c1 := hI 1 (by omega)
 have c2 := hI 2 (by omega)
 have c3 := hI 3 (by omega)
 have c4 := hI 4 (by omega)
 have c5 := hI 5 (by omega)
 have c6 := hI 6 (by omega)
 have c7 := hI 7 (by omega)
 simp only [St.get] at c0 c1 c2 c3 c4 c5 c6 c7
 have hz := zero36
 go_enter func210, ntmps210
 go_wp2_with (first
  | (refine wpList_store_row rfl 268 _ _ rfl w.heap.size fresh rfl rfl 268 blank (heap_alloc_new w _) (by rw [fresh_size]; kernel_rfl) (by rw [blank_size, fresh_size]) fresh_one ?_
     change wpList _ _ _ _ _ ((w.alloc (.cells blank 268)).setRow w.heap.size fresh)
     have hF := fed_new w
     have hW := below_new w
     generalize World.setRow _ _ _ = w2 at hF hW |-)
  |fail)
 refine (feed_any w.heap.size [] ⟨#[t]⟩ _ (by have := hK.lt; omega) (hF.below ((Below.refl _ _).alloc (Nat.le_refl _) _)) (by show 0 + 1 <= _; omega) ((hK.below hW).below ((Below.refl _ _).alloc (Nat.le_refl _) _))).mono ?_
 rintro e w3 ⟨rfl, ho, hF3⟩
 have hB1 : w.heap.size ≠ 3 := by have := hK.lt; omega
 have hW3 : Below w.heap.size w w3 := (hW.alloc hW.size _).trans (ho.below (Nat.le_refl _) (Nat.le_trans hW.size (by simp)))
 dsimp only
 clear hz c0 c1 c2 c3 c4 c5 c6 c7 hI hF hW ho
 go_wp2_with fail
 go_loopw [16] (λi wr => ∃ k : Nat, k <= len /\ i = .int .i64 k /\ Fed w.heap.size (t :: joined (ss.take k)) wr /\ Below w.heap.size w wr) (λi _ => len - (intOf i).toNat)
 case atStart => exact ⟨0, by omega, rfl, hF3, hW3⟩
 case round =>
  clear hF3 hW3
  obtain ⟨k, hk, rfl, hF, hW⟩ := hrel
  by_cases hlt : k < len
  ·obtain ⟨b, off, rfl, hcell⟩ := hS.cell k hlt
   have hc : wr.cell? ⟨b, off + k, none⟩ = some (.string (ss.getD k ByteArray.empty)) := (hW.cell (p := ⟨b, off + k, none⟩) (block_lt_of_cell hcell)).trans hcell
   have hks : k < ss.length := by rw [<- hS.count]; exact hlt
   have hle := joined_le ss (k + 1)
   rw [joined_take_succ ss k hks, List.length_append, List.length_append, num_length] at hle
   have HC := hid (joined_take_succ ss k hks)
   generalize ss.getD k ByteArray.empty = x at hc hle HC
   have hk0 : (k : Int) < (len : Int) := by omega
   have hxl : x.data.toList.length = x.size := Array.length_toList
   have hx : 1 + (joined (ss.take k)).length + 4 + x.size <= 4294967295 := by omega
   have hx1 : (x.size : Int) < 4294967296 := by omega
   have hx0 : (0 : Int) <= (x.size : Int) := by omega
   clear hcell hks hle hxl
   go_wp2_with fail
   refine (wordText_n _ _ (by omega) (by omega)).mono ?_
   rintro e w3 ⟨rfl, hw3⟩
   dsimp only
   go_wp2_with fail
   refine (feed_any w.heap.size _ _ w3 hB1 (hF.below hw3) (by rw [wordStr_size, List.length_cons]; omega) ((hK.below hW).below hw3)).mono ?_
   rintro e w4 ⟨rfl, ho4, hF4⟩
   dsimp only
   go_wp2_with fail
   refine (feed_any w.heap.size _ x w4 hB1 hF4 (by rw [wordStr_data, List.length_append, List.length_cons]; show _ + 1 + 4 + _ <= _; omega) (((hK.below hW).below hw3).only ho4 hB1)).mono ?_
   rintro e w5 ⟨rfl, ho5, hF5⟩
   dsimp only
   go_wp2_with fail
   go_roundw
   case rel =>
    have hsz3 := Nat.le_trans hW.size hw3.size
    refine ⟨k + 1, by omega, by go_num, ?_, ((hW.trans (hw3.mono hW.size)).trans (ho4.below (Nat.le_refl _) hsz3)).trans (ho5.below (Nat.le_refl _) (Nat.le_trans hsz3 ho4.size))⟩
    rw [HC.out, num4]
    have e : (t :: joined (ss.take k) ++ (wordStr (BitVec.ofNat 32 ((x.size : Int)).toNat)).data.toList) ++ x.data.toList = t :: (joined (ss.take k) ++ (wordBytes (BitVec.ofNat 32 x.size) ++ x.data.toList)) := by
     rw [wordStr_data]; simp
    rw [<- e]; exact hF5
   case measure => simp [intOf]; omega
  ·obtain rfl : k = len := by omega
   rw [hS.count, List.take_length] at hF
   go_wp2_with fail
   refine (finish_any w.heap.size _ wr hB1 hF (by rw [List.length_cons]; omega) (hK.below hW)).mono ?_
   rintro e w3 ⟨rfl, ho⟩
   dsimp only
   go_wp2_with fail
   go_ret
   exact ⟨rfl, hW.trans (ho.below (Nat.le_refl _) hW.size)⟩
end Go.Proofs.YthbajmlmjjfgpaaGreatDoor.T8
namespace Go.Proofs.YthbajmlmjjfgpaaGreatDoor.T8
open Go.RowKit Go.Less Sha
theorem IOk.lt {w : World} (h : IOk w) : 2 < w.heap.size := by
 have := h 0 (by omega)
 rcases Nat.lt_or_ge 2 w.heap.size with h1 | h1
 ·exact h1
 ·simp [World.cell?, Array.getElem?_eq_none h1] at this
theorem IOk.below {w w' : World} (h : IOk w) (hb : Below w.heap.size w w') : IOk w' := λj hj => (hb.cell (p := ⟨2, j, none⟩) h.lt).trans (h j hj)
structure Dg (w : World) : Prop where
 k : KOk w
 i : IOk w
theorem Dg.below {w w' : World} (h : Dg w) (hb : Below w.heap.size w w') : Dg w' := ⟨h.k.below hb, h.i.below hb⟩
theorem cell_alloc (w : World) (cs : Array Value) (t : TypeId) (j : Nat) : (w.alloc (.cells cs t)).cell? ⟨w.heap.size, j, none⟩ = cs[j]? := World.cell?_alloc_new w cs t j
theorem size_data (d : ByteArray) : d.data.toList.length = d.size := Array.length_toList
theorem join_four (k v a b : ByteArray) (w : World) (g : Nat) (hg : g = w.heap.size) (hD : Dg w) (hk : k.size <= 100) (hv : v.size <= 10000) (ha : a.size <= 32) (hb : b.size <= 32) :
  Calls prog 210 #[bv 1, .slice (some ⟨g, 0, none⟩) 4 4] (w.alloc (.cells #[.string k, .string v, .string a, .string b] 9)) λe w' => e = .returned (.string (jn k v a b)) /\ Below w.heap.size w w' := by
 subst hg
 have hB := below_one w (.cells #[.string k, .string v, .string a, .string b] 9)
 have hS : Strs (some ⟨w.heap.size, 0, none⟩) 4 [k, v, a, b] (w.alloc (.cells #[.string k, .string v, .string a, .string b] 9)) :=
  ⟨rfl, λi hi => ⟨w.heap.size, 0, rfl, by
   rw [Nat.zero_add, cell_alloc]
   match i, hi with
   | 0, _ => rfl
   | 1, _ => rfl
   | 2, _ => rfl
   | 3, _ => rfl⟩⟩
 refine (join_any 1 (some ⟨w.heap.size, 0, none⟩) 4 4 [k, v, a, b] _ (hD.k.below hB) (hD.i.below hB) hS ?_ (by omega)).mono ?_
 ·simp only [joined, List.flatMap_cons, List.flatMap_nil, List.length_append, num_length, size_data, List.length_nil]; omega
 ·rintro e w' ⟨rfl, h⟩
  exact ⟨rfl, hB.trans (h.mono hB.size)⟩
def vl : Tt -> ByteArray
 | .leaf => ⟨#[]⟩
 | .node _ _ v _ => v
theorem ld_eq (t : Tt) : ld t = .agg #[.string (vl t), .string (nm t), .int .i64 ((Tr.T.len t : Nat) : Int)] := by cases t <;> rfl
theorem above_any (v n0 : ByteArray) (c0 : Int) (k : ByteArray) (l r : Tt) (w : World) (hD : Dg w) (hk : k.size <= 100) (hv : v.size <= 10000) (hl : l.len <= 1000000) (hr : r.len <= 1000000) :
  Calls prog 283 #[.agg #[.string v, .string n0, .int .i64 c0], .string k, ld l, ld r] w λe w' => e = .returned (ld (.node l k v r)) /\ Below w.heap.size w w' := by
 rw [ld_eq l, ld_eq r, ld_eq (.node l k v r), nm_node]
 rw [show vl (.node l k v r) = v from rfl]
 have HN := hid (show (((Tr.T.node l k v r).len : Nat) : Int) = (l.len : Int) + 1 + (r.len : Int) by simp only [Tr.T.len]; omega)
 have HJ := hid (λW g hg (hD : Dg W) => join_four k v (nm l) (nm r) W g hg hD hk hv (nm_size l) (nm_size r))
 rw [HN.out]
 generalize l.len = cl at *
 generalize r.len = cr at *
 generalize nm l = nl at *
 generalize nm r = nr at *
 generalize vl l = a1 at *
 generalize vl r = a2 at *
 have hz := zero51
 have HD := hid hD
 clear hD HN
 generalize jn k v nl nr = nn at *
 go_enter func283, ntmps283
 go_wp2_with fail
 have hB := (((below_one w (.cells #[.string v, .string n0, .int .i64 c0] 112)).alloc (by simp) (.cells #[.string a1, .string nl, .int .i64 (cl : Int)] 112)).alloc (by simp; omega) (.cells #[.string a2, .string nr, .int .i64 (cr : Int)] 112)).alloc (by simp; omega) (.cells #[.string ⟨#[]⟩, .string ⟨#[]⟩, .int .i64 0] 112)
 refine (HJ.out _ _ (by simp) (HD.out.below hB)).mono ?_
 rintro e w1 ⟨rfl, hw1⟩
 have q := λb o h => hw1.cell (p := ⟨b, o, none⟩) h
 have f := λb o h => hw1.frozen (p := ⟨b, o, none⟩) h
 have c00 := (q w.heap.size 0 (by simp; omega)).trans (c := some (.string v)) (by go_simp)
 have c01 := (q w.heap.size 1 (by simp; omega)).trans (c := some (.string n0)) (by go_simp)
 have c02 := (q w.heap.size 2 (by simp; omega)).trans (c := some (.int .i64 c0)) (by go_simp)
 have c12 := (q (w.heap.size + 1) 2 (by simp)).trans (c := some (.int .i64 (cl : Int))) (by go_simp)
 have c22 := (q (w.heap.size + 1 + 1) 2 (by simp)).trans (c := some (.int .i64 (cr : Int))) (by go_simp)
 have c30 := (q (w.heap.size + 1 + 1 + 1) 0 (by simp)).trans (c := some (.string ⟨#[]⟩)) (by go_simp)
 have c31 := (q (w.heap.size + 1 + 1 + 1) 1 (by simp)).trans (c := some (.string ⟨#[]⟩)) (by go_simp)
 have c32 := (q (w.heap.size + 1 + 1 + 1) 2 (by simp)).trans (c := some (.int .i64 0)) (by go_simp)
 have f0 := λo => (f w.heap.size o (by simp; omega)).trans (c := false) (by go_simp)
 have f3 := λo => (f (w.heap.size + 1 + 1 + 1) o (by simp)).trans (c := false) (by go_simp)
 clear q f
 dsimp only
 have HB := hid (hB.trans (hw1.mono hB.size))
 go_wp2_with fail
 refine bodyPost_ret (v := .agg #[.string v, .string nn, .int .i64 ((cl : Int) + 1 + (cr : Int))]) (by simp [results, Tryz.results283, go_sem, c30, c31, c32]) rfl ⟨rfl, ?_⟩
 exact ((((HB.out.setCell (Nat.le_refl _) _).setCell (Nat.le_refl _) _).setCell (by simp; omega) _).setCell (by simp; omega) _).setCell (by simp; omega) _
end Go.Proofs.YthbajmlmjjfgpaaGreatDoor.T8
