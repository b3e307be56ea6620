/- Diff. -/
import Derived.Test.YtheobkepoocamaaGreatDoorKeys
import Derived.Test.YtheobkepoocamaaGreatDoorSort
import Derived.Test.YtheobkepoocamaaGreatDoorMaps
namespace Go.Proofs.YtheobkepoocamaaGreatDoor
set_option maxRecDepth 100000
open Go.RowKit Go.Less
/-- Texts are answered. -/
def Textual (l : List ByteArray) (w : World) (e : Ending) (w' : World) : Prop := ∃ ao cap, e = .returned (.slice ao l.length cap) ∧ w'.ownsRow w.heap.size 9 1 (.slice ao l.length cap) l.length (l.map Value.string) ∧ Below w.heap.size w w'
theorem off_rows (la lb : List Pr) : Tr.off (pairs (cn la).subs) lb = Tr.off la lb := by rw [pairs_subs, cn_rows]
theorem new_rows (la lb : List Pr) : Tr.new la (pairs (cn lb).subs) = Tr.new la lb := by rw [pairs_subs, cn_rows]
theorem diff_srt {la lb : List Pr} (ha : Srt la) (hb : Srt lb) : srt (Tr.off la lb ++ Tr.new la lb) = Tr.diff less la lb :=
  (Tr.rising_eq rising ((Tr.diff_perm rising _ la lb (Nat.le_refl _) ha hb).trans (srt_perm _).symm) (Tr.diff_sorted rising _ la lb (Nat.le_refl _) ha hb).1 (srt_sorted _)).symm
/-- A pointer to a tree of an earlier world is answered. -/
def PointsIn (w : World) (t : Tt) (W : World) (e : Ending) (W' : World) : Prop := ∃ p, e = .returned (pv p) ∧ Tree w p t ∧ W = W'
set_option maxHeartbeats 400000 in
theorem treeOf_at {w W : World} {m : Option Nat} {t : Tt} (h : IsMap w m t) (hb : Below w.heap.size w W) : Calls Tryz.prog 21 #[pv m] W (PointsIn w t W) := by
  cases m with
  | none =>
    clear hb
    show Calls Tryz.prog 21 #[.pointer none] W _
    go_enter Tryz.func21, Tryz.ntmps21
    go_wp2_with fail
    go_ret
    exact ⟨none, rfl, h.symm ▸ rfl, rfl⟩
  | some b =>
    obtain ⟨p, h1, h2⟩ := h
    have c0 : W.cell? ⟨b, 0, none⟩ = some (pv p) := cell_obj ((hb.block b (lt_of_obj h1)).trans h1) 0
    have H := Lib.hid h2
    clear h1 h2 hb
    show Calls Tryz.prog 21 #[.pointer (some ⟨b, 0, none⟩)] W _
    go_enter Tryz.func21, Tryz.ntmps21
    go_wp2_with fail
    go_ret
    exact ⟨p, rfl, H.out, rfl⟩
theorem owns_lower {w : World} {base base' : Nat} {e : TypeId} {size : Nat} {v : Value} {n : Nat} {xs : List Value} (h : w.ownsRow base e size v n xs) (hb : base' ≤ base) : w.ownsRow base' e size v n xs := by
  refine ⟨h.1, ?_⟩
  rcases h.2 with hn | ⟨g, cap, cur, hv, h1, rest⟩
  · exact .inl hn
  · exact .inr ⟨g, cap, cur, hv, Nat.le_trans hb h1, rest⟩
theorem ks_start (w : World) (ma mb : Option Nat) : Ks w w.heap.size (w.heap.size + 1) (w.heap.size + 1 + 1) ma mb [] (((w.alloc (.cells #[pv ma] 25)).alloc (.cells #[pv mb] 25)).alloc (.cells #[.slice none 0 0] 30)) := by
  have hb := balloc (.cells #[.slice none 0 0] 30) (balloc (.cells #[pv mb] 25) (below_one w (.cells #[pv ma] 25)))
  have s1 : (w.alloc (.cells #[pv ma] 25)).heap.size = w.heap.size + 1 := by simp
  have s2 : ((w.alloc (.cells #[pv ma] 25)).alloc (.cells #[pv mb] 25)).heap.size = w.heap.size + 1 + 1 := by simp
  have h0 := heap_alloc_new w (.cells #[pv ma] 25)
  have h1 := heap_alloc_new (w.alloc (.cells #[pv ma] 25)) (.cells #[pv mb] 25)
  have h2 := heap_alloc_new ((w.alloc (.cells #[pv ma] 25)).alloc (.cells #[pv mb] 25)) (.cells #[.slice none 0 0] 30)
  rw [s1] at h1
  rw [s2] at h2
  have b1 := below_one (w.alloc (.cells #[pv ma] 25)) (.cells #[pv mb] 25)
  have b2 := below_one ((w.alloc (.cells #[pv ma] 25)).alloc (.cells #[pv mb] 25)) (.cells #[.slice none 0 0] 30)
  exact ⟨(b2.block _ (by rw [s2]; omega)).trans ((b1.block _ (by rw [s1]; omega)).trans h0), (b2.block _ (by rw [s2]; omega)).trans h1, ⟨none, 0, h2, rfl, .inl ⟨rfl, rfl⟩⟩, by omega, by omega, by omega, hb⟩
theorem ks_sorted {w W2 W3 : World} {ga gb gk : Nat} {ma mb : Option Nat} {l m : List ByteArray} {ao : Option Addr} {cap : Nat} (h : Ks w ga gb gk ma mb l W2) (hk : W2.heap[gk]? = some (.cells #[.slice ao l.length cap] 30 (0, 0)))
    (ho : W2.ownsRow (gk + 1) 9 1 (.slice ao l.length cap) l.length (l.map Value.string)) (hg : W2.grownBy W3 (Value.slice ao l.length cap).ownBlock) (h3 : W3.ownsRow (gk + 1) 9 1 (.slice ao l.length cap) l.length (m.map Value.string)) :
    W3.heap[gk]? = some (.cells #[.slice ao l.length cap] 30 (0, 0)) ∧ Below w.heap.size w W3 ∧ W3.ownsRow w.heap.size 9 1 (.slice ao l.length cap) l.length (m.map Value.string) := by
  have lo := h.lo
  exact ⟨grown_obj hg hk fun e => by have := (owns_lt ho _ e.symm).1; omega, h.below.grown hg h.below.size (fun j hj => by have := (owns_lt ho j hj).1; omega), owns_lower h3 (by omega)⟩
set_option maxHeartbeats 4000000 in
theorem diff_any {w : World} {ma mb : Option Nat} {la lb : List Pr} (hA : Rp w ma la) (hB : Rp w mb lb) (hla : la.length ≤ 5000) (hlb : lb.length ≤ 5000) :
    Calls Tryz.prog 8 #[pv ma, pv mb] w (Textual (Tr.diff less la lb) w) := by
  have HA := Lib.hid hA
  have HB := Lib.hid hB
  have HD := Lib.hid (diff_srt hA.sorted hB.sorted)
  have hl1 : (Tr.off la lb).length ≤ 100000 := by have := off_len la lb; omega
  have hl2 : (Tr.off la lb ++ Tr.new la lb).length ≤ 1000000 := by have := off_len la lb; have := new_len la lb; rw [List.length_append]; omega
  have hca : (cn la).len ≤ 5000 := by rw [cn_len]; exact hla
  have hcb : (cn lb).len ≤ 5000 := by rw [cn_len]; exact hlb
  have HL1 := Lib.hid hl1
  have HL2 := Lib.hid hl2
  have HCA := Lib.hid hca
  have HCB := Lib.hid hcb
  clear hA hB hla hlb hl1 hl2 hca hcb
  go_enter Tryz.func8, Tryz.ntmps8
  go_wp2_with fail
  have hK0 := ks_start w ma mb
  generalize (((w.alloc (.cells #[pv ma] 25)).alloc (.cells #[pv mb] 25)).alloc (.cells #[.slice none 0 0] 30)) = W0 at hK0 ⊢
  have HK0 := Lib.hid hK0
  clear hK0
  refine (treeOf_at HA.out.map HK0.out.below).mono ?_
  rintro e w' ⟨p, rfl, hp, rfl⟩
  have HP := Lib.hid hp
  clear hp
  dsimp only
  go_wp2_with fail
  refine (walk_any 22 _ (enters_of Tryz.func22 (by kernel_rfl) rfl) w 5000 (fun pre W => Ks w w.heap.size (w.heap.size + 1) (w.heap.size + 1 + 1) ma mb (Tr.off (pairs pre) lb) W) (keys1_any w _ _ _ ma mb lb 5000 (by decide) HB.out) (fun _ _ h => h.below) (cn la) p [] W0 HP.out HK0.out (by rw [List.length_nil, Nat.zero_add]; exact HCA.out)).mono ?_
  rintro e W1 ⟨rfl, h1⟩
  rw [List.nil_append, off_rows] at h1
  have c1 : W1.cell? ⟨w.heap.size + 1, 0, none⟩ = some (pv mb) := cell_obj h1.b 0
  have HK1 := Lib.hid h1
  clear h1
  dsimp only
  go_wp2_with fail
  refine (treeOf_at HB.out.map HK1.out.below).mono ?_
  rintro e w' ⟨q, rfl, hq, rfl⟩
  have HQ := Lib.hid hq
  clear hq c1
  dsimp only
  go_wp2_with fail
  have hl0 : (Tr.off la lb).length ≤ 100000 := HL1.out
  refine (walk_any 25 _ (enters_of Tryz.func25 (by kernel_rfl) rfl) w 5000 (fun pre W => Ks w w.heap.size (w.heap.size + 1) (w.heap.size + 1 + 1) ma mb (Tr.off la lb ++ Tr.new la (pairs pre)) W) (keys2_any w _ _ _ ma mb la (Tr.off la lb) hl0 5000 (by decide) HA.out) (fun _ _ h => h.below) (cn lb) q [] W1 HQ.out (by rw [show Tr.off la lb ++ Tr.new la (pairs []) = Tr.off la lb from List.append_nil _]; exact HK1.out) (by rw [List.length_nil, Nat.zero_add]; exact HCB.out)).mono ?_
  rintro e W2 ⟨rfl, h2⟩
  rw [List.nil_append, new_rows] at h2
  generalize Tr.off la lb ++ Tr.new la lb = X at h2 HD HL2
  obtain ⟨ao, cap, hk, ho⟩ := h2.keys
  have c2 := cell_obj hk 0
  have HK := Lib.hid hk
  have HO := Lib.hid ho
  have HK2 := Lib.hid h2
  clear hk ho h2 hl0
  dsimp only
  go_wp2_with fail
  refine (sort_any HO.out HL2.out).mono ?_
  rintro e W3 ⟨rfl, h3, hg⟩
  obtain ⟨hk3, hB3, ho3⟩ := ks_sorted HK2.out HK.out HO.out hg h3
  have c3 := cell_obj hk3 0
  have H3 := Lib.hid ho3
  have HB3 := Lib.hid hB3
  clear h3 hg hB3 c2 hk3 ho3
  dsimp only
  go_wp2_with fail
  go_ret
  have hd := HD.out
  have hlen : (Tr.diff less la lb).length = X.length := by rw [← hd, srt_len]
  exact ⟨ao, cap, by rw [hlen]; rfl, by rw [hlen, ← hd]; exact H3.out, HB3.out⟩
end Go.Proofs.YtheobkepoocamaaGreatDoor
