/- The document's disk: its leaf functions. -/
import Derived.Test.YtdgbfkedgedogaaMay
namespace Go.Proofs.Ytdgbfkedgedogaa
open Go.RowKit Go.Maps
structure RSt where
  lasts : List ByteArray
  wait : List (Int × ByteArray)
  cut : Int
  keep : BitVec 64
  count : Int
  off : Bool
def rv (lv wv : Value) (r : RSt) : Value := .agg #[lv, wv, .int .i64 r.cut, .int .u64 (u64 r.keep), .int .i64 r.count, .bool r.off]
def strs (l : List ByteArray) : List Value := l.map .string
def wcell2 (x : Int × ByteArray) : List Value := [.int .i64 x.1, .string x.2]
def wrow (l : List (Int × ByteArray)) : List Value := l.flatMap wcell2
structure RD (w : World) (lv wv : Value) (r : RSt) : Prop where
  lasts : w.ownsRow 0 9 1 lv r.lasts.length (strs r.lasts)
  wait : w.ownsRow 0 76 2 wv r.wait.length (wrow r.wait)
def foot (lv wv : Value) (g : Nat) : Prop := lv.ownBlock = some g ∨ wv.ownBlock = some g
theorem owns_kept {w w' : World} {e s : Nat} {v : Value} {n : Nat} {xs : List Value} (h : w.ownsRow 0 e s v n xs) (hk : ∀ g, v.ownBlock = some g → w'.heap[g]? = w.heap[g]?) : w'.ownsRow 0 e s v n xs := by
  refine ⟨h.1, ?_⟩
  rcases h.2 with h0 | ⟨g, cap, cur, rfl, hb, hg, r⟩
  · exact .inl h0
  · exact .inr ⟨g, cap, cur, rfl, hb, (hk g rfl).trans hg, r⟩
theorem owns_below {w w' : World} {e s : Nat} {v : Value} {n : Nat} {xs : List Value} (h : w.ownsRow 0 e s v n xs) (hb : Below w.heap.size w w') : w'.ownsRow 0 e s v n xs :=
  owns_kept h fun g hg => hb.block g (h.lt g hg).2
theorem RD.kept {w w' : World} {lv wv : Value} {r : RSt} (h : RD w lv wv r) (hk : ∀ g, foot lv wv g → w'.heap[g]? = w.heap[g]?) : RD w' lv wv r :=
  ⟨owns_kept h.lasts fun g hg => hk g (.inl hg), owns_kept h.wait fun g hg => hk g (.inr hg)⟩
theorem RD.below {w w' : World} {lv wv : Value} {r : RSt} (h : RD w lv wv r) (hb : Below w.heap.size w w') : RD w' lv wv r := ⟨owns_below h.lasts hb, owns_below h.wait hb⟩
theorem RD.lt {w : World} {lv wv : Value} {r : RSt} (h : RD w lv wv r) {g : Nat} (hg : foot lv wv g) : g < w.heap.size := hg.elim (fun e => (h.lasts.lt g e).2) (fun e => (h.wait.lt g e).2)
theorem slice_form {w : World} {e s : Nat} {v : Value} {n : Nat} {xs : List Value} (h : w.ownsRow 0 e s v n xs) : ∃ a cap, v = .slice a n cap ∧ n ≤ cap ∧ cap ≤ maxLen ∧ (0 < n → ∃ g, a = some ⟨g, 0, none⟩) := by
  rcases h.2 with ⟨rfl, rfl⟩ | ⟨g, cap, cur, rfl, _, hg, hc, hm, _⟩
  · exact ⟨none, 0, rfl, Nat.le_refl _, Nat.zero_le _, fun h => by omega⟩
  · exact ⟨_, cap, rfl, hc, hm, fun _ => ⟨g, rfl⟩⟩
theorem lasts_at {w : World} {g n cap : Nat} {l : List ByteArray} (h : w.ownsRow 0 9 1 (.slice (some ⟨g, 0, none⟩) n cap) n (strs l)) {i : Nat} (hi : i < l.length) : w.cell? ⟨g, i, none⟩ = some (.string (l.getD i ⟨#[]⟩)) := by
  have := h.cells (g := g) rfl i (.string (l.getD i ⟨#[]⟩)) (by unfold strs; rw [List.getElem?_map, List.getD, List.getElem?_eq_getElem hi]; rfl)
  rwa [Go.WideShapes.add_plain, Nat.zero_add] at this
theorem wrow_at {l : List (Int × ByteArray)} {i : Nat} (hi : i < l.length) {j : Nat} (hj : j < 2) : (wrow l)[i * 2 + j]? = (wcell2 (l.getD i (0, ⟨#[]⟩)))[j]? := by
  induction l generalizing i with
  | nil => simp at hi
  | cons x l ih =>
    show (wcell2 x ++ wrow l)[i * 2 + j]? = _
    cases i with
    | zero => rw [Nat.zero_mul, Nat.zero_add, List.getElem?_append_left (by show j < 2; omega)]; rfl
    | succ i =>
      rw [List.getElem?_append_right (by show 2 ≤ _; omega), show (i + 1) * 2 + j - (wcell2 x).length = i * 2 + j by show (i + 1) * 2 + j - 2 = _; omega, ih (by simpa using hi)]
      rfl
theorem wait_at {w : World} {g n cap : Nat} {l : List (Int × ByteArray)} (h : w.ownsRow 0 76 2 (.slice (some ⟨g, 0, none⟩) n cap) n (wrow l)) {i : Nat} (hi : i < l.length) :
    w.cell? ⟨g, i * 2, none⟩ = some (.int .i64 (l.getD i (0, ⟨#[]⟩)).1) ∧ w.cell? ⟨g, i * 2 + 1, none⟩ = some (.string (l.getD i (0, ⟨#[]⟩)).2) := by
  have h0 := h.cells (g := g) rfl (i * 2 + 0) (.int .i64 (l.getD i (0, ⟨#[]⟩)).1) (by rw [wrow_at hi (by omega)]; rfl)
  have h1 := h.cells (g := g) rfl (i * 2 + 1) (.string (l.getD i (0, ⟨#[]⟩)).2) (by rw [wrow_at hi (by omega)]; rfl)
  rw [Go.WideShapes.add_plain, Nat.zero_add] at h0 h1
  exact ⟨h0, h1⟩
theorem owns_set {w : World} {g n cap : Nat} {l : List ByteArray} (h : w.ownsRow 0 9 1 (.slice (some ⟨g, 0, none⟩) n cap) n (strs l)) {i : Nat} (hi : i < l.length) (x : ByteArray) :
    (w.setCell ⟨g, i, none⟩ (.string x)).ownsRow 0 9 1 (.slice (some ⟨g, 0, none⟩) n cap) n (strs (l.set i x)) ∧ w.frozen? ⟨g, i, none⟩ = false := by
  obtain ⟨h1, h2⟩ := h
  rcases h2 with ⟨h0, _⟩ | ⟨g', cap', cur, hv, hb, hg, hc, hm, hs, ht⟩
  · cases h0
  · injection hv with e1 e2 e3
    injection e1 with e1
    injection e1 with e1
    subst e1 e3
    have hl : (strs l).length = l.length := by unfold strs; simp
    refine ⟨⟨by unfold strs at h1 ⊢; simpa using h1, .inr ⟨g, cap, _, rfl, hb, block_setCell hg _, hc, hm, by simpa using hs, ?_⟩⟩, free_block hg _⟩
    rw [Array.toList_setIfInBounds, List.take_set, ht]
    unfold strs
    rw [List.map_set]

def sizeV : Value → Nat
  | .string y => y.size
  | _ => 0
theorem sem_add0 (t : TypeId) (l : List UInt8) (h : l.length < 32) : binOp .add t (.string (lstr l)) (.string ⟨#[0]⟩) = pure (.string (lstr (l ++ [0]))) := by
  rw [binOp_string_add]
  unfold Op.stringOp
  have hs : ((lstr l).size + (⟨#[0]⟩ : ByteArray).size : Nat) = l.length + 1 := rfl
  simp only [hs]
  rw [if_neg (by simp [IntKind.max, IntKind.bits, IntKind.signed]; omega)]
  rw [show lstr l ++ (⟨#[0]⟩ : ByteArray) = lstr (l ++ [0]) from Go.WideShapes.bytes_inj (by rw [ByteArray.data_append]; unfold lstr; simp)]
attribute [local go_sem 9000] sem_add0
set_option maxRecDepth 100000 in
set_option maxHeartbeats 1000000 in
theorem fill_any (s : ByteArray) (w : World) (hs : s.size ≤ 32) :
    Calls Try.prog 26 #[.string s] w fun e w' => e = .returned (.string (lstr (pad s))) ∧ w = w' := by
  have hl : s.data.toList.length = s.size := Array.length_toList
  have HE := Lib.hid (show pad s = s.data.toList ++ List.replicate (32 - s.size) 0 from rfl)
  have e0 : s = lstr s.data.toList := rfl
  go_enter Try.func26, Try.ntmps26
  go_wp2
  go_loop [0] (fun x => ∃ k : Nat, s.size + k ≤ 32 ∧ x = .string (lstr (s.data.toList ++ List.replicate k 0))) (fun x => 32 - sizeV x)
  case atStart => exact ⟨0, by omega, by rw [List.replicate_zero, List.append_nil]; exact rfl⟩
  case round =>
    obtain ⟨k, hk, rfl⟩ := hrel
    have hL : (s.data.toList ++ List.replicate k 0).length = s.size + k := by rw [List.length_append, hl, List.length_replicate]
    have HS := Lib.hid (show s.data.toList ++ List.replicate k 0 ++ [0] = s.data.toList ++ List.replicate (k + 1) 0 by rw [List.append_assoc, ← List.replicate_succ'])
    by_cases h32 : s.size + k < 32
    · generalize s.data.toList ++ List.replicate k 0 = L at hL HS ⊢
      have hsz : (lstr L).size = s.size + k := hL
      have hL32 : L.length < 32 := by omega
      have h32' : (s.size : Int) + (k : Int) < 32 := by omega
      clear e0 hL
      go_wp2
      go_round
      case rel => exact ⟨k + 1, by omega, by rw [HS.out]⟩
      case measure =>
        show 32 - (lstr (L ++ [0])).size < 32 - (lstr L).size
        rw [hsz]
        have : (lstr (L ++ [0])).size = s.size + k + 1 := by
          show (L ++ [0]).length = _
          rw [List.length_append]
          show (lstr L).size + 1 = _
          rw [hsz]
        omega
    · have hk2 : k = 32 - s.size := by omega
      subst hk2
      rw [← HE.out]
      have hsz : (lstr (pad s)).size = 32 := pad_length s hs
      obtain ⟨P, hP⟩ : ∃ P, lstr (pad s) = P := ⟨_, rfl⟩
      rw [hP] at hsz ⊢
      have HP := Lib.hid hP
      clear hL HS e0 hP
      go_wp2
      go_ret
      exact ⟨by rw [HP.out]; rfl, rfl⟩
def RSt.armed (r : RSt) (a : Int) (k : BitVec 64) : RSt := if a < 1 then { r with cut := 0, keep := 0, count := 0 } else { r with cut := a, keep := k, count := 0 }
abbrev rvs (la : Option Addr) (ln lc : Nat) (wa : Option Addr) (wn wc : Nat) (r : RSt) : Value := rv (.slice la ln lc) (.slice wa wn wc) r
theorem size35 : (Try.prog.info? 35).map (·.size) = some 6 := by kernel_rfl
theorem cell_last (X : World) (cs : Array Value) (G : Nat) (h : X.heap.size = G) : (X.alloc (.cells cs 35)).heap[G]? = some (.cells cs 35 (0, 0)) := by
  rw [← h]; exact heap_alloc_new X _
theorem below2 (w : World) (a b : Obj) : Below w.heap.size w ((w.alloc a).alloc b) := ((Below.refl _ w).alloc (Nat.le_refl _) _).alloc (by simp) _
theorem below3 (w : World) (a b c : Obj) : Below w.heap.size w (((w.alloc a).alloc b).alloc c) := (below2 w a b).alloc (by simp; omega) _
set_option maxRecDepth 100000 in
set_option maxHeartbeats 1000000 in
theorem rarm_any (la : Option Addr) (ln lc : Nat) (wa : Option Addr) (wn wc : Nat) (r : RSt) (a : Int) (k : BitVec 64) (w : World) :
    Calls Try.prog 19 #[rvs la ln lc wa wn wc r, .agg #[.int .i64 a, .int .u64 (u64 k)]] w fun e w' => e = .returned (rvs la ln lc wa wn wc (r.armed a k)) ∧ Below w.heap.size w w' := by
  unfold rvs rv RSt.armed
  go_enter Try.func19, Try.ntmps19
  by_cases ha : a < 1
  · rw [if_pos ha]
    go_wp2
    refine bodyPost_ret_by (results_cell_row rfl _ _ (w.heap.size + 1 + 1) 35 _ (0, 0) _ rfl (cell_last _ _ _ (by simp)) Try.underlying35 rfl size35) rfl ⟨rfl, below3 _ _ _ _⟩
  · rw [if_neg ha]
    go_wp2
    refine bodyPost_ret_by (results_cell_row rfl _ _ (w.heap.size + 1 + 1) 35 _ (0, 0) _ rfl (cell_last _ _ _ (by simp)) Try.underlying35 rfl size35) rfl ⟨rfl, below3 _ _ _ _⟩

/-- The texts, as far as they are written. -/
def rlay (l : List ByteArray) (wt : List (Int × ByteArray)) (K : Nat → Bool) : Nat → List ByteArray
  | 0 => l
  | j + 1 => if K j then (rlay l wt K j).set (wt.getD j (0, ⟨#[]⟩)).1.toNat (wt.getD j (0, ⟨#[]⟩)).2 else rlay l wt K j
theorem rlay_length (l : List ByteArray) (wt : List (Int × ByteArray)) (K : Nat → Bool) : ∀ j, (rlay l wt K j).length = l.length
  | 0 => rfl
  | j + 1 => by unfold rlay; split <;> simp [rlay_length l wt K j]
structure RSt.Ok (r : RSt) : Prop where
  some_ : 0 < r.lasts.length
  few : r.lasts.length ≤ 100
  waits : r.wait.length ≤ 200
  ats : ∀ x ∈ r.wait, 0 ≤ x.1 ∧ x.1 < r.lasts.length
  count0 : 0 ≤ r.count
  count1 : r.count ≤ 200
def RSt.dropped (r : RSt) (k : BitVec 64) : RSt := { lasts := rlay r.lasts r.wait (fun i => k.getLsbD i) (min r.wait.length 64), wait := [], cut := 0, keep := 0, count := r.count, off := true }
theorem info9 : (Try.prog.info? 9).map (fun i => (i.zero, i.size, i.bytes)) = some (some (.string ⟨#[]⟩), 1, 16) := by kernel_rfl
/-- A copy of the texts. -/
theorem run_copy_texts (w : World) (g n cap : Nat) (l : List ByteArray) (hn : n = l.length) (hp : 0 < n) (hm : n ≤ 100) (h : w.ownsRow 0 9 1 (.slice (some ⟨g, 0, none⟩) n cap) n (strs l)) (B : Nat) (hB : w.heap[B]? = some (.cells #[] 9 (0, 0))) (ty : TypeId) :
    ∃ g' cap' w', (Builtin.append_ #[29, 29] ty #[.slice (some ⟨B, 0, none⟩) 0 0, .slice (some ⟨g, 0, none⟩) n cap]).run Try.prog w = .ok (.slice (some ⟨g', 0, none⟩) n cap') w' ∧
      w'.ownsRow 0 9 1 (.slice (some ⟨g', 0, none⟩) n cap') n (strs l) ∧ w.grownBy w' (some B) ∧ (g' = B ∨ g' = w.heap.size) := by
  obtain ⟨i0, hi0, hz0, hz1, hz2⟩ := info_parts info9
  have ho : w.ownsRow 0 9 1 (.slice (some ⟨B, 0, none⟩) 0 0) 0 [] := ⟨rfl, .inr ⟨B, 0, #[], rfl, Nat.zero_le _, hB, Nat.le_refl _, by decide, rfl, rfl⟩⟩
  obtain ⟨g', cap', w', h1, h2, h3, h4, _⟩ := run_append_lies (P := Try.prog) w 29 ty 0 9 i0 _ 1 16 Try.underlying29 hi0 hz0 hz1 hz2 rfl (by omega) _ 0 [] ho ⟨g, 0, none⟩ n cap (strs l) (by unfold strs; simp [hn]) (h.cells (g := g) rfl)
    (fun u hu => by unfold strs at hu; obtain ⟨x, _, rfl⟩ := List.mem_map.1 hu; rfl) hp (by unfold maxLen; omega) (by omega) (Nat.zero_le _) w.heap.size rfl
  rw [Nat.zero_add] at h1 h2
  exact ⟨g', cap', w', h1, by simpa using h2, h3, h4.imp (fun e => by injection e with e; exact e.symm) id⟩
end Go.Proofs.Ytdgbfkedgedogaa
