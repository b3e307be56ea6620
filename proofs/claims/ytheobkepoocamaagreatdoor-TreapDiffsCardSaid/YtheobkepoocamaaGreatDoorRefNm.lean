/- The document's Name: a tree's name, and the names of all trees within it. The document's Name, walked. -/
import Derived.Test.YtheobkepoocamaaGreatDoorPrs
import Derived.Test.YtheobkepoocamaaGreatDoorRefJoin
import Derived.Test.YtheobkepoocamaaGreatDoorAbove
import Derived.Laws.AppendOwnNone
namespace Go.Proofs.YtheobkepoocamaaGreatDoor
set_option maxRecDepth 100000
open Go.RowKit Go.Less Sha
attribute [local go_sem 9000] sem_eql sem_neq sem_lss sem_leq sem_gtr sem_geq
theorem btr {w W W' : World} (hb : Below W.heap.size W W') (h : Below w.heap.size w W) : Below w.heap.size w W' := h.trans (hb.mono h.size)
/-! ### The tree of pairs, in parts -/
theorem cn_parts {la lb : List Pr} {k v : ByteArray} (ha : ∀ x ∈ la, less (rk x.1) (rk k) = true) (hb : ∀ x ∈ lb, less (rk k) (rk x.1) = false) : cn (la ++ (k, v) :: lb) = .node (cn la) k v (cn lb) := by
  have h : (Tr.T.node (cn la) k v (cn lb)).Heap less rk := ⟨by rw [cn_rows]; exact ha, by rw [cn_rows]; exact hb, Tr.canon_heap rising la, Tr.canon_heap rising lb⟩
  have := Tr.canon_of_heap h
  unfold cn at this ⊢
  rw [← this]
  show Tr.canon less rk (la ++ (k, v) :: lb) = Tr.canon less rk ((Tr.canon less rk la).rows ++ (k, v) :: (Tr.canon less rk lb).rows)
  rw [Tr.canon_rows rising, Tr.canon_rows rising]
/-- Names of all trees within the tree of some pairs, itself the last. -/
def dn (l : List Pr) : List ByteArray := (cn l).names ⟨#[]⟩ jn
theorem dn_len (l : List Pr) : (dn l).length = l.length := by
  unfold dn; rw [Tr.T.names_len, cn_len]
theorem dn_nil : dn [] = [] := rfl
theorem dn_parts {la lb : List Pr} {k v : ByteArray} (ha : ∀ x ∈ la, less (rk x.1) (rk k) = true) (hb : ∀ x ∈ lb, less (rk k) (rk x.1) = false) : dn (la ++ (k, v) :: lb) = dn la ++ dn lb ++ [jn k v (nm (cn la)) (nm (cn lb))] := by
  unfold dn; rw [cn_parts ha hb]; rfl
/-- The place and the rank of the first of the greatest, behind some rows. -/
def topOf (l : List Pr) : Option (Nat × ByteArray) := Tr.topFrom less rk 0 none l
theorem topOf_nil : topOf [] = none := rfl
theorem topOf_snoc (l : List Pr) (x : Pr) : topOf (l ++ [x]) = Tr.topStep less rk l.length x.1 (topOf l) := by
  unfold topOf; rw [Tr.topFrom_append]; simp [Tr.topFrom]
theorem topOf_some {l : List Pr} (h : l ≠ []) : ∃ i b, topOf l = some (i, b) ∧ i < l.length := by
  obtain ⟨a, k, v, b, rfl, h1, h2⟩ := Tr.top_some (rl := less) (rank := rk) rising l h
  exact ⟨a.length, rk k, Tr.top_middle (rl := less) (rank := rk) a k v b h1 h2, by simp⟩
/-! ### A row of texts behind another -/
theorem strs_news {ad : Addr} {len : Nat} {ss : List ByteArray} {w : World} (h : Strs (some ad) len ss w) : ∀ (j : Nat) u, (ss.map Value.string)[j]? = some u → w.cell? (ad.add j) = some u := by
  intro j u hj
  have hl : j < ss.length := by
    rcases Nat.lt_or_ge j ss.length with h1 | h1
    · exact h1
    · rw [List.getElem?_eq_none (by simpa using h1)] at hj; cases hj
  obtain ⟨b, off, e, hc⟩ := h.cell j (by rw [h.count]; exact hl)
  injection e with e
  subst e
  rw [Go.WideShapes.add_plain, hc]
  rw [List.getElem?_map, List.getElem?_eq_getElem hl] at hj
  simpa [List.getD, List.getElem?_eq_getElem hl] using hj
theorem at_app_texts {ops : Array Oper} {rest : List Oper} {o : Oper} {a : Act} {Q : Exit → Act → World → Prop} {w : World} (hgd : o.guard = none) (s x : Operand)
    (ho : o.op = .call { callee := .builtin .append, args := #[s, x], argTypes := #[30, 30] }) (base : Nat) (v : Value) (n : Nat) (xs : List ByteArray) (hs : a.eval s = v) (hown : w.ownsRow base 9 1 v n (xs.map Value.string))
    (ao : Option Addr) (len cap : Nat) (ss : List ByteArray) (hx : a.eval x = .slice ao len cap) (hS : Strs ao len ss w) (hnil : ao = none → len = 0 ∧ cap = 0) (hlen : n + len ≤ 1000000) (hbase : base ≤ w.heap.size)
    (h : ∀ ao' cap' w', w'.ownsRow base 9 1 (.slice ao' (n + len) cap') (n + len) ((xs ++ ss).map Value.string) → w.grownBy w' v.ownBlock → wpList Tryz.prog ops Q rest (a.put o.dst (.slice ao' (n + len) cap')) w') :
    wpList Tryz.prog ops Q (o :: rest) a w := by
  obtain ⟨i0, hi, hz0, hz1, hz2⟩ := info_parts info9'
  cases ao with
  | none =>
    obtain ⟨rfl, rfl⟩ := hnil rfl
    have hss : ss = [] := List.eq_nil_of_length_eq_zero hS.count.symm
    subst hss
    refine wpList_append_own_none hgd s x 30 ho base 9 i0 1 Tryz.underlying30 hi v n (xs.map Value.string) hs hown hx ?_
    obtain ⟨a', c', rfl⟩ := owns_form hown
    exact h a' c' w (by rw [List.append_nil]; exact hown) (World.grownBy.refl _ _)
  | some ad =>
    refine wpList_append_own w hgd s x 30 ho base 9 i0 (.string ⟨#[]⟩) 1 16 Tryz.underlying30 hi hz0 hz1 hz2 rfl (by decide) v n (xs.map Value.string) hs hown ad len cap (ss.map .string) hx (by rw [List.length_map, ← hS.count, Nat.mul_one]) (strs_news hS) (by intro u hu; obtain ⟨x, _, rfl⟩ := List.mem_map.1 hu; rfl) (by unfold maxLen; omega) (by omega) hbase ?_
    intro v' w' hown' hg _
    obtain ⟨ao', cap', rfl⟩ := owns_form hown'
    exact h ao' cap' w' (by rw [List.map_append]; exact hown') hg
theorem owns_new (w : World) : (w.alloc (.cells #[] 9)).ownsRow w.heap.size 9 1 (.slice (some ⟨w.heap.size, 0, none⟩) 0 0) 0 (([] : List ByteArray).map Value.string) :=
  ⟨rfl, .inr ⟨w.heap.size, 0, #[], rfl, Nat.le_refl _, heap_alloc_new w _, Nat.le_refl _, by decide, rfl, rfl⟩⟩
theorem owned_strs {w : World} {base : Nat} {a : Option Addr} {n cap : Nat} {ss : List ByteArray} (h : w.ownsRow base 9 1 (.slice a n cap) n (ss.map Value.string)) : Strs a n ss w ∧ (a = none → n = 0 ∧ cap = 0) := by
  have hn : n = ss.length := by have := h.1; rw [List.length_map, Nat.mul_one] at this; exact this.symm
  obtain ⟨a', c', e, hS⟩ := strs_owned h hn
  injection e with e1 e2 e3
  subst e1; subst e3
  refine ⟨hS, fun ha => ?_⟩
  obtain ⟨_, ⟨e, h0⟩ | ⟨g, cap', cur, e, _⟩⟩ := h
  · injection e with _ e2 e3; exact ⟨e2, e3⟩
  · injection e with e1 _ _; rw [ha] at e1; cases e1
theorem owned_lower {w : World} {base base' : Nat} {e : TypeId} {size : Nat} {v : Value} {n : Nat} {xs : List Value} (h : w.ownsRow base e size v n xs) (hb : base' ≤ base) : w.ownsRow base' e size v n xs := by
  refine ⟨h.1, ?_⟩
  rcases h.2 with hn | ⟨g, cap, cur, hv, h1, rest⟩
  · exact .inl hn
  · exact .inr ⟨g, cap, cur, hv, Nat.le_trans hb h1, rest⟩
/-! ### The document's Join of a key, of a tree -/
theorem rjoin_one (k : ByteArray) (w : World) (g : Nat) (hc : w.cell? ⟨g, 0, none⟩ = some (.string k)) (hk : k.size ≤ 100) :
    Calls Tryz.prog 42 #[.int .u8 2, .slice (some ⟨g, 0, none⟩) 1 1] w fun e w' => e = .returned (.string (rk k)) ∧ Below w.heap.size w w' := by
  have hS : Strs (some ⟨g, 0, none⟩) 1 [k] w := ⟨rfl, fun i hi => ⟨g, 0, rfl, by match i, hi with | 0, _ => rw [Nat.zero_add]; exact hc⟩⟩
  refine (refJoin_any 2 (some ⟨g, 0, none⟩) 1 1 [k] _ hS ?_ (by omega)).mono ?_
  · simp only [joined, List.flatMap_cons, List.flatMap_nil, List.length_append, num_length, size_data, List.length_nil]; omega
  · rintro e w' ⟨rfl, h⟩
    exact ⟨rfl, h⟩
theorem rjoin_four (k v a b : ByteArray) (w : World) (g : Nat) (c0 : w.cell? ⟨g, 0, none⟩ = some (.string k)) (c1 : w.cell? ⟨g, 1, none⟩ = some (.string v)) (c2 : w.cell? ⟨g, 2, none⟩ = some (.string a)) (c3 : w.cell? ⟨g, 3, none⟩ = some (.string b)) (hk : k.size ≤ 100) (hv : v.size ≤ 200) (ha : a.size ≤ 32) (hb : b.size ≤ 32) :
    Calls Tryz.prog 42 #[.int .u8 1, .slice (some ⟨g, 0, none⟩) 4 4] w fun e w' => e = .returned (.string (jn k v a b)) ∧ Below w.heap.size w w' := by
  have hS : Strs (some ⟨g, 0, none⟩) 4 [k, v, a, b] w := ⟨rfl, fun i hi => ⟨g, 0, rfl, by
    rw [Nat.zero_add]
    match i, hi with
    | 0, _ => exact c0
    | 1, _ => exact c1
    | 2, _ => exact c2
    | 3, _ => exact c3⟩⟩
  refine (refJoin_any 1 (some ⟨g, 0, none⟩) 4 4 [k, v, a, b] _ hS ?_ (by omega)).mono ?_
  · simp only [joined, List.flatMap_cons, List.flatMap_nil, List.length_append, num_length, size_data, List.length_nil]; omega
  · rintro e w' ⟨rfl, h⟩
    exact ⟨rfl, h⟩
end Go.Proofs.YtheobkepoocamaaGreatDoor
namespace Go.Proofs.YtheobkepoocamaaGreatDoor
set_option maxRecDepth 100000
open Go.RowKit Go.Less Sha
attribute [local go_sem 9000] sem_eql sem_neq sem_lss sem_leq sem_gtr sem_geq
def Named (l : List Pr) (w : World) (e : Ending) (w' : World) : Prop := ∃ ao cap, e = .returned (.tuple #[.string (nm (cn l)), .slice ao l.length cap]) ∧ w'.ownsRow w.heap.size 9 1 (.slice ao l.length cap) l.length ((dn l).map Value.string) ∧ Below w.heap.size w w'
/-- Short keys and values. -/
def Short (l : List Pr) : Prop := ∀ x ∈ l, x.1.size ≤ 100 ∧ x.2.size ≤ 200
theorem prs_take {a : Option Addr} {n : Nat} {l : List Pr} {w : World} (h : Prs a n l w) {t : Nat} (ht : t ≤ n) : Prs a t (l.take t) w := by
  have hc := h.count
  refine ⟨by rw [List.length_take]; omega, fun i hi => ?_⟩
  obtain ⟨b, off, e, h0, h1⟩ := h.cell i (by omega)
  refine ⟨b, off, e, ?_, ?_⟩
  · rw [h0]; simp [List.getD, hi]
  · rw [h1]; simp [List.getD, hi]
theorem prs_drop {b off n : Nat} {l : List Pr} {w : World} (h : Prs (some ⟨b, off, none⟩) n l w) {t : Nat} (ht : t ≤ n) : Prs (some ⟨b, off + t * 2, none⟩) (n - t) (l.drop t) w := by
  have hc := h.count
  refine ⟨by rw [List.length_drop]; omega, fun i hi => ?_⟩
  obtain ⟨b', off', e, h0, h1⟩ := h.cell (t + i) (by omega)
  injection e with e
  injection e with e1 e2
  subst e1; subst e2
  have hx : off + (t + i) * 2 = off + t * 2 + i * 2 := by omega
  rw [hx] at h0 h1
  refine ⟨_, _, rfl, ?_, ?_⟩
  · rw [h0]; simp [List.getD, List.getElem?_drop]
  · rw [h1]; simp [List.getD, List.getElem?_drop]
theorem prs_nil (a : Option Addr) (w : World) : Prs a 0 [] w := ⟨rfl, fun i hi => by omega⟩
/-- The best so far. -/
def Topped (l : List Pr) (j tp : Nat) (bs : ByteArray) : Prop := (j = 0 ∧ tp = 0 ∧ bs = ⟨#[]⟩) ∨ (0 < j ∧ topOf (l.take j) = some (tp, bs))
theorem take_one {l : List Pr} {j : Nat} (h : j < l.length) : l.take (j + 1) = l.take j ++ [l.getD j z0] := by
  rw [List.take_succ_eq_append_getElem h]; simp [List.getD, List.getElem?_eq_getElem h]
theorem topped_first {l : List Pr} (h : 0 < l.length) : Topped l 1 0 (rk (l.getD 0 z0).1) := by
  refine .inr ⟨by decide, ?_⟩
  rw [take_one h, List.take_zero, topOf_snoc, topOf_nil]; rfl
theorem topped_more {l : List Pr} {j tp : Nat} {bs : ByteArray} (h : j < l.length) (hj : 0 < j) (hT : Topped l j tp bs) (hb : less bs (rk (l.getD j z0).1) = true) : Topped l (j + 1) j (rk (l.getD j z0).1) := by
  rcases hT with ⟨h0, _⟩ | ⟨_, hT⟩
  · omega
  · refine .inr ⟨by omega, ?_⟩
    rw [take_one h, topOf_snoc, hT, List.length_take, Nat.min_eq_left (by omega)]
    show (if less bs (rk (l.getD j z0).1) = true then _ else _) = _
    rw [if_pos hb]
theorem topped_less {l : List Pr} {j tp : Nat} {bs : ByteArray} (h : j < l.length) (hj : 0 < j) (hT : Topped l j tp bs) (hb : less bs (rk (l.getD j z0).1) = false) : Topped l (j + 1) tp bs := by
  rcases hT with ⟨h0, _⟩ | ⟨_, hT⟩
  · omega
  · refine .inr ⟨by omega, ?_⟩
    rw [take_one h, topOf_snoc, hT, List.length_take, Nat.min_eq_left (by omega)]
    show (if less bs (rk (l.getD j z0).1) = true then _ else _) = _
    rw [if_neg (by rw [hb]; decide)]
set_option maxHeartbeats 4000000 in
theorem rname_any : ∀ (N : Nat) (l : List Pr) (a : Option Addr) (m cap : Nat) (w : World), l.length ≤ N → N ≤ 500 → Prs a m l w → m ≤ cap → Short l → Calls Tryz.prog 29 #[.slice a m cap] w (Named l w) := by
  intro N
  induction N with
  | zero =>
    intro l a m cap w hl hN hP hc hS
    have hl0 : l = [] := List.length_eq_zero_iff.1 (by omega)
    subst hl0
    obtain rfl : m = 0 := hP.count
    clear hP hS hl hN hc
    go_enter Tryz.func29, Tryz.ntmps29
    go_wp2_with fail
    go_ret2
    exact ⟨none, 0, rfl, ⟨rfl, .inl ⟨rfl, rfl⟩⟩, Below.refl _ _⟩
  | succ N ih =>
    intro l a m cap w hl hN hP hc hS
    by_cases h0 : l = []
    · subst h0
      obtain rfl : m = 0 := hP.count
      clear hP hS hl hN hc ih
      go_enter Tryz.func29, Tryz.ntmps29
      go_wp2_with fail
      go_ret2
      exact ⟨none, 0, rfl, ⟨rfl, .inl ⟨rfl, rfl⟩⟩, Below.refl _ _⟩
    · obtain ⟨la, k, v, lb, rfl, ha, hb⟩ := Tr.top_some (rl := less) (rank := rk) rising l h0
      have hcount := hP.count
      have hlen : (la ++ (k, v) :: lb).length = la.length + 1 + lb.length := by simp; omega
      rw [hlen] at hcount hl
      obtain ⟨bl, off, rfl, _⟩ := hP.cell 0 (by omega)
      have HT := Lib.hid (show topOf (la ++ (k, v) :: lb) = some (la.length, rk k) from Tr.top_middle (rl := less) (rank := rk) la k v lb ha hb)
      have HCN := Lib.hid (show nm (cn (la ++ (k, v) :: lb)) = jn k v (nm (cn la)) (nm (cn lb)) from by rw [cn_parts ha hb]; rfl)
      have HDN := Lib.hid (dn_parts (la := la) (lb := lb) (k := k) (v := v) ha hb)
      have hSk := hS (k, v) (by simp)
      have HSK := Lib.hid hSk
      have hka : ∀ j, j < m → ((la ++ (k, v) :: lb).getD j z0).1.size ≤ 100 := fun j hj => (hS _ (by rw [List.getD, List.getElem?_eq_getElem (by omega)]; exact List.getElem_mem _)).1
      have HKA := Lib.hid hka
      have HI := Lib.hid (fun W (hW : Below w.heap.size w W) => ih la (some ⟨bl, off, none⟩) la.length cap W (by omega) (by omega) ((by have := prs_take hP (t := la.length) (by omega); rwa [List.take_left] at this : Prs (some ⟨bl, off, none⟩) la.length la w).below hW) (by omega) (fun x hx => hS x (List.mem_append_left _ hx)))
      have HJ := Lib.hid (fun a' n' c' W (hn' : n' = lb.length) (hP' : Prs a' lb.length lb W) (hc' : lb.length ≤ c') => hn' ▸ ih lb a' lb.length c' W (by omega) (by omega) hP' hc' (fun x hx => hS x (List.mem_append_right _ (List.mem_cons_of_mem _ hx))))
      have HPB := Lib.hid (show ∀ W, Below w.heap.size w W → Prs (some ⟨bl, off + (la.length + 1) * 2, none⟩) lb.length lb W from fun W hW => by
        have := prs_drop hP (t := la.length + 1) (by omega)
        rw [show m - (la.length + 1) = lb.length by omega, show (la ++ (k, v) :: lb).drop (la.length + 1) = lb from by rw [show la ++ (k, v) :: lb = (la ++ [(k, v)]) ++ lb by simp]; exact List.drop_left' (by simp)] at this
        exact this.below hW)
      have hcl := hP.cell
      obtain ⟨b', off', e', hk0, hk1⟩ := hcl la.length (by omega)
      injection e' with e'
      injection e' with e1 e2
      subst e1; subst e2
      rw [show ((la ++ (k, v) :: lb).getD la.length z0) = (k, v) from by simp [List.getD]] at hk0 hk1
      have hbl := block_lt_of_cell hk0
      have HKV := Lib.hid (show ∀ W, Below w.heap.size w W → W.cell? ⟨bl, off + la.length * 2, none⟩ = some (.string k) ∧ W.cell? ⟨bl, off + la.length * 2 + 1, none⟩ = some (.string v) from fun W hb => ⟨(hb.cell (p := ⟨bl, off + la.length * 2, none⟩) hbl).trans hk0, (hb.cell (p := ⟨bl, off + la.length * 2 + 1, none⟩) hbl).trans hk1⟩)
      have HP := Lib.hid hP
      have hm : 0 < m := by omega
      have hmI : (m : Int) ≤ 500 := by omega
      have HLen := Lib.hid hlen
      have HM := Lib.hid hcount
      have HC := Lib.hid hc
      have HN := Lib.hid hl
      clear hP hS hl ih h0 ha hb hSk hka hcl hk0 hk1 hcount hlen hc
      go_enter Tryz.func29, Tryz.ntmps29
      go_wp2_with fail
      go_loopw [4, 5, 6] (fun t b i wr => ∃ (j tp : Nat) (bs : ByteArray), j ≤ m ∧ i = .int .i64 (j : Int) ∧ t = .int .i64 (tp : Int) ∧ b = .string bs ∧ Topped (la ++ (k, v) :: lb) j tp bs ∧ Below w.heap.size w wr) (fun _ _ i _ => m - (intOf i).toNat)
      case atStart => exact ⟨0, 0, ⟨#[]⟩, Nat.zero_le _, rfl, rfl, rfl, .inl ⟨rfl, rfl, rfl⟩, Below.refl _ _⟩
      case round =>
        obtain ⟨j, tp, bs, hj, rfl, rfl, rfl, hTp, hb⟩ := hrel
        have HB := Lib.hid hb
        have HTp := Lib.hid hTp
        clear hb hTp
        by_cases hlt : j < m
        · by_cases hj00 : j = 0
          · subst hj00
            obtain ⟨bl1, off1, e1, hq0, hq1⟩ := HP.out.cell 0 hlt
            injection e1 with e1
            injection e1 with e1 e2
            subst e1; subst e2
            rw [Nat.zero_mul, Nat.add_zero] at hq0
            have q0 := (HB.out.cell (p := ⟨bl, off, none⟩) (block_lt_of_cell hq0)).trans hq0
            have hjl : 0 < (la ++ (k, v) :: lb).length := by have := HP.out.count; omega
            have HJL := Lib.hid hjl
            have HX := Lib.hid (HKA.out 0 hlt)
            have hj0 : ((0 : Nat) : Int) < (m : Int) := by omega
            clear hq0 hq1 hjl
            have HTn := Lib.hid (topped_first HJL.out)
            generalize (la ++ (k, v) :: lb).getD 0 z0 = x at q0 HX HTn
            have HR := Lib.hid (fun W g hc => rjoin_one x.1 W g hc HX.out)
            clear HX
            go_wp2_with fail
            refine (HR.out (wr.alloc (.cells #[.string x.1] 9)) wr.heap.size (cell_alloc _ _ _ 0)).mono ?_
            rintro e w1 ⟨rfl, hw1⟩
            have hb1 := btr hw1 (HB.out.trans ((below_one wr (.cells #[.string x.1] 9)).mono HB.out.size))
            have HB1 := Lib.hid hb1
            clear hw1 hb1
            dsimp only
            go_wp2_with fail
            go_roundw
            case rel => exact ⟨1, 0, rk x.1, by omega, by go_num, by go_num, rfl, HTn.out, HB1.out⟩
            case measure => simp [intOf]; omega
          · have hjp : 0 < j := by omega
            have hjp0 : ((j : Int) == 0) = false := by rw [beq_eq_false_iff_ne]; omega
            obtain ⟨bl1, off1, e1, hq0, hq1⟩ := HP.out.cell j hlt
            injection e1 with e1
            injection e1 with e1 e2
            subst e1; subst e2
            have q0 := (HB.out.cell (p := ⟨bl, off + j * 2, none⟩) (block_lt_of_cell hq0)).trans hq0
            have hjl : j < (la ++ (k, v) :: lb).length := by have := HP.out.count; omega
            have HJL := Lib.hid hjl
            have HX := Lib.hid (HKA.out j hlt)
            have hj0 : (j : Int) < (m : Int) := by omega
            clear hq0 hq1 hjl
            cases hls : less bs (rk ((la ++ (k, v) :: lb).getD j z0).1)
            · have HTn := Lib.hid (topped_less HJL.out hjp HTp.out hls)
              generalize (la ++ (k, v) :: lb).getD j z0 = x at q0 HX HTn hls
              have HR := Lib.hid (fun W g hc => rjoin_one x.1 W g hc HX.out)
              clear HX
              go_wp2_with fail
              refine (HR.out (wr.alloc (.cells #[.string x.1] 9)) wr.heap.size (cell_alloc _ _ _ 0)).mono ?_
              rintro e w1 ⟨rfl, hw1⟩
              have hb1 := btr hw1 (HB.out.trans ((below_one wr (.cells #[.string x.1] 9)).mono HB.out.size))
              have HB1 := Lib.hid hb1
              clear hw1 hb1
              dsimp only
              go_wp2_with fail
              go_roundw
              case rel => exact ⟨j + 1, tp, bs, by omega, by go_num, rfl, rfl, HTn.out, HB1.out⟩
              case measure => simp [intOf]; omega
            · have HTn := Lib.hid (topped_more HJL.out hjp HTp.out hls)
              generalize (la ++ (k, v) :: lb).getD j z0 = x at q0 HX HTn hls
              have HR := Lib.hid (fun W g hc => rjoin_one x.1 W g hc HX.out)
              clear HX
              go_wp2_with fail
              refine (HR.out (wr.alloc (.cells #[.string x.1] 9)) wr.heap.size (cell_alloc _ _ _ 0)).mono ?_
              rintro e w1 ⟨rfl, hw1⟩
              have hb1 := btr hw1 (HB.out.trans ((below_one wr (.cells #[.string x.1] 9)).mono HB.out.size))
              have HB1 := Lib.hid hb1
              clear hw1 hb1
              dsimp only
              go_wp2_with fail
              go_roundw
              case rel => exact ⟨j + 1, j, rk x.1, by omega, by go_num, rfl, rfl, HTn.out, HB1.out⟩
              case measure => simp [intOf]; omega
        · obtain rfl : j = m := by omega
          have htp : tp = la.length := by
            rcases HTp.out with ⟨h0, _⟩ | ⟨_, h1⟩
            · omega
            · rw [HP.out.count, List.take_length, HT.out] at h1
              injection h1 with h1
              injection h1 with h1 _
              exact h1.symm
          subst htp
          have hla1 : la.length + 1 ≤ j := by have := HM.out; omega
          have hli : (la.length : Int) < (j : Int) := by omega
          have hli0 : (0 : Int) ≤ (la.length : Int) := by omega
          have hlac : la.length ≤ cap := by have := HC.out; omega
          have hjc : j ≤ cap := HC.out
          have HE := Lib.hid (show j - (la.length + 1) = lb.length by have := HM.out; omega)
          have HE2 := Lib.hid (show lb.length ≤ cap - (la.length + 1) by have := HM.out; omega)
          clear hlt HT HKA HTp
          by_cases hcp : la.length + 1 = cap
          · have hll : lb = [] := List.length_eq_zero_iff.1 (by have := HM.out; omega)
            have HZ := Lib.hid (show Prs (some ⟨bl, off, none⟩) lb.length lb w from by rw [hll]; exact prs_nil _ _)
            have HE0 := Lib.hid (show 0 = lb.length by rw [hll]; rfl)
            have HE3 := Lib.hid (show lb.length ≤ 0 by rw [hll]; exact Nat.le_refl _)
            clear hll
            go_wp2_with fail
            refine (HI.out _ HB.out).mono ?_
            rintro e w1 ⟨ax, cx, rfl, hx, hw1⟩
            have HX := Lib.hid hx
            have HW1 := Lib.hid (btr hw1 HB.out)
            clear hx hw1
            dsimp only
            go_wp2_with fail
            refine (HJ.out _ _ _ _ HE0.out (HZ.out.below HW1.out) HE3.out).mono ?_
            rintro e w2 ⟨ay, cy, rfl, hy, hw2⟩
            have hb2 := btr hw2 HW1.out
            have hxs := owned_below HX.out hw2
            obtain ⟨sx, nx⟩ := owned_strs hxs
            obtain ⟨sy, ny⟩ := owned_strs hy
            have HSX := Lib.hid sx
            have HNX := Lib.hid nx
            have HSY := Lib.hid sy
            have HNY := Lib.hid ny
            have HB2 := Lib.hid hb2
            have hbd := hb2.drew
            clear hy hw2 hxs sx nx sy ny hb2
            dsimp only
            have HRF := Lib.hid (fun W g c0 c1 c2 c3 => rjoin_four k v (nm (cn la)) (nm (cn lb)) W g c0 c1 c2 c3 HSK.out.1 HSK.out.2 (nm_size _) (nm_size _))
            generalize jn k v (nm (cn la)) (nm (cn lb)) = z at HRF HCN HDN
            generalize nm (cn la) = n1 at *
            generalize nm (cn lb) = n2 at *
            have hk2 := HKV.out _ HB2.out
            have hwa := (below_one w2 (.cells #[.string k, .string v, .string n1, .string n2] 9)).drew
            have HWA := Lib.hid hwa
            clear hwa
            go_wp2_with fail
            go_region_held3 (fun W => W.cell? ⟨bl, off + la.length * 2, none⟩ = some (.string k) ∧ W.cell? ⟨bl, off + la.length * 2 + 1, none⟩ = some (.string v))
              (first | exact HKV.out _ hbd | exact HKV.out _ (btr HWA.out HB2.out) | exact HKV.out _ hb3 | assumption)
              ((go_at_call 42; (with_reducible refine (HRF.out _ _ (by go_simp) (by go_simp) (by go_simp) (by go_simp)).mono ?_); rintro e w3 ⟨rfl, hw3⟩; have hb3 := btr hw3 (btr HWA.out HB2.out)))
            all_goals
              have HB3 := Lib.hid hb3
              have HO4 := Lib.hid (owns_new w3)
              have HK4 := Lib.hid (below_one w3 (.cells #[] 9))
              have HSX3 := Lib.hid ((HSX.out.below HWA.out).below hw3)
              have HSY3 := Lib.hid ((HSY.out.below HWA.out).below hw3)
              have HSX4 := Lib.hid (HSX3.out.below HK4.out)
              have HLA := Lib.hid (show 0 + la.length ≤ 1000000 by omega)
              have HLB := Lib.hid (show la.length + lb.length ≤ 1000000 by have := HM.out; omega)
              clear hb3 hw3 hbd hk2
              go_wp2_with (first
                | (at_builtin; refine at_app_texts rfl _ _ rfl w3.heap.size _ 0 [] (by rfl) HO4.out ax la.length cx (dn la) (by rfl) HSX4.out HNX.out HLA.out HK4.out.size ?_; intro ao5 cap5 w5 hown5 hgrow5; simp only [Nat.zero_add, List.nil_append] at hown5 ⊢; have HK5 := Lib.hid (HK4.out.grown hgrow5 HK4.out.size (fun j hj => (owns_lt HO4.out j hj).1)); have HO5 := Lib.hid hown5; have HSY5 := Lib.hid (HSY3.out.below HK5.out); clear hown5 hgrow5)
                | (at_builtin; refine at_app_texts rfl _ _ rfl w3.heap.size _ la.length (dn la) (by rfl) HO5.out ay lb.length cy (dn lb) (by rfl) HSY5.out HNY.out HLB.out HK5.out.size ?_; intro ao6 cap6 w6 hown6 hgrow6; have HK6 := Lib.hid (HK5.out.grown hgrow6 HK5.out.size (fun j hj => (owns_lt HO5.out j hj).1)); have HK7 := Lib.hid (HK6.out.alloc HK6.out.size (.cells #[.string z] 9)); have HO7 := Lib.hid (owned_below hown6 (below_one w6 (.cells #[.string z] 9))); clear hown6 hgrow6)
                | (at_builtin; refine at_app1 rfl _ _ rfl w3.heap.size _ (la.length + lb.length) ((dn la ++ dn lb).map Value.string) (by rfl) HO7.out w6.heap.size (.string z) (by rfl) (by simp) rfl HLB.out HK7.out.size ?_; intro ao8 cap8 w8 hown8 hgrow8; have HK8 := Lib.hid (HK7.out.grown hgrow8 HK7.out.size (fun j hj => (owns_lt HO7.out j hj).1)); have HO8 := Lib.hid hown8; clear hown8 hgrow8)
                | fail)
              go_ret2
              have hfin : (la ++ (k, v) :: lb).length = la.length + lb.length + 1 := by rw [HLen.out]; omega
              refine ⟨ao8, cap8, by rw [HCN.out, hfin]; rfl, ?_, btr HK8.out HB3.out⟩
              rw [hfin, HDN.out, List.map_append]
              exact owned_lower HO8.out HB3.out.size
          · go_wp2_with fail
            refine (HI.out _ HB.out).mono ?_
            rintro e w1 ⟨ax, cx, rfl, hx, hw1⟩
            have HX := Lib.hid hx
            have HW1 := Lib.hid (btr hw1 HB.out)
            clear hx hw1
            dsimp only
            go_wp2_with fail
            refine (HJ.out _ _ _ _ HE.out (HPB.out _ HW1.out) HE2.out).mono ?_
            rintro e w2 ⟨ay, cy, rfl, hy, hw2⟩
            have hb2 := btr hw2 HW1.out
            have hxs := owned_below HX.out hw2
            obtain ⟨sx, nx⟩ := owned_strs hxs
            obtain ⟨sy, ny⟩ := owned_strs hy
            have HSX := Lib.hid sx
            have HNX := Lib.hid nx
            have HSY := Lib.hid sy
            have HNY := Lib.hid ny
            have HB2 := Lib.hid hb2
            have hbd := hb2.drew
            clear hy hw2 hxs sx nx sy ny hb2
            dsimp only
            have HRF := Lib.hid (fun W g c0 c1 c2 c3 => rjoin_four k v (nm (cn la)) (nm (cn lb)) W g c0 c1 c2 c3 HSK.out.1 HSK.out.2 (nm_size _) (nm_size _))
            generalize jn k v (nm (cn la)) (nm (cn lb)) = z at HRF HCN HDN
            generalize nm (cn la) = n1 at *
            generalize nm (cn lb) = n2 at *
            have hk2 := HKV.out _ HB2.out
            have hwa := (below_one w2 (.cells #[.string k, .string v, .string n1, .string n2] 9)).drew
            have HWA := Lib.hid hwa
            clear hwa
            go_wp2_with fail
            go_region_held3 (fun W => W.cell? ⟨bl, off + la.length * 2, none⟩ = some (.string k) ∧ W.cell? ⟨bl, off + la.length * 2 + 1, none⟩ = some (.string v))
              (first | exact HKV.out _ hbd | exact HKV.out _ (btr HWA.out HB2.out) | exact HKV.out _ hb3 | assumption)
              ((go_at_call 42; (with_reducible refine (HRF.out _ _ (by go_simp) (by go_simp) (by go_simp) (by go_simp)).mono ?_); rintro e w3 ⟨rfl, hw3⟩; have hb3 := btr hw3 (btr HWA.out HB2.out)))
            all_goals
              have HB3 := Lib.hid hb3
              have HO4 := Lib.hid (owns_new w3)
              have HK4 := Lib.hid (below_one w3 (.cells #[] 9))
              have HSX3 := Lib.hid ((HSX.out.below HWA.out).below hw3)
              have HSY3 := Lib.hid ((HSY.out.below HWA.out).below hw3)
              have HSX4 := Lib.hid (HSX3.out.below HK4.out)
              have HLA := Lib.hid (show 0 + la.length ≤ 1000000 by omega)
              have HLB := Lib.hid (show la.length + lb.length ≤ 1000000 by have := HM.out; omega)
              clear hb3 hw3 hbd hk2
              go_wp2_with (first
                | (at_builtin; refine at_app_texts rfl _ _ rfl w3.heap.size _ 0 [] (by rfl) HO4.out ax la.length cx (dn la) (by rfl) HSX4.out HNX.out HLA.out HK4.out.size ?_; intro ao5 cap5 w5 hown5 hgrow5; simp only [Nat.zero_add, List.nil_append] at hown5 ⊢; have HK5 := Lib.hid (HK4.out.grown hgrow5 HK4.out.size (fun j hj => (owns_lt HO4.out j hj).1)); have HO5 := Lib.hid hown5; have HSY5 := Lib.hid (HSY3.out.below HK5.out); clear hown5 hgrow5)
                | (at_builtin; refine at_app_texts rfl _ _ rfl w3.heap.size _ la.length (dn la) (by rfl) HO5.out ay lb.length cy (dn lb) (by rfl) HSY5.out HNY.out HLB.out HK5.out.size ?_; intro ao6 cap6 w6 hown6 hgrow6; have HK6 := Lib.hid (HK5.out.grown hgrow6 HK5.out.size (fun j hj => (owns_lt HO5.out j hj).1)); have HK7 := Lib.hid (HK6.out.alloc HK6.out.size (.cells #[.string z] 9)); have HO7 := Lib.hid (owned_below hown6 (below_one w6 (.cells #[.string z] 9))); clear hown6 hgrow6)
                | (at_builtin; refine at_app1 rfl _ _ rfl w3.heap.size _ (la.length + lb.length) ((dn la ++ dn lb).map Value.string) (by rfl) HO7.out w6.heap.size (.string z) (by rfl) (by simp) rfl HLB.out HK7.out.size ?_; intro ao8 cap8 w8 hown8 hgrow8; have HK8 := Lib.hid (HK7.out.grown hgrow8 HK7.out.size (fun j hj => (owns_lt HO7.out j hj).1)); have HO8 := Lib.hid hown8; clear hown8 hgrow8)
                | fail)
              go_ret2
              have hfin : (la ++ (k, v) :: lb).length = la.length + lb.length + 1 := by rw [HLen.out]; omega
              refine ⟨ao8, cap8, by rw [HCN.out, hfin]; rfl, ?_, btr HK8.out HB3.out⟩
              rw [hfin, HDN.out, List.map_append]
              exact owned_lower HO8.out HB3.out.size
end Go.Proofs.YtheobkepoocamaaGreatDoor
