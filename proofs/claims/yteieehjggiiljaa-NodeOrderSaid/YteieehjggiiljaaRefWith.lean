/- The document's With. -/
import Derived.Test.YteieehjggiiljaaRefWout
import Derived.Test.YteieehjggiiljaaRefRight
namespace Go.Proofs.Yteieehjggiiljaa
set_option maxRecDepth 100000
open Go.RowKit Go.Less
attribute [local go_sem 9000] sem_eql sem_neq sem_lss sem_leq sem_gtr sem_geq
/-- Has its place come? -/
def dn (l : List En) (k : ByteArray) : Bool := l.any fun x => !less x.1 k
def rows (l : List En) (k : ByteArray) (i : Int) : List En := if dn l k = true then Nd.ins less l k i else l
theorem dn_snoc (l : List En) (x : En) (k : ByteArray) : dn (l ++ [x]) k = (dn l k || !less x.1 k) := by simp [dn]
theorem ins_late {l : List En} {k : ByteArray} (i : Int) (h : dn l k = false) (post : List En) : Nd.ins less (l ++ post) k i = l ++ Nd.ins less post k i := by
  induction l with
  | nil => rfl
  | cons y l ih =>
    simp only [dn, List.any_cons, Bool.or_eq_false_iff] at h
    rw [List.cons_append, Nd.ins, if_pos (by simpa using h.1), ih h.2]; rfl
theorem ins_early {l : List En} {k : ByteArray} (i : Int) (h : dn l k = true) (x : En) : Nd.ins less (l ++ [x]) k i = Nd.ins less l k i ++ [x] := by
  induction l with
  | nil => cases h
  | cons y l ih =>
    rw [List.cons_append, Nd.ins, Nd.ins]
    by_cases hy : less y.1 k = true
    · rw [if_pos hy, if_pos hy, ih (by simpa [dn, hy] using h)]; rfl
    · rw [if_neg hy, if_neg hy]; rfl
theorem rows_snoc (l : List En) (x : En) (k : ByteArray) (i : Int) : rows (l ++ [x]) k i = if dn l k = true then rows l k i ++ [x] else if less x.1 k = true then rows l k i ++ [x] else (rows l k i ++ [(k, i)]) ++ [x] := by
  unfold rows
  rw [dn_snoc]
  cases hd : dn l k
  · cases hx : less x.1 k
    · simp [ins_late i hd, Nd.ins, hx]
    · simp
  · simp [ins_early i hd]
theorem rows_end {l : List En} {k : ByteArray} {i : Int} : Nd.ins less l k i = if dn l k = true then rows l k i else rows l k i ++ [(k, i)] := by
  unfold rows
  cases hd : dn l k
  · have := ins_late i hd []
    rw [List.append_nil] at this
    simp [this, Nd.ins]
  · simp
theorem rows_len (l : List En) (k : ByteArray) (i : Int) : (rows l k i).length ≤ l.length + 1 := by
  unfold rows; split
  · rw [Nd.len_ins]; exact Nat.le_refl _
  · omega
theorem gat_start {w W : World} {cs : Array Value} (x y : Obj) (hx : x = .cells cs 24 (0, 0)) (hy : y = .cells zc 24 (0, 0)) (h : Below ((w.alloc x).alloc y).heap.size ((w.alloc x).alloc y) W) : Gat w cs [] (.slice none 0 0) W := by
  subst hx hy
  have hb := ((Below.refl _ w).alloc (Nat.le_refl _) (.cells cs 24 (0, 0))).alloc (by simp) (.cells zc 24 (0, 0))
  exact ⟨own_nil _ _, (h.block _ (lt_of_obj (two0 _ _ _))).trans (two0 _ _ _), (h.block _ (lt_of_obj (two1 _ _ _))).trans (two1 _ _ _), Nat.le_trans (two2 _ _ _) h.size, hb.trans (h.mono hb.size)⟩
set_option maxHeartbeats 8000000 in
theorem refWith_any (k m : Int) (d t : ByteArray) (a : Option Addr) (n cap : Nat) (l : List En) (nm : ByteArray) (i : Int) (w : World) (hE : Ents a n l w) (hn : n ≤ 100000) (hs : nm.size ≤ 140737488355328) :
    Calls Try.prog 16 #[nv k m d t a n cap, .string nm, .int .i64 i] w (Noded (Nd.withE less Nm.right ⟨k, m, d, t, l⟩ nm i) w) := by
  have HNL := Lib.hid hE.count
  have HB0 := Lib.hid (show ∀ x y : Obj, Below w.heap.size w ((w.alloc x).alloc y) from fun x y => ((Below.refl _ w).alloc (Nat.le_refl _) _).alloc (by simp) _)
  have HE := Lib.hid (fun W (hb : Below w.heap.size w W) => hE.below hb)
  have HFi := Lib.hid (fun W (hb : Below w.heap.size w W) => refFind_any k m d t a n cap l nm W (hE.below hb) (Nat.le_trans hn (by decide)))
  have HRi := Lib.hid (fun W => refRight_any nm W hs)
  clear hE
  by_cases e1 : ¬ k = 2
  · have HR := Lib.hid (show Nd.withE less Nm.right ⟨k, m, d, t, l⟩ nm i = (Nd.none0, 10) by unfold Nd.withE; rw [if_pos e1])
    go_enter Try.func16, Try.ntmps16
    go_wp2_with fail
    refine bodyPost_ret_by (results_nd rfl _ _ (w.heap.size + 1) _ _ _ _ _ rfl (two1 _ _ _)) rfl ⟨none, 0, by rw [HR.out]; rfl, by rw [HR.out]; exact ents_nil _, HB0.out _ _⟩
  obtain rfl := Decidable.not_not.1 e1
  clear e1
  cases e2 : Nm.right nm.data.toList
  · have HR := Lib.hid (show Nd.withE less Nm.right ⟨2, m, d, t, l⟩ nm i = (Nd.none0, 14) by unfold Nd.withE; rw [if_neg (by simp), if_pos (show Nm.right (Nd.bs nm) = false from e2)])
    go_enter Try.func16, Try.ntmps16
    go_wp2_with fail
    refine (HRi.out _).mono ?_
    rintro e w' ⟨rfl, rfl⟩
    rw [e2]
    dsimp only
    go_wp2_with fail
    refine bodyPost_ret_by (results_nd rfl _ _ (w.heap.size + 1) _ _ _ _ _ rfl (two1 _ _ _)) rfl ⟨none, 0, by rw [HR.out]; rfl, by rw [HR.out]; exact ents_nil _, HB0.out _ _⟩
  go_enter Try.func16, Try.ntmps16
  go_wp2_with fail
  refine (HRi.out _).mono ?_
  rintro e w' ⟨rfl, rfl⟩
  rw [e2]
  dsimp only
  go_wp2_with fail
  refine (HFi.out _ (HB0.out _ _)).mono ?_
  rintro e wr ⟨rfl, hw⟩
  have HG := Lib.hid (gat_start _ _ rfl rfl hw)
  clear hw
  dsimp only
  cases hf : (Nd.find l nm).isSome
  case true =>
    have HR := Lib.hid (show Nd.withE less Nm.right ⟨2, m, d, t, l⟩ nm i = (Nd.none0, 5) by unfold Nd.withE; rw [if_neg (by simp), if_neg (by rw [show Nm.right (Nd.bs nm) = true from e2]; simp), if_pos hf])
    have hr := HG.out.res
    have r0 : wr.cell? ⟨w.heap.size + 1, 0, none⟩ = some (.int .i64 0) := cell_obj hr 0
    have r1 : wr.cell? ⟨w.heap.size + 1, 1, none⟩ = some (.int .i64 0) := cell_obj hr 1
    have r2 : wr.cell? ⟨w.heap.size + 1, 2, none⟩ = some (.string ⟨#[]⟩) := cell_obj hr 2
    have r3 : wr.cell? ⟨w.heap.size + 1, 3, none⟩ = some (.string ⟨#[]⟩) := cell_obj hr 3
    have r4 : wr.cell? ⟨w.heap.size + 1, 4, none⟩ = some (.slice none 0 0) := cell_obj hr 4
    have q0 := free_obj hr 0
    have q1 := free_obj hr 1
    have q2 := free_obj hr 2
    have q3 := free_obj hr 3
    have q4 := free_obj hr 4
    clear hr
    go_wp2_with fail
    refine bodyPost_ret_by (results_nd rfl _ _ (w.heap.size + 1) _ _ _ _ _ rfl (set5 _ _ _ _ _ HG.out.res)) rfl ⟨none, 0, by rw [HR.out]; rfl, by rw [HR.out]; exact ents_nil _, below5 HG.out.below (Nat.le_succ _) _ _ _ _ _⟩
  case false =>
    have HW := Lib.hid (show Nd.withE less Nm.right ⟨2, m, d, t, l⟩ nm i = if 64 ≤ l.length then (Nd.none0, 3) else (⟨2, m, d, t, Nd.ins less l nm i⟩, 0) by unfold Nd.withE; rw [if_neg (by simp), if_neg (by rw [show Nm.right (Nd.bs nm) = true from e2]; simp), if_neg (by rw [hf]; simp)])
    by_cases h64 : 64 ≤ n
    · have h64i : (64 : Int) ≤ (n : Int) := by omega
      have HR := Lib.hid (HW.out.trans (if_pos (by rw [← HNL.out]; exact h64)))
      have hb0 := cell_obj HG.out.box 4
      have cb : wr.cell? ⟨w.heap.size, 4, none⟩ = some (.slice a n cap) := hb0
      clear hb0
      have hr := HG.out.res
      have r0 : wr.cell? ⟨w.heap.size + 1, 0, none⟩ = some (.int .i64 0) := cell_obj hr 0
      have r1 : wr.cell? ⟨w.heap.size + 1, 1, none⟩ = some (.int .i64 0) := cell_obj hr 1
      have r2 : wr.cell? ⟨w.heap.size + 1, 2, none⟩ = some (.string ⟨#[]⟩) := cell_obj hr 2
      have r3 : wr.cell? ⟨w.heap.size + 1, 3, none⟩ = some (.string ⟨#[]⟩) := cell_obj hr 3
      have r4 : wr.cell? ⟨w.heap.size + 1, 4, none⟩ = some (.slice none 0 0) := cell_obj hr 4
      have q0 := free_obj hr 0
      have q1 := free_obj hr 1
      have q2 := free_obj hr 2
      have q3 := free_obj hr 3
      have q4 := free_obj hr 4
      clear hr
      go_wp2_with fail
      refine bodyPost_ret_by (results_nd rfl _ _ (w.heap.size + 1) _ _ _ _ _ rfl (set5 _ _ _ _ _ HG.out.res)) rfl ⟨none, 0, by rw [HR.out]; rfl, by rw [HR.out]; exact ents_nil _, below5 HG.out.below (Nat.le_succ _) _ _ _ _ _⟩
    · have HR := Lib.hid (HW.out.trans (if_neg (by rw [← HNL.out]; exact h64)))
      have h64i : (n : Int) < 64 := by omega
      have hb0 := cell_obj HG.out.box 4
      have cb : wr.cell? ⟨w.heap.size, 4, none⟩ = some (.slice a n cap) := hb0
      clear hb0 HW
      go_wp2_with fail
      go_loopw [10, 11, 12] (fun v g x wr => ∃ j : Nat, j ≤ n ∧ x = .int .i64 j ∧ g = .bool (dn (l.take j) nm) ∧ Gat w #[.int .i64 2, .int .i64 m, .string d, .string t, .slice a n cap] (rows (l.take j) nm i) v wr) (fun _ _ x _ => n - (intOf x).toNat)
      case atStart => exact ⟨0, Nat.zero_le _, rfl, rfl, HG.out⟩
      case round =>
        clear cb HG
        rename_i wr
        obtain ⟨j, hj, rfl, rfl, hG⟩ := hrel
        obtain ⟨ao, cp, rfl⟩ := owns_form hG.own
        have cb : wr.cell? ⟨w.heap.size, 4, none⟩ = some (.slice a n cap) := cell_obj hG.box 4
        by_cases hlt : j < n
        · have j0 : (j : Int) < (n : Int) := by omega
          have hj0 : (0 : Int) ≤ (j : Int) := by omega
          obtain ⟨b, off, rfl, c0, c1⟩ := (HE.out _ hG.below).cell j hlt
          have HCe := Lib.hid (show ∀ W, Below w.heap.size w W → W.cell? ⟨b, off + j * 2, none⟩ = some (.string (l.getD j z0).1) ∧ W.cell? ⟨b, off + j * 2 + 1, none⟩ = some (.int .i64 (l.getD j z0).2) from fun W hb => by
            obtain ⟨b', off', e, h0, h1⟩ := (HE.out W hb).cell j hlt
            injection e with e
            injection e with e1 e2 _
            subst e1 e2
            exact ⟨h0, h1⟩)
          have hjl : j < l.length := by rw [← HNL.out]; exact hlt
          have hT := take_snoc hjl z0
          have HC := Lib.hid (rows_snoc (l.take j) (l.getD j z0) nm i)
          have HD := Lib.hid (dn_snoc (l.take j) (l.getD j z0) nm)
          rw [← hT] at HC HD
          have hcl := rows_len (l.take j) nm i
          rw [List.length_take] at hcl
          have HL := Lib.hid (show (rows (l.take j) nm i).length ≤ 100001 by omega)
          clear hcl hjl hT
          have HG := Lib.hid hG
          clear hG
          generalize l.getD j z0 = x at c0 c1 HC HD HCe
          generalize hdn : dn (l.take j) nm = f at *
          generalize rows (l.take j) nm i = C at *
          clear hdn
          cases f
          · cases hx : less x.1 nm
            · have HC2 := Lib.hid (show rows (l.take (j + 1)) nm i = (C ++ [(nm, i)]) ++ [x] by rw [HC.out, if_neg (by simp), if_neg (by rw [hx]; simp)])
              have HD2 := Lib.hid (show dn (l.take (j + 1)) nm = true by rw [HD.out, hx]; rfl)
              have hA := (Below.refl wr.heap.size wr).alloc (Nat.le_refl _) (.cells #[.string nm, .int .i64 i] 46)
              have HO := Lib.hid (owned_below HG.out.own hA)
              have HN := Lib.hid (heap_alloc_new wr (.cells #[.string nm, .int .i64 i] 46))
              have HS := Lib.hid (Nat.le_trans HG.out.big hA.size)
              clear hA
              go_wp2_with (first | (at_builtin; refine at_ent rfl _ _ rfl (w.heap.size + 2) _ C (by rfl) HO.out wr.heap.size (nm, i) (by rfl) HN.out (Nat.le_trans HL.out (by decide)) HS.out ?_; intro ao4 cap4 w4 hown4 hgrow4; have HG4 := Lib.hid (gat_more HG.out HO.out hgrow4 (by simpa [Own] using hown4)); have cb4 : w4.cell? ⟨w.heap.size, 4, none⟩ = some (.slice (some ⟨b, off, none⟩) n cap) := cell_obj HG4.out.box 4; obtain ⟨c04, c14⟩ := HCe.out w4 HG4.out.below; clear hown4 hgrow4) | (at_builtin; refine at_ent rfl _ _ rfl (w.heap.size + 2) _ (C ++ [(nm, i)]) (by rfl) (owned_below HG4.out.own ((Below.refl w4.heap.size w4).alloc (Nat.le_refl _) (.cells #[.string x.1, .int .i64 x.2] 46))) w4.heap.size x (by rfl) (heap_alloc_new _ _) (by rw [List.length_append]; exact Nat.le_trans (Nat.succ_le_succ HL.out) (by decide)) (Nat.le_trans HG4.out.big ((Below.refl w4.heap.size w4).alloc (Nat.le_refl _) (.cells #[.string x.1, .int .i64 x.2] 46)).size) ?_; intro ao5 cap5 w5 hown5 hgrow5; have HG5 := Lib.hid (gat_more HG4.out (owned_below HG4.out.own ((Below.refl w4.heap.size w4).alloc (Nat.le_refl _) (.cells #[.string x.1, .int .i64 x.2] 46))) hgrow5 (by simpa [Own] using hown5)); clear hown5 hgrow5) | fail)
              exact ⟨⟨j + 1, by omega, by go_num, by rw [HD2.out], by rw [HC2.out]; exact HG5.out⟩, by simp [intOf]; omega⟩
            · have HC2 := Lib.hid (show rows (l.take (j + 1)) nm i = C ++ [x] by rw [HC.out, if_neg (by simp), if_pos hx])
              have HD2 := Lib.hid (show dn (l.take (j + 1)) nm = false by rw [HD.out, hx]; rfl)
              have hA := (Below.refl wr.heap.size wr).alloc (Nat.le_refl _) (.cells #[.string x.1, .int .i64 x.2] 46)
              have HO := Lib.hid (owned_below HG.out.own hA)
              have HN := Lib.hid (heap_alloc_new wr (.cells #[.string x.1, .int .i64 x.2] 46))
              have HS := Lib.hid (Nat.le_trans HG.out.big hA.size)
              clear hA
              go_wp2_with (first | (at_builtin; refine at_ent rfl _ _ rfl (w.heap.size + 2) _ C (by rfl) HO.out wr.heap.size x (by rfl) HN.out (Nat.le_trans HL.out (by decide)) HS.out ?_; intro ao4 cap4 w4 hown4 hgrow4; have HG4 := Lib.hid (gat_more HG.out HO.out hgrow4 (by simpa [Own] using hown4)); have cb4 : w4.cell? ⟨w.heap.size, 4, none⟩ = some (.slice (some ⟨b, off, none⟩) n cap) := cell_obj HG4.out.box 4; obtain ⟨c04, c14⟩ := HCe.out w4 HG4.out.below; clear hown4 hgrow4) | fail)
              exact ⟨⟨j + 1, by omega, by go_num, by rw [HD2.out], by rw [HC2.out]; exact HG4.out⟩, by simp [intOf]; omega⟩
          · have HC2 := Lib.hid (show rows (l.take (j + 1)) nm i = C ++ [x] by rw [HC.out, if_pos rfl])
            have HD2 := Lib.hid (show dn (l.take (j + 1)) nm = true by rw [HD.out]; rfl)
            have hA := (Below.refl wr.heap.size wr).alloc (Nat.le_refl _) (.cells #[.string x.1, .int .i64 x.2] 46)
            have HO := Lib.hid (owned_below HG.out.own hA)
            have HN := Lib.hid (heap_alloc_new wr (.cells #[.string x.1, .int .i64 x.2] 46))
            have HS := Lib.hid (Nat.le_trans HG.out.big hA.size)
            clear hA
            go_wp2_with (first | (at_builtin; refine at_ent rfl _ _ rfl (w.heap.size + 2) _ C (by rfl) HO.out wr.heap.size x (by rfl) HN.out (Nat.le_trans HL.out (by decide)) HS.out ?_; intro ao4 cap4 w4 hown4 hgrow4; have HG4 := Lib.hid (gat_more HG.out HO.out hgrow4 (by simpa [Own] using hown4)); have cb4 : w4.cell? ⟨w.heap.size, 4, none⟩ = some (.slice (some ⟨b, off, none⟩) n cap) := cell_obj HG4.out.box 4; obtain ⟨c04, c14⟩ := HCe.out w4 HG4.out.below; clear hown4 hgrow4) | fail)
            exact ⟨⟨j + 1, by omega, by go_num, by rw [HD2.out], by rw [HC2.out]; exact HG4.out⟩, by simp [intOf]; omega⟩
        · obtain rfl : j = n := by omega
          rw [show l.take j = l by rw [HNL.out, List.take_length]] at hG ⊢
          have HE2 := Lib.hid (rows_end (l := l) (k := nm) (i := i))
          have hcl := rows_len l nm i
          have HL := Lib.hid (show (rows l nm i).length ≤ 100001 by have := HNL.out; omega)
          have HG := Lib.hid hG
          clear hG hcl
          generalize hdn : dn l nm = f at *
          generalize rows l nm i = C at *
          clear hdn
          cases f
          · rw [if_neg (by simp)] at HE2
            rw [HE2.out] at HR
            have hA := (Below.refl wr.heap.size wr).alloc (Nat.le_refl _) (.cells #[.string nm, .int .i64 i] 46)
            have HO := Lib.hid (owned_below HG.out.own hA)
            have HN := Lib.hid (heap_alloc_new wr (.cells #[.string nm, .int .i64 i] 46))
            have HS := Lib.hid (Nat.le_trans HG.out.big hA.size)
            clear hA
            go_wp2_with (first | (at_builtin; refine at_ent rfl _ _ rfl (w.heap.size + 2) _ C (by rfl) HO.out wr.heap.size (nm, i) (by rfl) HN.out (Nat.le_trans HL.out (by decide)) HS.out ?_; intro ao4 cap4 w4 hown4 hgrow4; have HG4 := Lib.hid (gat_more HG.out HO.out hgrow4 (by simpa [Own] using hown4)); have cb4 : w4.cell? ⟨w.heap.size, 4, none⟩ = some (.slice a _ cap) := cell_obj HG4.out.box 4; have hr := HG4.out.res; have r0 : w4.cell? ⟨w.heap.size + 1, 0, none⟩ = some (.int .i64 0) := cell_obj hr 0; have r1 : w4.cell? ⟨w.heap.size + 1, 1, none⟩ = some (.int .i64 0) := cell_obj hr 1; have r2 : w4.cell? ⟨w.heap.size + 1, 2, none⟩ = some (.string ⟨#[]⟩) := cell_obj hr 2; have r3 : w4.cell? ⟨w.heap.size + 1, 3, none⟩ = some (.string ⟨#[]⟩) := cell_obj hr 3; have r4 : w4.cell? ⟨w.heap.size + 1, 4, none⟩ = some (.slice none 0 0) := cell_obj hr 4; have q0 := free_obj hr 0; have q1 := free_obj hr 1; have q2 := free_obj hr 2; have q3 := free_obj hr 3; have q4 := free_obj hr 4; clear hr; have hx := HG4.out.box; have x0 : w4.cell? ⟨w.heap.size, 0, none⟩ = some (.int .i64 2) := cell_obj hx 0; have x1 : w4.cell? ⟨w.heap.size, 1, none⟩ = some (.int .i64 m) := cell_obj hx 1; have x2 : w4.cell? ⟨w.heap.size, 2, none⟩ = some (.string d) := cell_obj hx 2; have x3 : w4.cell? ⟨w.heap.size, 3, none⟩ = some (.string t) := cell_obj hx 3; have x4 := free_obj hx 4; have hne : w.heap.size ≠ w.heap.size + 1 := Nat.ne_of_lt (Nat.lt_succ_self _); clear hx; clear hown4 hgrow4) | fail)
            have hlen : (C ++ [(nm, i)]).length = C.length + 1 := by simp
            have hown : Own (w.heap.size + 2) (.slice ao4 (C ++ [(nm, i)]).length cap4) (C ++ [(nm, i)]) w4 := by rw [hlen]; exact HG4.out.own
            have hr' : (w4.setCell ⟨w.heap.size, 4, none⟩ (.slice ao4 (C.length + 1) cap4)).heap[w.heap.size + 1]? = some (.cells zc 24 (0, 0)) :=
              (heap_setCell_other w4 ⟨w.heap.size, 4, none⟩ (w.heap.size + 1) _ (by show w.heap.size + 1 ≠ w.heap.size; omega)).trans HG4.out.res
            refine bodyPost_ret_by (results_nd rfl _ _ (w.heap.size + 1) _ _ _ _ _ rfl (set5 _ _ _ _ _ hr')) rfl ?_
            unfold Noded
            rw [HR.out]
            refine ⟨ao4, cap4, ?_, own_ents (own_set5 (own_set hown (by omega) 4 _) (by omega) _ _ _ _ _), below5 (HG4.out.below.setCell (Nat.le_refl _) _) (Nat.le_succ _) _ _ _ _ _⟩
            show Ending.returned (.tuple #[nv 2 m d t ao4 (C.length + 1) cap4, .int .i64 0]) = Ending.returned (.tuple #[nv 2 m d t ao4 (C ++ [(nm, i)]).length cap4, .int .i64 0])
            rw [hlen]
          · rw [if_pos rfl] at HE2
            rw [HE2.out] at HR
            have hr := HG.out.res
            have r0 : wr.cell? ⟨w.heap.size + 1, 0, none⟩ = some (.int .i64 0) := cell_obj hr 0
            have r1 : wr.cell? ⟨w.heap.size + 1, 1, none⟩ = some (.int .i64 0) := cell_obj hr 1
            have r2 : wr.cell? ⟨w.heap.size + 1, 2, none⟩ = some (.string ⟨#[]⟩) := cell_obj hr 2
            have r3 : wr.cell? ⟨w.heap.size + 1, 3, none⟩ = some (.string ⟨#[]⟩) := cell_obj hr 3
            have r4 : wr.cell? ⟨w.heap.size + 1, 4, none⟩ = some (.slice none 0 0) := cell_obj hr 4
            have q0 := free_obj hr 0
            have q1 := free_obj hr 1
            have q2 := free_obj hr 2
            have q3 := free_obj hr 3
            have q4 := free_obj hr 4
            clear hr
            have hx := HG.out.box
            have x0 : wr.cell? ⟨w.heap.size, 0, none⟩ = some (.int .i64 2) := cell_obj hx 0
            have x1 : wr.cell? ⟨w.heap.size, 1, none⟩ = some (.int .i64 m) := cell_obj hx 1
            have x2 : wr.cell? ⟨w.heap.size, 2, none⟩ = some (.string d) := cell_obj hx 2
            have x3 : wr.cell? ⟨w.heap.size, 3, none⟩ = some (.string t) := cell_obj hx 3
            have x4 := free_obj hx 4
            have hne : w.heap.size ≠ w.heap.size + 1 := Nat.ne_of_lt (Nat.lt_succ_self _)
            clear hx
            go_wp2_with fail
            have hlen : C.length = C.length := rfl
            have hown : Own (w.heap.size + 2) (.slice ao C.length cp) C wr := HG.out.own
            have hr' : (wr.setCell ⟨w.heap.size, 4, none⟩ (.slice ao C.length cp)).heap[w.heap.size + 1]? = some (.cells zc 24 (0, 0)) :=
              (heap_setCell_other wr ⟨w.heap.size, 4, none⟩ (w.heap.size + 1) _ (by show w.heap.size + 1 ≠ w.heap.size; omega)).trans HG.out.res
            refine bodyPost_ret_by (results_nd rfl _ _ (w.heap.size + 1) _ _ _ _ _ rfl (set5 _ _ _ _ _ hr')) rfl ?_
            unfold Noded
            rw [HR.out]
            refine ⟨ao, cp, ?_, own_ents (own_set5 (own_set hown (by omega) 4 _) (by omega) _ _ _ _ _), below5 (HG.out.below.setCell (Nat.le_refl _) _) (Nat.le_succ _) _ _ _ _ _⟩
            show Ending.returned (.tuple #[nv 2 m d t ao (C.length) cp, .int .i64 0]) = Ending.returned (.tuple #[nv 2 m d t ao C.length cp, .int .i64 0])
            rfl
end Go.Proofs.Yteieehjggiiljaa
