/- NodeOrder, walked. -/
import Derived.Test.YteieehjggiiljaaTurns
import Derived.Test.YteieehjggiiljaaArgs
import Derived.Deep.RegionLaw
import Derived.BigQuiet
namespace Go.Proofs.Yteieehjggiiljaa
set_option maxRecDepth 100000
open Go.RowKit Go.Less
attribute [local go_sem 9000] sem_eql sem_neq
abbrev e0 : ByteArray := ⟨#[]⟩
/-- No entry lies in a node's box. -/
theorem ents_off {a : Option Addr} {n p : Nat} {l : List En} {k m : Int} {d t : ByteArray} {a' : Option Addr} {n' c' : Nat} {W W' : World} (h : Ents a n l W)
    (hp : W.heap[p]? = some (.cells #[.int .i64 k, .int .i64 m, .string d, .string t, .slice a' n' c'] 24 (0, 0))) (hk : ∀ q, q ≠ p → W'.heap[q]? = W.heap[q]?) : Ents a n l W' := by
  refine ⟨h.count, fun i hi => ?_⟩
  obtain ⟨b, off, rfl, h0, h1⟩ := h.cell i hi
  by_cases hb : b = p
  · subst hb
    rw [cell_obj hp] at h0 h1
    generalize off + i * 2 = j at h0 h1
    match j with
    | 0 => cases h0
    | 1 => cases h0
    | 2 => cases h1
    | 3 => cases h1
    | 4 => cases h0
    | j + 5 => simp at h0
  · refine ⟨b, off, rfl, ?_, ?_⟩
    · rw [← h0]; simp only [World.cell?, hk b hb]
    · rw [← h1]; simp only [World.cell?, hk b hb]
/-- A world with one box written anew. -/
abbrev set5w (W : World) (g : Nat) (v0 v1 v2 v3 v4 : Value) : World := ((((W.setCell ⟨g, 0, none⟩ v0).setCell ⟨g, 1, none⟩ v1).setCell ⟨g, 2, none⟩ v2).setCell ⟨g, 3, none⟩ v3).setCell ⟨g, 4, none⟩ v4
theorem set5_off (W : World) (g : Nat) (v0 v1 v2 v3 v4 : Value) : ∀ q, q ≠ g → (set5w W g v0 v1 v2 v3 v4).heap[q]? = W.heap[q]? := fun q hq => by
  unfold set5w
  rw [heap_setCell_other _ _ q _ (fun e => hq e), heap_setCell_other _ _ q _ (fun e => hq e), heap_setCell_other _ _ q _ (fun e => hq e), heap_setCell_other _ _ q _ (fun e => hq e), heap_setCell_other _ _ q _ (fun e => hq e)]
/-- The two nodes, in their boxes. -/
structure Ab (w : World) (aa : Option Addr) (na ca : Nat) (la : List En) (ab : Option Addr) (nb cb : Nat) (lb : List En) (W : World) : Prop where
  xa : Nb w.heap.size 2 0 e0 e0 aa na ca la W
  xb : Nb (w.heap.size + 1) 2 0 e0 e0 ab nb cb lb W
  below : Below w.heap.size w W
section
variable {w : World} {aa : Option Addr} {na ca : Nat} {la : List En} {ab : Option Addr} {nb cb : Nat} {lb : List En} {W W' : World} {a : Option Addr} {n c : Nat} {l : List En}
theorem Ab.kept (h : Ab w aa na ca la ab nb cb lb W) (hb : Below W.heap.size W W') : Ab w aa na ca la ab nb cb lb W' :=
  ⟨h.xa.kept hb, h.xb.kept hb, h.below.trans (hb.mono h.below.size)⟩
theorem Ab.putA (h : Ab w aa na ca la ab nb cb lb W) (he : Ents a n l W) : Ab w a n c l ab nb cb lb (set5w W w.heap.size (.int .i64 2) (.int .i64 0) (.string e0) (.string e0) (.slice a n c)) :=
  ⟨⟨set5 _ _ _ _ _ h.xa.box, ents_off he h.xa.box (set5_off _ _ _ _ _ _ _)⟩, ⟨(set5_off _ _ _ _ _ _ _ _ (by omega)).trans h.xb.box, ents_off h.xb.ents h.xa.box (set5_off _ _ _ _ _ _ _)⟩, below5 h.below (Nat.le_refl _) _ _ _ _ _⟩
theorem Ab.putB (h : Ab w aa na ca la ab nb cb lb W) (he : Ents a n l W) : Ab w aa na ca la a n c l (set5w W (w.heap.size + 1) (.int .i64 2) (.int .i64 0) (.string e0) (.string e0) (.slice a n c)) :=
  ⟨⟨(set5_off _ _ _ _ _ _ _ _ (by omega)).trans h.xa.box, ents_off h.xa.ents h.xb.box (set5_off _ _ _ _ _ _ _)⟩, ⟨set5 _ _ _ _ _ h.xb.box, ents_off he h.xb.box (set5_off _ _ _ _ _ _ _)⟩, below5 h.below (Nat.le_succ _) _ _ _ _ _⟩
end
/-- Behind a node laid in a third box: one that lay there, or a new one. -/
structure Third (w : World) (aa : Option Addr) (na ca : Nat) (la : List En) (ab : Option Addr) (nb cb : Nat) (lb : List En) (a : Option Addr) (n : Nat) (l : List En) (g : Nat) (cs : Array Value) (W : World) : Prop where
  ab : Ab w aa na ca la ab nb cb lb W
  ents : Ents a n l W
  box : W.heap[g]? = some (.cells cs 24 (0, 0))
section
variable {w : World} {aa : Option Addr} {na ca : Nat} {la : List En} {ab : Option Addr} {nb cb : Nat} {lb : List En} {W : World} {a : Option Addr} {n : Nat} {l : List En}
theorem third_set (h : Ab w aa na ca la ab nb cb lb W) (he : Ents a n l W) {g : Nat} (hz : W.heap[g]? = some (.cells zc 24 (0, 0))) (hg : w.heap.size + 2 ≤ g) (v0 v1 v2 v3 v4 : Value) :
    Third w aa na ca la ab nb cb lb a n l g #[v0, v1, v2, v3, v4] (set5w W g v0 v1 v2 v3 v4) :=
  ⟨⟨⟨(set5_off _ _ _ _ _ _ _ _ (by omega)).trans h.xa.box, ents_off h.xa.ents hz (set5_off _ _ _ _ _ _ _)⟩, ⟨(set5_off _ _ _ _ _ _ _ _ (by omega)).trans h.xb.box, ents_off h.xb.ents hz (set5_off _ _ _ _ _ _ _)⟩, below5 h.below (by omega) _ _ _ _ _⟩, ents_off he hz (set5_off _ _ _ _ _ _ _), set5 _ _ _ _ _ hz⟩
theorem third_new (h : Ab w aa na ca la ab nb cb lb W) (he : Ents a n l W) (cs : Array Value) : Third w aa na ca la ab nb cb lb a n l W.heap.size cs (W.alloc (.cells cs 24)) :=
  ⟨h.kept (below_one _ _), he.below (below_one _ _), heap_alloc_new W _⟩
theorem Ab.two (h : Ab w aa na ca la ab nb cb lb W) : w.heap.size + 2 ≤ W.heap.size := lt_of_obj h.xb.box
end
theorem gat_small {ss : List ByteArray} {j n : Nat} {l : List En} (hj : j ≤ 30) (h : ∀ q, q < j → (ss.getD q e0).size ≤ 100) (hl : l.length ≤ j) (hm : ∀ x ∈ l, ∃ q, q < j ∧ x = (ss.getD q e0, (q : Int) + 1)) (hn : l.length = n) : Small e0 e0 n l :=
  ⟨by omega, fun x hx => by obtain ⟨q, hq, rfl⟩ := hm x hx; exact h q hq, by decide, by decide⟩
/-- A name of the row. Closed. -/
def nmAt (ss : List ByteArray) (q : Nat) : ByteArray := ss.getD q ⟨#[]⟩
theorem nm_small {ss : List ByteArray} {n : Nat} (h : ∀ s ∈ ss, s.size ≤ n) (q : Nat) : (nmAt ss q).size ≤ n := by
  unfold nmAt
  rw [List.getD]
  cases hq : ss[q]? with
  | none => exact Nat.zero_le _
  | some x => exact h x (List.mem_of_getElem? hq)
theorem ab_start (w : World) : Ab w none 0 0 [] none 0 0 [] ((w.alloc (.cells #[.int .i64 2, .int .i64 0, .string e0, .string e0, .slice none 0 0] 24)).alloc (.cells #[.int .i64 2, .int .i64 0, .string e0, .string e0, .slice none 0 0] 24)) := by
  have h1 := nb_new (k := 2) (m := 0) (d := e0) (t := e0) (c := 0) (ents_nil w)
  have h2 := nb_new (k := 2) (m := 0) (d := e0) (t := e0) (c := 0) (ents_nil (w.alloc (.cells #[.int .i64 2, .int .i64 0, .string e0, .string e0, .slice none 0 0] 24)))
  rw [size1] at h2
  exact ⟨h1.kept (below_one _ _), h2, (below_one w _).alloc (by simp) _⟩
/-- The first j names are put. -/
structure Up (ss : List ByteArray) (w : World) (j : Nat) (aa : Option Addr) (ca : Nat) (W : World) : Prop where
  unlike : Unlike ss j
  short : ∀ q, q < j → (nmAt ss q).size ≤ 100
  ab : Ab w aa (gat (row ss j)).length ca (gat (row ss j)) none 0 0 [] W
theorem up_start (ss : List ByteArray) (w : World) {W : World} (h : Ab w none 0 0 [] none 0 0 [] W) : Up ss w 0 none 0 W :=
  ⟨fun _ _ _ h => absurd h (Nat.not_lt_zero _), fun _ h => absurd h (Nat.not_lt_zero _), h⟩
theorem unlike_succ {ss : List ByteArray} {j : Nat} (h : Unlike ss j) (hj : ∀ p, p < j → nmAt ss p ≠ nmAt ss j) : Unlike ss (j + 1) := fun p q hp hq => by
  by_cases e : q = j
  · subst e; exact hj p hp
  · exact h p q hp (by omega)
theorem mem_down {ss : List ByteArray} {n i : Nat} {x : En} (h : x ∈ down ss n i) : ∃ p, i ≤ p ∧ p < n ∧ x = (nmAt ss p, (p : Int) + 1) := by
  unfold down at h
  obtain ⟨k, hk, e⟩ := List.getElem_of_mem (List.mem_reverse.1 h)
  rw [List.length_drop, row_len] at hk
  refine ⟨i + k, by omega, by omega, ?_⟩
  rw [← e, List.getElem_drop]
  simp [row, nmAt]
theorem down_len (ss : List ByteArray) (n i : Nat) : (down ss n i).length = n - i := by unfold down; rw [List.length_reverse, List.length_drop, row_len]
/-- An entry in memory. -/
theorem ent_cells {b off n : Nat} {l : List En} {W : World} (h : Ents (some ⟨b, off, none⟩) n l W) {j : Nat} (hj : j < n) : W.cell? ⟨b, off + j * 2, none⟩ = some (.string (l.getD j z0).1) ∧ W.cell? ⟨b, off + j * 2 + 1, none⟩ = some (.int .i64 (l.getD j z0).2) := by
  obtain ⟨b', off', e, h0, h1⟩ := h.cell j hj
  obtain ⟨rfl, rfl⟩ : b' = b ∧ off' = off := by cases e; exact ⟨rfl, rfl⟩
  exact ⟨h0, h1⟩
set_option maxHeartbeats 16000000 in
theorem order_any (a0 : Option Addr) (len0 cap0 : Nat) (ss : List ByteArray) (z1 : Int) (w : World) (A0 : Arg ss a0 len0 cap0 w) :
    Calls Try.prog 6 #[.slice a0 len0 cap0, .int .i64 z1] w fun e w' => e = .returned (.bool true) ∧ Below w.heap.size w w' := by
  have HA := Lib.hid (fun W (hb : Below w.heap.size w W) => A0.at_.below hb)
  have HSm := Lib.hid A0.small
  have hl0 : (len0 : Int) ≤ 140737488355328 := by have := A0.short; omega
  have hlong : (30 : Int) < (len0 : Int) ∨ ¬ (30 : Int) < (len0 : Int) := by omega
  clear A0
  go_enter Try.func6, Try.ntmps6
  go_wp2_with fail
  refine (awake_any _).mono ?_
  rintro e w1 ⟨rfl, hb⟩
  have HB := Lib.hid hb
  clear hb
  dsimp only
  rcases hlong with h30 | h30
  · go_wp2_with fail
    go_ret
    exact ⟨rfl, HB.out⟩
  have hn30 : len0 ≤ 30 := by omega
  go_wp2_with fail
  go_loopw [7, 8, 9, 10] (fun i _ _ _ wr => ∃ (j : Nat) (aa : Option Addr) (ca : Nat), j ≤ len0 ∧ i = .int .i64 j ∧ Up ss w1 j aa ca wr) (fun i _ _ _ _ => len0 - (intOf i).toNat)
  case atStart => exact ⟨0, none, 0, Nat.zero_le _, rfl, up_start ss w1 (ab_start w1)⟩
  case round =>
    obtain ⟨j, aa, ca, hj, rfl, hU⟩ := hrel
    have HU := Lib.hid hU
    clear hU
    by_cases hlt : j < len0
    · have hbw : Below w.heap.size w wr := HB.out.trans (HU.out.ab.below.mono HB.out.size)
      obtain ⟨b, off, rfl, -⟩ := (HA.out _ hbw).cell j hlt
      have HC := Lib.hid (show ∀ q, q < len0 → ∀ W, Below w1.heap.size w1 W → W.cell? ⟨b, off + q, none⟩ = some (.string (nmAt ss q)) from fun q hq W hb => by
        obtain ⟨b', off', e, hc⟩ := (HA.out _ (HB.out.trans (hb.mono HB.out.size))).cell q hq
        injection e with e
        injection e with e1 e2 _
        subst e1 e2
        exact hc)
      have HSz := Lib.hid (nm_small HSm.out)
      have j0 : (j : Int) < (len0 : Int) := by omega
      have hj0 : (0 : Int) ≤ (j : Int) := by omega
      have hc := HC.out j hlt wr HU.out.ab.below
      have hsz := HSz.out j
      have hszi : ((nmAt ss j).size : Int) ≤ 140737488355328 := by omega
      clear hbw
      rcases Nat.lt_or_ge 100 (nmAt ss j).size with h | h
      · have h1 : (100 : Int) < ((nmAt ss j).size : Int) := by omega
        clear h
        go_wp2_with fail
        go_ret
        exact ⟨rfl, HB.out.trans (HU.out.ab.below.mono HB.out.size)⟩
      · have h1 : ¬ (100 : Int) < ((nmAt ss j).size : Int) := by omega
        have HJ := Lib.hid h
        clear h
        go_wp2_with fail
        clear h1 hszi hsz hc
        go_loopw [8] (fun k wq => ∃ q : Nat, q ≤ j ∧ k = .int .i64 q ∧ (∀ p, p < q → nmAt ss p ≠ nmAt ss j) ∧ Ab w1 aa (gat (row ss j)).length ca (gat (row ss j)) none 0 0 [] wq) (fun k _ => j - (intOf k).toNat)
        case atStart => exact ⟨0, Nat.zero_le _, rfl, fun _ h => absurd h (Nat.not_lt_zero _), HU.out.ab⟩
        case round =>
          obtain ⟨q, hq, rfl, hne, hab⟩ := hrel

          have HN := Lib.hid hne
          have HAb := Lib.hid hab
          clear hne hab
          by_cases hqj : q < j
          · have q0 : (q : Int) < (j : Int) := by omega
            have q1 : (q : Int) < (len0 : Int) := by omega
            have hq0 : (0 : Int) ≤ (q : Int) := by omega
            have hcj := HC.out j hlt wr HAb.out.below
            have hcq := HC.out q (by omega) wr HAb.out.below
            have HD := Lib.hid (show ∀ n, Below w1.heap.size w1 (wr.drewN n) from bdn HAb.out.below)
            cases hal : alike (nmAt ss q) (nmAt ss j)
            · go_wp2_with fail
              go_quiet (fail)
              go_wp2_with fail
              go_roundw
              case rel =>
                refine ⟨q + 1, by omega, by go_num, fun p hp => ?_, HAb.out.kept (bdn (Below.refl _ _) _)⟩
                by_cases e : p = q
                · subst e
                  intro e
                  rw [alike_eq.2 e] at hal
                  cases hal
                · exact HN.out p (by omega)
              case measure => simp [intOf]; omega
            · go_wp2_with fail
              go_quiet (fail)
              go_wp2_with fail
              go_ret
              exact ⟨rfl, HB.out.trans ((HD.out _).mono HB.out.size)⟩
          · obtain rfl : q = j := by omega
            clear hqj
            have HP := Lib.hid (put_step (row ss q) (nmAt ss q, (q : Int) + 1) (fun y hy => by obtain ⟨p, hp, rfl⟩ := mem_row hy; exact HN.out p hp) (by rw [row_len]; omega))
            have hg := gat_len (row ss q)
            rw [row_len] at hg
            have HS := Lib.hid (gat_small (n := (gat (row ss q)).length) (by omega) HU.out.short hg (fun x hx => mem_row (Nd.mem_gather.1 hx).1) rfl)
            have HU1 := Lib.hid (unlike_succ HU.out.unlike HN.out)
            have HRow := Lib.hid (show row ss (q + 1) = row ss q ++ [(nmAt ss q, (q : Int) + 1)] from row_succ ss q)
            have q1 : (q : Int) < (len0 : Int) := by omega
            have hz := HJ.out
            have HJ2 := Lib.hid (show (nmAt ss q).size ≤ 100000 by omega)
            clear hz hg
            obtain ⟨n, hn⟩ : ∃ n, n = (gat (row ss q)).length := ⟨_, rfl⟩
            rw [← hn] at HS HAb
            have HN2 := Lib.hid hn
            clear hn
            obtain ⟨⟨k', m', d', t', l'⟩, r', hW⟩ : ∃ x r, Nd.withE less Nm.right ⟨2, 0, ⟨#[]⟩, ⟨#[]⟩, gat (row ss q)⟩ (nmAt ss q) ((q : Int) + 1) = (x, r) := ⟨_, _, rfl⟩
            have HW := Lib.hid hW
            obtain ⟨n', hn'⟩ : ∃ n, l'.length = n := ⟨_, rfl⟩
            have HN' := Lib.hid hn'
            clear hW hn'
            generalize gat (row ss q) = l at HS HAb HW HP HN2
            have HX := Lib.hid (fun W (hb : Below wr.heap.size wr W) => q_with (c := ca) W (HAb.out.kept hb).xa.ents HS.out HJ2.out HW.out HN'.out)
            have hsum : IntKind.i64.wrap ((q : Int) + 1) = (q : Int) + 1 := IntWalk.i64_in _ (by omega)
            have x0 : wr.cell? ⟨w1.heap.size, 0, none⟩ = some (.int .i64 2) := cell_obj HAb.out.xa.box 0
            have x1 : wr.cell? ⟨w1.heap.size, 1, none⟩ = some (.int .i64 0) := cell_obj HAb.out.xa.box 1
            have x2 : wr.cell? ⟨w1.heap.size, 2, none⟩ = some (.string e0) := cell_obj HAb.out.xa.box 2
            have x3 : wr.cell? ⟨w1.heap.size, 3, none⟩ = some (.string e0) := cell_obj HAb.out.xa.box 3
            have x4 : wr.cell? ⟨w1.heap.size, 4, none⟩ = some (.slice aa n ca) := cell_obj HAb.out.xa.box 4
            have hc : wr.cell? ⟨b, off + q, none⟩ = some (.string (nmAt ss q)) := HC.out q hlt wr HAb.out.below
            go_wp2_with fail
            have HZ := Lib.hid (heap_alloc_new wr (.cells zc 24))
            have HZB := Lib.hid (below_one wr (.cells zc 24))
            have y0 : (wr.alloc (.cells #[.int .i64 0, .int .i64 0, .string ⟨#[]⟩, .string ⟨#[]⟩, .slice none 0 0] 24)).cell? ⟨w1.heap.size, 0, none⟩ = some (.int .i64 2) := cell_obj (HAb.out.kept HZB.out).xa.box 0
            have y1 : (wr.alloc (.cells #[.int .i64 0, .int .i64 0, .string ⟨#[]⟩, .string ⟨#[]⟩, .slice none 0 0] 24)).cell? ⟨w1.heap.size, 1, none⟩ = some (.int .i64 0) := cell_obj (HAb.out.kept HZB.out).xa.box 1
            have y2 : (wr.alloc (.cells #[.int .i64 0, .int .i64 0, .string ⟨#[]⟩, .string ⟨#[]⟩, .slice none 0 0] 24)).cell? ⟨w1.heap.size, 2, none⟩ = some (.string e0) := cell_obj (HAb.out.kept HZB.out).xa.box 2
            have y3 : (wr.alloc (.cells #[.int .i64 0, .int .i64 0, .string ⟨#[]⟩, .string ⟨#[]⟩, .slice none 0 0] 24)).cell? ⟨w1.heap.size, 3, none⟩ = some (.string e0) := cell_obj (HAb.out.kept HZB.out).xa.box 3
            have y4 : (wr.alloc (.cells #[.int .i64 0, .int .i64 0, .string ⟨#[]⟩, .string ⟨#[]⟩, .slice none 0 0] 24)).cell? ⟨w1.heap.size, 4, none⟩ = some (.slice aa n ca) := cell_obj (HAb.out.kept HZB.out).xa.box 4
            have hc2 : (wr.alloc (.cells #[.int .i64 0, .int .i64 0, .string ⟨#[]⟩, .string ⟨#[]⟩, .slice none 0 0] 24)).cell? ⟨b, off + q, none⟩ = some (.string (nmAt ss q)) := HC.out q hlt _ (HAb.out.kept HZB.out).below
            go_region_law (first
              | (go_simp; (with_reducible refine (HX.out _ ((Below.refl wr.heap.size wr).drew)).mono ?_); rintro e wA ⟨ac, cc, rfl, heA, hA⟩; have HeA := Lib.hid heA; have HbA := Lib.hid (HAb.out.kept (below_drew hA)); clear heA hA)
              | (go_simp; (with_reducible refine (HX.out _ (HZB.out.drew)).mono ?_); rintro e wA ⟨ac, cc, rfl, heA, hA⟩; have HeA := Lib.hid heA; have HbA := Lib.hid ((HAb.out.kept HZB.out).kept (below_drew hA)); have HZ2 := Lib.hid (((below_drew hA).block _ (lt_of_obj HZ.out)).trans HZ.out); clear heA hA; have hz := HZ2.out; have z0 := cell_obj hz 0; have z1 := cell_obj hz 1; have z2 := cell_obj hz 2; have z3 := cell_obj hz 3; have z4 := cell_obj hz 4; have f0 := free_obj hz 0; have f1 := free_obj hz 1; have f2 := free_obj hz 2; have f3 := free_obj hz 3; have f4 := free_obj hz 4; clear hz))
            all_goals
              first
                | have HF := Lib.hid (third_set HbA.out HeA.out HZ2.out HAb.out.two (.int .i64 k') (.int .i64 m') (.string d') (.string t') (.slice ac n' cc))
                  unfold set5w at HF
                  generalize ((((wA.setCell ⟨wr.heap.size, 0, none⟩ (.int .i64 k')).setCell ⟨wr.heap.size, 1, none⟩ (.int .i64 m')).setCell ⟨wr.heap.size, 2, none⟩ (.string d')).setCell ⟨wr.heap.size, 3, none⟩ (.string t')).setCell ⟨wr.heap.size, 4, none⟩ (.slice ac n' cc) = W9 at HF ⊢
                  generalize wr.heap.size = p9 at HF ⊢
                | have HF := Lib.hid (third_new HbA.out HeA.out #[.int .i64 k', .int .i64 m', .string d', .string t', .slice ac n' cc])
                  generalize wA.alloc (.cells #[.int .i64 k', .int .i64 m', .string d', .string t', .slice ac n' cc] 24) = W9 at HF ⊢
                  generalize wA.heap.size = p9 at HF ⊢
              clear x0 x1 x2 x3 x4 y0 y1 y2 y3 y4 hc hc2
              try clear z0 z1 z2 z3 z4 f0 f1 f2 f3 f4
              have g0 : W9.cell? ⟨p9, 0, none⟩ = some (.int .i64 k') := cell_obj HF.out.box 0
              have g1 : W9.cell? ⟨p9, 1, none⟩ = some (.int .i64 m') := cell_obj HF.out.box 1
              have g2 : W9.cell? ⟨p9, 2, none⟩ = some (.string d') := cell_obj HF.out.box 2
              have g3 : W9.cell? ⟨p9, 3, none⟩ = some (.string t') := cell_obj HF.out.box 3
              have g4 : W9.cell? ⟨p9, 4, none⟩ = some (.slice ac n' cc) := cell_obj HF.out.box 4
              rcases HP.out with hp | hp
              · obtain ⟨e1, rfl⟩ := Prod.mk.inj (HW.out.symm.trans hp)
                injection e1 with e1 e2 e3 e4 e5
                subst e1 e2 e3 e4
                have HL := Lib.hid e5
                clear hp e5
                have x0 : W9.cell? ⟨w1.heap.size, 0, none⟩ = some (.int .i64 2) := cell_obj HF.out.ab.xa.box 0
                have x1 : W9.cell? ⟨w1.heap.size, 1, none⟩ = some (.int .i64 0) := cell_obj HF.out.ab.xa.box 1
                have x2 : W9.cell? ⟨w1.heap.size, 2, none⟩ = some (.string e0) := cell_obj HF.out.ab.xa.box 2
                have x3 : W9.cell? ⟨w1.heap.size, 3, none⟩ = some (.string e0) := cell_obj HF.out.ab.xa.box 3
                have x4 : W9.cell? ⟨w1.heap.size, 4, none⟩ = some (.slice aa n ca) := cell_obj HF.out.ab.xa.box 4
                have f0 := free_obj HF.out.ab.xa.box 0
                have f1 := free_obj HF.out.ab.xa.box 1
                have f2 := free_obj HF.out.ab.xa.box 2
                have f3 := free_obj HF.out.ab.xa.box 3
                have f4 := free_obj HF.out.ab.xa.box 4
                go_wp2_with fail
                go_roundw
                case rel =>
                  refine ⟨q + 1, ac, cc, by omega, by go_num, HU1.out, fun p hp => ?_, ?_⟩
                  · by_cases e : p = q
                    · subst e; exact HJ.out
                    · exact HU.out.short p (by omega)
                  · have hh := HF.out.ab.putA (c := cc) HF.out.ents
                    rw [HRow.out, ← HL.out, HN'.out]
                    exact hh
                case measure => simp [intOf]; omega
              · obtain ⟨hp, hp2⟩ := hp
                obtain ⟨e1, rfl⟩ := Prod.mk.inj (HW.out.symm.trans hp)
                have HL := Lib.hid hp2
                clear hp hp2 e1
                go_wp2_with fail
                go_roundw
                case rel =>
                  refine ⟨q + 1, aa, ca, by omega, by go_num, HU1.out, fun p hp => ?_, ?_⟩
                  · by_cases e : p = q
                    · subst e; exact HJ.out
                    · exact HU.out.short p (by omega)
                  · have hh := HF.out.ab
                    rw [HRow.out, HL.out, ← HN2.out]
                    exact hh
                case measure => simp [intOf]; omega
    · obtain rfl : len0 = j := by omega
      clear hlt hj
      obtain ⟨lA, hlA⟩ : ∃ l, l = gat (row ss len0) := ⟨_, rfl⟩
      have hab0 := HU.out.ab
      rw [← hlA] at hab0
      have HAb0 := Lib.hid hab0
      have HR := Lib.hid (show Nd.Right less Nm.right ⟨2, 0, ⟨#[]⟩, ⟨#[]⟩, lA⟩ from hlA ▸ row_right HU.out.unlike hn30)
      have HDw := Lib.hid (show gat (down ss len0 0) = lA from (gat_down HU.out.unlike).trans hlA.symm)
      have HUn := Lib.hid HU.out.unlike
      have HSh := Lib.hid HU.out.short
      clear hlA hab0 HU
      have hlen1 : IntKind.i64.wrap ((len0 : Int) - 1) = (len0 : Int) - 1 := IntWalk.i64_in _ (by omega)
      go_wp2_with fail
      clear hlen1
      go_loopw [11, 12, 13] (fun i _ _ wq => ∃ (j : Nat) (ab : Option Addr) (cb : Nat), j ≤ len0 ∧ i = .int .i64 ((j : Int) - 1) ∧ Ab w1 aa lA.length ca lA ab (gat (down ss len0 j)).length cb (gat (down ss len0 j)) wq) (fun i _ _ _ => (intOf i + 1).toNat)
      case atStart =>
        refine ⟨len0, none, 0, Nat.le_refl _, rfl, ?_⟩
        rw [down_end]
        exact HAb0.out
      case round =>
        clear HAb0
        obtain ⟨j, ab, cb, hj, rfl, hab⟩ := hrel
        have HAb := Lib.hid hab
        clear hab
        by_cases h0 : 0 < j
        · obtain ⟨q, rfl⟩ : ∃ q, j = q + 1 := ⟨j - 1, by omega⟩
          rw [show ((q + 1 : Nat) : Int) - 1 = (q : Int) from by omega]
          have hlt : q < len0 := by omega
          clear h0
          have hlen2 : len0 - (q + 1) ≤ 30 := by omega
          obtain ⟨b, off, rfl, -⟩ := (HA.out _ (HB.out.trans (HAb.out.below.mono HB.out.size))).cell q hlt
          have HC := Lib.hid (show ∀ q, q < len0 → ∀ W, Below w1.heap.size w1 W → W.cell? ⟨b, off + q, none⟩ = some (.string (nmAt ss q)) from fun q hq W hb => by
            obtain ⟨b', off', e, hc⟩ := (HA.out _ (HB.out.trans (hb.mono HB.out.size))).cell q hq
            injection e with e
            injection e with e1 e2 _
            subst e1 e2
            exact hc)
          have HP := Lib.hid (put_step (down ss len0 (q + 1)) (nmAt ss q, (q : Int) + 1) (fun y hy => by obtain ⟨p, hp, hpn, rfl⟩ := mem_down hy; exact fun e => HUn.out q p (by omega) hpn e.symm) (by rw [down_len]; omega))
          have hg := gat_len (down ss len0 (q + 1))
          rw [down_len] at hg
          have HS := Lib.hid (gat_small (n := (gat (down ss len0 (q + 1))).length) hn30 HSh.out (by omega) (fun x hx => by obtain ⟨p, _, hp, rfl⟩ := mem_down (Nd.mem_gather.1 hx).1; exact ⟨p, hp, rfl⟩) rfl)
          have HRow := Lib.hid (show down ss len0 q = down ss len0 (q + 1) ++ [(nmAt ss q, (q : Int) + 1)] from down_succ ss hlt)
          have q1 : (q : Int) < (len0 : Int) := by omega
          have hq0 : (0 : Int) ≤ (q : Int) := by omega
          have HJ2 := Lib.hid (show (nmAt ss q).size ≤ 100000 from Nat.le_trans (HSh.out q hlt) (by decide))
          have hsub : IntKind.i64.wrap ((q : Int) - 1) = (q : Int) - 1 := IntWalk.i64_in _ (by omega)
          clear hg hlen2
          obtain ⟨n, hn⟩ : ∃ n, n = (gat (down ss len0 (q + 1))).length := ⟨_, rfl⟩
          rw [← hn] at HS HAb
          have HN2 := Lib.hid hn
          clear hn
          obtain ⟨⟨k', m', d', t', l'⟩, r', hW⟩ : ∃ x r, Nd.withE less Nm.right ⟨2, 0, ⟨#[]⟩, ⟨#[]⟩, gat (down ss len0 (q + 1))⟩ (nmAt ss q) ((q : Int) + 1) = (x, r) := ⟨_, _, rfl⟩
          have HW := Lib.hid hW
          obtain ⟨n', hn'⟩ : ∃ n, l'.length = n := ⟨_, rfl⟩
          have HN' := Lib.hid hn'
          clear hW hn'
          generalize gat (down ss len0 (q + 1)) = l at HS HAb HW HP HN2
          have HX := Lib.hid (fun W (hb : Below wr.heap.size wr W) => q_with (c := cb) W (HAb.out.kept hb).xb.ents HS.out HJ2.out HW.out HN'.out)
          have hsum : IntKind.i64.wrap ((q : Int) + 1) = (q : Int) + 1 := IntWalk.i64_in _ (by omega)
          have x0 : wr.cell? ⟨w1.heap.size + 1, 0, none⟩ = some (.int .i64 2) := cell_obj HAb.out.xb.box 0
          have x1 : wr.cell? ⟨w1.heap.size + 1, 1, none⟩ = some (.int .i64 0) := cell_obj HAb.out.xb.box 1
          have x2 : wr.cell? ⟨w1.heap.size + 1, 2, none⟩ = some (.string e0) := cell_obj HAb.out.xb.box 2
          have x3 : wr.cell? ⟨w1.heap.size + 1, 3, none⟩ = some (.string e0) := cell_obj HAb.out.xb.box 3
          have x4 : wr.cell? ⟨w1.heap.size + 1, 4, none⟩ = some (.slice ab n cb) := cell_obj HAb.out.xb.box 4
          have hc : wr.cell? ⟨b, off + q, none⟩ = some (.string (nmAt ss q)) := HC.out q hlt wr HAb.out.below
          go_wp2_with fail
          have HZ := Lib.hid (heap_alloc_new wr (.cells zc 24))
          have HZB := Lib.hid (below_one wr (.cells zc 24))
          have y0 : (wr.alloc (.cells #[.int .i64 0, .int .i64 0, .string ⟨#[]⟩, .string ⟨#[]⟩, .slice none 0 0] 24)).cell? ⟨w1.heap.size + 1, 0, none⟩ = some (.int .i64 2) := cell_obj (HAb.out.kept HZB.out).xb.box 0
          have y1 : (wr.alloc (.cells #[.int .i64 0, .int .i64 0, .string ⟨#[]⟩, .string ⟨#[]⟩, .slice none 0 0] 24)).cell? ⟨w1.heap.size + 1, 1, none⟩ = some (.int .i64 0) := cell_obj (HAb.out.kept HZB.out).xb.box 1
          have y2 : (wr.alloc (.cells #[.int .i64 0, .int .i64 0, .string ⟨#[]⟩, .string ⟨#[]⟩, .slice none 0 0] 24)).cell? ⟨w1.heap.size + 1, 2, none⟩ = some (.string e0) := cell_obj (HAb.out.kept HZB.out).xb.box 2
          have y3 : (wr.alloc (.cells #[.int .i64 0, .int .i64 0, .string ⟨#[]⟩, .string ⟨#[]⟩, .slice none 0 0] 24)).cell? ⟨w1.heap.size + 1, 3, none⟩ = some (.string e0) := cell_obj (HAb.out.kept HZB.out).xb.box 3
          have y4 : (wr.alloc (.cells #[.int .i64 0, .int .i64 0, .string ⟨#[]⟩, .string ⟨#[]⟩, .slice none 0 0] 24)).cell? ⟨w1.heap.size + 1, 4, none⟩ = some (.slice ab n cb) := cell_obj (HAb.out.kept HZB.out).xb.box 4
          have hc2 : (wr.alloc (.cells #[.int .i64 0, .int .i64 0, .string ⟨#[]⟩, .string ⟨#[]⟩, .slice none 0 0] 24)).cell? ⟨b, off + q, none⟩ = some (.string (nmAt ss q)) := HC.out q hlt _ (HAb.out.kept HZB.out).below
          go_region_law (first
            | (go_simp; (with_reducible refine (HX.out _ ((Below.refl wr.heap.size wr).drew)).mono ?_); rintro e wA ⟨ac, cc, rfl, heA, hA⟩; have HeA := Lib.hid heA; have HbA := Lib.hid (HAb.out.kept (below_drew hA)); clear heA hA)
            | (go_simp; (with_reducible refine (HX.out _ (HZB.out.drew)).mono ?_); rintro e wA ⟨ac, cc, rfl, heA, hA⟩; have HeA := Lib.hid heA; have HbA := Lib.hid ((HAb.out.kept HZB.out).kept (below_drew hA)); have HZ2 := Lib.hid (((below_drew hA).block _ (lt_of_obj HZ.out)).trans HZ.out); clear heA hA; have hz := HZ2.out; have z0 := cell_obj hz 0; have z1 := cell_obj hz 1; have z2 := cell_obj hz 2; have z3 := cell_obj hz 3; have z4 := cell_obj hz 4; have f0 := free_obj hz 0; have f1 := free_obj hz 1; have f2 := free_obj hz 2; have f3 := free_obj hz 3; have f4 := free_obj hz 4; clear hz))
          all_goals
            first
              | have HF := Lib.hid (third_set HbA.out HeA.out HZ2.out HAb.out.two (.int .i64 k') (.int .i64 m') (.string d') (.string t') (.slice ac n' cc))
                unfold set5w at HF
                generalize ((((wA.setCell ⟨wr.heap.size, 0, none⟩ (.int .i64 k')).setCell ⟨wr.heap.size, 1, none⟩ (.int .i64 m')).setCell ⟨wr.heap.size, 2, none⟩ (.string d')).setCell ⟨wr.heap.size, 3, none⟩ (.string t')).setCell ⟨wr.heap.size, 4, none⟩ (.slice ac n' cc) = W9 at HF ⊢
                generalize wr.heap.size = p9 at HF ⊢
              | have HF := Lib.hid (third_new HbA.out HeA.out #[.int .i64 k', .int .i64 m', .string d', .string t', .slice ac n' cc])
                generalize wA.alloc (.cells #[.int .i64 k', .int .i64 m', .string d', .string t', .slice ac n' cc] 24) = W9 at HF ⊢
                generalize wA.heap.size = p9 at HF ⊢
            clear x0 x1 x2 x3 x4 y0 y1 y2 y3 y4 hc hc2
            try clear z0 z1 z2 z3 z4 f0 f1 f2 f3 f4
            have g0 : W9.cell? ⟨p9, 0, none⟩ = some (.int .i64 k') := cell_obj HF.out.box 0
            have g1 : W9.cell? ⟨p9, 1, none⟩ = some (.int .i64 m') := cell_obj HF.out.box 1
            have g2 : W9.cell? ⟨p9, 2, none⟩ = some (.string d') := cell_obj HF.out.box 2
            have g3 : W9.cell? ⟨p9, 3, none⟩ = some (.string t') := cell_obj HF.out.box 3
            have g4 : W9.cell? ⟨p9, 4, none⟩ = some (.slice ac n' cc) := cell_obj HF.out.box 4
            rcases HP.out with hp | hp
            · obtain ⟨e1, rfl⟩ := Prod.mk.inj (HW.out.symm.trans hp)
              injection e1 with e1 e2 e3 e4 e5
              subst e1 e2 e3 e4
              have HL := Lib.hid e5
              clear hp e5
              have x0 : W9.cell? ⟨w1.heap.size + 1, 0, none⟩ = some (.int .i64 2) := cell_obj HF.out.ab.xb.box 0
              have x1 : W9.cell? ⟨w1.heap.size + 1, 1, none⟩ = some (.int .i64 0) := cell_obj HF.out.ab.xb.box 1
              have x2 : W9.cell? ⟨w1.heap.size + 1, 2, none⟩ = some (.string e0) := cell_obj HF.out.ab.xb.box 2
              have x3 : W9.cell? ⟨w1.heap.size + 1, 3, none⟩ = some (.string e0) := cell_obj HF.out.ab.xb.box 3
              have x4 : W9.cell? ⟨w1.heap.size + 1, 4, none⟩ = some (.slice ab n cb) := cell_obj HF.out.ab.xb.box 4
              have f0 := free_obj HF.out.ab.xb.box 0
              have f1 := free_obj HF.out.ab.xb.box 1
              have f2 := free_obj HF.out.ab.xb.box 2
              have f3 := free_obj HF.out.ab.xb.box 3
              have f4 := free_obj HF.out.ab.xb.box 4
              go_wp2_with fail
              go_roundw
              case rel =>
                refine ⟨q, ac, cc, by omega, rfl, ?_⟩
                have hh := HF.out.ab.putB (c := cc) HF.out.ents
                rw [HRow.out, ← HL.out, HN'.out]
                exact hh
              case measure => simp [intOf]
            · obtain ⟨hp, hp2⟩ := hp
              obtain ⟨e1, rfl⟩ := Prod.mk.inj (HW.out.symm.trans hp)
              have HL := Lib.hid hp2
              clear hp hp2 e1
              go_wp2_with fail
              go_roundw
              case rel =>
                refine ⟨q, ab, cb, by omega, rfl, ?_⟩
                have hh := HF.out.ab
                rw [HRow.out, HL.out, ← HN2.out]
                exact hh
              case measure => simp [intOf]
        · obtain rfl : j = 0 := by omega
          rw [show ((0 : Nat) : Int) - 1 = -1 from rfl]
          have hab := HAb.out
          rw [HDw.out] at hab
          obtain ⟨n, hn⟩ : ∃ n, lA.length = n := ⟨_, rfl⟩
          rw [hn] at hab
          have HAb := Lib.hid hab
          have SA := small_right HR.out hn
          have HNA := Lib.hid hn
          clear hab hn hj h0
          have x0 : wr.cell? ⟨w1.heap.size, 0, none⟩ = some (.int .i64 2) := cell_obj HAb.out.xa.box 0
          have x1 : wr.cell? ⟨w1.heap.size, 1, none⟩ = some (.int .i64 0) := cell_obj HAb.out.xa.box 1
          have x2 : wr.cell? ⟨w1.heap.size, 2, none⟩ = some (.string e0) := cell_obj HAb.out.xa.box 2
          have x3 : wr.cell? ⟨w1.heap.size, 3, none⟩ = some (.string e0) := cell_obj HAb.out.xa.box 3
          have x4 : wr.cell? ⟨w1.heap.size, 4, none⟩ = some (.slice aa n ca) := cell_obj HAb.out.xa.box 4
          have y0 : wr.cell? ⟨w1.heap.size + 1, 0, none⟩ = some (.int .i64 2) := cell_obj HAb.out.xb.box 0
          have y1 : wr.cell? ⟨w1.heap.size + 1, 1, none⟩ = some (.int .i64 0) := cell_obj HAb.out.xb.box 1
          have y2 : wr.cell? ⟨w1.heap.size + 1, 2, none⟩ = some (.string e0) := cell_obj HAb.out.xb.box 2
          have y3 : wr.cell? ⟨w1.heap.size + 1, 3, none⟩ = some (.string e0) := cell_obj HAb.out.xb.box 3
          have y4 : wr.cell? ⟨w1.heap.size + 1, 4, none⟩ = some (.slice ab n cb) := cell_obj HAb.out.xb.box 4
          go_wp2_with fail
          refine (q_same _ HAb.out.xa.ents HAb.out.xb.ents SA.n80 SA.n80 (sameN_self 2 0 e0 e0 lA)).mono ?_
          rintro e w3 ⟨rfl, hb⟩
          have HAb := Lib.hid (HAb.out.kept hb)
          clear hb x0 x1 x2 x3 x4 y0 y1 y2 y3 y4
          dsimp only
          have x0 : w3.cell? ⟨w1.heap.size, 0, none⟩ = some (.int .i64 2) := cell_obj HAb.out.xa.box 0
          have x1 : w3.cell? ⟨w1.heap.size, 1, none⟩ = some (.int .i64 0) := cell_obj HAb.out.xa.box 1
          have x2 : w3.cell? ⟨w1.heap.size, 2, none⟩ = some (.string e0) := cell_obj HAb.out.xa.box 2
          have x3 : w3.cell? ⟨w1.heap.size, 3, none⟩ = some (.string e0) := cell_obj HAb.out.xa.box 3
          have x4 : w3.cell? ⟨w1.heap.size, 4, none⟩ = some (.slice aa n ca) := cell_obj HAb.out.xa.box 4
          go_wp2_with fail
          refine (q_node _ HAb.out.xa.ents SA (ndr_right.2 HR.out)).mono ?_
          rintro e w4 ⟨rfl, hb⟩
          have HAb := Lib.hid (HAb.out.kept hb)
          have HBw := Lib.hid (HB.out.trans (HAb.out.below.mono HB.out.size))
          clear hb x0 x1 x2 x3 x4
          dsimp only
          have x0 : w4.cell? ⟨w1.heap.size, 0, none⟩ = some (.int .i64 2) := cell_obj HAb.out.xa.box 0
          have x1 : w4.cell? ⟨w1.heap.size, 1, none⟩ = some (.int .i64 0) := cell_obj HAb.out.xa.box 1
          have x2 : w4.cell? ⟨w1.heap.size, 2, none⟩ = some (.string e0) := cell_obj HAb.out.xa.box 2
          have x3 : w4.cell? ⟨w1.heap.size, 3, none⟩ = some (.string e0) := cell_obj HAb.out.xa.box 3
          have x4 : w4.cell? ⟨w1.heap.size, 4, none⟩ = some (.slice aa n ca) := cell_obj HAb.out.xa.box 4
          rcases Int.lt_or_le z1 0 with hz | hz
          · go_wp2_with fail
            go_ret
            exact ⟨rfl, HBw.out⟩
          rcases Int.lt_or_le z1 (n : Int) with hzn | hzn
          rotate_left
          · go_wp2_with fail
            go_ret
            exact ⟨rfl, HBw.out⟩
          obtain ⟨iz, rfl⟩ : ∃ k : Nat, z1 = k := ⟨z1.toNat, by omega⟩
          have hiz : iz < n := by omega
          obtain ⟨b5, off5, rfl, -⟩ := HAb.out.xa.ents.cell iz hiz
          have hc5 := ent_cells HAb.out.xa.ents hiz
          have hmem : lA.getD iz z0 ∈ lA := by rw [List.getD, List.getElem?_eq_getElem (by have := HNA.out; omega)]; exact List.getElem_mem _
          generalize lA.getD iz z0 = x at hc5 hmem
          obtain ⟨c0, c1⟩ := hc5
          have HAg := Lib.hid (again HR.out hmem)
          have hxs : x.1.size ≤ 100000 := Nat.le_trans (SA.names x hmem) (by decide)
          have iz0 : (0 : Int) ≤ (iz : Int) := by omega
          have HYb := Lib.hid (heap_alloc_new w4 (.cells #[.string x.1, .int .i64 x.2] 46))
          have HAb4 := Lib.hid (HAb.out.kept (below_one w4 (.cells #[.string x.1, .int .i64 x.2] 46)))
          clear hmem
          have y0 : (w4.alloc (.cells #[.string x.1, .int .i64 x.2] 46)).cell? ⟨w1.heap.size, 0, none⟩ = some (.int .i64 2) := cell_obj HAb4.out.xa.box 0
          have y1 : (w4.alloc (.cells #[.string x.1, .int .i64 x.2] 46)).cell? ⟨w1.heap.size, 1, none⟩ = some (.int .i64 0) := cell_obj HAb4.out.xa.box 1
          have y2 : (w4.alloc (.cells #[.string x.1, .int .i64 x.2] 46)).cell? ⟨w1.heap.size, 2, none⟩ = some (.string e0) := cell_obj HAb4.out.xa.box 2
          have y3 : (w4.alloc (.cells #[.string x.1, .int .i64 x.2] 46)).cell? ⟨w1.heap.size, 3, none⟩ = some (.string e0) := cell_obj HAb4.out.xa.box 3
          have y4 : (w4.alloc (.cells #[.string x.1, .int .i64 x.2] 46)).cell? ⟨w1.heap.size, 4, none⟩ = some (.slice (some ⟨b5, off5, none⟩) n ca) := cell_obj HAb4.out.xa.box 4
          go_wp2_with fail
          clear x0 x1 x2 x3 x4 y0 y1 y2 y3 y4 c0 c1
          have hcl := (Nd.cut_sub lA x.1).length_le
          have hcs := (Nd.cut_sub lA x.1).subset
          obtain ⟨lc, hlc⟩ : ∃ l, l = Nd.cut lA x.1 := ⟨_, rfl⟩
          rw [← hlc] at HAg hcl hcs
          obtain ⟨nc, hnc⟩ : ∃ n, lc.length = n := ⟨_, rfl⟩
          have HNC := Lib.hid hnc
          have SC : Small e0 e0 nc lc := ⟨by have := SA.n80; have := HNA.out; omega, fun y hy => SA.names y (hcs hy), by decide, by decide⟩
          clear hlc hcl hcs hnc
          refine (q_wout _ HAb4.out.xa.ents SA HAg.out.1 HNC.out).mono ?_
          rintro e w5 ⟨ac, cc, rfl, he, hb⟩
          have HEC := Lib.hid he
          have HAb5 := Lib.hid ((HAb4.out.kept hb).kept (below_one w5 (.cells #[.int .i64 2, .int .i64 0, .string ⟨#[]⟩, .string ⟨#[]⟩, .slice ac nc cc] 24)))
          have HY5 := Lib.hid (((below_one w5 (.cells #[.int .i64 2, .int .i64 0, .string ⟨#[]⟩, .string ⟨#[]⟩, .slice ac nc cc] 24)).block _ (Nat.lt_of_lt_of_le (lt_of_obj HYb.out) hb.size)).trans ((hb.block _ (lt_of_obj HYb.out)).trans HYb.out))
          clear he hb
          dsimp only
          have y0 : (w5.alloc (.cells #[.int .i64 2, .int .i64 0, .string ⟨#[]⟩, .string ⟨#[]⟩, .slice ac nc cc] 24)).cell? ⟨w4.heap.size, 0, none⟩ = some (.string x.1) := cell_obj HY5.out 0
          have y1 : (w5.alloc (.cells #[.int .i64 2, .int .i64 0, .string ⟨#[]⟩, .string ⟨#[]⟩, .slice ac nc cc] 24)).cell? ⟨w4.heap.size, 1, none⟩ = some (.int .i64 x.2) := cell_obj HY5.out 1
          go_wp2_with fail
          clear y0 y1
          refine (q_with _ (nb_new HEC.out).ents SC hxs HAg.out.2 HNA.out).mono ?_
          rintro e w6 ⟨az, cz, rfl, he, hb⟩
          have HEZ := Lib.hid he
          have HAb6 := Lib.hid ((HAb5.out.kept hb).kept (below_one w6 (.cells #[.int .i64 2, .int .i64 0, .string ⟨#[]⟩, .string ⟨#[]⟩, .slice az n cz] 24)))
          clear he hb
          dsimp only
          have x0 : (w6.alloc (.cells #[.int .i64 2, .int .i64 0, .string ⟨#[]⟩, .string ⟨#[]⟩, .slice az n cz] 24)).cell? ⟨w1.heap.size, 0, none⟩ = some (.int .i64 2) := cell_obj HAb6.out.xa.box 0
          have x1 : (w6.alloc (.cells #[.int .i64 2, .int .i64 0, .string ⟨#[]⟩, .string ⟨#[]⟩, .slice az n cz] 24)).cell? ⟨w1.heap.size, 1, none⟩ = some (.int .i64 0) := cell_obj HAb6.out.xa.box 1
          have x2 : (w6.alloc (.cells #[.int .i64 2, .int .i64 0, .string ⟨#[]⟩, .string ⟨#[]⟩, .slice az n cz] 24)).cell? ⟨w1.heap.size, 2, none⟩ = some (.string e0) := cell_obj HAb6.out.xa.box 2
          have x3 : (w6.alloc (.cells #[.int .i64 2, .int .i64 0, .string ⟨#[]⟩, .string ⟨#[]⟩, .slice az n cz] 24)).cell? ⟨w1.heap.size, 3, none⟩ = some (.string e0) := cell_obj HAb6.out.xa.box 3
          have x4 : (w6.alloc (.cells #[.int .i64 2, .int .i64 0, .string ⟨#[]⟩, .string ⟨#[]⟩, .slice az n cz] 24)).cell? ⟨w1.heap.size, 4, none⟩ = some (.slice (some ⟨b5, off5, none⟩) n ca) := cell_obj HAb6.out.xa.box 4
          go_wp2_with fail
          clear x0 x1 x2 x3 x4
          refine (q_same _ (nb_new HEZ.out).ents HAb6.out.xa.ents SA.n80 SA.n80 (sameN_self 2 0 e0 e0 lA)).mono ?_
          rintro e w7 ⟨rfl, hb⟩
          have HAb7 := Lib.hid (HAb6.out.kept hb)
          clear hb
          dsimp only
          go_wp2_with fail
          go_ret
          exact ⟨rfl, HB.out.trans (HAb7.out.below.mono HB.out.size)⟩
  end Go.Proofs.Yteieehjggiiljaa
