/- entriesText, over the library's Builder. -/
import Derived.Test.YteieehjggiiljaaRefPrint
import Derived.Test.YteieehjggiiljaaSLays
import Derived.Test.YteieehjggiiljaaIns
import Derived.Shelf.Strings.BuilderK
import Derived.IntWalk
namespace Go.Proofs.Yteieehjggiiljaa
set_option maxRecDepth 100000
open Go.RowKit Go.Less Go.Shelf
attribute [local go_sem 9000] sem_eql sem_neq sem_lss sem_leq sem_gtr sem_geq
/-- A number's lowest byte; a number shifted to the right. Closed. -/
def u8z (n : Int) : UInt8 := UInt8.ofNat (n % 256).toNat
def shn (n : Int) (k : Nat) : Int := n / 2 ^ k
theorem sem_shr64 (t : TypeId) (n k : Int) (h0 : 0 ≤ k) (h63 : k < 64) : binOp .shr t (.int .i64 n) (.int .u64 k) = pure (.int .i64 (shn n k.toNat)) := by
  show Op.shift .shr .i64 n .u64 k = _
  rw [shift_shr_any _ _ _ _ h0]; unfold shn
  show pure (Value.int .i64 (n / ((2 ^ min k.toNat 64 : Nat) : Int))) = _
  rw [Nat.min_eq_left (by omega)]
  congr 2
theorem run_c8 (w : World) (n : Int) : (convert 3 5 (.int .i64 n)).run Try.prog w = .ok (.int .u8 ((u8z n).toNat : Int)) w := by
  have h : (convert 3 5 (.int .i64 n)).run Try.prog w = .ok (.int .u8 (IntKind.u8.wrap n)) w := by rfl
  unfold u8z
  rw [h, IntKind.wrap_u8', UInt8.toNat_ofNat']
  congr 2; omega
theorem u8z_nat (q : Nat) : u8z (q : Int) = UInt8.ofNat q := by
  unfold u8z
  apply UInt8.toNat_inj.1
  rw [UInt8.toNat_ofNat', UInt8.toNat_ofNat']
  omega
theorem u8z_sh (q k : Nat) : u8z (shn (q : Int) k) = UInt8.ofNat (q / 2 ^ k) := by
  unfold shn
  rw [show (q : Int) / 2 ^ k = ((q / 2 ^ k : Nat) : Int) by rw [Int.natCast_ediv, Int.natCast_pow]; rfl, u8z_nat]
attribute [local go_sem 9000] sem_shr64 run_c8
abbrev BA (B : Nat) (bs : List Value) (w : World) : Prop := Lib.BuilderAtF 69 5 B B (.pointer (some ⟨B, 0, none⟩)) bs w
abbrev IB (B : Nat) (bs : List Value) (w : World) : Prop := Lib.IsBuilderF 69 5 B B bs w
theorem at_alloc {B : Nat} {p : Value} {bs : List Value} {w : World} (h : Lib.BuilderAtF 69 5 B B p bs w) (o : Obj) : Lib.BuilderAtF 69 5 B B p bs (w.alloc o) := by
  obtain ⟨hB, v, hbk, hown, hne⟩ := h
  exact ⟨hB, v, (below_one w o).block _ (lt_of_obj hbk) |>.trans hbk, hown.alloc o, hne⟩
theorem ib_alloc {B : Nat} {bs : List Value} {w : World} (h : IB B bs w) (o : Obj) : IB B bs (w.alloc o) := h.elim (fun x => .inl (at_alloc x o)) (fun x => .inr (at_alloc x o))
theorem ib_lt {B : Nat} {bs : List Value} {w : World} (h : IB B bs w) : B < w.heap.size := by
  rcases h with ⟨_, v, h, _⟩ | ⟨_, v, h, _⟩ <;> exact lt_of_obj h
theorem ib_new (w : World) : IB w.heap.size [] (w.alloc (.cells #[.pointer none, .slice none 0 0] 69)) :=
  .inl ⟨Nat.le_refl _, .slice none 0 0, heap_alloc_new w _, World.ownsRowF_of ⟨rfl, .inl ⟨rfl, rfl⟩⟩, fun e => by cases e⟩
set_option maxHeartbeats 2000000 in
theorem write4_any (B : Nat) (bs : List Value) (q : Nat) (c0 c1 c2 c3 : UInt8) (w : World) (h : BA B bs w) (hq : w.heap[q]? = some (.cells #[.int .u8 (c0.toNat : Int), .int .u8 (c1.toNat : Int), .int .u8 (c2.toNat : Int), .int .u8 (c3.toNat : Int)] 5 (0, 0))) (hlen : bs.length + 4 ≤ 140737488355328) (hBw : B ≤ w.heap.size) :
    Calls Try.prog 40 #[.pointer (some ⟨B, 0, none⟩), .slice (some ⟨q, 0, none⟩) 4 4] w fun e w' => e = .returned (.tuple #[.int .i64 4, .nilIface]) ∧ BA B (bs ++ [.int .u8 (c0.toNat : Int), .int .u8 (c1.toNat : Int), .int .u8 (c2.toNat : Int), .int .u8 (c3.toNat : Int)]) w' ∧ Below B w w' := by
  obtain ⟨i0, hi, hz0, hz1, hz2⟩ := info_parts extra.infoByte
  have HCC := Lib.hid (Any.Builder_copyCheck_used { lays166 with } extra.toX72 B w h.cell0)
  obtain ⟨hB, v, hbk, hown, hne⟩ := h
  have c0' : w.cell? ⟨B, 0, none⟩ = some (.pointer (some ⟨B, 0, none⟩)) := by rw [Lib.cell_of_heap hbk]; rfl
  have c1' : w.cell? ⟨B, 1, none⟩ = some v := by rw [Lib.cell_of_heap hbk]; rfl
  have HQ := Lib.hid hq
  have HO := Lib.hid hown
  have HBK := Lib.hid hbk
  clear hq hown hbk
  go_enter Try.func40, Try.ntmps40
  go_wp2_with fail
  refine HCC.out.mono ?_
  rintro e w1 ⟨rfl, rfl⟩
  dsimp only
  go_wp2_with (first | (at_builtin; refine wpList_append_ownF _ rfl _ _ 51 rfl B 5 i0 (.int .u8 0) 1 1 Try.underlying51 hi hz0 hz1 hz2 rfl (by decide) _ _ _ rfl HO.out ⟨q, 0, none⟩ 4 4 [.int .u8 (c0.toNat : Int), .int .u8 (c1.toNat : Int), .int .u8 (c2.toNat : Int), .int .u8 (c3.toNat : Int)] rfl rfl ?c1 ?c2 ?c3 ?c4 ?c5 ?_) | fail)
  case c1 =>
    intro j u hj
    rw [Go.WideShapes.add_plain, Nat.zero_add, cell_obj HQ.out]
    match j with
    | 0 => exact hj
    | 1 => exact hj
    | 2 => exact hj
    | 3 => exact hj
    | j + 4 => simp at hj
  case c2 => intro u hu; simp at hu; rcases hu with rfl | rfl | rfl | rfl <;> rfl
  case c3 => unfold maxLen; omega
  case c4 => omega
  case c5 => exact hBw
  intro v' w2 hown' hgrow _
  have hlt := lt_of_obj HBK.out
  have hb2 : w2.heap[B]? = some (.cells #[.pointer (some ⟨B, 0, none⟩), v] 69 (0, 0)) := by
    rw [hgrow.block B hlt (fun e => hne e.symm)]; exact HBK.out
  have d0 : w2.cell? ⟨B, 0, none⟩ = some (.pointer (some ⟨B, 0, none⟩)) := by rw [Lib.cell_of_heap hb2]; rfl
  have d1 : w2.cell? ⟨B, 1, none⟩ = some v := by rw [Lib.cell_of_heap hb2]; rfl
  have f1 : w2.frozen? ⟨B, 1, none⟩ = false := Lib.frozen_of_heap hb2 1
  obtain ⟨ao, n', cap, rfl⟩ : ∃ ao n' cap, v' = .slice ao n' cap := by
    rcases hown'.2 with ⟨hv, _⟩ | ⟨g, cap, cur, fz, hv, _⟩
    · exact ⟨_, _, _, hv⟩
    · exact ⟨_, _, _, hv⟩
  go_wp2_with fail
  go_ret2
  refine ⟨rfl, ?_, ?_⟩
  · exact Lib.BuilderAtF.put (T := 69) (e := 5) hB hb2 (by simpa using hown') extra.neB5
  · exact ((Below.refl B w1).grown hgrow hBw (fun k hk => (HO.out.lt k hk).1)).setCell (p := ⟨B, 1, none⟩) hB _
/-- Entries' texts, one behind the other. Closed. -/
def flat (l : List En) : List UInt8 := (l.map Nd.entText).flatten
theorem flat_snoc (l : List En) (x : En) : flat (l ++ [x]) = flat l ++ Nd.entText x := by unfold flat; simp
theorem flat_len {l : List En} (h : ∀ x ∈ l, x.1.size ≤ 16) : (flat l).length ≤ 21 * l.length := by
  induction l using Nd.snoc_rec with
  | nil => exact Nat.le_refl _
  | append_singleton l x ih =>
    have h1 := ih (fun y hy => h y (by simp [hy]))
    have h2 := h x (by simp)
    rw [flat_snoc, List.length_append, List.length_append, List.length_singleton]
    have h3 : (Nd.entText x).length = x.1.size + 5 := by
      unfold Nd.entText
      rw [List.length_cons, List.length_append, Nd.len_bs]; rfl
    omega
theorem cells_ent (bs : List Value) (y : ByteArray) (q : Nat) :
    ((bs ++ [.int .u8 ((u8z (y.size : Int)).toNat : Int)]) ++ Lib.strCells y) ++ [.int .u8 ((u8z (shn (q : Int) 24)).toNat : Int), .int .u8 ((u8z (shn (q : Int) 16)).toNat : Int), .int .u8 ((u8z (shn (q : Int) 8)).toNat : Int), .int .u8 ((u8z (q : Int)).toNat : Int)] = bs ++ Lib.byteCells (Nd.entText (y, (q : Int))) := by
  rw [u8z_sh, u8z_sh, u8z_sh, u8z_nat, u8z_nat]
  simp only [Nd.entText, Nd.n4, Int.toNat_natCast, Lib.byteCells, Lib.strCells, Nd.bs, List.append_assoc, List.map_cons, List.map_append, List.map_nil, List.cons_append, List.nil_append]
set_option maxHeartbeats 4000000 in
theorem entriesText_any (a : Option Addr) (n cap : Nat) (l : List En) (w : World) (hE : Ents a n l w) (hn : n ≤ 64) (hs : ∀ x ∈ l, x.1.size ≤ 16 ∧ 0 ≤ x.2 ∧ x.2 ≤ 2147483647) :
    Calls Try.prog 23 #[.slice a n cap] w fun e w' => e = .returned (.string (lstr (flat l))) ∧ Below w.heap.size w w' := by
  have HNL := Lib.hid hE.count
  have hni : (n : Int) ≤ 64 := by omega
  have HE := Lib.hid (fun W (hb : Below w.heap.size w W) => hE.below hb)
  have HS := Lib.hid hs
  clear hE hs
  go_enter Try.func23, Try.ntmps23
  go_wp2_with fail
  go_loopw [8] (fun i wr => (∃ j : Nat, j ≤ n ∧ i = .int .i64 j ∧ Hid (IB w.heap.size (Lib.byteCells (flat (l.take j))) wr)) ∧ Below w.heap.size w wr) (fun i _ => n - (intOf i).toNat)
  case atStart => exact ⟨⟨0, Nat.zero_le _, rfl, ib_new w⟩, below_one w _⟩
  case round =>
    obtain ⟨⟨j, hj, rfl, HI⟩, hb⟩ := hrel
    have HB := Lib.hid hb
    by_cases hlt : j < n
    · have j0 : (j : Int) < (n : Int) := by omega
      have hj0 : (0 : Int) ≤ (j : Int) := by omega
      have hjl : j < l.length := by rw [← HNL.out]; exact hlt
      obtain ⟨b, off, rfl, c0, c1⟩ := (HE.out _ hb).cell j hlt
      have hz := HS.out (l.getD j z0) (by rw [List.getD, List.getElem?_eq_getElem hjl]; exact List.getElem_mem hjl)
      have HT := Lib.hid (take_snoc hjl z0)
      have hfl : (flat (l.take j)).length ≤ 2000 := by
        have h1 := flat_len (l := l.take j) (fun x hx => (HS.out x (List.mem_of_mem_take hx)).1)
        rw [List.length_take] at h1
        omega
      have hfl2 : (Lib.byteCells (flat (l.take j))).length ≤ 2000 := by rw [Lib.byteCells, List.length_map]; exact hfl
      have HFl := Lib.hid hfl2
      have HA := Lib.hid (show Lib.byteCells (flat (l.take (j + 1))) = Lib.byteCells (flat (l.take j)) ++ Lib.byteCells (Nd.entText (l.getD j z0)) by rw [HT.out, flat_snoc]; simp [Lib.byteCells])
      clear hfl hfl2
      generalize l.getD j z0 = x at c0 c1 hz HA HT
      obtain ⟨y, i⟩ := x
      dsimp only at c0 c1 hz
      obtain ⟨q, rfl⟩ : ∃ q : Nat, i = q := ⟨i.toNat, by omega⟩
      have HC := Lib.hid (cells_ent (Lib.byteCells (flat (l.take j))) y q)
      generalize Lib.byteCells (flat (l.take j)) = bs at *
      have hy16 := hz.1
      have hltB := ib_lt HI.out
      have HIa := Lib.hid (ib_alloc HI.out (oc (y, (q : Int))))
      have HNw := Lib.hid (heap_alloc_new wr (oc (y, (q : Int))))
      have HBA := Lib.hid (show Below w.heap.size w (wr.alloc (oc (y, (q : Int)))) from hb.alloc hb.size _)
      clear hz hjl HI
      go_wp2_with fail
      refine (Any.Builder_WriteByte_k lays167 extra w.heap.size w.heap.size bs _ _ HIa.out (Nat.le_trans (Nat.succ_le_succ HFl.out) (by decide)) HBA.out.size).mono ?_
      rintro e w2 ⟨rfl, hA2, hb2, hk2⟩
      have HN2 := Lib.hid (hk2 _ _ HNw.out (fun e => by injection e with e; omega) (fun c fz e => by cases e))
      have HB2 := Lib.hid (HBA.out.trans hb2)
      have HA2 := Lib.hid hA2
      have e2 : w2.cell? ⟨wr.heap.size, 0, none⟩ = some (.string y) := cell_obj HN2.out 0
      clear hA2 hb2 hk2
      dsimp only
      go_wp2_with fail
      refine (Any.Builder_WriteString_k lays166 extra w.heap.size w.heap.size _ y _ (.inr HA2.out) (by rw [List.length_append, List.length_singleton]; exact Nat.le_trans (Nat.add_le_add (Nat.succ_le_succ HFl.out) hy16) (by decide)) HB2.out.size).mono ?_
      rintro e w3 ⟨rfl, hA3, hb3, hk3⟩
      have HN3 := Lib.hid (hk3 _ _ HN2.out (fun e => by injection e with e; omega) (fun c fz e => by cases e))
      have HB3 := Lib.hid (HB2.out.trans hb3)
      have HA3 := Lib.hid hA3
      have e3 : w3.cell? ⟨wr.heap.size, 1, none⟩ = some (.int .i64 (q : Int)) := cell_obj HN3.out 1
      clear hA3 hb3 hk3 e2
      dsimp only
      go_wp2_with fail
      refine (write4_any w.heap.size _ w3.heap.size _ _ _ _ _ (at_alloc HA3.out _) (heap_alloc_new w3 _) (by rw [List.length_append, List.length_append, List.length_singleton, Lib.strCells_length]; exact Nat.le_trans (Nat.add_le_add_right (Nat.add_le_add (Nat.succ_le_succ HFl.out) hy16) 4) (by decide)) (Nat.le_trans HB3.out.size (below_one w3 _).size)).mono ?_
      rintro e w4 ⟨rfl, hA4, hb4⟩
      rw [HC.out] at hA4
      have HA4 := Lib.hid hA4
      have HB4 := Lib.hid ((HB3.out.alloc HB3.out.size (.cells #[.int .u8 ((u8z (shn (q : Int) 24)).toNat : Int), .int .u8 ((u8z (shn (q : Int) 16)).toNat : Int), .int .u8 ((u8z (shn (q : Int) 8)).toNat : Int), .int .u8 ((u8z (q : Int)).toNat : Int)] 5)).trans hb4)
      clear hA4 hb4
      dsimp only
      go_wp2_with fail
      go_roundw
      case rel => exact ⟨⟨j + 1, by omega, by go_num, by rw [HA.out]; exact .inr HA4.out⟩, HB4.out⟩
      case measure => simp [intOf]; omega
    · obtain rfl : j = n := by omega
      have HI2 := Lib.hid HI.out
      rw [show l.take j = l by rw [HNL.out, List.take_length]] at HI2
      clear hb HI
      go_wp2_with fail
      refine (Any.Builder_String_any_k lays169 extra w.heap.size w.heap.size (flat l) _ HI2.out HB.out.size).mono ?_
      rintro e w2 ⟨rfl, _, hb2, _⟩
      have HB2 := Lib.hid (HB.out.trans hb2)
      clear hb2
      dsimp only
      go_wp2_with fail
      go_ret
      exact ⟨rfl, HB2.out⟩
end Go.Proofs.Yteieehjggiiljaa
