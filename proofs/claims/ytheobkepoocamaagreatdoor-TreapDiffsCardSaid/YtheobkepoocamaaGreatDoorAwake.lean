/- The law's awake. -/
import Derived.Test.YtheobkepoocamaaGreatDoorOf
import Derived.Test.YtheobkepoocamaaGreatDoorShared
namespace Go.Proofs.YtheobkepoocamaaGreatDoor
set_option maxRecDepth 100000
open Go.RowKit Go.Less
attribute [local go_sem 9000] sem_eql sem_neq sem_lss sem_leq sem_gtr sem_geq
abbrev v1 : ByteArray := ⟨#[49]⟩
abbrev v2 : ByteArray := ⟨#[50]⟩
/-- The two pairs. Closed to the walk's simp. -/
def L2 : List Pr := [(ka, v1), (kb, v2)]
theorem less_ba : less kb ka = false := rising.asym less_ab
theorem ne_ab : ka ≠ kb := rising.ne less_ab
theorem put_ab : Tr.put less (Tr.put less [] ka v1) kb v2 = L2 := by
  show Tr.put less [(ka, v1)] kb v2 = _
  simp only [Tr.put, less_ab, if_true]; rfl
theorem put_ba : Tr.put less (Tr.put less [] kb v2) ka v1 = L2 := by
  show Tr.put less [(kb, v2)] ka v1 = _
  simp only [Tr.put, less_ba, Bool.false_eq_true, if_false]
  rw [Tr.del_none (fun y hy => by rw [List.mem_singleton.1 hy]; exact ne_ab.symm)]; rfl
theorem del_a : Tr.del L2 ka = [(kb, v2)] := by
  unfold L2 Tr.del
  simp [ne_ab.symm]
theorem get_b : Tr.get L2 kb = some v2 := by
  unfold L2
  simp [Tr.get]
theorem diff_a : Tr.diff less L2 [(kb, v2)] = [ka] := by
  unfold L2
  rw [Tr.diff_lt less _ _ less_ab, Tr.diff_eq less _ _ (rising.irr _) (rising.irr _) rfl, Tr.diff_nn]
theorem name_size : (nm (cn L2)).size = 32 := by
  unfold L2
  rw [← two_cn less_ab]
  unfold two_tree
  split <;> rfl
theorem cnt_self (xs : List ByteArray) : cnt xs xs = xs.length := by
  unfold cnt
  rw [List.filter_eq_self.2 fun a ha => amid_iff.2 ha]
theorem shared_two : cnt (snames L2) (snames L2) = 2 := by
  rw [cnt_self]
  unfold snames
  rw [List.length_map, Tr.T.subs_len, cn_len]; rfl
/-- What lies there when the answers are held. -/
structure Wide (w : World) (ma mb mc md : Option Nat) (g : Nat) (W : World) : Prop where
  a : Rp W ma L2
  b : Rp W mb L2
  c : Rp W mc L2
  d : Rp W md [(kb, v2)]
  k : W.cell? ⟨g, 0, none⟩ = some (.string ka)
  below : Below w.heap.size w W
theorem Wide.kept {w W W' : World} {ma mb mc md : Option Nat} {g : Nat} (h : Wide w ma mb mc md g W) (hb : Below W.heap.size W W') : Wide w ma mb mc md g W' :=
  ⟨h.a.below hb, h.b.below hb, h.c.below hb, h.d.below hb, (hb.cell (p := ⟨g, 0, none⟩) (block_lt_of_cell h.k)).trans h.k, btrans hb h.below⟩
theorem row_one {w : World} {base : Nat} {ao : Option Addr} {cap : Nat} {x : ByteArray} (h : w.ownsRow base 9 1 (.slice ao 1 cap) 1 [.string x]) : ∃ g, ao = some ⟨g, 0, none⟩ ∧ w.cell? ⟨g, 0, none⟩ = some (.string x) := by
  have h2 := h
  obtain ⟨hl, ⟨e, h0⟩ | ⟨g, cap', cur, e, _⟩⟩ := h
  · omega
  · injection e with e1 e2 e3
    subst e1
    exact ⟨g, rfl, by rw [World.ownsRow.cellAt h2 0 (by simp)]; rfl⟩
set_option maxHeartbeats 8000000 in
theorem awake_any (w : World) (hD : Dg w) : Calls Tryz.prog 4 #[] w fun e w' => e = .returned (.bool true) ∧ Below w.heap.size w w' := by
  have HD := Lib.hid hD
  have HPa := Lib.hid (fun W (hD : Dg W) => (show Calls Tryz.prog 12 #[.pointer none, .string ka, .string v1] W (Mapped [(ka, v1)] W) from mput_any (rp_nil W) hD (by decide) ka v1 (by decide) (by decide)))
  have HPb := Lib.hid (fun W (hD : Dg W) => (show Calls Tryz.prog 12 #[.pointer none, .string kb, .string v2] W (Mapped [(kb, v2)] W) from mput_any (rp_nil W) hD (by decide) kb v2 (by decide) (by decide)))
  have HPab := Lib.hid (fun W m (h : Rp W m [(ka, v1)]) (hD : Dg W) => (show Calls Tryz.prog 12 #[pv m, .string kb, .string v2] W (Mapped L2 W) from put_ab ▸ mput_any h hD (by decide) kb v2 (by decide) (by decide)))
  have HPba := Lib.hid (fun W m (h : Rp W m [(kb, v2)]) (hD : Dg W) => (show Calls Tryz.prog 12 #[pv m, .string ka, .string v1] W (Mapped L2 W) from put_ba ▸ mput_any h hD (by decide) ka v1 (by decide) (by decide)))
  clear hD
  go_enter Tryz.func4, Tryz.ntmps4
  go_wp2_with fail
  refine (HPa.out _ HD.out).mono ?_
  rintro e w1 ⟨m1, rfl, h1, hw1⟩
  have HD1 := Lib.hid (HD.out.below hw1)
  dsimp only
  go_wp2_with fail
  refine (HPab.out _ _ h1 HD1.out).mono ?_
  rintro e w2 ⟨ma, rfl, ha2, hw2⟩
  have HW2 := Lib.hid (btrans hw2 hw1)
  have HD2 := Lib.hid (HD1.out.below hw2)
  have HA2 := Lib.hid ha2
  clear h1 hw1 hw2 ha2
  dsimp only
  go_wp2_with fail
  refine (HPb.out _ HD2.out).mono ?_
  rintro e w3 ⟨m3, rfl, h3, hw3⟩
  have HD3 := Lib.hid (HD2.out.below hw3)
  dsimp only
  go_wp2_with fail
  refine (HPba.out _ _ h3 HD3.out).mono ?_
  rintro e w4 ⟨mb, rfl, hb4, hw4⟩
  have hw24 := btrans hw4 hw3
  have HW4 := Lib.hid (btrans hw24 HW2.out)
  have HD4 := Lib.hid (HD3.out.below hw4)
  have HA4 := Lib.hid (HA2.out.below hw24)
  have HB4 := Lib.hid hb4
  clear h3 hw3 hw4 hb4 hw24
  dsimp only
  go_wp2_with fail
  refine (mget_there HA4.out kb v2 get_b).mono ?_
  rintro e w5 ⟨rfl, hw5⟩
  have HW5 := Lib.hid (btrans hw5 HW4.out)
  have HD5 := Lib.hid (HD4.out.below hw5)
  have HA5 := Lib.hid (HA4.out.below hw5)
  have HB5 := Lib.hid (HB4.out.below hw5)
  clear hw5
  dsimp only
  go_wp2_with fail
  -- Of
  have hB6 := balloc (.cells #[.string v1, .string v2] 9) (below_one w5 (.cells #[.string ka, .string kb] 9))
  have s1 : (w5.alloc (.cells #[.string ka, .string kb] 9)).heap.size = w5.heap.size + 1 := by simp
  have k0 : ((w5.alloc (.cells #[.string ka, .string kb] 9)).alloc (.cells #[.string v1, .string v2] 9)).cell? ⟨w5.heap.size, 0, none⟩ = some (.string ka) := by go_simp
  have k1 : ((w5.alloc (.cells #[.string ka, .string kb] 9)).alloc (.cells #[.string v1, .string v2] 9)).cell? ⟨w5.heap.size, 1, none⟩ = some (.string kb) := by go_simp
  have d0 : ((w5.alloc (.cells #[.string ka, .string kb] 9)).alloc (.cells #[.string v1, .string v2] 9)).cell? ⟨w5.heap.size + 1, 0, none⟩ = some (.string v1) := by go_simp
  have d1 : ((w5.alloc (.cells #[.string ka, .string kb] 9)).alloc (.cells #[.string v1, .string v2] 9)).cell? ⟨w5.heap.size + 1, 1, none⟩ = some (.string v2) := by go_simp
  refine (of_two k0 k1 d0 d1 (HD5.out.below hB6) (by decide) (by decide)).mono ?_
  rintro e w6 ⟨mc, rfl, hc6, hw6⟩
  have hw56 := btrans hw6 hB6
  have HW6 := Lib.hid (btrans hw56 HW5.out)
  have HA6 := Lib.hid (HA5.out.below hw56)
  have HB6 := Lib.hid (HB5.out.below hw56)
  have HC6 := Lib.hid (show Rp w6 mc L2 from hc6)
  have HD6 := Lib.hid (HD5.out.below hw56)
  clear hB6 s1 k0 k1 d0 d1 hc6 hw6 hw56
  dsimp only
  go_wp2_with fail
  refine (of_wrong _ _ _).mono ?_
  rintro e w7 ⟨rfl, rfl⟩
  have hw7 := below_one w6 (.cells #[.string ka] 9)
  generalize w6.alloc (.cells #[.string ka] 9) = w7 at hw7 ⊢
  have HW7 := Lib.hid (btrans hw7 HW6.out)
  have HA7 := Lib.hid (HA6.out.below hw7)
  have HB7 := Lib.hid (HB6.out.below hw7)
  have HC7 := Lib.hid (HC6.out.below hw7)
  have HD7 := Lib.hid (HD6.out.below hw7)
  clear hw7
  dsimp only
  go_wp2_with fail
  have HDel := Lib.hid (show Calls Tryz.prog 15 #[pv ma, .string ka] w7 (Mapped [(kb, v2)] w7) from del_a ▸ mdel_any HA7.out HD7.out (by decide) ka)
  refine HDel.out.mono ?_
  rintro e w8 ⟨md, rfl, hd8, hw8⟩
  have HW8 := Lib.hid (btrans hw8 HW7.out)
  have HA8 := Lib.hid (HA7.out.below hw8)
  have HB8 := Lib.hid (HB7.out.below hw8)
  have HC8 := Lib.hid (HC7.out.below hw8)
  have HM8 := Lib.hid hd8
  clear HDel hd8 hw8
  dsimp only
  go_wp2_with fail
  have HDiff := Lib.hid (show Calls Tryz.prog 8 #[pv ma, pv md] w8 (Textual [ka] w8) from diff_a ▸ diff_any HA8.out HM8.out (by decide) (by decide))
  refine HDiff.out.mono ?_
  rintro e w9 ⟨ao, cap, rfl, ho9, hw9⟩
  obtain ⟨g, rfl, hk9⟩ := row_one ho9
  have HW := Lib.hid (show Wide w ma mb mc md g w9 from ⟨HA8.out.below hw9, HB8.out.below hw9, HC8.out.below hw9, HM8.out.below hw9, hk9, btrans hw9 HW8.out⟩)
  clear HDiff ho9 hk9 hw9
  have hns : (nm (cn L2)).size = 32 := name_size
  have hnz : alike (nm (cn L2)) (nm (cn L2)) = true := alike_eq.2 rfl
  have hv2 : alike v2 v2 = true := alike_eq.2 rfl
  have hka : alike ka ka = true := alike_eq.2 rfl
  have he0 : alike ⟨#[]⟩ ⟨#[]⟩ = true := alike_eq.2 rfl
  have HSH := Lib.hid (fun W (h : Wide w ma mb mc md g W) => (show Calls Tryz.prog 10 #[pv ma, pv mb] W fun e W' => e = .returned (.int .i64 2) ∧ Below W.heap.size W W' from (shared_any h.a h.b (by decide) (by decide)).mono fun e w' ⟨h1, h2⟩ => ⟨by rw [h1, shared_two]; rfl, h2⟩))
  have HNa := Lib.hid (fun W (h : Wide w ma mb mc md g W) => mname_any h.a)
  have HNb := Lib.hid (fun W (h : Wide w ma mb mc md g W) => mname_any h.b)
  have HNc := Lib.hid (fun W (h : Wide w ma mb mc md g W) => mname_any h.c)
  have HNn := Lib.hid (fun W => (show Calls Tryz.prog 16 #[.pointer none] W fun e W' => e = .returned (.string ⟨#[]⟩) ∧ Below W.heap.size W W' from mname_any (rp_nil W)))
  have HLn := Lib.hid (fun W => (show Calls Tryz.prog 17 #[.pointer none] W fun e W' => e = .returned (.int .i64 0) ∧ Below W.heap.size W W' from mlen_any (rp_nil W)))
  have HLd := Lib.hid (fun W (h : Wide w ma mb mc md g W) => (show Calls Tryz.prog 17 #[pv md] W fun e W' => e = .returned (.int .i64 1) ∧ Below W.heap.size W W' from mlen_any h.d))
  have HLa := Lib.hid (fun W (h : Wide w ma mb mc md g W) => (show Calls Tryz.prog 17 #[pv ma] W fun e W' => e = .returned (.int .i64 2) ∧ Below W.heap.size W W' from mlen_any h.a))
  generalize nm (cn L2) = z at *
  clear HW2 HW4 HW5 HW6 HW7 HW8 HD HD1 HD2 HD3 HD4 HD5 HD6 HD7 HA2 HA4 HA5 HA6 HA7 HA8 HB4 HB5 HB6 HB7 HB8 HC6 HC7 HC8 HM8 HPa HPb HPab HPba
  dsimp only
  go_wp2_with fail
  refine (HNa.out _ HW.out).mono ?_
  rintro e w10 ⟨rfl, hw⟩
  have HX10 := Lib.hid (HW.out.kept hw)
  clear hw
  dsimp only
  go_wp2_with fail
  refine (HNb.out _ HX10.out).mono ?_
  rintro e w11 ⟨rfl, hw⟩
  have HX11 := Lib.hid (HX10.out.kept hw)
  clear hw
  dsimp only
  go_wp2_with fail
  refine (HNa.out _ HX11.out).mono ?_
  rintro e w12 ⟨rfl, hw⟩
  have HX12 := Lib.hid (HX11.out.kept hw)
  clear hw
  dsimp only
  go_wp2_with fail
  refine (HNc.out _ HX12.out).mono ?_
  rintro e w13 ⟨rfl, hw⟩
  have HX13 := Lib.hid (HX12.out.kept hw)
  clear hw
  dsimp only
  go_wp2_with fail
  refine (HNa.out _ HX13.out).mono ?_
  rintro e w14 ⟨rfl, hw⟩
  have HX14 := Lib.hid (HX13.out.kept hw)
  clear hw
  dsimp only
  go_wp2_with fail
  refine (HLd.out _ HX14.out).mono ?_
  rintro e w15 ⟨rfl, hw⟩
  have HX15 := Lib.hid (HX14.out.kept hw)
  clear hw
  dsimp only
  go_wp2_with fail
  refine (HLa.out _ HX15.out).mono ?_
  rintro e w16 ⟨rfl, hw⟩
  have HX16 := Lib.hid (HX15.out.kept hw)
  clear hw
  have hk9 := HX16.out.k
  dsimp only
  go_wp2_with fail
  refine (HSH.out _ HX16.out).mono ?_
  rintro e w17 ⟨rfl, hw⟩
  have HX17 := Lib.hid (HX16.out.kept hw)
  clear hw
  dsimp only
  go_wp2_with fail
  refine (HNn.out _).mono ?_
  rintro e w18 ⟨rfl, hw⟩
  have HX18 := Lib.hid (HX17.out.kept hw)
  clear hw
  dsimp only
  go_wp2_with fail
  refine (HLn.out _).mono ?_
  rintro e w19 ⟨rfl, hw⟩
  have HX19 := Lib.hid (HX18.out.kept hw)
  clear hw
  dsimp only
  go_wp2_with fail
  go_ret
  exact ⟨rfl, HX19.out.below⟩
end Go.Proofs.YtheobkepoocamaaGreatDoor
