/- The builder's calls on a reader. -/
import Derived.Test.YtpolpgghdeljbaaMem
import Derived.Lib.MakeNoZero
import Derived.Laws.IdiomCopy
namespace Go.Proofs.Ytpolpgghdeljbaa
open Go.RowKit Crc

theorem info5 : (Try.prog.info? 5).map (fun i => (i.zero, i.size, i.bytes)) = some (some (.int .u8 0), 1, 1) := by kernel_rfl
theorem cells5 : Try.prog.cellsOf 5 = 1 := by kernel_rfl
variable {w : World} {r : Nat} {p v : Value} {s : Tlv.S}

set_option maxHeartbeats 1000000 in
set_option maxRecDepth 100000 in
theorem len_any (D : Rd w r v s) : Calls Try.prog 20 #[ptr r] w fun e w' => e = .returned (.int .i64 s.1.length) ∧ w = w' := by
  obtain ⟨p, D⟩ := D
  obtain ⟨ao, cap, rfl⟩ := rowF_form D.row
  have c1 := D.c1
  clear D
  go_enter Try.func20, Try.ntmps20
  go_wp2
  go_ret
  exact ⟨rfl, rfl⟩
set_option maxHeartbeats 1000000 in
set_option maxRecDepth 100000 in
theorem reset_any (D : Rd w r v s) : Calls Try.prog 26 #[ptr r] w fun e w' => e = .returned (.tuple #[]) ∧ Rd w' r (.slice none 0 0) ([], s.2) ∧ Turn r w w' v (.slice none 0 0) := by
  obtain ⟨p, D⟩ := D
  obtain ⟨ao, cap, rfl⟩ := rowF_form D.row
  have c0 := D.c0
  have c1 := D.c1
  have f0 := D.free 0
  have f1 := D.free 1
  have D1 := D.write 0 (.pointer none) (.pointer none) _ s rfl D.row D.pv (.inl rfl)
  have D2 := D1.write 1 (.slice none 0 0) (.pointer none) (.slice none 0 0) ([], s.2) rfl (World.ownsRowF_nil _ _ _ _) (by simp [Value.ownBlock]) (.inl rfl)
  have T1 : Turn r w (w.setCell ⟨r, 0, none⟩ (.pointer none)) _ _ := turn_setCell w r 0 (.pointer none) (.slice ao s.1.length cap) (.slice ao s.1.length cap) fun _ h => .inl h
  have T2 := T1.trans (turn_setCell _ r 1 (.slice none 0 0) _ (.slice none 0 0) fun j h => .inl (.inl (h.elim id (fun h => by simp [Value.ownBlock] at h))))
  have HD := Lib.hid D2
  have HT := Lib.hid T2
  clear D D1 D2 T1 T2
  go_enter Try.func26, Try.ntmps26
  go_wp2
  go_end0
  exact ⟨rfl, ⟨_, HD.out⟩, HT.out⟩
/-- Bytes appended: and where they lie. -/
theorem app_str (w : World) (ty : TypeId) (v : Value) (n : Nat) (xs : List Value) (hown : w.ownsRowF 0 5 1 v n xs) (y : ByteArray) (hlen : n + y.size ≤ 140737488355328) :
    ∃ v' w', (Builtin.append_ #[35, 9] ty #[v, .string y]).run Try.prog w = .ok v' w' ∧ w'.ownsRowF 0 5 1 v' (n + y.size) (xs ++ Lib.strCells y) ∧ w.grownBy w' v.ownBlock ∧ (∀ k, v'.ownBlock = some k → v.ownBlock = some k ∨ w.heap.size ≤ k) := by
  obtain ⟨i0, hi, hz0, hz1, hz2⟩ := info_parts info5
  have hm : n + y.size ≤ maxLen := by unfold maxLen; omega
  obtain ⟨v', w', h1, h2, h3, _⟩ := Lib.run_append_own_stringF (P := Try.prog) w 0 35 9 ty 5 i0 Try.underlying35 Try.underlying9 hi hz0 hz1 hz2 v n xs hown y hm hlen (Nat.zero_le _)
  refine ⟨v', w', h1, h2, h3, fun k hk => ?_⟩
  rcases hown.2 with ⟨rfl, rfl⟩ | ⟨g, cap, cur, fz, rfl, hbg, hg, hfz, hnc, hcm, hcs, htake⟩
  · obtain ⟨v2, w2, e1, e2, _, _⟩ := Lib.run_append_own_stringF (P := Try.prog) w w.heap.size 35 9 ty 5 i0 Try.underlying35 Try.underlying9 hi hz0 hz1 hz2 (.slice none 0 0) 0 xs ⟨hown.1, .inl ⟨rfl, rfl⟩⟩ y hm hlen (Nat.le_refl _)
    rw [h1] at e1
    injection e1 with e1 e3
    subst e1 e3
    exact .inr (e2.lt k hk).1
  · by_cases hroom : n + y.size ≤ cap
    · have hr := Lib.run_append_room_stringF (P := Try.prog) w 35 9 ty 5 i0 Try.underlying35 Try.underlying9 hi hz1 g n cap cur fz hg (by simpa using hfz) y hroom (by omega)
      rw [h1] at hr
      injection hr with hr _
      rw [hr] at hk
      exact .inl hk
    · have holds : ∀ j u, xs[j]? = some u → w.cell? ((⟨g, 0, none⟩ : Addr).add j) = some u := hown.cells (g := g) rfl
      have hr := Lib.run_append_grow_string (P := Try.prog) w 35 9 ty 5 i0 (.int .u8 0) Try.underlying35 Try.underlying9 hi hz0 ⟨g, 0, none⟩ n cap xs (by rw [hz1]; simpa using hown.1) holds y (by omega) (by omega) (by rw [hz2]; exact growslice_fits (by omega) (by omega))
      rw [h1] at hr
      injection hr with hr _
      rw [hr] at hk
      injection hk with hk
      have hk' : w.heap.size = k := hk
      exact .inr (by omega)
/-- .. at the operation. -/
theorem at_app_str {ops : Array Oper} {rest : List Oper} {o : Oper} {a : Act} {Q : Exit → Act → World → Prop} {w : World} (hgd : o.guard = none) (sl x : Operand)
    (ho : o.op = .call { callee := .builtin .append, args := #[sl, x], argTypes := #[35, 9] }) (v : Value) (n : Nat) (xs : List Value) (hs : a.eval sl = v) (hown : w.ownsRowF 0 5 1 v n xs) (y : ByteArray) (hx : a.eval x = .string y)
    (hlen : n + y.size ≤ 140737488355328)
    (h : ∀ v' w', w'.ownsRowF 0 5 1 v' (n + y.size) (xs ++ Lib.strCells y) → w.grownBy w' v.ownBlock → (∀ k, v'.ownBlock = some k → v.ownBlock = some k ∨ w.heap.size ≤ k) → wpList Try.prog ops Q rest (a.put o.dst v') w') : wpList Try.prog ops Q (o :: rest) a w := by
  refine wpList_plain hgd fun K hK => ?_
  obtain ⟨v', w', hr, h2, h3, h4⟩ := app_str w o.type v n xs hown y hlen
  unfold Oper.wp execOp
  simp only [ho, resolve, invoke, builtin, Sem.run_bind, Sem.run_pure, Result.andThen_ok, List.map_toArray, List.map_cons, List.map_nil, hs, hx, hr]
  exact hK _ _ (h v' w' h2 h3 h4)

set_option maxHeartbeats 2000000 in
set_option maxRecDepth 100000 in
theorem writeString_any (y : ByteArray) (D : Rd w r v s) (hlen : s.1.length + y.size ≤ 140737488355328) :
    Calls Try.prog 16 #[ptr r, .string y] w fun e w' => e = .returned (.tuple #[.int .i64 y.size, .nilIface]) ∧ ∃ v', Rd w' r v' (s.1 ++ y.data.toList, s.2) ∧ Turn r w w' v v' := by
  obtain ⟨p, D⟩ := D
  have HC := Lib.hid (copyCheck_any r p v s w D)
  clear D
  go_enter Try.func16, Try.ntmps16
  go_wp2_with (go_at_call 25; refine HC.out.mono ?_)
  rintro e w1 ⟨rfl, D1, T1⟩
  have c0 := D1.c0
  have c1 := D1.c1
  have HD := Lib.hid D1
  have HT := Lib.hid T1
  clear D1 T1 HC
  go_wp2_with (at_builtin; refine at_app_str rfl _ _ rfl _ _ _ rfl HD.out.row y rfl hlen ?_)
  intro v' w2 hown' hgrow hat
  have hb2 : w2.heap[r]? = some (.cells (rd (ptr r) v s.2.1 s.2.2) 49 (0, 0)) := by
    rw [hgrow.block r (HD.out.lt (.inl rfl)) (fun e => HD.out.pv e.symm)]
    exact HD.out.cells
  have hne : v'.ownBlock ≠ some r := fun e => (hat r e).elim HD.out.pv (fun h => by have := HD.out.lt (.inl rfl); omega)
  have d0 : w2.cell? ⟨r, 0, none⟩ = some (ptr r) := cell_block hb2 0
  have d1 : w2.cell? ⟨r, 1, none⟩ = some v := cell_block hb2 1
  have f1 : w2.frozen? ⟨r, 1, none⟩ = false := free_block hb2 1
  have hl : (s.1 ++ y.data.toList).length = s.1.length + y.size := by rw [List.length_append, Array.length_toList]; rfl
  have D3 : Rw (w2.setCell ⟨r, 1, none⟩ v') r (ptr r) v' (s.1 ++ y.data.toList, s.2) :=
    ⟨block_setCell hb2 v', rowF_kept (by rw [hl]; simpa [Lib.byteCells, Lib.strCells] using hown') fun j hj => setCell_other w2 r 1 v' (fun e => hne (by rw [hj, e])), .inr rfl⟩
  have T2 : Turn r w1 w2 v v' := ⟨hgrow.os, hgrow.tape, hgrow.output, hgrow.size, fun k hk ho => hgrow.block k hk (fun e => ho (.inr e.symm)), fun k hk => hk.elim (fun e => .inl (.inl e)) (fun e => (hat k e).elim (fun e => .inl (.inr e)) .inr)⟩
  have T3 := (HT.out.trans T2).trans (turn_setCell w2 r 1 v' v' v' fun _ h => .inl h)
  have HD3 := Lib.hid D3
  have HT3 := Lib.hid T3
  obtain ⟨ao, n', cap, rfl⟩ : ∃ ao n' cap, v' = .slice ao n' cap := by
    obtain ⟨ao, cap, e⟩ := rowF_form hown'
    exact ⟨_, _, _, e⟩
  clear D3 T2 T3 HD HT hb2 hne hat hgrow hown' hl
  go_wp2
  go_ret2
  exact ⟨rfl, _, ⟨_, HD3.out⟩, HT3.out⟩
end Go.Proofs.Ytpolpgghdeljbaa
