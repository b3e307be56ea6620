/- put, at some bytes. -/
import Derived.Test.YtnapjloapgfcfaaDoorFiles
namespace Go.Proofs.YtnapjloapgfcfaaDoor
set_option maxRecDepth 100000
open Go.RowKit Sha
theorem str_isEmpty {d : ByteArray} (h : 0 < d.size) : d.toList.isEmpty = false := by
  rw [Lib.toList_data]
  cases hd : d.data.toList with
  | nil => have : d.data.toList.length = d.size := Array.length_toList
           rw [hd] at this; simp at this; omega
  | cons _ _ => rfl
theorem str_isEmpty0 {d : ByteArray} (h : d.size = 0) : d.toList.isEmpty = true := by
  rw [str_empty h, Lib.toList_data]; rfl
/-- The end of it: the bytes are laid. -/
def PutEnd (s d : List UInt8) (o M : Nat) (w : World) : Prop := ∀ (w1 : World) (g : Nat), w.heap.size ≤ g → Bfile g (Chk.trunc s M) w1 → Below w.heap.size w w1 → ∃ w2, (Builtin.copy_ #[48, 9] 3 #[.slice (some ⟨g, o, none⟩) (M - o) (M - o), .string (lstr d)]).run Tryd.prog w1 = .ok (goInt d.length) w2 ∧ (convert 48 9 (.slice (some ⟨g, 0, none⟩) M M)).run Tryd.prog w2 = .ok (.string (lstr (Chk.put s o d))) w2 ∧ Below w.heap.size w w2
theorem put_end {s d : List UInt8} {o M : Nat} (w : World) (hd : d ≠ []) (hM : max s.length (o + d.length) = M) : PutEnd s d o M w := by
  intro w1 g hg hf hw
  have hl : (lstr d).size = d.length := lstr_size d
  have hoM : o + d.length ≤ M := by omega
  have hcp := run_copy8 w1 g o (M - o) (M - o) d.length 3 _ (lstr d) hf (by rw [hl]; omega) (by rw [Chk.trunc_length]; omega)
  rw [lstr_data, List.take_length, show laid (Chk.trunc s M) o d = Chk.put s o d from by rw [← hM]; exact put_laid hd] at hcp
  have hf2 := bfile_laid (o := o) d hf
  rw [show laid (Chk.trunc s M) o d = Chk.put s o d from by rw [← hM]; exact put_laid hd] at hf2
  exact ⟨_, hcp, hf2.text M (by rw [Chk.put_length hd, hM]) M, below_setRow hw hg _⟩
set_option maxHeartbeats 1000000 in
theorem put_some (s : ByteArray) (o : Nat) (d : ByteArray) (w : World) (hs : s.size ≤ 1000000) (h3 : 0 < d.size) (hos : o + d.size ≤ 4096) (HR : Hid (putR s.data.toList (o : Int) d.data.toList = (Chk.put s.data.toList o d.data.toList, 0))) :
    Calls Tryd.prog 9 #[.string s, .int .i64 (o : Int), .string d] w (Both (putR s.data.toList (o : Int) d.data.toList) w) := by
  have hdl : d.data.toList.length = d.size := Array.length_toList
  have hsl : s.data.toList.length = s.size := Array.length_toList
  have hne : d.toList.isEmpty = false := str_isEmpty h3
  have hdne : d.data.toList ≠ [] := fun e => by
    have h := congrArg List.length e
    rw [hdl] at h
    exact absurd h (by show ¬ d.size = 0; omega)
  obtain ⟨M, hM⟩ : ∃ M, max s.size (o + d.size) = M := ⟨_, rfl⟩
  have HX := Lib.hid (sized_any s M w (by omega))
  have HE := Lib.hid (put_end (s := s.data.toList) (d := d.data.toList) (o := o) (M := M) w hdne (by rw [hsl, hdl]; exact hM))
  unfold PutEnd at HE
  rw [show lstr d.data.toList = d from rfl, hdl] at HE
  have hoM : (o : Int) ≤ (M : Int) := by omega
  have hoM1 : ¬ o = M := by omega
  have hoM2 : ¬ (o : Int) = (M : Int) := by omega
  have hoM3 : o < M := by omega
  have hos1 : (o : Int) ≤ 4096 - (d.size : Int) := by omega
  have hos0 : (0 : Int) ≤ (o : Int) := by omega
  have hds : (d.size : Int) ≤ 4096 := by omega
  have hM1 : max (s.size : Int) ((o : Int) + (d.size : Int)) = (M : Int) := by omega
  clear hsl hdl hdne hM hos h3 hs
  go_enter Tryd.func9, Tryd.ntmps9
  go_wp2_with fail
  refine HX.out.mono ?_
  rintro e w1 ⟨g, hg, rfl, hf, hw⟩
  obtain ⟨w2, hcp, hcv, hB⟩ := HE.out w1 g hg hf hw
  have HB := Lib.hid hB
  clear hf hw hB HE HX hM1
  generalize Chk.put s.data.toList o d.data.toList = l at hcv HR
  dsimp only
  go_wp2_with fail

  go_ret2
  show Both (putR s.data.toList (o : Int) d.data.toList) w _ _
  rw [HR.out]
  exact ⟨rfl, HB.out⟩
end Go.Proofs.YtnapjloapgfcfaaDoor
