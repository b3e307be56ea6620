/- Does a text hold one of 47 and 0? strings.IndexAny, strings.ContainsAny at that set. -/
import Derived.Test.YteieehjggiiljaaRune
import Derived.Test.YteieehjggiiljaaSLays
import Derived.Lib.OthersKept
namespace Go.Proofs.Yteieehjggiiljaa
set_option maxRecDepth 1000000
open Go.RowKit
theorem two_wide {n : Nat} (h : 128 ≤ n) : two n = false := by
  unfold two
  rw [Bool.or_eq_false_iff, beq_eq_false_iff_ne, beq_eq_false_iff_ne]
  omega
theorem rune_any (n : Nat) (hn : n < 128 ∨ (128 ≤ n ∧ Utf8.valid (n : Int) = true)) (w : World) : Calls Try.prog 55 #[.string ⟨#[47, 0]⟩, .int .i32 (n : Int)] w fun e w' => (∃ z : Int, e = .returned (.int .i64 z) ∧ (0 ≤ z ↔ two n = true)) ∧ Below w.heap.size w w' := by
  rcases hn with h | ⟨h, hv⟩
  · exact rune_low n h w
  · have ht : ∀ z : Int, z < 0 → (0 ≤ z ↔ two n = true) := fun z hz => by rw [two_wide h]; constructor; (intro h5; omega); (intro h5; cases h5)
    by_cases he : n = 65533
    · subst he
      exact (rune_err w).mono fun e w' h5 => by obtain ⟨⟨z, h6, h7⟩, h8⟩ := h5; exact ⟨⟨z, h6, ht z h7⟩, h8⟩
    · exact (rune_wide n h hv he w).mono fun e w' h5 => by obtain ⟨⟨z, h6, h7⟩, h8⟩ := h5; exact ⟨⟨z, h6, ht z h7⟩, h8⟩
/-- None of the first bytes. -/
def NoTwo (s : ByteArray) (i : Nat) : Prop := ∀ j, j < i → two (s.get! j).toNat = false
theorem get_in {s : ByteArray} {i : Nat} (h : i < s.size) : s.get! i = s[i]'h := by
  have := get_at s i h
  rwa [Nat.add_zero] at this
/-- What is decoded at a place. -/
theorem dec_kind {s : ByteArray} {i : Nat} (h : i < s.size) : ((Utf8.decode s i).1 < 128 ∨ (128 ≤ (Utf8.decode s i).1 ∧ Utf8.valid ((Utf8.decode s i).1 : Int) = true)) ∧ 1 ≤ (Utf8.decode s i).2 ∧ i + (Utf8.decode s i).2 ≤ s.size := by
  by_cases ha : (s[i]'h).toNat < 128
  · rw [decode_ascii s i h ha]; exact ⟨.inl ha, Nat.le_refl _, h⟩
  · have ha : 128 ≤ (s[i]'h).toNat := by omega
    have h1 := decode_high s i h ha
    have h2 := decode_wide s i h ha
    exact ⟨.inr ⟨h1.1, h2.2.2⟩, h1.2, h2.1⟩
theorem dec_hit {s : ByteArray} {i : Nat} (h : i < s.size) (ht : two (Utf8.decode s i).1 = true) : two (s.get! i).toNat = true := by
  by_cases ha : (s[i]'h).toNat < 128
  · rw [decode_ascii s i h ha] at ht; rw [get_in h]; exact ht
  · have h1 := decode_high s i h (by omega)
    rw [two_wide h1.1] at ht; cases ht
theorem dec_step {s : ByteArray} {i : Nat} (h : i < s.size) (hN : NoTwo s i) (ht : two (Utf8.decode s i).1 = false) : NoTwo s (i + (Utf8.decode s i).2) := by
  intro j hj
  rcases Nat.lt_or_ge j i with h1 | h1
  · exact hN j h1
  by_cases ha : (s[i]'h).toNat < 128
  · rw [decode_ascii s i h ha] at ht hj
    have hj : j < i + 1 := hj
    obtain rfl : j = i := by omega
    rw [get_in h]; exact ht
  · have h2 := decode_wide s i h (by omega)
    have h3 := h2.2.1 (j - i) (by omega)
    rw [show i + (j - i) = j from by omega] at h3
    exact two_wide h3
/-- Is one in it? -/
def hasTwo (s : ByteArray) : Bool := s.data.toList.any fun x => two x.toNat
theorem hasTwo_no {s : ByteArray} (h : NoTwo s s.size) : hasTwo s = false := by
  unfold hasTwo
  rw [List.any_eq_false]
  intro x hx
  obtain ⟨i, hi, rfl⟩ := List.getElem_of_mem hx
  rw [Array.length_toList] at hi
  have hi : i < s.size := hi
  have h1 := h i hi
  rw [get_in hi] at h1
  rw [Array.getElem_toList]
  intro h2
  exact Bool.noConfusion (h1.symm.trans h2)
theorem hasTwo_yes {s : ByteArray} {i : Nat} (hi : i < s.size) (h : two (s.get! i).toNat = true) : hasTwo s = true := by
  unfold hasTwo
  rw [List.any_eq_true]
  rw [get_in hi] at h
  exact ⟨s[i]'hi, Array.getElem_mem_toList (xs := s.data) hi, h⟩
theorem should_any (n : Int) (w : World) : Calls Try.prog 56 #[.int .i64 n] w fun e w' => e = .returned (.bool (decide (8 < n))) ∧ w' = w := by
  go_enter Try.func56, Try.ntmps56
  go_wp2
  go_ret
  exact ⟨rfl, rfl⟩
/-- What IndexAny answers. -/
def Told2 (s : ByteArray) (w : World) (e : Ending) (w' : World) : Prop := (∃ z : Int, e = .returned (.int .i64 z) ∧ (0 ≤ z ↔ hasTwo s = true)) ∧ Below w.heap.size w w'
theorem any_short (s : ByteArray) (w : World) (h8 : s.size ≤ 8) : Calls Try.prog 53 #[.string s, .string ⟨#[47, 0]⟩] w (Told2 s w) := by
  have h8z : decide ((8 : Int) < (s.size : Int)) = false := decide_eq_false (by omega)
  go_enter Try.func53, Try.ntmps53
  go_wp2_with fail
  refine (should_any _ _).mono ?_
  rintro e w1 ⟨rfl, rfl⟩
  rw [h8z]
  dsimp only
  go_wp2_with fail
  go_loopg [9, 10] s.size (fun g _ _ wx => ∃ i : Nat, i + g = s.size ∧ wx.heap[w1.heap.size]? = some (.stringIter s i) ∧ Below w1.heap.size w1 wx ∧ NoTwo s i)
  case atStart => exact ⟨0, by omega, World.iter_heap _ _ _, (Below.refl _ _).alloc (Nat.le_refl _) _, fun j hj => by omega⟩
  case round =>
    obtain ⟨i, hig, hit, hB, hno⟩ := hrel
    have HN := Lib.hid hno
    clear hno h8 h8z
    generalize hk : w1.heap.size = k at *
    cases gk with
    | zero =>
      obtain rfl : i = s.size := by omega
      have hnx := fun ty => Lib.run_next_end_at (P := Try.prog) _ k s s.size ty hit (by omega)
      go_wp2
      go_ret
      exact ⟨⟨_, rfl, by rw [hasTwo_no HN.out]; decide⟩, hk ▸ hB⟩
    | succ g =>
      have hi : i < s.size := by omega
      have hnx := fun ty => Lib.run_next_any_at (P := Try.prog) _ k s i ty hit hi
      have hkn := dec_kind hi
      have HH := Lib.hid (dec_hit hi)
      have HS := Lib.hid (dec_step hi HN.out)
      have hit2 := Lib.iterAt_heap _ k s i (i + (Utf8.decode s i).2) hit
      have hB2 := Lib.below_iterAt hB (Nat.le_refl k) s (i + (Utf8.decode s i).2)
      have hk2 := (Array.getElem?_eq_some_iff.1 hit2).1
      generalize Utf8.decode s i = d at *
      obtain ⟨r, n⟩ := d
      dsimp only at *
      have HR := Lib.hid (fun w => rune_any r hkn.1 w)
      have hn1 := hkn.2.1
      have hn2 := hkn.2.2
      clear hkn
      go_wp2_with fail
      refine (HR.out _).mono ?_
      rintro e w3 ⟨⟨z, rfl, hz⟩, hw3⟩
      dsimp only
      have hB3 := hB2.trans (hw3.mono (Nat.le_of_lt hk2))
      have hit3 := (hw3.block k hk2).trans hit2
      clear hB2 hw3 hit2 hnx hB hit
      by_cases hz0 : 0 ≤ z
      · have HT := Lib.hid (hz.1 hz0)
        clear hz
        go_wp2_with fail
        go_ret
        exact ⟨⟨_, rfl, by rw [hasTwo_yes hi (HH.out HT.out)]; simp⟩, hk ▸ hB3⟩
      · have HT := Lib.hid (show two r = false from Bool.eq_false_iff.2 fun h => hz0 (hz.2 h))
        clear hz
        go_wp2_with fail
        go_roundg (s.size - (i + n))
        case measure => omega
        case rel => exact ⟨i + n, by omega, hit3, hB3, HS.out HT.out⟩
theorem low2 : ∀ (j : Nat) b, (⟨#[47, 0]⟩ : ByteArray).data.toList[j]? = some b → b.toNat < 128 := by
  intro j b h
  match j, h with
  | 0, h => cases h; decide
  | 1, h => cases h; decide
  | j + 2, h => simp at h
/-- The set's cells. -/
def cells2 : Array Value := Lib.setCells [47, 0]
theorem make_any (w : World) : Calls Try.prog 57 #[.string ⟨#[47, 0]⟩] w fun e w' => e = .returned (.tuple #[.agg cells2, .bool true]) ∧ w' = w.alloc (.cells cells2 91) :=
  Any.strings_makeASCIISet lays227 (Go.zero_of_info info68).1 (Go.zero_of_info info68).2 ⟨#[47, 0]⟩ w (by decide) low2
theorem holds_any (b : Nat) (x : UInt8) (v : Bool) (w : World) (h : w.cell? ⟨b, x.toNat, none⟩ = some (.bool v)) : Calls Try.prog 58 #[.pointer (some ⟨b, 0, none⟩), .int .u8 x.toNat] w fun e w' => e = .returned (.bool v) ∧ w' = w :=
  Any.asciiSet_contains lays228 b x v w h
theorem cells2_size : cells2.size = 256 := Lib.setCells_size _
theorem two_is (x : UInt8) : ([47, 0] : List UInt8).contains x = two x.toNat := by
  have h : ∀ k : Fin 256, ([47, 0] : List UInt8).contains (UInt8.ofNat k.val) = two (UInt8.ofNat k.val).toNat := by decide +kernel
  have := h ⟨x.toNat, x.toNat_lt⟩
  simpa using this
theorem cells2_at (w : World) (x : UInt8) : (w.alloc (.cells cells2 91)).cell? ⟨w.heap.size, x.toNat, none⟩ = some (.bool (two x.toNat)) := by
  rw [World.cell?_alloc_at _ _ _ _ rfl, ← two_is]
  exact Lib.setCells_at _ _
theorem zeros_size : Try.zeroCells91.size = 256 := by kernel_rfl
theorem fill68 (w : World) : (storeCells ⟨w.heap.size, 0, none⟩ cells2.toList 0).run Try.prog (w.alloc (.cells Try.zeroCells91 91)) = .ok () (w.alloc (.cells cells2 91)) :=
  run_storeCells_new w 91 Try.zeroCells91 cells2 (by rw [cells2_size]; exact (Go.zero_of_info info68).2) (by rw [cells2_size]; exact zeros_size) (Lib.setCells_one _)
theorem any_long (s : ByteArray) (w : World) (h8 : 8 < s.size) (hs : s.size ≤ 100) : Calls Try.prog 53 #[.string s, .string ⟨#[47, 0]⟩] w (Told2 s w) := by
  have h8z : decide ((8 : Int) < (s.size : Int)) = true := decide_eq_true (by omega)
  go_enter Try.func53, Try.ntmps53
  go_wp2_with fail
  refine (should_any _ _).mono ?_
  rintro e w1 ⟨rfl, rfl⟩
  rw [h8z]
  dsimp only
  go_wp2_with fail
  refine (make_any _).mono ?_
  rintro e w2 ⟨rfl, rfl⟩
  dsimp only
  go_wp2_with fail
  have hsc : (storeCells ⟨w1.heap.size + 1, 0, none⟩ cells2.toList 0).run Try.prog ((w1.alloc (.cells cells2 91)).alloc (.cells Try.zeroCells91 91)) = .ok () ((w1.alloc (.cells cells2 91)).alloc (.cells cells2 91)) := by
    have h := fill68 (w1.alloc (.cells cells2 91))
    rw [World.size_alloc] at h
    exact h
  rw [hsc]
  simp only [Result.andThen]
  rw [Oper.upon_skip]
  go_wp2_with fail
  have hcell : ∀ x : UInt8, ((w1.alloc (.cells cells2 91)).alloc (.cells cells2 91)).cell? ⟨w1.heap.size + 1, x.toNat, none⟩ = some (.bool (two x.toNat)) := fun x => by
    have h := cells2_at (w1.alloc (.cells cells2 91)) x
    rw [World.size_alloc] at h
    exact h
  have HC := Lib.hid hcell
  have HB : RowKit.Hid (Below w1.heap.size w1 ((w1.alloc (.cells cells2 91)).alloc (.cells cells2 91))) := ((Below.refl _ _).alloc (Nat.le_refl _) _).alloc (by rw [World.size_alloc]; omega) _
  clear hsc hcell
  generalize (w1.alloc (.cells cells2 91)).alloc (.cells cells2 91) = w2 at *
  go_loopg [8] s.size (fun g s8 wx => ∃ i : Nat, i + g = s.size ∧ s8 = .int .i64 i ∧ wx = w2 ∧ NoTwo s i)
  case atStart => exact ⟨0, by omega, rfl, rfl, fun j hj => by omega⟩
  case round =>
    obtain ⟨i, hig, rfl, rfl, hno⟩ := hrel
    have HN := Lib.hid hno
    clear hno
    cases gk with
    | zero =>
      obtain rfl : i = s.size := by omega
      have hiz : ¬ ((s.size : Int) < (s.size : Int)) := by omega
      go_wp2_with fail
      go_ret
      exact ⟨⟨_, rfl, by rw [hasTwo_no HN.out]; decide⟩, HB.out⟩
    | succ g =>
      have hi : i < s.size := by omega
      have hiz : (i : Int) < (s.size : Int) := by omega
      have HG := Lib.hid (get_in hi)
      cases ht : two (s[i]'hi).toNat with
      | false =>
        have HX := Lib.hid (holds_any (w1.heap.size + 1) (s[i]'hi) false _ (ht ▸ HC.out (s[i]'hi)))
        have HT := Lib.hid ht
        clear ht
        go_wp2_with fail
        refine HX.out.mono ?_
        rintro e w3 ⟨rfl, rfl⟩
        dsimp only
        go_wp2_with fail
        go_roundg g
        case measure => omega
        case rel =>
          refine ⟨i + 1, by omega, by first | rfl | simp, rfl, fun j hj => ?_⟩
          rcases Nat.lt_or_ge j i with h1 | h1
          · exact HN.out j h1
          · obtain rfl : j = i := by omega
            rw [HG.out]; exact HT.out
      | true =>
        have HX := Lib.hid (holds_any (w1.heap.size + 1) (s[i]'hi) true _ (ht ▸ HC.out (s[i]'hi)))
        have HT := Lib.hid ht
        clear ht
        go_wp2_with fail
        refine HX.out.mono ?_
        rintro e w3 ⟨rfl, rfl⟩
        dsimp only
        go_wp2_with fail
        go_ret
        exact ⟨⟨_, rfl, by rw [hasTwo_yes hi (by rw [HG.out]; exact HT.out)]; simp⟩, HB.out⟩
theorem any_any (s : ByteArray) (w : World) (hs : s.size ≤ 100) : Calls Try.prog 53 #[.string s, .string ⟨#[47, 0]⟩] w (Told2 s w) := by
  by_cases h8 : s.size ≤ 8
  · exact any_short s w h8
  · exact any_long s w (by omega) hs
theorem contains_any (s : ByteArray) (w : World) (hs : s.size ≤ 100) : Calls Try.prog 50 #[.string s, .string ⟨#[47, 0]⟩] w fun e w' => e = .returned (.bool (hasTwo s)) ∧ Below w.heap.size w w' := by
  go_enter Try.func50, Try.ntmps50
  go_wp2_with fail
  refine (any_any s _ hs).mono ?_
  rintro e w1 ⟨⟨z, rfl, hz⟩, hB⟩
  dsimp only
  have HZ := Lib.hid hz
  clear hz
  by_cases h0 : 0 ≤ z
  · go_wp2_with fail
    go_ret
    refine ⟨?_, hB⟩
    rw [HZ.out.1 h0]
    simp
  · go_wp2_with fail
    go_ret
    refine ⟨?_, hB⟩
    rw [show hasTwo s = false from Bool.eq_false_iff.2 fun h => by have := HZ.out.2 h; omega]
    simp
end Go.Proofs.Yteieehjggiiljaa
