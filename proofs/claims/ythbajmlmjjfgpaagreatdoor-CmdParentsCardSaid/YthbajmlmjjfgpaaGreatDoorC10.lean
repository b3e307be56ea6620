/- A part of the proofs. -/
import Derived.Laws.Runes
import Derived.Laws.Strings3
import Derived.Laws.Cover4
import Derived.Lib.OthersKept
import Derived.Test.YthbajmlmjjfgpaaGreatDoorC09
set_option maxRecDepth 1000000
set_option maxHeartbeats 16000000
open Go.Lib (hid)
open Go.Proofs.Tryz
namespace Go.Proofs.YthbajmlmjjfgpaaGreatDoor
open Go.RowKit
theorem rune_low (n : Nat) (h : n < 128) (w : World) : Calls prog 227 #[.string ⟨#[47, 0]⟩, .int .i32 (n : Int)] w λe w' => (∃ z : Int, e = .returned (.int .i64 z) /\ (0 <= z ↔ two n = true)) /\ Below w.heap.size w w' := by
 have h2 := ib_two h
 have h0 : (0 : Int) <= (n : Int) := by omega
 have h1 : (n : Int) < 128 := by omega
 go_enter func227, ntmps227
 go_wp2_with (go_at_call 248; refine (ib46 _ _ _).mono ?_; rintro e w1 ⟨rfl, hw⟩; rw [hw])
 go_ret
 refine ⟨⟨_, rfl, ?_⟩, Below.refl _ _⟩
 have e1 : (n : Int).toNat = n := Int.toNat_natCast n
 rw [e1] at h2
 simpa using h2
theorem below_drewN {B : Nat} {a w : World} (h : Below B a w) (n : Nat) : Below B a (w.drewN n) := h.trans ⟨rfl, rfl, rfl, Nat.le_refl _, λ_ _ => rfl⟩
theorem rune_err (w : World) : Calls prog 227 #[.string ⟨#[47, 0]⟩, .int .i32 65533] w λe w' => (∃ z : Int, e = .returned (.int .i64 z) /\ z < 0) /\ Below w.heap.size w w' := by
 have hn0 := λty => run_next_ascii (P := prog) w ⟨#[47, 0]⟩ 0 ty (by decide) (by decide)
 have hn1 := λty => run_next_ascii (P := prog) w ⟨#[47, 0]⟩ 1 ty (by decide) (by decide)
 have hn2 := λty => run_next_end (P := prog) w ⟨#[47, 0]⟩ 2 ty (by decide)
 go_enter func227, ntmps227
 go_wp2
 go_loopg [5, 6] 2 (λg _ _ wx => (g = 2 /\ wx = w.iter ⟨#[47, 0]⟩ 0) \/ (g = 1 /\ wx = w.iter ⟨#[47, 0]⟩ 1) \/ (g = 0 /\ wx = w.iter ⟨#[47, 0]⟩ 2))
 case atStart => exact Or.inl ⟨rfl, rfl⟩
 case round =>
  rcases hrel with ⟨rfl, rfl⟩ | ⟨rfl, rfl⟩ | ⟨rfl, rfl⟩
  ·go_wp2
   go_roundg 1
   case measure => omega
   case rel => exact Or.inr (Or.inl ⟨rfl, rfl⟩)
  ·go_wp2
   go_roundg 0
   case measure => omega
   case rel => exact Or.inr (Or.inr ⟨rfl, rfl⟩)
  ·go_wp2
   go_ret
   exact ⟨⟨_, rfl, by decide⟩, (Below.refl _ _).alloc (Nat.le_refl _) _⟩
theorem valid_any (n : Nat) (hv : Utf8.valid (n : Int) = true) (w : World) : Calls prog 249 #[.int .i32 (n : Int)] w λe w' => e = .returned (.bool true) /\ w' = w := by
 have h0 : (0 : Int) <= (n : Int) := by omega
 rcases valid_rune hv with hr | hr
 ·have h3 : (n : Int) < 55296 := by omega
  go_enter func249, ntmps249
  go_wp2
  go_ret
  exact ⟨rfl, rfl⟩
 ·have h3 : ¬ (n : Int) < 55296 := by omega
  have h4 : (57343 : Int) < (n : Int) := by omega
  have h5 : (n : Int) <= 1114111 := by omega
  go_enter func249, ntmps249
  go_wp2
  go_ret
  exact ⟨rfl, rfl⟩
theorem rune_wide (n : Nat) (h : 128 <= n) (hv : Utf8.valid (n : Int) = true) (hne : n ≠ 65533) (w : World) : Calls prog 227 #[.string ⟨#[47, 0]⟩, .int .i32 (n : Int)] w λe w' => (∃ z : Int, e = .returned (.int .i64 z) /\ z < 0) /\ Below w.heap.size w w' := by
 have HV := hid (λw => valid_any n hv w)
 have HE := hid (encode_wide h hv)
 have h0 : (0 : Int) <= (n : Int) := by omega
 have h1 : ¬ (n : Int) < 128 := by omega
 have h2 : ((n : Int) == 65533) = false := by rw [beq_eq_false_iff_ne]; omega
 clear hv hne h
 generalize (n : Int) = r at *
 rcases HE.out with ⟨a, b, he, hb⟩ | he
 ·have HF := hid he
  clear he HE
  go_enter func227, ntmps227
  go_wp2_with fail
  refine (HV.out _).mono ?_
  rintro e w1 ⟨rfl, rfl⟩
  dsimp only
  go_wp2_with fail
  refine wp_scope_straight ?_
  go_wp2_with fail
  rw [HF.out, show wrap64 (((⟨#[a, b]⟩ : ByteArray).size : Int) - 1) = 1 from IntWalk.wrap64_in 1 ⟨by decide, by decide⟩]
  go_loopw [9] (λv9 wx => v9 = .int .i64 1 /\ wx = w1) (λ_ _ => 0)
  case atStart => exact ⟨rfl, rfl⟩
  case round =>
   obtain ⟨rfl, rfl⟩ := hrel
   go_wp2_with fail
   refine wp_scope_straight ?_
   go_wp2_with fail
   have hbi : ¬ (b.toNat : Int) = 0 := by omega
   have hbj : ¬ ((((⟨#[47, 0]⟩ : ByteArray)[1]'(by decide)).toNat : Int) = (((⟨#[a, b]⟩ : ByteArray)[1]'(Nat.lt_succ_self 1)).toNat : Int)) := λh => hbi h.symm
   have hbk : ((((⟨#[47, 0]⟩ : ByteArray)[1]'(by decide)).toNat : Int) != (((⟨#[a, b]⟩ : ByteArray)[1]'(Nat.lt_succ_self 1)).toNat : Int)) = true := bne_iff_ne.2 hbj
   have hw2 : IntKind.i64.wrap 2 = 2 := by decide
   go_quiet (fail)
   go_wp2_with fail
   have HI := hid (λw => show Calls prog 248 #[.string ByteArray.empty, .int .u8 (b.toNat : Int)] w λe w' => e = .returned (.int .i64 (-1)) /\ w' = w from ib46 ByteArray.empty (b.toNat : Int) w)
   go_quiet (first | (go_at_call 248; refine (HI.out _).mono ?_; rintro e w2 ⟨rfl, rfl⟩; exact ⟨rfl, _, rfl⟩))
   go_wp2_with fail
   simp +zetaDelta only [Exit.noGoto, Exit.inBlock, Exit.then]
   go_ret
   exact ⟨⟨_, rfl, by decide⟩, below_drewN (Below.refl _ _) _⟩
 ·have HF := hid he
  clear he HE
  go_enter func227, ntmps227
  go_wp2_with fail
  refine (HV.out _).mono ?_
  rintro e w1 ⟨rfl, rfl⟩
  dsimp only
  go_wp2_with fail
  refine wp_scope_straight ?_
  go_wp2_with fail
  have hz : wrap64 ((Utf8.encode r).size - 1) = ((Utf8.encode r).size : Int) - 1 := IntWalk.wrap64_in _ ⟨by have h7 := HF.out; have := encode_size_le r; omega, by have h7 := HF.out; have := encode_size_le r; omega⟩
  rw [hz]
  have hge : ¬ ((Utf8.encode r).size : Int) - 1 < 2 := by have := HF.out; omega
  generalize ((Utf8.encode r).size : Int) - 1 = z at *
  clear hz
  go_loopw [9] (λv9 wx => v9 = .int .i64 z /\ wx = w1) (λ_ _ => 0)
  case atStart => exact ⟨rfl, rfl⟩
  case round =>
   obtain ⟨rfl, rfl⟩ := hrel
   go_wp2_with fail
   go_ret
   exact ⟨⟨_, rfl, by decide⟩, Below.refl _ _⟩
theorem two_wide {n : Nat} (h : 128 <= n) : two n = false := by
 unfold two
 rw [Bool.or_eq_false_iff, beq_eq_false_iff_ne, beq_eq_false_iff_ne]
 omega
theorem rune_any (n : Nat) (hn : n < 128 \/ (128 <= n /\ Utf8.valid (n : Int) = true)) (w : World) : Calls prog 227 #[.string ⟨#[47, 0]⟩, .int .i32 (n : Int)] w λe w' => (∃ z : Int, e = .returned (.int .i64 z) /\ (0 <= z ↔ two n = true)) /\ Below w.heap.size w w' := by
 rcases hn with h | ⟨h, hv⟩
 ·exact rune_low n h w
 ·have ht : ∀ z : Int, z < 0 -> (0 <= z ↔ two n = true) := λz hz => by rw [two_wide h]; constructor; (intro h5; omega); (intro h5; cases h5)
  by_cases he : n = 65533
  ·subst he
   exact (rune_err w).mono λe w' h5 => by obtain ⟨⟨z, h6, h7⟩, h8⟩ := h5; exact ⟨⟨z, h6, ht z h7⟩, h8⟩
  ·exact (rune_wide n h hv he w).mono λe w' h5 => by obtain ⟨⟨z, h6, h7⟩, h8⟩ := h5; exact ⟨⟨z, h6, ht z h7⟩, h8⟩
def NoTwo (s : ByteArray) (i : Nat) : Prop := ∀ j, j < i -> two (s.get! j).toNat = false
theorem get_in {s : ByteArray} {i : Nat} (h : i < s.size) : s.get! i = s[i]'h := by
 have := get_at s i h
 rwa [Nat.add_zero] at this
theorem dec_kind {s : ByteArray} {i : Nat} (h : i < s.size) : ((Utf8.decode s i).1 < 128 \/ (128 <= (Utf8.decode s i).1 /\ Utf8.valid ((Utf8.decode s i).1 : Int) = true)) /\ 1 <= (Utf8.decode s i).2 /\ i + (Utf8.decode s i).2 <= s.size := by
 by_cases ha : (s[i]'h).toNat < 128
 ·rw [decode_ascii s i h ha]; exact ⟨.inl ha, Nat.le_refl _, h⟩
 ·have ha : 128 <= (s[i]'h).toNat := by omega
  have h1 := decode_high s i h ha
  have h2 := decode_wide s i h ha
  exact ⟨.inr ⟨h1.1, h2.2.2⟩, h1.2, h2.1⟩
theorem dec_hit {s : ByteArray} {i : Nat} (h : i < s.size) (ht : two (Utf8.decode s i).1 = true) : two (s.get! i).toNat = true := by
 by_cases ha : (s[i]'h).toNat < 128
 ·rw [decode_ascii s i h ha] at ht; rw [get_in h]; exact ht
 ·have h1 := decode_high s i h (by omega)
  rw [two_wide h1.1] at ht; cases ht
theorem dec_step {s : ByteArray} {i : Nat} (h : i < s.size) (hN : NoTwo s i) (ht : two (Utf8.decode s i).1 = false) : NoTwo s (i + (Utf8.decode s i).2) := by
 intro j hj
 rcases Nat.lt_or_ge j i with h1 | h1
 ·exact hN j h1
 by_cases ha : (s[i]'h).toNat < 128
 ·rw [decode_ascii s i h ha] at ht hj
  have hj : j < i + 1 := hj
  obtain rfl : j = i := by omega
  rw [get_in h]; exact ht
 ·have h2 := decode_wide s i h (by omega)
  have h3 := h2.2.1 (j - i) (by omega)
  rw [show i + (j - i) = j from by omega] at h3
  exact two_wide h3
def hasTwo (s : ByteArray) : Bool := s.data.toList.any λx => two x.toNat
theorem hasTwo_no {s : ByteArray} (h : NoTwo s s.size) : hasTwo s = false := by
 unfold hasTwo
 rw [List.any_eq_false]
 intro x hx
 obtain ⟨i, hi, rfl⟩ := List.getElem_of_mem hx
 rw [Array.length_toList] at hi
 have hi : i < s.size := hi
 have h1 := h i hi
 rw [get_in hi] at h1
 rw [Array.getElem_toList]
 intro h2
 exact Bool.noConfusion (h1.symm.trans h2)
theorem hasTwo_yes {s : ByteArray} {i : Nat} (hi : i < s.size) (h : two (s.get! i).toNat = true) : hasTwo s = true := by
 unfold hasTwo
 rw [List.any_eq_true]
 rw [get_in hi] at h
 exact ⟨s[i]'hi, Array.getElem_mem_toList (xs := s.data) hi, h⟩
theorem should_any (n : Int) (w : World) : Calls prog 228 #[.int .i64 n] w λe w' => e = .returned (.bool (decide (8 < n))) /\ w' = w := by
 go_enter func228, ntmps228
 go_wp2
 go_ret
 exact ⟨rfl, rfl⟩
def Told2 (s : ByteArray) (w : World) (e : Ending) (w' : World) : Prop := (∃ z : Int, e = .returned (.int .i64 z) /\ (0 <= z ↔ hasTwo s = true)) /\ Below w.heap.size w w'
theorem any_short (s : ByteArray) (w : World) (h8 : s.size <= 8) : Calls prog 211 #[.string s, .string ⟨#[47, 0]⟩] w (Told2 s w) := by
 have h8z : decide ((8 : Int) < (s.size : Int)) = false := decide_eq_false (by omega)
 go_enter func211, ntmps211
 go_wp2_with fail
 refine (should_any _ _).mono ?_
 rintro e w1 ⟨rfl, rfl⟩
 rw [h8z]
 dsimp only
 go_wp2_with fail
 go_loopg [9, 10] s.size (λg _ _ wx => ∃ i : Nat, i + g = s.size /\ wx.heap[w1.heap.size]? = some (.stringIter s i) /\ Below w1.heap.size w1 wx /\ NoTwo s i)
 case atStart => exact ⟨0, by omega, World.iter_heap _ _ _, (Below.refl _ _).alloc (Nat.le_refl _) _, λj hj => by omega⟩
 case round =>
  obtain ⟨i, hig, hit, hB, hno⟩ := hrel
  have HN := hid hno
  clear hno h8 h8z
  generalize hk : w1.heap.size = k at *
  cases gk with
  | zero =>
   obtain rfl : i = s.size := by omega
   have hnx := λty => Lib.run_next_end_at (P := prog) _ k s s.size ty hit (by omega)
   go_wp2
   go_ret
   exact ⟨⟨_, rfl, by rw [hasTwo_no HN.out]; decide⟩, hk ▸ hB⟩
  | succ g =>
   have hi : i < s.size := by omega
   have hnx := λty => Lib.run_next_any_at (P := prog) _ k s i ty hit hi
   have hkn := dec_kind hi
   have HH := hid (dec_hit hi)
   have HS := hid (dec_step hi HN.out)
   have hit2 := Lib.iterAt_heap _ k s i (i + (Utf8.decode s i).2) hit
   have hB2 := Lib.below_iterAt hB (Nat.le_refl k) s (i + (Utf8.decode s i).2)
   have hk2 := (Array.getElem?_eq_some_iff.1 hit2).1
   generalize Utf8.decode s i = d at *
   obtain ⟨r, n⟩ := d
   dsimp only at *
   have HR := hid (λw => rune_any r hkn.1 w)
   have hn1 := hkn.2.1
   have hn2 := hkn.2.2
   clear hkn
   go_wp2_with fail
   refine (HR.out _).mono ?_
   rintro e w3 ⟨⟨z, rfl, hz⟩, hw3⟩
   dsimp only
   have hB3 := hB2.trans (hw3.mono (Nat.le_of_lt hk2))
   have hit3 := (hw3.block k hk2).trans hit2
   clear hB2 hw3 hit2 hnx hB hit
   by_cases hz0 : 0 <= z
   ·have HT := hid (hz.1 hz0)
    clear hz
    go_wp2_with fail
    go_ret
    exact ⟨⟨_, rfl, by rw [hasTwo_yes hi (HH.out HT.out)]; simp⟩, hk ▸ hB3⟩
   ·have HT := hid (show two r = false from Bool.eq_false_iff.2 λh => hz0 (hz.2 h))
    clear hz
    go_wp2_with fail
    go_roundg (s.size - (i + n))
    case measure => omega
    case rel => exact ⟨i + n, by omega, hit3, hB3, HS.out HT.out⟩
theorem low2 : ∀ (j : Nat) b, (⟨#[47, 0]⟩ : ByteArray).data.toList[j]? = some b -> b.toNat < 128 := by
 intro j b h
 match j, h with
 | 0, h => cases h; decide
 | 1, h => cases h; decide
 | j + 2, h => simp at h
def cells2 : Array Value := Lib.setCells [47, 0]
theorem make_any (w : World) : Calls prog 229 #[.string ⟨#[47, 0]⟩] w λe w' => e = .returned (.tuple #[.agg cells2, .bool true]) /\ w' = w.alloc (.cells cells2 272) :=
 Any.strings_makeASCIISet lays227 (Go.zero_of_info info68).1 (Go.zero_of_info info68).2 ⟨#[47, 0]⟩ w (by decide) low2
theorem holds_any (b : Nat) (x : UInt8) (v : Bool) (w : World) (h : w.cell? ⟨b, x.toNat, none⟩ = some (.bool v)) : Calls prog 230 #[.pointer (some ⟨b, 0, none⟩), .int .u8 x.toNat] w λe w' => e = .returned (.bool v) /\ w' = w :=
 Any.asciiSet_contains lays228 b x v w h
theorem cells2_size : cells2.size = 256 := Lib.setCells_size _
theorem two_is (x : UInt8) : ([47, 0] : List UInt8).contains x = two x.toNat := by
 have h : ∀ k : Fin 256, ([47, 0] : List UInt8).contains (UInt8.ofNat k.val) = two (UInt8.ofNat k.val).toNat := by decide +kernel
 have := h ⟨x.toNat, x.toNat_lt⟩
 simpa using this
theorem cells2_at (w : World) (x : UInt8) : (w.alloc (.cells cells2 272)).cell? ⟨w.heap.size, x.toNat, none⟩ = some (.bool (two x.toNat)) := by
 rw [World.cell?_alloc_at _ _ _ _ rfl, <- two_is]
 exact Lib.setCells_at _ _
theorem zeros_size : Tryz.zeroCells272.size = 256 := by kernel_rfl
theorem fill68 (w : World) : (storeCells ⟨w.heap.size, 0, none⟩ cells2.toList 0).run prog (w.alloc (.cells Tryz.zeroCells272 272)) = .ok () (w.alloc (.cells cells2 272)) :=
 run_storeCells_new w 272 Tryz.zeroCells272 cells2 (by rw [cells2_size]; exact (Go.zero_of_info info68).2) (by rw [cells2_size]; exact zeros_size) (Lib.setCells_one _)
theorem any_long (s : ByteArray) (w : World) (h8 : 8 < s.size) (hs : s.size <= 100) : Calls prog 211 #[.string s, .string ⟨#[47, 0]⟩] w (Told2 s w) := by
 have h8z : decide ((8 : Int) < (s.size : Int)) = true := decide_eq_true (by omega)
 go_enter func211, ntmps211
 go_wp2_with fail
 refine (should_any _ _).mono ?_
 rintro e w1 ⟨rfl, rfl⟩
 rw [h8z]
 dsimp only
 go_wp2_with fail
 refine (make_any _).mono ?_
 rintro e w2 ⟨rfl, rfl⟩
 dsimp only
 go_wp2_with fail
 have hsc : (storeCells ⟨w1.heap.size + 1, 0, none⟩ cells2.toList 0).run prog ((w1.alloc (.cells cells2 272)).alloc (.cells Tryz.zeroCells272 272)) = .ok () ((w1.alloc (.cells cells2 272)).alloc (.cells cells2 272)) := by
  have h := fill68 (w1.alloc (.cells cells2 272))
  rw [World.size_alloc] at h
  exact h
 rw [hsc]
 simp only [Result.andThen]
 rw [Oper.upon_skip]
 go_wp2_with fail
 have hcell : ∀ x : UInt8, ((w1.alloc (.cells cells2 272)).alloc (.cells cells2 272)).cell? ⟨w1.heap.size + 1, x.toNat, none⟩ = some (.bool (two x.toNat)) := λx => by
  have h := cells2_at (w1.alloc (.cells cells2 272)) x
  rw [World.size_alloc] at h
  exact h
 have HC := hid hcell
 have HB : RowKit.Hid (Below w1.heap.size w1 ((w1.alloc (.cells cells2 272)).alloc (.cells cells2 272))) := ((Below.refl _ _).alloc (Nat.le_refl _) _).alloc (by rw [World.size_alloc]; omega) _
 clear hsc hcell
 generalize (w1.alloc (.cells cells2 272)).alloc (.cells cells2 272) = w2 at *
 go_loopg [8] s.size (λg s8 wx => ∃ i : Nat, i + g = s.size /\ s8 = .int .i64 i /\ wx = w2 /\ NoTwo s i)
 case atStart => exact ⟨0, by omega, rfl, rfl, λj hj => by omega⟩
 case round =>
  obtain ⟨i, hig, rfl, rfl, hno⟩ := hrel
  have HN := hid hno
  clear hno
  cases gk with
  | zero =>
   obtain rfl : i = s.size := by omega
   have hiz : ¬ ((s.size : Int) < (s.size : Int)) := by omega
   go_wp2_with fail
   go_ret
   exact ⟨⟨_, rfl, by rw [hasTwo_no HN.out]; decide⟩, HB.out⟩
  | succ g =>
   have hi : i < s.size := by omega
   have hiz : (i : Int) < (s.size : Int) := by omega
   have HG := hid (get_in hi)
   cases ht : two (s[i]'hi).toNat with
   | false =>
    have HX := hid (holds_any (w1.heap.size + 1) (s[i]'hi) false _ (ht ▸ HC.out (s[i]'hi)))
    have HT := hid ht
    clear ht
    go_wp2_with fail
    refine HX.out.mono ?_
    rintro e w3 ⟨rfl, rfl⟩
    dsimp only
    go_wp2_with fail
    go_roundg g
    case measure => omega
    case rel =>
     refine ⟨i + 1, by omega, by first | rfl | simp, rfl, λj hj => ?_⟩
     rcases Nat.lt_or_ge j i with h1 | h1
     ·exact HN.out j h1
     ·obtain rfl : j = i := by omega
      rw [HG.out]; exact HT.out
   | true =>
    have HX := hid (holds_any (w1.heap.size + 1) (s[i]'hi) true _ (ht ▸ HC.out (s[i]'hi)))
    have HT := hid ht
    clear ht
    go_wp2_with fail
    refine HX.out.mono ?_
    rintro e w3 ⟨rfl, rfl⟩
    dsimp only
    go_wp2_with fail
    go_ret
    exact ⟨⟨_, rfl, by rw [hasTwo_yes hi (by rw [HG.out]; exact HT.out)]; simp⟩, HB.out⟩
theorem any_any (s : ByteArray) (w : World) (hs : s.size <= 100) : Calls prog 211 #[.string s, .string ⟨#[47, 0]⟩] w (Told2 s w) := by
 by_cases h8 : s.size <= 8
 ·exact any_short s w h8
 ·exact any_long s w (by omega) hs
theorem contains_any (s : ByteArray) (w : World) (hs : s.size <= 100) : Calls prog 199 #[.string s, .string ⟨#[47, 0]⟩] w λe w' => e = .returned (.bool (hasTwo s)) /\ Below w.heap.size w w' := by
 go_enter func199, ntmps199
 go_wp2_with fail
 refine (any_any s _ hs).mono ?_
 rintro e w1 ⟨⟨z, rfl, hz⟩, hB⟩
 dsimp only
 have HZ := hid hz
 clear hz
 by_cases h0 : 0 <= z
 ·go_wp2_with fail
  go_ret
  refine ⟨?_, hB⟩
  rw [HZ.out.1 h0]
  simp
 ·go_wp2_with fail
  go_ret
  refine ⟨?_, hB⟩
  rw [show hasTwo s = false from Bool.eq_false_iff.2 λh => by have := HZ.out.2 h; omega]
  simp
end Go.Proofs.YthbajmlmjjfgpaaGreatDoor
namespace Go.Proofs.YthbajmlmjjfgpaaGreatDoor
open Go.RowKit
attribute [local go_sem 9000] sem_stralike sem_strnot
theorem hasTwo_all (s : ByteArray) : (s.data.toList.all λx => x != 47 && x != 0) = !hasTwo s := by
 unfold hasTwo
 induction s.data.toList with
 | nil => rfl
 | cons x l ih =>
  rw [List.all_cons, List.any_cons, ih]
  have h : (x != 47 && x != 0) = !two x.toNat := by
   have h : ∀ k : Fin 256, (UInt8.ofNat k.val != 47 && UInt8.ofNat k.val != 0) = !two (UInt8.ofNat k.val).toNat := by decide +kernel
   have := h ⟨x.toNat, x.toNat_lt⟩
   simpa using this
  rw [h, Bool.not_or]
theorem rightly_is (s : ByteArray) (h1 : talike s ⟨#[]⟩ = false) (h2 : s.size <= 16) (h3 : talike s ⟨#[46]⟩ = false) (h4 : talike s ⟨#[46, 46]⟩ = false) : Nm.right s.data.toList = !hasTwo s := by
 have hne : ∀ l : List UInt8, talike s ⟨l.toArray⟩ = false -> s.data.toList ≠ l := λl h e => by
  unfold talike at h
  have h := of_decide_eq_false h
  exact h (Go.WideShapes.bytes_inj e)
 have hl : s.data.toList.length = s.size := Array.length_toList
 unfold Nm.right
 rw [hasTwo_all, hl]
 have e1 : decide (1 <= s.size) = true := decide_eq_true (by
  have := hne [] h1
  rcases Nat.eq_zero_or_pos s.size with h | h
  ·exact absurd (List.eq_nil_of_length_eq_zero (hl.trans h)) this
  ·exact h)
 have e2 : decide (s.size <= 16) = true := decide_eq_true h2
 have e3 : (s.data.toList != [46]) = true := bne_iff_ne.2 (hne [46] h3)
 have e4 : (s.data.toList != [46, 46]) = true := bne_iff_ne.2 (hne [46, 46] h4)
 rw [e1, e2, e3, e4]
 simp
theorem rightly_no (s : ByteArray) (h : talike s ⟨#[]⟩ = true \/ 16 < s.size \/ talike s ⟨#[46]⟩ = true \/ talike s ⟨#[46, 46]⟩ = true) : Nm.right s.data.toList = false := by
 have he : ∀ t, talike s t = true -> s = t := λt h => of_decide_eq_true h
 rcases h with h | h | h | h
 ·rw [he _ h]; rfl
 ·have hl : s.data.toList.length = s.size := Array.length_toList
  unfold Nm.right
  rw [hl, show decide (s.size <= 16) = false from decide_eq_false (by omega)]
  simp
 ·rw [he _ h]; decide
 ·rw [he _ h]; decide
theorem right_any (s : ByteArray) (w : World) (hs : s.size <= 140737488355328) : Calls prog 175 #[.string s] w λe w' => e = .returned (.bool (Nm.right s.data.toList)) /\ Below w.heap.size w w' := by
 have HN := hid (rightly_no s)
 have HY := hid (rightly_is s)
 generalize hR : Nm.right s.data.toList = R at *
 clear hR
 cases h1 : talike s ⟨#[]⟩ with
 | true =>
  obtain rfl := HN.out (.inl h1)
  clear HN HY
  go_enter func175, ntmps175
  go_wp2_with fail
  go_ret
  exact ⟨rfl, Below.refl _ _⟩
 | false =>
  by_cases h2 : s.size <= 16
  ·have h2i : ¬ (16 : Int) < (s.size : Int) := by omega
   cases h3 : talike s ⟨#[46]⟩ with
   | true =>
    obtain rfl := HN.out (.inr (.inr (.inl h3)))
    clear HN HY
    go_enter func175, ntmps175
    go_wp2_with fail
    go_ret
    exact ⟨rfl, Below.refl _ _⟩
   | false =>
    cases h4 : talike s ⟨#[46, 46]⟩ with
    | true =>
     obtain rfl := HN.out (.inr (.inr (.inr h4)))
     clear HN HY
     go_enter func175, ntmps175
     go_wp2_with fail
     go_ret
     exact ⟨rfl, Below.refl _ _⟩
    | false =>
     obtain rfl := HY.out h1 h2 h3 h4
     have HC := hid (contains_any s w (by omega))
     clear HN HY
     go_enter func175, ntmps175
     go_wp2_with fail
     refine HC.out.mono ?_
     rintro e w1 ⟨rfl, hB⟩
     dsimp only
     go_wp2_with fail
     go_ret
     exact ⟨rfl, hB⟩
  ·have h2i : (16 : Int) < (s.size : Int) := by omega
   obtain rfl := HN.out (.inr (.inl (by omega)))
   clear HN HY
   go_enter func175, ntmps175
   go_wp2_with fail
   go_ret
   exact ⟨rfl, Below.refl _ _⟩
end Go.Proofs.YthbajmlmjjfgpaaGreatDoor
namespace Go.Proofs.YthbajmlmjjfgpaaGreatDoor
open Go.RowKit Go.Less
attribute [local go_sem 9000] sem_eql sem_neq sem_lss sem_leq sem_gtr sem_geq
theorem rightName_any (s : ByteArray) (w : World) (hs : s.size <= 140737488355328) : Calls prog 139 #[.string s] w λe w' => e = .returned (.bool (Nm.right s.data.toList)) /\ Below w.heap.size w w' := by
 go_enter func139, ntmps139
 go_wp2_with fail
 refine (right_any s _ hs).mono ?_
 rintro e w1 ⟨rfl, hB⟩
 dsimp only
 go_wp2_with fail
 go_ret
 exact ⟨rfl, hB⟩
structure BW (w : World) (cs : Array Value) (nm : ByteArray) (W : World) : Prop where
 br : BR w w.heap.size (w.heap.size + 2) cs W
 nmc : W.heap[w.heap.size + 1]? = some (.cells #[.string nm] 9 (0, 0))
theorem BW.kept {w : World} {cs : Array Value} {nm : ByteArray} {W W' : World} (h : BW w cs nm W) (hb : Below W.heap.size W W') : BW w cs nm W' :=
 ⟨h.br.kept hb, (hb.block _ (lt_of_obj h.nmc)).trans h.nmc⟩
theorem BW.grown {w : World} {cs : Array Value} {nm : ByteArray} {W W' : World} {row : Option Nat} (h : BW w cs nm W) (hg : W.grownBy W' row) (hrow : ∀ k, row = some k -> w.heap.size + 3 <= k) : BW w cs nm W' :=
 ⟨h.br.grown hg (λk hk => by have := hrow k hk; exact ⟨by omega, by omega, by omega⟩), grown_obj hg h.nmc (λe => by have := hrow _ e.symm; omega)⟩
theorem BW.set4 {w : World} {v0 v1 v2 v3 v4 : Value} {nm : ByteArray} {W : World} (h : BW w #[v0, v1, v2, v3, v4] nm W) (v : Value) : BW w #[v0, v1, v2, v3, v] nm (W.setCell ⟨w.heap.size, 4, none⟩ v) :=
 ⟨h.br.set4 v, by rw [heap_setCell_other W ⟨w.heap.size, 4, none⟩ (w.heap.size + 1) _ (by show w.heap.size + 1 ≠ w.heap.size; omega)]; exact h.nmc⟩
theorem BW.set5 {w : World} {x0 x1 x2 x3 x4 : Value} {nm : ByteArray} {W : World} (h : BW w #[x0, x1, x2, x3, x4] nm W) (v0 v1 v2 v3 v4 : Value) :
  BW w #[v0, v1, v2, v3, v4] nm (((((W.setCell ⟨w.heap.size, 0, none⟩ v0).setCell ⟨w.heap.size, 1, none⟩ v1).setCell ⟨w.heap.size, 2, none⟩ v2).setCell ⟨w.heap.size, 3, none⟩ v3).setCell ⟨w.heap.size, 4, none⟩ v4) := by
 have hne : w.heap.size + 1 ≠ w.heap.size := by omega
 refine ⟨h.br.set5 v0 v1 v2 v3 v4, ?_⟩
 rw [heap_setCell_other _ ⟨w.heap.size, 4, none⟩ _ _ hne, heap_setCell_other _ ⟨w.heap.size, 3, none⟩ _ _ hne, heap_setCell_other _ ⟨w.heap.size, 2, none⟩ _ _ hne, heap_setCell_other _ ⟨w.heap.size, 1, none⟩ _ _ hne, heap_setCell_other _ ⟨w.heap.size, 0, none⟩ _ _ hne]
 exact h.nmc
theorem getBW {w : World} {v u : Value} {cs : Array Value} {nm : ByteArray} {W : World} (h : W.cell? ⟨w.heap.size, 4, none⟩ = some v /\ W.cell? ⟨w.heap.size + 1, 0, none⟩ = some u /\ BW w cs nm W) : BW w cs nm W := h.2.2
theorem BW.all {w : World} {v0 v1 v2 v3 v4 : Value} {nm : ByteArray} {W : World} (h : BW w #[v0, v1, v2, v3, v4] nm W) : W.cell? ⟨w.heap.size, 4, none⟩ = some v4 /\ W.cell? ⟨w.heap.size + 1, 0, none⟩ = some (.string nm) /\ BW w #[v0, v1, v2, v3, v4] nm W :=
 ⟨cell_obj h.br.box 4, cell_obj h.nmc 0, h⟩
theorem bw_start (w : World) (v0 v1 v2 v3 v4 : Value) (nm : ByteArray) : BW w #[v0, v1, v2, v3, v4] nm (((w.alloc (.cells #[v0, v1, v2, v3, v4] 67)).alloc (.cells #[.string nm] 9)).alloc (.cells #[.int .i64 0, .int .i64 0, .string ⟨#[]⟩, .string ⟨#[]⟩, .slice none 0 0] 67)) := by
 have hb := below_one ((w.alloc (.cells #[v0, v1, v2, v3, v4] 67)).alloc (.cells #[.string nm] 9)) (.cells #[.int .i64 0, .int .i64 0, .string ⟨#[]⟩, .string ⟨#[]⟩, .slice none 0 0] 67)
 have hb0 := ((Below.refl _ w).alloc (Nat.le_refl _) (.cells #[v0, v1, v2, v3, v4] 67)).alloc (by simp) (.cells #[.string nm] 9)
 have h2 := heap_alloc_new ((w.alloc (.cells #[v0, v1, v2, v3, v4] 67)).alloc (.cells #[.string nm] 9)) (.cells #[.int .i64 0, .int .i64 0, .string ⟨#[]⟩, .string ⟨#[]⟩, .slice none 0 0] 67)
 rw [show ((w.alloc (.cells #[v0, v1, v2, v3, v4] 67)).alloc (.cells #[.string nm] 9)).heap.size = w.heap.size + 2 from by simp] at h2
 exact ⟨⟨(hb.block _ (lt_of_obj (two0 w _ _))).trans (two0 _ _ _), h2, ⟨Nat.le_refl _, by omega, by omega⟩, hb0.trans (hb.mono hb0.size)⟩, (hb.block _ (lt_of_obj (two1 w _ _))).trans (two1 _ _ _)⟩
theorem ne_own {b : Nat} {ao : Option Addr} {n c : Nat} {l : List En} {w : World} (h : Own b (.slice ao n c) l w) : some w.heap.size ≠ (Value.slice ao n c).ownBlock := λe => by
 have := (World.ownsRow.lt h _ e.symm).2
 omega
theorem withE_name {m : Int} {d t : ByteArray} {l : List En} {nm : ByteArray} {i : Int} (h : Nm.right nm.data.toList = false) : Nd.withE less Nm.right ⟨2, m, d, t, l⟩ nm i = (Nd.none0, 14) := by
 unfold Nd.withE; rw [if_neg (by simp), if_pos (show Nm.right (Nd.bs nm) = false from h)]
theorem withE_there {m : Int} {d t : ByteArray} {l : List En} {nm : ByteArray} {i : Int} (h : Nm.right nm.data.toList = true) (h2 : (Nd.find l nm).isSome = true) : Nd.withE less Nm.right ⟨2, m, d, t, l⟩ nm i = (Nd.none0, 5) := by
 unfold Nd.withE; rw [if_neg (by simp), if_neg (by show ¬ Nm.right nm.data.toList = false; rw [h]; simp), if_pos h2]
theorem withE_long {m : Int} {d t : ByteArray} {l : List En} {nm : ByteArray} {i : Int} (h : Nm.right nm.data.toList = true) (h2 : (Nd.find l nm).isSome = false) (h3 : 64 <= l.length) : Nd.withE less Nm.right ⟨2, m, d, t, l⟩ nm i = (Nd.none0, 3) := by
 unfold Nd.withE; rw [if_neg (by simp), if_neg (by show ¬ Nm.right nm.data.toList = false; rw [h]; simp), if_neg (by rw [h2]; simp), if_pos h3]
theorem withE_yes {m : Int} {d t : ByteArray} {l : List En} {nm : ByteArray} {i : Int} (h : Nm.right nm.data.toList = true) (h2 : (Nd.find l nm).isSome = false) (h3 : ¬ 64 <= l.length) : Nd.withE less Nm.right ⟨2, m, d, t, l⟩ nm i = (⟨2, m, d, t, l.take (Nd.place (notLs nm) l) ++ (nm, i) :: l.drop (Nd.place (notLs nm) l)⟩, 0) := by
 unfold Nd.withE; rw [if_neg (by simp), if_neg (by show ¬ Nm.right nm.data.toList = false; rw [h]; simp), if_neg (by rw [h2]; simp), if_neg h3]
 show (Nd.Node.mk 2 m d t (Nd.ins less l nm i), (0 : Int)) = _
 rw [Nd.ins_place]; rfl
def rte (l : List En) : Bool := decide (l.length <= 64) && ndg l
theorem rightEntries_any (a : Option Addr) (n cap : Nat) (l : List En) (w : World) (hE : Ents a n l w) (hn : n <= 1000000) (hs : ∀ j, j < n -> (l.getD j z0).1.size <= 100000) :
  Calls prog 138 #[.slice a n cap] w (Samed (rte l) w) := by
 have HNL := hid hE.count
 have hni : (n : Int) <= 1000000 := by omega
 have HE := hid (λW (hb : Below w.heap.size w W) => hE.below hb)
 have HS := hid hs
 have HF := hid (show ∀ b W, rte l = b -> Below w.heap.size w W -> Samed (rte l) w (.returned (.bool b)) W from λb W h hb => by rw [h]; exact ⟨rfl, hb⟩)
 clear hE hs
 by_cases e3 : 64 < n
 ·have HR := hid (show rte l = false by unfold rte; rw [decide_eq_false (p := l.length <= 64) (by have := HNL.out; omega)]; rfl)
  have e3i : (64 : Int) < (n : Int) := by omega
  clear e3
  go_enter func138, ntmps138
  go_wp2_with fail
  go_ret
  exact HF.out _ _ HR.out (Below.refl _ _)
 have HP2 := hid (show rte l = ndg l by unfold rte; rw [decide_eq_true (by have := HNL.out; omega)]; rfl)
 have e3i : ¬ (64 : Int) < (n : Int) := by omega
 clear e3
 go_enter func138, ntmps138
 go_wp2_with fail
 go_loopw [10] (λi wr => (∃ j : Nat, j <= n /\ i = .int .i64 j /\ ndg (l.take j) = true) /\ Below w.heap.size w wr) (λi _ => n - (intOf i).toNat)
 case atStart => exact ⟨⟨0, Nat.zero_le _, rfl, rfl⟩, Below.refl _ _⟩
 case round =>
  obtain ⟨⟨j, hj, rfl, hg⟩, hb⟩ := hrel
  have HB := hid hb
  by_cases hlt : j < n
  ·have j0 : (j : Int) < (n : Int) := by omega
   have hj0 : (0 : Int) <= (j : Int) := by omega
   have hjl : j < l.length := by rw [<- HNL.out]; exact hlt
   obtain ⟨b, off, rfl, c0, c1⟩ := (HE.out _ hb).cell j hlt
   have hsz := HS.out j hlt
   obtain ⟨x, hxe⟩ : ∃ x, x = l.getD j z0 := ⟨_, rfl⟩
   rw [<- hxe] at c0 c1 hsz
   have HM := hid (λho ha => ndg_more hjl hg hxe ho ha)
   have HBad := hid (λho => ndg_bad hjl hxe ho)
   have HLow := hid (λha => ndg_low hjl hxe ha)
   have HAft := hid (λh0 => after_succ hjl h0 x)
   have HRx := hid (λW => rightName_any x.1 W (by omega))
   have HO := hid (nm_ok x)
   clear hxe hg hsz
   have HNw := hid (heap_alloc_new wr (oc x))
   have HBA := hid (show Below w.heap.size w (wr.alloc (oc x)) from hb.alloc hb.size _)
   cases hr : Nm.right x.1.data.toList
   ·rw [hr] at HRx HO
    have HR := hid (show rte l = false by rw [HP2.out, HBad.out (by rw [HO.out]; rfl)])
    clear HM HBad HLow HAft HO HP2 hr
    go_wp2_with fail
    refine (HRx.out _).mono ?_
    rintro e w2 ⟨rfl, hw2⟩
    have HB2 := hid (HBA.out.trans (hw2.mono HBA.out.size))
    clear hw2
    dsimp only
    go_wp2_with fail
    go_ret
    exact HF.out _ _ HR.out HB2.out
   rw [hr] at HRx HO
   clear hr
   by_cases i1 : x.2 < 1
   ·have HR := hid (show rte l = false by rw [HP2.out, HBad.out (by rw [HO.out, decide_eq_false (p := 1 <= x.2) (by omega)]; rfl)])
    clear HM HBad HLow HAft HO HP2
    go_wp2_with fail
    refine (HRx.out _).mono ?_
    rintro e w2 ⟨rfl, hw2⟩
    have e1 : w2.cell? ⟨wr.heap.size, 1, none⟩ = some (.int .i64 x.2) := (hw2.cell (p := ⟨wr.heap.size, 1, none⟩) (lt_of_obj HNw.out)).trans (cell_obj HNw.out 1)
    have HB2 := hid (HBA.out.trans (hw2.mono HBA.out.size))
    clear hw2
    dsimp only
    go_wp2_with fail
    go_ret
    exact HF.out _ _ HR.out HB2.out
   have d1 : decide (x.2 < 1) = false := decide_eq_false i1
   by_cases i2 : 2147483647 < x.2
   ·have HR := hid (show rte l = false by rw [HP2.out, HBad.out (by rw [HO.out, decide_eq_false (p := x.2 <= 2147483647) (by omega)]; simp)])
    clear HM HBad HLow HAft HO HP2
    go_wp2_with fail
    refine (HRx.out _).mono ?_
    rintro e w2 ⟨rfl, hw2⟩
    have e1 : w2.cell? ⟨wr.heap.size, 1, none⟩ = some (.int .i64 x.2) := (hw2.cell (p := ⟨wr.heap.size, 1, none⟩) (lt_of_obj HNw.out)).trans (cell_obj HNw.out 1)
    have HB2 := hid (HBA.out.trans (hw2.mono HBA.out.size))
    clear hw2
    dsimp only
    go_wp2_with fail
    go_ret
    exact HF.out _ _ HR.out HB2.out
   have HK := hid (show Nd.entOk Nm.right x = true by rw [HO.out, decide_eq_true (p := 1 <= x.2) (by omega), decide_eq_true (p := x.2 <= 2147483647) (by omega)]; rfl)
   have d2 : decide (2147483647 < x.2) = false := decide_eq_false i2
   clear HO HBad
   by_cases hj1 : j = 0
   ·have hjb : decide (0 < j) = false := decide_eq_false (by omega)
    have HG := hid (HM.out HK.out (by rw [hj1]; exact after_zero l x))
    clear HM HLow HAft HK hj1
    go_wp2_with fail
    refine (HRx.out _).mono ?_
    rintro e w2 ⟨rfl, hw2⟩
    have e1 : w2.cell? ⟨wr.heap.size, 1, none⟩ = some (.int .i64 x.2) := (hw2.cell (p := ⟨wr.heap.size, 1, none⟩) (lt_of_obj HNw.out)).trans (cell_obj HNw.out 1)
    have HB2 := hid (HBA.out.trans (hw2.mono HBA.out.size))
    clear hw2
    dsimp only
    go_wp2_with fail
    go_quiet (fail)
    go_wp2_with fail
    exact ⟨⟨⟨j + 1, by omega, by go_num, HG.out⟩, bdn HB2.out _⟩, by simp [intOf]; omega⟩
   obtain ⟨i, rfl⟩ : ∃ i, j = i + 1 := ⟨j - 1, by omega⟩
   obtain ⟨b', off', eb, p0, p1⟩ := (HE.out _ hb).cell i (by omega)
   obtain ⟨rfl, rfl⟩ : b' = b /\ off' = off := by cases eb; exact ⟨rfl, rfl⟩
   have HA2 := hid (HAft.out (by omega))
   rw [show i + 1 - 1 = i from rfl] at HA2
   obtain ⟨y, hye⟩ : ∃ y, y = l.getD i z0 := ⟨_, rfl⟩
   rw [<- hye] at p0 p1 HA2
   clear hye HAft eb hj1
   have hi0 : (0 : Int) <= (i : Int) := by omega
   have hin : (i : Int) < (n : Int) := by omega
   have hwr : IntKind.i64.wrap (i : Int) = (i : Int) := IntWalk.i64_in _ (by omega)
   have q0 : (wr.alloc (oc x)).cell? ⟨b', off' + i * 2, none⟩ = some (.string y.1) := (((Below.refl _ wr).alloc (Nat.le_refl _) _).cell (p := ⟨b', off' + i * 2, none⟩) (block_lt_of_cell p0)).trans p0
   cases hly : less y.1 x.1
   ·rw [hly] at HA2
    have HR := hid (show rte l = false by rw [HP2.out, HLow.out HA2.out])
    clear HM HLow HP2 HK HA2
    go_wp2_with fail
    refine (HRx.out _).mono ?_
    rintro e w2 ⟨rfl, hw2⟩
    have e0 : w2.cell? ⟨wr.heap.size, 0, none⟩ = some (.string x.1) := (hw2.cell (p := ⟨wr.heap.size, 0, none⟩) (lt_of_obj HNw.out)).trans (cell_obj HNw.out 0)
    have e1 : w2.cell? ⟨wr.heap.size, 1, none⟩ = some (.int .i64 x.2) := (hw2.cell (p := ⟨wr.heap.size, 1, none⟩) (lt_of_obj HNw.out)).trans (cell_obj HNw.out 1)
    have HB2 := hid (HBA.out.trans (hw2.mono HBA.out.size))
    have q2 : w2.cell? ⟨b', off' + i * 2, none⟩ = some (.string y.1) := (hw2.cell (p := ⟨b', off' + i * 2, none⟩) (block_lt_of_cell q0)).trans q0
    clear hw2
    dsimp only
    go_wp2_with fail
    go_quiet (fail)
    go_wp2_with fail
    go_ret
    exact HF.out _ _ HR.out (bdn HB2.out _)
   ·rw [hly] at HA2
    have HG := hid (HM.out HK.out HA2.out)
    clear HM HLow HK HA2
    go_wp2_with fail
    refine (HRx.out _).mono ?_
    rintro e w2 ⟨rfl, hw2⟩
    have e0 : w2.cell? ⟨wr.heap.size, 0, none⟩ = some (.string x.1) := (hw2.cell (p := ⟨wr.heap.size, 0, none⟩) (lt_of_obj HNw.out)).trans (cell_obj HNw.out 0)
    have e1 : w2.cell? ⟨wr.heap.size, 1, none⟩ = some (.int .i64 x.2) := (hw2.cell (p := ⟨wr.heap.size, 1, none⟩) (lt_of_obj HNw.out)).trans (cell_obj HNw.out 1)
    have HB2 := hid (HBA.out.trans (hw2.mono HBA.out.size))
    have q2 : w2.cell? ⟨b', off' + i * 2, none⟩ = some (.string y.1) := (hw2.cell (p := ⟨b', off' + i * 2, none⟩) (block_lt_of_cell q0)).trans q0
    clear hw2
    dsimp only
    go_wp2_with fail
    go_quiet (fail)
    go_wp2_with fail
    exact ⟨⟨⟨i + 1 + 1, by omega, by go_num, HG.out⟩, bdn HB2.out _⟩, by simp [intOf]; omega⟩
  ·obtain rfl : j = n := by omega
   have HR := hid (show rte l = true by rw [HP2.out]; rw [HNL.out, List.take_length] at hg; exact hg)
   clear hg hb
   go_wp2_with fail
   go_ret
   exact HF.out _ _ HR.out HB.out
theorem scope_fwd {P : Program} {a : Act} {w : World} {Q : Exit -> Act -> World -> Prop} {c rest : Code} (l : Nat) (hf : findLabel c l = some (Code.skip.seq rest))
  (first : c.wp P (Exit.jump l (λa' w' => rest.wp P (Exit.jump l (λ_ _ => False) Q) a' w') Q) a w) : (Code.scope c).wp P Q a w :=
 wp_scope_jumps l (λa' w' => rest.wp P (Exit.jump l (λ_ _ => False) Q) a' w') (λ_ _ => 0) hf first
  (λa w hj => wp_seq (wp_skip (Code.wp_mono (λe a w h => by cases e <;> first | exact h | exact h.2.elim) hj)))
theorem ndr_P (k m : Int) (d t : ByteArray) (l : List En) : ndr k m d t l = (decide (0 <= m) && decide (m <= 511) &&
  (if k = 1 then decide (d.size <= 4096) && isE t && decide (l.length = 0) else if k = 2 then isE d && isE t && rte l else decide (k = 3) && isE d && !isE t && decide (t.size <= 64) && decide (l.length = 0))) := Nd.right_P _
theorem ndr_low {k m : Int} {d t : ByteArray} {l : List En} (h : m < 0 \/ 511 < m) : ndr k m d t l = false := by
 rw [ndr_P]
 rcases h with h | h
 ·rw [decide_eq_false (by omega)]; rfl
 ·rw [decide_eq_false (p := m <= 511) (by omega)]; simp
theorem ndr_in {k m : Int} {d t : ByteArray} {l : List En} (h0 : ¬ m < 0) (h1 : ¬ 511 < m) : ndr k m d t l = (if k = 1 then decide (d.size <= 4096) && isE t && decide (l.length = 0) else if k = 2 then isE d && isE t && rte l else decide (k = 3) && isE d && !isE t && decide (t.size <= 64) && decide (l.length = 0)) := by
 rw [ndr_P, decide_eq_true (show 0 <= m by omega), decide_eq_true (show m <= 511 by omega)]; rfl
theorem node_any (k m : Int) (d t : ByteArray) (a : Option Addr) (n cap : Nat) (l : List En) (w : World) (hE : Ents a n l w) (hn : n <= 1000000) (hs : ∀ j, j < n -> (l.getD j z0).1.size <= 100000) :
  Calls prog 99 #[nv k m d t a n cap] w (Samed (ndr k m d t l) w) := by
 have HNL := hid hE.count
 have HB0 := hid (show ∀ x : Obj, Below w.heap.size w (w.alloc x) from λx => (Below.refl _ w).alloc (Nat.le_refl _) _)
 have HF := hid (show ∀ b W, ndr k m d t l = b -> Below w.heap.size w W -> Samed (ndr k m d t l) w (.returned (.bool b)) W from λb W h hb => by rw [h]; exact ⟨rfl, hb⟩)
 have HRe := hid (show ∀ W, Below w.heap.size w W -> Calls prog 138 #[.slice a n cap] W (Samed (rte l) W) from λW hb => rightEntries_any a n cap l W (hE.below hb) hn hs)
 have HZ := hid (show decide (l.length = 0) = decide (n = 0) by rw [<- HNL.out])
 have HT := hid (show alike t ⟨#[]⟩ = isE t from rfl)
 have HD := hid (show alike d ⟨#[]⟩ = isE d from rfl)
 clear hE hs
 by_cases e1 : m < 0
 ·have HR := hid (ndr_low (k := k) (d := d) (t := t) (l := l) (.inl e1))
  go_enter func99, ntmps99
  go_wp2_with fail
  refine scope_fwd 0 rfl ?_
  go_wp2_with fail
  simp only [Exit.jump]
  go_ret
  exact HF.out _ _ HR.out (HB0.out _)
 by_cases e2 : 511 < m
 ·have HR := hid (ndr_low (k := k) (d := d) (t := t) (l := l) (.inr e2))
  go_enter func99, ntmps99
  go_wp2_with fail
  refine scope_fwd 0 rfl ?_
  go_wp2_with fail
  simp only [Exit.jump]
  go_ret
  exact HF.out _ _ HR.out (HB0.out _)
 have HI := hid (ndr_in (k := k) (d := d) (t := t) (l := l) e1 e2)
 by_cases k1 : k = 1
 ·subst k1
  rw [if_pos rfl] at HI
  rcases Nat.lt_or_ge 4096 d.size with hd | hd
  ·have hdi : (4096 : Int) < (d.size : Int) := by omega
   have HR := hid (HI.out.trans (show _ = false by rw [decide_eq_false (p := d.size <= 4096) (by omega)]; rfl))
   clear hd
   go_enter func99, ntmps99
   go_wp2_with fail
   refine scope_fwd 0 rfl ?_
   go_wp2_with fail
   refine wp_goto ?_
   refine ⟨rfl, ?_⟩
   go_wp2_with fail
   simp only [Exit.jump]
   go_ret
   exact HF.out _ _ HR.out (HB0.out _)
  have hdi : (d.size : Int) <= 4096 := by omega
  cases tE : alike t ⟨#[]⟩
  ·have HR := hid (HI.out.trans (show _ = false by rw [<- HT.out, tE]; simp))
   clear hd
   go_enter func99, ntmps99
   go_wp2_with fail
   refine scope_fwd 0 rfl ?_
   go_wp2_with fail
   refine wp_goto ?_
   refine ⟨rfl, ?_⟩
   go_wp2_with fail
   simp only [Exit.jump]
   go_ret
   exact HF.out _ _ HR.out (HB0.out _)
  have HR := hid (show ndr 1 m d t l = decide ((n : Int) = 0) by rw [HI.out, decide_eq_true hd, <- HT.out, tE, HZ.out]; simp)
  clear hd
  go_enter func99, ntmps99
  go_wp2_with fail
  refine scope_fwd 0 rfl ?_
  go_wp2_with fail
  refine wp_goto ?_
  refine ⟨rfl, ?_⟩
  go_wp2_with fail
  simp only [Exit.jump]
  go_ret
  exact HF.out _ _ HR.out (HB0.out _)
 by_cases k2 : k = 2
 ·subst k2
  rw [if_neg (by omega), if_pos rfl] at HI
  cases dE : alike d ⟨#[]⟩
  ·have HR := hid (HI.out.trans (show _ = false by rw [<- HD.out, dE]; simp))
   go_enter func99, ntmps99
   go_wp2_with fail
   refine scope_fwd 1 rfl ?_
   go_wp2_with fail
   refine wp_goto ?_
   refine ⟨rfl, ?_⟩
   go_wp2_with fail
   simp only [Exit.jump]
   go_ret
   exact HF.out _ _ HR.out (HB0.out _)
  cases tE : alike t ⟨#[]⟩
  ·have HR := hid (HI.out.trans (show _ = false by rw [<- HT.out, tE]; simp))
   go_enter func99, ntmps99
   go_wp2_with fail
   refine scope_fwd 1 rfl ?_
   go_wp2_with fail
   refine wp_goto ?_
   refine ⟨rfl, ?_⟩
   go_wp2_with fail
   simp only [Exit.jump]
   go_ret
   exact HF.out _ _ HR.out (HB0.out _)
  have HR := hid (show ndr 2 m d t l = rte l by rw [HI.out, <- HD.out, dE, <- HT.out, tE]; rfl)
  go_enter func99, ntmps99
  go_wp2_with fail
  refine scope_fwd 1 rfl ?_
  go_wp2_with fail
  refine wp_goto ?_
  refine ⟨rfl, ?_⟩
  go_wp2_with fail
  refine (HRe.out _ (HB0.out _)).mono ?_
  rintro e w1 ⟨rfl, hw1⟩
  have HB1 := hid ((HB0.out _).trans (hw1.mono (HB0.out _).size))
  clear hw1
  dsimp only
  go_wp2_with fail
  simp only [Exit.jump]
  go_ret
  exact HF.out _ _ HR.out HB1.out
 by_cases k3 : k = 3
 ·subst k3
  rw [if_neg (by omega), if_neg (by omega), decide_eq_true rfl, Bool.true_and] at HI
  cases dE : alike d ⟨#[]⟩
  ·have HR := hid (HI.out.trans (show _ = false by rw [<- HD.out, dE]; simp))
   go_enter func99, ntmps99
   go_wp2_with fail
   refine scope_fwd 2 rfl ?_
   go_wp2_with fail
   refine wp_goto ?_
   refine ⟨rfl, ?_⟩
   go_wp2_with fail
   simp only [Exit.jump]
   go_ret
   exact HF.out _ _ HR.out (HB0.out _)
  cases tE : alike t ⟨#[]⟩
  case true =>
   have HR := hid (HI.out.trans (show _ = false by rw [<- HT.out, tE]; simp))
   go_enter func99, ntmps99
   go_wp2_with fail
   refine scope_fwd 2 rfl ?_
   go_wp2_with fail
   refine wp_goto ?_
   refine ⟨rfl, ?_⟩
   go_wp2_with fail
   simp only [Exit.jump]
   go_ret
   exact HF.out _ _ HR.out (HB0.out _)
  rcases Nat.lt_or_ge 64 t.size with h2 | h2
  ·have h2i : (64 : Int) < (t.size : Int) := by omega
   have HR := hid (HI.out.trans (show _ = false by rw [decide_eq_false (p := t.size <= 64) (by omega)]; simp))
   clear h2
   go_enter func99, ntmps99
   go_wp2_with fail
   refine scope_fwd 2 rfl ?_
   go_wp2_with fail
   refine wp_goto ?_
   refine ⟨rfl, ?_⟩
   go_wp2_with fail
   simp only [Exit.jump]
   go_ret
   exact HF.out _ _ HR.out (HB0.out _)
  have h2i : (t.size : Int) <= 64 := by omega
  have HR := hid (show ndr 3 m d t l = decide ((n : Int) = 0) by rw [HI.out, <- HD.out, dE, <- HT.out, tE, decide_eq_true h2, HZ.out]; simp)
  clear h2
  go_enter func99, ntmps99
  go_wp2_with fail
  refine scope_fwd 2 rfl ?_
  go_wp2_with fail
  refine wp_goto ?_
  refine ⟨rfl, ?_⟩
  go_wp2_with fail
  simp only [Exit.jump]
  go_ret
  exact HF.out _ _ HR.out (HB0.out _)
 have HR := hid (HI.out.trans (show _ = false by rw [if_neg k1, if_neg k2, decide_eq_false k3]; rfl))
 go_enter func99, ntmps99
 go_wp2_with fail
 refine scope_fwd 0 rfl ?_
 go_wp2_with fail
 simp only [Exit.jump]
 go_ret
 exact HF.out _ _ HR.out (HB0.out _)
end Go.Proofs.YthbajmlmjjfgpaaGreatDoor
