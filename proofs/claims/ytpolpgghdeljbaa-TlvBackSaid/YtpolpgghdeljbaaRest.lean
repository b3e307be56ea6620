/- TlvRest walked. -/
import Derived.Test.YtpolpgghdeljbaaAwake
import Derived.Test.YtpolpgghdeljbaaFacts
namespace Go.Proofs.Ytpolpgghdeljbaa
open Go.RowKit Crc

theorem sameR_self (a b : Int) (p : List UInt8) : sameR (a, b, p) (a, b, p) = true := decide_eq_true rfl
theorem eql_self (W : World) (a b : Int) (p : List UInt8) : (binOp .eql 38 (.agg #[.int .i64 a, .int .i64 b, .string (lstr p)]) (.agg #[.int .i64 a, .int .i64 b, .string (lstr p)])).run Try.prog W = .ok (.bool true) W := by rw [eql_rec, sameR_self]
theorem eql_zero (W : World) : (binOp .eql 38 (.agg zc) (.agg zc)).run Try.prog W = .ok (.bool true) W := eql_self W 0 0 []
/-- Are two texts the same? Closed to the walk's simp. -/
def alike (a b : List UInt8) : Bool := decide (a = b)
theorem sem_alike (t : TypeId) (a b : List UInt8) : binOp .eql t (.string (lstr a)) (.string (lstr b)) = pure (.bool (alike a b)) := by rw [binOp_string_eql, str_same]; rfl

theorem parsed_bytes (x : Tlv.R) (h : Tlv.fits x) (m : List UInt8) : parsed (Tlv.bytes x ++ m) = (x, m, 0) := by
  unfold parsed
  rw [Tlv.take_bytes x h m, if_pos rfl, ← Tlv.bytes_len x, List.drop_left]
theorem parsed_short (x : Tlv.R) (h : Tlv.fits x) (j : Nat) (hj : j < x.2.2.length + 11) : parsed ((Tlv.bytes x).take j) = (Tlv.z, [], 4) := by
  unfold parsed
  rw [Tlv.take_short x h j hj, if_neg (by simp)]
/-- A record's block. -/
def Box (w : World) (b : Nat) (x : Tlv.R) : Prop := w.heap[b]? = some (.cells (rc x) 38 (0, 0))
theorem Box.below {w w' : World} {b : Nat} {x : Tlv.R} (h : Box w b x) (hb : Below w.heap.size w w') : Box w' b x := (hb.block b (lt_of_block h)).trans h
theorem Box.alloc {w : World} {b : Nat} {x : Tlv.R} (h : Box w b x) (o : Obj) : Box (w.alloc o) b x := h.below ((Below.refl _ _).alloc (Nat.le_refl _) o)
theorem Box.c0 {w : World} {b : Nat} {x : Tlv.R} (h : Box w b x) : w.cell? ⟨b, 0, none⟩ = some (.int .i64 x.1) := cell_block h 0
theorem Box.c1 {w : World} {b : Nat} {x : Tlv.R} (h : Box w b x) : w.cell? ⟨b, 1, none⟩ = some (.int .i64 x.2.1) := cell_block h 1
theorem Box.c2 {w : World} {b : Nat} {x : Tlv.R} (h : Box w b x) : w.cell? ⟨b, 2, none⟩ = some (.string (lstr x.2.2)) := cell_block h 2
attribute [local go_sem 9000] eql_rec sem_streq sem_alike
attribute [local go_sem 9500] eql_self eql_zero sameR_self

set_option maxRecDepth 100000 in
set_option maxHeartbeats 4000000 in
theorem rest_any (x y : Tlv.R) (m : ByteArray) (c : Int) (w : World) :
    Calls Try.prog 5 #[rv x, rv y, .string m, .int .i64 c] w fun e w' => e = .returned (.bool true) ∧ Below w.heap.size w w' := by
  have hB0 := ((Below.refl w.heap.size w).alloc (Nat.le_refl _) (.cells (rc x) 38)).alloc (by simp) (.cells (rc y) 38)
  have hx0 := (Below.heap_alloc (w.alloc (.cells (rc x) 38)) (.cells (rc y) 38) w.heap.size (by simp)).trans (heap_alloc_new w (.cells (rc x) 38))
  have hy0 := heap_alloc_new (w.alloc (.cells (rc x) 38)) (.cells (rc y) 38)
  rw [show (w.alloc (.cells (rc x) 38)).heap.size = w.heap.size + 1 by simp] at hy0
  have hl0 : w.heap.size + 1 < ((w.alloc (.cells (rc x) 38)).alloc (.cells (rc y) 38)).heap.size := by simp
  have hpx : (lstr x.2.2).size = x.2.2.length := lstr_size _
  have hpy : (lstr y.2.2).size = y.2.2.length := lstr_size _
  go_enter Try.func5, Try.ntmps5
  go_wp2_with fail
  generalize (w.alloc (.cells (rc x) 38)).alloc (.cells (rc y) 38) = W at hB0 hx0 hy0 hl0 ⊢
  refine (awake_any _).mono ?_
  rintro e W1 ⟨rfl, hA⟩
  have hB1 := hB0.trans (hA.mono hB0.size)
  have hx1 := (hA.block _ (by omega)).trans hx0
  have hy1 := (hA.block _ hl0).trans hy0
  have hl1 := Nat.lt_of_lt_of_le hl0 hA.size
  have x0 := cell_block hx1 0
  have x1 := cell_block hx1 1
  have x2 := cell_block hx1 2
  have y0 := cell_block hy1 0
  have y1 := cell_block hy1 1
  have y2 := cell_block hy1 2
  change W1.cell? ⟨w.heap.size, 0, none⟩ = some (.int .i64 x.1) at x0
  change W1.cell? ⟨w.heap.size, 1, none⟩ = some (.int .i64 x.2.1) at x1
  change W1.cell? ⟨w.heap.size, 2, none⟩ = some (.string (lstr x.2.2)) at x2
  change W1.cell? ⟨w.heap.size + 1, 0, none⟩ = some (.int .i64 y.1) at y0
  change W1.cell? ⟨w.heap.size + 1, 1, none⟩ = some (.int .i64 y.2.1) at y1
  change W1.cell? ⟨w.heap.size + 1, 2, none⟩ = some (.string (lstr y.2.2)) at y2
  clear hA hB0 hx0 hy0 hl0
  dsimp only
  by_cases h1 : 9000 < x.2.2.length
  · have h1' : (9000 : Int) < (x.2.2.length : Int) := by omega
    go_wp2_with fail
    go_ret
    exact ⟨rfl, hB1⟩
  · have h1' : (x.2.2.length : Int) ≤ 9000 := by omega
    by_cases h2 : 9000 < y.2.2.length
    · have h2' : (9000 : Int) < (y.2.2.length : Int) := by omega
      go_wp2_with fail
      go_ret
      exact ⟨rfl, hB1⟩
    · have h2' : (y.2.2.length : Int) ≤ 9000 := by omega
      by_cases h3 : 2000 < m.size
      · have h3' : (2000 : Int) < (m.size : Int) := by omega
        go_wp2_with fail
        go_ret
        exact ⟨rfl, hB1⟩
      · have h3' : (m.size : Int) ≤ 2000 := by omega
        by_cases h4 : c < 0
        · go_wp2_with fail
          go_ret
          exact ⟨rfl, hB1⟩
        · have h4' : 0 ≤ c := by omega
          have H14x := Lib.hid (fun V => print_any x V (by omega))
          have H14y := Lib.hid (fun V => print_any y V (by omega))
          have HX : Hid (Box W1 w.heap.size x) := hx1
          have HY : Hid (Box W1 (w.heap.size + 1) y) := hy1
          have hm2 : m.size ≤ 2000 := by omega
          have hx9 : x.2.2.length ≤ 9000 := by omega
          clear h1 h2 h3 h4 hx1 hy1 hl1
          go_wp2_with fail
          refine (H14x.out _).mono ?_
          rintro e W2 ⟨rfl, hA⟩
          have HX2 := Lib.hid (HX.out.below hA)
          have HY2 := Lib.hid (HY.out.below hA)
          have HB2 := Lib.hid (hB1.trans (hA.mono hB1.size))
          have y0' := HY2.out.c0
          have y1' := HY2.out.c1
          have y2' := HY2.out.c2
          clear x0 x1 x2 y0 y1 y2 hB1 hA HX HY H14x
          dsimp only
          go_wp2_with fail
          refine (H14y.out _).mono ?_
          rintro e W3 ⟨rfl, hA⟩
          have HX3 := Lib.hid (HX2.out.below hA)
          have HY3 := Lib.hid (HY2.out.below hA)
          have HB3 := Lib.hid (HB2.out.trans (hA.mono HB2.out.size))
          clear y0' y1' y2' HB2 hA HX2 HY2 H14y
          dsimp only
          by_cases hE : (Tlv.printed x).2 = 0
          · obtain ⟨hfx, hpr⟩ := Tlv.printed_fits hE
            rw [hE, hpr]
            have HFX := Lib.hid hfx
            have hn : (lstr (Tlv.bytes x)).size = x.2.2.length + 11 := by rw [lstr_size, Tlv.bytes_len]
            have hcat : lstr (Tlv.bytes x) ++ m = lstr (Tlv.bytes x ++ m.data.toList) := lstr_append (lstr (Tlv.bytes x)) m.data.toList
            have H15 : Hid (∀ V, Calls Try.prog 15 #[.string (lstr (Tlv.bytes x ++ m.data.toList))] V fun e w' => e = .returned (.tuple #[rv x, .string m, .int .i64 0]) ∧ Below V.heap.size V w') := fun V => by
              have := parse_any (lstr (Tlv.bytes x ++ m.data.toList)) V (by rw [lstr_size, List.length_append, Tlv.bytes_len, Array.length_toList]; show _ + m.size ≤ _; omega)
              rw [lstr_data, parsed_bytes x HFX.out] at this
              exact this
            have hc0 : 0 ≤ c % ((x.2.2.length : Int) + 11) := Int.emod_nonneg _ (by omega)
            have hc1 : c % ((x.2.2.length : Int) + 11) < (x.2.2.length : Int) + 11 := Int.emod_lt_of_pos _ (by omega)
            obtain ⟨a, ha⟩ : ∃ a : Nat, c % ((x.2.2.length : Int) + 11) = (a : Int) := ⟨(c % ((x.2.2.length : Int) + 11)).toNat, by omega⟩
            have ha2 : a < x.2.2.length + 11 := by omega
            have hcut : (lstr (Tlv.bytes x)).extract 0 a = lstr ((Tlv.bytes x).take a) := head_eq (lstr (Tlv.bytes x)) a
            have H15b : Hid (∀ V, Calls Try.prog 15 #[.string (lstr ((Tlv.bytes x).take a))] V fun e w' => e = .returned (.tuple #[.agg zc, .string ⟨#[]⟩, .int .i64 4]) ∧ Below V.heap.size V w') := fun V => by
              have := parse_any (lstr ((Tlv.bytes x).take a)) V (by rw [lstr_size, List.length_take]; omega)
              rw [lstr_data, parsed_short x HFX.out a ha2] at this
              exact this
            have hlim : x.2.2.length + 11 + m.size ≤ 9223372036854775807 := by omega
            have ha3 : (a : Int) < (x.2.2.length : Int) + 11 := by omega
            clear hc0 hc1 ha2 hfx hE hpr
            go_wp2_with fail
            refine (H15.out _).mono ?_
            rintro e W4 ⟨rfl, hA⟩
            have hZ : Box (W4.alloc (.cells (rc x) 38)) W4.heap.size x := heap_alloc_new _ _
            have HZ := Lib.hid hZ
            have HX4 := Lib.hid ((HX3.out.below hA).alloc (.cells (rc x) 38))
            have HY4 := Lib.hid ((HY3.out.below hA).alloc (.cells (rc x) 38))
            have hB4 := HB3.out.trans (hA.mono HB3.out.size)
            have HB4 := Lib.hid (hB4.alloc hB4.size (.cells (rc x) 38))
            clear hB4 HB3 hA HX3 HY3 H15 hcat hZ
            dsimp only
            go_wp2_with fail
            generalize W4.alloc (.cells #[.int .i64 x.1, .int .i64 x.2.1, .string (lstr x.2.2)] 38) = W5 at HZ HX4 HY4 HB4 ⊢
            refine (H15b.out _).mono ?_
            rintro e W6 ⟨rfl, hA⟩
            have HZ6 := Lib.hid ((HZ.out.below hA).alloc (.cells zc 38))
            have HX6 := Lib.hid ((HX4.out.below hA).alloc (.cells zc 38))
            have HY6 := Lib.hid ((HY4.out.below hA).alloc (.cells zc 38))
            have hB6 := HB4.out.trans (hA.mono HB4.out.size)
            have HB6 := Lib.hid (hB6.alloc hB6.size (.cells zc 38))
            have z0 := HZ6.out.c0
            have z1 := HZ6.out.c1
            have z2 := HZ6.out.c2
            have x0 := HX6.out.c0
            have x1 := HX6.out.c1
            have x2 := HX6.out.c2
            have y0 := HY6.out.c0
            have y1 := HY6.out.c1
            have y2 := HY6.out.c2
            clear hB6 HB4 hA HX4 HY4 HZ H15b hcut
            dsimp only
            by_cases hF : (Tlv.printed y).2 = 0
            · obtain ⟨hfy, hpr⟩ := Tlv.printed_fits hF
              rw [hF, hpr]
              have HEQ := Lib.hid (show alike (Tlv.bytes x) (Tlv.bytes y) = sameR x y by
                unfold alike sameR; rw [decide_eq_decide]; exact Tlv.bytes_inj HFX.out hfy)
              clear hF hfy hpr
              go_wp2_with fail
              rw [show (alike (Tlv.bytes x) (Tlv.bytes y) == sameR (x.fst, x.snd.fst, x.snd.snd) (y.fst, y.snd.fst, y.snd.snd)) = true by rw [HEQ.out]; exact beq_self_eq_true _]
              go_ret
              exact ⟨rfl, HB6.out⟩
            · have hF' : ¬ (Tlv.printed y).2 = 0 := hF
              go_wp2_with fail
              go_ret
              exact ⟨rfl, HB6.out⟩
          · have hS : (Tlv.printed x).1 = [] := Tlv.printed_bad hE
            rw [hS, show lstr [] = ⟨#[]⟩ from rfl]
            have hE' : ¬ (Tlv.printed x).2 = 0 := hE
            go_wp2_with fail
            go_ret
            exact ⟨rfl, HB3.out⟩
end Go.Proofs.Ytpolpgghdeljbaa
