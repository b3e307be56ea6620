/- chunk.Fill, at a size or a number of names that it refuses; and all of it. -/
import Derived.Test.YtnapjloapgfcfaaDoorFill
namespace Go.Proofs.YtnapjloapgfcfaaDoor
set_option maxRecDepth 100000
open Go.RowKit Go.Shelf Sha

set_option maxHeartbeats 2000000 in
theorem fill_no (na : Option Addr) (ln cn : Nat) (n : Int) (w : World) (gk : Nat) (lb : Array Value) (R : List UInt8 × Int) (hR : R = ([], 1)) (hn : -9223372036854775808 ≤ n ∧ n ≤ 9223372036854775807) (hln : ln ≤ 140737488355328)
    (hno : n < 0 ∨ 4096 < n ∨ (0 ≤ n ∧ n ≤ 4096 ∧ (ln : Int) ≠ (n + 15) / 16)) :
    Calls Tryd.prog 23 #[.slice na ln cn, .int .i64 n, .func (.func gk) #[] lb] w (Both R w) := by
  have HR := Lib.hid hR
  clear hR
  have b2 := Boxed.new ((w.alloc (.cells #[.slice na ln cn] 35)).alloc (.cells #[.func (.func gk) #[] lb] 42)) 9 (.string ⟨#[]⟩)
  have b3 := Boxed.new (((w.alloc (.cells #[.slice na ln cn] 35)).alloc (.cells #[.func (.func gk) #[] lb] 42)).alloc (.cells #[.string ⟨#[]⟩] 9)) 23 (.int .i64 0)
  have hB3 : Below w.heap.size w ((((w.alloc (.cells #[.slice na ln cn] 35)).alloc (.cells #[.func (.func gk) #[] lb] 42)).alloc (.cells #[.string ⟨#[]⟩] 9)).alloc (.cells #[.int .i64 0] 23)) := ((((Below.refl _ w).alloc (Nat.le_refl _) _).alloc (by simp) _).alloc (by simp; omega) _).alloc (by simp; omega) _
  rw [World.size_alloc, World.size_alloc] at b2
  rw [World.size_alloc, World.size_alloc, World.size_alloc] at b3
  have b2 := b2.alloc (.cells #[.int .i64 0] 23)
  have fin : ∀ nq, Boxed (((((((w.alloc (.cells #[.slice na ln cn] 35)).alloc (.cells #[.func (.func gk) #[] lb] 42)).alloc (.cells #[.string ⟨#[]⟩] 9)).alloc (.cells #[.int .i64 0] 23)).drewN nq).setCell ⟨w.heap.size + 1 + 1, 0, none⟩ (.string ⟨#[]⟩)).setCell ⟨w.heap.size + 1 + 1 + 1, 0, none⟩ (.int .i64 1)) (w.heap.size + 1 + 1) 9 (.string ⟨#[]⟩) ∧ Boxed (((((((w.alloc (.cells #[.slice na ln cn] 35)).alloc (.cells #[.func (.func gk) #[] lb] 42)).alloc (.cells #[.string ⟨#[]⟩] 9)).alloc (.cells #[.int .i64 0] 23)).drewN nq).setCell ⟨w.heap.size + 1 + 1, 0, none⟩ (.string ⟨#[]⟩)).setCell ⟨w.heap.size + 1 + 1 + 1, 0, none⟩ (.int .i64 1)) (w.heap.size + 1 + 1 + 1) 23 (.int .i64 1) ∧ Below w.heap.size w (((((((w.alloc (.cells #[.slice na ln cn] 35)).alloc (.cells #[.func (.func gk) #[] lb] 42)).alloc (.cells #[.string ⟨#[]⟩] 9)).alloc (.cells #[.int .i64 0] 23)).drewN nq).setCell ⟨w.heap.size + 1 + 1, 0, none⟩ (.string ⟨#[]⟩)).setCell ⟨w.heap.size + 1 + 1 + 1, 0, none⟩ (.int .i64 1)) := by
    intro nq
    generalize ((((w.alloc (.cells #[.slice na ln cn] 35)).alloc (.cells #[.func (.func gk) #[] lb] 42)).alloc (.cells #[.string ⟨#[]⟩] 9)).alloc (.cells #[.int .i64 0] 23)) = w3 at hB3 b2 b3 ⊢
    have hB4 := hB3.trans (show Below w.heap.size w3 (w3.drewN nq) from ⟨rfl, rfl, rfl, Nat.le_refl _, fun _ _ => rfl⟩)
    have b2 : Boxed (w3.drewN nq) _ _ _ := b2
    have b3 : Boxed (w3.drewN nq) _ _ _ := b3
    generalize w3.drewN nq = w4 at hB4 b2 b3 ⊢
    exact ⟨(b2.set _).kept (grownBy_setCell' _ _ _) (by simp), (b3.kept (grownBy_setCell' _ _ _) (by simp)).set _, (hB4.setCell (p := ⟨w.heap.size + 1 + 1, 0, none⟩) (by show w.heap.size ≤ w.heap.size + 1 + 1; omega) _).setCell (p := ⟨w.heap.size + 1 + 1 + 1, 0, none⟩) (by show w.heap.size ≤ w.heap.size + 1 + 1 + 1; omega) _⟩
  by_cases h1 : n < 0
  · have d0 : decide (n < 0) = true := by simp [h1]
    go_enter Tryd.func23, Tryd.ntmps23
    go_wp2_with fail
    go_quiet (fail)
    go_wp2_with fail
    refine bodyPost_ret (v := .tuple #[.string ⟨#[]⟩, .int .i64 1]) ?_ rfl ?_
    · have hf2 := b2.frozen
      have c1 := (fin nq).1.cell
      have c2 := (fin nq).2.1.cell
      generalize (((((((w.alloc (.cells #[.slice na ln cn] 35)).alloc (.cells #[.func (.func gk) #[] lb] 42)).alloc (.cells #[.string ⟨#[]⟩] 9)).alloc (.cells #[.int .i64 0] 23)).drewN nq).setCell ⟨w.heap.size + 1 + 1, 0, none⟩ (.string ⟨#[]⟩)).setCell ⟨w.heap.size + 1 + 1 + 1, 0, none⟩ (.int .i64 1)) = W5 at c1 c2 ⊢
      simp [results, Tryd.results23, go_sem, c1, c2]
    · rw [HR.out]
      exact ⟨rfl, (fin nq).2.2⟩
  by_cases h2 : 4096 < n
  · have d0 : decide (n < 0) = false := by simp; omega
    have d1 : decide (4096 < n) = true := by simp [h2]
    go_enter Tryd.func23, Tryd.ntmps23
    go_wp2_with fail
    go_quiet (fail)
    go_wp2_with fail
    refine bodyPost_ret (v := .tuple #[.string ⟨#[]⟩, .int .i64 1]) ?_ rfl ?_
    · have hf2 := b2.frozen
      have c1 := (fin nq).1.cell
      have c2 := (fin nq).2.1.cell
      generalize (((((((w.alloc (.cells #[.slice na ln cn] 35)).alloc (.cells #[.func (.func gk) #[] lb] 42)).alloc (.cells #[.string ⟨#[]⟩] 9)).alloc (.cells #[.int .i64 0] 23)).drewN nq).setCell ⟨w.heap.size + 1 + 1, 0, none⟩ (.string ⟨#[]⟩)).setCell ⟨w.heap.size + 1 + 1 + 1, 0, none⟩ (.int .i64 1)) = W5 at c1 c2 ⊢
      simp [results, Tryd.results23, go_sem, c1, c2]
    · rw [HR.out]
      exact ⟨rfl, (fin nq).2.2⟩
  · obtain ⟨m, rfl⟩ : ∃ m : Nat, n = (m : Int) := ⟨n.toNat, by omega⟩
    have d0 : decide ((m : Int) < 0) = false := by simp
    have d1 : decide (4096 < (m : Int)) = false := by simp; omega
    obtain ⟨k, hk⟩ : ∃ k, (m + 15) / 16 = k := ⟨_, rfl⟩
    have hcount := fun w' => count_any m w' (by omega)
    rw [hk] at hcount
    have hcq : ∀ w', Calls Tryd.prog 31 #[.int .i64 (m : Int)] w' fun e w2 => e = .returned (.int .i64 (k : Int)) ∧ w2 = w' := fun w' => (hcount w').mono (fun e w2 h => ⟨h.1, h.2.symm⟩)
    have hne : ((ln : Int) != (k : Int)) = true := by rw [bne_iff_ne]; omega
    clear hk hno hn hcount
    go_enter Tryd.func23, Tryd.ntmps23
    go_wp2_with fail
    go_quiet (first | (go_at_call 31; exact Calls.quiet_of_same (hcq _)))
    go_wp2_with fail
    refine bodyPost_ret (v := .tuple #[.string ⟨#[]⟩, .int .i64 1]) ?_ rfl ?_
    · have hf2 := b2.frozen
      have c1 := (fin nq).1.cell
      have c2 := (fin nq).2.1.cell
      generalize (((((((w.alloc (.cells #[.slice na ln cn] 35)).alloc (.cells #[.func (.func gk) #[] lb] 42)).alloc (.cells #[.string ⟨#[]⟩] 9)).alloc (.cells #[.int .i64 0] 23)).drewN nq).setCell ⟨w.heap.size + 1 + 1, 0, none⟩ (.string ⟨#[]⟩)).setCell ⟨w.heap.size + 1 + 1 + 1, 0, none⟩ (.int .i64 1)) = W5 at c1 c2 ⊢
      simp [results, Tryd.results23, go_sem, c1, c2]
    · rw [HR.out]
      exact ⟨rfl, (fin nq).2.2⟩
theorem fill_any (na : Option Addr) (ln cn : Nat) (names : List ByteArray) (n : Int) (w : World) (gk : Nat) (lb : Array Value) (G : ByteArray → Option ByteArray) (hN : Strs na ln names w) (hG : Looks gk lb G w) (eg : ∀ args w, (callFunc gk args).run Tryd.prog w = .ok (.enter gk args) w)
    (hn : -9223372036854775808 ≤ n ∧ n ≤ 9223372036854775807) (hln : ln ≤ 140737488355328) (pk : Nat → Option (List UInt8)) (R : List UInt8 × Int) (hR : FillSpec ln n pk R)
    (hp0 : ∀ k, k < ln → (names.getD k ByteArray.empty).size = 0 → pk k = some (List.replicate (place n.toNat k) 0)) (hp1 : ∀ k, k < ln → 0 < (names.getD k ByteArray.empty).size → pk k = (G (names.getD k ByteArray.empty)).map fun c => c.data.toList) (hsz : ∀ k, k < ln → ∀ c, G (names.getD k ByteArray.empty) = some c → c.size ≤ 1000000) (hnm : ∀ k, k < ln → (names.getD k ByteArray.empty).size ≤ 140737488355328) :
    Calls Tryd.prog 23 #[.slice na ln cn, .int .i64 n, .func (.func gk) #[] lb] w (Both R w) := by
  by_cases hno : n < 0 ∨ 4096 < n ∨ (0 ≤ n ∧ n ≤ 4096 ∧ (ln : Int) ≠ (n + 15) / 16)
  · exact fill_no na ln cn n w gk lb R (hR.range (by omega)) hn hln hno
  · obtain ⟨m, rfl⟩ : ∃ m : Nat, n = (m : Int) := ⟨n.toNat, by omega⟩
    exact fill_ok na ln cn names m w gk lb G hN hG eg (by omega) (by omega) pk R hR hp0 hp1 hsz hnm
end Go.Proofs.YtnapjloapgfcfaaDoor
