/- walk: every tree within one is told. -/
import Derived.Test.YtheobkepoocamaaGreatDoorLook
namespace Go.Proofs.YtheobkepoocamaaGreatDoor
set_option maxRecDepth 100000
open Go.RowKit Go.Less
/-- A function of the caller's is told of trees, one by one. -/
def Tells (gk : Nat) (lb : Array Value) (m : Nat) (w0 : World) (P : List Tt → World → Prop) : Prop := ∀ (pre : List Tt) (b : Nat) (l : Tt) (k v : ByteArray) (r : Tt) (pl pr : Option Nat) (W : World), pre.length < m → P pre W → Node w0 b l k v r pl pr →
  Calls Tryz.prog gk (#[.pointer (some ⟨b, 0, none⟩)] ++ lb) W fun e W' => e = .returned (.tuple #[]) ∧ P (pre ++ [.node l k v r]) W'
/-- All trees were told. -/
def Told (P : List Tt → World → Prop) (x : List Tt) (e : Ending) (w' : World) : Prop := e = .returned (.tuple #[]) ∧ P x w'
set_option maxHeartbeats 2000000 in
theorem walk_any (gk : Nat) (lb : Array Value) (eg : ∀ args w, (callFunc gk args).run Tryz.prog w = .ok (.enter gk args) w) (w0 : World) (m : Nat) (P : List Tt → World → Prop) (hP : Tells gk lb m w0 P) (hB : ∀ pre W, P pre W → Below w0.heap.size w0 W) :
    ∀ (t : Tt) (p : Option Nat) (pre : List Tt) (W : World), Tree w0 p t → P pre W → pre.length + t.len ≤ m → Calls Tryz.prog 20 #[pv p, .func (.func gk) #[] lb] W (Told P (pre ++ t.subs)) := by
  have HP := Lib.hid hP
  have HB := Lib.hid hB
  clear hP hB
  intro t
  induction t with
  | leaf =>
    intro p pre W hT hp hn
    obtain rfl : p = none := hT
    have HQ := Lib.hid hp
    have hm : pre ++ Tr.T.subs (.leaf : Tt) = pre := List.append_nil _
    rw [hm]
    clear hp hn hm
    show Calls Tryz.prog 20 #[.pointer none, .func (.func gk) #[] lb] W _
    go_enter Tryz.func20, Tryz.ntmps20
    go_wp2_with fail
    go_end0
    exact ⟨rfl, HQ.out⟩
  | node l k v r ihl ihr =>
    intro p pre W hT hp hn
    obtain ⟨b, pl, pr, rfl, hN⟩ := tree_node hT
    simp only [Tr.T.len] at hn
    have hb0 := HB.out pre W hp
    have c5 := (hN.below hb0).c5
    have hll := Tr.T.subs_len l
    have HI := Lib.hid (ihl pl pre W hN.left hp (by omega))
    have HF := Lib.hid (fun W1 (h1 : P (pre ++ l.subs) W1) => HP.out (pre ++ l.subs) b l k v r pl pr W1 (by rw [List.length_append, hll]; omega) h1 hN)
    have HJ := Lib.hid (fun W2 (h2 : P (pre ++ l.subs ++ [.node l k v r]) W2) => ihr pr (pre ++ l.subs ++ [.node l k v r]) W2 hN.right h2 (by simp only [List.length_append, List.length_singleton, hll]; omega))
    have HN := Lib.hid hN
    have hm : pre ++ Tr.T.subs (.node l k v r) = pre ++ l.subs ++ [.node l k v r] ++ r.subs := by simp [Tr.T.subs]
    rw [hm]
    clear hT hp hn hN hb0 hll ihl ihr hm
    show Calls Tryz.prog 20 #[.pointer (some ⟨b, 0, none⟩), .func (.func gk) #[] lb] W _
    go_enter Tryz.func20, Tryz.ntmps20
    go_wp2_with fail
    refine HI.out.mono ?_
    rintro e W1 ⟨rfl, h1⟩
    have HH1 := Lib.hid h1
    clear h1
    dsimp only
    go_wp2_with fail
    refine (HF.out _ HH1.out).mono ?_
    rintro e W2 ⟨rfl, h2⟩
    have c6 := (HN.out.below (HB.out _ _ h2)).c6
    have HH2 := Lib.hid h2
    clear h2
    dsimp only
    go_wp2_with fail
    refine (HJ.out _ HH2.out).mono ?_
    rintro e W3 ⟨rfl, h3⟩
    have HH3 := Lib.hid h3
    clear h3
    dsimp only
    go_wp2_with fail
    go_end0
    exact ⟨rfl, HH3.out⟩
end Go.Proofs.YtheobkepoocamaaGreatDoor
