/- Boxes of nodes, as many as there are, behind a world. -/
import Derived.Test.YteieehjggiiljaaAsk
import Derived.Deep.RegionHeld3
namespace Go.Proofs.Yteieehjggiiljaa
open Go.RowKit Go.Less
structure Bk where
  p : Nat
  k : Int
  m : Int
  d : ByteArray
  t : ByteArray
  a : Option Addr
  n : Nat
  c : Nat
  l : List En
/-- All of them lie there. -/
structure Bks (w : World) (L : List Bk) (W : World) : Prop where
  at_ : ∀ b ∈ L, Nb b.p b.k b.m b.d b.t b.a b.n b.c b.l W
  below : Below w.heap.size w W
theorem Bks.kept {w : World} {L : List Bk} {W W' : World} (h : Bks w L W) (hb : Below W.heap.size W W') : Bks w L W' :=
  ⟨fun b hb' => (h.at_ b hb').kept hb, h.below.trans (hb.mono h.below.size)⟩
theorem Bks.nil {w W : World} (h : Below w.heap.size w W) : Bks w [] W := ⟨(fun b hb => by cases hb), h⟩
theorem Bks.cons {w W : World} {L : List Bk} {p : Nat} {k m : Int} {d t : ByteArray} {a : Option Addr} {n c : Nat} {l : List En} (h : Nb p k m d t a n c l W) (hL : Bks w L W) : Bks w (⟨p, k, m, d, t, a, n, c, l⟩ :: L) W :=
  ⟨(fun b hb => by
    rcases List.mem_cons.1 hb with rfl | hb
    · exact h
    · exact hL.at_ b hb), hL.below⟩
end Go.Proofs.Yteieehjggiiljaa
