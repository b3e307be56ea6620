/- A part of the proofs. -/
import Derived.Test.YtgcgnolmdkkocaaGreatDoorM30
namespace Fs
open Nd (En Node none0)
open Go.Less (less)
theorem node_insL {l : List Item} (h : Rising l) (i k : Int) (x : Node) : node (insL l i x) k = if k = i then some x else node l k := by
 induction l with
 | nil =>
  show (if i = k then some x else node [] k) = if k = i then some x else node [] k
  by_cases e : k = i
  ·rw [if_pos e, if_pos e.symm]
  ·rw [if_neg e, if_neg (fun e2 => e e2.symm)]
 | cons y l ih =>
  obtain ⟨h1, h2⟩ := List.pairwise_cons.1 h
  unfold insL
  split
  ·rename_i hy
   show (if y.1 = k then some y.2 else node (insL l i x) k) = if k = i then some x else if y.1 = k then some y.2 else node l k
   rw [ih h2]
   by_cases e : k = i
   ·rw [if_pos e, if_pos e, if_neg (by omega)]
   ·rw [if_neg e, if_neg e]
  ·split
   ·rename_i hy
    show (if i = k then some x else node l k) = if k = i then some x else if y.1 = k then some y.2 else node l k
    by_cases e : k = i
    ·rw [if_pos e, if_pos e.symm]
    ·rw [if_neg e, if_neg (fun e2 => e e2.symm), if_neg (by omega)]
   ·show (if i = k then some x else node (y :: l) k) = if k = i then some x else node (y :: l) k
    by_cases e : k = i
    ·rw [if_pos e, if_pos e.symm]
    ·rw [if_neg e, if_neg (fun e2 => e e2.symm)]
end Fs
namespace Go.Proofs.YtgcgnolmdkkocaaGreatDoor
set_option maxRecDepth 100000
open Go.RowKit Go.Less
open T8 (pv Rp Dg Mapped mput_any mdel_any mlen_any mname_any mget_there cn)
theorem Stg.sv {g p : Nat} {w w' : World} (ht : Turn g w w') {f : Fs.FS} {l l2 : List Fs.Item} {m : Option Nat} (hg : Stg w g p f l) (h : Sv w m l2) : Sv w' m l2 := by
 obtain ⟨⟨m', e1, _⟩, _⟩ := hg
 exact h.turnS ht e1
end Go.Proofs.YtgcgnolmdkkocaaGreatDoor
namespace Go.Proofs.YtgcgnolmdkkocaaGreatDoor
open T6
set_option maxRecDepth 100000
open Go.RowKit Go.Less
attribute [local go_sem 9000] sem_eql sem_neq
theorem run_bytes4 (w : World) (a b c d : UInt8) : (convert 134 9 (.slice (some ⟨w.heap.size, 0, none⟩) 4 4)).run Tryz.prog (w.alloc (.cells #[.int .u8 (a.toNat : Int), .int .u8 (b.toNat : Int), .int .u8 (c.toNat : Int), .int .u8 (d.toNat : Int)] 5)) = .ok (.string ⟨#[a, b, c, d]⟩) (w.alloc (.cells #[.int .u8 (a.toNat : Int), .int .u8 (b.toNat : Int), .int .u8 (c.toNat : Int), .int .u8 (d.toNat : Int)] 5)) := by
 rw [run_convert_bytes_arg (P := Tryz.prog) (w.alloc (.cells #[.int .u8 (a.toNat : Int), .int .u8 (b.toNat : Int), .int .u8 (c.toNat : Int), .int .u8 (d.toNat : Int)] 5)) 134 5 Tryz.underlying134 Tryz.underlying5 w.heap.size 0 4 4 [(a.toNat : Int), (b.toNat : Int), (c.toNat : Int), (d.toNat : Int)] rfl ?_ 9 Tryz.underlying9]
 ·simp [strOfNums]
 ·intro i hi
  rw [Nat.zero_add, World.cell?_alloc_new]
  match i, hi with
  | 0, _ => rfl
  | 1, _ => rfl
  | 2, _ => rfl
  | 3, _ => rfl
attribute [local go_sem 9000] run_bytes4
def keyR (n : Nat) : ByteArray := ⟨(num n 4).toArray⟩
set_option maxHeartbeats 8000000 in
theorem rKey_any (n : Nat) (w : World) (_h1 : n ≤ 1000000000000) :
  Calls Tryz.prog 15 #[.int .i64 (n : Int)] w (fun e w' => e = .returned (.string (keyR n)) ∧ Below w.heap.size w w') := by
 have HK := Lib.hid (show keyR n = ⟨#[byteOf (n / 16777216), byteOf (n / 65536), byteOf (n / 256), byteOf n]⟩ by unfold keyR; congr 1; simp [num, byteOf])
 have e0 : (n : Int) / 16777216 % 256 = ((byteOf (n / 16777216)).toNat : Int) := by rw [← byteOf_eq]; omega
 have e1 : (n : Int) / 65536 % 256 = ((byteOf (n / 65536)).toNat : Int) := by rw [← byteOf_eq]; omega
 have e2 : (n : Int) / 256 % 256 = ((byteOf (n / 256)).toNat : Int) := by rw [← byteOf_eq]; omega
 have e3 : (n : Int) % 256 = ((byteOf n).toNat : Int) := by rw [← byteOf_eq]
 generalize hA : byteOf (n / 16777216) = A at e0 HK
 generalize hB : byteOf (n / 65536) = B at e1 HK
 generalize hC : byteOf (n / 256) = C at e2 HK
 generalize hD : byteOf n = D at e3 HK
 clear hA hB hC hD _h1
 generalize (n : Int) = k at *
 go_enter Tryz.func15, Tryz.ntmps15
 go_wp2_with fail
 go_ret
 exact ⟨by rw [HK.out]; rfl, (Below.refl w.heap.size w).alloc (Nat.le_refl _) _⟩
end Go.Proofs.YtgcgnolmdkkocaaGreatDoor
namespace Go.Proofs.YtgcgnolmdkkocaaGreatDoor
set_option maxRecDepth 100000
open Go.RowKit Go.Less
open T8 (pv Rp Dg keysOf mkeys_any mget_there)
theorem qKeys_any {m : Option Nat} {l : List Fs.Item} {w : World} (h : Sv w m l) : Calls Tryz.prog 57 #[pv m] w fun e w' => ∃ ao cap, e = .returned (.slice ao l.length cap) ∧ Strs ao l.length (keysOf (Fs.kv l)) w' ∧ Below w.heap.size w w' := by
 have hl : l.length ≤ 1000 := h.ok.few
 have hlen : (keysOf (Fs.kv l)).length = l.length := by unfold keysOf; rw [List.length_map, Fs.kv_len]
 refine (mkeys_any h.rp (by rw [Fs.kv_len]; omega)).mono ?_
 rintro e w1 ⟨ao, cap, rfl, hrow, hb⟩
 rw [hlen] at hrow ⊢
 refine ⟨ao, cap, rfl, ?_, hb⟩
 have hT : Trow w.heap.size (.slice ao l.length cap) ((keysOf (Fs.kv l)).map fun b => b.data.toList) w1 := by
  unfold Trow
  rw [List.length_map, hlen, List.map_map]
  exact hrow
 have := trow_strs hT (by rw [List.length_map, hlen])
 rwa [List.map_map, show (lstr ∘ fun b : ByteArray => b.data.toList) = id from rfl, List.map_id] at this
def gtx (l : List Fs.Item) (i : Int) : ByteArray := ((Fs.node l i).map Fs.txt).getD ⟨#[]⟩
theorem qGet_any {m : Option Nat} {l : List Fs.Item} {w : World} (h : Sv w m l) {i : Int} (hi : 0 ≤ i ∧ i < 4294967296) : Calls Tryz.prog 58 #[pv m, .string (Fs.key i)] w fun e w' => e = .returned (.tuple #[.string (gtx l i), .bool (Fs.node l i).isSome]) ∧ Below w.heap.size w w' := by
 have hg := get_node h hi
 unfold gtx
 cases hn : Fs.node l i with
 | none => rw [hn] at hg; exact mget_no h.rp (Fs.key i) hg
 | some x => rw [hn] at hg; exact mget_there h.rp (Fs.key i) (Fs.txt x) hg
theorem keyR_key (n : Nat) : keyR n = Fs.key (n : Int) := by
 have h1 : keyR n = ⟨#[byteOf (n / 16777216), byteOf (n / 65536), byteOf (n / 256), byteOf n]⟩ := by unfold keyR; congr 1; simp [num, byteOf]
 have h2 : Fs.key (n : Int) = ⟨#[byteOf (n / 16777216), byteOf (n / 65536), byteOf (n / 256), byteOf n]⟩ := by unfold Fs.key Nd.mk Nd.n4; simp [byteOf]
 rw [h1, h2]
theorem rKey2_any (i : Int) (w : World) (h0 : 0 ≤ i) (h1 : i ≤ 1000000000000) : Calls Tryz.prog 15 #[.int .i64 i] w (fun e w' => e = .returned (.string (Fs.key i)) ∧ Below w.heap.size w w') := by
 obtain ⟨n, rfl⟩ : ∃ n : Nat, i = n := ⟨i.toNat, by omega⟩
 have := rKey_any n w (by omega)
 rwa [keyR_key] at this
def atC (q : Fs.Cmd) : Int := if q.kind = 4 ∨ q.kind = 5 then q.src else q.ino
theorem alter_node {l : List Fs.Item} (h : Okl l) (i : Int) (r : Nd.Node → Nd.Node × Int) : ((Fs.alter l i r).2 ≠ 0 ∧ (Fs.alter l i r).1 = l) ∨ ((Fs.alter l i r).2 = 0 ∧ (1 ≤ i ∧ i ≤ 2147483647) ∧ ∀ k, k ≠ i → Fs.node (Fs.alter l i r).1 k = Fs.node l k) := by
 unfold Fs.alter
 cases hn : Fs.node l i with
 | none => exact .inl ⟨(fun e => by cases e), rfl⟩
 | some x =>
  dsimp only
  by_cases h0 : (r x).2 = 0
  ·rw [if_neg (by simpa using h0)]
   exact .inr ⟨rfl, (h.node hn).2, fun k hk => by rw [Fs.node_insL h.inos, if_neg hk]⟩
  ·rw [if_pos h0]
   exact .inl ⟨h0, rfl⟩
theorem doC_node {par l : List Fs.Item} (h : Okl l) (q : Fs.Cmd) : ((Fs.doC env par l q).2 ≠ 0 ∧ (Fs.doC env par l q).1 = l) ∨ ((Fs.doC env par l q).2 = 0 ∧ (1 ≤ atC q ∧ atC q ≤ 2147483647) ∧ ∀ k, k ≠ atC q → Fs.node (Fs.doC env par l q).1 k = Fs.node l k) := by
 unfold Fs.doC
 by_cases h1 : q.kind = 1 ∨ q.kind = 2 ∨ q.kind = 3
 ·rw [if_pos h1, show atC q = q.ino from by unfold atC; rw [if_neg (by omega)]]
  unfold Fs.createC
  split
  ·exact .inl ⟨(fun e => by cases e), rfl⟩
  split
  ·exact .inl ⟨(fun e => by cases e), rfl⟩
  split
  ·exact .inl ⟨(fun e => by cases e), rfl⟩
  exact .inr ⟨rfl, by omega, fun k hk => by rw [Fs.node_insL h.inos, if_neg hk]⟩
 rw [if_neg h1]
 by_cases h4 : q.kind = 4
 ·rw [if_pos h4, show atC q = q.src from by unfold atC; rw [if_pos (.inl h4)]]
  unfold Fs.enterC
  split
  ·exact .inl ⟨(fun e => by cases e), rfl⟩
  ·exact alter_node h _ _
 rw [if_neg h4]
 by_cases h5 : q.kind = 5
 ·rw [if_pos h5, show atC q = q.src from by unfold atC; rw [if_pos (.inr h5)]]
  exact alter_node h _ _
 rw [if_neg h5, show atC q = q.ino from by unfold atC; rw [if_neg (by omega)]]
 split
 ·exact alter_node h _ _
 split
 ·exact alter_node h _ _
 split
 ·exact alter_node h _ _
 split
 ·exact alter_node h _ _
 split
 ·unfold Fs.removeC
  split
  ·exact .inl ⟨(fun e => by cases e), rfl⟩
  rename_i hs
  split
  ·exact .inl ⟨(fun e => by cases e), rfl⟩
  ·obtain ⟨x, hx⟩ : ∃ x, Fs.node l q.ino = some x := by
    cases hn : Fs.node l q.ino with
    | none => rw [hn] at hs; exact absurd rfl hs
    | some x => exact ⟨x, rfl⟩
   exact .inr ⟨rfl, (h.node hx).2, fun k hk => by rw [Fs.node_drop, if_neg hk]⟩
 ·exact .inl ⟨(fun e => by cases e), rfl⟩
theorem doneC_ok {par l : List Fs.Item} (h : Okc l) (qs : List Fs.Cmd) : Okc (doneC par l qs) := by
 unfold doneC
 induction qs generalizing l with
 | nil => exact h
 | cons q qs ih => exact ih (h.doC q)
end Go.Proofs.YtgcgnolmdkkocaaGreatDoor
