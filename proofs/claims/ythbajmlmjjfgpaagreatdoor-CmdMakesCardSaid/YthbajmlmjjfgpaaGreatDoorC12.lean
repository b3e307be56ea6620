/- A part of the proofs. -/
import Derived.Test.YthbajmlmjjfgpaaGreatDoorC11
set_option maxRecDepth 1000000
set_option maxHeartbeats 16000000
open Go.Lib (hid)
open Go.Proofs.Tryz
namespace Go.Proofs.YthbajmlmjjfgpaaGreatDoor
open Go.RowKit Go.Less
def sv (l : List UInt8) (z : Nat) : Int := vl (l.take z)
def sv8 (l : List UInt8) (z : Nat) : Int := vl (l.take z) * 256
theorem sem_shlsv (t : TypeId) (l : List UInt8) (z : Nat) (hz : z < 4) : binOp .shl t (.int .u32 (sv l z)) (.int .u64 8) = pure (.int .u32 (sv8 l z)) := by
 show Op.shift .shl .u32 (sv l z) .u64 8 = _
 rw [shift_shl_any _ _ _ _ (by omega)]; unfold sv sv8
 have h0 := vl_lo (l.take z)
 have h1 := vl_hi (l := l) hz
 show pure (Value.int .u32 (IntKind.u32.wrap (vl (l.take z) * ((2 ^ min (8 : Int).toNat 32 : Nat) : Int)))) = _
 rw [IntKind.wrap_u32', show (2 ^ min (8 : Int).toNat 32 : Nat) = 256 from rfl]
 congr 2
 omega
theorem or_low (a c : Nat) (hc : c < 256) : a * 256 ||| c = a * 256 + c := by
 rw [Nat.mul_comm, show 256 = 2 ^ 8 from rfl, Nat.two_pow_add_eq_or_of_lt hc]
theorem or_sv (l : List UInt8) (z : Nat) (hz : z < 4) (c : UInt8) (hl : z < l.length) (hc : c = l.getD z 0) : Go.bits .or .u32 (sv8 l z) (c.toNat : Int) = sv l (z + 1) := by
 have h1 := vl_hi (l := l) hz
 have hc8 := c.toNat_lt
 unfold sv8 sv
 rw [vl_more hl hc]
 unfold vl at *
 rw [show (Nd.val (l.take z) : Int) * 256 = ((Nd.val (l.take z) * 256 : Nat) : Int) by omega, u32_or_nat _ _ (by omega) (by omega), or_low _ _ hc8]
 omega
theorem run_c32 (w : World) (c : UInt8) : (convert 5 195 (.int .u8 (c.toNat : Int))).run prog w = .ok (.int .u32 (c.toNat : Int)) w := by
 have h : (convert 5 195 (.int .u8 (c.toNat : Int))).run prog w = .ok (.int .u32 (IntKind.u32.wrap (c.toNat : Int))) w := by rfl
 have := c.toNat_lt
 rw [h, IntKind.wrap_u32']
 congr 2; omega
theorem run_c64 (w : World) (V : Int) (h0 : 0 <= V) (h1 : V < 4294967296) : (convert 195 3 (.int .u32 V)).run prog w = .ok (.int .i64 V) w := by
 have h : (convert 195 3 (.int .u32 V)).run prog w = .ok (.int .i64 (IntKind.i64.wrap V)) w := by rfl
 rw [h, IntWalk.i64_in _ (by omega)]
attribute [local go_sem 9000] sem_shlsv run_c32 run_c64
theorem sv_top {l : List UInt8} (h : l.length = 4) : sv l 4 < 4294967296 := by
 unfold sv vl
 have h1 := Nd.val_lt (l.take 4)
 rw [List.length_take, h] at h1
 have h3 : (256 : Nat) ^ (min 4 4) = 4294967296 := by decide
 omega
theorem ino_any (s : ByteArray) (w : World) (h4 : s.size = 4) : Calls prog 209 #[.string s] w λe w' => e = .returned (.int .i64 (vl s.data.toList)) /\ w' = w := by
 have HL := hid (show s.data.toList.length = 4 from Array.length_toList.trans h4)
 have hsz : s.size = 4 := h4
 clear h4
 go_enter func209, ntmps209
 go_wp2_with fail
 go_loopw [3, 7] (λv i wr => (∃ z : Nat, z <= 4 /\ i = .int .i64 z /\ v = .int .u32 (sv s.data.toList z)) /\ wr = w) (λ_ i _ => 4 - (intOf i).toNat)
 case atStart => exact ⟨⟨0, Nat.zero_le _, rfl, rfl⟩, rfl⟩
 case round =>
  obtain ⟨⟨z, hz, rfl, rfl⟩, rfl⟩ := hrel
  have z0i : (0 : Int) <= (z : Int) := by omega
  by_cases hz4 : z < 4
  ·have hz4i : (z : Int) < 4 := by omega
   have hzs : z < s.size := by omega
   have hor := or_sv s.data.toList z hz4 s[z] (by rw [HL.out]; exact hz4) (b_at s hzs)
   go_wp2_with fail
   go_roundw
   case rel => exact ⟨⟨z + 1, by omega, by go_num, by first | rfl | rw [hor]⟩, by first | rfl | trivial⟩
   case measure => simp [intOf]; omega
  ·obtain rfl : z = 4 := by omega
   have h0 : 0 <= sv s.data.toList 4 := vl_lo _
   have h1 := sv_top HL.out
   have HV := hid (show sv s.data.toList 4 = vl s.data.toList by unfold sv; rw [List.take_of_length_le (by rw [HL.out]; exact Nat.le_refl _)])
   generalize sv s.data.toList 4 = V at *
   go_wp2_with fail
   go_ret
   rw [<- HV.out]
   exact ⟨rfl, rfl⟩
end Go.Proofs.YthbajmlmjjfgpaaGreatDoor
namespace Go.Proofs.YthbajmlmjjfgpaaGreatDoor
open Go.RowKit Go.Less
attribute [local go_sem 9000] sem_eql sem_neq sem_lss sem_leq sem_gtr sem_geq c_of
theorem scope_jumps2 {P : Program} {a : Act} {w : World} {Q : Exit -> Act -> World -> Prop} {c rest : Code} (l : Nat) (J : Act -> World -> Prop) (μ : Act -> World -> Nat) (hf : findLabel c l = some (Code.skip.seq rest))
  (pass : ∀ a w, J a w -> rest.wp P (Exit.jump l (λa' w' => J a' w' /\ μ a' w' < μ a w) Q) a w)
  (first : (∀ a w, J a w -> rest.wp P (Exit.jump l J Q) a w) -> c.wp P (Exit.jump l J Q) a w) : (Code.scope c).wp P Q a w :=
 wp_scope_jumps l J μ hf (first λa w hj => Code.wp_mono (λe a w h => by cases e <;> first | exact h | exact ⟨h.1, h.2.1⟩) (pass a w hj))
  (λa w hj => wp_seq (wp_skip (pass a w hj)))
def suf (s : ByteArray) (p : Nat) : ByteArray := lstr (s.data.toList.drop p)
theorem suf_size (s : ByteArray) (p : Nat) : (suf s p).size = s.size - p := by
 unfold suf
 rw [lstr_size, List.length_drop]; exact congrArg (· - p) Array.length_toList
theorem suf_data (s : ByteArray) (p : Nat) : (suf s p).data.toList = s.data.toList.drop p := rfl
theorem suf_cut (s : ByteArray) (p a n : Nat) (h : p + a + n <= s.size) : (suf s p).extract a (a + n) = lstr ((s.data.toList.drop (p + a)).take n) := by
 rw [cut_text _ _ _ (by rw [suf_size]; omega), suf_data, List.drop_drop]
theorem suf_rest (s : ByteArray) (p a : Nat) (h : p + a <= s.size) : (suf s p).extract a (suf s p).size = suf s (p + a) := by
 have e := suf_cut s p a (s.size - p - a) (by omega)
 rw [show a + (s.size - p - a) = (suf s p).size by rw [suf_size]; omega] at e
 rw [e]
 unfold suf
 rw [List.take_of_length_le (by rw [List.length_drop]; have : s.data.toList.length = s.size := Array.length_toList; omega)]
theorem suf_end {s : ByteArray} {p : Nat} (h : p = s.size) : Less.alike (suf s p) ⟨#[]⟩ = true := by
 unfold Less.alike
 refine decide_eq_true (str_empty ?_)
 rw [suf_size]; omega
theorem suf_more {s : ByteArray} {p : Nat} (h : p < s.size) : Less.alike (suf s p) ⟨#[]⟩ = false := by
 unfold Less.alike
 refine decide_eq_false (λe => ?_)
 have := congrArg ByteArray.size e
 rw [suf_size] at this
 have h0 : (⟨#[]⟩ : ByteArray).size = 0 := rfl
 omega
def ReadE (r : List UInt8) (w : World) (e : Ending) (w' : World) : Prop :=
 Below w.heap.size w w' /\ ((∃ es ao cp, Nd.ents r = some es /\ es.length <= 64 /\ (∀ x ∈ es, x.1.size <= 300) /\ e = .returned (.tuple #[.slice ao es.length cp, .bool true]) /\ Own w.heap.size (.slice ao es.length cp) es w') \/
  ((∀ es, Nd.ents r = some es -> 64 < es.length) /\ e = .returned (.tuple #[.slice none 0 0, .bool false])))
structure Us where
 v1 : Value
 v5 : Value
 v6 : Value
 v7 : Value
 v8 : Value
 v9 : Value
 v10 : Value
 v11 : Value
 v12 : Value
 v13 : Value
 v14 : Value
 v15 : Value
 v16 : Value
 v17 : Value
 v18 : Value
 v19 : Value
 v20 : Value
 v21 : Value
 v22 : Value
 v23 : Value
 v24 : Value
 v25 : Value
 v26 : Value
 v27 : Value
 v28 : Value
 v29 : Value
 v30 : Value
 v31 : Value
 v32 : Value
 v33 : Value
 v34 : Value
 v35 : Value
 v36 : Value
 v37 : Value
 v38 : Value
 v39 : Value
def strLen : Value -> Nat
 | .string b => b.size
 | _ => 0
def Jread (s : ByteArray) (w : World) (a' : Act) (wr : World) : Prop :=
 ∃ (p : Nat) (es : List En) (v : Value) (u : Us), p <= s.size /\ Hid (Nd.EAt s.data.toList p es /\ ∀ x ∈ es, x.1.size <= 300) /\ es.length <= 64 /\ Own w.heap.size v es wr /\ Below w.heap.size w wr /\
  a' = { tmps := #[.string (suf s p), u.v1, .slice none 0 0, .bool false, v, u.v5, u.v6, u.v7, u.v8, u.v9, u.v10, u.v11, u.v12, u.v13, u.v14, u.v15, u.v16, u.v17, u.v18, u.v19, u.v20, u.v21, u.v22, u.v23, u.v24, u.v25, u.v26, u.v27, u.v28, u.v29, u.v30, u.v31, u.v32, u.v33, u.v34, u.v35, u.v36, u.v37, u.v38, u.v39], defers := [] }
theorem readEntries_any (s : ByteArray) (w : World) (hs : s.size <= 100000) : Calls prog 194 #[.string s] w (ReadE s.data.toList w) := by
 have HL := hid (show s.data.toList.length = s.size from Array.length_toList)
 go_enter func194, ntmps194
 go_wp2_with fail
 refine scope_jumps2 0 (Jread s w) (λa' _ => strLen (a'.tmps.getD 0 undef)) rfl ?_ ?_
 ·rintro a' wr ⟨p, es, v, u, hps, HE, h64, hown, hb, rfl⟩
  obtain ⟨ao, cp, rfl⟩ := owns_form hown
  have HB := hid hb
  have HO := hid hown
  clear hb hown
  by_cases hlt : p < s.size
  ·have hal := suf_more hlt
   have hsz := suf_size s p
   have hT0 : 0 < (suf s p).size := by omega
   have HC := hid (show (suf s p)[0] = s.data.toList.getD p 0 by rw [b_at (suf s p) hT0, suf_data, List.getD, List.getD, List.getElem?_drop, Nat.add_zero])
   have hq8 := (suf s p)[0].toNat_lt
   have HQ : (s.data.toList.getD p 0).toNat = (suf s p)[0].toNat := by rw [HC.out]
   have HStop := hid (λh => HE.out.1.stop (by rw [HL.out]; exact hlt) h)
   have HMore := hid (λh => HE.out.1.more (by rw [HL.out]; exact hlt) h)
   have HLong := hid (λes' h => HE.out.1.long (es' := es') (by rw [HL.out]; exact hlt) h)
   rw [HQ, HL.out] at HStop HMore
   have HN1 := hid (λq (h : p + 1 + q <= s.size) => suf_cut s p 1 q h)
   have HN2 := hid (λq (h : p + (1 + q) + 4 <= s.size) => suf_cut s p (1 + q) 4 h)
   have HN3 := hid (λa (h : p + a <= s.size) => suf_rest s p a h)
   have hzd : 0 < (suf s p).data.size := hT0
   have hsl : ((suf s p).size : Int) <= 100000 := by omega
   generalize suf s p = T at *
   have hw1 : IntKind.i64.wrap (1 + (T[0].toNat : Int)) = 1 + (T[0].toNat : Int) := IntWalk.i64_in _ (by omega)
   have hw2 : IntKind.i64.wrap (1 + (T[0].toNat : Int) + 4) = 1 + (T[0].toNat : Int) + 4 := IntWalk.i64_in _ (by omega)
   generalize hqe : T[0].toNat = q at *
   clear HC HQ
   by_cases hov : T.size < 1 + q + 4
   ·have hovi : (T.size : Int) < 1 + (q : Int) + 4 := by omega
    have HR := hid (HStop.out (by omega))
    clear hov HMore HStop HLong hsz
    go_wp2_with fail
    simp only [Exit.jump]
    go_ret2
    exact ⟨HB.out, .inr ⟨λes h => (by rw [HR.out] at h; cases h), rfl⟩⟩
   have hovi : ¬ (T.size : Int) < 1 + (q : Int) + 4 := by omega
   by_cases h64e : es.length = 64
   ·clear hov HMore HStop hsz
    go_wp2_with fail
    simp only [Exit.jump]
    go_ret2
    exact ⟨HB.out, .inr ⟨λes' h => (by have := HLong.out es' h; omega), rfl⟩⟩
   ·have h6i : ¬ (es.length : Int) = 64 := by omega
    have hm := HMore.out (by omega)
    have e1 := HN1.out q (by omega)
    have e2 := HN2.out q (by omega)
    have e3 := HN3.out (1 + q + 4) (by omega)
    rw [show p + (1 + q) = p + 1 + q by omega] at e2
    have HI := hid (λW => ino_any (T.extract (1 + q) (1 + q + 4)) W (by rw [e2, lstr_size, List.length_take, List.length_drop, HL.out]; omega))
    have HV := hid (show vl (T.extract (1 + q) (1 + q + 4)).data.toList = (Nd.val ((s.data.toList.drop (p + 1 + q)).take 4) : Int) by rw [e2]; rfl)
    have HM := hid hm
    have H1 := hid e1
    have H3 := hid e3
    have hb1 : (0 : Int) <= 1 + (q : Int) := by omega
    have hb2 : (1 : Int) <= 1 + (q : Int) := by omega
    have hb3 : 1 + (q : Int) <= (T.size : Int) := by omega
    have hb4 : 1 + (q : Int) <= 1 + (q : Int) + 4 := by omega
    have hb5 : 1 + (q : Int) + 4 <= (T.size : Int) := by omega
    have hb6 : (0 : Int) <= 1 + (q : Int) + 4 := by omega
    have htn1 : (1 + (q : Int)).toNat = 1 + q := by omega
    have htn2 : (1 + (q : Int) + 4).toNat = 1 + q + 4 := by omega
    generalize vl (T.extract (1 + q) (1 + q + 4)).data.toList = V at HI HV
    generalize hz : T.extract (1 + q) (1 + q + 4) = Z at *
    generalize hy : T.extract 1 (1 + q) = y at *
    generalize hr : T.extract (1 + q + 4) T.size = R at *
    have HO3 := hid (owned_below HO.out ((Below.refl wr.heap.size wr).drew.trans (below_one wr.drew (oc (y, V)))))
    have HLen := hid (show es.length <= 64 from h64)
    have HZ := hid (show w.heap.size <= (wr.drew.alloc (oc (y, V))).heap.size from Nat.le_trans HB.out.size (below_one wr.drew (oc (y, V))).size)
    have HBd := hid (show Below w.heap.size w (wr.drew.alloc (oc (y, V))) from (HB.out.drew).alloc HB.out.size _)
    have HSz := hid hsz
    clear hm e1 e2 e3 HMore HStop HLong HN1 HN2 HN3 hov hsz
    go_wp2_with fail
    go_region_law (first
     | (refine step_ent rfl _ _ rfl w.heap.size _ es (by rfl) HO3.out wr.heap.size (y, V) (by rfl) (heap_alloc_new wr.drew (oc (y, V))) (Nat.le_trans HLen.out (by decide)) HZ.out ?_; intro ao4 cap4 w4 hown4 hgrow4; have HO4 := hid hown4; have HB4 := hid (HBd.out.grown hgrow4 HZ.out (λj hj => owns_lt HO3.out j hj)); clear hown4 hgrow4)
     | (go_simp; (with_reducible refine (HI.out _).mono ?_); rintro e w3 ⟨rfl, rfl⟩))
    all_goals
     go_wp2_with fail
     go_step3
     have hm := HM.out
     rw [show Nd.mk ((s.data.toList.drop (p + 1)).take q) = y from H1.out.symm, <- HV.out] at hm
     have h3 : R = suf s (p + q + 5) := by rw [H3.out]; exact congrArg (suf s) (by omega)
     have hsz := HSz.out
     subst h3
     refine ⟨rfl, ⟨p + q + 5, es ++ [(y, V)], .slice ao4 (es.length + 1) cap4, ⟨u.v1, .int .i64 (1 + (q : Int)), .int .i64 (1 + (q : Int) + 4), .string T, .bool false, u.v9, .string T, .int .u8 (q : Int), .int .i64 (q : Int), .int .i64 (1 + (q : Int)), .int .i64 (1 + (q : Int)), .int .i64 (1 + (q : Int) + 4), .string T, .int .i64 (T.size : Int), .int .i64 (1 + (q : Int) + 4), .bool false, .bool false, .slice ao es.length cp, .int .i64 (es.length : Int), .bool false, .bool false, .slice ao es.length cp, .string T, .int .i64 (1 + (q : Int)), .string y, .string T, .int .i64 (1 + (q : Int)), .int .i64 (1 + (q : Int) + 4), .string Z, .int .i64 V, .agg #[.string y, .int .i64 V], .slice (some ⟨wr.heap.size, 0, none⟩) 1 1, .slice ao4 (es.length + 1) cap4, .string T, .int .i64 (1 + (q : Int) + 4), .string (suf s (p + q + 5))⟩, by omega, ⟨hm, λx hx => ?_⟩, by rw [List.length_append, List.length_singleton]; omega, by simpa [Own] using HO4.out, HB4.out, rfl⟩, ?_⟩
     ·rcases List.mem_append.1 hx with h | h
      ·exact HE.out.2 x h
      ·rw [List.mem_singleton.1 h]
       show y.size <= 300
       rw [H1.out, lstr_size, List.length_take]; omega
     ·simp [strLen, suf_size]; omega
  ·have hpe : p = s.size := by omega
   have hal := suf_end hpe
   have HR := hid (HE.out.1.done (by rw [HL.out]; exact hpe))
   generalize suf s p = T at *
   go_wp2_with fail
   simp only [Exit.jump]
   go_ret2
   exact ⟨HB.out, .inl ⟨es, ao, cp, HR.out, h64, HE.out.2, rfl, HO.out⟩⟩
 ·intro hpass
  go_wp2_with fail
  go_step3
  rename_i Kf hKf
  exact hKf _ _ (hpass _ _ ⟨0, [], _, ⟨_, _, _, _, _, _, _, _, _, _, _, _, _, _, _, _, _, _, _, _, _, _, _, _, _, _, _, _, _, _, _, _, _, _, _, _⟩, Nat.zero_le _, ⟨Nd.EAt.start _, λx hx => by cases hx⟩, Nat.zero_le _, own_nil _ _, Below.refl _ _, rfl⟩)
def shl8 (n : Int) : Int := n * 256
theorem sem_shl64 (t : TypeId) (n : Int) (h0 : 0 <= n) (h1 : n < 256) : binOp .shl t (.int .i64 n) (.int .u64 8) = pure (.int .i64 (shl8 n)) := by
 show Op.shift .shl .i64 n .u64 8 = _
 rw [shift_shl_any _ _ _ _ (by omega)]; unfold shl8
 show pure (Value.int .i64 (IntKind.i64.wrap (n * ((2 ^ min (8 : Int).toNat 64 : Nat) : Int)))) = _
 rw [show (2 ^ min (8 : Int).toNat 64 : Nat) = 256 from rfl, IntWalk.i64_in _ (by omega)]
 rfl
attribute [local go_sem 9000] sem_shl64
theorem ofInt_64 (a : Nat) (ha : a < 18446744073709551616) : (BitVec.ofInt 64 (a : Int)).toNat = a := by
 rw [BitVec.ofInt_natCast, BitVec.toNat_ofNat]; exact Nat.mod_eq_of_lt (by omega)
theorem i64_or_nat (a b : Nat) (ha : a < 65536) (hb : b < 65536) : Go.bits .or .i64 (a : Int) (b : Int) = ((a ||| b : Nat) : Int) := by
 have hx : a ||| b < 2 ^ 16 := Nat.or_lt_two_pow (by omega) (by omega)
 show IntKind.i64.wrap ((BitVec.ofInt 64 (a : Int) ||| BitVec.ofInt 64 (b : Int)).toNat : Int) = _
 rw [BitVec.toNat_or, ofInt_64 a (by omega), ofInt_64 b (by omega), IntWalk.i64_in _ (by omega)]
theorem or_two (b c : UInt8) : Go.bits .or .i64 (shl8 (b.toNat : Int)) (c.toNat : Int) = (b.toNat : Int) * 256 + (c.toNat : Int) := by
 have hb := b.toNat_lt; have hc := c.toNat_lt
 unfold shl8
 rw [show (b.toNat : Int) * 256 = ((b.toNat * 256 : Nat) : Int) by omega, i64_or_nat _ _ (by omega) (by omega), or_low _ _ hc]
 omega
def ReadP (s : ByteArray) (w : World) (e : Ending) (w' : World) : Prop :=
 ∃ (k m : Int) (d t : ByteArray) (a : Option Addr) (n cp : Nat) (l : List En) (ok : Bool), e = .returned (.tuple #[nv k m d t a n cp, .bool ok]) /\ Below w.heap.size w w' /\ Ents a n l w' /\ n <= 100000 /\ d.size <= 100000 /\ t.size <= 100000 /\ (∀ j, j < n -> (l.getD j z0).1.size <= 100000) /\
  (ok = true -> parseR s.data.toList = if Nd.right less Nm.right ⟨k, m, d, t, l⟩ = true then (⟨k, m, d, t, l⟩, 0) else (Nd.none0, 2)) /\ (ok = false -> parseR s.data.toList = (Nd.none0, 2))
theorem readP_no {s : ByteArray} {w W : World} {k m : Int} {d t : ByteArray} (h : parseR s.data.toList = (Nd.none0, 2)) (hd : d.size <= 100000) (ht : t.size <= 100000) (hb : Below w.heap.size w W) : ReadP s w (.returned (.tuple #[nv k m d t none 0 0, .bool false])) W :=
 ⟨k, m, d, t, none, 0, 0, [], false, rfl, hb, ents_nil _, Nat.zero_le _, hd, ht, λj hj => by omega, λe => (by cases e), λ_ => h⟩
theorem readP_one {s : ByteArray} {w W : World} {k m : Int} {d t : ByteArray} (h : parseR s.data.toList = if Nd.right less Nm.right ⟨k, m, d, t, []⟩ = true then (⟨k, m, d, t, []⟩, 0) else (Nd.none0, 2)) (hd : d.size <= 100000) (ht : t.size <= 100000) (hb : Below w.heap.size w W) : ReadP s w (.returned (.tuple #[nv k m d t none 0 0, .bool true])) W :=
 ⟨k, m, d, t, none, 0, 0, [], true, rfl, hb, ents_nil _, Nat.zero_le _, hd, ht, λj hj => by omega, λ_ => h, λe => (by cases e)⟩
theorem read_any (s : ByteArray) (w : World) (hs : s.size <= 100000) : Calls prog 168 #[.string s] w (ReadP s w) := by
 have HL := hid (show s.data.toList.length = s.size from Array.length_toList)
 have HB0 := hid (show ∀ x : Obj, Below w.heap.size w (w.alloc x) from λx => (Below.refl _ w).alloc (Nat.le_refl _) _)
 rcases Nat.lt_or_ge s.size 3 with h3 | h3
 ·have h3i : (s.size : Int) < 3 := by omega
  have HR := hid (parseR_none (s := s.data.toList) (Nd.parse_short (by rw [HL.out]; exact h3)))
  clear h3
  go_enter func168, ntmps168
  go_wp2_with fail
  refine scope_fwd 0 rfl ?_
  go_wp2_with fail
  simp only [Exit.jump]
  refine bodyPost_ret_by (results_nd rfl _ _ w.heap.size _ _ _ _ _ rfl (heap_alloc_new _ _)) rfl ?_
  exact readP_no HR.out (Nat.zero_le _) (Nat.zero_le _) (HB0.out _)
 have h3i : ¬ (s.size : Int) < 3 := by omega
 have h0 : 0 < s.size := by omega
 have h1 : 1 < s.size := by omega
 have h2 : 2 < s.size := by omega
 have HA0 := hid (b_at s h0)
 have HA1 := hid (b_at s h1)
 have HA2 := hid (b_at s h2)
 have HY := hid (λes he => parseR_yes (s := s.data.toList) (by rw [HL.out]; exact h3) (es := es) he)
 have HNo := hid (λhk he => parseR_none (Nd.parse_no (lt := less) (nm := Nm.right) (l := s.data.toList) (by rw [HL.out]; exact h3) hk he))
 have HRst := hid (rest_is s h3)
 have hrs : (s.extract 3 s.size).size <= 100000 := by rw [HRst.out, lstr_size, List.length_drop, HL.out]; omega
 have HRs := hid hrs
 have hz1 := s[1].toNat_lt
 have hz1i : (s[1].toNat : Int) < 256 := by omega
 have hor := or_two s[1] s[2]
 have i1 : (1 : Int) < (s.size : Int) := by omega
 have i2 : (2 : Int) < (s.size : Int) := by omega
 clear hrs
 by_cases k1 : s[0].toNat = 1
 ·have HV := hid (show parseR s.data.toList = if Nd.right less Nm.right ⟨1, ((s[1].toNat : Int) * 256 + (s[2].toNat : Int)), s.extract 3 s.size, ⟨#[]⟩, []⟩ = true then (⟨1, ((s[1].toNat : Int) * 256 + (s[2].toNat : Int)), s.extract 3 s.size, ⟨#[]⟩, []⟩, 0) else (Nd.none0, 2) by
   have hnd : ndOf s.data.toList [] = ⟨1, ((s[1].toNat : Int) * 256 + (s[2].toNat : Int)), s.extract 3 s.size, ⟨#[]⟩, []⟩ := by
    rw [HRst.out]; unfold ndOf Nd.nodeOf; rw [<- HA0.out, <- HA1.out, <- HA2.out, k1, if_pos rfl, if_neg (by omega)]; rfl
   rw [<- hnd]; exact HY.out [] (by rw [if_neg (by rw [<- HA0.out]; omega)]))
  clear HNo HY HA0 HA1 HA2 HRst
  go_enter func168, ntmps168
  go_wp2_with fail
  refine scope_fwd 0 rfl ?_
  go_wp2_with fail
  go_region
  go_wp2_with fail
  refine wp_goto ?_
  refine ⟨rfl, ?_⟩
  go_wp2_with fail
  simp only [Exit.jump]
  refine bodyPost_ret_by (results_nd rfl _ _ w.heap.size _ _ _ _ _ rfl (heap_alloc_new _ _)) rfl ?_
  exact readP_one HV.out HRs.out (Nat.zero_le _) ((HB0.out _).drew)
 by_cases k3 : s[0].toNat = 3
 ·have HV := hid (show parseR s.data.toList = if Nd.right less Nm.right ⟨3, ((s[1].toNat : Int) * 256 + (s[2].toNat : Int)), ⟨#[]⟩, s.extract 3 s.size, []⟩ = true then (⟨3, ((s[1].toNat : Int) * 256 + (s[2].toNat : Int)), ⟨#[]⟩, s.extract 3 s.size, []⟩, 0) else (Nd.none0, 2) by
   have hnd : ndOf s.data.toList [] = ⟨3, ((s[1].toNat : Int) * 256 + (s[2].toNat : Int)), ⟨#[]⟩, s.extract 3 s.size, []⟩ := by
    rw [HRst.out]; unfold ndOf Nd.nodeOf; rw [<- HA0.out, <- HA1.out, <- HA2.out, k3, if_neg (by omega), if_pos rfl]; rfl
   rw [<- hnd]; exact HY.out [] (by rw [if_neg (by rw [<- HA0.out]; omega)]))
  clear HNo HY HA0 HA1 HA2 HRst
  go_enter func168, ntmps168
  go_wp2_with fail
  refine scope_fwd 2 rfl ?_
  go_wp2_with fail
  go_region
  go_wp2_with fail
  refine wp_goto ?_
  refine ⟨rfl, ?_⟩
  go_wp2_with fail
  simp only [Exit.jump]
  refine bodyPost_ret_by (results_nd rfl _ _ w.heap.size _ _ _ _ _ rfl (heap_alloc_new _ _)) rfl ?_
  exact readP_one HV.out (Nat.zero_le _) HRs.out ((HB0.out _).drew)
 by_cases k2 : s[0].toNat = 2
 ·have HVA := hid (show ∀ es, Nd.ents (s.data.toList.drop 3) = some es -> parseR s.data.toList = if Nd.right less Nm.right ⟨2, ((s[1].toNat : Int) * 256 + (s[2].toNat : Int)), ⟨#[]⟩, ⟨#[]⟩, es⟩ = true then (⟨2, ((s[1].toNat : Int) * 256 + (s[2].toNat : Int)), ⟨#[]⟩, ⟨#[]⟩, es⟩, 0) else (Nd.none0, 2) from λes he => by
   have hnd : ndOf s.data.toList es = ⟨2, ((s[1].toNat : Int) * 256 + (s[2].toNat : Int)), ⟨#[]⟩, ⟨#[]⟩, es⟩ := by
    unfold ndOf Nd.nodeOf; rw [<- HA0.out, <- HA1.out, <- HA2.out, k2, if_neg (by omega), if_neg (by omega)]; rfl
   rw [<- hnd]; exact HY.out es (by rw [if_pos (by rw [<- HA0.out]; exact k2), he]))
  have HVN := hid (show (∀ es, Nd.ents (s.data.toList.drop 3) = some es -> 64 < es.length) -> parseR s.data.toList = (Nd.none0, 2) from λhl => by
   cases he : Nd.ents (s.data.toList.drop 3) with
   | none => exact HNo.out (by rw [<- HA0.out]; exact k2) he
   | some es =>
    rw [HVA.out es he, if_neg]
    intro h
    have := ((Nd.right_iff _).1 h).len
    have := hl es he
    dsimp only at *
    omega)
  have HRe := hid (λW => readEntries_any (s.extract 3 s.size) W HRs.out)
  have hsd : (s.extract 3 s.size).data.toList = s.data.toList.drop 3 := by rw [HRst.out]; rfl
  rw [hsd] at HRe
  clear HNo HY HA0 HA1 HA2 HRst hsd
  go_enter func168, ntmps168
  go_wp2_with fail
  refine scope_fwd 1 rfl ?_
  go_wp2_with fail
  go_region
  go_wp2_with fail
  refine wp_goto ?_
  refine ⟨rfl, ?_⟩
  go_wp2_with fail
  refine (HRe.out _).mono ?_
  rintro e w2 ⟨hb2, hcase⟩
  have HX2 := hid ((hb2.block w.heap.size (by simp)).trans (show _ = some (.cells #[.int .i64 2, .int .i64 ((s[1].toNat : Int) * 256 + (s[2].toNat : Int)), .string ⟨#[]⟩, .string ⟨#[]⟩, .slice none 0 0] 67 (0, 0)) from heap_alloc_new w _))
  have HB2 := hid (((HB0.out _).drew).trans (hb2.mono (HB0.out _).size))
  have hx := HX2.out
  have x0 := bxc5 hx
  have f0 := bxf5 hx
  clear hx hb2
  rcases hcase with ⟨es, ao, cp, he, hl64, hes, rfl, hown⟩ | ⟨hno, rfl⟩
  ·have HV := hid (HVA.out es he)
   have HO := hid hown
   have HES := hid hes
   have HL64 := hid hl64
   clear HVA HVN he hown hes hl64
   dsimp only
   go_wp2_with fail
   simp only [Exit.jump]
   have h4 : (w2.setCell ⟨w.heap.size, 4, none⟩ (.slice ao es.length cp)).heap[w.heap.size]? = some (.cells #[.int .i64 2, .int .i64 ((s[1].toNat : Int) * 256 + (s[2].toNat : Int)), .string ⟨#[]⟩, .string ⟨#[]⟩, .slice ao es.length cp] 67 (0, 0)) := by simpa using heap_setCell_same w2 w.heap.size 4 _ 67 (.slice ao es.length cp) HX2.out
   refine bodyPost_ret_by (results_nd rfl _ _ w.heap.size _ _ _ _ _ rfl (set5 _ _ _ _ _ h4)) rfl ?_
   exact ⟨2, ((s[1].toNat : Int) * 256 + (s[2].toNat : Int)), ⟨#[]⟩, ⟨#[]⟩, ao, es.length, cp, es, true, rfl, below5 (HB2.out.setCell (Nat.le_refl _) _) (Nat.le_refl _) _ _ _ _ _, own_ents (own_set5 (own_set HO.out (by simp) 4 _) (by simp) _ _ _ _ _), Nat.le_trans HL64.out (by decide), Nat.zero_le _, Nat.zero_le _, λj hj => by rw [List.getD, List.getElem?_eq_getElem hj]; exact Nat.le_trans (HES.out _ (List.getElem_mem hj)) (by decide), λ_ => HV.out, λe => (by cases e)⟩
  ·have HV := hid (HVN.out hno)
   clear HVA HVN hno
   dsimp only
   go_wp2_with fail
   simp only [Exit.jump]
   have h4 : (w2.setCell ⟨w.heap.size, 4, none⟩ (.slice none 0 0)).heap[w.heap.size]? = some (.cells #[.int .i64 2, .int .i64 ((s[1].toNat : Int) * 256 + (s[2].toNat : Int)), .string ⟨#[]⟩, .string ⟨#[]⟩, .slice none 0 0] 67 (0, 0)) := by simpa using heap_setCell_same w2 w.heap.size 4 _ 67 (.slice none 0 0) HX2.out
   refine bodyPost_ret_by (results_nd rfl _ _ w.heap.size _ _ _ _ _ rfl (set5 _ _ _ _ _ h4)) rfl ?_
   exact readP_no HV.out (Nat.zero_le _) (Nat.zero_le _) (below5 (HB2.out.setCell (Nat.le_refl _) _) (Nat.le_refl _) _ _ _ _ _)
 ·have HV := hid (show parseR s.data.toList = (Nd.none0, 2) by
   rw [HY.out [] (by rw [if_neg (by rw [<- HA0.out]; omega)]), if_neg]
   intro h
   have hk := ((Nd.right_iff _).1 h).kinds
   have e : (ndOf s.data.toList []).kind = (s[0].toNat : Int) := by rw [HA0.out]; rfl
   rw [e] at hk
   omega)
  have k1i : ¬ (s[0].toNat : Int) = 1 := by omega
  have k2i : ¬ (s[0].toNat : Int) = 2 := by omega
  have k3i : ¬ (s[0].toNat : Int) = 3 := by omega
  clear HNo HY HA0 HA1 HA2 HRst
  go_enter func168, ntmps168
  go_wp2_with fail
  refine scope_fwd 0 rfl ?_
  go_wp2_with fail
  go_region
  go_wp2_with fail
  simp only [Exit.jump]
  refine bodyPost_ret_by (results_nd rfl _ _ w.heap.size _ _ _ _ _ rfl (heap_alloc_new _ _)) rfl ?_
  exact readP_no HV.out (Nat.zero_le _) (Nat.zero_le _) ((HB0.out _).drew)
end Go.Proofs.YthbajmlmjjfgpaaGreatDoor
namespace Go.Proofs.YthbajmlmjjfgpaaGreatDoor
open Go.RowKit Go.Less
attribute [local go_sem 9000] sem_eql sem_neq sem_lss sem_leq sem_gtr sem_geq
theorem pp_two (w w1 : World) (cs : Array Value) (o : Obj) (ho : o = .cells cs 67 (0, 0)) (h : w1.heap[w.heap.size]? = some (.cells zc 67 (0, 0))) : (w1.alloc o).heap[w1.heap.size]? = some (.cells cs 67 (0, 0)) /\ (w1.alloc o).heap[w.heap.size]? = some (.cells zc 67 (0, 0)) := by
 subst ho
 exact ⟨heap_alloc_new w1 _, ((below_one w1 _).block _ (lt_of_obj h)).trans h⟩
theorem pp_back {p : Nat} {w1 : World} {x0 x1 x2 x3 x4 : Value} (h : w1.heap[p]? = some (.cells #[x0, x1, x2, x3, x4] 67 (0, 0))) (v0 v1 v2 v3 v4 : Value) (o : Obj) :
  ((((((w1.setCell ⟨p, 0, none⟩ v0).setCell ⟨p, 1, none⟩ v1).setCell ⟨p, 2, none⟩ v2).setCell ⟨p, 3, none⟩ v3).setCell ⟨p, 4, none⟩ v4).alloc o).heap[p]? = some (.cells #[v0, v1, v2, v3, v4] 67 (0, 0)) :=
 ((below_one _ o).block _ (lt_of_obj (set5 v0 v1 v2 v3 v4 h))).trans (set5 v0 v1 v2 v3 v4 h)
theorem pp_below {w w1 : World} (h : Below w.heap.size w w1) (v0 v1 v2 v3 v4 : Value) (o : Obj) :
  Below w.heap.size w ((((((w1.setCell ⟨w.heap.size, 0, none⟩ v0).setCell ⟨w.heap.size, 1, none⟩ v1).setCell ⟨w.heap.size, 2, none⟩ v2).setCell ⟨w.heap.size, 3, none⟩ v3).setCell ⟨w.heap.size, 4, none⟩ v4).alloc o) :=
 (below5 h (Nat.le_refl _) v0 v1 v2 v3 v4).alloc (below5 h (Nat.le_refl _) v0 v1 v2 v3 v4).size _
theorem parse_any (s : ByteArray) (w : World) (hs : s.size <= 100000) : Calls prog 131 #[.string s] w (Noded (parseR s.data.toList) w) := by
 have HRd := hid (λW => read_any s W hs)
 have HB0 := hid (show ∀ x : Obj, Below w.heap.size w (w.alloc x) from λx => (Below.refl _ w).alloc (Nat.le_refl _) _)
 go_enter func131, ntmps131
 go_wp2_with fail
 refine (HRd.out _).mono ?_
 rintro e w1 ⟨k, m, d, t, a, n, cp, l, ok, rfl, hb1, hE, hn, hd, ht, hls, hyes, hno⟩
 have HZ1 := hid ((hb1.block w.heap.size (by simp)).trans (heap_alloc_new w _))
 have HB1 := hid ((HB0.out _).trans (hb1.mono (HB0.out _).size))
 clear hb1 HRd
 have hr1 := HZ1.out
 have r0 := bxc5 hr1
 have q0 := bxf5 hr1
 have hwl := lt_of_obj hr1
 clear hr1
 cases ok with
 | false =>
  have HR := hid (hno rfl)
  clear hyes hno hE hls
  dsimp only
  go_wp2_with fail
  refine bodyPost_ret_by (results_nd rfl _ _ w.heap.size _ _ _ _ _ rfl (pp_back HZ1.out _ _ _ _ _ _)) rfl ⟨none, 0, by rw [HR.out]; rfl, by rw [HR.out]; exact ents_nil _, pp_below HB1.out _ _ _ _ _ _⟩
 | true =>
  have HR := hid (hyes rfl)
  have HA := hid (pp_two w w1 #[.int .i64 k, .int .i64 m, .string d, .string t, .slice a n cp] _ rfl HZ1.out)
  have HN := hid (node_any k m d t a n cp l (w1.alloc (.cells #[.int .i64 k, .int .i64 m, .string d, .string t, .slice a n cp] 67)) (hE.below (below_one w1 _)) (by omega) hls)
  have HOw := hid (λW (hb : Below w1.heap.size w1 W) => own_any k m d t a n cp l W (hE.below hb) hn hls hd ht)
  unfold Samed at HN
  have HBA := hid (show ∀ o : Obj, Below w.heap.size w (w1.alloc o) from λo => HB1.out.alloc HB1.out.size _)
  clear hyes hno hE hls r0 q0
  cases hrt : ndr k m d t l
  ·rw [hrt] at HN
   have HR2 := hid (show parseR s.data.toList = (Nd.none0, 2) by rw [HR.out, if_neg]; intro h; unfold ndr at hrt; rw [hrt] at h; cases h)
   clear HR hrt
   dsimp only
   go_wp2_with fail
   refine HN.out.mono ?_
   rintro e w2 ⟨rfl, hw2⟩
   have HZ2 := hid ((hw2.block _ (lt_of_obj HA.out.2)).trans HA.out.2)
   have HB2 := hid ((HBA.out _).trans (hw2.mono (HBA.out _).size))
   have hr1 := HZ2.out
   have r0 := bxc5 hr1
   have q0 := bxf5 hr1
   clear hr1 hw2
   dsimp only
   go_wp2_with fail
   refine bodyPost_ret_by (results_nd rfl _ _ w.heap.size _ _ _ _ _ rfl (set5 _ _ _ _ _ HZ2.out)) rfl ⟨none, 0, by rw [HR2.out]; rfl, by rw [HR2.out]; exact ents_nil _, below5 HB2.out (Nat.le_refl _) _ _ _ _ _⟩
  ·rw [hrt] at HN
   have HR2 := hid (show parseR s.data.toList = (⟨k, m, d, t, l⟩, 0) by rw [HR.out, if_pos (show Nd.right less Nm.right _ = true from hrt)])
   clear HR hrt
   dsimp only
   go_wp2_with fail
   refine HN.out.mono ?_
   rintro e w2 ⟨rfl, hw2⟩
   have HZ2 := hid ((hw2.block _ (lt_of_obj HA.out.2)).trans HA.out.2)
   have HX2 := hid ((hw2.block _ (lt_of_obj HA.out.1)).trans HA.out.1)
   have HB2 := hid ((HBA.out _).trans (hw2.mono (HBA.out _).size))
   have HW2 := hid ((below_one w1 _).trans (hw2.mono (below_one w1 _).size))
   have hx := HX2.out
   have x0 : w2.cell? ⟨w1.heap.size, 0, none⟩ = some (.int .i64 k) := cell_obj hx 0
   have x1 : w2.cell? ⟨w1.heap.size, 1, none⟩ = some (.int .i64 m) := cell_obj hx 1
   have x2 : w2.cell? ⟨w1.heap.size, 2, none⟩ = some (.string d) := cell_obj hx 2
   have x3 : w2.cell? ⟨w1.heap.size, 3, none⟩ = some (.string t) := cell_obj hx 3
   have x4 : w2.cell? ⟨w1.heap.size, 4, none⟩ = some (.slice a n cp) := cell_obj hx 4
   clear hx hw2
   dsimp only
   go_wp2_with fail
   refine (HOw.out _ HW2.out).mono ?_
   rintro e w3 ⟨ao, cp3, rfl, hown, hw3⟩
   have HZ3 := hid ((hw3.block _ (lt_of_obj HZ2.out)).trans HZ2.out)
   have HB3 := hid (HB2.out.trans (hw3.mono HB2.out.size))
   have HO3 := hid hown
   have hlt2 := lt_of_obj HZ2.out
   have hr1 := HZ3.out
   have r0 := bxc5 hr1
   have q0 := bxf5 hr1
   clear hr1 hw3 hown x0 x1 x2 x3 x4
   dsimp only
   go_wp2_with fail
   refine bodyPost_ret_by (results_nd rfl _ _ w.heap.size _ _ _ _ _ rfl (set5 _ _ _ _ _ HZ3.out)) rfl ⟨ao, cp3, by rw [HR2.out]; rfl, by rw [HR2.out]; exact own_ents (own_set5 HO3.out hlt2 _ _ _ _ _), below5 HB3.out (Nat.le_refl _) _ _ _ _ _⟩
end Go.Proofs.YthbajmlmjjfgpaaGreatDoor
namespace Go.Proofs.YthbajmlmjjfgpaaGreatDoor
open Go.RowKit Go.Less
structure Small (d t : ByteArray) (n : Nat) (l : List En) : Prop where
 n80 : n <= 80
 names : ∀ x ∈ l, x.1.size <= 100
 d5 : d.size <= 5000
 t5 : t.size <= 500
theorem Small.at {d t : ByteArray} {n : Nat} {l : List En} (h : Small d t n l) (hn : n = l.length) : ∀ j, j < n -> (l.getD j z0).1.size <= 100000 := λj hj => by
 rw [List.getD, List.getElem?_eq_getElem (by omega)]
 exact Nat.le_trans (h.names _ (List.getElem_mem (by omega))) (by decide)
end Go.Proofs.YthbajmlmjjfgpaaGreatDoor
namespace Go.Proofs.YthbajmlmjjfgpaaGreatDoor
open Go.RowKit Go.Less
open T8 (Rp Dg pv Mapped mput_any mdel_any mlen_any mname_any mget_there cn)
structure Okl (l : List Fs.Item) : Prop where
 inos : Fs.Rising l
 pos : ∀ y ∈ l, 1 <= y.1 /\ y.1 <= 2147483647
 right : ∀ y ∈ l, Nd.Right less Nm.right y.2
 few : l.length <= 1000
theorem Okl.ub {l : List Fs.Item} (h : Okl l) : Fs.Ub l := λy hy => by have := h.pos y hy; omega
theorem Okl.node {l : List Fs.Item} (h : Okl l) {i : Int} {x : Nd.Node} (hx : Fs.node l i = some x) : Nd.Right less Nm.right x /\ 1 <= i /\ i <= 2147483647 :=
 ⟨h.right _ (Fs.node_mem hx), h.pos _ (Fs.node_mem hx)⟩
structure Sv (w : World) (m : Option Nat) (l : List Fs.Item) : Prop where
 rp : Rp w m (Fs.kv l)
 ok : Okl l
 dg : Dg w
theorem Sv.below {w w' : World} {m : Option Nat} {l : List Fs.Item} (h : Sv w m l) (hb : Below w.heap.size w w') : Sv w' m l := ⟨h.rp.below hb, h.ok, h.dg.below hb⟩
abbrev stv (m : Option Nat) (nx : Int) : Value := .agg #[pv m, .int .i64 nx]
theorem ents_text_len (es : List En) (h : ∀ e ∈ es, Nm.right (Nd.bs e.1) = true) : ((es.map Nd.entText).flatten).length <= 21 * es.length := by
 induction es with
 | nil => simp
 | cons x es ih =>
  have h1 := nm_len (h x List.mem_cons_self)
  have h2 := ih λe he => h e (List.mem_cons_of_mem _ he)
  simp only [List.map_cons, List.flatten_cons, List.length_append, List.length_cons, Nd.entText, Nd.n4, List.length_nil]
  omega
theorem txt_size {x : Nd.Node} (h : Nd.Right less Nm.right x) : (Fs.txt x).size <= 10000 := by
 unfold Fs.txt
 rw [Nd.size_mk]
 have h1 := ents_text_len x.ents λe he => (h.ok e he).1
 have h2 := h.len
 have hd : (Nd.bs x.data).length <= 4096 := by
  rw [Nd.len_bs]
  rcases h.kinds with ⟨_, _, _, e⟩ | ⟨_, _, e⟩ | ⟨_, e, _⟩
  ·exact e
  ·rw [e]; decide
  ·rw [e]; decide
 have ht : (Nd.bs x.target).length <= 64 := by
  rw [Nd.len_bs]
  rcases h.kinds with ⟨_, e, _⟩ | ⟨_, e, _⟩ | ⟨_, _, _, _, e⟩
  ·rw [e]; decide
  ·rw [e]; decide
  ·exact e
 simp only [Nd.text, List.length_cons, List.length_append]
 omega
theorem nm256 : ∀ l, Nm.right l = true -> l.length < 256 := λl h => Nat.lt_of_le_of_lt (nm_len h) (by decide)
theorem parse_txt {x : Nd.Node} (h : Nd.Right less Nm.right x) : parseR (Fs.txt x).data.toList = (x, 0) := by
 show parseR (Nd.text x) = _
 unfold parseR
 rw [Nd.parse_text nm256 h]
theorem prt_txt {x : Nd.Node} (h : Nd.Right less Nm.right x) : prt x = (Fs.txt x, 0) := by
 unfold prt
 rw [if_pos ((Nd.right_iff x).2 h)]; rfl
theorem Right.small {x : Nd.Node} (h : Nd.Right less Nm.right x) : ∀ j, j < x.ents.length -> (x.ents.getD j z0).1.size <= 100000 := λj hj => by
 rw [List.getD, List.getElem?_eq_getElem hj]
 have := nm_len (h.ok _ (List.getElem_mem hj)).1
 rw [Nd.len_bs] at this
 exact Nat.le_trans this (by decide)
theorem get_node {w : World} {m : Option Nat} {l : List Fs.Item} (h : Sv w m l) {i : Int} (hi : 0 <= i /\ i < 4294967296) : Tr.get (Fs.kv l) (Fs.key i) = (Fs.node l i).map Fs.txt := Fs.get_kv h.ok.ub hi
theorem Okl.set {l : List Fs.Item} (h : Okl l) {i : Int} {x : Nd.Node} (h1 : 1 <= i /\ i <= 2147483647) (hR : Nd.Right less Nm.right x) (hi : (Fs.node l i).isSome = true \/ ∀ y ∈ l, y.1 < i) (hf : l.length <= 999) : Okl (Fs.setL l i x) := by
 refine ⟨Fs.rising_set h.inos hi, λy hy => ?_, λy hy => ?_, ?_⟩
 ·rcases Fs.mem_set hy with rfl | ⟨hy, _⟩
  ·exact h1
  ·exact h.pos y hy
 ·rcases Fs.mem_set hy with rfl | ⟨hy, _⟩
  ·exact hR
  ·exact h.right y hy
 ·rw [Fs.len_set]; split <;> omega
theorem Okl.drop {l : List Fs.Item} (h : Okl l) (i : Int) : Okl (Fs.dropL l i) :=
 ⟨Fs.rising_drop h.inos i, λy hy => h.pos y (List.mem_filter.1 hy).1, λy hy => h.right y (List.mem_filter.1 hy).1, Nat.le_trans (Fs.len_drop l i) h.few⟩
end Go.Proofs.YthbajmlmjjfgpaaGreatDoor
namespace Go.Proofs.YthbajmlmjjfgpaaGreatDoor
open Go.RowKit Go.Less
attribute [local go_sem 9000] sem_eql sem_neq
section
variable {w : World} {a : Option Addr} {n c : Nat} {nx : Int} {cs : Array Value} {L : List MI} {u v : Value} {W : World}
end
section
variable {w : World} {a : Option Addr} {n c : Nat} {nx : Int} {L : List MI} {u v : Value} {W : World}
end
structure Wb (w : World) (a : Option Addr) (n c : Nat) (nx : Int) (W : World) : Prop where
 box : W.heap[w.heap.size]? = some (.cells #[.slice a n c, .int .i64 nx] 51 (0, 0))
 below : Below w.heap.size w W
theorem Wb.kept {w W W' : World} {a : Option Addr} {n c : Nat} {nx : Int} (h : Wb w a n c nx W) (hb : Below W.heap.size W W') : Wb w a n c nx W' :=
 ⟨(hb.block _ (lt_of_obj h.box)).trans h.box, h.below.trans (hb.mono h.below.size)⟩
def at_ (ss : List ByteArray) (j : Nat) : ByteArray := ss.getD j ByteArray.empty
theorem walk_at {l : List Fs.Item} {ss : List ByteArray} {j : Nat} (i : Int) (h : j < ss.length) : Fs.walk l i (ss.drop j) = if (Fs.nodeD l i).kind ≠ 2 then .error 10 else match Nd.find (Fs.nodeD l i).ents (at_ ss j) with
  | none => .error 4
  | some c => Fs.walk l c (ss.drop (j + 1)) := by
 rw [List.drop_eq_getElem_cons h, Fs.walk]
 have : ss[j] = at_ ss j := by unfold at_; rw [List.getD, List.getElem?_eq_getElem h]; rfl
 rw [this]; rfl
end Go.Proofs.YthbajmlmjjfgpaaGreatDoor
namespace Go.Proofs.YthbajmlmjjfgpaaGreatDoor
open Go.RowKit
structure Splitted (l : List UInt8) (w : World) (e : Ending) (w' : World) : Prop where
 yes : ∀ ns, Nm.split l = some ns -> ∃ ao cap, e = .returned (.tuple #[.slice ao ns.length cap, .int .i64 0]) /\ Trow w.heap.size (.slice ao ns.length cap) ns w'
 no : Nm.split l = none -> e = .returned (.tuple #[.slice none 0 0, .int .i64 14])
 below : Below w.heap.size w w'
theorem split_none {l : List UInt8} {w w' : World} (h : Nm.split l = none) (hb : Below w.heap.size w w') : Splitted l w (.returned (.tuple #[.slice none 0 0, .int .i64 14])) w' :=
 ⟨(λns e => by rw [h] at e; cases e), (λ_ => rfl), hb⟩
theorem split_some {l : List UInt8} {ns : List (List UInt8)} {w w' : World} {ao : Option Addr} {cap : Nat} (h : Nm.split l = some ns) (hT : Trow w.heap.size (.slice ao ns.length cap) ns w') (hb : Below w.heap.size w w') : Splitted l w (.returned (.tuple #[.slice ao ns.length cap, .int .i64 0])) w' :=
 ⟨(λms e => by rw [h] at e; cases e; exact ⟨ao, cap, rfl, hT⟩), (λe => by rw [h] at e; cases e), hb⟩
end Go.Proofs.YthbajmlmjjfgpaaGreatDoor
namespace Go.Proofs.YthbajmlmjjfgpaaGreatDoor
open Go.RowKit Go.Less
attribute [local go_sem 9000] sem_eql sem_neq
theorem split_few {l : List UInt8} {ns : List (List UInt8)} (h : Nm.split l = some ns) : ns.length <= 8 := by
 have h1 := Nm.join_split h
 unfold Nm.join at h1
 split at h1
 ·rename_i hx; exact hx.1
 ·cases h1
def spl (p : ByteArray) : Option (List ByteArray) := (Nm.split p.data.toList).map λns => ns.map lstr
theorem results_mid {fn : Func} {p u v : Tmp} (h : fn.results = #[.tmp u, .cell p 67, .tmp v]) (tmps : Array Value) (w : World) (g : Nat) (k m d t e : Value)
  (hp : tmps.getD p undef = .pointer (some ⟨g, 0, none⟩)) (hg : w.heap[g]? = some (.cells #[k, m, d, t, e] 67 (0, 0))) :
  (results fn tmps).run prog w = .ok (.tuple #[tmps.getD u undef, .agg #[k, m, d, t, e], tmps.getD v undef]) w := by
 simp only [results, h]
 simp only [List.mapM_cons, List.mapM_nil, Array.mapM_eq_mapM_toList, Sem.run_bind]
 simp [Result.andThen, hp, asAddr, run_loadVar_row (P := prog) w g 67 67 #[k, m, d, t, e] (0, 0) _ hg underlying67 rfl size24]
theorem ents_keep {a : Option Addr} {n p : Nat} {l : List En} {W : World} {k m : Int} {d t : ByteArray} {a' : Option Addr} {n' c' : Nat} (h : Ents a n l W)
  (hp : W.heap[p]? = some (.cells #[.int .i64 k, .int .i64 m, .string d, .string t, .slice a' n' c'] 67 (0, 0))) (v0 v1 v2 v3 v4 : Value) :
  Ents a n l (((((W.setCell ⟨p, 0, none⟩ v0).setCell ⟨p, 1, none⟩ v1).setCell ⟨p, 2, none⟩ v2).setCell ⟨p, 3, none⟩ v3).setCell ⟨p, 4, none⟩ v4) := by
 have hk : ∀ q, q ≠ p -> (((((W.setCell ⟨p, 0, none⟩ v0).setCell ⟨p, 1, none⟩ v1).setCell ⟨p, 2, none⟩ v2).setCell ⟨p, 3, none⟩ v3).setCell ⟨p, 4, none⟩ v4).heap[q]? = W.heap[q]? := λq hq => by
  rw [heap_setCell_other _ _ q _ (λe => hq e), heap_setCell_other _ _ q _ (λe => hq e), heap_setCell_other _ _ q _ (λe => hq e), heap_setCell_other _ _ q _ (λe => hq e), heap_setCell_other _ _ q _ (λe => hq e)]
 refine ⟨h.count, λi hi => ?_⟩
 obtain ⟨b, off, rfl, h0, h1⟩ := h.cell i hi
 by_cases hb : b = p
 ·subst hb
  rw [cell_obj hp] at h0 h1
  generalize off + i * 2 = j at h0 h1
  match j with
  | 0 => cases h0
  | 1 => cases h0
  | 2 => cases h1
  | 3 => cases h1
  | 4 => cases h0
  | j + 5 => simp at h0
 ·refine ⟨b, off, rfl, ?_, ?_⟩
  ·rw [<- h0]; simp only [World.cell?, hk b hb]
  ·rw [<- h1]; simp only [World.cell?, hk b hb]
def findR (l : List Fs.Item) (p : ByteArray) : Int × Nd.Node × Int := match spl p with
 | none => (0, Nd.none0, 14)
 | some ns => match Fs.walk l 1 ns with
  | .error e => (0, Nd.none0, e)
  | .ok i => (i, Fs.nodeD l i, 0)
def Foundy (r : Int × Nd.Node × Int) (w : World) (e : Ending) (w' : World) : Prop :=
 ∃ ea ec, e = .returned (.tuple #[.int .i64 r.1, nv r.2.1.kind r.2.1.mode r.2.1.data r.2.1.target ea r.2.1.ents.length ec, .int .i64 r.2.2]) /\ Ents ea r.2.1.ents.length r.2.1.ents w' /\ Below w.heap.size w w'
theorem foundy_none (c : Int) {w W : World} (hb : Below w.heap.size w W) {r : Int × Nd.Node × Int} (h : r = (0, Nd.none0, c)) :
  Foundy r w (.returned (.tuple #[.int .i64 0, .agg #[.int .i64 0, .int .i64 0, .string ⟨#[]⟩, .string ⟨#[]⟩, .slice none 0 0], .int .i64 c])) W := by
 subst h
 exact ⟨none, 0, rfl, ents_nil _, hb⟩
theorem walk_code (l : List Fs.Item) : ∀ (ns : List ByteArray) (i : Int), (∃ j, Fs.walk l i ns = .ok j) \/ Fs.walk l i ns = .error 10 \/ Fs.walk l i ns = .error 4
 | [], i => .inl ⟨i, rfl⟩
 | n :: ns, i => by
  unfold Fs.walk
  split
  ·exact .inr (.inl rfl)
  ·split
   ·exact .inr (.inr rfl)
   ·exact walk_code l ns _
end Go.Proofs.YthbajmlmjjfgpaaGreatDoor
