/- BlockKeeps walked. -/
import Derived.Test.YtdgbfkedgedogaaCounts
namespace Go.Proofs.Ytdgbfkedgedogaa
open Go.RowKit Go.Maps
def cnt (n : Nat) : Int := ((1 + n % 80 : Nat) : Int)
def r80 (n : Nat) : Int := ((n % 80 : Nat) : Int)
def fst_ (f n : Nat) : Int := ((f % (1 + n % 80 + 1) : Nat) : Int)
theorem sem_rem80 (t : TypeId) (n : Nat) : binOp .rem t (.int .u8 (n : Int)) (.int .u8 80) = pure (.int .u8 (r80 n)) := by
  rw [binOp_rem]
  show (pure (Value.int .u8 ((n : Int).tmod 80)) : Sem Value) = _
  rw [Int.tmod_eq_emod_of_nonneg (by omega)]; rfl
theorem sem_addcnt (t : TypeId) (n : Nat) : binOp .add t (.int .i64 1) (.int .i64 (r80 n)) = pure (.int .i64 (cnt n)) := by
  rw [binOp_add]
  show (pure (Value.int .i64 (IntKind.i64.wrap (1 + r80 n))) : Sem Value) = _
  unfold r80 cnt
  rw [wrapI (by omega) (by omega)]; push_cast; rfl
theorem sem_remfst (t : TypeId) (f n : Nat) : binOp .rem t (.int .i64 (f : Int)) (.int .i64 (cnt n + 1)) = pure (.int .i64 (fst_ f n)) := by
  have h : cnt n + 1 = ((1 + n % 80 + 1 : Nat) : Int) := by unfold cnt; push_cast; rfl
  rw [binOp_rem, h]
  unfold fst_ Op.intDiv
  rw [if_neg (by omega)]
  show (pure (Value.int .i64 (Int.tmod _ _)) : Sem Value) = _
  rw [Int.tmod_eq_emod_of_nonneg (by omega)]; rfl
def X1 : Sec := 120 :: List.replicate 31 0
theorem pad_x : pad ⟨#[120]⟩ = X1 := rfl
theorem calm_flush {t : St} (h : t.down = false) (hc : t.cut = 0) : t.flush = t.sync ∧ t.flushE = 0 := by
  unfold St.flush St.flushE St.failed St.failing
  rw [h, hc]; exact ⟨rfl, rfl⟩
theorem calm_write {t : St} (h : t.down = false) (hc : t.cut = 0) {a : Int} (h0 : 0 ≤ a) (h1 : a < t.size) {d : ByteArray} (hd : d.size ≤ 32) : t.write a d = t.put a (pad d) ∧ t.writeE a d = 0 := by
  have hr := live_refusal h h0 h1
  unfold St.write St.writeE
  rw [if_neg (by rw [hr]; simp; omega), if_neg (by simp [hr]), if_neg (by omega)]
  unfold St.failed St.failing
  rw [hc, if_pos (show (t.put a (pad d)).cut = 0 from hc)]
  exact ⟨rfl, rfl⟩
theorem calm_crash {t : St} (h : t.down = false) (K : BitVec 64) : t.crash K = t.drop K := by unfold St.crash; rw [h]; rfl
/-- The writes to the sectors f to i. -/
def wl (f i : Nat) : List (Int × Sec) := (List.range (i - f)).map fun j => (((f + j : Nat) : Int), X1)
structure KeepsT (C f i : Nat) (t : St) : Prop where
  down : t.down = false
  size : t.size = (C : Int)
  cut : t.cut = 0
  lasts : ∀ a : Nat, t.lasts a = if a < f then X1 else z32
  first : t.first = (wl f i).take 64
  seen : ∀ a : Nat, t.seen a = if a < i then X1 else z32
theorem KeepsT.new (C : Nat) : KeepsT C 0 0 (St.new C) := ⟨rfl, rfl, rfl, fun a => by rw [if_neg (by omega)]; rfl, rfl, fun a => by rw [if_neg (by omega)]; rfl⟩
theorem KeepsT.flush {C f i : Nat} {t : St} (h : KeepsT C f i t) : KeepsT C i i t.flush ∧ t.flushE = 0 := by
  obtain ⟨h1, h2⟩ := calm_flush h.down h.cut
  refine ⟨?_, h2⟩
  rw [h1]
  exact ⟨h.down, h.size, h.cut, h.seen, by unfold wl; rw [Nat.sub_self]; rfl, h.seen⟩
theorem wl_succ {f i : Nat} (h : f ≤ i) : wl f (i + 1) = wl f i ++ [((i : Int), X1)] := by
  unfold wl
  rw [show i + 1 - f = (i - f) + 1 by omega, List.range_succ, List.map_append]
  simp only [List.map_cons, List.map_nil]
  rw [show f + (i - f) = i by omega]
theorem take_snoc64 (l : List (Int × Sec)) (x : Int × Sec) : (l.take 64 ++ [x]).take 64 = (l ++ [x]).take 64 := by
  by_cases h : l.length ≤ 64
  · rw [List.take_of_length_le h]
  · rw [List.take_append_of_le_length (by rw [List.length_take]; omega), List.take_append_of_le_length (by omega), List.take_take, Nat.min_self]
theorem KeepsT.write {C f i : Nat} {t : St} (h : KeepsT C f i t) (hf : f ≤ i) (hi : i < C) : KeepsT C f (i + 1) (t.write i ⟨#[120]⟩) ∧ t.writeE i ⟨#[120]⟩ = 0 := by
  obtain ⟨h1, h2⟩ := calm_write h.down h.cut (a := (i : Int)) (by omega) (by rw [h.size]; omega) (d := ⟨#[120]⟩) (by decide)
  refine ⟨?_, h2⟩
  rw [h1, pad_x]
  refine ⟨h.down, h.size, h.cut, h.lasts, ?_, fun a => ?_⟩
  · show (t.first ++ [((i : Int), X1)]).take 64 = _
    rw [h.first, take_snoc64, wl_succ hf]
  · show setAt t.seen i X1 a = _
    unfold setAt
    by_cases ha : a = i
    · subst ha; rw [if_pos rfl, if_pos (by omega)]
    · rw [if_neg (by omega), h.seen a]
      by_cases hb : a < i
      · rw [if_pos hb, if_pos (by omega)]
      · rw [if_neg hb, if_neg (by omega)]
def kept (f : Nat) (K : BitVec 64) (i : Nat) : Bool := decide (i < f) || (decide (i - f < 64) && K.getLsbD (i - f))
theorem wl_at {f C m : Nat} (hm : m < ((wl f C).take 64).length) : (((wl f C).take 64).getD m (0, [])) = (((f + m : Nat) : Int), X1) ∧ m < 64 ∧ m < C - f := by
  have h2 : m < 64 ∧ m < C - f := by
    rw [List.length_take] at hm
    unfold wl at hm
    rw [List.length_map, List.length_range] at hm
    omega
  refine ⟨?_, h2⟩
  rw [List.getD, List.getElem?_take, if_pos h2.1]
  unfold wl
  rw [List.getElem?_map, List.getElem?_range h2.2]; rfl
theorem KeepsT.ends {C f : Nat} {t : St} (h : KeepsT C f C t) (K : BitVec 64) {i : Nat} (hi : i < C) : (t.drop K).seen i = if kept f K i then X1 else z32 := by
  show layD t.first (bits K) t.first.length t.lasts i = _
  rw [h.first]
  have hlen : ((wl f C).take 64).length = min 64 (C - f) := by unfold wl; rw [List.length_take, List.length_map, List.length_range]
  unfold kept
  by_cases h1 : i < f
  · rw [decide_eq_true h1, Bool.true_or, if_pos rfl, layD_none _ _ _ _ _ (fun m hm hb => ?_), h.lasts i, if_pos h1]
    rw [(wl_at hm).1]
    show ((f + m : Nat) : Int) ≠ (i : Int)
    omega
  · rw [decide_eq_false h1, Bool.false_or]
    by_cases h2 : bits K (i - f) = true
    · have h3 : i - f < 64 ∧ K.getLsbD (i - f) = true := by
        unfold bits at h2
        rw [Bool.and_eq_true] at h2
        exact ⟨of_decide_eq_true h2.1, h2.2⟩
      have hlt : i - f < ((wl f C).take 64).length := by rw [hlen]; omega
      rw [decide_eq_true h3.1, h3.2, Bool.and_self, if_pos rfl, layD_last _ _ _ _ (i - f) (by rw [(wl_at hlt).1]; show ((f + (i - f) : Nat) : Int) = i; omega) h2 _ hlt (fun m h4 h5 _ => ?_), (wl_at hlt).1]
      rw [(wl_at h5).1]
      show ((f + m : Nat) : Int) ≠ (i : Int)
      omega
    · have h3 : (decide (i - f < 64) && K.getLsbD (i - f)) = false := by
        unfold bits at h2
        cases hx : (decide (i - f < 64) && K.getLsbD (i - f))
        · rfl
        · exact absurd hx h2
      rw [h3, if_neg (by simp), layD_none _ _ _ _ _ (fun m hm hb => ?_), h.lasts i, if_neg h1]
      rw [(wl_at hm).1]
      show ((f + m : Nat) : Int) ≠ (i : Int)
      intro e
      have : m = i - f := by omega
      rw [this] at hb
      exact h2 hb
structure KeepsW (base : Nat) (w : World) (p C f i n : Nat) (h : Hd) (t : St) (wr : World) : Prop where
  on : On wr p h t n
  st : KeepsT C f i t
  own : ∀ j, owned p h j → base ≤ j
  below : Below base w wr
  len : base ≤ wr.heap.size
theorem lx1 : lstr X1 = ⟨#[120, 0, 0, 0, 0, 0, 0, 0, 0, 0, 0, 0, 0, 0, 0, 0, 0, 0, 0, 0, 0, 0, 0, 0, 0, 0, 0, 0, 0, 0, 0, 0]⟩ := rfl
theorem lz32 : lstr z32 = ⟨#[0, 0, 0, 0, 0, 0, 0, 0, 0, 0, 0, 0, 0, 0, 0, 0, 0, 0, 0, 0, 0, 0, 0, 0, 0, 0, 0, 0, 0, 0, 0, 0]⟩ := rfl
theorem wrapU {n : Int} (h0 : 0 ≤ n) (h1 : n ≤ 18446744073709551615) : IntKind.u64.wrap n = n := by
  simp only [IntKind.wrap, IntKind.bits, IntKind.signed]
  simp
  omega
attribute [local go_sem 9000] sem_shr64 sem_rem64 sem_eq01
attribute [local go_sem 9000] sem_rem80 sem_addcnt sem_remfst
set_option maxRecDepth 100000 in
set_option maxHeartbeats 2000000 in
theorem keeps_any (n f : Nat) (K : BitVec 64) (w : World) (hn : n < 256) (hf : f < 256) :
    Calls Try.prog 7 #[.int .u8 (n : Int), .int .u8 (f : Int), .int .u64 (u64 K)] w fun e w' => e = .returned (.bool true) ∧ Below w.heap.size w w' := by
  have hn' : (n : Int) < 256 := by omega
  have hf' : (f : Int) < 256 := by omega
  have hr0 : 0 ≤ r80 n := by unfold r80; omega
  have hr1 : r80 n < 80 := by unfold r80; omega
  have hc0 : 1 ≤ cnt n := by unfold cnt; omega
  have hc1 : cnt n ≤ 80 := by unfold cnt; omega
  go_enter Try.func7, Try.ntmps7
  go_wp2_with fail
  refine (awake_any _).mono ?_
  rintro e w1 ⟨rfl, b1⟩
  dsimp only
  go_wp2_with fail
  obtain ⟨C, hC, hCn⟩ : ∃ C : Nat, cnt n = (C : Int) ∧ C = 1 + n % 80 := ⟨_, rfl, rfl⟩
  obtain ⟨F, hF, hFn⟩ : ∃ F : Nat, fst_ f n = (F : Int) ∧ F = f % (1 + n % 80 + 1) := ⟨_, rfl, rfl⟩
  have hFC : F ≤ C := by have := Nat.mod_lt f (show 0 < 1 + n % 80 + 1 by omega); omega
  rw [hC] at hc0 hc1
  rw [hC, hF]
  clear hC hCn hF hFn hr0 hr1
  have hC1 : 1 ≤ C := by omega
  have hC2 : C ≤ 80 := by omega
  refine (on_new (C : Int) _ (by omega) (by omega)).mono ?_
  rintro e w2 ⟨p, h2, rfl, O2, o2, b2⟩
  have K2 := Lib.hid (show KeepsW w.heap.size w p C 0 0 0 h2 (St.new C) w2 from ⟨O2, KeepsT.new C, fun k hk => by have := o2 k hk; have := b1.size; omega, b1.trans (b2.mono b1.size), by have := b1.size; have := b2.size; omega⟩)
  clear O2 o2 b2 b1
  dsimp only
  go_wp2_with fail
  go_loopw [11] (fun i wr => ∃ (k f0 : Nat) (h : Hd) (t : St), k ≤ C ∧ i = .int .i64 k ∧ f0 = (if F < k then F else 0) ∧ KeepsW w.heap.size w p C f0 k k h t wr) (fun i _ => C - (intOf i).toNat)
  case atStart => exact ⟨0, 0, _, _, by omega, rfl, by rw [if_neg (by omega)], K2.out⟩
  case round =>
    obtain ⟨k, f0, h, t, hk, rfl, hf0, KW⟩ := hrel
    have HF0 := Lib.hid hf0
    clear hf0
    by_cases hlt : k < C
    · have hlt' : (k : Int) < (C : Int) := by omega
      by_cases hkF : k = F
      · subst hkF
        clear HF0
        go_wp2_with fail
        refine (on_flush KW.on (by omega)).mono ?_
        rintro e w3 ⟨rfl, h3, O3, T3⟩
        obtain ⟨S3, he⟩ := KW.st.flush
        have W3 := Lib.hid (show KeepsW w.heap.size w p C k k k h3 t.flush w3 from ⟨O3, S3, T3.owns KW.len KW.own, KW.below.trans (T3.below KW.len KW.own), Nat.le_trans KW.len T3.size⟩)
        rw [he]
        clear he S3 O3 T3 KW
        dsimp only
        go_wp2_with fail
        refine (on_write W3.out.on (by omega) (k : Int) (WalkArith.wf_i64 (by omega)) ⟨#[120]⟩ (by decide)).mono ?_
        rintro e w4 ⟨rfl, h4, O4, T4⟩
        obtain ⟨S4, he⟩ := W3.out.st.write (Nat.le_refl k) hlt
        have W4 := Lib.hid (show KeepsW w.heap.size w p C k (k + 1) (k + 1) h4 (t.flush.write k ⟨#[120]⟩) w4 from ⟨O4, S4, T4.owns W3.out.len W3.out.own, W3.out.below.trans (T4.below W3.out.len W3.out.own), Nat.le_trans W3.out.len T4.size⟩)
        rw [he]
        clear he S4 O4 T4 W3
        dsimp only
        go_wp2_with fail
        go_roundw
        case rel => exact ⟨k + 1, k, _, _, by omega, by go_num, by rw [if_pos (by omega)], W4.out⟩
        case measure => simp [intOf]; omega
      · have hkF' : ¬ (k : Int) = (F : Int) := by omega
        have hf0k : f0 ≤ k := by rw [HF0.out]; split <;> omega
        go_wp2_with fail
        refine (on_write KW.on (by omega) (k : Int) (WalkArith.wf_i64 (by omega)) ⟨#[120]⟩ (by decide)).mono ?_
        rintro e w4 ⟨rfl, h4, O4, T4⟩
        obtain ⟨S4, he⟩ := KW.st.write hf0k hlt
        have W4 := Lib.hid (show KeepsW w.heap.size w p C f0 (k + 1) (k + 1) h4 (t.write k ⟨#[120]⟩) w4 from ⟨O4, S4, T4.owns KW.len KW.own, KW.below.trans (T4.below KW.len KW.own), Nat.le_trans KW.len T4.size⟩)
        rw [he]
        clear he S4 O4 T4 KW
        dsimp only
        go_wp2_with fail
        go_roundw
        case rel => exact ⟨k + 1, f0, _, _, by omega, by go_num, by rw [HF0.out]; split <;> split <;> omega, W4.out⟩
        case measure => simp [intOf]; omega
    · obtain rfl : k = C := by omega
      have HW0 := Lib.hid KW
      go_wp2_with fail
      refine (on_crash KW.on (by omega) K).mono ?_
      rintro e w3 ⟨rfl, h3, O3, T3⟩
      rw [calm_crash KW.st.down K] at O3
      have own3 := T3.owns KW.len KW.own
      have bel3 := KW.below.trans (T3.below KW.len KW.own)
      have len3 := Nat.le_trans KW.len T3.size
      have hend := Lib.hid (fun i hi => KW.st.ends K (i := i) hi)
      have hsz : (t.drop K).size = (k : Int) := KW.st.size
      have hf0k : f0 = if F < k then F else 0 := HF0.out
      clear KW T3 HW0
      dsimp only
      go_wp2_with fail
      refine (on_start O3).mono ?_
      rintro e w4 ⟨rfl, h4, O4, T4⟩
      have O4' := Lib.hid O4
      have own4 := Lib.hid (T4.owns len3 own3)
      have bel4 := Lib.hid (bel3.trans (T4.below len3 own3))
      have len4 := Lib.hid (Nat.le_trans len3 T4.size)
      clear O3 O4 T4 own3 bel3 len3
      have hseen : Hid (∀ i, i < k → ({ t.drop K with down := false } : St).readS (i : Int) = lstr (if kept f0 K i then X1 else z32) ∧ ({ t.drop K with down := false } : St).refusal (i : Int) = 0) := fun i hi => by
        have hr : ({ t.drop K with down := false } : St).refusal (i : Int) = 0 := live_refusal rfl (by omega) (by show (i : Int) < (t.drop K).size; rw [hsz]; omega)
        refine ⟨?_, hr⟩
        unfold St.readS
        rw [if_neg (by rw [hr]; simp)]
        exact congrArg lstr (hend.out i hi)
      clear hend hsz
      have HF0K := Lib.hid hf0k
      clear hf0k
      generalize ({ t.drop K with down := false } : St) = t4 at O4' hseen
      dsimp only
      go_wp2_with fail
      go_loopw [12] (fun i wr => ∃ (j : Nat), j ≤ k ∧ i = .int .i64 j ∧ On wr p h4 t4 k ∧ Below w.heap.size w wr ∧ w.heap.size ≤ wr.heap.size) (fun i _ => k - (intOf i).toNat)
      case atStart => exact ⟨0, by omega, rfl, O4'.out, bel4.out, len4.out⟩
      case round =>
        obtain ⟨j, hj, rfl, O, hb, hlen⟩ := hrel
        by_cases hjk : j < k
        · have hjk' : (j : Int) < (k : Int) := by omega
          obtain ⟨hS, hR⟩ := hseen.out j hjk
          go_wp2_with fail
          refine (on_read O (by omega) (j : Int) (WalkArith.wf_i64 (by omega))).mono ?_
          rintro e w5 ⟨rfl, O5, B5⟩
          rw [hS, hR]
          have O5' := Lib.hid O5
          have b5 := Lib.hid (hb.trans (B5.mono hlen))
          have l5 := Lib.hid (Nat.le_trans hlen B5.size)
          clear O O5 hb hlen B5 hS hR
          have hwr : IntKind.i64.wrap ((j : Int) - (F : Int)) = (j : Int) - (F : Int) := wrapI (by omega) (by omega)
          by_cases hFk : F < k
          · have hFk' : ¬ (F : Int) = (k : Int) := by omega
            have hFk2 : (F : Int) < (k : Int) := by omega
            have ef : f0 = F := by rw [HF0K.out, if_pos hFk]
            rw [ef]
            by_cases hjF : j < F
            · have hjF' : (j : Int) < (F : Int) := by omega
              rw [show kept F K j = true by unfold kept; rw [decide_eq_true hjF, Bool.true_or], if_pos rfl, lx1]
              dsimp only
              go_wp2_with fail
              go_roundw
              case rel => exact ⟨j + 1, by omega, by go_num, O5'.out, b5.out, l5.out⟩
              case measure => simp [intOf]; omega
            · have hjF' : ¬ (j : Int) < (F : Int) := by omega
              have hjF2 : (F : Int) ≤ (j : Int) := by omega
              by_cases hm : j - F < 64
              · have hm' : (j : Int) - (F : Int) < 64 := by omega
                have hwu : IntKind.u64.wrap ((j : Int) - (F : Int)) = (j : Int) - (F : Int) := wrapU (by omega) (by omega)
                have h0 : 0 ≤ (j : Int) - (F : Int) := by omega
                have hp : par (K >>> (j - F)) = K.getLsbD (j - F) := par_shr K (j - F)
                have hkq : kept F K j = K.getLsbD (j - F) := by unfold kept; rw [decide_eq_false hjF, decide_eq_true hm]; simp
                rw [hkq]
                clear hkq
                cases hb : K.getLsbD (j - F)
                · rw [hb] at hp
                  rw [if_neg (by simp), lz32]
                  dsimp only
                  go_wp2_with fail
                  go_roundw
                  case rel => exact ⟨j + 1, by omega, by go_num, O5'.out, b5.out, l5.out⟩
                  case measure => simp [intOf]; omega
                · rw [hb] at hp
                  rw [if_pos rfl, lx1]
                  dsimp only
                  go_wp2_with fail
                  go_roundw
                  case rel => exact ⟨j + 1, by omega, by go_num, O5'.out, b5.out, l5.out⟩
                  case measure => simp [intOf]; omega
              · have hm' : ¬ (j : Int) - (F : Int) < 64 := by omega
                rw [show kept F K j = false by unfold kept; rw [decide_eq_false hjF, decide_eq_false hm]; rfl, if_neg (by simp), lz32]
                dsimp only
                go_wp2_with fail
                go_roundw
                case rel => exact ⟨j + 1, by omega, by go_num, O5'.out, b5.out, l5.out⟩
                case measure => simp [intOf]; omega
          · obtain rfl : F = k := by omega
            have ef : f0 = 0 := by rw [HF0K.out, if_neg (by omega)]
            have hjF3 : ¬ (F : Int) ≤ (j : Int) := by omega
            have hm' : (j : Int) - (F : Int) < 64 := by omega
            rw [ef]
            by_cases hm : j < 64
            · have hm2 : (j : Int) < 64 := by omega
              have hwu : IntKind.u64.wrap (j : Int) = (j : Int) := wrapU (by omega) (by omega)
              have hp : par (K >>> (j : Int).toNat) = K.getLsbD j := by rw [par_shr]; rfl
              have hp2 : par (K >>> j) = K.getLsbD j := par_shr K j
              have hkq : kept 0 K j = K.getLsbD j := by unfold kept; rw [decide_eq_false (by omega), Nat.sub_zero, decide_eq_true hm]; simp
              rw [hkq]
              clear hkq
              cases hb : K.getLsbD j
              · rw [hb] at hp hp2
                rw [if_neg (by simp), lz32]
                dsimp only
                go_wp2_with fail
                go_roundw
                case rel => exact ⟨j + 1, by omega, by go_num, O5'.out, b5.out, l5.out⟩
                case measure => simp [intOf]; omega
              · rw [hb] at hp hp2
                rw [if_pos rfl, lx1]
                dsimp only
                go_wp2_with fail
                go_roundw
                case rel => exact ⟨j + 1, by omega, by go_num, O5'.out, b5.out, l5.out⟩
                case measure => simp [intOf]; omega
            · have hm2 : ¬ (j : Int) < 64 := by omega
              rw [show kept 0 K j = false by unfold kept; rw [decide_eq_false (by omega), Nat.sub_zero, decide_eq_false hm]; rfl, if_neg (by simp), lz32]
              dsimp only
              go_wp2_with fail
              go_roundw
              case rel => exact ⟨j + 1, by omega, by go_num, O5'.out, b5.out, l5.out⟩
              case measure => simp [intOf]; omega
        · obtain rfl : j = k := by omega
          go_wp2_with fail
          go_ret
          exact ⟨rfl, hb⟩
end Go.Proofs.Ytdgbfkedgedogaa
