/- A part of the proofs. -/
import Derived.Test.YtgcgnolmdkkocaaGreatDoorM25
set_option maxRecDepth 1000000
set_option maxHeartbeats 16000000
open Go.Lib (hid)
open Go.Proofs.Tryz
namespace Go.Proofs.YtgcgnolmdkkocaaGreatDoor
open T6
open Go.RowKit Go.Less
open T8 (pv Rp Dg Mapped mput_any mdel_any mlen_any mname_any mget_there cn)
attribute [local go_sem 9000] sem_eql sem_neq
theorem alterBytes_any (gk : Nat) (lb : Array Value) (eg : ∀ args w, (callFunc gk args).run prog w = .ok (.enter gk args) w) (Gf : ByteArray -> ByteArray × Int) (g p : Nat) (m : Option Nat) (l : List Fs.Item) (i : Int) (w : World) (hg : w.heap[g]? = some (.cells #[ptg p, pv m] 192 (0, 0))) (h : Sv w m l) (hf : l.length <= 900) (hi0 : -9223372036854775808 <= i) (hi1 : i <= 9223372036854775807)
  (HC0 : ∀ s, s.size <= 4096 -> ∀ W, Below w.heap.size w W -> Calls prog gk (#[.string s] ++ lb) W λe w' => e = .returned (.tuple #[.string (Gf s).1, .int .i64 (Gf s).2]) /\ Below W.heap.size W w')
  (hG : ∀ s, s.size <= 4096 -> (Gf s).2 = 0 -> (Gf s).1.size <= 4096) : Calls prog 125 #[ptg g, .int .i64 i, .func (.func gk) #[] lb] w (StD (Fs.alter l i (Fs.bytesR Gf)) g p w) := by
 have HB := hid (below_one w (.cells #[.func (.func gk) #[] lb] 208))
 have hbx := heap_alloc_new w (.cells #[.func (.func gk) #[] lb] 208)
 have HA := hid (alter_any 189 #[.pointer (some ⟨w.heap.size, 0, none⟩)] (λ_ _ => by kernel_rfl) (Fs.bytesR Gf) g p m l i (w.alloc (.cells #[.func (.func gk) #[] lb] 208)) ((HB.out.block _ (lt_of_obj hg)).trans hg) (h.below HB.out) hf hi0 hi1
  (λx hR a c W hb hE => abytes_any gk lb eg Gf w.heap.size x.kind x.mode x.data x.target x.ents hR a c W ((hb.block _ (lt_of_obj hbx)).trans hbx) hE (λs hs W2 hb2 => HC0 s hs W2 ((HB.out.trans (hb.mono HB.out.size)).trans (hb2.mono (HB.out.trans (hb.mono HB.out.size)).size))))
  (λx hR h0 => bytes_right hG hR h0))
 clear hbx hg h hf HC0 hG
 go_enter func125, ntmps125
 go_wp2_with fail
 refine HA.out.mono ?_
 rintro e w2 ⟨rfl, hP⟩
 have HPx := hid (hP.from HB.out)
 clear hP
 dsimp only
 go_wp2_with fail
 go_ret
 exact ⟨rfl, HPx.out⟩
theorem sCreate_any (g p : Nat) (m : Option Nat) (l : List Fs.Item) (i : Int) (k mo : Int) (t : ByteArray) (w : World) (hg : w.heap[g]? = some (.cells #[ptg p, pv m] 192 (0, 0))) (h : Sv w m l) (hf : l.length <= 900) :
  Calls prog 118 #[ptg g, .int .i64 i, nv k mo ⟨#[]⟩ t none 0 0] w (StD (Fs.createC env l i ⟨k, mo, ⟨#[]⟩, t, []⟩) g p w) := by
 have HSame := hid (λW (hb : Below w.heap.size w W) => put1_same hg h hb)
 have HB := hid (show Bxs w [(w.heap.size, #[.int .i64 k, .int .i64 mo, .string ⟨#[]⟩, .string t, .slice none 0 0], 29)] (w.alloc (.cells #[.int .i64 k, .int .i64 mo, .string ⟨#[]⟩, .string t, .slice none 0 0] 29)) from Bxs.one w _ _)
 have HNd := hid (λW => node_any k mo ⟨#[]⟩ t none 0 0 [] W (ents_nil _) (Nat.zero_le _) (λj hj => absurd hj (Nat.not_lt_zero _)))
 unfold Fs.createC
 by_cases h1 : i <= 1
 ·rw [if_pos (.inl (.inl h1))]
  clear h hg hf
  go_enter func118, ntmps118
  go_wp2_with fail
  go_ret
  exact ⟨rfl, HSame.out _ HB.out.below⟩
 by_cases h2 : 2147483647 < i
 ·rw [if_pos (.inl (.inr h2))]
  clear h hg hf
  go_enter func118, ntmps118
  go_wp2_with fail
  go_ret
  exact ⟨rfl, HSame.out _ HB.out.below⟩
 have hHN := sNode_any g p m l i
 cases hr : Nd.right env.lt env.nm ⟨k, mo, ⟨#[]⟩, t, []⟩ with
 | false =>
  rw [if_pos (.inr rfl)]
  have hq : ndr k mo ⟨#[]⟩ t [] = false := hr
  rw [hq] at HNd
  clear h hg hf hr hq hHN
  go_enter func118, ntmps118
  go_wp2_with fail
  refine (HNd.out _).mono ?_
  rintro e w1 ⟨rfl, hb⟩
  have HB := hid (HB.out.kept hb)
  clear hb
  dsimp only
  go_wp2_with fail
  go_ret
  exact ⟨rfl, HSame.out _ HB.out.below⟩
 | true =>
  have hq : ndr k mo ⟨#[]⟩ t [] = true := hr
  rw [hq] at HNd
  have hR := (ndr_right (l := []) (d := ⟨#[]⟩)).1 hq
  rw [if_neg (by simp; omega)]
  have HN := hid (λW (hb : Below w.heap.size w W) => sNode_any g p m l i W ((hb.block _ (lt_of_obj hg)).trans hg) (h.below hb) (by omega) (by omega))
  unfold Node11 Fs.nodeD at HN
  obtain ⟨x, hx⟩ : ∃ x, (Fs.node l i).getD Nd.none0 = x := ⟨_, rfl⟩
  rw [hx] at HN
  clear hx
  obtain ⟨xk, xm, xd, xt, xe⟩ := x
  cases hth : (Fs.node l i).isSome with
  | true =>
   rw [if_pos rfl]
   rw [hth] at HN
   clear h hg hf hr hq hHN hR hth
   go_enter func118, ntmps118
   go_wp2_with fail
   refine (HNd.out _).mono ?_
   rintro e w1 ⟨rfl, hb⟩
   have HB := hid (HB.out.kept hb)
   clear hb
   dsimp only
   go_wp2_with fail
   refine (HN.out _ HB.out.below).mono ?_
   rintro e w2 ⟨a, c, rfl, -, hb⟩
   have HB := hid ((HB.out.kept hb).more #[.int .i64 xk, .int .i64 xm, .string xd, .string xt, .slice a xe.length c] 29 rfl)
   clear hb
   dsimp only
   go_wp2_with fail
   go_ret
   exact ⟨rfl, HSame.out _ HB.out.below⟩
  | false =>
   rw [if_neg (by simp)]
   rw [hth] at HN
   have HL := hid (λW (hb : Below w.heap.size w W) => qLen_any (h.below hb))
   have HGc := hid (λW (hb : Below w.heap.size w W) => cell_obj ((hb.block _ (lt_of_obj hg)).trans hg) 1)
   have HP := hid (λW (hb : Below w.heap.size w W) => sPut_any g p m l i ⟨k, mo, ⟨#[]⟩, t, []⟩ none 0 W ((hb.block _ (lt_of_obj hg)).trans hg) (h.below hb) (ents_nil _) hR (by omega) hf)
   obtain ⟨n, hn⟩ : ∃ n, l.length = n := ⟨_, rfl⟩
   rw [hn] at HL |-
   by_cases h256 : 256 <= n
   ·rw [if_pos h256]
    have h256i : (256 : Int) <= (n : Int) := by omega
    clear h hg hf hr hq hHN hR hth HP hn h256
    go_enter func118, ntmps118
    go_wp2_with fail
    refine (HNd.out _).mono ?_
    rintro e w1 ⟨rfl, hb⟩
    have HB := hid (HB.out.kept hb)
    clear hb
    dsimp only
    go_wp2_with fail
    refine (HN.out _ HB.out.below).mono ?_
    rintro e w2 ⟨a, c, rfl, -, hb⟩
    have HB := hid ((HB.out.kept hb).more #[.int .i64 xk, .int .i64 xm, .string xd, .string xt, .slice a xe.length c] 29 rfl)
    clear hb
    have c1 := HGc.out _ HB.out.below
    dsimp only
    go_wp2_with fail
    refine (HL.out _ HB.out.below).mono ?_
    rintro e w3 ⟨rfl, hb⟩
    have HB := hid (HB.out.kept hb)
    clear hb c1
    dsimp only
    go_wp2_with fail
    go_ret
    exact ⟨rfl, HSame.out _ HB.out.below⟩
   ·rw [if_neg h256]
    have h256i : ¬ (256 : Int) <= (n : Int) := by omega
    clear h hg hf hr hq hHN hR hth hn h256
    go_enter func118, ntmps118
    go_wp2_with fail
    refine (HNd.out _).mono ?_
    rintro e w1 ⟨rfl, hb⟩
    have HB := hid (HB.out.kept hb)
    clear hb
    dsimp only
    go_wp2_with fail
    refine (HN.out _ HB.out.below).mono ?_
    rintro e w2 ⟨a, c, rfl, -, hb⟩
    have HB := hid ((HB.out.kept hb).more #[.int .i64 xk, .int .i64 xm, .string xd, .string xt, .slice a xe.length c] 29 rfl)
    clear hb
    have c1 := HGc.out _ HB.out.below
    dsimp only
    go_wp2_with fail
    refine (HL.out _ HB.out.below).mono ?_
    rintro e w3 ⟨rfl, hb⟩
    have HB := hid (HB.out.kept hb)
    clear hb c1
    have hx := HB.out.c5 0 rfl
    dsimp only
    go_wp2_with fail
    refine (HP.out _ HB.out.below).mono ?_
    rintro e w4 ⟨rfl, hP⟩
    have HPx := hid (hP.from HB.out.below)
    clear hP hx
    dsimp only
    go_wp2_with fail
    go_ret
    exact ⟨rfl, HPx.out⟩
theorem sRemove_any (g p : Nat) (m : Option Nat) (l : List Fs.Item) (i : Int) (w : World) (hg : w.heap[g]? = some (.cells #[ptg p, pv m] 192 (0, 0))) (h : Sv w m l) (hf : l.length <= 900) (hi0 : -9223372036854775808 <= i) (hi1 : i <= 9223372036854775807) :
  Calls prog 131 #[ptg g, .int .i64 i] w (StD (Fs.removeC l i) g p w) := by
 have HSame := hid (λW (hb : Below w.heap.size w W) => put1_same hg h hb)
 have HN := hid (sNode_any g p m l i w hg h hi0 hi1)
 unfold Node11 Fs.nodeD at HN
 unfold Fs.removeC
 obtain ⟨x, hx⟩ : ∃ x, (Fs.node l i).getD Nd.none0 = x := ⟨_, rfl⟩
 rw [hx] at HN
 clear hx
 obtain ⟨xk, xm, xd, xt, xe⟩ := x
 cases hth : (Fs.node l i).isSome with
 | false =>
  rw [if_pos rfl]
  rw [hth] at HN
  clear h hg hf hth
  go_enter func131, ntmps131
  go_wp2_with fail
  refine HN.out.mono ?_
  rintro e w2 ⟨a, c, rfl, -, hb⟩
  have HB := hid (((Bxs.nil w).kept hb).more #[.int .i64 xk, .int .i64 xm, .string xd, .string xt, .slice a xe.length c] 29 rfl)
  clear hb
  dsimp only
  go_wp2_with fail
  go_ret
  exact ⟨rfl, HSame.out _ HB.out.below⟩
 | true =>
  rw [if_neg (by simp)]
  rw [hth] at HN
  obtain ⟨y, hy⟩ := Option.isSome_iff_exists.1 hth
  have hri := (h.ok.node hy).2
  clear hy
  by_cases h1 : i = 1
  ·subst h1
   rw [if_pos rfl]
   clear h hg hf hth
   go_enter func131, ntmps131
   go_wp2_with fail
   refine HN.out.mono ?_
   rintro e w2 ⟨a, c, rfl, -, hb⟩
   have HB := hid (((Bxs.nil w).kept hb).more #[.int .i64 xk, .int .i64 xm, .string xd, .string xt, .slice a xe.length c] 29 rfl)
   clear hb
   dsimp only
   go_wp2_with fail
   go_ret
   exact ⟨rfl, HSame.out _ HB.out.below⟩
  ·rw [if_neg h1]
   have HK := hid (λW => numText_any i W (by omega) (by omega))
   have HPu := hid (show ∀ W, Below w.heap.size w W -> Calls prog 192 #[pv m, .string (Fs.key i)] W (Mapped (Fs.kv (Fs.dropL l i)) W) from λW hb => by
    rw [<- Fs.del_kv h.ok.ub (by omega)]
    exact mdel_any (h.rp.below hb) (h.dg.below hb) (by rw [Fs.kv_len]; omega) _)
   have HOk := hid (h.ok.drop i)
   have HD := hid h.dg
   have HG := hid hg
   have HGc := hid (λW (hb : Below w.heap.size w W) => cell_obj ((hb.block _ (lt_of_obj hg)).trans hg) 1)
   have HGf := hid (λW (hb : Below w.heap.size w W) => free_obj ((hb.block _ (lt_of_obj hg)).trans hg) 1)
   clear h hg hf hth
   go_enter func131, ntmps131
   go_wp2_with fail
   refine HN.out.mono ?_
   rintro e w2 ⟨a, c, rfl, -, hb⟩
   have HB := hid (((Bxs.nil w).kept hb).more #[.int .i64 xk, .int .i64 xm, .string xd, .string xt, .slice a xe.length c] 29 rfl)
   clear hb
   dsimp only
   go_wp2_with fail
   generalize w2.alloc (.cells #[.int .i64 xk, .int .i64 xm, .string xd, .string xt, .slice a xe.length c] 29) = w1 at HB |-
   have HW1 := hid HB.out.below
   have HSx := hid (show ∀ W, Below w1.heap.size w1 W -> W.cell? ⟨g, 1, none⟩ = some (pv m) /\ W.frozen? ⟨g, 1, none⟩ = false /\ Below w.heap.size w W from λW hb => have hB := HW1.out.trans (hb.mono HW1.out.size); ⟨HGc.out W hB, HGf.out W hB, hB⟩)
   have hBd := (Below.refl w1.heap.size w1).drew
   have b0_0 := (HSx.out _ (Below.refl _ _)).1
   go_wp2_with fail
   go_region_law (first
    | (go_simp; (with_reducible refine (HPu.out _ (HSx.out _ (by assumption)).2.2).mono ?_); rintro e w5 ⟨m5, rfl, hrp, hb5⟩; have hB5 := T8.btrans hb5 (by assumption); have b0_0 := (HSx.out _ hB5).1; have q5 := (HSx.out _ hB5).2.1)
    | (go_simp; (with_reducible refine (HK.out _).mono ?_); rintro e w4 ⟨rfl, hb4⟩; have hB4 := T8.btrans hb4 (by assumption); have b0_0 := (HSx.out _ hB4).1))
   all_goals
    have HP := hid (put1_of (HSx.out _ hB5).2.2 HG.out (⟨hrp, HOk.out, HD.out.below (HSx.out _ hB5).2.2⟩ : Sv w5 m5 (Fs.dropL l i)))
    clear q5 hrp hb5 hB5
    go_wp2_with fail
    go_ret
    exact ⟨rfl, HP.out⟩
theorem sEnter_any (g p : Nat) (m : Option Nat) (l : List Fs.Item) (q : Fs.Cmd) (hq : CmdOk q) (w : World) (hg : w.heap[g]? = some (.cells #[ptg p, pv m] 192 (0, 0))) (h : Sv w m l) (hf : l.length <= 900) :
  Calls prog 119 #[ptg g, .agg (ccs q)] w (StD (Fs.enterC env l q) g p w) := by
 have HSame := hid (λW (hb : Below w.heap.size w W) => put1_same hg h hb)
 have HB := hid (below_one w (.cells (ccs q) 80))
 have hbx := heap_alloc_new w (.cells (ccs q) 80)
 unfold Fs.enterC
 by_cases h1 : q.ino < 1
 ·rw [if_pos (.inl h1)]
  clear h hg hf hbx
  go_enter func119, ntmps119
  go_wp2_with fail
  go_ret
  exact ⟨rfl, HSame.out _ HB.out⟩
 by_cases h2 : 2147483647 < q.ino
 ·rw [if_pos (.inr h2)]
  clear h hg hf hbx
  go_enter func119, ntmps119
  go_wp2_with fail
  go_ret
  exact ⟨rfl, HSame.out _ HB.out⟩
 rw [if_neg (by omega)]
 have HA := hid (alter_any 183 #[.pointer (some ⟨w.heap.size, 0, none⟩)] (λ_ _ => by kernel_rfl) (λx => Nd.withE less Nm.right x q.name q.ino) g p m l q.src (w.alloc (.cells (ccs q) 80)) ((HB.out.block _ (lt_of_obj hg)).trans hg) (h.below HB.out) hf hq.src0 hq.src1
  (λx hR a c W hb hE => cEnter_any w.heap.size q hq x.kind x.mode x.data x.target x.ents hR a c W ((hb.block _ (lt_of_obj hbx)).trans hbx) hE)
  (λx hR h0 => with_right hR (by omega) (by omega) h0))
 clear h hg hf hbx
 show Calls prog 119 _ w (StD (Fs.alter l q.src λx => Nd.withE less Nm.right x q.name q.ino) g p w)
 generalize Fs.alter l q.src (λx => Nd.withE less Nm.right x q.name q.ino) = R at HA |-
 go_enter func119, ntmps119
 go_wp2_with fail
 refine HA.out.mono ?_
 rintro e w2 ⟨rfl, hP⟩
 have HPx := hid (hP.from HB.out)
 clear hP
 dsimp only
 go_wp2_with fail
 go_ret
 exact ⟨rfl, HPx.out⟩
end Go.Proofs.YtgcgnolmdkkocaaGreatDoor
namespace Go.Proofs.YtgcgnolmdkkocaaGreatDoor
open T6
open Go.RowKit Go.Less
open T8 (pv Dg)
attribute [local go_sem 9000] sem_eql sem_neq
theorem cloned_any (g p : Nat) (v : Value) (f : Fs.FS) (q : Fs.Cmd) (hq : CmdOk q) (s : ByteArray) (hs : s.size <= 4096) (w : World) (hg : w.heap[g]? = some (.cells #[ptg p, v] 192 (0, 0))) (hF : Fo w p f) (hok : Okc f.l) :
  Calls prog 130 #[ptg g, .string s, .agg (ccs q)] w λe w' => e = .returned (.tuple #[.string (Fs.cloneR env f.l q s).1, .int .i64 (Fs.cloneR env f.l q s).2]) /\ Below w.heap.size w w' := by
 have HB := hid (show Bxs w [(w.heap.size, ccs q, 80)] (w.alloc (.cells (ccs q) 80)) from Bxs.one w _ _)
 have HN := hid (λW (hb : Below w.heap.size w W) => qNode_any (hF.below hb) q.src)
 have HG := hid (λW (hb : Below w.heap.size w W) => cell_obj ((hb.block _ (lt_of_obj hg)).trans hg) 0)
 unfold Node11 Fs.nodeD at HN
 obtain ⟨x, hx, hk⟩ : ∃ x, (Fs.node f.l q.src).getD Nd.none0 = x /\ x.data.size <= 4096 := by
  refine ⟨_, rfl, ?_⟩
  cases hn : Fs.node f.l q.src with
  | none => exact Nat.zero_le _
  | some y => exact data_size (hok.node hn).1
 rw [hx] at HN
 obtain ⟨k, mo, d, t, es⟩ := x
 have HP := hid (λW => copy_any s q.off d q.from_ q.n W (Nat.le_trans hs (by decide)) (Nat.le_trans hk (by decide)) hq.off hq.from_ hq.n)
 have HFe := hid (λW (a : Option Addr) (c : Nat) => fileError_any k mo d t a es.length c es W)
 obtain ⟨th, hth⟩ : ∃ th, (Fs.node f.l q.src).isSome = th := ⟨_, rfl⟩
 rw [hth] at HN
 have HR := hid (show Fs.cloneR env f.l q s = if th = false then (⟨#[]⟩, 4) else if Fs.fileE ⟨k, mo, d, t, es⟩ ≠ 0 then (⟨#[]⟩, Fs.fileE ⟨k, mo, d, t, es⟩) else env.copy s q.off d q.from_ q.n from by
   unfold Fs.cloneR
   rw [<- hth]
   cases hn : Fs.node f.l q.src with
   | none => rfl
   | some y => rw [hn] at hx; have hx : y = _ := hx; subst hx; rfl)
 rw [HR.out]
 clear HR hx hth hg hF hok hk hq hs
 have hR : ∃ R, (if th = false then ((⟨#[]⟩ : ByteArray), (4 : Int)) else if Fs.fileE ⟨k, mo, d, t, es⟩ ≠ 0 then (⟨#[]⟩, Fs.fileE ⟨k, mo, d, t, es⟩) else env.copy s q.off d q.from_ q.n) = R := ⟨_, rfl⟩
 obtain ⟨R, hR⟩ := hR
 rw [hR]
 have HR := hid hR
 clear hR
 generalize Fs.fileE ⟨k, mo, d, t, es⟩ = fe at *
 go_enter func130, ntmps130
 go_wp2_with fail
 generalize w.alloc (.cells #[.int .i64 q.kind, .int .i64 q.ino, .int .i64 q.src, .int .i64 q.off, .int .i64 q.from_, .int .i64 q.n, .string q.name, .string q.data] 80) = W0 at HB |-
 have HZ := hid (HB.out.more zcs 29 rfl)
 have g0 := HG.out W0 HB.out.below
 have g1 := HG.out _ HZ.out.below
 have c2 : W0.cell? ⟨w.heap.size, 2, none⟩ = some (.int .i64 q.src) := HB.out.cell 0 rfl 2
 have c2z : (W0.alloc (.cells #[.int .i64 0, .int .i64 0, .string ⟨#[]⟩, .string ⟨#[]⟩, .slice none 0 0] 29)).cell? ⟨w.heap.size, 2, none⟩ = some (.int .i64 q.src) := HZ.out.cell 0 rfl 2
 go_wp2_with fail
 go_region_law (first
  | (go_simp; (with_reducible refine (HN.out _ (HB.out.below.trans ((Below.refl W0.heap.size W0).drew.mono HB.out.below.size))).mono ?_); rintro e wA ⟨a, c, rfl, -, hA⟩; have HbA := hid (HB.out.kept (below_drew hA)); clear hA)
  | (go_simp; (with_reducible refine (HN.out _ (HZ.out.below.trans ((Below.refl _ (W0.alloc _)).drew.mono HZ.out.below.size))).mono ?_); rintro e wA ⟨a, c, rfl, -, hA⟩; have HbZ := hid (HZ.out.kept (below_drew hA)); have hz := HbZ.out.obj 1 rfl; have z0 := cell_obj hz 0; have z1 := cell_obj hz 1; have z2 := cell_obj hz 2; have z3 := cell_obj hz 3; have z4 := cell_obj hz 4; have f0 := free_obj hz 0; have f1 := free_obj hz 1; have f2 := free_obj hz 2; have f3 := free_obj hz 3; have f4 := free_obj hz 4; clear hz hA))
 all_goals
  first
   |have HF := hid (show Bxs w [(w.heap.size, ccs q, 80), (W0.heap.size, #[.int .i64 k, .int .i64 mo, .string d, .string t, .slice a es.length c], 29)] (((((wA.setCell ⟨W0.heap.size, 0, none⟩ (.int .i64 k)).setCell ⟨W0.heap.size, 1, none⟩ (.int .i64 mo)).setCell ⟨W0.heap.size, 2, none⟩ (.string d)).setCell ⟨W0.heap.size, 3, none⟩ (.string t)).setCell ⟨W0.heap.size, 4, none⟩ (.slice a es.length c)) from HbZ.out.put5 1 rfl (.int .i64 k) (.int .i64 mo) (.string d) (.string t) (.slice a es.length c))
    generalize ((((wA.setCell ⟨W0.heap.size, 0, none⟩ (.int .i64 k)).setCell ⟨W0.heap.size, 1, none⟩ (.int .i64 mo)).setCell ⟨W0.heap.size, 2, none⟩ (.string d)).setCell ⟨W0.heap.size, 3, none⟩ (.string t)).setCell ⟨W0.heap.size, 4, none⟩ (.slice a es.length c) = W9 at HF |-
    generalize W0.heap.size = p9 at HF |-
    clear z0 z1 z2 z3 z4 f0 f1 f2 f3 f4 HbZ
   |have HF := hid (show Bxs w [(w.heap.size, ccs q, 80), (wA.heap.size, #[.int .i64 k, .int .i64 mo, .string d, .string t, .slice a es.length c], 29)] (wA.alloc (.cells #[.int .i64 k, .int .i64 mo, .string d, .string t, .slice a es.length c] 29)) from HbA.out.more _ 29 rfl)
    generalize wA.alloc (.cells #[.int .i64 k, .int .i64 mo, .string d, .string t, .slice a es.length c] 29) = W9 at HF |-
    generalize wA.heap.size = p9 at HF |-
    clear HbA
  clear g0 g1 c2 c2z
  have hn := HF.out.c5 1 rfl
  cases th with
  | false =>
   have hR : ((⟨#[]⟩ : ByteArray), (4 : Int)) = R := HR.out
   subst hR
   go_wp2_with fail
   go_ret2
   exact ⟨rfl, HF.out.below⟩
  | true =>
   by_cases h0 : fe = 0
   ·subst h0
    have hR := HR.out
    rw [if_neg (by simp), if_neg (by simp)] at hR
    subst hR
    go_wp2_with fail
    refine (HFe.out W9 a c).mono ?_
    rintro e w5 ⟨rfl, hb5⟩
    have HF := hid (HF.out.kept hb5)
    clear hb5 hn
    have hn := HF.out.c5 1 rfl
    have q3 : w5.cell? ⟨w.heap.size, 3, none⟩ = some (.int .i64 q.off) := HF.out.cell 0 rfl 3
    have q4 : w5.cell? ⟨w.heap.size, 4, none⟩ = some (.int .i64 q.from_) := HF.out.cell 0 rfl 4
    have q5 : w5.cell? ⟨w.heap.size, 5, none⟩ = some (.int .i64 q.n) := HF.out.cell 0 rfl 5
    dsimp only
    go_wp2_with fail
    refine (HP.out _).mono ?_
    rintro e w6 ⟨rfl, hb6⟩
    have HB6 := hid (HF.out.below.trans (hb6.mono HF.out.below.size))
    clear hb6 q3 q4 q5 hn
    dsimp only
    go_wp2_with fail
    go_ret2
    exact ⟨rfl, HB6.out⟩
   ·have hR := HR.out
    rw [if_neg (by simp), if_pos h0] at hR
    subst hR
    go_wp2_with fail
    refine (HFe.out W9 a c).mono ?_
    rintro e w5 ⟨rfl, hb5⟩
    have HF := hid (HF.out.kept hb5)
    clear hb5 hn
    dsimp only
    go_wp2_with fail
    go_ret2
    exact ⟨rfl, HF.out.below⟩
theorem cClone_any (sb b g p : Nat) (v : Value) (f : Fs.FS) (q : Fs.Cmd) (hq : CmdOk q) (s : ByteArray) (hs : s.size <= 4096) (w : World) (hsb : w.heap[sb]? = some (.cells #[ptg g] 97 (0, 0))) (hb : w.heap[b]? = some (.cells (ccs q) 80 (0, 0))) (hg : w.heap[g]? = some (.cells #[ptg p, v] 192 (0, 0))) (hF : Fo w p f) (hok : Okc f.l) :
  Calls prog 129 #[.string s, .pointer (some ⟨sb, 0, none⟩), .pointer (some ⟨b, 0, none⟩)] w λe w' => e = .returned (.tuple #[.string (Fs.cloneR env f.l q s).1, .int .i64 (Fs.cloneR env f.l q s).2]) /\ Below w.heap.size w w' := by
 have HC := hid (cloned_any g p v f q hq s hs w hg hF hok)
 have s0 : w.cell? ⟨sb, 0, none⟩ = some (ptg g) := cell_obj hsb 0
 have q0 : w.cell? ⟨b, 0, none⟩ = some (.int .i64 q.kind) := cell_obj hb 0
 have q1 : w.cell? ⟨b, 1, none⟩ = some (.int .i64 q.ino) := cell_obj hb 1
 have q2 : w.cell? ⟨b, 2, none⟩ = some (.int .i64 q.src) := cell_obj hb 2
 have q3 : w.cell? ⟨b, 3, none⟩ = some (.int .i64 q.off) := cell_obj hb 3
 have q4 : w.cell? ⟨b, 4, none⟩ = some (.int .i64 q.from_) := cell_obj hb 4
 have q5 : w.cell? ⟨b, 5, none⟩ = some (.int .i64 q.n) := cell_obj hb 5
 have q6 : w.cell? ⟨b, 6, none⟩ = some (.string q.name) := cell_obj hb 6
 have q7 : w.cell? ⟨b, 7, none⟩ = some (.string q.data) := cell_obj hb 7
 clear hsb hb hg hF hok
 go_enter func129, ntmps129
 go_wp2_with fail
 refine HC.out.mono ?_
 rintro e w1 ⟨rfl, hb1⟩
 dsimp only
 go_wp2_with fail
 go_ret2
 exact ⟨rfl, hb1⟩
end Go.Proofs.YtgcgnolmdkkocaaGreatDoor
