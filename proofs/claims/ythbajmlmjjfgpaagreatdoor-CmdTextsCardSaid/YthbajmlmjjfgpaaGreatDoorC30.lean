/- A part of the proofs. -/
import Derived.ProofKit
import Derived.LaidMore
import Derived.Lay
import Derived.Carry
import Derived.OpenShut
import Derived.SizedLaws
import Derived.ChangeMaps5
import Derived.Lib.SmallJoins
import Derived.Deep.Fields
import Derived.Deep.Slices
import Derived.SliceStrings
import Derived.ChangeSame
import Derived.Stop.Joined
import Derived.Stop.LaidErr
import Derived.Test.YthbajmlmjjfgpaaGreatDoorC29
set_option maxRecDepth 1000000
set_option maxHeartbeats 16000000
open Go.Lib (hid)
open Go.Proofs.Tryz
namespace Go.Proofs.YthbajmlmjjfgpaaGreatDoor
open Go.RowKit Go.Less Go.Maps
open T8 (pv Dg)
attribute [local go_sem 9000] sem_eql sem_neq eql_cmd80
theorem cEnd_any {g p : Nat} {f : Fs.FS} {l : List Fs.Item} {w : World} (h : Stg w g p f l) (next : Int) : Calls prog 27 #[ptg g, .int .i64 next] w (OfR l next w) := by
 obtain ⟨⟨m, hg, hS⟩, _⟩ := h
 have g1 : w.cell? ⟨g, 1, none⟩ = some (pv m) := cell_obj hg 1
 have HO := hid (of_any m l next w hS)
 clear hg hS
 go_enter func27, ntmps27
 go_wp2_with fail
 refine HO.out.mono ?_
 intro e w1 hx
 unfold OfR at hx |-
 rcases hx with ⟨h1, h2, h3, g2, rfl, h4, h5, h6⟩ | ⟨h1, rfl, h2⟩
 ·have HX := hid (And.intro h1 (And.intro h2 (And.intro h3 (And.intro h4 (And.intro h5 h6)))))
  clear h1 h2 h3 h4 h5 h6
  dsimp only
  go_wp2_with fail
  go_ret2
  exact .inl ⟨HX.out.1, HX.out.2.1, HX.out.2.2.1, g2, rfl, HX.out.2.2.2.1, HX.out.2.2.2.2.1, HX.out.2.2.2.2.2⟩
 ·have HX := hid (And.intro h1 h2)
  clear h1 h2
  dsimp only
  go_wp2_with fail
  go_ret2
  exact .inr ⟨HX.out.1, rfl, HX.out.2⟩
theorem Tn.turn {g : Nat} {w w' : World} (ht : Turn g w w') {x y : Value} {t : TypeId} (hg : w.heap[g]? = some (.cells #[x, y] t (0, 0))) (h : Tn w) : Tn w' := by
 have n0 : (0 : Nat) ≠ g := by
  rintro rfl
  have h1 := h 10 4 (by decide) (by decide)
  rw [cell_obj hg] at h1
  cases h1
 exact λk i hk hi => turn_cell ht (h k i hk hi) n0
def awC1 : Fs.Cmd := ⟨1, 2, 0, 0, 0, 420, ⟨#[]⟩, ⟨#[]⟩⟩
def awC2 : Fs.Cmd := ⟨4, 2, 1, 0, 0, 0, nA, ⟨#[]⟩⟩
def awC3 : Fs.Cmd := ⟨8, 2, 0, 0, 0, 0, ⟨#[]⟩, ⟨#[104, 105]⟩⟩
def awC4 : Fs.Cmd := ⟨5, 0, 1, 0, 0, 0, nA, ⟨#[]⟩⟩
def awC5 : Fs.Cmd := ⟨0, 0, 0, 0, 0, 0, ⟨#[]⟩, ⟨#[]⟩⟩
def awL1 : List Fs.Item := [(1, awD []), (2, awN ⟨#[]⟩)]
def awL2 : List Fs.Item := [(1, awD [(nA, 2)]), (2, awN ⟨#[]⟩)]
def awL3 : List Fs.Item := [(1, awD [(nA, 2)]), (2, awN ⟨#[104, 105]⟩)]
theorem ic1 : Fs.doC env Fs.new.l Fs.new.l awC1 = (awL1, 0) := Prod.ext (by decide +kernel) (by decide +kernel)
theorem ic2 : Fs.doC env Fs.new.l awL1 awC2 = (awL2, 0) := Prod.ext (by decide +kernel) (by decide +kernel)
theorem ic3 : Fs.doC env Fs.new.l awL2 awC3 = (awL3, 0) := Prod.ext (by decide +kernel) (by decide +kernel)
theorem ic5 : Fs.doC env Fs.new.l awL3 awC5 = (awL3, 16) := Prod.ext (by decide +kernel) (by decide +kernel)
def awO8 : Fs.Op := ⟨8, tA, ⟨#[]⟩, 0, 0, 0, ⟨#[104, 105]⟩⟩
theorem ic8 : Fs.doE env aw1 awO8 = (⟨awL3, 3⟩, 0) := fs_eq (by decide +kernel) (by decide +kernel) (by decide +kernel)
theorem g8 : Fs.Good env ⟨awL3, 3⟩ := good_step g1 (by decide) ic8
theorem icR : readR awL3 tA 0 9 = ([104, 105], 0) := by decide +kernel
def tP : ByteArray := ⟨#[0, 0, 0, 0, 0, 0, 0, 1, 0, 0, 0, 0, 0, 0, 0, 0, 0, 0, 0, 0, 1, 97]⟩
theorem icP : printC awC4 = (tP, 0) := Prod.ext (by decide +kernel) (by decide +kernel)
theorem cmd_ext {x y : Fs.Cmd} (h : sameC x y = true) : x = y := sameC_iff.1 h
theorem icQ : parseC 5 tP = (awC4, 0) := Prod.ext (cmd_ext (by decide +kernel)) (by decide +kernel)
theorem okc_new : Okc Fs.new.l := Okc.of (Fs.new_good (E := env)).toHalf (by decide)
theorem cmdok_small {q : Fs.Cmd} (h1 : 0 <= q.ino /\ q.ino <= 100) (h2 : 0 <= q.src /\ q.src <= 100) (h3 : q.off <= 100) (h4 : q.from_ <= 100) (h5 : q.n <= 1000) (h6 : q.name.size <= 100) (h7 : q.data.size <= 100) : CmdOk q :=
 ⟨by omega, by omega, by omega, by omega, by omega, by omega, by omega, by omega, by omega⟩
theorem didC {g p : Nat} {f : Fs.FS} {l l2 : List Fs.Item} {c : Int} {w : World} (h : Stg w g p f l) {q : Fs.Cmd} (hq : CmdOk q) (he : Fs.doC env f.l l q = (l2, c)) : Calls prog 24 #[ptg g, .agg (ccs q)] w λe w' => e = .returned (.int .i64 c) /\ Stg w' g p f l2 /\ Turn g w w' := by
 have := cDo_any h q hq
 rw [he] at this
 exact this
theorem awake13_any (w : World) (hD : Dg w) (hT : Tn w) : Calls prog 7 #[] w λe w' => e = .returned (.bool true) /\ Below w.heap.size w w' := by
 have HNew := hid (qNew_any w hD)
 have HNs := hid (λq W (h : Fo W q Fs.new) => cNew_any h okc_new)
 have D1 := hid (λg p W (h : Stg W g p Fs.new Fs.new.l) => didC h (q := awC1) (cmdok_small (by decide) (by decide) (by decide) (by decide) (by decide) (by decide) (by decide)) ic1)
 have D2 := hid (λg p W (h : Stg W g p Fs.new awL1) => didC h (q := awC2) (cmdok_small (by decide) (by decide) (by decide) (by decide) (by decide) (by decide) (by decide)) ic2)
 have D3 := hid (λg p W (h : Stg W g p Fs.new awL2) => didC h (q := awC3) (cmdok_small (by decide) (by decide) (by decide) (by decide) (by decide) (by decide) (by decide)) ic3)
 have D5 := hid (λg p W (h : Stg W g p Fs.new awL3) => didC h (q := awC5) (cmdok_small (by decide) (by decide) (by decide) (by decide) (by decide) (by decide) (by decide)) ic5)
 have FE := hid (λg p W (h : Stg W g p Fs.new awL3) => (show Calls prog 27 #[ptg g, .int .i64 3] W (λe w' => ∃ g2, e = .returned (.tuple #[ptg g2, .int .i64 0]) /\ Fo w' g2 ⟨awL3, 3⟩ /\ Below W.heap.size W w') from (cEnd_any h 3).mono λe w' hx => by
  unfold OfR at hx
  rcases hx with ⟨_, _, _, g2, e1, h4, _, h6⟩ | ⟨h1, _, _⟩
  ·exact ⟨g2, e1, h4, h6⟩
  ·exact absurd ⟨sound_good g8, by decide, by decide⟩ h1))
 have FR := hid (λg W (h : Fo W g ⟨awL3, 3⟩) => (show Calls prog 38 #[ptg g, .string tA, .int .i64 0, .int .i64 9] W (λe w' => e = .returned (.tuple #[.string ⟨#[104, 105]⟩, .int .i64 0]) /\ Below W.heap.size W w') from (show Calls prog 38 #[ptg g, .string tA, .int .i64 0, .int .i64 9] W (T6.Both ([104, 105], 0) W) from icR ▸ qRead_any h g8.toHalf tA 0 9 (by decide) (by decide) (by decide))))
 have FP := hid (λW (h : Tn W) => (show Calls prog 8 #[.agg #[.int .i64 5, .int .i64 0, .int .i64 1, .int .i64 0, .int .i64 0, .int .i64 0, .string nA, .string ⟨#[]⟩]] W (λe w' => e = .returned (.tuple #[.string tP, .int .i64 0]) /\ Below W.heap.size W w') from by
  have := printC_any 5 0 1 0 0 0 nA ⟨#[]⟩ W h
  rw [show (⟨5, 0, 1, 0, 0, 0, nA, ⟨#[]⟩⟩ : Fs.Cmd) = awC4 from rfl, icP] at this
  exact this))
 have FQ := hid (λW (h : Tn W) => (show Calls prog 10 #[.int .i64 5, .string tP] W (λe w' => e = .returned (.tuple #[.agg (ccs awC4), .int .i64 0]) /\ Below W.heap.size W w') from by
  have := parseC_any 5 tP W (by decide) h
  rw [icQ] at this
  exact this))
 have FI := hid (λg W (h : Fo W g Fs.new) => (show Calls prog 39 #[ptg g] W (λe w' => ∃ ao cap, e = .returned (.slice ao 1 cap) /\ Below W.heap.size W w') from (qInos_any h).mono λe w' hx => by
  obtain ⟨ao, cap, e1, _, hb⟩ := hx
  exact ⟨ao, cap, e1, hb⟩))
 have HTn := hid (λW (hb : Below w.heap.size w W) => hT.below hb)
 have HSame := hid (show sameC awC4 awC4 = true from sameC_iff.2 rfl)
 clear hD hT
 unfold awC1 at D1
 unfold awC2 at D2
 unfold awC3 at D3
 unfold awC5 at D5
 unfold awC4 at FQ HSame
 go_enter func7, ntmps7
 go_wp2_with fail
 refine HNew.out.mono ?_
 rintro e w1 ⟨gf, rfl, hF, hg, hb⟩
 have HGf := hid hg
 have HF := hid hF
 have HB := hid hb
 clear hF hg hb HNew
 dsimp only
 go_wp2_with fail
 refine (HNs.out gf w1 HF.out).mono ?_
 rintro e w2 ⟨gs, p, rfl, hS, hg, -, hb⟩
 have HGs := hid (Nat.le_trans HB.out.size hg)
 have HS := hid hS
 have HB := hid (HB.out.trans (hb.mono HB.out.size))
 have HF := hid (HF.out.below hb)
 clear hS hg hb HNs
 dsimp only
 go_wp2_with fail
 refine (D1.out gs p _ HS.out).mono ?_
 rintro e w3 ⟨rfl, hS, hT⟩
 have HB := hid (turn_below HB.out hT HGs.out)
 have HF := hid (HS.out.fo hT HF.out)
 have HS := hid hS
 clear hS hT D1
 dsimp only
 go_wp2_with fail
 refine (D2.out gs p _ HS.out).mono ?_
 rintro e w4 ⟨rfl, hS, hT⟩
 have HB := hid (turn_below HB.out hT HGs.out)
 have HF := hid (HS.out.fo hT HF.out)
 have HS := hid hS
 clear hS hT D2
 dsimp only
 go_wp2_with fail
 refine (D3.out gs p _ HS.out).mono ?_
 rintro e w5 ⟨rfl, hS, hT⟩
 have HB := hid (turn_below HB.out hT HGs.out)
 have HF := hid (HS.out.fo hT HF.out)
 have HS := hid hS
 clear hS hT D3
 dsimp only
 go_wp2_with fail
 refine (FE.out gs p _ HS.out).mono ?_
 rintro e w6 ⟨g2, rfl, hF2, hb⟩
 have HF2 := hid hF2
 have HB := hid (HB.out.trans (hb.mono HB.out.size))
 have HF := hid (HF.out.below hb)
 have HS := hid (HS.out.below hb)
 clear hF2 hb FE
 dsimp only
 go_wp2_with fail
 refine (FR.out g2 _ HF2.out).mono ?_
 rintro e w7 ⟨rfl, hb⟩
 have HB := hid (HB.out.trans (hb.mono HB.out.size))
 have HF := hid (HF.out.below hb)
 have HS := hid (HS.out.below hb)
 clear hb FR HF2
 dsimp only
 go_wp2_with fail
 refine (FP.out _ (HTn.out _ HB.out)).mono ?_
 rintro e w8 ⟨rfl, hb⟩
 have HB := hid (HB.out.trans (hb.mono HB.out.size))
 have HF := hid (HF.out.below hb)
 have HS := hid (HS.out.below hb)
 clear hb FP
 dsimp only
 go_wp2_with fail
 refine (FQ.out _ (HTn.out _ HB.out)).mono ?_
 rintro e w9 ⟨rfl, hb⟩
 have hbx := below_one w9 (.cells #[.int .i64 5, .int .i64 0, .int .i64 1, .int .i64 0, .int .i64 0, .int .i64 0, .string nA, .string ⟨#[]⟩] 23)
 have hb2 := hb.trans (hbx.mono hb.size)
 have HB := hid (HB.out.trans (hb2.mono HB.out.size))
 have HF := hid (HF.out.below hb2)
 have HS := hid (HS.out.below hb2)
 clear hb hbx hb2 FQ
 have hsame := HSame.out
 have htp : tP.size = 22 := rfl
 dsimp only
 go_wp2_with fail
 refine (FI.out gf _ HF.out).mono ?_
 rintro e w10 ⟨ao, cap, rfl, hb⟩
 have HB := hid (HB.out.trans (hb.mono HB.out.size))
 have HS := hid (HS.out.below hb)
 clear hb FI
 dsimp only
 go_wp2_with fail
 refine (D5.out gs p _ HS.out).mono ?_
 rintro e w11 ⟨rfl, hS, hT⟩
 have HB := hid (turn_below HB.out hT HGs.out)
 clear hS hT D5
 dsimp only
 go_wp2_with fail
 go_ret
 exact ⟨rfl, HB.out⟩
end Go.Proofs.YthbajmlmjjfgpaaGreatDoor
namespace Go.Proofs.YthbajmlmjjfgpaaGreatDoor
open Go.RowKit Go.Less Go.Maps
attribute [local go_sem 9000] sem_eql sem_neq
def cmd0 : Fs.Cmd := ⟨0, 0, 0, 0, 0, 0, ⟨#[]⟩, ⟨#[]⟩⟩
structure Cpr (a : Option Addr) (n : Nat) (l : List Fs.Cmd) (w : World) : Prop where
 count : n = l.length
 cell : ∀ i, i < n -> ∃ b off, a = some ⟨b, off, none⟩ /\ ∀ j v, (ccs (l.getD i cmd0))[j]? = some v -> w.cell? ⟨b, off + i * 8 + j, none⟩ = some v
 ok : ∀ o ∈ l, CmdOk o
theorem Cpr.below {a : Option Addr} {n : Nat} {l : List Fs.Cmd} {w w' : World} (h : Cpr a n l w) (hb : Below w.heap.size w w') : Cpr a n l w' :=
 ⟨h.count, λi hi => by
  obtain ⟨b, off, ha, hc⟩ := h.cell i hi
  exact ⟨b, off, ha, λj v hv => (hb.cell (p := ⟨b, off + i * 8 + j, none⟩) (block_lt_of_cell (hc j v hv))).trans (hc j v hv)⟩, h.ok⟩
theorem cmd_cells {q : Fs.Cmd} {w : World} {b p : Nat} (h : ∀ j v, (ccs q)[j]? = some v -> w.cell? ⟨b, p + j, none⟩ = some v) : w.cell? ⟨b, p, none⟩ = some (.int .i64 q.kind) /\ w.cell? ⟨b, p + 1, none⟩ = some (.int .i64 q.ino) /\ w.cell? ⟨b, p + 2, none⟩ = some (.int .i64 q.src) /\ w.cell? ⟨b, p + 3, none⟩ = some (.int .i64 q.off) /\ w.cell? ⟨b, p + 4, none⟩ = some (.int .i64 q.from_) /\ w.cell? ⟨b, p + 5, none⟩ = some (.int .i64 q.n) /\ w.cell? ⟨b, p + 6, none⟩ = some (.string q.name) /\ w.cell? ⟨b, p + 7, none⟩ = some (.string q.data) :=
 ⟨h 0 _ rfl, h 1 _ rfl, h 2 _ rfl, h 3 _ rfl, h 4 _ rfl, h 5 _ rfl, h 6 _ rfl, h 7 _ rfl⟩
theorem cmds_at {q : Fs.Cmd} {w W : World} {b p : Nat} (h : ∀ j v, (ccs q)[j]? = some v -> w.cell? ⟨b, p + j, none⟩ = some v) (hb : Below w.heap.size w W) (j : Nat) (v : Value) (hv : (ccs q)[j]? = some v) : W.cell? ⟨b, p + j, none⟩ = some v := (hb.cell (p := ⟨b, p + j, none⟩) (block_lt_of_cell (h j v hv))).trans (h j v hv)
def cwt (q : Fs.Cmd) : Nat := 1 + (min q.name.size 10000 + min q.data.size 10000) / 100
def csum (l : List Fs.Cmd) : Nat := (l.map cwt).sum
def few13 (l : List Fs.Cmd) : Bool := decide (csum l <= 150)
theorem csum_more {l : List Fs.Cmd} {k : Nat} (h : k < l.length) : csum (l.take (k + 1)) = csum (l.take k) + cwt (l.getD k cmd0) := by
 unfold csum
 rw [List.take_succ_eq_append_getElem h, List.map_append, List.sum_append, List.getD, List.getElem?_eq_getElem h]
 simp
theorem csum_le (l : List Fs.Cmd) (k : Nat) : csum (l.take k) <= csum l := by
 conv => rhs; rw [<- List.take_append_drop k l]
 unfold csum
 rw [List.map_append, List.sum_append]
 omega
theorem csum_len (l : List Fs.Cmd) : l.length <= csum l := by
 unfold csum
 induction l with
 | nil => exact Nat.zero_le _
 | cons o l ih => rw [List.map_cons, List.sum_cons, List.length_cons]; have h1 : 1 <= cwt o := Nat.le_add_right _ _; omega
theorem few13_len {l : List Fs.Cmd} (h : few13 l = true) : l.length <= 150 := by
 unfold few13 at h
 have := csum_len l
 have h : csum l <= 150 := by simpa using h
 omega
theorem few13_any (a : Option Addr) (n cap : Nat) (l : List Fs.Cmd) (w : World) (hS : Cpr a n l w) (hn : n <= 140737488355328) :
  Calls prog 15 #[.slice a n cap] w λe w' => e = .returned (.bool (few13 l)) /\ Below w.heap.size w w' := by
 have hni : (n : Int) <= 140737488355328 := by omega
 have HS := hid (λW (hb : Below w.heap.size w W) => hS.below hb)
 have HN := hid hS.count
 clear hS
 go_enter func15, ntmps15
 go_wp2_with fail
 go_loopw [3, 4] (λx3 x4 wr => ∃ k : Nat, k <= n /\ x4 = .int .i64 k /\ x3 = .int .i64 (csum (l.take k)) /\ csum (l.take k) <= 150 /\ Below w.heap.size w wr) (λ_ x4 _ => n - (intOf x4).toNat)
 case atStart => exact ⟨0, Nat.zero_le _, rfl, rfl, Nat.zero_le _, Below.refl _ _⟩
 case round =>
  obtain ⟨k, hk, rfl, rfl, hf, hB⟩ := hrel
  by_cases hlt : k < n
  ·have k0 : (k : Int) < (n : Int) := by omega
   have hk0 : (0 : Int) <= (k : Int) := by omega
   have hkl : k < l.length := by rw [<- HN.out]; exact hlt
   obtain ⟨b, off, rfl, hc⟩ := (HS.out wr hB).cell k hlt
   have HM := hid (csum_more hkl)
   have HBg := hid (λ(h : ¬ csum (l.take (k + 1)) <= 150) => (show few13 l = false from by unfold few13; rw [decide_eq_false]; have := csum_le l (k + 1); omega))
   have c6 : wr.cell? ⟨b, off + k * 8 + 6, none⟩ = some (.string (l.getD k cmd0).name) := hc 6 _ rfl
   have c7 : wr.cell? ⟨b, off + k * 8 + 7, none⟩ = some (.string (l.getD k cmd0).data) := hc 7 _ rfl
   have HB := hid hB
   clear hc hB
   unfold cwt at HM
   generalize l.getD k cmd0 = o at *
   obtain ⟨okd, o1, o2, o3, o4, o5, ob, od⟩ := o
   dsimp only at c6 c7 HM
   generalize csum (l.take k) = N at *
   obtain ⟨T, hT⟩ : ∃ T, T = (min ob.size 10000 + min od.size 10000) / 100 := ⟨_, rfl⟩
   rw [<- hT] at HM
   have hT3 : T <= 300 := by omega
   have hq1 : IntKind.i64.wrap (min (ob.size : Int) 10000 + min (od.size : Int) 10000) = min (ob.size : Int) 10000 + min (od.size : Int) 10000 := IntWalk.i64_in _ (by omega)
   have hq3 : (min (ob.size : Int) 10000 + min (od.size : Int) 10000).tdiv 100 = (T : Int) := by
    rw [Int.tdiv_eq_ediv_of_nonneg (by omega)]
    omega
   have hq4 : IntKind.i64.wrap (T : Int) = (T : Int) := IntWalk.i64_in _ (by omega)
   have hq5 : IntKind.i64.wrap ((N : Int) + 1) = (N : Int) + 1 := IntWalk.i64_in _ (by omega)
   have hq6 : IntKind.i64.wrap ((N : Int) + 1 + (T : Int)) = (N : Int) + 1 + (T : Int) := IntWalk.i64_in _ (by omega)
   have HV := hid (show (Value.int .i64 ((N : Int) + 1 + (T : Int))) = .int .i64 (csum (l.take (k + 1)) : Nat) by rw [HM.out, show ((N + (1 + T) : Nat) : Int) = (N : Int) + 1 + (T : Int) by omega])
   clear hT
   go_wp2_with fail
   go_region_held3 (λW => W.cell? ⟨b, off + k * 8 + 6, none⟩ = some (.string ob) /\ W.cell? ⟨b, off + k * 8 + 7, none⟩ = some (.string od))
    (first | exact ⟨c6, c7⟩) (fail)
   all_goals
    by_cases h120 : N + (1 + T) <= 150
    ·have hi : ¬ (150 : Int) < (N : Int) + 1 + (T : Int) := by omega
     go_wp2_with fail
     go_roundw
     case rel => exact ⟨k + 1, by omega, by go_num, HV.out, by rw [HM.out]; exact h120, HB.out.drew⟩
     case measure => simp [intOf]; omega
    ·have hi : (150 : Int) < (N : Int) + 1 + (T : Int) := by omega
     have HR := hid (HBg.out (by rw [HM.out]; exact h120))
     go_wp2_with fail
     go_ret
     rw [HR.out]
     exact ⟨rfl, HB.out.drew⟩
  ·obtain rfl : k = n := by omega
   have HB := hid hB
   have HR := hid (show few13 l = true by unfold few13; have h := hf; rw [HN.out, List.take_length] at h; exact decide_eq_true h)
   clear hB
   go_wp2_with fail
   go_ret
   rw [HR.out]
   exact ⟨rfl, HB.out⟩
def doneC (par l : List Fs.Item) (qs : List Fs.Cmd) : List Fs.Item := qs.foldl (λl q => (Fs.doC env par l q).1) l
theorem doneC_more {par l : List Fs.Item} {qs : List Fs.Cmd} {k : Nat} (h : k < qs.length) : doneC par l (qs.take (k + 1)) = (Fs.doC env par (doneC par l (qs.take k)) (qs.getD k cmd0)).1 := by
 unfold doneC
 rw [List.take_succ_eq_append_getElem h, List.foldl_append, List.getD, List.getElem?_eq_getElem h]
 rfl
theorem cmds_ok {qs : List Fs.Cmd} (h : ∀ o ∈ qs, CmdOk o) {k : Nat} (hk : k < qs.length) : CmdOk (qs.getD k cmd0) := h _ (by rw [List.getD, List.getElem?_eq_getElem hk]; exact List.getElem_mem hk)
end Go.Proofs.YthbajmlmjjfgpaaGreatDoor
namespace Go.Proofs.YthbajmlmjjfgpaaGreatDoor
open Go.ChangeShapes Go.WideShapes Go.ChangeAt Go.WideMaps Go.WideElems Go.RowKit Go.Joins Go.Deep
theorem own : ownKnob prog.godebug = none := by kernel_rfl
theorem laidOut : laidOutB prog = true := by kernel_rfl
def startZ : List Int := (List.range 8).map λj => T8.u32 (Sha.init.get j)
def roundZ : List Int := (List.range 64).map λj => T8.u32 (Sha.kAt j)
theorem of_laid {n1 n2 : String} {d1 d2 : DataW Unit} {rest : List (String × DataW Unit)} {W : World} (h : laidMet prog ((n1, d1) :: (n2, d2) :: rest) W) (e1 : d1 = Lib.tabData .u32 startZ) (e2 : d2 = Lib.tabData .u32 roundZ)
  (hg1 : prog.globalNamed n1 = some 2) (hg2 : prog.globalNamed n2 = some 3) : T8.Dg W := by
 subst e1 e2
 have t1 := Lib.tabIs_of_head (n := 8) (e := 195) hg1 (show _ = some 201 by kernel_rfl) underlying201 underlying195 (by kernel_rfl) (by kernel_rfl) h
 have t2 := Lib.tabIs_of_head (n := 64) (e := 195) hg2 (show _ = some 202 by kernel_rfl) underlying202 underlying195 (by kernel_rfl) (by kernel_rfl) h.tail
 refine ⟨λj hj => ?_, λj hj => ?_⟩
 ·rw [t2.cell hg2 j (by simp [roundZ]; omega)]
  simp [roundZ, List.getD, hj]
 ·rw [t1.cell hg1 j (by simp [startZ]; omega)]
  simp [startZ, List.getD, hj]
theorem bounded {s : ByteArray} (h : s.data.toList.length <= reachBytes) : s.size <= 140737488355328 := by
 have e : s.data.toList.length = s.size := Array.length_toList
 rw [e] at h
 exact Nat.le_trans h (by decide)
theorem weightsAll_mem {H : Type} {P : Program} {e : TypeId} : ∀ {l : List (DataW H)} {d : DataW H}, d ∈ l -> ∀ n ∈ d.weights P e, n ∈ DataW.weightsAll P e l
 | d' :: r, d, hd, n, hn => by
  simp only [DataW.weightsAll, List.mem_append]
  rcases List.mem_cons.1 hd with rfl | h
  ·exact Or.inl hn
  ·exact Or.inr (weightsAll_mem h n hn)
def vStr : Value -> ByteArray | .string s => s | _ => ByteArray.empty
def vInt : Value -> Int | .int _ z => z | _ => 0
def opAt (w : World) (a : Addr) (i : Nat) : Fs.Op :=
 ⟨vInt ((w.cell? (a.add (i * 7))).getD undef), vStr ((w.cell? (a.add (i * 7 + 1))).getD undef), vStr ((w.cell? (a.add (i * 7 + 2))).getD undef), vInt ((w.cell? (a.add (i * 7 + 3))).getD undef), vInt ((w.cell? (a.add (i * 7 + 4))).getD undef), vInt ((w.cell? (a.add (i * 7 + 5))).getD undef), vStr ((w.cell? (a.add (i * 7 + 6))).getD undef)⟩
section
variable {H : Type} {enc : TypeId × Value -> H} {P : Program} {w : World} {base : Nat} {spare : Nat -> Bool} {held : Bool}
theorem rows_open {t e : TypeId} {fs : Array Field} {fuel : Nat} {cs : List Value} {x : DataW H × List MemPlace} (ht : P.underlying t = some (.slice e)) (he : P.underlying e = some (.struct fs))
  (hone : oneCellFields P fs = true) (hC : P.cellsOf e = fs.size) (h : DataW.trod enc P w base spare held fuel t cs = some x) :
  (cs = [.slice none 0 0] /\ x = (.nil, [])) \/
  ∃ (a : Addr) (len cap m : Nat) (D : Nat -> DataW H), cs = [.slice (some a) len cap] /\ len <= cap /\ m = (if spare a.block then cap else len) /\
   x.1 = .slice ((List.range len).map D) ((List.range (m - len)).map λj => D (len + j)) /\
   ∀ i, i < m -> ∃ (ys : List (DataW H × List MemPlace)) (n : Nat), D i = .agg (ys.map (·.1)) /\ ys.length = fs.size /\
    ∀ (j : Nat) (f : Field), fs[j]? = some f -> ∃ (v : Value) (y : DataW H × List MemPlace), w.cell? (a.add (i * fs.size + j)) = some v /\ ys[j]? = some y /\ DataW.trod enc P w base spare held n f.type [v] = some y := by
 rcases open_slice ht h with h0 | ⟨a, len, cap, m, n, D, Pl, hcs, hb, hl, hm, hmm, hx, hi⟩
 ·exact .inl h0
 ·refine .inr ⟨a, len, cap, m, D, hcs, hl, hmm, by rw [hx], λi him => ?_⟩
  obtain ⟨cs', hc, ht'⟩ := hi i him
  rw [hC] at hc
  obtain ⟨ys, n', hn', hy, hlen, hyl, hf⟩ := DataW.trod_struct he ht'
  obtain ⟨_, hcl, hat⟩ := World.cells?_some hc
  simp only [Prod.mk.injEq] at hy
  refine ⟨ys, n', hy.1, hyl, λj f hj => ?_⟩
  obtain ⟨ho, hk⟩ := hone_of hone j f hj
  have hjl : j < fs.size := (Array.getElem?_eq_some_iff.1 hj).1
  have hcell := hat j hjl
  have hv : cs'[j]? = some (cs'[j]'(by omega)) := List.getElem?_eq_getElem (by omega)
  have h1 := hf j f hj
  rw [ho, hk] at h1
  have hone' : (cs'.drop j).take 1 = [cs'[j]'(by omega)] := by
   rw [List.drop_eq_getElem_cons (by omega)]
   rfl
  rw [hone'] at h1
  have hys : ys[j]? = some (ys[j]'(by omega)) := List.getElem?_eq_getElem (by omega)
  refine ⟨_, _, ?_, hys, h1.trans hys⟩
  rw [<- Go.Deep.add_add, hcell, hv]
end
section
variable {H : Type} {enc : TypeId × Value -> H} {w : World} {base : Nat} {sp : Nat -> Bool} {held : Bool}
theorem i64_le {z : Int} (h : (Lit.int .i64 z).wf = true) : z <= 9223372036854775807 := by
 simp only [Lit.wf, Bool.and_eq_true, decide_eq_true_eq] at h
 exact h.2
theorem ops_open {fuel : Nat} {v : Value} {y : DataW H × List MemPlace} (h : DataW.trod enc prog w base sp held fuel 38 [v] = some y) (hsz : ∀ x ∈ y.1.weights prog 38, x <= reachBytes) : ∃ a n c l, v = .slice a n c /\ Opr a n l w /\ n <= 140737488355328 := by
 rcases rows_open underlying38 underlying74 (by kernel_rfl) (by kernel_rfl) h with ⟨hcs, hx⟩ | ⟨a, n, c, m, D, hcs, hl, hm, hx, hi⟩
 ·injection hcs with hcs _
  subst hcs
  exact ⟨none, 0, 0, [], rfl, ⟨rfl, λj hj => by omega, λo ho => by cases ho⟩, Nat.zero_le _⟩
 ·injection hcs with hcs _
  subst hcs
  have hnm : n <= m := by rw [hm]; split <;> omega
  have hw : ∀ x ∈ (DataW.slice ((List.range n).map D) ((List.range (m - n)).map λj => D (n + j)) : DataW H).weights prog 38, x <= reachBytes := by rw [<- hx]; exact hsz
  simp only [DataW.weights, underlying38] at hw
  have hat : ∀ i, i < n -> ∃ s0 s1 s2 s3 s4 s5 s6, w.cell? (a.add (i * 7)) = some (.int .i64 s0) /\ w.cell? (a.add (i * 7 + 1)) = some (.string s1) /\ w.cell? (a.add (i * 7 + 2)) = some (.string s2) /\ w.cell? (a.add (i * 7 + 3)) = some (.int .i64 s3) /\ w.cell? (a.add (i * 7 + 4)) = some (.int .i64 s4) /\ w.cell? (a.add (i * 7 + 5)) = some (.int .i64 s5) /\ w.cell? (a.add (i * 7 + 6)) = some (.string s6) /\ OpOk ⟨s0, s1, s2, s3, s4, s5, s6⟩ := by
   intro i hin
   obtain ⟨ys, q, hD, hyl, hf⟩ := hi i (by omega)
   obtain ⟨v0, y0, c0, e0, t0⟩ := hf 0 _ rfl
   obtain ⟨v1, y1, c1, e1, t1⟩ := hf 1 _ rfl
   obtain ⟨v2, y2, c2, e2, t2⟩ := hf 2 _ rfl
   obtain ⟨v3, y3, c3, e3, t3⟩ := hf 3 _ rfl
   obtain ⟨v4, y4, c4, e4, t4⟩ := hf 4 _ rfl
   obtain ⟨v5, y5, c5, e5, t5⟩ := hf 5 _ rfl
   obtain ⟨v6, y6, c6, e6, t6⟩ := hf 6 _ rfl
   obtain ⟨s0, hs0, hy0, wf0⟩ := DataW.trod_int underlying3 t0
   obtain ⟨s1, hs1, hy1, wf1⟩ := DataW.trod_string underlying9 t1
   obtain ⟨s2, hs2, hy2, wf2⟩ := DataW.trod_string underlying9 t2
   obtain ⟨s3, hs3, hy3, wf3⟩ := DataW.trod_int underlying3 t3
   obtain ⟨s4, hs4, hy4, wf4⟩ := DataW.trod_int underlying3 t4
   obtain ⟨s5, hs5, hy5, wf5⟩ := DataW.trod_int underlying3 t5
   obtain ⟨s6, hs6, hy6, wf6⟩ := DataW.trod_string underlying9 t6
   injection hs0 with hs0 _
   injection hs1 with hs1 _
   injection hs2 with hs2 _
   injection hs3 with hs3 _
   injection hs4 with hs4 _
   injection hs5 with hs5 _
   injection hs6 with hs6 _
   subst hs0 hs1 hs2 hs3 hs4 hs5 hs6
   have hmem : D i ∈ (List.range n).map D := List.mem_map.2 ⟨i, List.mem_range.2 hin, rfl⟩
   have hin2 : ∀ x, x ∈ (D i).weights prog 74 -> x <= reachBytes := λx hx => hw _ (List.mem_cons_of_mem _ (List.mem_append_left _ (weightsAll_mem hmem _ hx)))
   rw [hD] at hin2
   simp only [DataW.weights, underlying74] at hin2
   match ys, hyl, e0, e1, e2, e3, e4, e5, e6 with
   | [u0, u1, u2, u3, u4, u5, u6], _, e0, e1, e2, e3, e4, e5, e6 =>
    have f1 : u1 = (DataW.lit (Lit.string s1.data.toList), []) := by rw [<- hy1]; simpa using e1
    have f2 : u2 = (DataW.lit (Lit.string s2.data.toList), []) := by rw [<- hy2]; simpa using e2
    have f6 : u6 = (DataW.lit (Lit.string s6.data.toList), []) := by rw [<- hy6]; simpa using e6
    rw [f1, f2, f6] at hin2
    simp [DataW.weightsEach, DataW.weights] at hin2
    exact ⟨s0, s1, s2, s3, s4, s5, s6, c0, c1, c2, c3, c4, c5, c6, ⟨wf0, bounded (hin2 _ (by simp)), bounded (hin2 _ (by simp)), bounded (hin2 _ (by simp)), i64_le wf3, i64_le wf4, i64_le wf5⟩⟩
  have hopAt : ∀ i, i < n -> OpOk (opAt w a i) /\ ∀ j v, (ocs (opAt w a i))[j]? = some v -> w.cell? (a.add (i * 7 + j)) = some v := by
   intro i hin
   obtain ⟨s0, s1, s2, s3, s4, s5, s6, c0, c1, c2, c3, c4, c5, c6, hok⟩ := hat i hin
   have e : opAt w a i = ⟨s0, s1, s2, s3, s4, s5, s6⟩ := by unfold opAt; rw [c0, c1, c2, c3, c4, c5, c6]; rfl
   rw [e]
   refine ⟨hok, λj v hv => ?_⟩
   match j, hv with
   | 0, hv => injection hv with hv; rw [<- hv]; exact c0
   | 1, hv => injection hv with hv; rw [<- hv]; exact c1
   | 2, hv => injection hv with hv; rw [<- hv]; exact c2
   | 3, hv => injection hv with hv; rw [<- hv]; exact c3
   | 4, hv => injection hv with hv; rw [<- hv]; exact c4
   | 5, hv => injection hv with hv; rw [<- hv]; exact c5
   | 6, hv => injection hv with hv; rw [<- hv]; exact c6
   | j + 7, hv => simp [ocs] at hv
  refine ⟨some a, n, c, (List.range n).map (opAt w a), rfl, ⟨by simp, λi hin => ?_, λo ho => ?_⟩, ?_⟩
  ·have hg : ((List.range n).map (opAt w a)).getD i op0 = opAt w a i := by simp [List.getD, hin]
   obtain ⟨b, off, spot⟩ := a
   obtain ⟨s0, _, _, _, _, _, _, h00, _⟩ := hat 0 (by omega)
   have hspot : spot = none := by simpa [Addr.add] using World.cell?_spot h00
   subst hspot
   refine ⟨b, off, rfl, λj v hv => ?_⟩
   rw [hg] at hv
   have := (hopAt i hin).2 j v hv
   rw [Go.WideShapes.add_plain] at this
   rw [Nat.add_assoc]; exact this
  ·obtain ⟨i, hi9, rfl⟩ := List.mem_map.1 ho
   exact (hopAt i (List.mem_range.1 hi9)).1
  ·have := hw _ List.mem_cons_self
   have hb : 1 <= prog.bytesOf 74 := by rw [show prog.bytesOf 74 = 80 by kernel_rfl]; decide
   have hr : reachBytes <= 140737488355328 := by decide
   simp only [List.length_map, List.length_range] at this
   have h2 : n + (m - n) <= (n + (m - n)) * prog.bytesOf 74 := Nat.le_mul_of_pos_right _ hb
   omega
end
def cmdAt (w : World) (a : Addr) (i : Nat) : Fs.Cmd :=
 ⟨vInt ((w.cell? (a.add (i * 8))).getD undef), vInt ((w.cell? (a.add (i * 8 + 1))).getD undef), vInt ((w.cell? (a.add (i * 8 + 2))).getD undef), vInt ((w.cell? (a.add (i * 8 + 3))).getD undef), vInt ((w.cell? (a.add (i * 8 + 4))).getD undef), vInt ((w.cell? (a.add (i * 8 + 5))).getD undef), vStr ((w.cell? (a.add (i * 8 + 6))).getD undef), vStr ((w.cell? (a.add (i * 8 + 7))).getD undef)⟩
section
variable {H : Type} {enc : TypeId × Value -> H} {w : World} {base : Nat} {sp : Nat -> Bool} {held : Bool}
theorem i64_ge {z : Int} (h : (Lit.int .i64 z).wf = true) : -9223372036854775808 <= z := by
 simp only [Lit.wf, Bool.and_eq_true, decide_eq_true_eq] at h
 exact h.1
theorem cmds_open {fuel : Nat} {v : Value} {y : DataW H × List MemPlace} (h : DataW.trod enc prog w base sp held fuel 39 [v] = some y) (hsz : ∀ x ∈ y.1.weights prog 39, x <= reachBytes) : ∃ a n c l, v = .slice a n c /\ Cpr a n l w /\ n <= 140737488355328 := by
 rcases rows_open underlying39 underlying23 (by kernel_rfl) (by kernel_rfl) h with ⟨hcs, hx⟩ | ⟨a, n, c, m, D, hcs, hl, hm, hx, hi⟩
 ·injection hcs with hcs _
  subst hcs
  exact ⟨none, 0, 0, [], rfl, ⟨rfl, λj hj => by omega, λo ho => by cases ho⟩, Nat.zero_le _⟩
 ·injection hcs with hcs _
  subst hcs
  have hnm : n <= m := by rw [hm]; split <;> omega
  have hw : ∀ x ∈ (DataW.slice ((List.range n).map D) ((List.range (m - n)).map λj => D (n + j)) : DataW H).weights prog 39, x <= reachBytes := by rw [<- hx]; exact hsz
  simp only [DataW.weights, underlying39] at hw
  have hat : ∀ i, i < n -> ∃ s0 s1 s2 s3 s4 s5 s6 s7, w.cell? (a.add (i * 8)) = some (.int .i64 s0) /\ w.cell? (a.add (i * 8 + 1)) = some (.int .i64 s1) /\ w.cell? (a.add (i * 8 + 2)) = some (.int .i64 s2) /\ w.cell? (a.add (i * 8 + 3)) = some (.int .i64 s3) /\ w.cell? (a.add (i * 8 + 4)) = some (.int .i64 s4) /\ w.cell? (a.add (i * 8 + 5)) = some (.int .i64 s5) /\ w.cell? (a.add (i * 8 + 6)) = some (.string s6) /\ w.cell? (a.add (i * 8 + 7)) = some (.string s7) /\ CmdOk ⟨s0, s1, s2, s3, s4, s5, s6, s7⟩ := by
   intro i hin
   obtain ⟨ys, q, hD, hyl, hf⟩ := hi i (by omega)
   obtain ⟨v0, y0, c0, e0, t0⟩ := hf 0 _ rfl
   obtain ⟨v1, y1, c1, e1, t1⟩ := hf 1 _ rfl
   obtain ⟨v2, y2, c2, e2, t2⟩ := hf 2 _ rfl
   obtain ⟨v3, y3, c3, e3, t3⟩ := hf 3 _ rfl
   obtain ⟨v4, y4, c4, e4, t4⟩ := hf 4 _ rfl
   obtain ⟨v5, y5, c5, e5, t5⟩ := hf 5 _ rfl
   obtain ⟨v6, y6, c6, e6, t6⟩ := hf 6 _ rfl
   obtain ⟨v7, y7, c7, e7, t7⟩ := hf 7 _ rfl
   obtain ⟨s0, hs0, hy0, wf0⟩ := DataW.trod_int underlying3 t0
   obtain ⟨s1, hs1, hy1, wf1⟩ := DataW.trod_int underlying3 t1
   obtain ⟨s2, hs2, hy2, wf2⟩ := DataW.trod_int underlying3 t2
   obtain ⟨s3, hs3, hy3, wf3⟩ := DataW.trod_int underlying3 t3
   obtain ⟨s4, hs4, hy4, wf4⟩ := DataW.trod_int underlying3 t4
   obtain ⟨s5, hs5, hy5, wf5⟩ := DataW.trod_int underlying3 t5
   obtain ⟨s6, hs6, hy6, wf6⟩ := DataW.trod_string underlying9 t6
   obtain ⟨s7, hs7, hy7, wf7⟩ := DataW.trod_string underlying9 t7
   injection hs0 with hs0 _
   injection hs1 with hs1 _
   injection hs2 with hs2 _
   injection hs3 with hs3 _
   injection hs4 with hs4 _
   injection hs5 with hs5 _
   injection hs6 with hs6 _
   injection hs7 with hs7 _
   subst hs0 hs1 hs2 hs3 hs4 hs5 hs6 hs7
   have hmem : D i ∈ (List.range n).map D := List.mem_map.2 ⟨i, List.mem_range.2 hin, rfl⟩
   have hin2 : ∀ x, x ∈ (D i).weights prog 23 -> x <= reachBytes := λx hx => hw _ (List.mem_cons_of_mem _ (List.mem_append_left _ (weightsAll_mem hmem _ hx)))
   rw [hD] at hin2
   simp only [DataW.weights, underlying23] at hin2
   match ys, hyl, e0, e1, e2, e3, e4, e5, e6, e7 with
   | [u0, u1, u2, u3, u4, u5, u6, u7], _, e0, e1, e2, e3, e4, e5, e6, e7 =>
    have f6 : u6 = (DataW.lit (Lit.string s6.data.toList), []) := by rw [<- hy6]; simpa using e6
    have f7 : u7 = (DataW.lit (Lit.string s7.data.toList), []) := by rw [<- hy7]; simpa using e7
    rw [f6, f7] at hin2
    simp [DataW.weightsEach, DataW.weights] at hin2
    exact ⟨s0, s1, s2, s3, s4, s5, s6, s7, c0, c1, c2, c3, c4, c5, c6, c7, ⟨i64_ge wf1, i64_le wf1, i64_ge wf2, i64_le wf2, i64_le wf3, i64_le wf4, i64_le wf5, bounded (hin2 _ (by simp)), bounded (hin2 _ (by simp))⟩⟩
  have hopAt : ∀ i, i < n -> CmdOk (cmdAt w a i) /\ ∀ j v, (ccs (cmdAt w a i))[j]? = some v -> w.cell? (a.add (i * 8 + j)) = some v := by
   intro i hin
   obtain ⟨s0, s1, s2, s3, s4, s5, s6, s7, c0, c1, c2, c3, c4, c5, c6, c7, hok⟩ := hat i hin
   have e : cmdAt w a i = ⟨s0, s1, s2, s3, s4, s5, s6, s7⟩ := by unfold cmdAt; rw [c0, c1, c2, c3, c4, c5, c6, c7]; rfl
   rw [e]
   refine ⟨hok, λj v hv => ?_⟩
   match j, hv with
   | 0, hv => injection hv with hv; rw [<- hv]; exact c0
   | 1, hv => injection hv with hv; rw [<- hv]; exact c1
   | 2, hv => injection hv with hv; rw [<- hv]; exact c2
   | 3, hv => injection hv with hv; rw [<- hv]; exact c3
   | 4, hv => injection hv with hv; rw [<- hv]; exact c4
   | 5, hv => injection hv with hv; rw [<- hv]; exact c5
   | 6, hv => injection hv with hv; rw [<- hv]; exact c6
   | 7, hv => injection hv with hv; rw [<- hv]; exact c7
   | j + 8, hv => simp [ccs] at hv
  refine ⟨some a, n, c, (List.range n).map (cmdAt w a), rfl, ⟨by simp, λi hin => ?_, λo ho => ?_⟩, ?_⟩
  ·have hg : ((List.range n).map (cmdAt w a)).getD i cmd0 = cmdAt w a i := by simp [List.getD, hin]
   obtain ⟨b, off, spot⟩ := a
   obtain ⟨s0, _, _, _, _, _, _, _, h00, _⟩ := hat 0 (by omega)
   have hspot : spot = none := by simpa [Addr.add] using World.cell?_spot h00
   subst hspot
   refine ⟨b, off, rfl, λj v hv => ?_⟩
   rw [hg] at hv
   have := (hopAt i hin).2 j v hv
   rw [Go.WideShapes.add_plain] at this
   rw [Nat.add_assoc]; exact this
  ·obtain ⟨i, hi9, rfl⟩ := List.mem_map.1 ho
   exact (hopAt i (List.mem_range.1 hi9)).1
  ·have := hw _ List.mem_cons_self
   have hb : 1 <= prog.bytesOf 23 := by rw [show prog.bytesOf 23 = 80 by kernel_rfl]; decide
   have hr : reachBytes <= 140737488355328 := by decide
   simp only [List.length_map, List.length_range] at this
   have h2 : n + (m - n) <= (n + (m - n)) * prog.bytesOf 23 := Nat.le_mul_of_pos_right _ hb
   omega
end
def tbD : DataW Unit := .agg (tbl.map λr => .agg (r.map λb => .lit (.bool b)))
theorem map_at {α β γ : Type} {f : α -> γ} {g : β -> γ} {l : List α} {r : List β} (h : l.map f = r.map g) {i : Nat} {x : α} (hx : l[i]? = some x) : ∃ y, r[i]? = some y /\ f x = g y := by
 have h1 : (l.map f)[i]? = (r.map g)[i]? := by rw [h]
 rw [List.getElem?_map, List.getElem?_map, hx] at h1
 cases hr : r[i]? with
 | none => rw [hr] at h1; cases h1
 | some y => rw [hr] at h1; injection h1 with h1; exact ⟨y, rfl, h1⟩
theorem tn_of {n1 : String} {d : DataW Unit} {rest : List (String × DataW Unit)} {W : World} (h : laidMet prog ((n1, d) :: rest) W) (e : d = tbD) (hg : prog.globalNamed n1 = some 0) : Tn W := by
 subst e
 obtain ⟨ps, ⟨g', t', cs, fuel, p, q, hg', ht', hvar, hd, _, _⟩, _⟩ := h
 obtain rfl := Option.some.inj (hg.symm.trans hg')
 obtain rfl := Option.some.inj ((show (prog.globals[0]?).map (·.type) = some 166 by kernel_rfl).symm.trans ht')
 intro k i hk hi
 obtain ⟨xs, m, _, hx, hcl, hxl, hf⟩ := DataW.trod_array underlying166 hd
 have hx1 : tbl.map (λr => (DataW.agg (r.map λb => .lit (.bool b)) : DataW Unit)) = xs.map (·.1) := by
  have h1 := congrArg Prod.fst hx
  unfold tbD at h1
  injection h1
 have c5 : prog.cellsOf 165 = 5 := by kernel_rfl
 have c1 : prog.cellsOf 4 = 1 := by kernel_rfl
 obtain ⟨row, hrow⟩ : ∃ row, tbl[k]? = some row := ⟨_, List.getElem?_eq_getElem (show k < tbl.length from hk)⟩
 obtain ⟨y, hy, hyr⟩ := map_at hx1 hrow
 have hfk := hf k hk
 rw [hy, c5] at hfk
 obtain ⟨ys, m2, _, hx2, hcl2, hyl, hf2⟩ := DataW.trod_array underlying165 hfk
 have hx3 : row.map (λb => (DataW.lit (.bool b) : DataW Unit)) = ys.map (·.1) := by
  have h1 := congrArg Prod.fst hx2
  rw [<- hyr] at h1
  injection h1
 have hrl : row.length = 5 := by
  have := congrArg List.length hx3
  rw [List.length_map, List.length_map, hyl] at this
  exact this
 obtain ⟨b, hb⟩ : ∃ b, row[i]? = some b := ⟨_, List.getElem?_eq_getElem (by omega)⟩
 obtain ⟨z, hz, hzb⟩ := map_at hx3 hb
 have hfi := hf2 i hi
 rw [hz, c1, Nat.mul_one] at hfi
 obtain ⟨b2, hb2, hzz⟩ := DataW.trod_bool underlying4 hfi
 have hbb : b2 = b := by
  rw [hzz] at hzb
  injection hzb with h1
  injection h1 with h1
  exact h1.symm
 subst hbb
 have hcell := World.var?_cell hg hvar (k * 5 + i)
 rw [hcell]
 have h1 : ((List.take 5 (List.drop (k * 5) cs.toList)).drop i).take 1 = [Value.bool b2] := hb2
 have h2 : (((List.take 5 (List.drop (k * 5) cs.toList)).drop i).take 1)[0]? = some (Value.bool b2) := by rw [h1]; rfl
 rw [List.getElem?_take_of_lt (by decide), List.getElem?_drop, Nat.add_zero, List.getElem?_take_of_lt hi, List.getElem?_drop] at h2
 have h3 : tb k i = b2 := by unfold tb; rw [show tbl.getD k [] = row from by rw [List.getD, hrow]; rfl, List.getD, hb]; rfl
 rw [h3]
 simpa using h2
section
variable {H : Type} {enc : TypeId × Value -> H} {P : Program} {w : World} {base : Nat} {spare : Nat -> Bool} {held : Bool}
theorem eight_open {r : Reach} {b0 : Nat} {t : TypeId} {f0 f1 f2 f3 f4 f5 f6 f7 : Field} {v : Value} {d : DataW H} {p : List MemPlace} (hs : P.underlying t = some (.struct #[f0, f1, f2, f3, f4, f5, f6, f7])) (hone : oneCellFields P #[f0, f1, f2, f3, f4, f5, f6, f7] = true) (hC : P.cellsOf t = 8)
  (hv : Value.okWide P w r b0 t v) (h : DataW.Trod enc P w base spare held t v d p) :
  ∃ (v0 v1 v2 v3 v4 v5 v6 v7 : Value) (y0 y1 y2 y3 y4 y5 y6 y7 : DataW H × List MemPlace) (n : Nat), v = .agg #[v0, v1, v2, v3, v4, v5, v6, v7] /\ d = .agg [y0.1, y1.1, y2.1, y3.1, y4.1, y5.1, y6.1, y7.1] /\
   DataW.trod enc P w base spare held n f0.type [v0] = some y0 /\ DataW.trod enc P w base spare held n f1.type [v1] = some y1 /\ DataW.trod enc P w base spare held n f2.type [v2] = some y2 /\ DataW.trod enc P w base spare held n f3.type [v3] = some y3 /\ DataW.trod enc P w base spare held n f4.type [v4] = some y4 /\ DataW.trod enc P w base spare held n f5.type [v5] = some y5 /\ DataW.trod enc P w base spare held n f6.type [v6] = some y6 /\ DataW.trod enc P w base spare held n f7.type [v7] = some y7 := by
 obtain ⟨cs, rfl, hsz⟩ := okWide_struct hs hv
 obtain ⟨l⟩ := cs
 match l, hsz.trans hC with
 | [c0, c1, c2, c3, c4, c5, c6, c7], _ =>
  obtain ⟨fuel, hf⟩ := h
  obtain ⟨xs, n, _, hx, _, hlen, hg⟩ := DataW.trod_struct hs hf
  obtain ⟨o0, k0⟩ := hone_of hone 0 f0 rfl
  obtain ⟨o1, k1⟩ := hone_of hone 1 f1 rfl
  obtain ⟨o2, k2⟩ := hone_of hone 2 f2 rfl
  obtain ⟨o3, k3⟩ := hone_of hone 3 f3 rfl
  obtain ⟨o4, k4⟩ := hone_of hone 4 f4 rfl
  obtain ⟨o5, k5⟩ := hone_of hone 5 f5 rfl
  obtain ⟨o6, k6⟩ := hone_of hone 6 f6 rfl
  obtain ⟨o7, k7⟩ := hone_of hone 7 f7 rfl
  match xs, hlen with
  | [y0, y1, y2, y3, y4, y5, y6, y7], _ =>
   simp only [Prod.mk.injEq] at hx
   exact ⟨c0, c1, c2, c3, c4, c5, c6, c7, y0, y1, y2, y3, y4, y5, y6, y7, n, rfl, by simpa using hx.1, by simpa [Value.cells, o0, k0] using hg 0 f0 rfl, by simpa [Value.cells, o1, k1] using hg 1 f1 rfl, by simpa [Value.cells, o2, k2] using hg 2 f2 rfl, by simpa [Value.cells, o3, k3] using hg 3 f3 rfl, by simpa [Value.cells, o4, k4] using hg 4 f4 rfl, by simpa [Value.cells, o5, k5] using hg 5 f5 rfl, by simpa [Value.cells, o6, k6] using hg 6 f6 rfl, by simpa [Value.cells, o7, k7] using hg 7 f7 rfl⟩
end
section
variable {H : Type} {enc : TypeId × Value -> H} {w : World} {base : Nat} {sp : Nat -> Bool} {held : Bool}
theorem cmd_open {r : Reach} {b0 : Nat} {ts : List TypeId} {ds : List (DataW H)} {j : Nat} {v : Value} {d : DataW H} {p : List MemPlace} (hsz : (DataW.weightsEach prog ts ds).all (· <= reachBytes) = true) (ht : ts[j]? = some 23) (hd : ds[j]? = some d)
  (hv : Value.okWide prog w r b0 23 v) (h : DataW.Trod enc prog w base sp held 23 v d p) : ∃ q : Fs.Cmd, v = .agg (ccs q) /\ CmdOk q := by
 obtain ⟨v0, v1, v2, v3, v4, v5, v6, v7, y0, y1, y2, y3, y4, y5, y6, y7, n, rfl, rfl, t0, t1, t2, t3, t4, t5, t6, t7⟩ := eight_open underlying23 (by kernel_rfl) (by kernel_rfl) hv h
 obtain ⟨s0, e0, hy0, wf0⟩ := DataW.trod_int underlying3 t0
 obtain ⟨s1, e1, hy1, wf1⟩ := DataW.trod_int underlying3 t1
 obtain ⟨s2, e2, hy2, wf2⟩ := DataW.trod_int underlying3 t2
 obtain ⟨s3, e3, hy3, wf3⟩ := DataW.trod_int underlying3 t3
 obtain ⟨s4, e4, hy4, wf4⟩ := DataW.trod_int underlying3 t4
 obtain ⟨s5, e5, hy5, wf5⟩ := DataW.trod_int underlying3 t5
 obtain ⟨s6, e6, hy6, wf6⟩ := DataW.trod_string underlying9 t6
 obtain ⟨s7, e7, hy7, wf7⟩ := DataW.trod_string underlying9 t7
 injection e0 with e0 _
 injection e1 with e1 _
 injection e2 with e2 _
 injection e3 with e3 _
 injection e4 with e4 _
 injection e5 with e5 _
 injection e6 with e6 _
 injection e7 with e7 _
 subst e0 e1 e2 e3 e4 e5 e6 e7
 have hw : ∀ x ∈ DataW.weightsEach prog [3, 3, 3, 3, 3, 3, 9, 9] [y0.1, y1.1, y2.1, y3.1, y4.1, y5.1, y6.1, y7.1], x <= reachBytes := λx hx =>
  of_decide_eq_true (List.all_eq_true.1 hsz _ (DataW.weights_mem_each ht hd x (by simp only [DataW.weights, underlying23]; exact hx)))
 rw [hy6, hy7] at hw
 have hw' : (DataW.weightsEach prog [3, 3, 3, 3, 3, 3, 9, 9] [y0.1, y1.1, y2.1, y3.1, y4.1, y5.1, .lit (.string s6.data.toList), .lit (.string s7.data.toList)]).all (· <= reachBytes) = true := List.all_eq_true.2 λx hx => decide_eq_true (hw x hx)
 exact ⟨⟨s0, s1, s2, s3, s4, s5, s6, s7⟩, rfl, ⟨i64_ge wf1, i64_le wf1, i64_ge wf2, i64_le wf2, i64_le wf3, i64_le wf4, i64_le wf5, bounded (sized_string hw' (j := 6) (t := 9) rfl rfl), bounded (sized_string hw' (j := 7) (t := 9) rfl rfl)⟩⟩
end
end Go.Proofs.YthbajmlmjjfgpaaGreatDoor
