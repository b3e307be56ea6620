/- A part of the proofs. -/
import Derived.ProofKit
import Derived.LaidMore
import Derived.Lay
import Derived.Carry
import Derived.OpenShut
import Derived.SizedLaws
import Derived.ChangeMaps5
import Derived.Lib.SmallJoins
import Derived.Deep.Fields
import Derived.Deep.Slices
import Derived.SliceStrings
import Derived.ChangeSame
import Derived.Stop.Joined
import Derived.Stop.LaidErr
import Derived.Lib.LaidTab
import Derived.Test.YtabmamofnhcgbaaGreatDoorC20
set_option maxRecDepth 1000000
set_option maxHeartbeats 16000000
open Go.Lib (hid)
open Go.Proofs.Tryz
namespace Go.Proofs.YtabmamofnhcgbaaGreatDoor
open Go.RowKit Go.Less
theorem zas(l:List Fs.Item)(i:Int):cnt (yS l) i=Fs.links l i:=by
 unfold cnt yS Fs.links
 rw[List.countP_flatten,List.map_map]
 rfl
theorem zbI{α:Type}{l:List α}{c:α->Nat}(h: ∀y∈l,c y=0):(l.map c).sum=0:=by
 induction l with
 |nil=>rfl
 |cons y l ih=>rw[List.map_cons,List.sum_cons,h y List.mem_cons_self,ih λz hz=>h z (List.mem_cons_of_mem _ hz)]
theorem zee{l:List Fs.Item}(hr:Fs.Rising l){c:Fs.Item->Nat}{k:Int}(h0: ∀y∈l,y.1≠k->c y=0)(h1: ∀y∈l,c y<=1):(l.map c).sum<=1:=by
 induction l with
 |nil=>exact Nat.zero_le _
 | cons y l ih=>
  have hp:=List.pairwise_cons.1 hr
  rw[List.map_cons,List.sum_cons]
  by_cases e:y.1=k
  ·rw[zbI (l:=l) λz hz=>h0 z (List.mem_cons_of_mem _ hz) (λe2=>by have:y.1<z.1:=hp.1 z hz;omega)]
   have:=h1 y List.mem_cons_self
   omega
  ·rw[h0 y List.mem_cons_self e]
   have:=ih hp.2 (λz hz=>h0 z (List.mem_cons_of_mem _ hz)) (λz hz=>h1 z (List.mem_cons_of_mem _ hz))
   omega
theorem za0{es:List En}{i:Int}{n:ByteArray}(hp:es.Pairwise λa b=>a.1≠b.1)(h: ∀e∈es,e.2=i->e.1=n):es.countP (λe=>decide (e.2=i))<=1:=by
 induction es with
 |nil=>exact Nat.zero_le _
 | cons e es ih=>
  have hp2:=List.pairwise_cons.1 hp
  rw[List.countP_cons]
  by_cases he:e.2=i
  ·have hz:es.countP (λe=>decide (e.2=i))=0:=List.countP_eq_zero.2 λz hz hd=>by
    have hd:z.2=i:=by simpa using hd
    exact hp2.1 z hz ((h e List.mem_cons_self he).trans (h z (List.mem_cons_of_mem _ hz) hd).symm)
   rw[hz,if_pos (by simpa using he)]
   exact Nat.le_refl _
  ·rw[if_neg (by simpa using he)]
   exact ih hp2.2 λz hz=>h z (List.mem_cons_of_mem _ hz)
theorem Kp{es:List En}(h:Nd.rises less es=true):es.Pairwise λa b=>a.1≠b.1:=
 ((Nd.rises_iff rising es).1 h).imp λ{a b} hab e=>by rw[e,rising.irr]at hab;cases hab
theorem zal{f:Fs.FS}(H:Fs.Good env f){i:Int}(hi:i≠1)(hd:Fs.isDir f.l i):Fs.links f.l i=1:=by
 obtain⟨x,hx,hk⟩:=hd
 obtain⟨ns,hg⟩:=H.reach hx
 have hex: ∃k n,Fs.step f.l k n=some i:=by
  rcases Gr.snoc_cases ns with rfl|⟨ps,n,rfl⟩
  ·injection hg with hg;exact absurd hg.symm hi
  ·obtain⟨k,_,h2⟩:=Gr.go_snoc.1 hg;exact⟨k,n,h2⟩
 obtain⟨k,n,hs⟩:=hex
 have hne:Fs.links f.l i≠0:=λh=>(H.links_iff env_ok).1 h k n hs
 have hle:Fs.links f.l i<=1:=by
  unfold Fs.links
  refine zee H.inos (k:=k) (λy hy hne=> ?_) (λy hy=> ?_)
  ·refine List.countP_eq_zero.2 λe he hd=>hne ?_
   have hd:e.2=i:=by simpa using hd
   have h1:=H.ent_step env_ok (Fs.node_at H.inos hy) he
   rw[hd]at h1
   exact(H.tree.one ⟨x,hx,hk⟩ h1 hs).1
  ·have hyn:=Fs.node_at H.inos (show(y.1,y.2)∈f.l from hy)
   refine za0 (n:=n) (Kp (H.right hyn).rise) λe he hd=> ?_
   have h1:=H.ent_step env_ok hyn he
   rw[hd]at h1
   exact(H.tree.one ⟨x,hx,hk⟩ h1 hs).2
 omega
theorem J3{f:Fs.FS}(H:Fs.Good env f){i:Int}(hi:i≠1){x:Nd.Node}(hx:Fs.node f.l i=some x):0<Fs.links f.l i:=by
 obtain⟨ns,hg⟩:=H.reach hx
 rcases Gr.snoc_cases ns with rfl|⟨ps,n,rfl⟩
 ·injection hg with hg;exact absurd hg.symm hi
 ·obtain⟨k,_,h2⟩:=Gr.go_snoc.1 hg
  exact Nat.pos_of_ne_zero λh=>(H.links_iff env_ok).1 h k n h2
theorem zbi{f:Fs.FS}(H:Fs.Good env f):qA f.l=true:=by
 unfold qA
 rw[Bool.and_eq_true]
 refine⟨List.all_eq_true.2 λe he=> ?_,List.all_eq_true.2 λi hi=> ?_⟩
 ·obtain⟨es,hes,he⟩:=List.mem_flatten.1 he
  obtain⟨y,hy,rfl⟩:=List.mem_map.1 hes
  exact H.there (H.ent_step env_ok (Fs.node_at H.inos hy) he)
 ·obtain⟨x,hx⟩:=Option.isSome_iff_exists.1 (node_some_iff.2 hi)
  rw[Fs.nodeD_of hx,zas]
  unfold XX
  by_cases h1:i=1
  ·rw[if_pos h1]
   subst h1
   have:Fs.links f.l 1=0:=(H.links_iff env_ok).2 H.tree.root
   rw[this];rfl
  ·rw[if_neg h1]
   by_cases hk:x.kind=2
   ·rw[if_pos hk,zal H h1 ⟨x,hx,hk⟩];rfl
   ·rw[if_neg hk]
    have:=J3 H h1 hx
    exact decide_eq_true (by omega)
theorem Z2{l:List Fs.Item}{k:Nat}: ∀(es:List En) (r:Bool×List Int),r.1=true->(∀e∈es,∀R,(zZ l k e.2 R).1=true/\(∀x∈R,x∈(zZ l k e.2 R).2)/\ ∀ns j,Gr.go (Fs.step l) e.2 ns=some j->j∈(zZ l k e.2 R).2)->
  (es.foldl (vn l k) r).1=true/\(∀x∈r.2,x∈(es.foldl (vn l k) r).2)/\ ∀e∈es,∀ns j,Gr.go (Fs.step l) e.2 ns=some j->j∈(es.foldl (vn l k) r).2
 |[],r,h,_=>⟨h,λ_ hx=>hx,λe he=>by cases he⟩
 |e::es,r,h,hes=>by
  have h1:=hes e List.mem_cons_self r.2
  have hst:vn l k r e=zZ l k e.2 r.2:=by unfold vn;rw[if_pos h]
  rw[List.foldl_cons,hst]
  have h2:=Z2 es (zZ l k e.2 r.2) h1.1 λz hz=>hes z (List.mem_cons_of_mem _ hz)
  refine⟨h2.1,λx hx=>h2.2.1 x (h1.2.1 x hx),λz hz ns j hg=> ?_⟩
  rcases List.mem_cons.1 hz with rfl|hz
  ·exact h2.2.1 j (h1.2.2 ns j hg)
  ·exact h2.2.2 z hz ns j hg
theorem Qc{i x:Int}{R:List Int}(h:x∈R):x∈kL i R:=by
 unfold kL;split
 ·exact h
 ·exact List.mem_cons_of_mem _ h
theorem Uk(i:Int)(R:List Int):i∈kL i R:=by
 unfold kL;split
 ·assumption
 ·exact List.mem_cons_self
theorem JB{f:Fs.FS}(H:Fs.Good env f): ∀(k:Nat) (i:Int) (R:List Int),(∀ns j,Gr.go (Fs.step f.l) i ns=some j->ns.length<=k)->
  (zZ f.l (k+1) i R).1=true/\(∀x∈R,x∈(zZ f.l (k+1) i R).2)/\ ∀ns j,Gr.go (Fs.step f.l) i ns=some j->j∈(zZ f.l (k+1) i R).2:=by
 intro k
 induction k with
 | zero=>
  intro i R hd
  rw[vQ]
  have he:(Fs.nodeD f.l i).ents=[]:=by
   cases hn:Fs.node f.l i with
   |none=>unfold Fs.nodeD;rw[hn];rfl
   | some x=>
    rw[Fs.nodeD_of hn]
    cases hx:x.ents with
    |nil=>rfl
    |cons e es=>
     have h1:=H.ent_step env_ok hn (e:=e) (by rw[hx];exact List.mem_cons_self)
     have:=hd [e.1] e.2 (Gr.go_cons.2 ⟨e.2,h1,rfl⟩)
     simp at this
  rw[he]
  refine⟨rfl,λx hx=>Qc hx,λns j hg=> ?_⟩
  have:=hd ns j hg
  obtain rfl:ns=[]:=List.eq_nil_of_length_eq_zero (by omega)
  injection hg with hg
  subst hg
  exact Uk _ _
 | succ k ih=>
  intro i R hd
  rw[vQ]
  have hes: ∀e∈(Fs.nodeD f.l i).ents,Fs.step f.l i e.1=some e.2:=λe he=>by
   cases hn:Fs.node f.l i with
   |none=>unfold Fs.nodeD at he;rw[hn]at he;cases he
   |some x=>rw[Fs.nodeD_of hn]at he;exact H.ent_step env_ok hn he
  have h:=Z2 (l:=f.l) (k:=k+1) (Fs.nodeD f.l i).ents (true,kL i R) rfl λe he R2=>ih e.2 R2 λns j hg=>by
   have:=hd (e.1::ns) j (Gr.go_cons.2 ⟨e.2,hes e he,hg⟩)
   simpa using this
  refine⟨h.1,λx hx=>h.2.1 x (Qc hx),λns j hg=> ?_⟩
  cases ns with
  |nil=>injection hg with hg;subst hg;exact h.2.1 _ (Uk _ _)
  |cons n ns=>
   obtain⟨c,hs,hg⟩:=Gr.go_cons.1 hg
   obtain⟨x,hx,hf⟩:=Fs.step_iff.1 hs
   have hm:=Nd.find_mem hf
   have:=h.2.2 (n,c) (by rw[Fs.nodeD_of hx];exact hm) ns j hg
   exact this
theorem Jh{f:Fs.FS}(H:Fs.Good env f):uO f.l=true:=by
 have hr:=JB H 8 1 [] λns j hg=>H.tree.deep hg
 have hk:=Fs.dir_iff.1 H.top
 have hA:=zbi H
 have hok:=qf (l:=f.l) (λi e he=>Qn hA (V3 he)) 9 1 [] (node_some_iff.1 (by obtain⟨x,hx,_⟩:=H.top;rw[hx];rfl)) ⟨List.nodup_nil,λx hx=>by cases hx⟩
 have hlen:(zZ f.l 9 1 []).2.length=f.l.length:=by
  refine Nat.le_antisymm hok.len ?_
  have:=qp (uq H.inos) (L:=(zZ f.l 9 1 []).2) λi hi=>by
   obtain⟨x,hx⟩:=Option.isSome_iff_exists.1 (node_some_iff.2 hi)
   obtain⟨ns,hg⟩:=H.reach hx
   exact hr.2.2 ns i hg
  unfold zx at this
  rwa [List.length_map]at this
 unfold uO
 rw[decide_eq_true H.few,decide_eq_true hk,hA,hr.1,decide_eq_true hlen]
 rfl
theorem zcS{l:List Fs.Item}(h:Okl l):(Fs.kv l).map itm=l:=by
 unfold Fs.kv
 rw[List.map_map]
 conv=>rhs;rw[<-List.map_id l]
 refine List.map_congr_left λy hy=> ?_
 show itm (Fs.key y.1,Fs.txt y.2)=y
 unfold itm
 simp only
 rw[XZ (h.pos y hy),js (h.right y hy)]
theorem kv_okp{l:List Fs.Item}(h:Okl l): ∀p∈Fs.kv l,okp p:=λp hp=>by
 unfold Fs.kv at hp
 obtain⟨y,hy,rfl⟩:=List.mem_map.1 hp
 exact⟨by simp only;rw[XZ (h.pos y hy)],by simp only;rw[js (h.right y hy)]⟩
theorem JT(m:Option Nat)(l:List Fs.Item)(w:World)(h:Sv w m l):Calls prog 31 #[T8.pv m] w (Yk (uO l) w):=by
 have:=QP m (Fs.kv l) w h.rp (by rw[Fs.kv_len];exact h.ok.few) (λp hp=>by
  unfold Fs.kv at hp
  obtain⟨y,hy,rfl⟩:=List.mem_map.1 hp
  exact Nat.le_trans (uM (h.ok.right y hy)) (by decide)) (kv_okp h.ok) (by rw[zcS h.ok];exact h.ok.inos)
 rwa [zcS h.ok]at this
end Go.Proofs.YtabmamofnhcgbaaGreatDoor
namespace Go.Proofs.YtabmamofnhcgbaaGreatDoor
open T6
open Go.RowKit Go.Less
attribute [local go_sem 9000] zg zf
theorem jF{fn:Func}{t u:Tmp}(h:fn.results= #[.tmp t,.tmp u])(tmps:Array Value)(P:Program)(w:World):
  (results fn tmps).run P w= .ok (.tuple #[tmps.getD t undef,tmps.getD u undef]) w:=by
 simp[results,h]
def ue(l:List Fs.Item)(p:ByteArray)(off n:Int):List UInt8×Int:=
 if(zu l p).2.2≠0 then([],(zu l p).2.2)else vK (zu l p).2.1.data.data.toList off n
theorem Q4(a:Option Addr)(n c:Nat)(nx:Int)(L:List MI)(p:ByteArray)(off m:Int)(w:World)(hI:Items a n L w)(hn:n<=100000)(hF:Vb (its L))(hp:p.size<=1048576)
  (hd:(zu (its L) p).2.1.data.size<=1000000) (ho:off<=9223372036854775807) (hm:m<=9223372036854775807):
  Calls prog 19 #[fv a n c nx,.string p,.int .i64 off,.int .i64 m] w (Both (ue (its L) p off m) w):=by
 have HFi:=hid (λW (hb:Below w.heap.size w W)=>uf a n c nx L p W (hI.below hb) hn hF hp)
 clear hI hF
 generalize its L=l at*
 go_enter func19,ntmps19
 have hB:=(Below.refl w.heap.size w).alloc (Nat.le_refl _) (.cells #[.slice a n c,.int .i64 nx] 29)
 have hO:=heap_alloc_new w (.cells #[.slice a n c,.int .i64 nx] 29)
 go_wp2_with fail
 generalize w.alloc (.cells #[.slice a n c,.int .i64 nx] 29)=W0 at hB hO|-
 have HB:=hid hB
 clear hB hO
 go_wp2_with fail
 refine(HFi.out W0 HB.out).mono ?_
 obtain⟨r,hr⟩: ∃r,zu l p=r:=⟨_,rfl⟩
 have HR:=hid (show ue l p off m=if r.2.2≠0 then([],r.2.2)else vK r.2.1.data.data.toList off m by unfold ue;rw[hr])
 rw[hr]at hd|-
 clear hr
 obtain⟨i,⟨k,mo,d,t,es⟩,code⟩:=r
 rintro e w1 ⟨ea,ec,rfl,-,hb1⟩
 have HG:=hid (λW=>JA d off m W hd ho hm)
 have HB2:=hid ((HB.out.trans (hb1.mono HB.out.size)).alloc (HB.out.trans (hb1.mono HB.out.size)).size (.cells #[.int .i64 k,.int .i64 mo,.string d,.string t,.slice ea es.length ec] 43))
 have HO2:=hid (heap_alloc_new w1 (.cells #[.int .i64 k,.int .i64 mo,.string d,.string t,.slice ea es.length ec] 43))
 clear hb1 HB hd ho hm
 dsimp only
 by_cases hc:code=0
 ·subst hc
  have HR2:=hid (show ue l p off m=vK d.data.toList off m by rw[HR.out,if_neg (by simp)])
  clear HR
  go_wp2_with fail
  generalize w1.alloc (.cells #[.int .i64 k,.int .i64 mo,.string d,.string t,.slice ea es.length ec] 43)=W2 at HB2 HO2|-
  go_wp2_with fail
  refine(HG.out W2).mono ?_
  rintro e w3 ⟨rfl,hb3⟩
  dsimp only
  go_wp2_with fail
  refine bodyPost_ret (jF rfl _ _ _) rfl ⟨?_,HB2.out.trans (hb3.mono HB2.out.size)⟩
  rw[HR2.out];rfl
 ·have HR2:=hid (show ue l p off m=([],code) by rw[HR.out,if_pos hc])
  clear HR
  go_wp2_with fail
  refine bodyPost_ret (jF rfl _ _ _) rfl ⟨?_,HB2.out⟩
  rw[HR2.out];rfl
end Go.Proofs.YtabmamofnhcgbaaGreatDoor
namespace Go.Proofs.YtabmamofnhcgbaaGreatDoor
open T6
open Go.RowKit Go.Less
open T8 (pv Dg Rp vA yx nm cn)
attribute [local go_sem 9000] zg zf
def Fo(w:World)(g:Nat)(f:Fs.FS):Prop:= ∃m,w.heap[g]?=some (.cells #[pv m,.int .i64 f.next] 101 (0,0))/\Sv w m f.l
theorem Fo.below{w w':World}{g:Nat}{f:Fs.FS}(h:Fo w g f)(hb:Below w.heap.size w w'):Fo w' g f:=by
 obtain⟨m,h1,h2⟩:=h;exact⟨m,(hb.block _ (lt_of_obj h1)).trans h1,h2.below hb⟩
theorem Fo.lt{w:World}{g:Nat}{f:Fs.FS}(h:Fo w g f):g<w.heap.size:=by obtain⟨m,h1,_⟩:=h;exact lt_of_obj h1
abbrev ptg(g:Nat):Value:= .pointer (some ⟨g,0,none⟩)
theorem qh{g:Nat}{f:Fs.FS}{w:World}(h:Fo w g f)(p:ByteArray)(hp:p.size<=140737488355328):Calls prog 16 #[ptg g,.string p] w (zU (zF f.l p) w):=by
 obtain⟨m,hg,hS⟩:=h
 obtain⟨l,nx⟩:=f
 dsimp only at hg hS|-
 have HG:=hid hg
 have HF:=hid (λW (hb:Below w.heap.size w W)=>xh m nx l p W (hS.below hb) hp)
 obtain⟨⟨i,⟨k,mo,d,t,es⟩,code⟩,hr⟩: ∃r,zF l p=r:=⟨_,rfl⟩
 rw[hr]at HF|-
 clear hg hS hr
 have HB:=hid (show Bxs w [(w.heap.size,#[.int .i64 0,.int .i64 0,.string ⟨#[]⟩,.string ⟨#[]⟩,.slice none 0 0],43)] (w.alloc (.cells #[.int .i64 0,.int .i64 0,.string ⟨#[]⟩,.string ⟨#[]⟩,.slice none 0 0] 43))from Bxs.one w _ _)
 have hgW:=(HB.out.below.block _ (lt_of_obj HG.out)).trans HG.out
 have g0:=zn hgW
 clear hgW
 go_enter func16,ntmps16
 go_wp2_with fail
 clear g0
 generalize w.alloc (.cells #[.int .i64 0,.int .i64 0,.string ⟨#[]⟩,.string ⟨#[]⟩,.slice none 0 0] 43)=W0 at HB|-
 refine(HF.out W0 HB.out.below).mono ?_
 rintro e w1 ⟨a,c,rfl,hE,hb⟩
 have HEn:=hid hE
 clear hE
 have HB:=hid (HB.out.kept hb)
 dsimp only
 go_wp2_with (first|(refine zb HB.out 0 rfl 43 _ _ rfl rfl #[.int .i64 k,.int .i64 mo,.string d,.string t,.slice a es.length c] rfl rfl (by kernel_rfl) rfl rfl (by decide) (by decide) ?_;intro w2 hS hK hbS hsS;have HBS:=hid hS;have HEn:=hid (hK.ents (HB.out.obj 0 rfl) (jt _ _ _ _ _ _ _) HEn.out);clear hS hK hbS hsS;have HB:=HBS;clear HBS)|fail)
 refine bodyPost_ret_by (zE rfl _ _ w.heap.size _ _ _ _ _ rfl (HB.out.obj 0 rfl)) rfl ?_
 exact⟨a,c,rfl,HEn.out,HB.out.below⟩
theorem qg{g:Nat}{f:Fs.FS}{w:World}(h:Fo w g f):Calls prog 44 #[ptg g] w (Yl (zx f.l) w):=by
 obtain⟨m,hg,hS⟩:=h
 obtain⟨l,nx⟩:=f
 dsimp only at hg hS|-
 have HF:=hid (Um m nx l w hS)
 have g0:=zn hg
 clear hg hS
 go_enter func44,ntmps44
 go_wp2_with fail
 refine HF.out.mono ?_
 rintro e w1 ⟨ao,cap,rfl,hrow,hb⟩
 have HX:=hid (And.intro hrow hb)
 clear hrow hb g0
 dsimp only
 go_wp2_with fail
 go_ret
 exact⟨ao,cap,rfl,HX.out.1,HX.out.2⟩
theorem jq{g:Nat}{f:Fs.FS}{w:World}(h:Fo w g f):Calls prog 15 #[ptg g] w λe w'=>e= .returned (.int .i64 f.next)/\w'=w:=by
 obtain⟨m,hg,hS⟩:=h
 obtain⟨l,nx⟩:=f
 dsimp only at hg hS|-
 have g1:w.cell? ⟨g,1,none⟩=some (.int .i64 nx):=cell_obj hg 1
 clear hg hS
 go_enter func15,ntmps15
 go_wp2_with fail
 go_ret
 exact⟨rfl,rfl⟩
def Mapp(l:List Fs.Item)(w:World)(e:Ending)(w':World):Prop:= ∃m,e= .returned (pv m)/\Sv w' m l/\w'=w
theorem uT{g:Nat}{f:Fs.FS}{w:World}(h:Fo w g f):Calls prog 23 #[ptg g] w (Mapp f.l w):=by
 obtain⟨m,hg,hS⟩:=h
 obtain⟨l,nx⟩:=f
 dsimp only at hg hS|-
 have g0:w.cell? ⟨g,0,none⟩=some (pv m):=cell_obj hg 0
 have HS:=hid hS
 clear hg hS
 go_enter func23,ntmps23
 go_wp2_with fail
 go_ret
 exact⟨m,rfl,HS.out,rfl⟩
def zd4(f:Fs.FS)(w:World)(e:Ending)(w':World):Prop:= ∃g,e= .returned (ptg g)/\Fo w' g f/\w.heap.size<=g/\Below w.heap.size w w'
theorem qi{g:Nat}{f:Fs.FS}{w:World}(h:Fo w g f):Calls prog 86 #[ptg g] w (zd4 f w):=by
 obtain⟨m,hg,hS⟩:=h
 obtain⟨l,nx⟩:=f
 dsimp only at hg hS|-
 have g0:=zn hg
 have HS:=hid hS
 clear hg hS
 go_enter func86,ntmps86
 go_wp2_with fail
 go_ret
 exact⟨_,rfl,⟨m,heap_alloc_new _ _,HS.out.below (below_one _ _)⟩,Nat.le_refl _,below_one _ _⟩
theorem ku(w:World)(hD:Dg w):Calls prog 9 #[] w (zd4 Fs.new w):=by
 have hS0:Sv w none []:=⟨T8.rp_nil w,⟨List.Pairwise.nil,λy hy=>absurd hy List.not_mem_nil,λy hy=>absurd hy List.not_mem_nil,Nat.zero_le _⟩,hD⟩
 have hRx:Nd.Right less Nm.right (⟨2,493,⟨#[]⟩,⟨#[]⟩,[]⟩:Nd.Node):=(Fs.new_good (E:=env)).right (i:=1) rfl
 have HB:=hid (below_one w (.cells #[.pointer none,.int .i64 2] 98))
 have HW:=hid (vz none 2 [] 1 ⟨2,493,⟨#[]⟩,⟨#[]⟩,[]⟩ none 0 _ (hS0.below HB.out) (zs _) hRx (by decide) (.inr λy hy=>absurd hy List.not_mem_nil) (Nat.zero_le _))
 clear hS0 hRx
 unfold nv at HW
 dsimp only[List.length_nil]at HW
 have hcell0:(w.alloc (.cells #[.pointer none,.int .i64 2] 98)).cell? ⟨w.heap.size,0,none⟩=some (.pointer none):=World.cell?_alloc_new _ _ _ _
 have hcell1:(w.alloc (.cells #[.pointer none,.int .i64 2] 98)).cell? ⟨w.heap.size,1,none⟩=some (.int .i64 2):=World.cell?_alloc_new _ _ _ _
 go_enter func9,ntmps9
 go_wp2_with fail
 refine HW.out.mono ?_
 rintro e w2 ⟨m2,rfl,hS,hb⟩
 have HS:=hid hS
 have HB2:=hid (HB.out.trans (hb.mono HB.out.size))
 clear hS hb hcell0 hcell1
 dsimp only
 go_wp2_with fail
 go_ret
 exact⟨_,rfl,⟨m2,heap_alloc_new _ _,HS.out.below (below_one _ _)⟩,HB2.out.size,HB2.out.trans ((below_one _ _).mono HB2.out.size)⟩
theorem Y1{g:Nat}{f:Fs.FS}{w:World}(h:Fo w g f)(G:Fs.Half env f)(p:ByteArray)(off n:Int)(hp:p.size<=140737488355328)(ho:off<=9223372036854775807)(hn:n<=9223372036854775807):Calls prog 18 #[ptg g,.string p,.int .i64 off,.int .i64 n] w (Both (ue f.l p off n) w):=by
 obtain⟨m,hg,hS⟩:=h
 obtain⟨l,nx⟩:=f
 dsimp only at hg hS|-
 have HF:=hid (qo m nx l p w hS hp (λi x hx=>ZP G hx))
 have hds:(zu l p).2.1.data.size<=4096:=by
  unfold zu
  split
  ·rename_i h1
   rcases yH l p with ⟨e,hne,hf⟩|⟨ns,j,hs,hw,hf⟩
   ·rw[hf];exact Nat.zero_le _
   ·rw[hf]at h1;exact absurd rfl h1
  ·rename_i h1
   split
   ·decide
   ·split
    ·decide
    ·rcases yH l p with ⟨e,hne,hf⟩|⟨ns,j,hs,hw,hf⟩
     ·rw[hf];exact Nat.zero_le _
     ·rw[hf]
      obtain⟨y,hy,hyD⟩:=G.walk_node hw
      show(Fs.nodeD l j).data.size<=4096
      rw[hyD]
      exact jy (G.right hy)
 have HR:=hid (show ue l p off n=if(zu l p).2.2≠0 then([],(zu l p).2.2)else vK (zu l p).2.1.data.data.toList off n from rfl)
 obtain⟨⟨i,⟨k,mo,d,t,es⟩,code⟩,hr⟩: ∃r,zu l p=r:=⟨_,rfl⟩
 rw[hr]at HF HR hds
 dsimp only at HF HR hds
 have HGt:=hid (λW=>zeW d off n W (Nat.le_trans hds (by decide)) ho hn)
 have g0:=zn hg
 clear hg hS hr G ho hn hds
 by_cases hc:code=0
 ·subst hc
  have HR2:=hid (show ue l p off n=vK d.data.toList off n by rw[HR.out,if_neg (by simp)])
  clear HR
  go_enter func18,ntmps18
  go_wp2_with fail
  refine HF.out.mono ?_
  rintro e w1 ⟨ea,ec,rfl,-,hb⟩
  have HB:=hid (hb.trans ((below_one w1 (.cells #[.int .i64 k,.int .i64 mo,.string d,.string t,.slice ea es.length ec] 43)).mono hb.size))
  clear hb g0
  dsimp only
  go_wp2_with fail
  refine(HGt.out _).mono ?_
  rintro e w2 ⟨rfl,hb2⟩
  have HB2:=hid (HB.out.trans (hb2.mono HB.out.size))
  clear hb2
  dsimp only
  go_wp2_with fail
  go_ret2
  show Both (ue l p off n) w _ _
  rw[HR2.out]
  exact⟨rfl,HB2.out⟩
 ·have HR2:=hid (show ue l p off n=([],code) by rw[HR.out,if_pos hc])
  clear HR
  go_enter func18,ntmps18
  go_wp2_with fail
  refine HF.out.mono ?_
  rintro e w1 ⟨ea,ec,rfl,-,hb⟩
  have HB:=hid (hb.trans ((below_one w1 (.cells #[.int .i64 k,.int .i64 mo,.string d,.string t,.slice ea es.length ec] 43)).mono hb.size))
  clear hb g0
  dsimp only
  go_wp2_with fail
  go_ret2
  show Both (ue l p off n) w _ _
  rw[HR2.out]
  exact⟨rfl,HB.out⟩
def nmf(l:List Fs.Item):ByteArray:=nm (cn (Fs.kv l))
theorem vy{m:Option Nat}{l:List Fs.Item}{w:World}(h:Sv w m l):Calls prog 24 #[pv m] w λe w'=>e= .returned (.string (nmf l))/\Below w.heap.size w w':=vA h.rp
end Go.Proofs.YtabmamofnhcgbaaGreatDoor
namespace Go.Proofs.YtabmamofnhcgbaaGreatDoor
open Go.RowKit Go.Less Go.Maps
open T8 (pv Dg)
attribute [local go_sem 9000] zg zf
def op0:Fs.Op:=⟨0,ByteArray.empty,ByteArray.empty,0,0,0,ByteArray.empty⟩
structure Opr (a:Option Addr) (n:Nat) (l:List Fs.Op) (w:World):Prop where
 count:n=l.length
 cell: ∀i,i<n-> ∃b off,a=some ⟨b,off,none⟩/\ ∀j v,(ocs (l.getD i op0))[j]?=some v->w.cell? ⟨b,off+i*7+j,none⟩=some v
 ok: ∀o∈l,OpOk o
theorem Opr.below{a:Option Addr}{n:Nat}{l:List Fs.Op}{w w':World}(h:Opr a n l w)(hb:Below w.heap.size w w'):Opr a n l w':=
 ⟨h.count,λi hi=>by
  obtain⟨b,off,ha,hc⟩:=h.cell i hi
  exact⟨b,off,ha,λj v hv=>(hb.cell (p:=⟨b,off+i*7+j,none⟩) (block_lt_of_cell (hc j v hv))).trans (hc j v hv)⟩,h.ok⟩
def fwt(o:Fs.Op):Nat:=1+(min o.a.size 10000+min o.b.size 10000+min o.data.size 10000)/100
def j2(l:List Fs.Op):Nat:=(l.map fwt).sum
def kO(l:List Fs.Op):Bool:=decide (j2 l<=120)
theorem zaJ{l:List Fs.Op}{k:Nat}(h:k<l.length):j2 (l.take (k+1))=j2 (l.take k)+fwt (l.getD k op0):=by
 unfold j2
 rw[List.take_succ_eq_append_getElem h,List.map_append,List.sum_append,List.getD,List.getElem?_eq_getElem h]
 simp
theorem zeX(l:List Fs.Op)(k:Nat):j2 (l.take k)<=j2 l:=by
 conv=>rhs;rw[<-List.take_append_drop k l]
 unfold j2
 rw[List.map_append,List.sum_append]
 omega
theorem zdj(l:List Fs.Op):l.length<=j2 l:=by
 unfold j2
 induction l with
 |nil=>exact Nat.zero_le _
 |cons o l ih=>rw[List.map_cons,List.sum_cons,List.length_cons];have h1:1<=fwt o:=Nat.le_add_right _ _;omega
theorem Qd{l:List Fs.Op}(h:kO l=true):l.length<=120:=by
 unfold kO at h
 have:=zdj l
 have h:j2 l<=120:=by simpa using h
 omega
theorem Qe(a:Option Addr)(n cap:Nat)(l:List Fs.Op)(w:World)(hS:Opr a n l w)(hn:n<=140737488355328):
  Calls prog 8 #[.slice a n cap] w λe w'=>e= .returned (.bool (kO l))/\Below w.heap.size w w':=by
 have hni:(n:Int)<=140737488355328:=by omega
 have HS:=hid (λW (hb:Below w.heap.size w W)=>hS.below hb)
 have HN:=hid hS.count
 clear hS
 go_enter func8,ntmps8
 go_wp2_with fail
 go_loopw [3,4] (λx3 x4 wr=> ∃k:Nat,k<=n/\x4= .int .i64 k/\x3= .int .i64 (j2 (l.take k))/\j2 (l.take k)<=120/\Below w.heap.size w wr) (λ_ x4 _=>n-(intOf x4).toNat)
 case atStart=>exact⟨0,Nat.zero_le _,rfl,rfl,Nat.zero_le _,Below.refl _ _⟩
 case round=>
  obtain⟨k,hk,rfl,rfl,hf,hB⟩:=hrel
  by_cases hlt:k<n
  ·have k0:(k:Int)<(n:Int):=by omega
   have hk0:(0:Int)<=(k:Int):=by omega
   have hkl:k<l.length:=by rw[<-HN.out];exact hlt
   obtain⟨b,off,rfl,hc⟩:=(HS.out wr hB).cell k hlt
   have HM:=hid (zaJ hkl)
   have HBg:=hid (λ(h: ¬ j2 (l.take (k+1))<=120)=>(show kO l=false from by unfold kO;rw[decide_eq_false];have:=zeX l (k+1);omega))
   have c1:wr.cell? ⟨b,off+k*7+1,none⟩=some (.string (l.getD k op0).a):=hc 1 _ rfl
   have c2:wr.cell? ⟨b,off+k*7+2,none⟩=some (.string (l.getD k op0).b):=hc 2 _ rfl
   have c6:wr.cell? ⟨b,off+k*7+6,none⟩=some (.string (l.getD k op0).data):=hc 6 _ rfl
   have HB:=hid hB
   clear hc hB
   unfold fwt at HM
   generalize l.getD k op0=o at*
   obtain⟨okd,oa,ob,oo,og,on,od⟩:=o
   dsimp only at c1 c2 c6 HM
   generalize j2 (l.take k)=N at*
   obtain⟨T,hT⟩: ∃T,T=(min oa.size 10000+min ob.size 10000+min od.size 10000)/100:=⟨_,rfl⟩
   rw[<-hT]at HM
   have hT3:T<=300:=by omega
   have hq1:IntKind.i64.wrap (min (oa.size:Int) 10000+min (ob.size:Int) 10000)=min (oa.size:Int) 10000+min (ob.size:Int) 10000:=IntWalk.i64_in _ (by omega)
   have hq2:IntKind.i64.wrap (min (oa.size:Int) 10000+min (ob.size:Int) 10000+min (od.size:Int) 10000)=min (oa.size:Int) 10000+min (ob.size:Int) 10000+min (od.size:Int) 10000:=IntWalk.i64_in _ (by omega)
   have hq3:(min (oa.size:Int) 10000+min (ob.size:Int) 10000+min (od.size:Int) 10000).tdiv 100=(T:Int):=by
    rw[Int.tdiv_eq_ediv_of_nonneg (by omega)]
    omega
   have hq4:IntKind.i64.wrap (T:Int)=(T:Int):=IntWalk.i64_in _ (by omega)
   have hq5:IntKind.i64.wrap ((N:Int)+1)=(N:Int)+1:=IntWalk.i64_in _ (by omega)
   have hq6:IntKind.i64.wrap ((N:Int)+1+(T:Int))=(N:Int)+1+(T:Int):=IntWalk.i64_in _ (by omega)
   have HV:=hid (show(Value.int .i64 ((N:Int)+1+(T:Int)))= .int .i64 (j2 (l.take (k+1)):Nat) by rw[HM.out,show((N+(1+T):Nat):Int)=(N:Int)+1+(T:Int) by omega])
   clear hT
   go_wp2_with fail
   go_region_held3 (λW=>W.cell? ⟨b,off+k*7+1,none⟩=some (.string oa)/\W.cell? ⟨b,off+k*7+2,none⟩=some (.string ob)/\W.cell? ⟨b,off+k*7+6,none⟩=some (.string od))
    (first|exact⟨c1,c2,c6⟩) (fail)
   all_goals
    by_cases h120:N+(1+T)<=120
    ·have hi: ¬ (120:Int)<(N:Int)+1+(T:Int):=by omega
     go_wp2_with fail
     go_roundw
     case rel=>exact⟨k+1,by omega,by go_num,HV.out,by rw[HM.out];exact h120,HB.out.drew⟩
     case measure=>simp[intOf];omega
    ·have hi:(120:Int)<(N:Int)+1+(T:Int):=by omega
     have HR:=hid (HBg.out (by rw[HM.out];exact h120))
     go_wp2_with fail
     go_ret
     rw[HR.out]
     exact⟨rfl,HB.out.drew⟩
  ·obtain rfl:k=n:=by omega
   have HB:=hid hB
   have HR:=hid (show kO l=true by unfold kO;have h:=hf;rw[HN.out,List.take_length]at h;exact decide_eq_true h)
   clear hB
   go_wp2_with fail
   go_ret
   rw[HR.out]
   exact⟨rfl,HB.out⟩
theorem UD{f:Fs.FS}(G:Fs.Good env f)(hb:f.next<=2147483646)(o:Fs.Op):Fs.Good env (Fs.doE env f o).1/\(Fs.doE env f o).1.next<=f.next+1:=by
 unfold Fs.doE
 cases ha:Fs.act env f o with
 |error e=>exact⟨G,by show f.next<=f.next+1;omega⟩
 |ok g=>
  obtain⟨h1,h2⟩:=Fs.act_good env_ok G (by omega) ha
  refine⟨h1, ?_⟩
  show g.next<=f.next+1
  omega
theorem zy{g:Nat}{w0 w w':World}(h:Below w0.heap.size w0 w)(ht:Turn g w w')(hg:w0.heap.size<=g):Below w0.heap.size w0 w':=
 ⟨ht.os.trans h.os,ht.tape.trans h.tape,ht.output.trans h.output,Nat.le_trans h.size ht.size,λk hk=>(ht.block k (Nat.lt_of_lt_of_le hk h.size) (by omega)).trans (h.block k hk)⟩
theorem Turn.of_below{g:Nat}{w w':World}(h:Below w.heap.size w w'):Turn g w w':=(Turn.refl g w).below h
def zbr(f:Fs.FS)(o:Fs.Op)(g:Nat)(w:World)(e:Ending)(w':World):Prop:=e= .returned (.int .i64 (Fs.doE env f o).2)/\Fo w' g (Fs.doE env f o).1/\Turn g w w'/\ ∀c,Fs.act env f o= .error c->c≠0
theorem Zd{g:Nat}{f:Fs.FS}{w:World}(h:Fo w g f)(G:Fs.Good env f)(hb:f.next<=2147483646){o:Fs.Op}(hO:OpOk o):Calls prog 12 #[ptg g,ovp o] w (zbr f o g w):=by
 have hF:=h
 obtain⟨m,hg,hS⟩:=h
 refine(zey g m f.next f.l o w hS hg G.toHalf hb hO).mono ?_
 intro e w' hd
 unfold zbr Fs.doE
 unfold jj at hd
 cases ha:Fs.act env ⟨f.l,f.next⟩ o with
 |error c=>
  rw[ha]at hd
  obtain⟨h0,h1,h2⟩:=hd
  exact⟨h1,hF.below h2,Turn.of_below h2,λc2 h3=>by injection h3 with h3;rw[<-h3];exact h0⟩
 |ok g2=>
  rw[ha]at hd
  obtain⟨h1,m2,h2,h3,h4⟩:=hd
  exact⟨h1,⟨m2,h2,h3⟩,h4,λc2 h5=>by cases h5⟩
def yz(f:Fs.FS)(l:List Fs.Op):Fs.FS:=l.foldl (λf o=>(Fs.doE env f o).1) f
theorem j8{f:Fs.FS}{l:List Fs.Op}{k:Nat}(h:k<l.length):yz f (l.take (k+1))=(Fs.doE env (yz f (l.take k)) (l.getD k op0)).1:=by
 unfold yz
 rw[List.take_succ_eq_append_getElem h,List.foldl_append,List.getD,List.getElem?_eq_getElem h]
 rfl
theorem Z9{f:Fs.FS}(G:Fs.Good env f): ∀(l:List Fs.Op),f.next+l.length<=2147483646->Fs.Good env (yz f l)/\(yz f l).next<=f.next+l.length:=by
 intro l
 induction l generalizing f with
 |nil=>intro _;exact⟨G,by show f.next<=f.next+((0:Nat):Int);omega⟩
 |cons o l ih=>
  intro h
  rw[List.length_cons]at h|-
  have h1:=UD G (by omega) o
  have h2:=ih h1.1 (by omega)
  exact⟨h2.1,by show(yz (Fs.doE env f o).1 l).next<=_;omega⟩
theorem qx{l:List Fs.Op}(h:l.length<=1000)(k:Nat):Fs.Good env (yz Fs.new (l.take k))/\(yz Fs.new (l.take k)).next<=1002:=by
 have hl:(l.take k).length<=1000:=by rw[List.length_take];omega
 have:=Z9 (Fs.new_good (E:=env)) (l.take k) (by show(2:Int)+_<=_;omega)
 exact⟨this.1,by have h3:Fs.new.next=2:=rfl;omega⟩
theorem UC{l:List Fs.Op}(h:l.length<=1000):Fs.Good env (yz Fs.new l)/\(yz Fs.new l).next<=1002:=by
 have:=qx h l.length
 rwa [List.take_length]at this
theorem ZN{o:Fs.Op}{w:World}{b p:Nat}(h: ∀j v,(ocs o)[j]?=some v->w.cell? ⟨b,p+j,none⟩=some v):w.cell? ⟨b,p,none⟩=some (.int .i64 o.kind)/\w.cell? ⟨b,p+1,none⟩=some (.string o.a)/\w.cell? ⟨b,p+2,none⟩=some (.string o.b)/\w.cell? ⟨b,p+3,none⟩=some (.int .i64 o.off)/\w.cell? ⟨b,p+4,none⟩=some (.int .i64 o.from_)/\w.cell? ⟨b,p+5,none⟩=some (.int .i64 o.n)/\w.cell? ⟨b,p+6,none⟩=some (.string o.data):=
 ⟨h 0 _ rfl,h 1 _ rfl,h 2 _ rfl,h 3 _ rfl,h 4 _ rfl,h 5 _ rfl,h 6 _ rfl⟩
theorem zdr(a:Option Addr)(n cap:Nat)(l:List Fs.Op)(w:World)(hS:Opr a n l w)(hn:n<=1000)(hD:Dg w):Calls prog 43 #[.slice a n cap] w (zd4 (yz Fs.new l) w):=by
 have hni:(n:Int)<=1000:=by omega
 have HS:=hid (λW (hb:Below w.heap.size w W)=>hS.below hb)
 have HN:=hid hS.count
 have HOk:=hid hS.ok
 have HNew:=hid (ku w hD)
 have hln:l.length<=1000:=by rw[<-hS.count];exact hn
 have HG:=hid (λk=>qx hln k)
 clear hS hD
 go_enter func43,ntmps43
 go_wp2_with fail
 refine HNew.out.mono ?_
 rintro e w1 ⟨g,rfl,hF,hg,hb⟩
 have HF:=hid hF
 have HGe:=hid hg
 have HB:=hid hb
 clear hF hg hb HNew
 dsimp only
 go_wp2_with fail
 go_loopw [4] (λx4 wr=> ∃k:Nat,k<=n/\x4= .int .i64 k/\Fo wr g (yz Fs.new (l.take k))/\Below w.heap.size w wr) (λx4 _=>n-(intOf x4).toNat)
 case atStart=>exact⟨0,Nat.zero_le _,rfl,HF.out,HB.out⟩
 case round=>
  clear HF HB
  obtain⟨k,hk,rfl,hF,hB⟩:=hrel
  have HF:=hid hF
  have HB:=hid hB
  clear hF hB
  by_cases hlt:k<n
  ·have k0:(k:Int)<(n:Int):=by omega
   have hk0:(0:Int)<=(k:Int):=by omega
   have hkl:k<l.length:=by rw[<-HN.out];exact hlt
   obtain⟨b,off,rfl,hc⟩:=(HS.out wr HB.out).cell k hlt
   have HM:=hid (j8 (f:=Fs.new) hkl)
   have hok:=HOk.out (l.getD k op0) (by rw[List.getD,List.getElem?_eq_getElem hkl];exact List.getElem_mem hkl)
   have hGk:=HG.out k
   have HDo:=hid (Zd HF.out hGk.1 (by omega) hok)
   obtain⟨c0,c1,c2,c3,c4,c5,c6⟩:=ZN hc
   clear hc hok hGk
   unfold zbr at HDo
   generalize l.getD k op0=o at*
   obtain⟨okd,oa,ob,oo,og,on,od⟩:=o
   dsimp only at c0 c1 c2 c3 c4 c5 c6 HDo
   go_wp2_with fail
   refine HDo.out.mono ?_
   rintro e w2 ⟨rfl,hF2,hT2,-⟩
   have HX:=hid (And.intro hF2 (zy HB.out hT2 HGe.out))
   clear hF2 hT2 c0 c1 c2 c3 c4 c5 c6
   dsimp only
   go_wp2_with fail
   go_roundw
   case rel=>exact⟨k+1,by omega,by go_num,by rw[HM.out];exact HX.out.1,HX.out.2⟩
   case measure=>simp[intOf];omega
  ·obtain rfl:k=n:=by omega
   have hge: ¬ ((k:Int)<(k:Int)):=by omega
   go_wp2_with fail
   go_ret
   exact⟨g,rfl,by have:=HF.out;rwa [HN.out,List.take_length]at this,HGe.out,HB.out⟩
def tA:ByteArray:=⟨#[47,97]⟩
def tB:ByteArray:=⟨#[47,98]⟩
def awO1:Fs.Op:=⟨1,tA,⟨#[]⟩,0,0,420,⟨#[]⟩⟩
def awO2:Fs.Op:=⟨8,tA,⟨#[]⟩,1,0,0,⟨#[120]⟩⟩
def awO3:Fs.Op:=⟨4,tA,tB,0,0,0,⟨#[]⟩⟩
def awO4:Fs.Op:=⟨5,tA,⟨#[]⟩,0,0,0,⟨#[]⟩⟩
def awO5:Fs.Op:=⟨0,⟨#[]⟩,⟨#[]⟩,0,0,0,⟨#[]⟩⟩
def awN(s:ByteArray):Nd.Node:=⟨1,420,s,⟨#[]⟩,[]⟩
def awD(es:List En):Nd.Node:=⟨2,493,⟨#[]⟩,⟨#[]⟩,es⟩
def nA:ByteArray:=⟨#[97]⟩
def nB:ByteArray:=⟨#[98]⟩
def aw1:Fs.FS:=⟨[(1,awD [(nA,2)]),(2,awN ⟨#[]⟩)],3⟩
def aw2:Fs.FS:=⟨[(1,awD [(nA,2)]),(2,awN ⟨#[0,120]⟩)],3⟩
def aw3:Fs.FS:=⟨[(1,awD [(nA,2),(nB,2)]),(2,awN ⟨#[0,120]⟩)],3⟩
def aw4:Fs.FS:=⟨[(1,awD [(nB,2)]),(2,awN ⟨#[0,120]⟩)],3⟩
theorem Xe{f g:Fs.FS}{c d:Int}(h1:f.l=g.l)(h2:f.next=g.next)(h3:c=d):(f,c)=(g,d):=by
 obtain⟨fl,fn⟩:=f
 obtain⟨gl,gn⟩:=g
 dsimp only at h1 h2
 rw[h1,h2,h3]
theorem is1:Fs.doE env Fs.new awO1=(aw1,0):=Xe (by decide+kernel) (by decide+kernel) (by decide+kernel)
theorem is2:Fs.doE env aw1 awO2=(aw2,0):=Xe (by decide+kernel) (by decide+kernel) (by decide+kernel)
theorem is3:Fs.doE env aw2 awO3=(aw3,0):=Xe (by decide+kernel) (by decide+kernel) (by decide+kernel)
theorem is4:Fs.doE env aw3 awO4=(aw4,0):=Xe (by decide+kernel) (by decide+kernel) (by decide+kernel)
theorem is5:Fs.doE env aw4 awO5=(aw4,16):=Xe (by decide+kernel) (by decide+kernel) (by decide+kernel)
theorem isB:zF aw4.l tB=(2,awN ⟨#[0,120]⟩,0):=by decide+kernel
theorem isA:zF aw4.l tA=(0,Nd.none0,4):=by decide+kernel
theorem isR:ue aw4.l tB 0 9=([0,120],0):=by decide+kernel
theorem did{g:Nat}{f f2:Fs.FS}{c:Int}{w:World}(h:Fo w g f)(G:Fs.Good env f)(hb:f.next<=2147483646){o:Fs.Op}(hO:OpOk o)(he:Fs.doE env f o=(f2,c)):Calls prog 12 #[ptg g,ovp o] w λe w'=>e= .returned (.int .i64 c)/\Fo w' g f2/\Turn g w w':=by
 have:=Zd h G hb hO
 unfold zbr at this
 rw[he]at this
 exact this.mono λe w' h=>⟨h.1,h.2.1,h.2.2.1⟩
theorem jx{f f2:Fs.FS}{c:Int}{o:Fs.Op}(G:Fs.Good env f)(hb:f.next<=2147483646)(he:Fs.doE env f o=(f2,c)):Fs.Good env f2:=by
 have:=(UD G hb o).1
 rw[he]at this
 exact this
theorem g1:Fs.Good env aw1:=jx Fs.new_good (by decide) is1
theorem g2:Fs.Good env aw2:=jx g1 (by decide) is2
theorem g3:Fs.Good env aw3:=jx g2 (by decide) is3
theorem g4:Fs.Good env aw4:=jx g3 (by decide) is4
theorem ug{o:Fs.Op}(hk:0<=o.kind/\o.kind<=100)(ha:o.a.size<=100)(hb:o.b.size<=100)(hd:o.data.size<=100)(h1:o.off<=100)(h2:o.from_<=100)(h3:o.n<=1000):OpOk o:=
 ⟨WalkArith.wf_i64 (by omega),by omega,by omega,by omega,by omega,by omega,by omega⟩
theorem zbh(w:World)(hD:Dg w):Calls prog 7 #[] w λe w'=>e= .returned (.bool true)/\Below w.heap.size w w':=by
 have HNew:=hid (ku w hD)
 have D1:=hid (λg W (h:Fo W g Fs.new)=>did h Fs.new_good (by decide) (ug (o:=awO1) (by decide) (by decide) (by decide) (by decide) (by decide) (by decide) (by decide)) is1)
 have D2:=hid (λg W (h:Fo W g aw1)=>did h g1 (by decide) (ug (o:=awO2) (by decide) (by decide) (by decide) (by decide) (by decide) (by decide) (by decide)) is2)
 have D3:=hid (λg W (h:Fo W g aw2)=>did h g2 (by decide) (ug (o:=awO3) (by decide) (by decide) (by decide) (by decide) (by decide) (by decide) (by decide)) is3)
 have D4:=hid (λg W (h:Fo W g aw3)=>did h g3 (by decide) (ug (o:=awO4) (by decide) (by decide) (by decide) (by decide) (by decide) (by decide) (by decide)) is4)
 have D5:=hid (λg W (h:Fo W g aw4)=>did h g4 (by decide) (ug (o:=awO5) (by decide) (by decide) (by decide) (by decide) (by decide) (by decide) (by decide)) is5)
 have FB:=hid (λg W (h:Fo W g aw4)=>(show Calls prog 16 #[ptg g,.string tB] W (zU (2,awN ⟨#[0,120]⟩,0) W)from isB▸qh h tB (by decide)))
 have FA:=hid (λg W (h:Fo W g aw4)=>(show Calls prog 16 #[ptg g,.string tA] W (zU (0,(⟨0,0,⟨#[]⟩,⟨#[]⟩,[]⟩:Nd.Node),4) W)from(show Calls prog 16 #[ptg g,.string tA] W (zU (0,Nd.none0,4) W)from isA▸qh h tA (by decide))))
 have FR:=hid (λg W (h:Fo W g aw4)=>(show Calls prog 18 #[ptg g,.string tB,.int .i64 0,.int .i64 9] W (λe w'=>e= .returned (.tuple #[.string ⟨#[0,120]⟩,.int .i64 0])/\Below W.heap.size W w')from(show Calls prog 18 #[ptg g,.string tB,.int .i64 0,.int .i64 9] W (T6.Both ([0,120],0) W)from isR▸Y1 h g4.toHalf tB 0 9 (by decide) (by decide) (by decide))))
 have FI:=hid (λg W (h:Fo W g aw4)=>qg h)
 have FN:=hid (λg W (h:Fo W g aw4)=>jq h)
 have FM:=hid (λg W (h:Fo W g aw4)=>uT h)
 have FS:=hid (λm W (h:Sv W m aw4.l)=>(show Calls prog 31 #[pv m] W (Yk true W)from Jh g4▸JT m aw4.l W h))
 clear hD
 unfold awO1 at D1
 unfold awO2 at D2
 unfold awO3 at D3
 unfold awO4 at D4
 unfold awO5 at D5
 go_enter func7,ntmps7
 go_wp2_with fail
 refine HNew.out.mono ?_
 rintro e w1 ⟨g,rfl,hF,hg,hb⟩
 have HGe:=hid hg
 have HF:=hid hF
 have HB:=hid hb
 clear hF hg hb HNew
 dsimp only
 go_wp2_with fail
 refine(D1.out g w1 HF.out).mono ?_
 rintro e w2 ⟨rfl,hF,hT⟩
 have HB:=hid (zy HB.out hT HGe.out)
 have HF:=hid hF
 clear hF hT D1
 dsimp only
 go_wp2_with fail
 refine(D2.out g w2 HF.out).mono ?_
 rintro e w3 ⟨rfl,hF,hT⟩
 have HB:=hid (zy HB.out hT HGe.out)
 have HF:=hid hF
 clear hF hT D2
 dsimp only
 go_wp2_with fail
 refine(D3.out g w3 HF.out).mono ?_
 rintro e w4 ⟨rfl,hF,hT⟩
 have HB:=hid (zy HB.out hT HGe.out)
 have HF:=hid hF
 clear hF hT D3
 dsimp only
 go_wp2_with fail
 refine(D4.out g w4 HF.out).mono ?_
 rintro e w5 ⟨rfl,hF,hT⟩
 have HB:=hid (zy HB.out hT HGe.out)
 have HF:=hid hF
 clear hF hT D4
 dsimp only
 go_wp2_with fail
 refine(FB.out g w5 HF.out).mono ?_
 rintro e w6 ⟨ea,ec,rfl,-,hb⟩
 unfold awN at*
 have hbx:=below_one w6 (.cells #[.int .i64 1,.int .i64 420,.string ⟨#[0,120]⟩,.string ⟨#[]⟩,.slice ea 0 ec] 43)
 have HB:=hid ((HB.out.trans (hb.mono HB.out.size)).trans (hbx.mono (HB.out.trans (hb.mono HB.out.size)).size))
 have HF:=hid ((HF.out.below hb).below hbx)
 have HC:=hid (show(w6.alloc (.cells #[.int .i64 1,.int .i64 420,.string ⟨#[0,120]⟩,.string ⟨#[]⟩,.slice ea 0 ec] 43)).cell? ⟨w6.heap.size,2,none⟩=some (.string ⟨#[0,120]⟩)from World.cell?_alloc_new _ _ _ _)
 clear hb hbx FB
 dsimp only
 go_wp2_with fail
 refine(FR.out g _ HF.out).mono ?_
 rintro e w7 ⟨rfl,hb⟩
 have HB:=hid (HB.out.trans (hb.mono HB.out.size))
 have HF:=hid (HF.out.below hb)
 have HC:=hid ((hb.cell (p:=⟨w6.heap.size,2,none⟩) (block_lt_of_cell HC.out)).trans HC.out)
 clear hb FR
 dsimp only
 go_wp2_with fail
 refine(FA.out g _ HF.out).mono ?_
 rintro e w8 ⟨ea2,ec2,rfl,-,hb⟩
 have hbx:=below_one w8 (.cells #[.int .i64 0,.int .i64 0,.string ⟨#[]⟩,.string ⟨#[]⟩,.slice ea2 0 ec2] 43)
 have HB:=hid ((HB.out.trans (hb.mono HB.out.size)).trans (hbx.mono (HB.out.trans (hb.mono HB.out.size)).size))
 have HF:=hid ((HF.out.below hb).below hbx)
 have hc:=(hb.cell (p:=⟨w6.heap.size,2,none⟩) (block_lt_of_cell HC.out)).trans HC.out
 have cc:=(hbx.cell (p:=⟨w6.heap.size,2,none⟩) (block_lt_of_cell hc)).trans hc
 clear hb hbx hc HC FA
 dsimp only
 go_wp2_with fail
 refine(FI.out g _ HF.out).mono ?_
 rintro e w9 ⟨ao,cap,rfl,-,hb⟩
 have HB:=hid (HB.out.trans (hb.mono HB.out.size))
 have HF:=hid (HF.out.below hb)
 clear hb FI cc
 dsimp only
 go_wp2_with fail
 refine(FN.out g _ HF.out).mono ?_
 rintro e w10 ⟨rfl,rfl⟩
 clear FN
 dsimp only
 go_wp2_with fail
 refine(FM.out g _ HF.out).mono ?_
 rintro e w11 ⟨m,rfl,hS,rfl⟩
 have HS:=hid hS
 clear FM hS
 dsimp only
 go_wp2_with fail
 refine(FS.out m _ HS.out).mono ?_
 rintro e w12 ⟨rfl,hb⟩
 have HB:=hid (HB.out.trans (hb.mono HB.out.size))
 have HF:=hid (HF.out.below hb)
 clear hb FS
 dsimp only
 go_wp2_with fail
 refine(D5.out g _ HF.out).mono ?_
 rintro e w13 ⟨rfl,hF,hT⟩
 have HB:=hid (zy HB.out hT HGe.out)
 clear hF hT D5
 dsimp only
 go_wp2_with fail
 go_ret
 exact⟨rfl,HB.out⟩
theorem Turn.ents{g:Nat}{w w':World}(ht:Turn g w w'){f:Fs.FS}(hF:Fo w g f){a:Option Addr}{n:Nat}{l:List En}(h:Ents a n l w):Ents a n l w':=by
 obtain⟨m,hg,_⟩:=hF
 refine⟨h.count,λi hi=> ?_⟩
 obtain⟨b,off,rfl,h0,h1⟩:=h.cell i hi
 have hb:b≠g:=by
  rintro rfl
  rw[cell_obj hg]at h0 h1
  exact zeE m f.next _ _ _ h0 h1
 exact⟨b,off,rfl,yn ht h0 hb,yn ht h1 hb⟩
theorem Turn.obj{g:Nat}{w w':World}(ht:Turn g w w'){p:Nat}{o:Obj}(h:w.heap[p]?=some o)(hp:p≠g):w'.heap[p]?=some o:=by
 have hl:p<w.heap.size:=(Array.getElem?_eq_some_iff.1 h).1
 exact(ht.block p hl hp).trans h
end Go.Proofs.YtabmamofnhcgbaaGreatDoor
namespace Go.Proofs.YtabmamofnhcgbaaGreatDoor
open Go.RowKit Go.Less Go.Maps
open T6
theorem Turn.trees{g:Nat}{w w':World}(ht:Turn g w w'){cs:Array Value}{fr:Nat×Nat}(hg:w.heap[g]?=some (.cells cs 101 fr)): ∀{t:T8.Tt} {q:Option Nat},T8.Tree w q t->T8.Tree w' q t
 | .leaf,_,hq=>hq
 | .node _ _ _ _,_,⟨b,pl,pr,e,hc,hk,hv,hl,hr⟩=>⟨b,pl,pr,e,ht.obj hc (by rintro rfl;rw[hg]at hc;injection hc with hc;injection hc with _ hc _;exact absurd hc (by decide)),hk,hv,ht.trees hg hl,ht.trees hg hr⟩
theorem Turn.maps{g:Nat}{w w':World}(ht:Turn g w w'){cs:Array Value}{fr:Nat×Nat}(hg:w.heap[g]?=some (.cells cs 101 fr)){m:Option Nat}{t:T8.Tt}(hm:T8.IsMap w m t):T8.IsMap w' m t:=by
 cases m with
 |none=>exact hm
 |some b=>
  obtain⟨q,h1,h2⟩:=hm
  exact⟨q,ht.obj h1 (by rintro rfl;rw[hg]at h1;injection h1 with h1;injection h1 with _ h1 _;exact absurd h1 (by decide)),ht.trees hg h2⟩
theorem Turn.dg{g:Nat}{w w':World}(ht:Turn g w w'){x y:Value}{t:TypeId}(hg:w.heap[g]?=some (.cells #[x,y] t (0,0)))(h:T8.Dg w):T8.Dg w':=by
 have n2:(2:Nat)≠g:=by
  rintro rfl
  have h1:=h.k 7 (by decide)
  rw[cell_obj hg 7]at h1
  cases h1
 have n0:(0:Nat)≠g:=by
  rintro rfl
  have h1:=h.i 7 (by decide)
  rw[cell_obj hg 7]at h1
  cases h1
 exact⟨λj hj=>yn ht (h.k j hj) n2,λj hj=>yn ht (h.i j hj) n0⟩
theorem Sv.turn{g:Nat}{w w':World}(ht:Turn g w w'){f:Fs.FS}(hF:Fo w g f){m:Option Nat}{l:List Fs.Item}(h:Sv w m l):Sv w' m l:=by
 obtain⟨m',hg,_⟩:=hF
 exact⟨⟨h.rp.sorted,ht.maps hg h.rp.map⟩,h.ok,ht.dg hg h.dg⟩
theorem Fo.turn{g g2:Nat}{w w':World}(ht:Turn g w w'){f f2:Fs.FS}(hF:Fo w g f)(h:Fo w g2 f2)(hne:g2≠g):Fo w' g2 f2:=by
 obtain⟨m,h1,h2⟩:=h
 exact⟨m,ht.obj h1 hne,h2.turn ht hF⟩
theorem zcA{o:Fs.Op}{w W:World}{b p:Nat}(h: ∀j v,(ocs o)[j]?=some v->w.cell? ⟨b,p+j,none⟩=some v)(hb:Below w.heap.size w W)(j:Nat)(v:Value)(hv:(ocs o)[j]?=some v):W.cell? ⟨b,p+j,none⟩=some v:=(hb.cell (p:=⟨b,p+j,none⟩) (block_lt_of_cell (h j v hv))).trans (h j v hv)
theorem zdo{f:Fs.FS}(G:Fs.Good env f)(q:ByteArray):(zF f.l q).2.1.ents.length<=64:=by
 rcases yH f.l q with ⟨e,hne,hf⟩|⟨ns,j,hs,hw,hf⟩
 ·rw[hf];exact Nat.zero_le _
 ·rw[hf]
  obtain⟨y,hy,hyD⟩:=G.walk_node hw
  show(Fs.nodeD f.l j).ents.length<=64
  rw[hyD]
  exact(G.right hy).len
theorem vN(a:ByteArray):alike a a=true:=alike_eq.2 rfl
end Go.Proofs.YtabmamofnhcgbaaGreatDoor
namespace Go.Proofs.YtabmamofnhcgbaaGreatDoor
open Go.ChangeShapes Go.WideShapes Go.ChangeAt Go.WideMaps Go.WideElems Go.RowKit Go.Joins Go.Deep
theorem own:ownKnob prog.godebug=none:=by kernel_rfl
theorem laidOut:laidOutB prog=true:=by kernel_rfl
def U9:List Int:=(List.range 8).map λj=>T8.u32 (Sha.init.get j)
def Jt:List Int:=(List.range 64).map λj=>T8.u32 (Sha.kAt j)
theorem K2{n1 n2:String}{d1 d2:DataW Unit}{W:World}(h:laidMet prog [(n1,d1),(n2,d2)] W)(e1:d1=Lib.tabData .u32 U9)(e2:d2=Lib.tabData .u32 Jt)
  (hg1:prog.globalNamed n1=some 0) (hg2:prog.globalNamed n2=some 2):T8.Dg W:=by
 subst e1 e2
 have t1:=Lib.tabIs_of_head (n:=8) (e:=214) hg1 (show _=some 215 by kernel_rfl) underlying215 underlying214 (by kernel_rfl) (by kernel_rfl) h
 have t2:=Lib.tabIs_of_head (n:=64) (e:=214) hg2 (show _=some 216 by kernel_rfl) underlying216 underlying214 (by kernel_rfl) (by kernel_rfl) h.tail
 refine⟨λj hj=> ?_,λj hj=> ?_⟩
 ·rw[t2.cell hg2 j (by simp[Jt];omega)]
  simp[Jt,List.getD,hj]
 ·rw[t1.cell hg1 j (by simp[U9];omega)]
  simp[U9,List.getD,hj]
theorem jz{s:ByteArray}(h:s.data.toList.length<=reachBytes):s.size<=140737488355328:=by
 have e:s.data.toList.length=s.size:=Array.length_toList
 rw[e]at h
 exact Nat.le_trans h (by decide)
theorem uL{H:Type}{P:Program}{e:TypeId}: ∀{l:List (DataW H)} {d:DataW H},d∈l-> ∀n∈d.weights P e,n∈DataW.weightsAll P e l
 |d'::r,d,hd,n,hn=>by
  simp only[DataW.weightsAll,List.mem_append]
  rcases List.mem_cons.1 hd with rfl|h
  ·exact Or.inl hn
  ·exact Or.inr (uL h n hn)
def vStr:Value->ByteArray| .string s=>s|_=>ByteArray.empty
def zd9:Value->Int| .int _ z=>z|_=>0
def XQ(w:World)(a:Addr)(i:Nat):Fs.Op:=
 ⟨zd9 ((w.cell? (a.add (i*7))).getD undef),vStr ((w.cell? (a.add (i*7+1))).getD undef),vStr ((w.cell? (a.add (i*7+2))).getD undef),zd9 ((w.cell? (a.add (i*7+3))).getD undef),zd9 ((w.cell? (a.add (i*7+4))).getD undef),zd9 ((w.cell? (a.add (i*7+5))).getD undef),vStr ((w.cell? (a.add (i*7+6))).getD undef)⟩
section
variable {H : Type} {enc : TypeId × Value -> H} {P : Program} {w : World} {base : Nat} {spare : Nat -> Bool} {held : Bool}
theorem YW{t e:TypeId}{fs:Array Field}{fuel:Nat}{cs:List Value}{x:DataW H×List MemPlace}(ht:P.underlying t=some (.slice e))(he:P.underlying e=some (.struct fs))
  (hone:oneCellFields P fs=true) (hC:P.cellsOf e=fs.size) (h:DataW.trod enc P w base spare held fuel t cs=some x):
  (cs=[.slice none 0 0]/\x=(.nil,[]))\/
  ∃ (a:Addr) (len cap m:Nat) (D:Nat->DataW H),cs=[.slice (some a) len cap]/\len<=cap/\m=(if spare a.block then cap else len)/\
   x.1= .slice ((List.range len).map D) ((List.range (m-len)).map λj=>D (len+j))/\
   ∀i,i<m-> ∃(ys:List (DataW H×List MemPlace)) (n:Nat),D i= .agg (ys.map (·.1))/\ys.length=fs.size/\
    ∀(j:Nat) (f:Field),fs[j]?=some f-> ∃(v:Value) (y:DataW H×List MemPlace),w.cell? (a.add (i*fs.size+j))=some v/\ys[j]?=some y/\DataW.trod enc P w base spare held n f.type [v]=some y:=by
 rcases open_slice ht h with h0|⟨a,len,cap,m,n,D,Pl,hcs,hb,hl,hm,hmm,hx,hi⟩
 ·exact .inl h0
 ·refine .inr ⟨a,len,cap,m,D,hcs,hl,hmm,by rw[hx],λi him=> ?_⟩
  obtain⟨cs',hc,ht'⟩:=hi i him
  rw[hC]at hc
  obtain⟨ys,n',hn',hy,hlen,hyl,hf⟩:=DataW.trod_struct he ht'
  obtain⟨_,hcl,hat⟩:=World.cells?_some hc
  simp only[Prod.mk.injEq]at hy
  refine⟨ys,n',hy.1,hyl,λj f hj=> ?_⟩
  obtain⟨ho,hk⟩:=hone_of hone j f hj
  have hjl:j<fs.size:=(Array.getElem?_eq_some_iff.1 hj).1
  have hcell:=hat j hjl
  have hv:cs'[j]?=some (cs'[j]'(by omega)):=List.getElem?_eq_getElem (by omega)
  have h1:=hf j f hj
  rw[ho,hk]at h1
  have hone':(cs'.drop j).take 1=[cs'[j]'(by omega)]:=by
   rw[List.drop_eq_getElem_cons (by omega)]
   rfl
  rw[hone']at h1
  have hys:ys[j]?=some (ys[j]'(by omega)):=List.getElem?_eq_getElem (by omega)
  refine⟨_,_, ?_,hys,h1.trans hys⟩
  rw[<-Go.Deep.add_add,hcell,hv]
end
section
variable {H : Type} {enc : TypeId × Value -> H} {w : World} {base : Nat} {sp : Nat -> Bool} {held : Bool}
theorem ZT{z:Int}(h:(Lit.int .i64 z).wf=true):z<=9223372036854775807:=by
 simp only[Lit.wf,Bool.and_eq_true,decide_eq_true_eq]at h
 exact h.2
end
theorem za9{H:Type}{d:DataW H}{l:List (DataW H)}(h:d∈l):Rows.uptoBulk d<=Rows.uptoBulkAll l:=by
 induction l with
 |nil=>cases h
 |cons x r ih=>
  simp only[Rows.uptoBulkAll]
  rcases List.mem_cons.1 h with e|e
  ·subst e;omega
  ·have:=ih e;omega
section
variable {H : Type} {enc : TypeId × Value -> H} {w : World} {base : Nat} {sp : Nat -> Bool} {held : Bool}
theorem ZM{fuel:Nat}{v:Value}{y:DataW H×List MemPlace}(h:DataW.trod enc prog w base sp held fuel 22 [v]=some y)(hsz: ∀x∈y.1.weights prog 22,x<=reachBytes): ∃a n c l,v= .slice a n c/\Opr a n l w/\n<=140737488355328/\ ∀o∈l,o.a.size<=Rows.uptoBulk y.1/\o.b.size<=Rows.uptoBulk y.1:=by
 rcases YW underlying22 underlying35 (by kernel_rfl) (by kernel_rfl) h with ⟨hcs,hx⟩|⟨a,n,c,m,D,hcs,hl,hm,hx,hi⟩
 ·injection hcs with hcs _
  subst hcs
  exact⟨none,0,0,[],rfl,⟨rfl,λj hj=>by omega,λo ho=>by cases ho⟩,Nat.zero_le _,λo ho=>by cases ho⟩
 ·injection hcs with hcs _
  subst hcs
  have hnm:n<=m:=by rw[hm];split<;>omega
  have hw: ∀x∈(DataW.slice ((List.range n).map D) ((List.range (m-n)).map λj=>D (n+j)):DataW H).weights prog 22,x<=reachBytes:=by rw[<-hx];exact hsz
  simp only[DataW.weights,underlying22]at hw
  have hat: ∀i,i<n-> ∃s0 s1 s2 s3 s4 s5 s6,w.cell? (a.add (i*7))=some (.int .i64 s0)/\w.cell? (a.add (i*7+1))=some (.string s1)/\w.cell? (a.add (i*7+2))=some (.string s2)/\w.cell? (a.add (i*7+3))=some (.int .i64 s3)/\w.cell? (a.add (i*7+4))=some (.int .i64 s4)/\w.cell? (a.add (i*7+5))=some (.int .i64 s5)/\w.cell? (a.add (i*7+6))=some (.string s6)/\OpOk ⟨s0,s1,s2,s3,s4,s5,s6⟩/\s1.size<=Rows.uptoBulk (D i)/\s2.size<=Rows.uptoBulk (D i):=by
   intro i hin
   obtain⟨ys,q,hD,hyl,hf⟩:=hi i (by omega)
   obtain⟨v0,y0,c0,e0,t0⟩:=hf 0 _ rfl
   obtain⟨v1,y1,c1,e1,t1⟩:=hf 1 _ rfl
   obtain⟨v2,y2,c2,e2,t2⟩:=hf 2 _ rfl
   obtain⟨v3,y3,c3,e3,t3⟩:=hf 3 _ rfl
   obtain⟨v4,y4,c4,e4,t4⟩:=hf 4 _ rfl
   obtain⟨v5,y5,c5,e5,t5⟩:=hf 5 _ rfl
   obtain⟨v6,y6,c6,e6,t6⟩:=hf 6 _ rfl
   obtain⟨s0,hs0,hy0,wf0⟩:=DataW.trod_int underlying3 t0
   obtain⟨s1,hs1,hy1,wf1⟩:=DataW.trod_string underlying9 t1
   obtain⟨s2,hs2,hy2,wf2⟩:=DataW.trod_string underlying9 t2
   obtain⟨s3,hs3,hy3,wf3⟩:=DataW.trod_int underlying3 t3
   obtain⟨s4,hs4,hy4,wf4⟩:=DataW.trod_int underlying3 t4
   obtain⟨s5,hs5,hy5,wf5⟩:=DataW.trod_int underlying3 t5
   obtain⟨s6,hs6,hy6,wf6⟩:=DataW.trod_string underlying9 t6
   injection hs0 with hs0 _
   injection hs1 with hs1 _
   injection hs2 with hs2 _
   injection hs3 with hs3 _
   injection hs4 with hs4 _
   injection hs5 with hs5 _
   injection hs6 with hs6 _
   subst hs0 hs1 hs2 hs3 hs4 hs5 hs6
   have hmem:D i∈(List.range n).map D:=List.mem_map.2 ⟨i,List.mem_range.2 hin,rfl⟩
   have hin2: ∀x,x∈(D i).weights prog 35->x<=reachBytes:=λx hx=>hw _ (List.mem_cons_of_mem _ (List.mem_append_left _ (uL hmem _ hx)))
   rw[hD]at hin2
   simp only[DataW.weights,underlying35]at hin2
   match ys,hyl,hD,e0,e1,e2,e3,e4,e5,e6 with
   |[u0,u1,u2,u3,u4,u5,u6],_,hD,e0,e1,e2,e3,e4,e5,e6=>
    have f1:u1=(DataW.lit (Lit.string s1.data.toList),[]):=by rw[<-hy1];simpa using e1
    have f2:u2=(DataW.lit (Lit.string s2.data.toList),[]):=by rw[<-hy2];simpa using e2
    have f6:u6=(DataW.lit (Lit.string s6.data.toList),[]):=by rw[<-hy6];simpa using e6
    rw[f1,f2,f6]at hin2
    simp[DataW.weightsEach,DataW.weights]at hin2
    have z1:s1.data.toList.length=s1.size:=Array.length_toList
    have z2:s2.data.toList.length=s2.size:=Array.length_toList
    exact⟨s0,s1,s2,s3,s4,s5,s6,c0,c1,c2,c3,c4,c5,c6,⟨wf0,jz (hin2 _ (by simp)),jz (hin2 _ (by simp)),jz (hin2 _ (by simp)),ZT wf3,ZT wf4,ZT wf5⟩,by rw[hD,f1,f2,f6];simp only[List.map_cons,List.map_nil,Rows.uptoBulk,Rows.uptoBulkAll];omega,by rw[hD,f1,f2,f6];simp only[List.map_cons,List.map_nil,Rows.uptoBulk,Rows.uptoBulkAll];omega⟩
  have hopAt: ∀i,i<n->(OpOk (XQ w a i)/\(XQ w a i).a.size<=Rows.uptoBulk (D i)/\(XQ w a i).b.size<=Rows.uptoBulk (D i))/\ ∀j v,(ocs (XQ w a i))[j]?=some v->w.cell? (a.add (i*7+j))=some v:=by
   intro i hin
   obtain⟨s0,s1,s2,s3,s4,s5,s6,c0,c1,c2,c3,c4,c5,c6,hok⟩:=hat i hin
   have e:XQ w a i=⟨s0,s1,s2,s3,s4,s5,s6⟩:=by unfold XQ;rw[c0,c1,c2,c3,c4,c5,c6];rfl
   rw[e]
   refine⟨hok,λj v hv=> ?_⟩
   match j,hv with
   |0,hv=>injection hv with hv;rw[<-hv];exact c0
   |1,hv=>injection hv with hv;rw[<-hv];exact c1
   |2,hv=>injection hv with hv;rw[<-hv];exact c2
   |3,hv=>injection hv with hv;rw[<-hv];exact c3
   |4,hv=>injection hv with hv;rw[<-hv];exact c4
   |5,hv=>injection hv with hv;rw[<-hv];exact c5
   |6,hv=>injection hv with hv;rw[<-hv];exact c6
   |j+7,hv=>simp[ocs]at hv
  refine⟨some a,n,c,(List.range n).map (XQ w a),rfl,⟨by simp,λi hin=> ?_,λo ho=> ?_⟩, ?_,λo ho=> ?_⟩
  ·have hg:((List.range n).map (XQ w a)).getD i op0=XQ w a i:=by simp[List.getD,hin]
   obtain⟨b,off,spot⟩:=a
   obtain⟨s0,_,_,_,_,_,_,h00,_⟩:=hat 0 (by omega)
   have hspot:spot=none:=by simpa[Addr.add] using World.cell?_spot h00
   subst hspot
   refine⟨b,off,rfl,λj v hv=> ?_⟩
   rw[hg]at hv
   have:=(hopAt i hin).2 j v hv
   rw[Go.WideShapes.add_plain]at this
   rw[Nat.add_assoc];exact this
  ·obtain⟨i,hi9,rfl⟩:=List.mem_map.1 ho
   exact(hopAt i (List.mem_range.1 hi9)).1.1
  ·have:=hw _ List.mem_cons_self
   have hb:1<=prog.bytesOf 35:=by rw[show prog.bytesOf 35=80 by kernel_rfl];decide
   have hr:reachBytes<=140737488355328:=by decide
   simp only[List.length_map,List.length_range]at this
   have h2:n+(m-n)<=(n+(m-n))*prog.bytesOf 35:=Nat.le_mul_of_pos_right _ hb
   omega
  ·obtain⟨i,hi9,rfl⟩:=List.mem_map.1 ho
   have h1:=(hopAt i (List.mem_range.1 hi9)).1.2
   have hmem:D i∈(List.range n).map D:=List.mem_map.2 ⟨i,hi9,rfl⟩
   have h2:=za9 hmem
   rw[hx]
   simp only[Rows.uptoBulk]
   omega
end
end Go.Proofs.YtabmamofnhcgbaaGreatDoor
