/- A part of the proofs. -/
import Derived.Test.YtabmamofnhcgbaaGreatDoorC14
set_option maxRecDepth 1000000
set_option maxHeartbeats 16000000
open Go.Lib (hid)
open Go.Proofs.Tryz
namespace Go.Proofs.YtabmamofnhcgbaaGreatDoor
open T6
open Go.RowKit Go.Less
attribute [local go_sem 9000] zg zf
abbrev ov(o:Fs.Op):Value:= .agg #[.int .i64 o.kind,.string o.a,.string o.b,.int .i64 o.off,.int .i64 o.from_,.int .i64 o.n,.string o.data]
abbrev ocs(o:Fs.Op):Array Value:= #[.int .i64 o.kind,.string o.a,.string o.b,.int .i64 o.off,.int .i64 o.from_,.int .i64 o.n,.string o.data]
def env:Fs.Env:=⟨less,Nm.right,spl,λs o d=>(lstr (z8 s.data.toList o d.data.toList).1,(z8 s.data.toList o d.data.toList).2),λs n=>(lstr (zD s.data.toList n).1,(zD s.data.toList n).2),
 λs o t f n=>(lstr (yD s.data.toList o t.data.toList f n).1,(yD s.data.toList o t.data.toList f n).2),λs o n=>(lstr (vK s.data.toList o n).1,(vK s.data.toList o n).2)⟩
structure Ob (w:World) (a:Option Addr) (n c:Nat) (nx:Int) (o:Fs.Op) (W:World):Prop where
 box:W.heap[w.heap.size]?=some (.cells #[.slice a n c,.int .i64 nx] 29 (0,0))
 op:W.heap[w.heap.size+1]?=some (.cells (ocs o) 34 (0,0))
 res:W.heap[w.heap.size+1+1]?=some (.cells #[.slice none 0 0,.int .i64 0] 29 (0,0))
 below:Below w.heap.size w W
theorem zQ(w:World)(a:Option Addr)(n c:Nat)(nx:Int)(o:Fs.Op):Ob w a n c nx o (((w.alloc (.cells #[.slice a n c,.int .i64 nx] 29)).alloc (.cells (ocs o) 34)).alloc (.cells #[.slice none 0 0,.int .i64 0] 29)):=by
 have b0:=(Below.refl w.heap.size w).alloc (Nat.le_refl _) (.cells #[.slice a n c,.int .i64 nx] 29)
 have b1:=b0.alloc b0.size (.cells (ocs o) 34)
 have b2:=b1.alloc b1.size (.cells #[.slice none 0 0,.int .i64 0] 29)
 have z1:(w.alloc (.cells #[.slice a n c,.int .i64 nx] 29)).heap.size=w.heap.size+1:=yw _ _
 have z2:((w.alloc (.cells #[.slice a n c,.int .i64 nx] 29)).alloc (.cells (ocs o) 34)).heap.size=w.heap.size+1+1:=by rw[yw,z1]
 have k0:=heap_alloc_new w (.cells #[.slice a n c,.int .i64 nx] 29)
 have k1:=heap_alloc_new (w.alloc (.cells #[.slice a n c,.int .i64 nx] 29)) (.cells (ocs o) 34)
 have k2:=heap_alloc_new ((w.alloc (.cells #[.slice a n c,.int .i64 nx] 29)).alloc (.cells (ocs o) 34)) (.cells #[.slice none 0 0,.int .i64 0] 29)
 rw[z1]at k1
 rw[z2]at k2
 exact⟨al (al k0 _) _,al k1 _,k2,b2⟩
theorem Ob.kept{w W W':World}{a:Option Addr}{n c:Nat}{nx:Int}{o:Fs.Op}(h:Ob w a n c nx o W)(hb:Below W.heap.size W W'):Ob w a n c nx o W':=
 ⟨(hb.block _ (lt_of_obj h.box)).trans h.box,(hb.block _ (lt_of_obj h.op)).trans h.op,(hb.block _ (lt_of_obj h.res)).trans h.res,h.below.trans (hb.mono h.below.size)⟩
def DoR(r:Fs.FS×Int)(w:World)(e:Ending)(w':World):Prop:=
 ∃a c L,its L=r.1.l/\e= .returned (.tuple #[fv a L.length c r.1.next,.int .i64 r.2])/\Items a L.length L w'/\Below w.heap.size w w'
theorem za{fn:Func}{p u:Tmp}(h:fn.results= #[.cell p 29,.tmp u])(tmps:Array Value)(w:World)(g:Nat)(k m:Value)
  (hp:tmps.getD p undef= .pointer (some ⟨g,0,none⟩)) (hg:w.heap[g]?=some (.cells #[k,m] 29 (0,0))):
  (results fn tmps).run prog w= .ok (.tuple #[.agg #[k,m],tmps.getD u undef]) w:=by
 rw[results_cell_tmp h,hp]
 simp[asAddr,Result.andThen,run_loadVar_row (P:=prog) w g 29 29 #[k,m] (0,0) _ hg underlying29 rfl zbQ]
theorem zo(code:Int){w W:World}{a:Option Addr}{n c:Nat}{nx:Int}{o:Fs.Op}{L:List MI}{r:Fs.FS×Int}(h:Ob w a n c nx o W)(HI: ∀W,Below w.heap.size w W->Items a n L W)(hn:n=L.length)(hr:r=(⟨its L,nx⟩,code)):
  DoR r w (.returned (.tuple #[.agg #[.slice a n c,.int .i64 nx],.int .i64 code])) ((W.setCell ⟨w.heap.size+1+1,0,none⟩ (.slice a n c)).setCell ⟨w.heap.size+1+1,1,none⟩ (.int .i64 nx)):=by
 subst hr
 have hb:=(h.below.setCell (p:=⟨w.heap.size+1+1,0,none⟩) (by show w.heap.size<=w.heap.size+1+1;omega) (.slice a n c)).setCell (p:=⟨w.heap.size+1+1,1,none⟩) (by show w.heap.size<=w.heap.size+1+1;omega) (.int .i64 nx)
 exact⟨a,c,L,rfl,by rw[<-hn],hn▸HI _ hb,hb⟩
structure Small11 (L:List MI) (n:Nat) (o:Fs.Op):Prop where
 few:n<=10000
 ents:FewM L
 a:o.a.size<=1048576
 b:o.b.size<=1048576
theorem Small11.n5{L:List MI}{n:Nat}{o:Fs.Op}(h:Small11 L n o):n<=100000:=Nat.le_trans h.few (by decide)
theorem QG(w:World)(x y:Obj)(cs:Array Value):(((w.alloc x).alloc y).alloc (.cells cs 29)).heap[w.heap.size+1+1]?=some (.cells cs 29 (0,0))/\Below w.heap.size w (((w.alloc x).alloc y).alloc (.cells cs 29)):=by
 have b0:=(Below.refl w.heap.size w).alloc (Nat.le_refl _) x
 have b1:=b0.alloc b0.size y
 have b2:=b1.alloc b1.size (.cells cs 29)
 have k2:=heap_alloc_new ((w.alloc x).alloc y) (.cells cs 29)
 rw[yw,yw]at k2
 exact⟨k2,b2⟩
theorem zcd(a:Option Addr)(n c:Nat)(nx:Int)(L:List MI)(o:Fs.Op)(w:World)(hI:Items a n L w)(_:Small11 L n o)(hk:o.kind<1\/11<o.kind):
  Calls prog 11 #[fv a n c nx,ov o] w (DoR (Fs.doE env ⟨its L,nx⟩ o) w):=by
 have HI:=hid (λW (hb:Below w.heap.size w W)=>hI.below hb)
 have HNL:=hid hI.count
 clear hI
 have HR:=hid (show Fs.doE env ⟨its L,nx⟩ o=(⟨its L,nx⟩,16) by unfold Fs.doE Fs.act;rw[if_pos hk])
 have HT:=hid (QG w (.cells #[.slice a n c,.int .i64 nx] 29) (.cells (ocs o) 34) #[.slice a n c,.int .i64 nx])
 have HD:=hid (show DoR (Fs.doE env ⟨its L,nx⟩ o) w (.returned (.tuple #[.agg #[.slice a n c,.int .i64 nx],.int .i64 16])) _ from⟨a,c,L,by rw[HR.out],by rw[HR.out,<-HNL.out],by rw[<-HNL.out];exact HI.out _ HT.out.2,HT.out.2⟩)
 rcases hk with hk|hk
 ·go_enter func11,ntmps11
  go_wp2_with fail
  refine bodyPost_ret_by (za rfl _ _ (w.heap.size+1+1) _ _ rfl HT.out.1) rfl ?_
  exact HD.out
 ·have hk1: ¬ o.kind<1:=by omega
  go_enter func11,ntmps11
  go_wp2_with fail
  refine bodyPost_ret_by (za rfl _ _ (w.heap.size+1+1) _ _ rfl HT.out.1) rfl ?_
  exact HD.out
theorem rDo_a(a:Option Addr)(n c:Nat)(nx:Int)(L:List MI)(o:Fs.Op)(w:World)(hI:Items a n L w)(hS:Small11 L n o)(hk: ¬ (o.kind<1\/11<o.kind))(ha:spl o.a=none):
  Calls prog 11 #[fv a n c nx,ov o] w (DoR (Fs.doE env ⟨its L,nx⟩ o) w):=by
 have HI:=hid (λW (hb:Below w.heap.size w W)=>hI.below hb)
 have HNL:=hid hI.count
 have HB:=hid (zQ w a n c nx o)
 have HSp:=hid (λW=>zi o.a W hS.a)
 clear hI hS
 have HR:=hid (show Fs.doE env ⟨its L,nx⟩ o=(⟨its L,nx⟩,14) by unfold Fs.doE Fs.act;rw[if_neg hk,show env.sp o.a=none from ha])
 have hsp:Nm.split o.a.data.toList=none:=by unfold spl at ha;simpa using ha
 go_enter func11,ntmps11
 go_wp2_with fail
 generalize ((w.alloc (.cells #[.slice a n c,.int .i64 nx] 29)).alloc (.cells #[.int .i64 o.kind,.string o.a,.string o.b,.int .i64 o.off,.int .i64 o.from_,.int .i64 o.n,.string o.data] 34)).alloc (.cells #[.slice none 0 0,.int .i64 0] 29)=W0 at HB|-
 go_wp2_with fail
 refine(HSp.out W0).mono ?_
 rintro e w1 hX
 have HB1:=hid (HB.out.kept hX.below)
 obtain rfl:=hX.no hsp
 clear hX hsp
 have f0:=zn HB1.out.box
 have r0:=zn HB1.out.res
 have q0:=zH HB1.out.res
 dsimp only
 go_wp2_with fail
 refine bodyPost_ret_by (za rfl _ _ (w.heap.size+1+1) _ _ rfl (set2 _ _ HB1.out.res)) rfl ?_
 exact zo 14 HB1.out HI.out HNL.out HR.out
theorem Splitted.form{l:List UInt8}{w w':World}{e:Ending}(h:Splitted l w e w'): ∃v code,e= .returned (.tuple #[v,.int .i64 code]):=by
 cases hs:Nm.split l with
 |none=>exact⟨_,_,h.no hs⟩
 |some ns=>
  obtain⟨ao,cap,he,_⟩:=h.yes ns hs
  exact⟨_,_,he⟩
theorem zeY{l:List Fs.Item}{p:ByteArray}{ns:List ByteArray}(h:spl p=some ns):zF l p=match Fs.walk l 1 ns with
  | .error e=>(0,Nd.none0,e)
  | .ok i=>(i,Fs.nodeD l i,0):=by unfold zF;rw[h];rfl
theorem zT{l:List Fs.Item}{p:ByteArray}{ns:List ByteArray}(h:spl p=some ns):(∃e,e≠0/\Fs.walk l 1 ns= .error e/\zF l p=(0,Nd.none0,e))\/ ∃i,Fs.walk l 1 ns= .ok i/\zF l p=(i,Fs.nodeD l i,0):=by
 rw[zeY h]
 rcases vu l ns 1 with ⟨i,hw⟩|hw|hw
 ·exact .inr ⟨i,hw,by rw[hw]⟩
 ·exact .inl ⟨10,by decide,hw,by rw[hw]⟩
 ·exact .inl ⟨4,by decide,hw,by rw[hw]⟩
theorem zL(code:Int){w W':World}{a0:Option Addr}{n0 c0:Nat}{nx0:Int}{o:Fs.Op}{a:Option Addr}{n c:Nat}{nx:Int}{L:List MI}{r:Fs.FS×Int}(h:Ob w a0 n0 c0 nx0 o W')(hI:Items a L.length L W')(hn:n=L.length)(hr:r=(⟨its L,nx⟩,code)):
  DoR r w (.returned (.tuple #[.agg #[.slice a n c,.int .i64 nx],.int .i64 code])) ((W'.setCell ⟨w.heap.size+1+1,0,none⟩ (.slice a n c)).setCell ⟨w.heap.size+1+1,1,none⟩ (.int .i64 nx)):=by
 subst hr hn
 have hb:=(h.below.setCell (p:=⟨w.heap.size+1+1,0,none⟩) (by show w.heap.size<=w.heap.size+1+1;omega) (.slice a L.length c)).setCell (p:=⟨w.heap.size+1+1,1,none⟩) (by show w.heap.size<=w.heap.size+1+1;omega) (.int .i64 nx)
 exact⟨a,c,L,rfl,rfl,yr hI h.res _ _,hb⟩
theorem Q6(a:Option Addr)(n c:Nat)(nx:Int)(L:List MI)(oa ob:ByteArray)(oo og on:Int)(od:ByteArray)(w:World)(hI:Items a n L w)(hS:Small11 L n ⟨11,oa,ob,oo,og,on,od⟩){na:List ByteArray}(ha:spl oa=some na):
  Calls prog 11 #[fv a n c nx,.agg #[.int .i64 11,.string oa,.string ob,.int .i64 oo,.int .i64 og,.int .i64 on,.string od]] w (DoR (Fs.doE env ⟨its L,nx⟩ ⟨11,oa,ob,oo,og,on,od⟩) w):=by
 have HFi:=hid (λW (hb:Below w.heap.size w W)=>xJ a n c nx L oa W (hI.below hb) hS.n5 hS.ents.fewE hS.a)
 have HSet:=hid (λi k m dd t ea ec es W (hb:Below w.heap.size w W) (hE:Ents ea (List.length es) es W)=>xv a n c nx L i k m dd t ea ec es W (hI.below hb) hS.n5 hE)
 have HI:=hid (λW (hb:Below w.heap.size w W)=>hI.below hb)
 have HNL:=hid hI.count
 have HB:=hid (show Ob w a n c nx ⟨11,oa,ob,oo,og,on,od⟩ (((w.alloc (.cells #[.slice a n c,.int .i64 nx] 29)).alloc (.cells #[.int .i64 11,.string oa,.string ob,.int .i64 oo,.int .i64 og,.int .i64 on,.string od] 34)).alloc (.cells #[.slice none 0 0,.int .i64 0] 29))from zQ w a n c nx ⟨11,oa,ob,oo,og,on,od⟩)
 have HSp:=hid (λW=>zi oa W hS.a)
 have HSq:=hid (λW=>zi ob W hS.b)
 clear hI hS
 obtain⟨ns,hns⟩: ∃ns,Nm.split oa.data.toList=some ns:=by
  unfold spl at ha
  cases hq:Nm.split oa.data.toList with
  |none=>rw[hq]at ha;cases ha
  |some ns=>exact⟨ns,rfl⟩
 have HNs:=hid hns
 clear hns
 have HR:=hid (show Fs.act env ⟨its L,nx⟩ ⟨11,oa,ob,oo,og,on,od⟩=match Fs.walk (its L) 1 na with
   | .error e=> .error e
   | .ok i=>if on<0\/511<on then .error 1 else .ok ⟨Fs.setL (its L) i {Fs.nodeD (its L) i with mode:=on},nx⟩ by
  unfold Fs.act
  rw[if_neg (by show¬ ((11:Int)<1\/(11:Int)<11);decide),show env.sp oa=some na from ha]
  rfl)
 have HCases:=hid (show∀r,zF (its L) oa=r->(r.2.2≠0/\Fs.act env ⟨its L,nx⟩ ⟨11,oa,ob,oo,og,on,od⟩= .error r.2.2)\/(r.2.2=0/\Fs.act env ⟨its L,nx⟩ ⟨11,oa,ob,oo,og,on,od⟩=if on<0\/511<on then .error 1 else .ok ⟨Fs.setL (its L) r.1 {r.2.1 with mode:=on},nx⟩)from λr hr=>by
  rw[HR.out]
  rcases zT (l:=its L) ha with ⟨e,hne,hw,hf⟩|⟨i,hw,hf⟩
  ·rw[<-hr,hf,hw];exact .inl ⟨hne,rfl⟩
  ·rw[<-hr,hf,hw];exact .inr ⟨rfl,rfl⟩)
 go_enter func11,ntmps11
 go_wp2_with fail
 generalize ((w.alloc (.cells #[.slice a n c,.int .i64 nx] 29)).alloc (.cells #[.int .i64 11,.string oa,.string ob,.int .i64 oo,.int .i64 og,.int .i64 on,.string od] 34)).alloc (.cells #[.slice none 0 0,.int .i64 0] 29)=W0 at HB|-
 go_wp2_with fail
 refine(HSp.out W0).mono ?_
 rintro e w1 hX
 have HB1:=hid (HB.out.kept hX.below)
 obtain⟨ao,cap,rfl,-⟩:=hX.yes _ HNs.out
 clear hX HB
 have o2:w1.cell? ⟨w.heap.size+1,2,none⟩=some (.string ob):=cell_obj HB1.out.op 2
 dsimp only
 go_wp2_with fail
 refine(HSq.out w1).mono ?_
 rintro e w2 hY
 have HB2:=hid (HB1.out.kept hY.below)
 obtain⟨v2,code2,rfl⟩:=hY.form
 clear o2
 clear hY HB1
 have f0:=zn HB2.out.box
 have o0:w2.cell? ⟨w.heap.size+1,0,none⟩=some (.int .i64 11):=cell_obj HB2.out.op 0
 have o1:w2.cell? ⟨w.heap.size+1,1,none⟩=some (.string oa):=cell_obj HB2.out.op 1
 have o5:w2.cell? ⟨w.heap.size+1,5,none⟩=some (.int .i64 on):=cell_obj HB2.out.op 5
 have r0:=zn HB2.out.res
 have q0:=zH HB2.out.res
 dsimp only
 go_wp2_with fail
 all_goals
  refine(HFi.out w2 HB2.out.below).mono ?_
  obtain⟨r,hr⟩: ∃r,zF (its L) oa=r:=⟨_,rfl⟩
  have HC:=hid (HCases.out r hr)
  rw[hr]
  clear hr
  obtain⟨i,⟨k,m,d,t,es⟩,code⟩:=r
  rintro e w3 ⟨ea,ec,rfl,hE,hb3⟩
  have HB3:=hid (HB2.out.kept hb3)
  have HB4:=hid (HB3.out.kept (below_one w3 (.cells #[.int .i64 k,.int .i64 m,.string d,.string t,.slice ea es.length ec] 43)))
  have HE3:=hid hE
  have HX4:=hid (hE.below (below_one w3 (.cells #[.int .i64 k,.int .i64 m,.string d,.string t,.slice ea es.length ec] 43)))
  clear f0 o0 o1 o5 r0 q0
  clear hb3 hE
  dsimp only
  rcases HC.out with ⟨hne,ha2⟩|⟨hz,ha2⟩
  ·have HA:=hid ha2
   clear ha2
   dsimp only at hne
   have f0:=zn HB4.out.box
   have r0:=zn HB4.out.res
   have q0:=zH HB4.out.res
   go_wp2_with fail
   refine bodyPost_ret_by (za rfl _ _ (w.heap.size+1+1) _ _ rfl (set2 _ _ HB4.out.res)) rfl ?_
   exact zo code HB4.out HI.out HNL.out (by unfold Fs.doE;rw[HA.out])
  ·dsimp only at hz
   subst hz
   by_cases h1:on<0
   ·have HA:=hid (ha2.trans (if_pos (.inl h1)))
    clear ha2
    have f0:=zn HB4.out.box
    have o0:(w3.alloc (.cells #[.int .i64 k,.int .i64 m,.string d,.string t,.slice ea es.length ec] 43)).cell? ⟨w.heap.size+1,0,none⟩=some (.int .i64 11):=cell_obj HB4.out.op 0
    have o5:(w3.alloc (.cells #[.int .i64 k,.int .i64 m,.string d,.string t,.slice ea es.length ec] 43)).cell? ⟨w.heap.size+1,5,none⟩=some (.int .i64 on):=cell_obj HB4.out.op 5
    have r0:=zn HB4.out.res
    have q0:=zH HB4.out.res
    go_wp2_with fail
    refine bodyPost_ret_by (za rfl _ _ (w.heap.size+1+1) _ _ rfl (set2 _ _ HB4.out.res)) rfl ?_
    exact zo 1 HB4.out HI.out HNL.out (by unfold Fs.doE;rw[HA.out])
   by_cases h2:511<on
   ·have HA:=hid (ha2.trans (if_pos (.inr h2)))
    clear ha2
    have f0:=zn HB4.out.box
    have o0:(w3.alloc (.cells #[.int .i64 k,.int .i64 m,.string d,.string t,.slice ea es.length ec] 43)).cell? ⟨w.heap.size+1,0,none⟩=some (.int .i64 11):=cell_obj HB4.out.op 0
    have o5:(w3.alloc (.cells #[.int .i64 k,.int .i64 m,.string d,.string t,.slice ea es.length ec] 43)).cell? ⟨w.heap.size+1,5,none⟩=some (.int .i64 on):=cell_obj HB4.out.op 5
    have r0:=zn HB4.out.res
    have q0:=zH HB4.out.res
    go_wp2_with fail
    refine bodyPost_ret_by (za rfl _ _ (w.heap.size+1+1) _ _ rfl (set2 _ _ HB4.out.res)) rfl ?_
    exact zo 1 HB4.out HI.out HNL.out (by unfold Fs.doE;rw[HA.out])
   have HA:=hid (ha2.trans (if_neg (by rintro (h|h);exact h1 h;exact h2 h)))
   have HB5:=hid (HB3.out.kept (below_one w3 (.cells #[.int .i64 k,.int .i64 on,.string d,.string t,.slice ea es.length ec] 43)))
   have HX5:=hid (HE3.out.below (below_one w3 (.cells #[.int .i64 k,.int .i64 on,.string d,.string t,.slice ea es.length ec] 43)))
   clear ha2 HB4 HX4
   have o0:(w3.alloc (.cells #[.int .i64 k,.int .i64 m,.string d,.string t,.slice ea es.length ec] 43)).cell? ⟨w.heap.size+1,0,none⟩=some (.int .i64 11):=cell_obj (HB3.out.kept (below_one w3 (.cells #[.int .i64 k,.int .i64 m,.string d,.string t,.slice ea es.length ec] 43))).op 0
   have o5:(w3.alloc (.cells #[.int .i64 k,.int .i64 m,.string d,.string t,.slice ea es.length ec] 43)).cell? ⟨w.heap.size+1,5,none⟩=some (.int .i64 on):=cell_obj (HB3.out.kept (below_one w3 (.cells #[.int .i64 k,.int .i64 m,.string d,.string t,.slice ea es.length ec] 43))).op 5
   have f0:=zn HB5.out.box
   go_wp2_with fail
   refine(HSet.out i k on d t ea ec es _ HB5.out.below HX5.out).mono ?_
   rintro e w6 ⟨a6,c6,L6,hL6,rfl,hI6,hb6⟩
   have HB6:=hid (HB5.out.kept hb6)
   have HI6:=hid hI6
   have HL6:=hid hL6
   clear hb6 hI6 hL6 f0 o0 o5
   obtain⟨n6,hn6⟩: ∃n6,n6=L6.length:=⟨_,rfl⟩
   rw[<-hn6]
   have HN6:=hid hn6
   clear hn6
   have r0:=zn HB6.out.res
   have q0:=zH HB6.out.res
   dsimp only
   go_wp2_with fail
   refine bodyPost_ret_by (za rfl _ _ (w.heap.size+1+1) _ _ rfl (set2 _ _ HB6.out.res)) rfl ?_
   exact zL 0 HB6.out HI6.out HN6.out (by unfold Fs.doE;rw[HA.out,HL6.out])
theorem xW{l:List Fs.Item}{p:ByteArray}{nb:List ByteArray}(h:spl p=some nb)(q:Int×ByteArray×Int×Int)(hq:xQ l p=q):
  (q.2.2.2≠0/\Fs.fresh l nb= .error q.2.2.2)\/(q.2.2.2=0/\Fs.fresh l nb= .ok (q.1,q.2.1)/\q.2.2.1=((Fs.nodeD l q.1).ents.length:Int)):=by
 subst hq
 unfold xQ
 rw[h]
 simp only[Option.getD_some]
 cases hf:Fs.fresh l nb with
 |ok r=>exact .inr ⟨rfl,rfl,rfl⟩
 | error e=>
  refine .inl ⟨?_,rfl⟩
  simp only
  unfold Fs.fresh at hf
  rcases jS l nb with ⟨r,hp⟩|hp|hp|hp
  ·rw[hp]at hf
   simp only at hf
   split at hf
   ·injection hf with hf;omega
   ·cases hf
  ·rw[hp]at hf;injection hf with hf;omega
  ·rw[hp]at hf;injection hf with hf;omega
  ·rw[hp]at hf;injection hf with hf;omega
theorem vw{p:ByteArray}{nb:List ByteArray}(h:spl p=some nb): ∀x∈nb,x.size<=100000:=by
 unfold spl at h
 rw[Option.map_eq_some_iff]at h
 obtain⟨ns,hs,rfl⟩:=h
 intro x hx
 obtain⟨y,hy,rfl⟩:=List.mem_map.1 hx
 rw[lstr_size]
 have h1:=Nm.join_split hs
 unfold Nm.join at h1
 split at h1
 ·rename_i hx2
  exact Nat.le_trans (u7 (List.all_eq_true.1 hx2.2 y hy)) (by decide)
 ·cases h1
theorem JL{l:List Fs.Item}{nb:List ByteArray}{d:Int}{x:ByteArray}(h:Fs.place l nb= .ok (d,x)):x∈nb:=by
 rcases Gr.snoc_cases nb with rfl|⟨ps,y,rfl⟩
 ·cases h
 ·rw[place_end]at h
  cases hw:Fs.walk l 1 ps with
  |error e=>rw[hw]at h;cases h
  | ok k=>
   rw[hw]at h
   simp only at h
   split at h
   ·cases h
   ·injection h with h
    injection h with _ h
    rw[<-h];simp
theorem xP{l:List Fs.Item}{nb:List ByteArray}{d:Int}{x:ByteArray}(h:Fs.fresh l nb= .ok (d,x)):x∈nb:=by
 unfold Fs.fresh at h
 cases hp:Fs.place l nb with
 |error e=>rw[hp]at h;cases h
 | ok r=>
  obtain⟨r1,r2⟩:=r
  rw[hp]at h
  simp only at h
  split at h
  ·cases h
  ·injection h with h
   injection h with h1 h2
   subst h1 h2
   exact JL hp
end Go.Proofs.YtabmamofnhcgbaaGreatDoor
namespace Go.Proofs.YtabmamofnhcgbaaGreatDoor
open Go.RowKit Go.Less
open T8 (pv Dg vW vI vJ)
attribute [local go_sem 9000] zg zf
theorem xU{p:ByteArray}{ns:List ByteArray}(h:spl p=some ns): ∃us,Nm.split p.data.toList=some us/\ns=us.map lstr:=by
 unfold spl at h
 cases hq:Nm.split p.data.toList with
 |none=>rw[hq]at h;cases h
 |some us=>rw[hq]at h;injection h with h;exact⟨us,rfl,h.symm⟩
theorem zbL{us:List (List UInt8)}(h8:us.length<=8)(hr:us.all Nm.right=true):spl (lstr (Nm.pathOf us))=some (us.map lstr):=by
 unfold spl
 rw[show(lstr (Nm.pathOf us)).data.toList=Nm.pathOf us from rfl,Nm.path_split h8 hr];rfl
theorem zab{us:List (List UInt8)}(h8:us.length<=8)(hr:us.all Nm.right=true):(lstr (Nm.pathOf us)).size<=100000:=by
 rw[lstr_size,qm,List.length_cons]
 have:=Yf h8 hr
 omega
theorem kz{l:List Fs.Item}{ns:List ByteArray}{e:Int}(h:Fs.place l ns= .error e):e≠0:=by
 rcases jS l ns with ⟨r,hp⟩|hp|hp|hp
 ·rw[hp]at h;cases h
 all_goals (rw[hp]at h;injection h with h;omega)
theorem ql{l:List Fs.Item}{ns:List ByteArray}{e:Int}(h:Fs.place l ns= .error e){w W:World}(hb:Below w.heap.size w W):
  Qq (Fs.place l ns) l w (.returned (.tuple #[.agg #[.int .i64 0,.int .i64 0,.int .i64 0,.string ⟨#[]⟩,.string ⟨#[]⟩,.slice none 0 0,.string ⟨#[]⟩],.int .i64 e])) W:=by
 refine⟨hb, ?_⟩
 rw[h]
 exact⟨kz h,rfl⟩
theorem vG(m:Option Nat)(nx:Int)(l:List Fs.Item)(p:ByteArray)(ns:List ByteArray)(w:World)(h:Sv w m l)(hp:p.size<=140737488355328)(hs:spl p=some ns):Calls prog 140 #[stv m nx,.string p] w (Qq (Fs.place l ns) l w):=by
 obtain⟨us,hus,rfl⟩:=xU hs
 obtain⟨h8,hr⟩:=yh hus
 have HPa:=hid (λW=>ZH p W hp)
 rcases Gr.snoc_cases (us.map lstr)with hnil|⟨_,_,hsn⟩
 ·have hu0:us=[]:=by simpa using hnil
  subst hu0
  have hPR:xw p.data.toList=([],[],17):=by unfold xw;rw[hus];rfl
  have HPo:=hid (show∀W,Calls prog 191 #[.string p] W λe w'=>e= .returned (.tuple #[.string ⟨#[]⟩,.string ⟨#[]⟩,.int .i64 17])/\Below W.heap.size W w' from λW=>(HPa.out W).mono λe w' hx=>by unfold xS at hx;rw[hPR]at hx;exact hx)
  have HR:=hid (show Fs.place l (List.map lstr [])= .error 5 from rfl)
  clear h hPR HPa hus hs hr h8 hnil
  have HB:=hid (show Bxs w [(w.heap.size,#[pv m,.int .i64 nx],98),(w.heap.size+1,#[.int .i64 0,.int .i64 0,.int .i64 0,.string ⟨#[]⟩,.string ⟨#[]⟩,.slice none 0 0,.string ⟨#[]⟩],199)] ((w.alloc (.cells #[pv m,.int .i64 nx] 98)).alloc (.cells #[.int .i64 0,.int .i64 0,.int .i64 0,.string ⟨#[]⟩,.string ⟨#[]⟩,.slice none 0 0,.string ⟨#[]⟩] 199))from Bxs.two w _ _ _ _)
  go_enter func140,ntmps140
  go_wp2_with fail
  generalize (w.alloc (.cells #[pv m,.int .i64 nx] 98)).alloc (.cells #[.int .i64 0,.int .i64 0,.int .i64 0,.string ⟨#[]⟩,.string ⟨#[]⟩,.slice none 0 0,.string ⟨#[]⟩] 199)=W0 at HB|-
  go_wp2_with fail
  refine(HPo.out W0).mono ?_
  rintro e w1 ⟨rfl,hb⟩
  have HB:=hid (HB.out.kept hb)
  dsimp only
  go_wp2_with (first|(refine zb HB.out 1 rfl 199 _ _ rfl rfl #[.int .i64 0,.int .i64 0,.int .i64 0,.string ⟨#[]⟩,.string ⟨#[]⟩,.slice none 0 0,.string ⟨#[]⟩] rfl rfl (by kernel_rfl) rfl rfl (by decide) (by decide) ?_;intro w2 hS hK hbS hsS;have HBS:=hid hS;clear hS hK hbS hsS;have HB:=HBS;clear HBS)|fail)
  refine bodyPost_ret_by (yW rfl _ _ (w.heap.size+1) _ _ _ _ _ _ _ rfl (HB.out.obj 1 rfl)) rfl ?_
  exact ql HR.out HB.out.below
 ·rcases List.eq_nil_or_concat us with rfl|⟨vs,x,rfl⟩
  ·simp at hsn
  clear hsn
  rw[List.concat_eq_append]at*
  have hPR:xw p.data.toList=(Nm.pathOf vs,x,0):=by
   unfold xw
   rw[hus]
   show(if _ then _ else _)=_
   rw[if_neg (by simp),List.dropLast_concat,List.getLastD_concat]
  have HPo:=hid (show∀W,Calls prog 191 #[.string p] W λe w'=>e= .returned (.tuple #[.string (lstr (Nm.pathOf vs)),.string (lstr x),.int .i64 0])/\Below W.heap.size W w' from λW=>(HPa.out W).mono λe w' hx=>by unfold xS at hx;rw[hPR]at hx;exact hx)
  have hv8:vs.length<=8:=by rw[List.length_append]at h8;omega
  have hvr:vs.all Nm.right=true:=by rw[List.all_append,Bool.and_eq_true]at hr;exact hr.1
  have HFi:=hid (λW (hb:Below w.heap.size w W)=>xh m nx l (lstr (Nm.pathOf vs)) W (h.below hb) (Nat.le_trans (zab hv8 hvr) (by decide)))
  have hsp:=zbL hv8 hvr
  have HPl:=hid (show Fs.place l ((vs++[x]).map lstr)=match Fs.walk l 1 (vs.map lstr)with
   | .error e=> .error e
   | .ok d=>if(Fs.nodeD l d).kind≠2 then .error 10 else .ok (d,lstr x) by rw[List.map_append];exact Fs.place_snoc l _ _)
  rw[show Fs.place l ((vs++[x]).map lstr)=Fs.place l ((vs++[x]).map lstr)from rfl]
  generalize lstr (Nm.pathOf vs)=pp at*
  generalize (vs++[x]).map lstr=nn at*
  generalize lstr x=y at*
  generalize vs.map lstr=vv at*
  clear h hPR HPa hus hs hr h8 hv8 hvr
  rcases zT hsp with ⟨ec,hne,hw,hf⟩|⟨i,hw,hf⟩
  ·have HR:=hid (show Fs.place l nn= .error ec by rw[HPl.out,hw])
   have HF:=hid (show∀W,Below w.heap.size w W->Calls prog 62 #[stv m nx,.string pp] W (zU (0,Nd.none0,ec) W)from λW hb=>hf▸HFi.out W hb)
   clear HFi hf hw HPl hsp
   have HB:=hid (show Bxs w [(w.heap.size,#[pv m,.int .i64 nx],98),(w.heap.size+1,#[.int .i64 0,.int .i64 0,.int .i64 0,.string ⟨#[]⟩,.string ⟨#[]⟩,.slice none 0 0,.string ⟨#[]⟩],199)] ((w.alloc (.cells #[pv m,.int .i64 nx] 98)).alloc (.cells #[.int .i64 0,.int .i64 0,.int .i64 0,.string ⟨#[]⟩,.string ⟨#[]⟩,.slice none 0 0,.string ⟨#[]⟩] 199))from Bxs.two w _ _ _ _)
   go_enter func140,ntmps140
   go_wp2_with fail
   generalize (w.alloc (.cells #[pv m,.int .i64 nx] 98)).alloc (.cells #[.int .i64 0,.int .i64 0,.int .i64 0,.string ⟨#[]⟩,.string ⟨#[]⟩,.slice none 0 0,.string ⟨#[]⟩] 199)=W0 at HB|-
   go_wp2_with fail
   refine(HPo.out W0).mono ?_
   rintro e w1 ⟨rfl,hb⟩
   have HB:=hid (HB.out.kept hb)
   have b0:=HB.out.c2 0 rfl
   dsimp only
   go_wp2_with fail
   refine(HF.out w1 HB.out.below).mono ?_
   rintro e w2 ⟨ea,eb,rfl,hE,hb⟩
   clear hE
   have HB:=hid (HB.out.kept hb)
   clear b0
   have HB:=hid (HB.out.more #[.int .i64 0,.int .i64 0,.string ⟨#[]⟩,.string ⟨#[]⟩,.slice ea 0 eb] 43 rfl)
   dsimp only
   go_wp2_with (first|(refine zb HB.out 1 rfl 199 _ _ rfl rfl #[.int .i64 0,.int .i64 0,.int .i64 0,.string ⟨#[]⟩,.string ⟨#[]⟩,.slice none 0 0,.string ⟨#[]⟩] rfl rfl (by kernel_rfl) rfl rfl (by decide) (by decide) ?_;intro w3 hS hK hbS hsS;have HBS:=hid hS;clear hS hK hbS hsS;have HB:=HBS;clear HBS)|fail)
   refine bodyPost_ret_by (yW rfl _ _ (w.heap.size+1) _ _ _ _ _ _ _ rfl (HB.out.obj 1 rfl)) rfl ?_
   exact ql HR.out HB.out.below
  ·by_cases hk2:(Fs.nodeD l i).kind=2
   ·have HR:=hid (show Fs.place l nn= .ok (i,y) by rw[HPl.out,hw];simp[hk2])
    have HF:=hid (show∀W,Below w.heap.size w W->Calls prog 62 #[stv m nx,.string pp] W (zU (i,Fs.nodeD l i,0) W)from λW hb=>hf▸HFi.out W hb)
    clear HFi hf hw HPl hsp
    obtain⟨xx,hxx⟩: ∃xx,Fs.nodeD l i=xx:=⟨_,rfl⟩
    rw[hxx]at hk2 HF
    have HX:=hid hxx
    clear hxx
    obtain⟨k,mo,d,t,es⟩:=xx
    dsimp only at hk2
    subst hk2
    have HB:=hid (show Bxs w [(w.heap.size,#[pv m,.int .i64 nx],98),(w.heap.size+1,#[.int .i64 0,.int .i64 0,.int .i64 0,.string ⟨#[]⟩,.string ⟨#[]⟩,.slice none 0 0,.string ⟨#[]⟩],199)] ((w.alloc (.cells #[pv m,.int .i64 nx] 98)).alloc (.cells #[.int .i64 0,.int .i64 0,.int .i64 0,.string ⟨#[]⟩,.string ⟨#[]⟩,.slice none 0 0,.string ⟨#[]⟩] 199))from Bxs.two w _ _ _ _)
    go_enter func140,ntmps140
    go_wp2_with fail
    generalize (w.alloc (.cells #[pv m,.int .i64 nx] 98)).alloc (.cells #[.int .i64 0,.int .i64 0,.int .i64 0,.string ⟨#[]⟩,.string ⟨#[]⟩,.slice none 0 0,.string ⟨#[]⟩] 199)=W0 at HB|-
    go_wp2_with fail
    refine(HPo.out W0).mono ?_
    rintro e w1 ⟨rfl,hb⟩
    have HB:=hid (HB.out.kept hb)
    have b0:=HB.out.c2 0 rfl
    dsimp only
    go_wp2_with fail
    refine(HF.out w1 HB.out.below).mono ?_
    rintro e w2 ⟨a,c,rfl,hE,hb⟩
    have hbk:=hb
    have HEn:=hid (hE.below (below_one w2 (.cells #[.int .i64 2,.int .i64 mo,.string d,.string t,.slice a es.length c] 43)))
    clear hE
    have HB:=hid (HB.out.kept hbk)
    clear b0
    clear hbk
    have HB:=hid (HB.out.more #[.int .i64 2,.int .i64 mo,.string d,.string t,.slice a es.length c] 43 rfl)
    dsimp only
    go_wp2_with (first|(refine zb HB.out 1 rfl 199 _ _ rfl rfl #[.int .i64 i,.int .i64 2,.int .i64 mo,.string d,.string t,.slice a es.length c,.string y] rfl rfl (by kernel_rfl) rfl rfl (by decide) (by decide) ?_;intro w3 hS hK hbS hsS;have HBS:=hid hS;have HEn:=hid (hK.ents (HB.out.obj 1 rfl) (V5 _ _ _ _ _ _ _ _ _) HEn.out);clear hS hK hbS hsS;have HB:=HBS;clear HBS)|fail)
    refine bodyPost_ret_by (yW rfl _ _ (w.heap.size+1) _ _ _ _ _ _ _ rfl (HB.out.obj 1 rfl)) rfl ?_
    exact⟨HB.out.below,by rw[HR.out];simp only[HX.out];exact⟨a,c,rfl,HEn.out⟩⟩
   ·have HR:=hid (show Fs.place l nn= .error 10 by rw[HPl.out,hw];simp[hk2])
    have HF:=hid (show∀W,Below w.heap.size w W->Calls prog 62 #[stv m nx,.string pp] W (zU (i,Fs.nodeD l i,0) W)from λW hb=>hf▸HFi.out W hb)
    clear HFi hf hw HPl hsp
    obtain⟨xx,hxx⟩: ∃xx,Fs.nodeD l i=xx:=⟨_,rfl⟩
    rw[hxx]at hk2 HF
    have HX:=hid hxx
    clear hxx
    obtain⟨k,mo,d,t,es⟩:=xx
    dsimp only at hk2
    have HB:=hid (show Bxs w [(w.heap.size,#[pv m,.int .i64 nx],98),(w.heap.size+1,#[.int .i64 0,.int .i64 0,.int .i64 0,.string ⟨#[]⟩,.string ⟨#[]⟩,.slice none 0 0,.string ⟨#[]⟩],199)] ((w.alloc (.cells #[pv m,.int .i64 nx] 98)).alloc (.cells #[.int .i64 0,.int .i64 0,.int .i64 0,.string ⟨#[]⟩,.string ⟨#[]⟩,.slice none 0 0,.string ⟨#[]⟩] 199))from Bxs.two w _ _ _ _)
    go_enter func140,ntmps140
    go_wp2_with fail
    generalize (w.alloc (.cells #[pv m,.int .i64 nx] 98)).alloc (.cells #[.int .i64 0,.int .i64 0,.int .i64 0,.string ⟨#[]⟩,.string ⟨#[]⟩,.slice none 0 0,.string ⟨#[]⟩] 199)=W0 at HB|-
    go_wp2_with fail
    refine(HPo.out W0).mono ?_
    rintro e w1 ⟨rfl,hb⟩
    have HB:=hid (HB.out.kept hb)
    have b0:=HB.out.c2 0 rfl
    dsimp only
    go_wp2_with fail
    refine(HF.out w1 HB.out.below).mono ?_
    rintro e w2 ⟨a,c,rfl,hE,hb⟩
    clear hE
    have HB:=hid (HB.out.kept hb)
    clear b0
    have HB:=hid (HB.out.more #[.int .i64 k,.int .i64 mo,.string d,.string t,.slice a es.length c] 43 rfl)
    dsimp only
    go_wp2_with (first|(refine zb HB.out 1 rfl 199 _ _ rfl rfl #[.int .i64 0,.int .i64 0,.int .i64 0,.string ⟨#[]⟩,.string ⟨#[]⟩,.slice none 0 0,.string ⟨#[]⟩] rfl rfl (by kernel_rfl) rfl rfl (by decide) (by decide) ?_;intro w3 hS hK hbS hsS;have HBS:=hid hS;clear hS hK hbS hsS;have HB:=HBS;clear HBS)|fail)
    refine bodyPost_ret_by (yW rfl _ _ (w.heap.size+1) _ _ _ _ _ _ _ rfl (HB.out.obj 1 rfl)) rfl ?_
    exact ql HR.out HB.out.below
theorem kN{l:List Fs.Item}{ns:List ByteArray}{e:Int}(h:Fs.fresh l ns= .error e):e≠0:=by
 unfold Fs.fresh at h
 cases hp:Fs.place l ns with
 |error e'=>rw[hp]at h;injection h with h;rw[<-h];exact kz hp
 |ok r=>
  rw[hp]at h
  simp only at h
  split at h
  ·injection h with h;omega
  ·cases h
theorem Z0{l:List Fs.Item}{ns:List ByteArray}{e:Int}(h:Fs.fresh l ns= .error e){w W:World}(hb:Below w.heap.size w W):
  Qq (Fs.fresh l ns) l w (.returned (.tuple #[.agg #[.int .i64 0,.int .i64 0,.int .i64 0,.string ⟨#[]⟩,.string ⟨#[]⟩,.slice none 0 0,.string ⟨#[]⟩],.int .i64 e])) W:=by
 refine⟨hb, ?_⟩
 rw[h]
 exact⟨kN h,rfl⟩
theorem ZI(m:Option Nat)(nx:Int)(l:List Fs.Item)(p:ByteArray)(ns:List ByteArray)(w:World)(h:Sv w m l)(hp:p.size<=140737488355328)(hs:spl p=some ns):Calls prog 139 #[stv m nx,.string p] w (Qq (Fs.fresh l ns) l w):=by
 have HPl:=hid (λW (hb:Below w.heap.size w W)=>vG m nx l p ns W (h.below hb) hp hs)
 have HSm:=hid h.ok.small
 clear h
 have hfr:Fs.fresh l ns=match Fs.place l ns with
  | .error e=> .error e
  | .ok (d,n)=>if(Nd.find (Fs.nodeD l d).ents n).isSome=true then .error 5 else .ok (d,n):=rfl
 cases hpl:Fs.place l ns with
 |error ec=>
  rw[hpl]at HPl hfr
  have HR:=hid hfr
  clear hfr hpl hs
  have HB:=hid (show Bxs w [(w.heap.size,#[pv m,.int .i64 nx],98),(w.heap.size+1,#[.int .i64 0,.int .i64 0,.int .i64 0,.string ⟨#[]⟩,.string ⟨#[]⟩,.slice none 0 0,.string ⟨#[]⟩],199)] ((w.alloc (.cells #[pv m,.int .i64 nx] 98)).alloc (.cells #[.int .i64 0,.int .i64 0,.int .i64 0,.string ⟨#[]⟩,.string ⟨#[]⟩,.slice none 0 0,.string ⟨#[]⟩] 199))from Bxs.two w _ _ _ _)
  go_enter func139,ntmps139
  go_wp2_with fail
  generalize (w.alloc (.cells #[pv m,.int .i64 nx] 98)).alloc (.cells #[.int .i64 0,.int .i64 0,.int .i64 0,.string ⟨#[]⟩,.string ⟨#[]⟩,.slice none 0 0,.string ⟨#[]⟩] 199)=W0 at HB|-
  go_wp2_with fail
  refine(HPl.out W0 HB.out.below).mono ?_
  rintro e w1 ⟨hb,_,rfl⟩
  have HB:=hid (HB.out.kept hb)
  have HB:=hid (HB.out.more #[.int .i64 0,.int .i64 0,.int .i64 0,.string ⟨#[]⟩,.string ⟨#[]⟩,.slice none 0 0,.string ⟨#[]⟩] 199 rfl)
  dsimp only
  go_wp2_with (first|(refine zb HB.out 1 rfl 199 _ _ rfl rfl #[.int .i64 0,.int .i64 0,.int .i64 0,.string ⟨#[]⟩,.string ⟨#[]⟩,.slice none 0 0,.string ⟨#[]⟩] rfl rfl (by kernel_rfl) rfl rfl (by decide) (by decide) ?_;intro w2 hS hK hbS hsS;have HBS:=hid hS;clear hS hK hbS hsS;have HB:=HBS;clear HBS)|fail)
  refine bodyPost_ret_by (yW rfl _ _ (w.heap.size+1) _ _ _ _ _ _ _ rfl (HB.out.obj 1 rfl)) rfl ?_
  exact Z0 HR.out HB.out.below
 | ok r=>
  obtain⟨dn,y⟩:=r
  rw[hpl]at HPl hfr
  have HR:=hid (show Fs.fresh l ns=if(Nd.find (Fs.nodeD l dn).ents y).isSome=true then .error 5 else .ok (dn,y)from hfr)
  have HFi:=hid (HSm.out dn)
  clear hfr hpl hs
  obtain⟨xx,hxx⟩: ∃xx,Fs.nodeD l dn=xx:=⟨_,rfl⟩
  have HX:=hid hxx
  obtain⟨k,mo,d,t,es⟩:=xx
  have HPo:=hid (show∀W,Below w.heap.size w W->Calls prog 140 #[stv m nx,.string p] W λe w'=>Below W.heap.size W w'/\ ∃a c,e= .returned (.tuple #[.agg #[.int .i64 dn,.int .i64 k,.int .i64 mo,.string d,.string t,.slice a es.length c,.string y],.int .i64 0])/\Ents a es.length es w' from λW hb=>(HPl.out W hb).mono λe w' hx=>by
   obtain⟨hx1,hx2⟩:=hx
   simp only[hxx]at hx2
   exact⟨hx1,hx2⟩)
  have HFd:=hid (λW a c (h:Ents a es.length es W)=>find_any k mo d t a es.length c es y W h (Nat.le_trans (by have:=HFi.out;rw[hxx]at this;exact this) (by decide)))
  unfold vS at HFd
  rw[hxx]at HR
  clear HPl hxx HFi
  dsimp only at HR
  cases hf:Nd.find es y with
  |some k2=>
   rw[hf]at HFd HR
   have HR:=hid (show Fs.fresh l ns= .error 5 from HR.out)
   dsimp only[Option.getD,Option.isSome]at HFd
   clear hf
   have HB:=hid (show Bxs w [(w.heap.size,#[pv m,.int .i64 nx],98),(w.heap.size+1,#[.int .i64 0,.int .i64 0,.int .i64 0,.string ⟨#[]⟩,.string ⟨#[]⟩,.slice none 0 0,.string ⟨#[]⟩],199)] ((w.alloc (.cells #[pv m,.int .i64 nx] 98)).alloc (.cells #[.int .i64 0,.int .i64 0,.int .i64 0,.string ⟨#[]⟩,.string ⟨#[]⟩,.slice none 0 0,.string ⟨#[]⟩] 199))from Bxs.two w _ _ _ _)
   go_enter func139,ntmps139
   go_wp2_with fail
   generalize (w.alloc (.cells #[pv m,.int .i64 nx] 98)).alloc (.cells #[.int .i64 0,.int .i64 0,.int .i64 0,.string ⟨#[]⟩,.string ⟨#[]⟩,.slice none 0 0,.string ⟨#[]⟩] 199)=W0 at HB|-
   go_wp2_with fail
   refine(HPo.out W0 HB.out.below).mono ?_
   rintro e w1 ⟨hb,a,c,rfl,hE⟩
   have HEn:=hid (hE.below (below_one w1 (.cells #[.int .i64 dn,.int .i64 k,.int .i64 mo,.string d,.string t,.slice a es.length c,.string y] 199)))
   clear hE
   have HB:=hid (HB.out.kept hb)
   have HB:=hid (HB.out.more #[.int .i64 dn,.int .i64 k,.int .i64 mo,.string d,.string t,.slice a es.length c,.string y] 199 rfl)
   dsimp only
   go_wp2_with fail
   refine(HFd.out (w1.alloc (.cells #[.int .i64 dn,.int .i64 k,.int .i64 mo,.string d,.string t,.slice a es.length c,.string y] 199)) a c HEn.out).mono ?_
   rintro e w2 ⟨rfl,hb⟩
   have HB:=hid (HB.out.kept hb)
   dsimp only
   go_wp2_with (first|(refine zb HB.out 1 rfl 199 _ _ rfl rfl #[.int .i64 0,.int .i64 0,.int .i64 0,.string ⟨#[]⟩,.string ⟨#[]⟩,.slice none 0 0,.string ⟨#[]⟩] rfl rfl (by kernel_rfl) rfl rfl (by decide) (by decide) ?_;intro w3 hS hK hbS hsS;have HBS:=hid hS;clear hS hK hbS hsS;have HB:=HBS;clear HBS)|fail)
   refine bodyPost_ret_by (yW rfl _ _ (w.heap.size+1) _ _ _ _ _ _ _ rfl (HB.out.obj 1 rfl)) rfl ?_
   exact Z0 HR.out HB.out.below
  |none=>
   rw[hf]at HFd HR
   have HR:=hid (show Fs.fresh l ns= .ok (dn,y)from HR.out)
   dsimp only[Option.getD,Option.isSome]at HFd
   clear hf
   have HB:=hid (show Bxs w [(w.heap.size,#[pv m,.int .i64 nx],98),(w.heap.size+1,#[.int .i64 0,.int .i64 0,.int .i64 0,.string ⟨#[]⟩,.string ⟨#[]⟩,.slice none 0 0,.string ⟨#[]⟩],199)] ((w.alloc (.cells #[pv m,.int .i64 nx] 98)).alloc (.cells #[.int .i64 0,.int .i64 0,.int .i64 0,.string ⟨#[]⟩,.string ⟨#[]⟩,.slice none 0 0,.string ⟨#[]⟩] 199))from Bxs.two w _ _ _ _)
   go_enter func139,ntmps139
   go_wp2_with fail
   generalize (w.alloc (.cells #[pv m,.int .i64 nx] 98)).alloc (.cells #[.int .i64 0,.int .i64 0,.int .i64 0,.string ⟨#[]⟩,.string ⟨#[]⟩,.slice none 0 0,.string ⟨#[]⟩] 199)=W0 at HB|-
   go_wp2_with fail
   refine(HPo.out W0 HB.out.below).mono ?_
   rintro e w1 ⟨hb,a,c,rfl,hE⟩
   have HEn:=hid (hE.below (below_one w1 (.cells #[.int .i64 dn,.int .i64 k,.int .i64 mo,.string d,.string t,.slice a es.length c,.string y] 199)))
   clear hE
   have HB:=hid (HB.out.kept hb)
   have HB:=hid (HB.out.more #[.int .i64 dn,.int .i64 k,.int .i64 mo,.string d,.string t,.slice a es.length c,.string y] 199 rfl)
   dsimp only
   go_wp2_with fail
   refine(HFd.out (w1.alloc (.cells #[.int .i64 dn,.int .i64 k,.int .i64 mo,.string d,.string t,.slice a es.length c,.string y] 199)) a c HEn.out).mono ?_
   rintro e w2 ⟨rfl,hb⟩
   have HEn:=hid (HEn.out.below hb)
   have HB:=hid (HB.out.kept hb)
   have b2:=HB.out.c7 2 rfl
   dsimp only
   go_wp2_with (first|(refine zb HB.out 1 rfl 199 _ _ rfl rfl #[.int .i64 dn,.int .i64 k,.int .i64 mo,.string d,.string t,.slice a es.length c,.string y] rfl rfl (by kernel_rfl) rfl rfl (by decide) (by decide) ?_;intro w3 hS hK hbS hsS;have HBS:=hid hS;have HEn:=hid (hK.ents (HB.out.obj 1 rfl) (V5 _ _ _ _ _ _ _ _ _) HEn.out);clear hS hK hbS hsS;have HB:=HBS;clear HBS;clear b2)|fail)
   refine bodyPost_ret_by (yW rfl _ _ (w.heap.size+1) _ _ _ _ _ _ _ rfl (HB.out.obj 1 rfl)) rfl ?_
   exact⟨HB.out.below,by rw[HR.out];simp only[HX.out];exact⟨a,c,rfl,HEn.out⟩⟩
end Go.Proofs.YtabmamofnhcgbaaGreatDoor
namespace Go.Proofs.YtabmamofnhcgbaaGreatDoor
open Go.RowKit Go.Less
open T8 (pv Dg vW vI vJ Rp)
attribute [local go_sem 9000] zg zf
def Mapt(l:List Fs.Item)(nx:Int)(w:World)(e:Ending)(w':World):Prop:= ∃m,e= .returned (stv m nx)/\Sv w' m l/\Below w.heap.size w w'
theorem Right.smallS{x:Nd.Node}(h:Nd.Right less Nm.right x):Small x.data x.target x.ents.length x.ents:=by
 refine⟨Nat.le_trans h.len (by decide),λe he=> ?_, ?_, ?_⟩
 ·have:=u7 (h.ok e he).1
  rw[Nd.len_bs]at this
  omega
 ·rcases h.kinds with ⟨_,_,_,e⟩|⟨_,_,e⟩|⟨_,e,_⟩
  ·omega
  ·rw[e];decide
  ·rw[e];decide
 ·rcases h.kinds with ⟨_,e,_⟩|⟨_,e,_⟩|⟨_,_,_,_,e⟩
  ·rw[e];decide
  ·rw[e];decide
  ·omega
theorem vz(m:Option Nat)(nx:Int)(l:List Fs.Item)(i:Int)(x:Nd.Node)(a:Option Addr)(c:Nat)(w:World)(h:Sv w m l)(hE:Ents a x.ents.length x.ents w)(hR:Nd.Right less Nm.right x)(hi:1<=i/\i<=2147483647)
  (hin:(Fs.node l i).isSome=true\/ ∀y∈l,y.1<i) (hf:l.length<=900):Calls prog 45 #[stv m nx,.int .i64 i,nv x.kind x.mode x.data x.target a x.ents.length c] w (Mapt (Fs.setL l i x) nx w):=by
 have HPr:=hid (λW (hb:Below w.heap.size w W)=>zer (k:=x.kind) (m:=x.mode) (c:=c) W (hE.below hb) (Right.smallS hR) (KY hR))
 have HK:=hid (λW=>jv i W (by omega) (by omega))
 have HPu:=hid (show∀W,Below w.heap.size w W->Calls prog 27 #[pv m,.string (Fs.key i),.string (Fs.txt x)] W (vW (Fs.kv (Fs.setL l i x)) W)from λW hb=>by
  rw[<-Fs.put_kv h.ok.ub h.ok.inos (by omega) x hin]
  exact vI (h.rp.below hb) (h.dg.below hb) (by rw[Fs.kv_len];omega) _ _ (by rw[Fs.key_size];decide) (uM hR))
 have HOk:=hid (h.ok.set hi hR hin (by omega))
 have HD:=hid h.dg
 clear h hE hin hf
 have HB:=hid (show Bxs w [(w.heap.size,#[pv m,.int .i64 nx],98),(w.heap.size+1,#[.int .i64 x.kind,.int .i64 x.mode,.string x.data,.string x.target,.slice a x.ents.length c],43),(w.heap.size+1+1,#[.pointer none,.int .i64 0],98)] (((w.alloc (.cells #[pv m,.int .i64 nx] 98)).alloc (.cells #[.int .i64 x.kind,.int .i64 x.mode,.string x.data,.string x.target,.slice a x.ents.length c] 43)).alloc (.cells #[.pointer none,.int .i64 0] 98))from Bxs.three w _ _ _ _ _ _)
 go_enter func45,ntmps45
 go_wp2_with fail
 generalize ((w.alloc (.cells #[pv m,.int .i64 nx] 98)).alloc (.cells #[.int .i64 x.kind,.int .i64 x.mode,.string x.data,.string x.target,.slice a x.ents.length c] 43)).alloc (.cells #[.pointer none,.int .i64 0] 98)=W0 at HB|-
 go_wp2_with fail
 refine(HPr.out W0 HB.out.below).mono ?_
 rintro e w1 ⟨rfl,hb⟩
 have HB:=hid (HB.out.kept hb)
 obtain⟨b0_0,b0_1⟩:=HB.out.c2 0 rfl
 dsimp only
 have HSx:=hid (show∀W,Below w1.heap.size w1 W->Bxs w [(w.heap.size,#[pv m,.int .i64 nx],98),(w.heap.size+1,#[.int .i64 x.kind,.int .i64 x.mode,.string x.data,.string x.target,.slice a x.ents.length c],43),(w.heap.size+1+1,#[.pointer none,.int .i64 0],98)] W from λW hb=>HB.out.kept hb)
 have hBd:=(Below.refl w1.heap.size w1).drew
 go_wp2_with fail
 go_region_law (first
  |(go_simp;(with_reducible refine(HPu.out _ (HSx.out _ (by assumption)).below).mono ?_);rintro e w5 ⟨m5,rfl,hrp,hb5⟩;have hB5:=T8.btrans hb5 (by assumption);have b0_0:=(HSx.out _ hB5).cell 0 rfl 0;have q5:=(HSx.out _ hB5).free 0 rfl 0)
  |(go_simp;(with_reducible refine(HK.out _).mono ?_);rintro e w4 ⟨rfl,hb4⟩;have hB4:=T8.btrans hb4 (by assumption);have b0_0:=(HSx.out _ hB4).cell 0 rfl 0))
 all_goals
  have HB6:=hid (show Bxs w [(w.heap.size,#[pv m5,.int .i64 nx],98),(w.heap.size+1,#[.int .i64 x.kind,.int .i64 x.mode,.string x.data,.string x.target,.slice a x.ents.length c],43),(w.heap.size+1+1,#[.pointer none,.int .i64 0],98)] (w5.setCell ⟨w.heap.size,0,none⟩ (pv m5))from(HSx.out _ hB5).put 0 rfl 0 _)
  have HS6:=hid (Sv.kept (⟨hrp,HOk.out,HD.out.below (HSx.out _ hB5).below⟩:Sv w5 m5 (Fs.setL l i x)) (Kept.cell ((HSx.out _ hB5).obj 0 rfl) (by decide) (by decide) 0 (pv m5)) (HD.out.below HB6.out.below))
  clear q5 hrp hb5 hB5
  have HB:=HB6
  clear HB6
  generalize w5.setCell ⟨w.heap.size,0,none⟩ (.pointer (T8.ap m5))=W6 at HB HS6|-
  obtain⟨b0_0,b0_1⟩:=HB.out.c2 0 rfl
  go_wp2_with (first|(refine zb HB.out 2 rfl 98 _ _ rfl rfl #[pv m5,.int .i64 nx] rfl rfl (by kernel_rfl) rfl rfl (by decide) (by decide) ?_;intro w2 hS hK hbS hsS;have HBS:=hid hS;have HS6:=hid (HS6.out.kept hK (HD.out.below hbS));clear hS hK hbS hsS;have HB:=HBS;clear HBS;clear b0_0 b0_1)|fail)
  refine bodyPost_ret_by (qF rfl _ _ (w.heap.size+1+1) _ _ rfl (HB.out.obj 2 rfl)) rfl ?_
  exact⟨m5,rfl,HS6.out,HB.out.below⟩
theorem kF(m:Option Nat)(nx:Int)(l:List Fs.Item)(i:Int)(w:World)(h:Sv w m l)(hi:1<=i/\i<=2147483647)(hf:l.length<=900):Calls prog 137 #[stv m nx,.int .i64 i] w (Mapt (Fs.dropL l i) nx w):=by
 have HK:=hid (λW=>jv i W (by omega) (by omega))
 have HPu:=hid (show∀W,Below w.heap.size w W->Calls prog 189 #[pv m,.string (Fs.key i)] W (vW (Fs.kv (Fs.dropL l i)) W)from λW hb=>by
  rw[<-Fs.del_kv h.ok.ub (by omega)]
  exact vJ (h.rp.below hb) (h.dg.below hb) (by rw[Fs.kv_len];omega) _)
 have HOk:=hid (h.ok.drop i)
 have HD:=hid h.dg
 clear h hf
 have HB:=hid (show Bxs w [(w.heap.size,#[pv m,.int .i64 nx],98),(w.heap.size+1,#[.pointer none,.int .i64 0],98)] ((w.alloc (.cells #[pv m,.int .i64 nx] 98)).alloc (.cells #[.pointer none,.int .i64 0] 98))from Bxs.two w _ _ _ _)
 go_enter func137,ntmps137
 go_wp2_with fail
 generalize (w.alloc (.cells #[pv m,.int .i64 nx] 98)).alloc (.cells #[.pointer none,.int .i64 0] 98)=W0 at HB|-
 obtain⟨b0_0,b0_1⟩:=HB.out.c2 0 rfl
 go_wp2_with fail
 have HSx:=hid (show∀W,Below W0.heap.size W0 W->Bxs w [(w.heap.size,#[pv m,.int .i64 nx],98),(w.heap.size+1,#[.pointer none,.int .i64 0],98)] W from λW hb=>HB.out.kept hb)
 have hBd:=(Below.refl W0.heap.size W0).drew
 go_region_law (first
  |(go_simp;(with_reducible refine(HPu.out _ (HSx.out _ (by assumption)).below).mono ?_);rintro e w5 ⟨m5,rfl,hrp,hb5⟩;have hB5:=T8.btrans hb5 (by assumption);have b0_0:=(HSx.out _ hB5).cell 0 rfl 0;have q5:=(HSx.out _ hB5).free 0 rfl 0)
  |(go_simp;(with_reducible refine(HK.out _).mono ?_);rintro e w4 ⟨rfl,hb4⟩;have hB4:=T8.btrans hb4 (by assumption);have b0_0:=(HSx.out _ hB4).cell 0 rfl 0))
 all_goals
  have HB6:=hid (show Bxs w [(w.heap.size,#[pv m5,.int .i64 nx],98),(w.heap.size+1,#[.pointer none,.int .i64 0],98)] (w5.setCell ⟨w.heap.size,0,none⟩ (pv m5))from(HSx.out _ hB5).put 0 rfl 0 _)
  have HS6:=hid (Sv.kept (⟨hrp,HOk.out,HD.out.below (HSx.out _ hB5).below⟩:Sv w5 m5 (Fs.dropL l i)) (Kept.cell ((HSx.out _ hB5).obj 0 rfl) (by decide) (by decide) 0 (pv m5)) (HD.out.below HB6.out.below))
  clear q5 hrp hb5 hB5
  have HB:=HB6
  clear HB6
  generalize w5.setCell ⟨w.heap.size,0,none⟩ (.pointer (T8.ap m5))=W6 at HB HS6|-
  obtain⟨b0_0,b0_1⟩:=HB.out.c2 0 rfl
  go_wp2_with (first|(refine zb HB.out 1 rfl 98 _ _ rfl rfl #[pv m5,.int .i64 nx] rfl rfl (by kernel_rfl) rfl rfl (by decide) (by decide) ?_;intro w1 hS hK hbS hsS;have HBS:=hid hS;have HS6:=hid (HS6.out.kept hK (HD.out.below hbS));clear hS hK hbS hsS;have HB:=HBS;clear HBS;clear b0_0 b0_1)|fail)
  refine bodyPost_ret_by (qF rfl _ _ (w.heap.size+1) _ _ rfl (HB.out.obj 1 rfl)) rfl ?_
  exact⟨m5,rfl,HS6.out,HB.out.below⟩
end Go.Proofs.YtabmamofnhcgbaaGreatDoor
namespace Go.Proofs.YtabmamofnhcgbaaGreatDoor
open Go.RowKit Go.Less
open T8 (pv Dg)
attribute [local go_sem 9000] zg zf
def wl(r:Except Int (List Fs.Item))(nx:Int):Except Int Fs.FS:=match r with
 | .error e=> .error e
 | .ok l=> .ok ⟨l,nx⟩
theorem zj{r:Except Int Fs.FS}{c:Int}(h:r= .error c)(hc:c≠0){w W:World}(hb:Below w.heap.size w W):zP r w (.returned (.tuple #[.agg #[.pointer none,.int .i64 0],.int .i64 c])) W:=by
 subst h;exact⟨hb,hc,rfl⟩
theorem zM{r:Except Int Fs.FS}{f:Fs.FS}(h:r= .ok f){w W:World}(hb:Below w.heap.size w W){m:Option Nat}(hS:Sv W m f.l):zP r w (.returned (.tuple #[.agg #[pv m,.int .i64 f.next],.int .i64 0])) W:=by
 subst h;exact⟨hb,m,rfl,hS⟩
theorem zbw{x y:Nd.Node}{n:ByteArray}{i:Int}(hR:Nd.Right less Nm.right x)(hi:1<=i/\i<=2147483647)(h:Nd.withE less Nm.right x n i=(y,0)):Nd.Right less Nm.right y:=by
 unfold Nd.withE at h
 split at h
 ·injection h with _ h;omega
 rename_i h1
 split at h
 ·injection h with _ h;omega
 rename_i h2
 split at h
 ·injection h with _ h;omega
 rename_i h3
 split at h
 ·injection h with _ h;omega
 rename_i h4
 injection h with h _
 rw[<-h]
 exact Nd.right_ins rising hR (by simpa using h1) (by simpa using h2) (by simpa using h3) (by omega) hi.1 hi.2
theorem Ve{x y:Nd.Node}{n:ByteArray}(hR:Nd.Right less Nm.right x)(h:Nd.withoutE x n=(y,0)):Nd.Right less Nm.right y:=by
 unfold Nd.withoutE at h
 split at h
 ·injection h with _ h;omega
 split at h
 ·injection h with _ h;omega
 injection h with h _
 rw[<-h]
 exact Fs.right_cut (E:=env) rising hR n
theorem uu{l:List Fs.Item}{ns:List ByteArray}{d:Int}{n:ByteArray}(h:Fs.place l ns= .ok (d,n)):(Fs.node l d).isSome=true:=by
 obtain⟨x,hx,_⟩:=Fs.nodeD_kind (Fs.place_dir h).1 (by decide)
 rw[hx];rfl
theorem uw(m:Option Nat)(nx:Int)(l:List Fs.Item)(p:ByteArray)(ns:List ByteArray)(i:Int)(w:World)(h:Sv w m l)(hp:p.size<=140737488355328)(hs:spl p=some ns)(hi:1<=i/\i<=2147483647)(hf9:l.length<=900):Calls prog 134 #[stv m nx,.string p,.int .i64 i] w (zP (wl (Fs.enterP env l ns i) nx) w):=by
 have HPl:=hid (λW (hb:Below w.heap.size w W)=>vG m nx l p ns W (h.below hb) hp hs)
 have hnm:=vw hs
 cases hpl:Fs.place l ns with
 |error ec=>
  rw[hpl]at HPl
  have HR:=hid (show wl (Fs.enterP env l ns i) nx= .error ec by unfold Fs.enterP;rw[hpl];rfl)
  have hne:=kz hpl
  clear hpl h hs hnm
  have HB:=hid (show Bxs w [(w.heap.size,#[pv m,.int .i64 nx],98),(w.heap.size+1,#[.pointer none,.int .i64 0],98)] ((w.alloc (.cells #[pv m,.int .i64 nx] 98)).alloc (.cells #[.pointer none,.int .i64 0] 98))from Bxs.two w _ _ _ _)
  go_enter func134,ntmps134
  go_wp2_with fail
  generalize (w.alloc (.cells #[pv m,.int .i64 nx] 98)).alloc (.cells #[.pointer none,.int .i64 0] 98)=W0 at HB|-
  go_wp2_with fail
  refine(HPl.out W0 HB.out.below).mono ?_
  rintro e w1 ⟨hb,_,rfl⟩
  have HB:=hid (HB.out.kept hb)
  have HB:=hid (HB.out.more #[.int .i64 0,.int .i64 0,.int .i64 0,.string ⟨#[]⟩,.string ⟨#[]⟩,.slice none 0 0,.string ⟨#[]⟩] 199 rfl)
  dsimp only
  go_wp2_with (first|(refine zb HB.out 1 rfl 98 _ _ rfl rfl #[.pointer none,.int .i64 0] rfl rfl (by kernel_rfl) rfl rfl (by decide) (by decide) ?_;intro w2 hS hK hbS hsS;have HBS:=hid hS;clear hS hK hbS hsS;have HB:=HBS;clear HBS)|fail)
  refine bodyPost_ret_by (zh rfl _ _ (w.heap.size+1) _ _ rfl (HB.out.obj 1 rfl)) rfl ?_
  exact zj HR.out hne HB.out.below
 | ok r=>
  obtain⟨dn,y⟩:=r
  rw[hpl]at HPl
  have hkd:=Fs.place_dir hpl
  have hsome:=uu hpl
  obtain⟨xx,hxx⟩:=Option.isSome_iff_exists.1 hsome
  have hxD:=Fs.nodeD_of hxx
  have hRx:=(h.ok.node hxx).1
  have hdi:=(h.ok.node hxx).2
  have hy:=hnm y hkd.2
  obtain⟨⟨yy,cc⟩,hyy⟩: ∃r,Nd.withE less Nm.right xx y i=r:=⟨_,rfl⟩
  have hPc:wl (Fs.enterP env l ns i) nx=if cc≠0 then .error cc else .ok ⟨Fs.setL l dn yy,nx⟩:=by
   unfold Fs.enterP
   rw[hpl]
   simp only
   rw[hxD]
   rw[show Nd.withE env.lt env.nm xx y i=(yy,cc)from hyy,show Fs.enter env l dn y i=Fs.setL l dn yy by unfold Fs.enter;rw[hxD,show Nd.withE env.lt env.nm xx y i=(yy,cc)from hyy]]
   split<;>rfl
  have HSv:=hid (λW (hb:Below w.heap.size w W)=>h.below hb)
  have HD:=hid h.dg
  rw[hxD]at hkd
  obtain⟨k,mo,d,t,es⟩:=xx
  have HPo:=hid (show∀W,Below w.heap.size w W->Calls prog 140 #[stv m nx,.string p] W λe w'=>Below W.heap.size W w'/\ ∃a c,e= .returned (.tuple #[.agg #[.int .i64 dn,.int .i64 k,.int .i64 mo,.string d,.string t,.slice a es.length c,.string y],.int .i64 0])/\Ents a es.length es w' from λW hb=>(HPl.out W hb).mono λe w' hx=>by
   obtain⟨hx1,hx2⟩:=hx
   simp only[hxD]at hx2
   exact⟨hx1,hx2⟩)
  have hSm:=Right.smallS hRx
  dsimp only at hSm
  obtain⟨k1,m1,d1,t1,e1⟩:=yy
  have HW:=hid (λW a c (hE:Ents a es.length es W)=>q_with (c:=c) W hE hSm hy hyy rfl)
  clear HPl
  by_cases hc:cc=0
  ·subst hc
   have HR:=hid (show wl (Fs.enterP env l ns i) nx= .ok ⟨Fs.setL l dn ⟨k1,m1,d1,t1,e1⟩,nx⟩ by rw[hPc,if_neg (by decide)])
   have hRy:=zbw hRx hi hyy
   have HWi:=hid (λW a c (hb:Below w.heap.size w W) (hE:Ents a e1.length e1 W)=>vz m nx l dn ⟨k1,m1,d1,t1,e1⟩ a c W (HSv.out W hb) hE hRy hdi (.inl hsome) hf9)
   clear hPc hyy hRx hpl hxx hxD hs h hnm hkd
   have HB:=hid (show Bxs w [(w.heap.size,#[pv m,.int .i64 nx],98),(w.heap.size+1,#[.pointer none,.int .i64 0],98)] ((w.alloc (.cells #[pv m,.int .i64 nx] 98)).alloc (.cells #[.pointer none,.int .i64 0] 98))from Bxs.two w _ _ _ _)
   go_enter func134,ntmps134
   go_wp2_with fail
   generalize (w.alloc (.cells #[pv m,.int .i64 nx] 98)).alloc (.cells #[.pointer none,.int .i64 0] 98)=W0 at HB|-
   go_wp2_with fail
   refine(HPo.out W0 HB.out.below).mono ?_
   rintro e w1 ⟨hb,a,c,rfl,hE⟩
   have HEn:=hid (hE.below (below_one w1 (.cells #[.int .i64 dn,.int .i64 k,.int .i64 mo,.string d,.string t,.slice a es.length c,.string y] 199)))
   clear hE
   have HB:=hid (HB.out.kept hb)
   have HB:=hid (HB.out.more #[.int .i64 dn,.int .i64 k,.int .i64 mo,.string d,.string t,.slice a es.length c,.string y] 199 rfl)
   dsimp only
   go_wp2_with fail
   refine(HW.out (w1.alloc (.cells #[.int .i64 dn,.int .i64 k,.int .i64 mo,.string d,.string t,.slice a es.length c,.string y] 199)) a c HEn.out).mono ?_
   rintro e w2 ⟨a1,c1,rfl,hE1,hb⟩
   have HE1:=hid (hE1.below (below_one w2 (.cells #[.int .i64 k1,.int .i64 m1,.string d1,.string t1,.slice a1 e1.length c1] 43)))
   clear hE1 HEn
   have HB:=hid (HB.out.kept hb)
   have HB:=hid (HB.out.more #[.int .i64 k1,.int .i64 m1,.string d1,.string t1,.slice a1 e1.length c1] 43 rfl)
   have b0:=HB.out.c2 0 rfl
   have b2:=HB.out.c7 2 rfl
   dsimp only
   go_wp2_with fail
   refine(HWi.out (w2.alloc (.cells #[.int .i64 k1,.int .i64 m1,.string d1,.string t1,.slice a1 e1.length c1] 43)) a1 c1 HB.out.below HE1.out).mono ?_
   rintro e w3 ⟨m7,rfl,hS,hb⟩
   have hbk:=hb
   have HS:=hid hS
   clear hS
   have HB:=hid (HB.out.kept hbk)
   clear b0 b2
   clear hbk
   dsimp only
   go_wp2_with (first|(refine zb HB.out 1 rfl 98 _ _ rfl rfl #[pv m7,.int .i64 nx] rfl rfl (by kernel_rfl) rfl rfl (by decide) (by decide) ?_;intro w4 hS hK hbS hsS;have HBS:=hid hS;have HS:=hid (HS.out.kept hK (HD.out.below hbS));clear hS hK hbS hsS;have HB:=HBS;clear HBS)|fail)
   refine bodyPost_ret_by (zh rfl _ _ (w.heap.size+1) _ _ rfl (HB.out.obj 1 rfl)) rfl ?_
   exact zM HR.out HB.out.below HS.out
  ·have HR:=hid (show wl (Fs.enterP env l ns i) nx= .error cc by rw[hPc,if_pos hc])
   clear hPc hyy hRx hpl hxx hxD hs h hnm hkd
   have HB:=hid (show Bxs w [(w.heap.size,#[pv m,.int .i64 nx],98),(w.heap.size+1,#[.pointer none,.int .i64 0],98)] ((w.alloc (.cells #[pv m,.int .i64 nx] 98)).alloc (.cells #[.pointer none,.int .i64 0] 98))from Bxs.two w _ _ _ _)
   go_enter func134,ntmps134
   go_wp2_with fail
   generalize (w.alloc (.cells #[pv m,.int .i64 nx] 98)).alloc (.cells #[.pointer none,.int .i64 0] 98)=W0 at HB|-
   go_wp2_with fail
   refine(HPo.out W0 HB.out.below).mono ?_
   rintro e w1 ⟨hb,a,c,rfl,hE⟩
   have HEn:=hid (hE.below (below_one w1 (.cells #[.int .i64 dn,.int .i64 k,.int .i64 mo,.string d,.string t,.slice a es.length c,.string y] 199)))
   clear hE
   have HB:=hid (HB.out.kept hb)
   have HB:=hid (HB.out.more #[.int .i64 dn,.int .i64 k,.int .i64 mo,.string d,.string t,.slice a es.length c,.string y] 199 rfl)
   dsimp only
   go_wp2_with fail
   refine(HW.out (w1.alloc (.cells #[.int .i64 dn,.int .i64 k,.int .i64 mo,.string d,.string t,.slice a es.length c,.string y] 199)) a c HEn.out).mono ?_
   rintro e w2 ⟨a1,c1,rfl,hE1,hb⟩
   clear hE1 HEn
   have HB:=hid (HB.out.kept hb)
   have HB:=hid (HB.out.more #[.int .i64 k1,.int .i64 m1,.string d1,.string t1,.slice a1 e1.length c1] 43 rfl)
   dsimp only
   go_wp2_with (first|(refine zb HB.out 1 rfl 98 _ _ rfl rfl #[.pointer none,.int .i64 0] rfl rfl (by kernel_rfl) rfl rfl (by decide) (by decide) ?_;intro w3 hS hK hbS hsS;have HBS:=hid hS;clear hS hK hbS hsS;have HB:=HBS;clear HBS)|fail)
   refine bodyPost_ret_by (zh rfl _ _ (w.heap.size+1) _ _ rfl (HB.out.obj 1 rfl)) rfl ?_
   exact zj HR.out hc HB.out.below
theorem uv(m:Option Nat)(nx:Int)(l:List Fs.Item)(p:ByteArray)(ns:List ByteArray)(w:World)(h:Sv w m l)(hp:p.size<=140737488355328)(hs:spl p=some ns)(hf9:l.length<=900):Calls prog 135 #[stv m nx,.string p] w (zP (wl (Fs.leaveP l ns) nx) w):=by
 have HPl:=hid (λW (hb:Below w.heap.size w W)=>vG m nx l p ns W (h.below hb) hp hs)
 cases hpl:Fs.place l ns with
 |error ec=>
  rw[hpl]at HPl
  have HR:=hid (show wl (Fs.leaveP l ns) nx= .error ec by unfold Fs.leaveP;rw[hpl];rfl)
  have hne:=kz hpl
  clear hpl h hs
  have HB:=hid (show Bxs w [(w.heap.size,#[pv m,.int .i64 nx],98),(w.heap.size+1,#[.pointer none,.int .i64 0],98)] ((w.alloc (.cells #[pv m,.int .i64 nx] 98)).alloc (.cells #[.pointer none,.int .i64 0] 98))from Bxs.two w _ _ _ _)
  go_enter func135,ntmps135
  go_wp2_with fail
  generalize (w.alloc (.cells #[pv m,.int .i64 nx] 98)).alloc (.cells #[.pointer none,.int .i64 0] 98)=W0 at HB|-
  go_wp2_with fail
  refine(HPl.out W0 HB.out.below).mono ?_
  rintro e w1 ⟨hb,_,rfl⟩
  have HB:=hid (HB.out.kept hb)
  have HB:=hid (HB.out.more #[.int .i64 0,.int .i64 0,.int .i64 0,.string ⟨#[]⟩,.string ⟨#[]⟩,.slice none 0 0,.string ⟨#[]⟩] 199 rfl)
  dsimp only
  go_wp2_with (first|(refine zb HB.out 1 rfl 98 _ _ rfl rfl #[.pointer none,.int .i64 0] rfl rfl (by kernel_rfl) rfl rfl (by decide) (by decide) ?_;intro w2 hS hK hbS hsS;have HBS:=hid hS;clear hS hK hbS hsS;have HB:=HBS;clear HBS)|fail)
  refine bodyPost_ret_by (zh rfl _ _ (w.heap.size+1) _ _ rfl (HB.out.obj 1 rfl)) rfl ?_
  exact zj HR.out hne HB.out.below
 | ok r=>
  obtain⟨dn,y⟩:=r
  rw[hpl]at HPl
  have hkd:=Fs.place_dir hpl
  have hsome:=uu hpl
  obtain⟨xx,hxx⟩:=Option.isSome_iff_exists.1 hsome
  have hxD:=Fs.nodeD_of hxx
  have hRx:=(h.ok.node hxx).1
  have hdi:=(h.ok.node hxx).2
  obtain⟨⟨yy,cc⟩,hyy⟩: ∃r,Nd.withoutE xx y=r:=⟨_,rfl⟩
  have hPc:wl (Fs.leaveP l ns) nx=if cc≠0 then .error cc else .ok ⟨Fs.setL l dn yy,nx⟩:=by
   unfold Fs.leaveP
   rw[hpl]
   simp only
   rw[hxD]
   rw[hyy,show Fs.leave l dn y=Fs.setL l dn yy by unfold Fs.leave;rw[hxD,hyy]]
   split<;>rfl
  have HSv:=hid (λW (hb:Below w.heap.size w W)=>h.below hb)
  have HD:=hid h.dg
  rw[hxD]at hkd
  obtain⟨k,mo,d,t,es⟩:=xx
  have HPo:=hid (show∀W,Below w.heap.size w W->Calls prog 140 #[stv m nx,.string p] W λe w'=>Below W.heap.size W w'/\ ∃a c,e= .returned (.tuple #[.agg #[.int .i64 dn,.int .i64 k,.int .i64 mo,.string d,.string t,.slice a es.length c,.string y],.int .i64 0])/\Ents a es.length es w' from λW hb=>(HPl.out W hb).mono λe w' hx=>by
   obtain⟨hx1,hx2⟩:=hx
   simp only[hxD]at hx2
   exact⟨hx1,hx2⟩)
  have hSm:=Right.smallS hRx
  dsimp only at hSm
  obtain⟨k1,m1,d1,t1,e1⟩:=yy
  have HW:=hid (λW a c (hE:Ents a es.length es W)=>q_wout (c:=c) W hE hSm hyy rfl)
  clear HPl
  by_cases hc:cc=0
  ·subst hc
   have HR:=hid (show wl (Fs.leaveP l ns) nx= .ok ⟨Fs.setL l dn ⟨k1,m1,d1,t1,e1⟩,nx⟩ by rw[hPc,if_neg (by decide)])
   have hRy:=Ve hRx hyy
   have HWi:=hid (λW a c (hb:Below w.heap.size w W) (hE:Ents a e1.length e1 W)=>vz m nx l dn ⟨k1,m1,d1,t1,e1⟩ a c W (HSv.out W hb) hE hRy hdi (.inl hsome) hf9)
   clear hPc hyy hRx hpl hxx hxD hs h hkd
   have HB:=hid (show Bxs w [(w.heap.size,#[pv m,.int .i64 nx],98),(w.heap.size+1,#[.pointer none,.int .i64 0],98)] ((w.alloc (.cells #[pv m,.int .i64 nx] 98)).alloc (.cells #[.pointer none,.int .i64 0] 98))from Bxs.two w _ _ _ _)
   go_enter func135,ntmps135
   go_wp2_with fail
   generalize (w.alloc (.cells #[pv m,.int .i64 nx] 98)).alloc (.cells #[.pointer none,.int .i64 0] 98)=W0 at HB|-
   go_wp2_with fail
   refine(HPo.out W0 HB.out.below).mono ?_
   rintro e w1 ⟨hb,a,c,rfl,hE⟩
   have HEn:=hid (hE.below (below_one w1 (.cells #[.int .i64 dn,.int .i64 k,.int .i64 mo,.string d,.string t,.slice a es.length c,.string y] 199)))
   clear hE
   have HB:=hid (HB.out.kept hb)
   have HB:=hid (HB.out.more #[.int .i64 dn,.int .i64 k,.int .i64 mo,.string d,.string t,.slice a es.length c,.string y] 199 rfl)
   dsimp only
   go_wp2_with fail
   refine(HW.out (w1.alloc (.cells #[.int .i64 dn,.int .i64 k,.int .i64 mo,.string d,.string t,.slice a es.length c,.string y] 199)) a c HEn.out).mono ?_
   rintro e w2 ⟨a1,c1,rfl,hE1,hb⟩
   have HE1:=hid (hE1.below (below_one w2 (.cells #[.int .i64 k1,.int .i64 m1,.string d1,.string t1,.slice a1 e1.length c1] 43)))
   clear hE1 HEn
   have HB:=hid (HB.out.kept hb)
   have HB:=hid (HB.out.more #[.int .i64 k1,.int .i64 m1,.string d1,.string t1,.slice a1 e1.length c1] 43 rfl)
   have b0:=HB.out.c2 0 rfl
   have b2:=HB.out.c7 2 rfl
   dsimp only
   go_wp2_with fail
   refine(HWi.out (w2.alloc (.cells #[.int .i64 k1,.int .i64 m1,.string d1,.string t1,.slice a1 e1.length c1] 43)) a1 c1 HB.out.below HE1.out).mono ?_
   rintro e w3 ⟨m7,rfl,hS,hb⟩
   have hbk:=hb
   have HS:=hid hS
   clear hS
   have HB:=hid (HB.out.kept hbk)
   clear b0 b2
   clear hbk
   dsimp only
   go_wp2_with (first|(refine zb HB.out 1 rfl 98 _ _ rfl rfl #[pv m7,.int .i64 nx] rfl rfl (by kernel_rfl) rfl rfl (by decide) (by decide) ?_;intro w4 hS hK hbS hsS;have HBS:=hid hS;have HS:=hid (HS.out.kept hK (HD.out.below hbS));clear hS hK hbS hsS;have HB:=HBS;clear HBS)|fail)
   refine bodyPost_ret_by (zh rfl _ _ (w.heap.size+1) _ _ rfl (HB.out.obj 1 rfl)) rfl ?_
   exact zM HR.out HB.out.below HS.out
  ·have HR:=hid (show wl (Fs.leaveP l ns) nx= .error cc by rw[hPc,if_pos hc])
   clear hPc hyy hRx hpl hxx hxD hs h hkd
   have HB:=hid (show Bxs w [(w.heap.size,#[pv m,.int .i64 nx],98),(w.heap.size+1,#[.pointer none,.int .i64 0],98)] ((w.alloc (.cells #[pv m,.int .i64 nx] 98)).alloc (.cells #[.pointer none,.int .i64 0] 98))from Bxs.two w _ _ _ _)
   go_enter func135,ntmps135
   go_wp2_with fail
   generalize (w.alloc (.cells #[pv m,.int .i64 nx] 98)).alloc (.cells #[.pointer none,.int .i64 0] 98)=W0 at HB|-
   go_wp2_with fail
   refine(HPo.out W0 HB.out.below).mono ?_
   rintro e w1 ⟨hb,a,c,rfl,hE⟩
   have HEn:=hid (hE.below (below_one w1 (.cells #[.int .i64 dn,.int .i64 k,.int .i64 mo,.string d,.string t,.slice a es.length c,.string y] 199)))
   clear hE
   have HB:=hid (HB.out.kept hb)
   have HB:=hid (HB.out.more #[.int .i64 dn,.int .i64 k,.int .i64 mo,.string d,.string t,.slice a es.length c,.string y] 199 rfl)
   dsimp only
   go_wp2_with fail
   refine(HW.out (w1.alloc (.cells #[.int .i64 dn,.int .i64 k,.int .i64 mo,.string d,.string t,.slice a es.length c,.string y] 199)) a c HEn.out).mono ?_
   rintro e w2 ⟨a1,c1,rfl,hE1,hb⟩
   clear hE1 HEn
   have HB:=hid (HB.out.kept hb)
   have HB:=hid (HB.out.more #[.int .i64 k1,.int .i64 m1,.string d1,.string t1,.slice a1 e1.length c1] 43 rfl)
   dsimp only
   go_wp2_with (first|(refine zb HB.out 1 rfl 98 _ _ rfl rfl #[.pointer none,.int .i64 0] rfl rfl (by kernel_rfl) rfl rfl (by decide) (by decide) ?_;intro w3 hS hK hbS hsS;have HBS:=hid hS;clear hS hK hbS hsS;have HB:=HBS;clear HBS)|fail)
   refine bodyPost_ret_by (zh rfl _ _ (w.heap.size+1) _ _ rfl (HB.out.obj 1 rfl)) rfl ?_
   exact zj HR.out hc HB.out.below
end Go.Proofs.YtabmamofnhcgbaaGreatDoor
