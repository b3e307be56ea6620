/- A part of the proofs. -/
import Derived.Test.YtabmamofnhcgbaaGreatDoorP02
set_option maxRecDepth 1000000
set_option maxHeartbeats 16000000
open Go.Lib (hid)
open Go.Proofs.Tryz
namespace Go.Proofs.YtabmamofnhcgbaaGreatDoor
open T6
open Go.RowKit Go.Less
attribute [local go_sem 9000] zg zf
theorem VH(a:Option Addr)(n c:Nat)(nx:Int)(L:List MI)(oa ob:ByteArray)(oo og on:Int)(od:ByteArray)(w:World)(hI:Items a n L w)(hS:Small11 L n ⟨3,oa,ob,oo,og,on,od⟩){na:List ByteArray}(ha:spl oa=some na)(hnx:0<=nx/\nx<=1000000000000):
  Calls prog 11 #[fv a n c nx,.agg #[.int .i64 3,.string oa,.string ob,.int .i64 oo,.int .i64 og,.int .i64 on,.string od]] w (DoR (Fs.doE env ⟨its L,nx⟩ ⟨3,oa,ob,oo,og,on,od⟩) w):=by
 have HFre:=hid (λW (hb:Below w.heap.size w W)=>vE a n c nx L oa W (hI.below hb) hS.n5 hS.ents.fewE hS.a)
 have HSet:=hid (λi k m dd t ea ec es W (hb:Below w.heap.size w W) (hE:Ents ea (List.length es) es W)=>xv a n c nx L i k m dd t ea ec es W (hI.below hb) hS.n5 hE)
 have HI:=hid (λW (hb:Below w.heap.size w W)=>hI.below hb)
 have HNL:=hid hI.count
 have HB:=hid (show Ob w a n c nx ⟨3,oa,ob,oo,og,on,od⟩ (((w.alloc (.cells #[.slice a n c,.int .i64 nx] 29)).alloc (.cells #[.int .i64 3,.string oa,.string ob,.int .i64 oo,.int .i64 og,.int .i64 on,.string od] 34)).alloc (.cells #[.slice none 0 0,.int .i64 0] 29))from zQ w a n c nx ⟨3,oa,ob,oo,og,on,od⟩)
 have HSp:=hid (λW=>zi oa W hS.a)
 have HSq:=hid (λW=>zi ob W hS.b)
 have HSm:=hid hS
 clear hI hS
 obtain⟨ns,hns⟩: ∃ns,Nm.split oa.data.toList=some ns:=by
  unfold spl at ha
  cases hq:Nm.split oa.data.toList with
  |none=>rw[hq]at ha;cases ha
  |some ns=>exact⟨ns,rfl⟩
 have HNs:=hid hns
 clear hns
 have HR:=hid (show Fs.act env ⟨its L,nx⟩ ⟨3,oa,ob,oo,og,on,od⟩=Fs.create env ⟨its L,nx⟩ ⟨3,oa,ob,oo,og,on,od⟩ na by
  unfold Fs.act
  rw[if_neg (by show¬ ((3:Int)<1\/(11:Int)<3);decide),show env.sp oa=some na from ha]
  rfl)
 unfold Fs.create at HR
 rw[show Fs.madeNode ⟨3,oa,ob,oo,og,on,od⟩=⟨3,511,ByteArray.empty,od,[]⟩from rfl]at HR
 have HFc:=hid (xW (l:=its L) ha)
 have HSm2:=hid (vw ha)
 have HLen:=hid (show(its L).length=n by unfold its;rw[List.length_map];exact HNL.out.symm)
 go_enter func11,ntmps11
 go_wp2_with fail
 generalize ((w.alloc (.cells #[.slice a n c,.int .i64 nx] 29)).alloc (.cells #[.int .i64 3,.string oa,.string ob,.int .i64 oo,.int .i64 og,.int .i64 on,.string od] 34)).alloc (.cells #[.slice none 0 0,.int .i64 0] 29)=W0 at HB|-
 go_wp2_with fail
 refine(HSp.out W0).mono ?_
 rintro e w1 hX
 have HB1:=hid (HB.out.kept hX.below)
 obtain⟨ao,cap,rfl,-⟩:=hX.yes _ HNs.out
 clear hX HB
 have o0:=zW HB1.out.op
 dsimp only
 go_wp2_with fail
 refine(HSq.out w1).mono ?_
 rintro e w2 hY
 have HB2:=hid (HB1.out.kept hY.below)
 obtain⟨v2,code2,rfl⟩:=hY.form
 clear o0
 clear hY HB1
 have f0:=zn HB2.out.box
 have o0:=zW HB2.out.op
 have r0:=zn HB2.out.res
 have q0:=zH HB2.out.res
 dsimp only
 go_wp2_with fail
 all_goals
  refine(HFre.out w2 HB2.out.below).mono ?_
  obtain⟨q,hq⟩: ∃q,xQ (its L) oa=q:=⟨_,rfl⟩
  have HQ:=hid (HFc.out q hq)
  rw[hq]
  clear hq
  obtain⟨dd,x,many,code⟩:=q
  rintro e w3 ⟨rfl,hb3⟩
  have HB3:=hid (HB2.out.kept hb3)
  clear hb3
  clear f0 o0 r0 q0
  have f0:=zn HB3.out.box
  have o0:=zW HB3.out.op
  have r0:=zn HB3.out.res
  have q0:=zH HB3.out.res
  dsimp only
  rcases HQ.out with ⟨hne,hfr⟩|⟨hz,hfr,hmany⟩
  ·dsimp only at hne hfr
   have HA:=hid (show Fs.act env ⟨its L,nx⟩ ⟨3,oa,ob,oo,og,on,od⟩= .error code by rw[HR.out,hfr])
   clear hfr
   go_wp2_with fail
   refine bodyPost_ret_by (za rfl _ _ (w.heap.size+1+1) _ _ rfl (set2 _ _ HB3.out.res)) rfl ?_
   exact zo code HB3.out HI.out HNL.out (by unfold Fs.doE;rw[HA.out])
  dsimp only at hz hfr hmany
  subst hz
  have HA1:=hid (show Fs.act env ⟨its L,nx⟩ ⟨3,oa,ob,oo,og,on,od⟩=if Nd.right less Nm.right ⟨3,511,ByteArray.empty,od,[]⟩=false then .error 1 else if 64<=(Fs.nodeD (its L) dd).ents.length then .error 3 else if 256<=(its L).length then .error 6 else .ok ⟨Fs.enter env (Fs.setL (its L) nx ⟨3,511,ByteArray.empty,od,[]⟩) dd x nx,nx+1⟩ by rw[HR.out,hfr];rfl)
  have hxs:=HSm2.out x (xP hfr)
  have HMany:=hid hmany
  have HB4:=hid (HB3.out.kept (below_one w3 (.cells #[.int .i64 3,.int .i64 511,.string ⟨#[]⟩,.string od,.slice none 0 0] 43)))
  have HO4:=hid (heap_alloc_new w3 (.cells #[.int .i64 3,.int .i64 511,.string ⟨#[]⟩,.string od,.slice none 0 0] 43))
  clear hfr hmany
  have m0:=zW (HB3.out.kept (below_one w3 (.cells #[.int .i64 3,.int .i64 on,.string ⟨#[]⟩,.string ⟨#[]⟩,.slice none 0 0] 43))).op
  go_wp2_with fail
  clear m0
  generalize w3.alloc (.cells #[.int .i64 3,.int .i64 511,.string ⟨#[]⟩,.string od,.slice none 0 0] 43)=W4 at HB4 HO4|-
  have hp4:w.heap.size+1+1<w3.heap.size:=lt_of_obj HB3.out.res
  generalize w3.heap.size=p4 at HO4 hp4|-
  refine(vP 3 511 ⟨#[]⟩ od none 0 0 [] W4 (zs _) (by decide) (λj hj=>by omega)).mono ?_
  have HNdr:=hid (show ndr 3 511 ⟨#[]⟩ od []=Nd.right less Nm.right ⟨3,511,ByteArray.empty,od,[]⟩from rfl)
  unfold xE
  generalize ndr 3 511 ⟨#[]⟩ od []=R at*
  rintro e w5 ⟨rfl,hb5⟩
  have HB5:=hid (HB4.out.kept hb5)
  have HO5:=hid ((hb5.block _ (lt_of_obj HO4.out)).trans HO4.out)
  rw[<-HNdr.out]at HA1
  clear hb5 HB4 HO4 HNdr f0 o0 r0 q0
  have f0:=zn HB5.out.box
  have r0:=zn HB5.out.res
  have q0:=zH HB5.out.res
  dsimp only
  cases R
  ·have HA:=hid (HA1.out.trans (if_pos rfl))
   go_wp2_with fail
   refine bodyPost_ret_by (za rfl _ _ (w.heap.size+1+1) _ _ rfl (set2 _ _ HB5.out.res)) rfl ?_
   exact zo 1 HB5.out HI.out HNL.out (by unfold Fs.doE;rw[HA.out])
  have HA2:=hid (HA1.out.trans (if_neg (by decide)))
  by_cases h64:(64:Int)<=many
  ·have HA:=hid (HA2.out.trans (if_pos (by have:=HMany.out;omega)))
   go_wp2_with fail
   refine bodyPost_ret_by (za rfl _ _ (w.heap.size+1+1) _ _ rfl (set2 _ _ HB5.out.res)) rfl ?_
   exact zo 3 HB5.out HI.out HNL.out (by unfold Fs.doE;rw[HA.out])
  have HA3:=hid (HA2.out.trans (if_neg (by have:=HMany.out;omega)))
  have hni:(n:Int)<=10000:=by have:=HSm.out.few;omega
  by_cases h256:(256:Int)<=(n:Int)
  ·have HA:=hid (HA3.out.trans (if_pos (by rw[HLen.out];omega)))
   go_wp2_with fail
   refine bodyPost_ret_by (za rfl _ _ (w.heap.size+1+1) _ _ rfl (set2 _ _ HB5.out.res)) rfl ?_
   exact zo 6 HB5.out HI.out HNL.out (by unfold Fs.doE;rw[HA.out])
  have HA:=hid (HA3.out.trans (if_neg (by rw[HLen.out];omega)))
  have HSt:=hid (λW (hb:Below w.heap.size w W)=>show Calls prog 50 #[fv a n c nx,.int .i64 nx,.agg #[.int .i64 3,.int .i64 511,.string ⟨#[]⟩,.string od,.slice none 0 0]] W (FsR (Fs.setL (its L) nx ⟨3,511,ByteArray.empty,od,[]⟩) nx W)from HSet.out nx 3 511 ⟨#[]⟩ od none 0 [] W hb (zs W))
  have HFs:=hid (λL6 (h:its L6=Fs.setL (its L) nx ⟨3,511,ByteArray.empty,od,[]⟩)=>vr HSm.out.ents (Nat.zero_le _) h)
  have hp5:w.heap.size+1+1<w5.heap.size:=lt_of_obj HB5.out.res
  have HMK:=hid (show∀W,Sx w a n c nx ⟨3,oa,ob,oo,og,on,od⟩ p4 #[.int .i64 3,.int .i64 511,.string ⟨#[]⟩,.string od,.slice none 0 0] W->W.cell? ⟨w.heap.size,0,none⟩=some (.slice a n c)/\W.cell? ⟨w.heap.size,1,none⟩=some (.int .i64 nx)/\W.cell? ⟨p4,0,none⟩=some (.int .i64 3)/\W.cell? ⟨p4,1,none⟩=some (.int .i64 511)/\W.cell? ⟨p4,2,none⟩=some (.string ⟨#[]⟩)/\W.cell? ⟨p4,3,none⟩=some (.string od)/\W.cell? ⟨p4,4,none⟩=some (.slice none 0 0)/\Sx w a n c nx ⟨3,oa,ob,oo,og,on,od⟩ p4 #[.int .i64 3,.int .i64 511,.string ⟨#[]⟩,.string od,.slice none 0 0] W from λW h=>⟨cell_obj h.ob.box 0,cell_obj h.ob.box 1,cell_obj h.xb 0,cell_obj h.xb 1,cell_obj h.xb 2,cell_obj h.xb 3,cell_obj h.xb 4,h⟩)
  have GB:=hid (show∀W,(W.cell? ⟨w.heap.size,0,none⟩=some (.slice a n c)/\W.cell? ⟨w.heap.size,1,none⟩=some (.int .i64 nx)/\W.cell? ⟨p4,0,none⟩=some (.int .i64 3)/\W.cell? ⟨p4,1,none⟩=some (.int .i64 511)/\W.cell? ⟨p4,2,none⟩=some (.string ⟨#[]⟩)/\W.cell? ⟨p4,3,none⟩=some (.string od)/\W.cell? ⟨p4,4,none⟩=some (.slice none 0 0)/\Sx w a n c nx ⟨3,oa,ob,oo,og,on,od⟩ p4 #[.int .i64 3,.int .i64 511,.string ⟨#[]⟩,.string od,.slice none 0 0] W)->Sx w a n c nx ⟨3,oa,ob,oo,og,on,od⟩ p4 #[.int .i64 3,.int .i64 511,.string ⟨#[]⟩,.string od,.slice none 0 0] W from λW h=>h.2.2.2.2.2.2.2)
  have HD:=hid (show Sx w a n c nx ⟨3,oa,ob,oo,og,on,od⟩ p4 #[.int .i64 3,.int .i64 511,.string ⟨#[]⟩,.string od,.slice none 0 0] w5.drew from⟨HB5.out.kept (Below.refl _ _).drew,HO5.out⟩)
  have HZd:=hid (show(w5.drew.alloc (.cells #[.slice none 0 0,.int .i64 0] 29)).heap[w5.drew.heap.size]?=some (.cells #[.slice none 0 0,.int .i64 0] 29 (0,0))from heap_alloc_new _ _)
  have HZe:=hid (show(w5.alloc (.cells #[.slice none 0 0,.int .i64 0] 29)).drew.heap[w5.heap.size]?=some (.cells #[.slice none 0 0,.int .i64 0] 29 (0,0))from heap_alloc_new _ _)
  go_wp2_with fail
  clear r0 q0 f0
  go_region_held3 (λW=>W.cell? ⟨w.heap.size,0,none⟩=some (.slice a n c)/\W.cell? ⟨w.heap.size,1,none⟩=some (.int .i64 nx)/\W.cell? ⟨p4,0,none⟩=some (.int .i64 3)/\W.cell? ⟨p4,1,none⟩=some (.int .i64 511)/\W.cell? ⟨p4,2,none⟩=some (.string ⟨#[]⟩)/\W.cell? ⟨p4,3,none⟩=some (.string od)/\W.cell? ⟨p4,4,none⟩=some (.slice none 0 0)/\Sx w a n c nx ⟨3,oa,ob,oo,og,on,od⟩ p4 #[.int .i64 3,.int .i64 511,.string ⟨#[]⟩,.string od,.slice none 0 0] W)
   (first|exact HMK.out _ HD.out|exact HMK.out _ pA.out|exact HMK.out _ pB.out|exact HMK.out _ (HD.out.kept (below_one _ _))|exact HMK.out _ (pA.out.kept (below_one _ _))|exact HMK.out _ (pB.out.kept (below_one _ _))|exact HMK.out _ (Sx.set2 pB.out (lt_of_obj pA.out.ob.res) (Nat.ne_of_gt (lt_of_obj pA.out.xb)) _ _)|exact HMK.out _ (Sx.set2 pB.out (lt_of_obj HD.out.ob.res) (Nat.ne_of_gt (lt_of_obj HD.out.xb)) _ _)|assumption)
   (first
    |(go_at_call 50;(with_reducible refine(HSt.out _ (Ob.below (Sx.ob (GB.out _ (by assumption))))).mono ?_);rintro e w6 ⟨a6,c6,L6,hL6,rfl,hI6,hb6⟩;have pA:=hid (Sx.kept (GB.out _ (by assumption)) hb6);have HI6:=hid hI6;have HL6:=hid hL6;have HF6:=hid (HFs.out L6 hL6);try (have HZ6:=hid ((hb6.block _ (lt_of_obj HZd.out)).trans HZd.out));try (have HZ6:=hid ((hb6.block _ (lt_of_obj HZe.out)).trans HZe.out));clear hL6 hI6 hb6)
    |(go_at_call 49;(with_reducible refine(z7 a6 L6.length c6 nx L6 dd x nx w6 HI6.out (Nat.le_trans HF6.out.2 (by have:=HNL.out;omega)) HF6.out.1.fewE hxs).mono ?_);rintro e w7 ⟨a7,c7,L7,hL7,rfl,hI7,hb7⟩;have pB:=hid (Sx.kept pA.out hb7);have HI7:=hid hI7;have HL7:=hid hL7;try (have HZ7:=hid ((hb7.block _ (lt_of_obj HZ6.out)).trans HZ6.out);have l0:=cell_obj HZ7.out 0;have l1:=cell_obj HZ7.out 1;have l2:=free_obj HZ7.out 0;have l3:=free_obj HZ7.out 1);clear hL7 hI7 hb7)
    |(go_at_call 49;(with_reducible refine(z7 a6 L6.length c6 nx L6 dd x nx _ (HI6.out.below (below_one w6 (.cells #[.slice none 0 0,.int .i64 0] 29))) (Nat.le_trans HF6.out.2 (by have:=HNL.out;omega)) HF6.out.1.fewE hxs).mono ?_);rintro e w7 ⟨a7,c7,L7,hL7,rfl,hI7,hb7⟩;have pB:=hid (Sx.kept (Sx.kept pA.out (below_one w6 (.cells #[.slice none 0 0,.int .i64 0] 29))) hb7);have HZ7:=hid ((hb7.block _ (lt_of_obj (heap_alloc_new w6 (.cells #[.slice none 0 0,.int .i64 0] 29)))).trans (heap_alloc_new w6 _));have HI7:=hid hI7;have HL7:=hid hL7;have l0:=cell_obj HZ7.out 0;have l1:=cell_obj HZ7.out 1;have l2:=free_obj HZ7.out 0;have l3:=free_obj HZ7.out 1;clear hL7 hI7 hb7))
  all_goals
   first
    |have HF:=hid (show Gd w a n c nx ⟨3,oa,ob,oo,og,on,od⟩ w5.heap.size a7 c7 L7 _ from⟨pB.out.ob.set2 hp5 (.slice a7 L7.length c7) (.int .i64 nx),yr HI7.out HZ7.out _ _,set2 _ _ HZ7.out,hp5⟩)
     generalize (w7.setCell ⟨w5.heap.size,0,none⟩ (.slice a7 L7.length c7)).setCell ⟨w5.heap.size,1,none⟩ (.int .i64 nx)=W9 at HF|-
     generalize w5.heap.size=p9 at HF|-
    |have HF:=hid (show Gd w a n c nx ⟨3,oa,ob,oo,og,on,od⟩ w6.heap.size a7 c7 L7 _ from⟨pB.out.ob.set2 (lt_of_obj pA.out.ob.res) (.slice a7 L7.length c7) (.int .i64 nx),yr HI7.out HZ7.out _ _,set2 _ _ HZ7.out,lt_of_obj pA.out.ob.res⟩)
     generalize (w7.setCell ⟨w6.heap.size,0,none⟩ (.slice a7 L7.length c7)).setCell ⟨w6.heap.size,1,none⟩ (.int .i64 nx)=W9 at HF|-
     generalize w6.heap.size=p9 at HF|-
    |have HF:=hid (show Gd w a n c nx ⟨3,oa,ob,oo,og,on,od⟩ w7.heap.size a7 c7 L7 _ from⟨pB.out.ob.kept (below_one w7 (.cells #[.slice a7 L7.length c7,.int .i64 nx] 29)),HI7.out.below (below_one w7 _),heap_alloc_new w7 _,lt_of_obj pB.out.ob.res⟩)
     generalize w7.alloc (.cells #[.slice a7 L7.length c7,.int .i64 nx] 29)=W9 at HF|-
     generalize w7.heap.size=p9 at HF|-
   have HL9:=hid (show its L7=Fs.enter env (Fs.setL (its L) nx ⟨3,511,ByteArray.empty,od,[]⟩) dd x nx by rw[HL7.out,HL6.out];rfl)
   have f1:W9.cell? ⟨w.heap.size,1,none⟩=some (.int .i64 nx):=cell_obj HF.out.ob.box 1
   have u0:W9.cell? ⟨p9,0,none⟩=some (.slice a7 L7.length c7):=cell_obj HF.out.box 0
   have u1:W9.cell? ⟨p9,1,none⟩=some (.int .i64 nx):=cell_obj HF.out.box 1
   have v1:=free_obj HF.out.box 1
   have r0:=zn HF.out.ob.res
   have q0:=zH HF.out.ob.res
   have hbig:=HF.out.big
   have hwr:IntKind.i64.wrap (nx+1)=nx+1:=IntWalk.i64_in _ (by omega)
   obtain⟨n7,hn7⟩: ∃n7,n7=L7.length:=⟨_,rfl⟩
   rw[<-hn7]at u0|-
   have HN7:=hid hn7
   clear hn7
   go_wp2_with fail
   refine bodyPost_ret_by (za rfl _ _ (w.heap.size+1+1) _ _ rfl (set2 _ _ (HF.out.one (.int .i64 (nx+1))).1.res)) rfl ?_
   exact zL 0 (HF.out.one (.int .i64 (nx+1))).1 (HF.out.one (.int .i64 (nx+1))).2 HN7.out (by unfold Fs.doE;rw[HA.out,HL9.out])
def vo(l:List Fs.Item)(nx:Int)(p:ByteArray)(g:ByteArray->List UInt8×Int):Fs.FS×Int:=
 if(zu l p).2.2≠0 then(⟨l,nx⟩,(zu l p).2.2)
 else if(g (zu l p).2.1.data).2≠0 then(⟨l,nx⟩,(g (zu l p).2.1.data).2)
 else(⟨Fs.setL l (zu l p).1 {(zu l p).2.1 with data:=lstr (g (zu l p).2.1.data).1},nx⟩,0)
theorem zeq(a:Option Addr)(n c:Nat)(nx:Int)(L:List MI)(oa ob:ByteArray)(oo og on:Int)(od:ByteArray)(w:World)(hI:Items a n L w)(hS:Small11 L n ⟨8,oa,ob,oo,og,on,od⟩)(hd:(zu (its L) oa).2.1.data.size<=1000000)(hod:od.size<=140737488355328)(hoo:oo<=9223372036854775807):
  Calls prog 51 #[fv a n c nx,.agg #[.int .i64 8,.string oa,.string ob,.int .i64 oo,.int .i64 og,.int .i64 on,.string od]] w (DoR (vo (its L) nx oa (λs=>z8 s.data.toList oo od.data.toList)) w):=by
 have HI:=hid (λW (hb:Below w.heap.size w W)=>hI.below hb)
 have HNL:=hid hI.count
 have HB:=hid (show Ob w a n c nx ⟨8,oa,ob,oo,og,on,od⟩ (((w.alloc (.cells #[.slice a n c,.int .i64 nx] 29)).alloc (.cells #[.int .i64 8,.string oa,.string ob,.int .i64 oo,.int .i64 og,.int .i64 on,.string od] 34)).alloc (.cells #[.slice none 0 0,.int .i64 0] 29))from zQ w a n c nx ⟨8,oa,ob,oo,og,on,od⟩)
 have HFi:=hid (λW (hb:Below w.heap.size w W)=>uf a n c nx L oa W (hI.below hb) hS.n5 hS.ents.fewE hS.a)
 have HSet:=hid (λi k m d t ea ec es W (hb:Below w.heap.size w W) (hE:Ents ea es.length es W)=>xv a n c nx L i k m d t ea ec es W (hI.below hb) hS.n5 hE)
 clear hI hS
 go_enter func51,ntmps51
 go_wp2_with fail
 generalize ((w.alloc (.cells #[.slice a n c,.int .i64 nx] 29)).alloc (.cells #[.int .i64 8,.string oa,.string ob,.int .i64 oo,.int .i64 og,.int .i64 on,.string od] 34)).alloc (.cells #[.slice none 0 0,.int .i64 0] 29)=W0 at HB|-
 go_wp2_with fail
 refine(HFi.out W0 HB.out.below).mono ?_
 obtain⟨r,hr⟩: ∃r,zu (its L) oa=r:=⟨_,rfl⟩
 have HR:=hid (show vo (its L) nx oa (λs=>z8 s.data.toList oo od.data.toList)=if r.2.2≠0 then(⟨its L,nx⟩,r.2.2)else if((λs=>z8 s.data.toList oo od.data.toList) r.2.1.data).2≠0 then(⟨its L,nx⟩,((λs=>z8 s.data.toList oo od.data.toList) r.2.1.data).2)else(⟨Fs.setL (its L) r.1 {r.2.1 with data:=lstr ((λs=>z8 s.data.toList oo od.data.toList) r.2.1.data).1},nx⟩,0) by unfold vo;rw[hr])
 rw[hr]at hd|-
 clear hr
 obtain⟨i,⟨k,m,d,t,es⟩,code⟩:=r
 rintro e w3 ⟨ea,ec,rfl,hE,hb3⟩
 have HP:=hid (λW=>ZC d oo od W hd hod hoo)
 have HB3:=hid (HB.out.kept hb3)
 have HB4:=hid (HB3.out.kept (below_one w3 (.cells #[.int .i64 k,.int .i64 m,.string d,.string t,.slice ea es.length ec] 43)))
 have HE3:=hid hE
 have HC4:=hid (below_one w3 (.cells #[.int .i64 k,.int .i64 m,.string d,.string t,.slice ea es.length ec] 43))
 have HX4:=hid (hE.below (below_one w3 (.cells #[.int .i64 k,.int .i64 m,.string d,.string t,.slice ea es.length ec] 43)))
 have HO4:=hid (heap_alloc_new w3 (.cells #[.int .i64 k,.int .i64 m,.string d,.string t,.slice ea es.length ec] 43))
 clear hb3 hE HB hd hod hoo
 dsimp only
 by_cases hc:code=0
 ·subst hc
  have c2:(w3.alloc (.cells #[.int .i64 k,.int .i64 m,.string d,.string t,.slice ea es.length ec] 43)).cell? ⟨w3.heap.size,2,none⟩=some (.string d):=cell_obj HO4.out 2
  have o0:=zW HB4.out.op
  have HR2:=hid (show vo (its L) nx oa (λs=>z8 s.data.toList oo od.data.toList)=if(z8 d.data.toList oo od.data.toList).2≠0 then(⟨its L,nx⟩,(z8 d.data.toList oo od.data.toList).2)else(⟨Fs.setL (its L) i ⟨k,m,lstr (z8 d.data.toList oo od.data.toList).1,t,es⟩,nx⟩,0) by rw[HR.out,if_neg (by simp)])
  clear HR
  go_wp2_with fail
  clear c2 o0
  generalize w3.alloc (.cells #[.int .i64 k,.int .i64 m,.string d,.string t,.slice ea es.length ec] 43)=W4 at HB4 HX4 HO4 HC4|-
  refine(HP.out W4).mono ?_
  generalize z8 d.data.toList oo od.data.toList=q at HR2|-
  obtain⟨qs,qe⟩:=q
  rintro e w5 ⟨rfl,hb5⟩
  have HB5:=hid (HB4.out.kept hb5)
  have HO5:=hid ((hb5.block _ (lt_of_obj HO4.out)).trans HO4.out)
  have HC5:=hid (HC4.out.trans (hb5.mono HC4.out.size))
  clear hb5 HB4 HX4 HO4 HC4
  have f0:=zn HB5.out.box
  have r0:=zn HB5.out.res
  have q0:=zH HB5.out.res
  dsimp only
  by_cases hq:qe=0
  ·subst hq
   have HR3:=hid (HR2.out.trans (if_neg (by simp)))
   clear HR2
   have HC6:=hid (HC5.out.setCell (p:=⟨w3.heap.size,2,none⟩) (Nat.le_refl _) (.string (lstr qs)))
   have HB6:=hid (HB3.out.kept HC6.out)
   have HX6:=hid (HE3.out.below HC6.out)
   have x0:=yl HO5.out
   have y2:=free_obj HO5.out 2
   go_wp2_with fail
   clear f0 r0 q0 x0 y2
   refine(HSet.out i k m (lstr qs) t ea ec es _ HB6.out.below HX6.out).mono ?_
   generalize w5.setCell ⟨w3.heap.size,2,none⟩ (.string (lstr qs))=W6 at HB6|-
   rintro e w7 ⟨a6,c6,L6,hL6,rfl,hI6,hb6⟩
   have HB7:=hid (HB6.out.kept hb6)
   have HI6:=hid hI6
   have HL6:=hid hL6
   clear hb6 hI6 hL6 HC6 HX6
   obtain⟨n6,hn6⟩: ∃n6,n6=L6.length:=⟨_,rfl⟩
   rw[<-hn6]
   have HN6:=hid hn6
   clear hn6
   have r0:=zn HB7.out.res
   have q0:=zH HB7.out.res
   dsimp only
   go_wp2_with fail
   refine bodyPost_ret_by (za rfl _ _ (w.heap.size+1+1) _ _ rfl (set2 _ _ HB7.out.res)) rfl ?_
   exact zL 0 HB7.out HI6.out HN6.out (by rw[HR3.out,HL6.out])
  ·have HR3:=hid (HR2.out.trans (if_pos hq))
   clear HR2
   go_wp2_with fail
   refine bodyPost_ret_by (za rfl _ _ (w.heap.size+1+1) _ _ rfl (set2 _ _ HB5.out.res)) rfl ?_
   exact zo qe HB5.out HI.out HNL.out HR3.out
 ·have HR2:=hid (HR.out.trans (if_pos hc))
  clear HR
  have f0:=zn HB4.out.box
  have r0:=zn HB4.out.res
  have q0:=zH HB4.out.res
  go_wp2_with fail
  refine bodyPost_ret_by (za rfl _ _ (w.heap.size+1+1) _ _ rfl (set2 _ _ HB4.out.res)) rfl ?_
  exact zo code HB4.out HI.out HNL.out HR2.out
theorem zep(a:Option Addr)(n c:Nat)(nx:Int)(L:List MI)(oa ob:ByteArray)(oo og on:Int)(od:ByteArray)(w:World)(hI:Items a n L w)(hS:Small11 L n ⟨9,oa,ob,oo,og,on,od⟩)(hd:(zu (its L) oa).2.1.data.size<=1000000):
  Calls prog 51 #[fv a n c nx,.agg #[.int .i64 9,.string oa,.string ob,.int .i64 oo,.int .i64 og,.int .i64 on,.string od]] w (DoR (vo (its L) nx oa (λs=>zD s.data.toList on)) w):=by
 have HI:=hid (λW (hb:Below w.heap.size w W)=>hI.below hb)
 have HNL:=hid hI.count
 have HB:=hid (show Ob w a n c nx ⟨9,oa,ob,oo,og,on,od⟩ (((w.alloc (.cells #[.slice a n c,.int .i64 nx] 29)).alloc (.cells #[.int .i64 9,.string oa,.string ob,.int .i64 oo,.int .i64 og,.int .i64 on,.string od] 34)).alloc (.cells #[.slice none 0 0,.int .i64 0] 29))from zQ w a n c nx ⟨9,oa,ob,oo,og,on,od⟩)
 have HFi:=hid (λW (hb:Below w.heap.size w W)=>uf a n c nx L oa W (hI.below hb) hS.n5 hS.ents.fewE hS.a)
 have HSet:=hid (λi k m d t ea ec es W (hb:Below w.heap.size w W) (hE:Ents ea es.length es W)=>xv a n c nx L i k m d t ea ec es W (hI.below hb) hS.n5 hE)
 clear hI hS
 go_enter func51,ntmps51
 go_wp2_with fail
 generalize ((w.alloc (.cells #[.slice a n c,.int .i64 nx] 29)).alloc (.cells #[.int .i64 9,.string oa,.string ob,.int .i64 oo,.int .i64 og,.int .i64 on,.string od] 34)).alloc (.cells #[.slice none 0 0,.int .i64 0] 29)=W0 at HB|-
 go_wp2_with fail
 refine(HFi.out W0 HB.out.below).mono ?_
 obtain⟨r,hr⟩: ∃r,zu (its L) oa=r:=⟨_,rfl⟩
 have HR:=hid (show vo (its L) nx oa (λs=>zD s.data.toList on)=if r.2.2≠0 then(⟨its L,nx⟩,r.2.2)else if((λs=>zD s.data.toList on) r.2.1.data).2≠0 then(⟨its L,nx⟩,((λs=>zD s.data.toList on) r.2.1.data).2)else(⟨Fs.setL (its L) r.1 {r.2.1 with data:=lstr ((λs=>zD s.data.toList on) r.2.1.data).1},nx⟩,0) by unfold vo;rw[hr])
 rw[hr]at hd|-
 clear hr
 obtain⟨i,⟨k,m,d,t,es⟩,code⟩:=r
 rintro e w3 ⟨ea,ec,rfl,hE,hb3⟩
 have HP:=hid (λW=>XF d on W (Nat.le_trans hd (by decide)))
 have HB3:=hid (HB.out.kept hb3)
 have HB4:=hid (HB3.out.kept (below_one w3 (.cells #[.int .i64 k,.int .i64 m,.string d,.string t,.slice ea es.length ec] 43)))
 have HE3:=hid hE
 have HC4:=hid (below_one w3 (.cells #[.int .i64 k,.int .i64 m,.string d,.string t,.slice ea es.length ec] 43))
 have HX4:=hid (hE.below (below_one w3 (.cells #[.int .i64 k,.int .i64 m,.string d,.string t,.slice ea es.length ec] 43)))
 have HO4:=hid (heap_alloc_new w3 (.cells #[.int .i64 k,.int .i64 m,.string d,.string t,.slice ea es.length ec] 43))
 clear hb3 hE HB hd
 dsimp only
 by_cases hc:code=0
 ·subst hc
  have c2:(w3.alloc (.cells #[.int .i64 k,.int .i64 m,.string d,.string t,.slice ea es.length ec] 43)).cell? ⟨w3.heap.size,2,none⟩=some (.string d):=cell_obj HO4.out 2
  have o0:=zW HB4.out.op
  have HR2:=hid (show vo (its L) nx oa (λs=>zD s.data.toList on)=if(zD d.data.toList on).2≠0 then(⟨its L,nx⟩,(zD d.data.toList on).2)else(⟨Fs.setL (its L) i ⟨k,m,lstr (zD d.data.toList on).1,t,es⟩,nx⟩,0) by rw[HR.out,if_neg (by simp)])
  clear HR
  go_wp2_with fail
  clear c2 o0
  generalize w3.alloc (.cells #[.int .i64 k,.int .i64 m,.string d,.string t,.slice ea es.length ec] 43)=W4 at HB4 HX4 HO4 HC4|-
  refine(HP.out W4).mono ?_
  generalize zD d.data.toList on=q at HR2|-
  obtain⟨qs,qe⟩:=q
  rintro e w5 ⟨rfl,hb5⟩
  have HB5:=hid (HB4.out.kept hb5)
  have HO5:=hid ((hb5.block _ (lt_of_obj HO4.out)).trans HO4.out)
  have HC5:=hid (HC4.out.trans (hb5.mono HC4.out.size))
  clear hb5 HB4 HX4 HO4 HC4
  have f0:=zn HB5.out.box
  have r0:=zn HB5.out.res
  have q0:=zH HB5.out.res
  dsimp only
  by_cases hq:qe=0
  ·subst hq
   have HR3:=hid (HR2.out.trans (if_neg (by simp)))
   clear HR2
   have HC6:=hid (HC5.out.setCell (p:=⟨w3.heap.size,2,none⟩) (Nat.le_refl _) (.string (lstr qs)))
   have HB6:=hid (HB3.out.kept HC6.out)
   have HX6:=hid (HE3.out.below HC6.out)
   have x0:=yl HO5.out
   have y2:=free_obj HO5.out 2
   go_wp2_with fail
   clear f0 r0 q0 x0 y2
   refine(HSet.out i k m (lstr qs) t ea ec es _ HB6.out.below HX6.out).mono ?_
   generalize w5.setCell ⟨w3.heap.size,2,none⟩ (.string (lstr qs))=W6 at HB6|-
   rintro e w7 ⟨a6,c6,L6,hL6,rfl,hI6,hb6⟩
   have HB7:=hid (HB6.out.kept hb6)
   have HI6:=hid hI6
   have HL6:=hid hL6
   clear hb6 hI6 hL6 HC6 HX6
   obtain⟨n6,hn6⟩: ∃n6,n6=L6.length:=⟨_,rfl⟩
   rw[<-hn6]
   have HN6:=hid hn6
   clear hn6
   have r0:=zn HB7.out.res
   have q0:=zH HB7.out.res
   dsimp only
   go_wp2_with fail
   refine bodyPost_ret_by (za rfl _ _ (w.heap.size+1+1) _ _ rfl (set2 _ _ HB7.out.res)) rfl ?_
   exact zL 0 HB7.out HI6.out HN6.out (by rw[HR3.out,HL6.out])
  ·have HR3:=hid (HR2.out.trans (if_pos hq))
   clear HR2
   go_wp2_with fail
   refine bodyPost_ret_by (za rfl _ _ (w.heap.size+1+1) _ _ rfl (set2 _ _ HB5.out.res)) rfl ?_
   exact zo qe HB5.out HI.out HNL.out HR3.out
 ·have HR2:=hid (HR.out.trans (if_pos hc))
  clear HR
  have f0:=zn HB4.out.box
  have r0:=zn HB4.out.res
  have q0:=zH HB4.out.res
  go_wp2_with fail
  refine bodyPost_ret_by (za rfl _ _ (w.heap.size+1+1) _ _ rfl (set2 _ _ HB4.out.res)) rfl ?_
  exact zo code HB4.out HI.out HNL.out HR2.out
def qy(l:List Fs.Item)(ob:ByteArray)(oo og on:Int)(s:ByteArray):List UInt8×Int:=
 if(zu l ob).2.2≠0 then([],(zu l ob).2.2)else yD s.data.toList oo (zu l ob).2.1.data.data.toList og on
theorem zce(a:Option Addr)(n c:Nat)(nx:Int)(L:List MI)(oa ob:ByteArray)(oo og on:Int)(od:ByteArray)(w:World)(hI:Items a n L w)(hS:Small11 L n ⟨10,oa,ob,oo,og,on,od⟩)(hd:(zu (its L) oa).2.1.data.size<=1000000)
  (hdb:(zu (its L) ob).2.1.data.size<=1000000) (hoo:oo<=9223372036854775807) (hog:og<=9223372036854775807) (hon:on<=9223372036854775807):
  Calls prog 51 #[fv a n c nx,.agg #[.int .i64 10,.string oa,.string ob,.int .i64 oo,.int .i64 og,.int .i64 on,.string od]] w (DoR (vo (its L) nx oa (qy (its L) ob oo og on)) w):=by
 have HI:=hid (λW (hb:Below w.heap.size w W)=>hI.below hb)
 have HNL:=hid hI.count
 have HB:=hid (show Ob w a n c nx ⟨10,oa,ob,oo,og,on,od⟩ (((w.alloc (.cells #[.slice a n c,.int .i64 nx] 29)).alloc (.cells #[.int .i64 10,.string oa,.string ob,.int .i64 oo,.int .i64 og,.int .i64 on,.string od] 34)).alloc (.cells #[.slice none 0 0,.int .i64 0] 29))from zQ w a n c nx ⟨10,oa,ob,oo,og,on,od⟩)
 have HFi:=hid (λW (hb:Below w.heap.size w W)=>uf a n c nx L oa W (hI.below hb) hS.n5 hS.ents.fewE hS.a)
 have HFj:=hid (λW (hb:Below w.heap.size w W)=>uf a n c nx L ob W (hI.below hb) hS.n5 hS.ents.fewE hS.b)
 have HSet:=hid (λi k m d t ea ec es W (hb:Below w.heap.size w W) (hE:Ents ea es.length es W)=>xv a n c nx L i k m d t ea ec es W (hI.below hb) hS.n5 hE)
 clear hI hS
 go_enter func51,ntmps51
 go_wp2_with fail
 generalize ((w.alloc (.cells #[.slice a n c,.int .i64 nx] 29)).alloc (.cells #[.int .i64 10,.string oa,.string ob,.int .i64 oo,.int .i64 og,.int .i64 on,.string od] 34)).alloc (.cells #[.slice none 0 0,.int .i64 0] 29)=W0 at HB|-
 go_wp2_with fail
 refine(HFi.out W0 HB.out.below).mono ?_
 obtain⟨r,hr⟩: ∃r,zu (its L) oa=r:=⟨_,rfl⟩
 obtain⟨r2,hr2⟩: ∃r2,zu (its L) ob=r2:=⟨_,rfl⟩
 have HR:=hid (show vo (its L) nx oa (qy (its L) ob oo og on)=if r.2.2≠0 then(⟨its L,nx⟩,r.2.2)else if r2.2.2≠0 then(⟨its L,nx⟩,r2.2.2)else if(yD r.2.1.data.data.toList oo r2.2.1.data.data.toList og on).2≠0 then(⟨its L,nx⟩,(yD r.2.1.data.data.toList oo r2.2.1.data.data.toList og on).2)else(⟨Fs.setL (its L) r.1 {r.2.1 with data:=lstr (yD r.2.1.data.data.toList oo r2.2.1.data.data.toList og on).1},nx⟩,0) by
  unfold vo qy
  rw[hr,hr2]
  by_cases h2:r2.2.2=0
  ·simp only[h2,ne_eq,not_true_eq_false,if_false]
  ·simp only[h2,ne_eq,not_false_eq_true,if_true])
 rw[hr2]at hdb HFj
 rw[hr]at hd|-
 clear hr hr2
 obtain⟨i,⟨k,m,d,t,es⟩,code⟩:=r
 obtain⟨i2,⟨k2,m2,d2,t2,es2⟩,code2⟩:=r2
 rintro e w3 ⟨ea,ec,rfl,hE,hb3⟩
 have HP:=hid (λW=>VE d oo d2 og on W hd (Nat.le_trans hdb (by decide)) hoo hog hon)
 have HB3:=hid (HB.out.kept hb3)
 have HB4:=hid (HB3.out.kept (below_one w3 (.cells #[.int .i64 k,.int .i64 m,.string d,.string t,.slice ea es.length ec] 43)))
 have HE3:=hid hE
 have HC4:=hid (below_one w3 (.cells #[.int .i64 k,.int .i64 m,.string d,.string t,.slice ea es.length ec] 43))
 have HO4:=hid (heap_alloc_new w3 (.cells #[.int .i64 k,.int .i64 m,.string d,.string t,.slice ea es.length ec] 43))
 clear hb3 hE HB hd hdb hoo hog hon
 dsimp only
 by_cases hc:code=0
 ·subst hc
  have HR1:=hid (HR.out.trans (if_neg (by simp)))
  clear HR
  have f0:=zn HB4.out.box
  have o0:=zW HB4.out.op
  go_wp2_with fail
  clear f0 o0
  generalize w3.alloc (.cells #[.int .i64 k,.int .i64 m,.string d,.string t,.slice ea es.length ec] 43)=W4 at HB4 HO4 HC4|-
  refine(HFj.out W4 HB4.out.below).mono ?_
  rintro e w5 ⟨ea2,ec2,rfl,-,hb5⟩
  have hb6:=below_one w5 (.cells #[.int .i64 k2,.int .i64 m2,.string d2,.string t2,.slice ea2 es2.length ec2] 43)
  have hb56:=hb5.trans (hb6.mono hb5.size)
  have HB6:=hid (HB4.out.kept hb56)
  have HO6:=hid ((hb56.block _ (lt_of_obj HO4.out)).trans HO4.out)
  have HC6:=hid (HC4.out.trans (hb56.mono HC4.out.size))
  have HQ6:=hid (heap_alloc_new w5 (.cells #[.int .i64 k2,.int .i64 m2,.string d2,.string t2,.slice ea2 es2.length ec2] 43))
  clear hb5 hb6 hb56 HB4 HO4 HC4
  dsimp only
  by_cases hc2:code2=0
  ·subst hc2
   have HR2:=hid (HR1.out.trans (if_neg (by simp)))
   clear HR1
   have c2:(w5.alloc (.cells #[.int .i64 k2,.int .i64 m2,.string d2,.string t2,.slice ea2 es2.length ec2] 43)).cell? ⟨w3.heap.size,2,none⟩=some (.string d):=cell_obj HO6.out 2
   have d2':(w5.alloc (.cells #[.int .i64 k2,.int .i64 m2,.string d2,.string t2,.slice ea2 es2.length ec2] 43)).cell? ⟨w5.heap.size,2,none⟩=some (.string d2):=cell_obj HQ6.out 2
   have o0:=zW HB6.out.op
   go_wp2_with fail
   clear c2 d2'
   clear o0
   generalize w5.alloc (.cells #[.int .i64 k2,.int .i64 m2,.string d2,.string t2,.slice ea2 es2.length ec2] 43)=W6 at HB6 HO6 HC6 HQ6|-
   refine(HP.out W6).mono ?_
   generalize yD d.data.toList oo d2.data.toList og on=q at HR2|-
   obtain⟨qs,qe⟩:=q
   rintro e w7 ⟨rfl,hb7⟩
   have HB5:=hid (HB6.out.kept hb7)
   have HO5:=hid ((hb7.block _ (lt_of_obj HO6.out)).trans HO6.out)
   have HC5:=hid (HC6.out.trans (hb7.mono HC6.out.size))
   clear hb7 HB6 HO6 HC6 HQ6
   have f0:=zn HB5.out.box
   have r0:=zn HB5.out.res
   have q0:=zH HB5.out.res
   dsimp only
   by_cases hq:qe=0
   ·subst hq
    have HR3:=hid (HR2.out.trans (if_neg (by simp)))
    clear HR2
    have HC6:=hid (HC5.out.setCell (p:=⟨w3.heap.size,2,none⟩) (Nat.le_refl _) (.string (lstr qs)))
    have HB6:=hid (HB3.out.kept HC6.out)
    have HX6:=hid (HE3.out.below HC6.out)
    have x0:=yl HO5.out
    have y2:=free_obj HO5.out 2
    go_wp2_with fail
    clear f0 r0 q0 x0 y2
    refine(HSet.out i k m (lstr qs) t ea ec es _ HB6.out.below HX6.out).mono ?_
    generalize w7.setCell ⟨w3.heap.size,2,none⟩ (.string (lstr qs))=W6 at HB6|-
    rintro e w8 ⟨a6,c6,L6,hL6,rfl,hI6,hb6⟩
    have HB7:=hid (HB6.out.kept hb6)
    have HI6:=hid hI6
    have HL6:=hid hL6
    clear hb6 hI6 hL6 HC6 HX6
    obtain⟨n6,hn6⟩: ∃n6,n6=L6.length:=⟨_,rfl⟩
    rw[<-hn6]
    have HN6:=hid hn6
    clear hn6
    have r0:=zn HB7.out.res
    have q0:=zH HB7.out.res
    dsimp only
    go_wp2_with fail
    refine bodyPost_ret_by (za rfl _ _ (w.heap.size+1+1) _ _ rfl (set2 _ _ HB7.out.res)) rfl ?_
    exact zL 0 HB7.out HI6.out HN6.out (by rw[HR3.out,HL6.out])
   ·have HR3:=hid (HR2.out.trans (if_pos hq))
    clear HR2
    go_wp2_with fail
    refine bodyPost_ret_by (za rfl _ _ (w.heap.size+1+1) _ _ rfl (set2 _ _ HB5.out.res)) rfl ?_
    exact zo qe HB5.out HI.out HNL.out HR3.out
  ·have HR2:=hid (HR1.out.trans (if_pos hc2))
   clear HR1
   have f0:=zn HB6.out.box
   have r0:=zn HB6.out.res
   have q0:=zH HB6.out.res
   go_wp2_with fail
   refine bodyPost_ret_by (za rfl _ _ (w.heap.size+1+1) _ _ rfl (set2 _ _ HB6.out.res)) rfl ?_
   exact zo code2 HB6.out HI.out HNL.out HR2.out
 ·have HR2:=hid (HR.out.trans (if_pos hc))
  clear HR
  have f0:=zn HB4.out.box
  have r0:=zn HB4.out.res
  have q0:=zH HB4.out.res
  go_wp2_with fail
  refine bodyPost_ret_by (za rfl _ _ (w.heap.size+1+1) _ _ rfl (set2 _ _ HB4.out.res)) rfl ?_
  exact zo code HB4.out HI.out HNL.out HR2.out
theorem qR{l:List Fs.Item}{p:ByteArray}{ns:List ByteArray}(h:spl p=some ns):(∃e,e≠0/\Fs.file l ns= .error e/\(zu l p).2.2=e)\/ ∃i,Fs.file l ns= .ok (i,Fs.nodeD l i)/\zu l p=(i,Fs.nodeD l i,0):=by
 unfold Fs.file zu
 rcases zT (l:=l) h with ⟨e,hne,hw,hf⟩|⟨i,hw,hf⟩
 ·rw[hw,hf]
  exact .inl ⟨e,hne,rfl,by simp[hne]⟩
 ·rw[hw,hf]
  by_cases h2:(Fs.nodeD l i).kind=2
  ·exact .inl ⟨11,by decide,by simp[h2],by simp[h2]⟩
  ·by_cases h3:(Fs.nodeD l i).kind=3
   ·exact .inl ⟨16,by decide,by simp[h3],by simp[h3]⟩
   ·exact .inr ⟨i,by simp[h2,h3],by simp[h2,h3]⟩
def Xi(f:Fs.FS):Except Int Fs.FS->Fs.FS×Int
 | .error e=>(f,e)
 | .ok g=>(g,0)
theorem j7{l:List Fs.Item}{nx:Int}{p:ByteArray}{ns:List ByteArray}(h:spl p=some ns)(g:ByteArray->List UInt8×Int)(k:Nd.Node->Except Int ByteArray)(hk: ∀x,k x=if(g x.data).2≠0 then .error (g x.data).2 else .ok (lstr (g x.data).1)):
  Xi ⟨l,nx⟩ (Fs.edit ⟨l,nx⟩ ns k)=vo l nx p g:=by
 unfold Fs.edit vo
 rcases qR (l:=l) h with ⟨e,hne,hw,hf⟩|⟨i,hw,hf⟩
 ·rw[hf,if_pos hne]
  simp only[hw];rfl
 ·rw[hf,if_neg (by simp)]
  simp only[hw,hk]
  by_cases hz:(g (Fs.nodeD l i).data).2=0
  ·simp[hz,Xi]
  ·simp[hz,Xi]
theorem rDo_8(a:Option Addr)(n c:Nat)(nx:Int)(L:List MI)(oa ob:ByteArray)(oo og on:Int)(od:ByteArray)(w:World)(hI:Items a n L w)(hS:Small11 L n ⟨8,oa,ob,oo,og,on,od⟩){na:List ByteArray}(ha:spl oa=some na)(hd:(zu (its L) oa).2.1.data.size<=1000000)(hod:od.size<=140737488355328)(hoo:oo<=9223372036854775807):
  Calls prog 11 #[fv a n c nx,.agg #[.int .i64 8,.string oa,.string ob,.int .i64 oo,.int .i64 og,.int .i64 on,.string od]] w (DoR (Fs.doE env ⟨its L,nx⟩ ⟨8,oa,ob,oo,og,on,od⟩) w):=by
 have HBy:=hid (λW (hb:Below w.heap.size w W)=>zeq a n c nx L oa ob oo og on od W (hI.below hb) hS hd hod hoo)
 clear hd hod hoo
 have HB:=hid (show Ob w a n c nx ⟨8,oa,ob,oo,og,on,od⟩ (((w.alloc (.cells #[.slice a n c,.int .i64 nx] 29)).alloc (.cells #[.int .i64 8,.string oa,.string ob,.int .i64 oo,.int .i64 og,.int .i64 on,.string od] 34)).alloc (.cells #[.slice none 0 0,.int .i64 0] 29))from zQ w a n c nx ⟨8,oa,ob,oo,og,on,od⟩)
 have HSp:=hid (λW=>zi oa W hS.a)
 have HSq:=hid (λW=>zi ob W hS.b)
 clear hI hS
 obtain⟨ns,hns⟩: ∃ns,Nm.split oa.data.toList=some ns:=by
  unfold spl at ha
  cases hq:Nm.split oa.data.toList with
  |none=>rw[hq]at ha;cases ha
  |some ns=>exact⟨ns,rfl⟩
 have HNs:=hid hns
 clear hns
 have HA:=hid (show Fs.doE env ⟨its L,nx⟩ ⟨8,oa,ob,oo,og,on,od⟩=vo (its L) nx oa (λs=>z8 s.data.toList oo od.data.toList) by
  rw[<-j7 ha (λs=>z8 s.data.toList oo od.data.toList) (λx=>Fs.asked (env.put x.data oo od)) (λx=>rfl)]
  unfold Fs.doE Fs.act Xi
  rw[if_neg (by show¬ ((8:Int)<1\/(11:Int)<8);decide),show env.sp oa=some na from ha]
  rfl)
 go_enter func11,ntmps11
 go_wp2_with fail
 generalize ((w.alloc (.cells #[.slice a n c,.int .i64 nx] 29)).alloc (.cells #[.int .i64 8,.string oa,.string ob,.int .i64 oo,.int .i64 og,.int .i64 on,.string od] 34)).alloc (.cells #[.slice none 0 0,.int .i64 0] 29)=W0 at HB|-
 go_wp2_with fail
 refine(HSp.out W0).mono ?_
 rintro e w1 hX
 have HB1:=hid (HB.out.kept hX.below)
 obtain⟨ao,cap,rfl,-⟩:=hX.yes _ HNs.out
 clear hX HB
 have o0:=zW HB1.out.op
 dsimp only
 go_wp2_with fail
 refine(HSq.out w1).mono ?_
 rintro e w2 hY
 have HB2:=hid (HB1.out.kept hY.below)
 obtain⟨v2,code2,rfl⟩:=hY.form
 clear o0
 clear hY HB1
 have f0:=zn HB2.out.box
 have o0:=zW HB2.out.op
 have r0:=zn HB2.out.res
 have q0:=zH HB2.out.res
 dsimp only
 go_wp2_with fail
 all_goals
  clear f0 o0 r0 q0
  refine(HBy.out w2 HB2.out.below).mono ?_
  rintro e w6 ⟨a6,c6,L6,hL6,rfl,hI6,hb6⟩
  have HB6:=hid (HB2.out.kept hb6)
  have HI6:=hid hI6
  have HL6:=hid hL6
  clear hb6 hI6 hL6
  rw[<-HA.out]at HL6
  obtain⟨n6,hn6⟩: ∃n6,n6=L6.length:=⟨_,rfl⟩
  rw[<-hn6,<-HA.out]
  have HN6:=hid hn6
  clear hn6
  obtain⟨q9,hq9⟩: ∃q9,Fs.doE env ⟨its L,nx⟩ ⟨8,oa,ob,oo,og,on,od⟩=q9:=⟨_,rfl⟩
  rw[hq9]at HL6|-
  obtain⟨⟨l9,nx9⟩,e9⟩:=q9
  have HQ:=hid hq9
  clear hq9
  dsimp only at HL6|-
  have r0:=zn HB6.out.res
  have q0:=zH HB6.out.res
  go_wp2_with fail
  refine bodyPost_ret_by (za rfl _ _ (w.heap.size+1+1) _ _ rfl (set2 _ _ HB6.out.res)) rfl ?_
  exact zL e9 HB6.out HI6.out HN6.out (by rw[HQ.out,HL6.out])
theorem rDo_9(a:Option Addr)(n c:Nat)(nx:Int)(L:List MI)(oa ob:ByteArray)(oo og on:Int)(od:ByteArray)(w:World)(hI:Items a n L w)(hS:Small11 L n ⟨9,oa,ob,oo,og,on,od⟩){na:List ByteArray}(ha:spl oa=some na)(hd:(zu (its L) oa).2.1.data.size<=1000000):
  Calls prog 11 #[fv a n c nx,.agg #[.int .i64 9,.string oa,.string ob,.int .i64 oo,.int .i64 og,.int .i64 on,.string od]] w (DoR (Fs.doE env ⟨its L,nx⟩ ⟨9,oa,ob,oo,og,on,od⟩) w):=by
 have HBy:=hid (λW (hb:Below w.heap.size w W)=>zep a n c nx L oa ob oo og on od W (hI.below hb) hS hd)
 clear hd
 have HB:=hid (show Ob w a n c nx ⟨9,oa,ob,oo,og,on,od⟩ (((w.alloc (.cells #[.slice a n c,.int .i64 nx] 29)).alloc (.cells #[.int .i64 9,.string oa,.string ob,.int .i64 oo,.int .i64 og,.int .i64 on,.string od] 34)).alloc (.cells #[.slice none 0 0,.int .i64 0] 29))from zQ w a n c nx ⟨9,oa,ob,oo,og,on,od⟩)
 have HSp:=hid (λW=>zi oa W hS.a)
 have HSq:=hid (λW=>zi ob W hS.b)
 clear hI hS
 obtain⟨ns,hns⟩: ∃ns,Nm.split oa.data.toList=some ns:=by
  unfold spl at ha
  cases hq:Nm.split oa.data.toList with
  |none=>rw[hq]at ha;cases ha
  |some ns=>exact⟨ns,rfl⟩
 have HNs:=hid hns
 clear hns
 have HA:=hid (show Fs.doE env ⟨its L,nx⟩ ⟨9,oa,ob,oo,og,on,od⟩=vo (its L) nx oa (λs=>zD s.data.toList on) by
  rw[<-j7 ha (λs=>zD s.data.toList on) (λx=>Fs.asked (env.trunc x.data on)) (λx=>rfl)]
  unfold Fs.doE Fs.act Xi
  rw[if_neg (by show¬ ((9:Int)<1\/(11:Int)<9);decide),show env.sp oa=some na from ha]
  rfl)
 go_enter func11,ntmps11
 go_wp2_with fail
 generalize ((w.alloc (.cells #[.slice a n c,.int .i64 nx] 29)).alloc (.cells #[.int .i64 9,.string oa,.string ob,.int .i64 oo,.int .i64 og,.int .i64 on,.string od] 34)).alloc (.cells #[.slice none 0 0,.int .i64 0] 29)=W0 at HB|-
 go_wp2_with fail
 refine(HSp.out W0).mono ?_
 rintro e w1 hX
 have HB1:=hid (HB.out.kept hX.below)
 obtain⟨ao,cap,rfl,-⟩:=hX.yes _ HNs.out
 clear hX HB
 have o0:=zW HB1.out.op
 dsimp only
 go_wp2_with fail
 refine(HSq.out w1).mono ?_
 rintro e w2 hY
 have HB2:=hid (HB1.out.kept hY.below)
 obtain⟨v2,code2,rfl⟩:=hY.form
 clear o0
 clear hY HB1
 have f0:=zn HB2.out.box
 have o0:=zW HB2.out.op
 have r0:=zn HB2.out.res
 have q0:=zH HB2.out.res
 dsimp only
 go_wp2_with fail
 all_goals
  clear f0 o0 r0 q0
  refine(HBy.out w2 HB2.out.below).mono ?_
  rintro e w6 ⟨a6,c6,L6,hL6,rfl,hI6,hb6⟩
  have HB6:=hid (HB2.out.kept hb6)
  have HI6:=hid hI6
  have HL6:=hid hL6
  clear hb6 hI6 hL6
  rw[<-HA.out]at HL6
  obtain⟨n6,hn6⟩: ∃n6,n6=L6.length:=⟨_,rfl⟩
  rw[<-hn6,<-HA.out]
  have HN6:=hid hn6
  clear hn6
  obtain⟨q9,hq9⟩: ∃q9,Fs.doE env ⟨its L,nx⟩ ⟨9,oa,ob,oo,og,on,od⟩=q9:=⟨_,rfl⟩
  rw[hq9]at HL6|-
  obtain⟨⟨l9,nx9⟩,e9⟩:=q9
  have HQ:=hid hq9
  clear hq9
  dsimp only at HL6|-
  have r0:=zn HB6.out.res
  have q0:=zH HB6.out.res
  go_wp2_with fail
  refine bodyPost_ret_by (za rfl _ _ (w.heap.size+1+1) _ _ rfl (set2 _ _ HB6.out.res)) rfl ?_
  exact zL e9 HB6.out HI6.out HN6.out (by rw[HQ.out,HL6.out])
theorem rDo_10(a:Option Addr)(n c:Nat)(nx:Int)(L:List MI)(oa ob:ByteArray)(oo og on:Int)(od:ByteArray)(w:World)(hI:Items a n L w)(hS:Small11 L n ⟨10,oa,ob,oo,og,on,od⟩){na nb:List ByteArray}(ha:spl oa=some na)(hb:spl ob=some nb)(hd:(zu (its L) oa).2.1.data.size<=1000000)(hdb:(zu (its L) ob).2.1.data.size<=1000000)(hoo:oo<=9223372036854775807)(hog:og<=9223372036854775807)(hon:on<=9223372036854775807):
  Calls prog 11 #[fv a n c nx,.agg #[.int .i64 10,.string oa,.string ob,.int .i64 oo,.int .i64 og,.int .i64 on,.string od]] w (DoR (Fs.doE env ⟨its L,nx⟩ ⟨10,oa,ob,oo,og,on,od⟩) w):=by
 have HBy:=hid (λW (hb:Below w.heap.size w W)=>zce a n c nx L oa ob oo og on od W (hI.below hb) hS hd hdb hoo hog hon)
 clear hd hdb hoo hog hon
 have HB:=hid (show Ob w a n c nx ⟨10,oa,ob,oo,og,on,od⟩ (((w.alloc (.cells #[.slice a n c,.int .i64 nx] 29)).alloc (.cells #[.int .i64 10,.string oa,.string ob,.int .i64 oo,.int .i64 og,.int .i64 on,.string od] 34)).alloc (.cells #[.slice none 0 0,.int .i64 0] 29))from zQ w a n c nx ⟨10,oa,ob,oo,og,on,od⟩)
 have HSp:=hid (λW=>zi oa W hS.a)
 have HSq:=hid (λW=>zi ob W hS.b)
 clear hI hS
 obtain⟨ns,hns⟩: ∃ns,Nm.split oa.data.toList=some ns:=by
  unfold spl at ha
  cases hq:Nm.split oa.data.toList with
  |none=>rw[hq]at ha;cases ha
  |some ns=>exact⟨ns,rfl⟩
 have HNs:=hid hns
 clear hns
 obtain⟨ms,hms⟩: ∃ms,Nm.split ob.data.toList=some ms:=by
  unfold spl at hb
  cases hq:Nm.split ob.data.toList with
  |none=>rw[hq]at hb;cases hb
  |some ms=>exact⟨ms,rfl⟩
 have HMs:=hid hms
 clear hms
 have HA:=hid (show Fs.doE env ⟨its L,nx⟩ ⟨10,oa,ob,oo,og,on,od⟩=vo (its L) nx oa (qy (its L) ob oo og on) by
  rw[<-j7 ha (qy (its L) ob oo og on) (λx=>match Fs.file (its L) nb with
   | .error e=> .error e
   | .ok (_,y)=>Fs.asked (env.copy x.data oo y.data og on)) (λx=> ?_)]
  ·unfold Fs.doE Fs.act Xi
   rw[if_neg (by show¬ ((10:Int)<1\/(11:Int)<10);decide),show env.sp oa=some na from ha,show env.sp ob=some nb from hb]
   rfl
  ·unfold qy
   rcases qR (l:=its L) hb with ⟨e,hne,hw,hf⟩|⟨i,hw,hf⟩
   ·rw[hw,hf];simp[hne]
   ·rw[hw,hf];rfl)
 go_enter func11,ntmps11
 go_wp2_with fail
 generalize ((w.alloc (.cells #[.slice a n c,.int .i64 nx] 29)).alloc (.cells #[.int .i64 10,.string oa,.string ob,.int .i64 oo,.int .i64 og,.int .i64 on,.string od] 34)).alloc (.cells #[.slice none 0 0,.int .i64 0] 29)=W0 at HB|-
 go_wp2_with fail
 refine(HSp.out W0).mono ?_
 rintro e w1 hX
 have HB1:=hid (HB.out.kept hX.below)
 obtain⟨ao,cap,rfl,-⟩:=hX.yes _ HNs.out
 clear hX HB
 have o0:=zW HB1.out.op
 dsimp only
 go_wp2_with fail
 refine(HSq.out w1).mono ?_
 rintro e w2 hY
 have HB2:=hid (HB1.out.kept hY.below)
 obtain⟨bo,bcap,rfl,-⟩:=hY.yes _ HMs.out
 clear o0
 clear hY HB1
 have f0:=zn HB2.out.box
 have o0:=zW HB2.out.op
 have r0:=zn HB2.out.res
 have q0:=zH HB2.out.res
 dsimp only
 go_wp2_with fail
 all_goals
  clear f0 o0 r0 q0
  refine(HBy.out w2 HB2.out.below).mono ?_
  rintro e w6 ⟨a6,c6,L6,hL6,rfl,hI6,hb6⟩
  have HB6:=hid (HB2.out.kept hb6)
  have HI6:=hid hI6
  have HL6:=hid hL6
  clear hb6 hI6 hL6
  rw[<-HA.out]at HL6
  obtain⟨n6,hn6⟩: ∃n6,n6=L6.length:=⟨_,rfl⟩
  rw[<-hn6,<-HA.out]
  have HN6:=hid hn6
  clear hn6
  obtain⟨q9,hq9⟩: ∃q9,Fs.doE env ⟨its L,nx⟩ ⟨10,oa,ob,oo,og,on,od⟩=q9:=⟨_,rfl⟩
  rw[hq9]at HL6|-
  obtain⟨⟨l9,nx9⟩,e9⟩:=q9
  have HQ:=hid hq9
  clear hq9
  dsimp only at HL6|-
  have r0:=zn HB6.out.res
  have q0:=zH HB6.out.res
  go_wp2_with fail
  refine bodyPost_ret_by (za rfl _ _ (w.heap.size+1+1) _ _ rfl (set2 _ _ HB6.out.res)) rfl ?_
  exact zL e9 HB6.out HI6.out HN6.out (by rw[HQ.out,HL6.out])
end Go.Proofs.YtabmamofnhcgbaaGreatDoor
namespace Go.Proofs.YtabmamofnhcgbaaGreatDoor
open T6
open Go.RowKit Go.Less
structure Ask11 (l:List Fs.Item) (nx:Int) (o:Fs.Op):Prop where
 root:(Fs.nodeD l 1).kind=2
 deep: ∀ns i,spl o.a=some ns->Fs.walk l 1 ns= .ok i->Dp l 9 i
 next:0<=nx/\nx<=1000000000000
 fa:(zu l o.a).2.1.data.size<=1000000
 fb:(zu l o.b).2.1.data.size<=1000000
 data:o.data.size<=140737488355328
 off:o.off<=9223372036854775807
 from_:o.from_<=9223372036854775807
 n:o.n<=9223372036854775807
theorem zeo(a:Option Addr)(n c:Nat)(nx:Int)(L:List MI)(o:Fs.Op)(w:World)(hI:Items a n L w)(hS:Small11 L n o)(hA:Ask11 (its L) nx o):
  Calls prog 11 #[fv a n c nx,ov o] w (DoR (Fs.doE env ⟨its L,nx⟩ o) w):=by
 by_cases hk:o.kind<1\/11<o.kind
 ·exact zcd a n c nx L o w hI hS hk
 cases ha:spl o.a with
 |none=>exact rDo_a a n c nx L o w hI hS hk ha
 | some na=>
  obtain⟨kind,oa,ob,oo,og,on,od⟩:=o
  obtain⟨r1,r2,r3,r4,r5,r6,r7,r8,r9⟩:=hA
  dsimp only at hk ha r2 r4 r5 r6 r7 r8 r9
  have hkk:kind=1\/kind=2\/kind=3\/kind=4\/kind=5\/kind=6\/kind=7\/kind=8\/kind=9\/kind=10\/kind=11:=by omega
  clear hk
  rcases hkk with rfl|rfl|rfl|rfl|rfl|rfl|rfl|rfl|rfl|rfl|rfl
  ·exact VJ a n c nx L oa ob oo og on od w hI hS ha r3
  ·exact VI a n c nx L oa ob oo og on od w hI hS ha r3
  ·exact VH a n c nx L oa ob oo og on od w hI hS ha r3
  ·cases hb:spl ob with
   |none=>exact rDo_b4 a n c nx L oa ob oo og on od w hI hS ha hb
   |some nb=>exact zcc a n c nx L oa ob oo og on od w hI hS ha hb
  ·exact JE a n c nx L oa ob oo og on od w hI hS ha r1
  ·exact Q5 a n c nx L oa ob oo og on od w hI hS ha
  ·cases hb:spl ob with
   |none=>exact rDo_b7 a n c nx L oa ob oo og on od w hI hS ha hb
   |some nb=>exact JF a n c nx L oa ob oo og on od w hI hS ha hb (λi=>r2 na i ha)
  ·exact rDo_8 a n c nx L oa ob oo og on od w hI hS ha r4 r6 r7
  ·exact rDo_9 a n c nx L oa ob oo og on od w hI hS ha r4
  ·cases hb:spl ob with
   |none=>exact zen a n c nx L oa ob oo og on od w hI hS ha hb
   |some nb=>exact rDo_10 a n c nx L oa ob oo og on od w hI hS ha hb r4 r5 r7 r8 r9
  ·exact Q6 a n c nx L oa ob oo og on od w hI hS ha
end Go.Proofs.YtabmamofnhcgbaaGreatDoor
namespace Go.Proofs.YtabmamofnhcgbaaGreatDoor
open T6
open Go.RowKit Go.Less
attribute [local go_sem 9000] zg zf
def zb5:Fs.Item:=(1,⟨2,493,ByteArray.empty,ByteArray.empty,[]⟩)
def Zx:MI:=⟨zb5,none,0⟩
theorem zaG(m:MI)(j:Nat)(v:Value)(h:(yG m)[j]?=some v):j<6:=by
 obtain⟨hl,_⟩:=List.getElem?_eq_some_iff.1 h
 exact hl
theorem J8{w:World}{g:Nat}{t:TypeId}{s:Nat×Nat}(h:w.heap[g]?=some (.cells #[.int .i64 1,.int .i64 2,.int .i64 493,.string ⟨#[]⟩,.string ⟨#[]⟩,.slice none 0 0] t s)):Items (some ⟨g,0,none⟩) 1 [Zx] w:=by
 refine⟨rfl,λi x hx=> ?_,λx hx=> ?_⟩
 ·match i,hx with
  |0,hx=>
   obtain rfl:Zx=x:=by simpa using hx
   refine⟨g,0,rfl,λj v hj=> ?_⟩
   have hlt:=zaG Zx j v hj
   match j,hlt,hj with
   |0,_,hj=>obtain rfl:=Option.some.inj hj;exact cell_obj h 0
   |1,_,hj=>obtain rfl:=Option.some.inj hj;exact cell_obj h 1
   |2,_,hj=>obtain rfl:=Option.some.inj hj;exact cell_obj h 2
   |3,_,hj=>obtain rfl:=Option.some.inj hj;exact cell_obj h 3
   |4,_,hj=>obtain rfl:=Option.some.inj hj;exact cell_obj h 4
   |5,_,hj=>obtain rfl:=Option.some.inj hj;exact cell_obj h 5
 ·obtain rfl:x=Zx:=by simpa using hx
  exact zs _
theorem zca(w:World):Calls prog 10 #[] w (FsR Fs.new.l 2 w):=by
 go_enter func10,ntmps10
 go_wp2_with fail
 generalize hc:Obj.cells #[Value.slice (some {block:=w.heap.size+1,off:=0}) 1 1,Value.int IntKind.i64 2] 29=o1
 have b1:=(Below.refl w.heap.size w).alloc (Nat.le_refl _) o1
 have hs:(w.alloc o1).heap.size=w.heap.size+1:=yw w o1
 have b2:=b1.alloc (by rw[hs];omega) (.cells #[.int .i64 1,.int .i64 2,.int .i64 493,.string ⟨#[]⟩,.string ⟨#[]⟩,.slice none 0 0] 70)
 have k1:=heap_alloc_new w o1
 have k2:=heap_alloc_new (w.alloc o1) (.cells #[.int .i64 1,.int .i64 2,.int .i64 493,.string ⟨#[]⟩,.string ⟨#[]⟩,.slice none 0 0] 70)
 have k1':=al k1 (.cells #[.int .i64 1,.int .i64 2,.int .i64 493,.string ⟨#[]⟩,.string ⟨#[]⟩,.slice none 0 0] 70)
 rw[hs]at k2
 subst hc
 refine bodyPost_ret_by (yX rfl _ _ w.heap.size _ _ rfl k1') rfl ?_
 exact⟨some ⟨w.heap.size+1,0,none⟩,1,[Zx],rfl,rfl,J8 k2,b2⟩
end Go.Proofs.YtabmamofnhcgbaaGreatDoor
