/- A part of the proofs. -/
import Derived.Test.YtabmamofnhcgbaaGreatDoorP01
set_option maxRecDepth 1000000
set_option maxHeartbeats 16000000
open Go.Lib (hid)
open Go.Proofs.Tryz
namespace Go.Proofs.YtabmamofnhcgbaaGreatDoor
open T6
open Go.RowKit Go.Less
attribute [local go_sem 9000] zg zf
theorem kJ: ∀{a b:List (List UInt8)},a.map lstr=b.map lstr->a=b
 |[],[],_=>rfl
 |[],y::b,h=>by cases h
 |x::a,[],h=>by cases h
 |x::a,y::b,h=>by
  rw[List.map_cons,List.map_cons]at h
  injection h with h1 h2
  rw[zcL h1,kJ h2]
theorem kw: ∀(x y:List (List UInt8)),x.isPrefixOf y=true↔y.take x.length=x
 |[],y=>by simp
 |a::x,[]=>by simp[List.isPrefixOf]
 |a::x,b::y=>by
  show(a==b&&x.isPrefixOf y)=true↔_
  rw[Bool.and_eq_true,kw x y,beq_iff_eq]
  simp only[List.length_cons,List.take_succ_cons,List.cons.injEq]
  exact⟨λh=>⟨h.1.symm,h.2⟩,λh=>⟨h.1.symm,h.2⟩⟩
theorem Xu{p q:ByteArray}{na nb:List ByteArray}(ha:spl p=some na)(hb:spl q=some nb):Nm.within p.data.toList q.data.toList=decide (nb.take na.length=na):=by
 unfold spl at ha hb
 rw[Option.map_eq_some_iff]at ha hb
 obtain⟨ns,hs,rfl⟩:=ha
 obtain⟨ms,ht,rfl⟩:=hb
 unfold Nm.within
 rw[hs,ht]
 simp only
 rw[Bool.eq_iff_iff,kw,decide_eq_true_eq,List.length_map,<-List.map_take]
 exact⟨λh=>by rw[h],kJ⟩
theorem JF(a:Option Addr)(n c:Nat)(nx:Int)(L:List MI)(oa ob:ByteArray)(oo og on:Int)(od:ByteArray)(w:World)(hI:Items a n L w)(hS:Small11 L n ⟨7,oa,ob,oo,og,on,od⟩){na nb:List ByteArray}(ha:spl oa=some na)(hb:spl ob=some nb)(hD: ∀i,Fs.walk (its L) 1 na= .ok i->Dp (its L) 9 i):
  Calls prog 11 #[fv a n c nx,.agg #[.int .i64 7,.string oa,.string ob,.int .i64 oo,.int .i64 og,.int .i64 on,.string od]] w (DoR (Fs.doE env ⟨its L,nx⟩ ⟨7,oa,ob,oo,og,on,od⟩) w):=by
 have HFi:=hid (λW (hb:Below w.heap.size w W)=>xJ a n c nx L oa W (hI.below hb) hS.n5 hS.ents.fewE hS.a)
 have HPl:=hid (λW (hb:Below w.heap.size w W)=>ut a n c nx L oa W (hI.below hb) hS.n5 hS.ents.fewE hS.a)
 have HLe:=hid (λd x W (hb:Below w.heap.size w W)=>jR a n c nx L d x W (hI.below hb) hS.n5 hS.ents.fewE)
 have HFre:=hid (λW (hb:Below w.heap.size w W)=>vE a n c nx L ob W (hI.below hb) hS.n5 hS.ents.fewE hS.b)
 have HWi:=hid (λW=>Yp oa ob W hS.a hS.b)
 have HDp:=hid (λi W (hb:Below w.heap.size w W) (h:Dp (its L) 9 i)=>Q7 a n c nx L hS.n5 hS.ents 9 (by decide) i W (hI.below hb) h)
 have HI:=hid (λW (hb:Below w.heap.size w W)=>hI.below hb)
 have HNL:=hid hI.count
 have HB:=hid (show Ob w a n c nx ⟨7,oa,ob,oo,og,on,od⟩ (((w.alloc (.cells #[.slice a n c,.int .i64 nx] 29)).alloc (.cells #[.int .i64 7,.string oa,.string ob,.int .i64 oo,.int .i64 og,.int .i64 on,.string od] 34)).alloc (.cells #[.slice none 0 0,.int .i64 0] 29))from zQ w a n c nx ⟨7,oa,ob,oo,og,on,od⟩)
 have HSp:=hid (λW=>zi oa W hS.a)
 have HSq:=hid (λW=>zi ob W hS.b)
 have HSm:=hid hS
 clear hI hS
 obtain⟨ns,hns⟩: ∃ns,Nm.split oa.data.toList=some ns:=by
  unfold spl at ha
  cases hq:Nm.split oa.data.toList with
  |none=>rw[hq]at ha;cases ha
  |some ns=>exact⟨ns,rfl⟩
 have HNs:=hid hns
 clear hns
 obtain⟨ms,hms⟩: ∃ms,Nm.split ob.data.toList=some ms:=by
  unfold spl at hb
  cases hq:Nm.split ob.data.toList with
  |none=>rw[hq]at hb;cases hb
  |some ms=>exact⟨ms,rfl⟩
 have HMs:=hid hms
 clear hms
 have HR:=hid (show Fs.act env ⟨its L,nx⟩ ⟨7,oa,ob,oo,og,on,od⟩=Fs.rename env ⟨its L,nx⟩ na nb by
  unfold Fs.act
  rw[if_neg (by show¬ ((7:Int)<1\/(11:Int)<7);decide),show env.sp oa=some na from ha,show env.sp ob=some nb from hb]
  rfl)
 unfold Fs.rename at HR
 have HFc:=hid (xW (l:=its L) hb)
 have HSm2:=hid (vw hb)
 have HWn:=hid (Xu ha hb)
 have HLn:=hid (show ms.length=nb.length/\nb.length<=8 from by
  unfold spl at hb
  rw[HMs.out]at hb
  injection hb with hb
  rw[<-hb,List.length_map]
  exact⟨rfl,jo HMs.out⟩)
 have HCases:=hid (show∀r,zF (its L) oa=r->(r.2.2≠0/\Fs.act env ⟨its L,nx⟩ ⟨7,oa,ob,oo,og,on,od⟩= .error r.2.2)\/(r.2.2=0/\Fs.walk (its L) 1 na= .ok r.1/\r.2.1=Fs.nodeD (its L) r.1/\Fs.act env ⟨its L,nx⟩ ⟨7,oa,ob,oo,og,on,od⟩=if r.1=1 then .error 17 else if r.2.1.kind=2/\nb.take na.length=na then .error 15 else match Fs.fresh (its L) nb with| .error e=> .error e| .ok (d,x)=>match Fs.place (its L) na with| .error e=> .error e| .ok (cc,mm)=>if(64<=(Fs.nodeD (its L) d).ents.length/\cc≠d)\/8<nb.length+Fs.deep (its L) 9 r.1 then .error 3 else .ok ⟨Fs.enter env (Fs.leave (its L) cc mm) d x r.1,nx⟩)from λr hr=>by
  rw[HR.out]
  rcases zT (l:=its L) ha with ⟨e,hne,hw,hf⟩|⟨i,hw,hf⟩
  ·rw[<-hr,hf,hw];exact .inl ⟨hne,rfl⟩
  ·rw[<-hr,hf,hw];exact .inr ⟨rfl,rfl,rfl,rfl⟩)
 go_enter func11,ntmps11
 go_wp2_with fail
 generalize ((w.alloc (.cells #[.slice a n c,.int .i64 nx] 29)).alloc (.cells #[.int .i64 7,.string oa,.string ob,.int .i64 oo,.int .i64 og,.int .i64 on,.string od] 34)).alloc (.cells #[.slice none 0 0,.int .i64 0] 29)=W0 at HB|-
 go_wp2_with fail
 refine(HSp.out W0).mono ?_
 rintro e w1 hX
 have HB1:=hid (HB.out.kept hX.below)
 obtain⟨ao,cap,rfl,-⟩:=hX.yes _ HNs.out
 clear hX HB
 have o0:=zW HB1.out.op
 dsimp only
 go_wp2_with fail
 refine(HSq.out w1).mono ?_
 rintro e w2 hY
 have HB2:=hid (HB1.out.kept hY.below)
 obtain⟨bo,bcap,rfl,-⟩:=hY.yes _ HMs.out
 clear o0
 clear hY HB1
 have f0:=zn HB2.out.box
 have o0:=zW HB2.out.op
 dsimp only
 go_wp2_with fail
 refine(HFi.out w2 HB2.out.below).mono ?_
 obtain⟨r,hr⟩: ∃r,zF (its L) oa=r:=⟨_,rfl⟩
 have HC:=hid (HCases.out r hr)
 rw[hr]
 clear hr
 obtain⟨i,⟨k,m,d,t,es⟩,code⟩:=r
 rintro e w3 ⟨ea,ec,rfl,hE,hb3⟩
 have HB3:=hid (HB2.out.kept hb3)
 have HB4:=hid (HB3.out.kept (below_one w3 (.cells #[.int .i64 k,.int .i64 m,.string d,.string t,.slice ea es.length ec] 43)))
 have HE3:=hid hE
 have HX4:=hid (hE.below (below_one w3 (.cells #[.int .i64 k,.int .i64 m,.string d,.string t,.slice ea es.length ec] 43)))
 have HO4:=hid (heap_alloc_new w3 (.cells #[.int .i64 k,.int .i64 m,.string d,.string t,.slice ea es.length ec] 43))
 clear f0 o0
 clear hb3 hE
 dsimp only
 rcases HC.out with ⟨hne,ha2⟩|⟨hz,hwk,hnd,ha2⟩
 ·have HA:=hid ha2
  clear ha2
  dsimp only at hne
  have f0:=zn HB4.out.box
  have r0:=zn HB4.out.res
  have q0:=zH HB4.out.res
  go_wp2_with fail
  refine bodyPost_ret_by (za rfl _ _ (w.heap.size+1+1) _ _ rfl (set2 _ _ HB4.out.res)) rfl ?_
  exact zo code HB4.out HI.out HNL.out (by unfold Fs.doE;rw[HA.out])
 dsimp only at hz hwk hnd ha2
 subst hz
 have HW:=hid hwk
 have HNd:=hid hnd
 clear hwk hnd
 have HDi:=hid (hD i HW.out)
 by_cases hi1:i=1
 ·have HA:=hid (ha2.trans (if_pos hi1))
  clear ha2
  subst hi1
  have f0:=zn HB4.out.box
  have o0:=zW HB4.out.op
  have r0:=zn HB4.out.res
  have q0:=zH HB4.out.res
  go_wp2_with fail
  refine bodyPost_ret_by (za rfl _ _ (w.heap.size+1+1) _ _ rfl (set2 _ _ HB4.out.res)) rfl ?_
  exact zo 17 HB4.out HI.out HNL.out (by unfold Fs.doE;rw[HA.out])
 have ha3:=ha2.trans (if_neg hi1)
 clear ha2
 by_cases hlo:k=2/\nb.take na.length=na
 ·have HA:=hid (ha3.trans (if_pos hlo))
  obtain⟨hk2,hpre⟩:=hlo
  have HWt:=hid (HWn.out.trans (decide_eq_true hpre))
  clear ha3
  subst hk2
  have o0:=zW HB4.out.op
  go_wp2_with fail
  refine(HWi.out _).mono ?_
  unfold yv
  rw[HWt.out]
  rintro e w5 ⟨rfl,hb5⟩
  have HB5:=hid (HB4.out.kept hb5)
  clear o0
  clear hb5
  have f0:=zn HB5.out.box
  have r0:=zn HB5.out.res
  have q0:=zH HB5.out.res
  dsimp only
  go_wp2_with fail
  refine bodyPost_ret_by (za rfl _ _ (w.heap.size+1+1) _ _ rfl (set2 _ _ HB5.out.res)) rfl ?_
  exact zo 15 HB5.out HI.out HNL.out (by unfold Fs.doE;rw[HA.out])
 have HA2:=hid (ha3.trans (if_neg hlo))
 clear ha3
 by_cases hk2:k=2
 ·have HWf:=hid (HWn.out.trans (decide_eq_false (λh=>hlo ⟨hk2,h⟩)))
  clear hlo
  subst hk2
  have o0:=zW HB4.out.op
  go_wp2_with fail
  refine(HWi.out _).mono ?_
  unfold yv
  rw[HWf.out]
  rintro e w5 ⟨rfl,hb5⟩
  have HB5:=hid (HB4.out.kept hb5)
  clear o0
  clear hb5
  have f0:=zn HB5.out.box
  have o0:=zW HB5.out.op
  dsimp only
  go_wp2_with fail
  refine(HFre.out w5 HB5.out.below).mono ?_
  obtain⟨q,hq⟩: ∃q,xQ (its L) ob=q:=⟨_,rfl⟩
  have HQ:=hid (HFc.out q hq)
  rw[hq]
  clear hq
  obtain⟨dd,x,many,code⟩:=q
  rintro e w6 ⟨rfl,hb6⟩
  have HB6:=hid (HB5.out.kept hb6)
  clear hb6
  clear f0 o0
  have f0:=zn HB6.out.box
  have o0:=zW HB6.out.op
  have r0:=zn HB6.out.res
  have q0:=zH HB6.out.res
  dsimp only
  rcases HQ.out with ⟨hne,hfr⟩|⟨hz,hfr,hmany⟩
  ·dsimp only at hne hfr
   have HA:=hid (show Fs.act env ⟨its L,nx⟩ ⟨7,oa,ob,oo,og,on,od⟩= .error code by rw[HA2.out,hfr])
   clear hfr
   go_wp2_with fail
   refine bodyPost_ret_by (za rfl _ _ (w.heap.size+1+1) _ _ rfl (set2 _ _ HB6.out.res)) rfl ?_
   exact zo code HB6.out HI.out HNL.out (by unfold Fs.doE;rw[HA.out])
  dsimp only at hz hfr hmany
  subst hz
  obtain⟨cc,mm,hpl⟩:=kx HW.out hi1
  have HA3:=hid (show Fs.act env ⟨its L,nx⟩ ⟨7,oa,ob,oo,og,on,od⟩=if(64<=(Fs.nodeD (its L) dd).ents.length/\cc≠dd)\/8<nb.length+Fs.deep (its L) 9 i then .error 3 else .ok ⟨Fs.enter env (Fs.leave (its L) cc mm) dd x i,nx⟩ by rw[HA2.out,hfr,hpl])
  have hxs:=HSm2.out x (xP hfr)
  have HPr:=hid (kA ha hpl)
  have HMany:=hid hmany
  clear hfr hpl hmany
  go_wp2_with fail
  refine(HPl.out w6 HB6.out.below).mono ?_
  rw[HPr.out]
  rintro e w7 ⟨rfl,hb7⟩
  have HB7:=hid (HB6.out.kept hb7)
  clear hb7
  clear f0 o0 r0 q0
  have o0:=zW HB7.out.op
  dsimp only
  go_wp2_with fail
  refine(HSq.out w7).mono ?_
  rintro e w8 hY8
  have HB8:=hid (HB7.out.kept hY8.below)
  obtain⟨bo2,bcap2,rfl,-⟩:=hY8.yes _ HMs.out
  clear o0
  clear hY8
  rw[HLn.out.1]
  have f0:=zn HB8.out.box
  have r0:=zn HB8.out.res
  have q0:=zH HB8.out.res
  dsimp only
  have hl8:=HLn.out.2
  have hds:=y7 (its L) 9 i
  generalize nb.length=LN at*
  by_cases hbig:(64:Int)<=many/\cc≠dd
  ·have HA:=hid (HA3.out.trans (if_pos (.inl ⟨by have:=HMany.out;omega,hbig.2⟩)))
   obtain⟨hb1,hb2⟩:=hbig
   go_wp2_with fail
   refine bodyPost_ret_by (za rfl _ _ (w.heap.size+1+1) _ _ rfl (set2 _ _ HB8.out.res)) rfl ?_
   exact zo 3 HB8.out HI.out HNL.out (by unfold Fs.doE;rw[HA.out])
  have HDe:=hid (HDp.out i w8 HB8.out.below HDi.out)
  generalize Fs.deep (its L) 9 i=DP at*
  have hwr:IntKind.i64.wrap ((LN:Int)+(DP:Int))=(LN:Int)+(DP:Int):=IntWalk.i64_in _ (by omega)
  have hwr2:IntKind.i64.wrap (((LN+DP:Nat):Int))=((LN+DP:Nat):Int):=IntWalk.i64_in _ (by omega)
  have HA4:=hid (show Fs.act env ⟨its L,nx⟩ ⟨7,oa,ob,oo,og,on,od⟩=if 8<LN+DP then .error 3 else .ok ⟨Fs.enter env (Fs.leave (its L) cc mm) dd x i,nx⟩from HA3.out.trans (by
   by_cases h:8<LN+DP
   ·rw[if_pos h,if_pos (.inr h)]
   ·rw[if_neg h,if_neg (by rintro (⟨h1,h2⟩|h3);exact hbig ⟨by have:=HMany.out;omega,h2⟩;exact h h3)]))
  by_cases hmc:(64:Int)<=many
  ·have hcd:cc=dd:=Decidable.byContradiction λh=>hbig ⟨hmc,h⟩
   clear hbig
   subst hcd
   go_wp2_with fail
   refine HDe.out.mono ?_
   rintro e w9 ⟨rfl,hb9⟩
   have HB9:=hid (HB8.out.kept hb9)
   clear f0 r0 q0
   clear hb9
   have f0:=zn HB9.out.box
   have r0:=zn HB9.out.res
   have q0:=zH HB9.out.res
   dsimp only
   by_cases h8:8<LN+DP
   ·have HA:=hid (HA4.out.trans (if_pos h8))
    have h8i:(8:Int)<(LN:Int)+(DP:Int):=by omega
    clear h8
    go_wp2_with fail
    refine bodyPost_ret_by (za rfl _ _ (w.heap.size+1+1) _ _ rfl (set2 _ _ HB9.out.res)) rfl ?_
    exact zo 3 HB9.out HI.out HNL.out (by unfold Fs.doE;rw[HA.out])
   have HA:=hid (HA4.out.trans (if_neg h8))
   have h8i: ¬ (8:Int)<(LN:Int)+(DP:Int):=by omega
   clear h8
   go_wp2_with fail
   refine(HLe.out cc mm w9 HB9.out.below).mono ?_
   rintro e w10 ⟨a10,c10,L10,hL10,rfl,hI10,hb10⟩
   have HL10:=hid (show its L10=Fs.leave (its L) cc mm from hL10)
   have HFw:=hid (vr HSm.out.ents (Nat.le_trans (y9 _ _) (HSm.out.ents.fewE cc)) hL10)
   have HB10:=hid (HB9.out.kept hb10)
   obtain⟨n10,hn10⟩: ∃n10,n10=L10.length:=⟨_,rfl⟩
   rw[<-hn10]at hI10|-
   have HI10:=hid hI10
   have hn11:n10<=100000:=by have:=HFw.out.2;have:=HSm.out.few;have:=HNL.out;omega
   clear f0 r0 q0
   clear hb10 hI10 hL10 hn10
   dsimp only
   go_wp2_with fail
   refine(z7 a10 n10 c10 nx L10 cc x i w10 HI10.out hn11 HFw.out.1.fewE hxs).mono ?_
   rw[HL10.out]
   rintro e w6 ⟨a6,c6,L6,hL6,rfl,hI6,hb6⟩
   have HB6:=hid (HB10.out.kept hb6)
   have HI6:=hid hI6
   have HL6:=hid hL6
   clear hb6 hI6 hL6
   obtain⟨n6,hn6⟩: ∃n6,n6=L6.length:=⟨_,rfl⟩
   rw[<-hn6]
   have HN6:=hid hn6
   clear hn6
   have r0:=zn HB6.out.res
   have q0:=zH HB6.out.res
   dsimp only
   go_wp2_with fail
   refine bodyPost_ret_by (za rfl _ _ (w.heap.size+1+1) _ _ rfl (set2 _ _ HB6.out.res)) rfl ?_
   exact zL 0 HB6.out HI6.out HN6.out (by unfold Fs.doE;rw[HA.out,HL6.out];rfl)
  ·clear hbig
   go_wp2_with fail
   refine HDe.out.mono ?_
   rintro e w9 ⟨rfl,hb9⟩
   have HB9:=hid (HB8.out.kept hb9)
   clear f0 r0 q0
   clear hb9
   have f0:=zn HB9.out.box
   have r0:=zn HB9.out.res
   have q0:=zH HB9.out.res
   dsimp only
   by_cases h8:8<LN+DP
   ·have HA:=hid (HA4.out.trans (if_pos h8))
    have h8i:(8:Int)<(LN:Int)+(DP:Int):=by omega
    clear h8
    go_wp2_with fail
    refine bodyPost_ret_by (za rfl _ _ (w.heap.size+1+1) _ _ rfl (set2 _ _ HB9.out.res)) rfl ?_
    exact zo 3 HB9.out HI.out HNL.out (by unfold Fs.doE;rw[HA.out])
   have HA:=hid (HA4.out.trans (if_neg h8))
   have h8i: ¬ (8:Int)<(LN:Int)+(DP:Int):=by omega
   clear h8
   go_wp2_with fail
   refine(HLe.out cc mm w9 HB9.out.below).mono ?_
   rintro e w10 ⟨a10,c10,L10,hL10,rfl,hI10,hb10⟩
   have HL10:=hid (show its L10=Fs.leave (its L) cc mm from hL10)
   have HFw:=hid (vr HSm.out.ents (Nat.le_trans (y9 _ _) (HSm.out.ents.fewE cc)) hL10)
   have HB10:=hid (HB9.out.kept hb10)
   obtain⟨n10,hn10⟩: ∃n10,n10=L10.length:=⟨_,rfl⟩
   rw[<-hn10]at hI10|-
   have HI10:=hid hI10
   have hn11:n10<=100000:=by have:=HFw.out.2;have:=HSm.out.few;have:=HNL.out;omega
   clear f0 r0 q0
   clear hb10 hI10 hL10 hn10
   dsimp only
   go_wp2_with fail
   refine(z7 a10 n10 c10 nx L10 dd x i w10 HI10.out hn11 HFw.out.1.fewE hxs).mono ?_
   rw[HL10.out]
   rintro e w6 ⟨a6,c6,L6,hL6,rfl,hI6,hb6⟩
   have HB6:=hid (HB10.out.kept hb6)
   have HI6:=hid hI6
   have HL6:=hid hL6
   clear hb6 hI6 hL6
   obtain⟨n6,hn6⟩: ∃n6,n6=L6.length:=⟨_,rfl⟩
   rw[<-hn6]
   have HN6:=hid hn6
   clear hn6
   have r0:=zn HB6.out.res
   have q0:=zH HB6.out.res
   dsimp only
   go_wp2_with fail
   refine bodyPost_ret_by (za rfl _ _ (w.heap.size+1+1) _ _ rfl (set2 _ _ HB6.out.res)) rfl ?_
   exact zL 0 HB6.out HI6.out HN6.out (by unfold Fs.doE;rw[HA.out,HL6.out];rfl)
 ·clear hlo
  have f0:=zn HB4.out.box
  have o0:=zW HB4.out.op
  go_wp2_with fail
  generalize w3.alloc (.cells #[.int .i64 k,.int .i64 m,.string d,.string t,.slice ea es.length ec] 43)=W4 at HB4 HX4 HO4|-
  refine(HFre.out W4 HB4.out.below).mono ?_
  obtain⟨q,hq⟩: ∃q,xQ (its L) ob=q:=⟨_,rfl⟩
  have HQ:=hid (HFc.out q hq)
  rw[hq]
  clear hq
  obtain⟨dd,x,many,code⟩:=q
  rintro e w6 ⟨rfl,hb6⟩
  have HB6:=hid (HB4.out.kept hb6)
  clear hb6
  clear f0 o0
  have f0:=zn HB6.out.box
  have o0:=zW HB6.out.op
  have r0:=zn HB6.out.res
  have q0:=zH HB6.out.res
  dsimp only
  rcases HQ.out with ⟨hne,hfr⟩|⟨hz,hfr,hmany⟩
  ·dsimp only at hne hfr
   have HA:=hid (show Fs.act env ⟨its L,nx⟩ ⟨7,oa,ob,oo,og,on,od⟩= .error code by rw[HA2.out,hfr])
   clear hfr
   go_wp2_with fail
   refine bodyPost_ret_by (za rfl _ _ (w.heap.size+1+1) _ _ rfl (set2 _ _ HB6.out.res)) rfl ?_
   exact zo code HB6.out HI.out HNL.out (by unfold Fs.doE;rw[HA.out])
  dsimp only at hz hfr hmany
  subst hz
  obtain⟨cc,mm,hpl⟩:=kx HW.out hi1
  have HA3:=hid (show Fs.act env ⟨its L,nx⟩ ⟨7,oa,ob,oo,og,on,od⟩=if(64<=(Fs.nodeD (its L) dd).ents.length/\cc≠dd)\/8<nb.length+Fs.deep (its L) 9 i then .error 3 else .ok ⟨Fs.enter env (Fs.leave (its L) cc mm) dd x i,nx⟩ by rw[HA2.out,hfr,hpl])
  have hxs:=HSm2.out x (xP hfr)
  have HPr:=hid (kA ha hpl)
  have HMany:=hid hmany
  clear hfr hpl hmany
  go_wp2_with fail
  refine(HPl.out w6 HB6.out.below).mono ?_
  rw[HPr.out]
  rintro e w7 ⟨rfl,hb7⟩
  have HB7:=hid (HB6.out.kept hb7)
  clear hb7
  clear f0 o0 r0 q0
  have o0:=zW HB7.out.op
  dsimp only
  go_wp2_with fail
  refine(HSq.out w7).mono ?_
  rintro e w8 hY8
  have HB8:=hid (HB7.out.kept hY8.below)
  obtain⟨bo2,bcap2,rfl,-⟩:=hY8.yes _ HMs.out
  clear o0
  clear hY8
  rw[HLn.out.1]
  have f0:=zn HB8.out.box
  have r0:=zn HB8.out.res
  have q0:=zH HB8.out.res
  dsimp only
  have hl8:=HLn.out.2
  have hds:=y7 (its L) 9 i
  generalize nb.length=LN at*
  by_cases hbig:(64:Int)<=many/\cc≠dd
  ·have HA:=hid (HA3.out.trans (if_pos (.inl ⟨by have:=HMany.out;omega,hbig.2⟩)))
   obtain⟨hb1,hb2⟩:=hbig
   go_wp2_with fail
   refine bodyPost_ret_by (za rfl _ _ (w.heap.size+1+1) _ _ rfl (set2 _ _ HB8.out.res)) rfl ?_
   exact zo 3 HB8.out HI.out HNL.out (by unfold Fs.doE;rw[HA.out])
  have HDe:=hid (HDp.out i w8 HB8.out.below HDi.out)
  generalize Fs.deep (its L) 9 i=DP at*
  have hwr:IntKind.i64.wrap ((LN:Int)+(DP:Int))=(LN:Int)+(DP:Int):=IntWalk.i64_in _ (by omega)
  have hwr2:IntKind.i64.wrap (((LN+DP:Nat):Int))=((LN+DP:Nat):Int):=IntWalk.i64_in _ (by omega)
  have HA4:=hid (show Fs.act env ⟨its L,nx⟩ ⟨7,oa,ob,oo,og,on,od⟩=if 8<LN+DP then .error 3 else .ok ⟨Fs.enter env (Fs.leave (its L) cc mm) dd x i,nx⟩from HA3.out.trans (by
   by_cases h:8<LN+DP
   ·rw[if_pos h,if_pos (.inr h)]
   ·rw[if_neg h,if_neg (by rintro (⟨h1,h2⟩|h3);exact hbig ⟨by have:=HMany.out;omega,h2⟩;exact h h3)]))
  by_cases hmc:(64:Int)<=many
  ·have hcd:cc=dd:=Decidable.byContradiction λh=>hbig ⟨hmc,h⟩
   clear hbig
   subst hcd
   go_wp2_with fail
   refine HDe.out.mono ?_
   rintro e w9 ⟨rfl,hb9⟩
   have HB9:=hid (HB8.out.kept hb9)
   clear f0 r0 q0
   clear hb9
   have f0:=zn HB9.out.box
   have r0:=zn HB9.out.res
   have q0:=zH HB9.out.res
   dsimp only
   by_cases h8:8<LN+DP
   ·have HA:=hid (HA4.out.trans (if_pos h8))
    have h8i:(8:Int)<(LN:Int)+(DP:Int):=by omega
    clear h8
    go_wp2_with fail
    refine bodyPost_ret_by (za rfl _ _ (w.heap.size+1+1) _ _ rfl (set2 _ _ HB9.out.res)) rfl ?_
    exact zo 3 HB9.out HI.out HNL.out (by unfold Fs.doE;rw[HA.out])
   have HA:=hid (HA4.out.trans (if_neg h8))
   have h8i: ¬ (8:Int)<(LN:Int)+(DP:Int):=by omega
   clear h8
   go_wp2_with fail
   refine(HLe.out cc mm w9 HB9.out.below).mono ?_
   rintro e w10 ⟨a10,c10,L10,hL10,rfl,hI10,hb10⟩
   have HL10:=hid (show its L10=Fs.leave (its L) cc mm from hL10)
   have HFw:=hid (vr HSm.out.ents (Nat.le_trans (y9 _ _) (HSm.out.ents.fewE cc)) hL10)
   have HB10:=hid (HB9.out.kept hb10)
   obtain⟨n10,hn10⟩: ∃n10,n10=L10.length:=⟨_,rfl⟩
   rw[<-hn10]at hI10|-
   have HI10:=hid hI10
   have hn11:n10<=100000:=by have:=HFw.out.2;have:=HSm.out.few;have:=HNL.out;omega
   clear f0 r0 q0
   clear hb10 hI10 hL10 hn10
   dsimp only
   go_wp2_with fail
   refine(z7 a10 n10 c10 nx L10 cc x i w10 HI10.out hn11 HFw.out.1.fewE hxs).mono ?_
   rw[HL10.out]
   rintro e w6 ⟨a6,c6,L6,hL6,rfl,hI6,hb6⟩
   have HB6:=hid (HB10.out.kept hb6)
   have HI6:=hid hI6
   have HL6:=hid hL6
   clear hb6 hI6 hL6
   obtain⟨n6,hn6⟩: ∃n6,n6=L6.length:=⟨_,rfl⟩
   rw[<-hn6]
   have HN6:=hid hn6
   clear hn6
   have r0:=zn HB6.out.res
   have q0:=zH HB6.out.res
   dsimp only
   go_wp2_with fail
   refine bodyPost_ret_by (za rfl _ _ (w.heap.size+1+1) _ _ rfl (set2 _ _ HB6.out.res)) rfl ?_
   exact zL 0 HB6.out HI6.out HN6.out (by unfold Fs.doE;rw[HA.out,HL6.out];rfl)
  ·clear hbig
   go_wp2_with fail
   refine HDe.out.mono ?_
   rintro e w9 ⟨rfl,hb9⟩
   have HB9:=hid (HB8.out.kept hb9)
   clear f0 r0 q0
   clear hb9
   have f0:=zn HB9.out.box
   have r0:=zn HB9.out.res
   have q0:=zH HB9.out.res
   dsimp only
   by_cases h8:8<LN+DP
   ·have HA:=hid (HA4.out.trans (if_pos h8))
    have h8i:(8:Int)<(LN:Int)+(DP:Int):=by omega
    clear h8
    go_wp2_with fail
    refine bodyPost_ret_by (za rfl _ _ (w.heap.size+1+1) _ _ rfl (set2 _ _ HB9.out.res)) rfl ?_
    exact zo 3 HB9.out HI.out HNL.out (by unfold Fs.doE;rw[HA.out])
   have HA:=hid (HA4.out.trans (if_neg h8))
   have h8i: ¬ (8:Int)<(LN:Int)+(DP:Int):=by omega
   clear h8
   go_wp2_with fail
   refine(HLe.out cc mm w9 HB9.out.below).mono ?_
   rintro e w10 ⟨a10,c10,L10,hL10,rfl,hI10,hb10⟩
   have HL10:=hid (show its L10=Fs.leave (its L) cc mm from hL10)
   have HFw:=hid (vr HSm.out.ents (Nat.le_trans (y9 _ _) (HSm.out.ents.fewE cc)) hL10)
   have HB10:=hid (HB9.out.kept hb10)
   obtain⟨n10,hn10⟩: ∃n10,n10=L10.length:=⟨_,rfl⟩
   rw[<-hn10]at hI10|-
   have HI10:=hid hI10
   have hn11:n10<=100000:=by have:=HFw.out.2;have:=HSm.out.few;have:=HNL.out;omega
   clear f0 r0 q0
   clear hb10 hI10 hL10 hn10
   dsimp only
   go_wp2_with fail
   refine(z7 a10 n10 c10 nx L10 dd x i w10 HI10.out hn11 HFw.out.1.fewE hxs).mono ?_
   rw[HL10.out]
   rintro e w6 ⟨a6,c6,L6,hL6,rfl,hI6,hb6⟩
   have HB6:=hid (HB10.out.kept hb6)
   have HI6:=hid hI6
   have HL6:=hid hL6
   clear hb6 hI6 hL6
   obtain⟨n6,hn6⟩: ∃n6,n6=L6.length:=⟨_,rfl⟩
   rw[<-hn6]
   have HN6:=hid hn6
   clear hn6
   have r0:=zn HB6.out.res
   have q0:=zH HB6.out.res
   dsimp only
   go_wp2_with fail
   refine bodyPost_ret_by (za rfl _ _ (w.heap.size+1+1) _ _ rfl (set2 _ _ HB6.out.res)) rfl ?_
   exact zL 0 HB6.out HI6.out HN6.out (by unfold Fs.doE;rw[HA.out,HL6.out];rfl)
structure Sx (w:World) (a:Option Addr) (n c:Nat) (nx:Int) (o:Fs.Op) (p:Nat) (cs:Array Value) (W:World):Prop where
 ob:Ob w a n c nx o W
 xb:W.heap[p]?=some (.cells cs 43 (0,0))
theorem Sx.kept{w W W':World}{a:Option Addr}{n c:Nat}{nx:Int}{o:Fs.Op}{p:Nat}{cs:Array Value}(h:Sx w a n c nx o p cs W)(hb:Below W.heap.size W W'):Sx w a n c nx o p cs W':=
 ⟨h.ob.kept hb,(hb.block _ (lt_of_obj h.xb)).trans h.xb⟩
theorem Sx.set2{w W:World}{a:Option Addr}{n c:Nat}{nx:Int}{o:Fs.Op}{p q:Nat}{cs:Array Value}(h:Sx w a n c nx o p cs W)(hq:w.heap.size+1+1<q)(hne:q≠p)(v0 v1:Value):Sx w a n c nx o p cs ((W.setCell ⟨q,0,none⟩ v0).setCell ⟨q,1,none⟩ v1):=
 ⟨h.ob.set2 hq v0 v1,by rw[heap_setCell_other _ _ _ _ (λe=>hne e.symm),heap_setCell_other _ _ _ _ (λe=>hne e.symm)];exact h.xb⟩
structure Gd (w:World) (a:Option Addr) (n c:Nat) (nx:Int) (o:Fs.Op) (p:Nat) (a7:Option Addr) (c7:Nat) (L7:List MI) (W:World):Prop where
 ob:Ob w a n c nx o W
 items:Items a7 L7.length L7 W
 box:W.heap[p]?=some (.cells #[.slice a7 L7.length c7,.int .i64 nx] 29 (0,0))
 big:w.heap.size+1+1<p
theorem zaB{a:Option Addr}{n p:Nat}{L:List MI}{W W':World}{a':Option Addr}{n' c':Nat}{z:Int}(h:Items a n L W)(hp:W.heap[p]?=some (.cells #[.slice a' n' c',.int .i64 z] 29 (0,0)))(hk: ∀q,q≠p->W'.heap[q]?=W.heap[q]?):Items a n L W':=by
 refine⟨h.count,λi x hx=> ?_,λx hx=> ?_⟩
 ·obtain⟨b,off,e,hc⟩:=h.cell i x hx
  refine⟨b,off,e,λj v hj=> ?_⟩
  by_cases hb:b=p
  ·subst hb
   have h4:=hc 4 _ rfl
   rw[cell_obj hp]at h4
   have:off+i*6+4<2:=by
    rcases Nat.lt_or_ge (off+i*6+4) 2 with h|h
    ·exact h
    ·rw[Array.getElem?_eq_none (by show 2<=_;omega)]at h4;cases h4
   omega
  ·rw[<-hc j v hj];simp only[World.cell?,hk b hb]
 ·have hE:=h.ents x hx
  refine⟨hE.count,λi hi=> ?_⟩
  obtain⟨b,off,e,h0,h1⟩:=hE.cell i hi
  by_cases hb:b=p
  ·subst hb
   rw[cell_obj hp]at h0
   generalize off+i*2=j at h0
   match j with
   |0=>cases h0
   |1=>cases h0
   |j+2=>simp at h0
  ·exact⟨b,off,e,by rw[<-h0];simp only[World.cell?,hk b hb],by rw[<-h1];simp only[World.cell?,hk b hb]⟩
theorem Gd.one{w W:World}{a:Option Addr}{n c:Nat}{nx:Int}{o:Fs.Op}{p:Nat}{a7:Option Addr}{c7:Nat}{L7:List MI}(h:Gd w a n c nx o p a7 c7 L7 W)(v:Value):Ob w a n c nx o (W.setCell ⟨p,1,none⟩ v)/\Items a7 L7.length L7 (W.setCell ⟨p,1,none⟩ v):=by
 have hk: ∀q,q≠p->(W.setCell ⟨p,1,none⟩ v).heap[q]?=W.heap[q]?:=λq hq=>heap_setCell_other _ _ q _ (λe=>hq e)
 have hb:=h.big
 exact⟨⟨(hk _ (by omega)).trans h.ob.box,(hk _ (by omega)).trans h.ob.op,(hk _ (by omega)).trans h.ob.res,h.ob.below.setCell (p:=⟨p,1,none⟩) (by show w.heap.size<=p;omega) v⟩,zaB h.items h.box hk⟩
theorem VJ(a:Option Addr)(n c:Nat)(nx:Int)(L:List MI)(oa ob:ByteArray)(oo og on:Int)(od:ByteArray)(w:World)(hI:Items a n L w)(hS:Small11 L n ⟨1,oa,ob,oo,og,on,od⟩){na:List ByteArray}(ha:spl oa=some na)(hnx:0<=nx/\nx<=1000000000000):
  Calls prog 11 #[fv a n c nx,.agg #[.int .i64 1,.string oa,.string ob,.int .i64 oo,.int .i64 og,.int .i64 on,.string od]] w (DoR (Fs.doE env ⟨its L,nx⟩ ⟨1,oa,ob,oo,og,on,od⟩) w):=by
 have HFre:=hid (λW (hb:Below w.heap.size w W)=>vE a n c nx L oa W (hI.below hb) hS.n5 hS.ents.fewE hS.a)
 have HSet:=hid (λi k m dd t ea ec es W (hb:Below w.heap.size w W) (hE:Ents ea (List.length es) es W)=>xv a n c nx L i k m dd t ea ec es W (hI.below hb) hS.n5 hE)
 have HI:=hid (λW (hb:Below w.heap.size w W)=>hI.below hb)
 have HNL:=hid hI.count
 have HB:=hid (show Ob w a n c nx ⟨1,oa,ob,oo,og,on,od⟩ (((w.alloc (.cells #[.slice a n c,.int .i64 nx] 29)).alloc (.cells #[.int .i64 1,.string oa,.string ob,.int .i64 oo,.int .i64 og,.int .i64 on,.string od] 34)).alloc (.cells #[.slice none 0 0,.int .i64 0] 29))from zQ w a n c nx ⟨1,oa,ob,oo,og,on,od⟩)
 have HSp:=hid (λW=>zi oa W hS.a)
 have HSq:=hid (λW=>zi ob W hS.b)
 have HSm:=hid hS
 clear hI hS
 obtain⟨ns,hns⟩: ∃ns,Nm.split oa.data.toList=some ns:=by
  unfold spl at ha
  cases hq:Nm.split oa.data.toList with
  |none=>rw[hq]at ha;cases ha
  |some ns=>exact⟨ns,rfl⟩
 have HNs:=hid hns
 clear hns
 have HR:=hid (show Fs.act env ⟨its L,nx⟩ ⟨1,oa,ob,oo,og,on,od⟩=Fs.create env ⟨its L,nx⟩ ⟨1,oa,ob,oo,og,on,od⟩ na by
  unfold Fs.act
  rw[if_neg (by show¬ ((1:Int)<1\/(11:Int)<1);decide),show env.sp oa=some na from ha]
  rfl)
 unfold Fs.create at HR
 rw[show Fs.madeNode ⟨1,oa,ob,oo,og,on,od⟩=⟨1,on,ByteArray.empty,ByteArray.empty,[]⟩from rfl]at HR
 have HFc:=hid (xW (l:=its L) ha)
 have HSm2:=hid (vw ha)
 have HLen:=hid (show(its L).length=n by unfold its;rw[List.length_map];exact HNL.out.symm)
 go_enter func11,ntmps11
 go_wp2_with fail
 generalize ((w.alloc (.cells #[.slice a n c,.int .i64 nx] 29)).alloc (.cells #[.int .i64 1,.string oa,.string ob,.int .i64 oo,.int .i64 og,.int .i64 on,.string od] 34)).alloc (.cells #[.slice none 0 0,.int .i64 0] 29)=W0 at HB|-
 go_wp2_with fail
 refine(HSp.out W0).mono ?_
 rintro e w1 hX
 have HB1:=hid (HB.out.kept hX.below)
 obtain⟨ao,cap,rfl,-⟩:=hX.yes _ HNs.out
 clear hX HB
 have o0:=zW HB1.out.op
 dsimp only
 go_wp2_with fail
 refine(HSq.out w1).mono ?_
 rintro e w2 hY
 have HB2:=hid (HB1.out.kept hY.below)
 obtain⟨v2,code2,rfl⟩:=hY.form
 clear o0
 clear hY HB1
 have f0:=zn HB2.out.box
 have o0:=zW HB2.out.op
 have r0:=zn HB2.out.res
 have q0:=zH HB2.out.res
 dsimp only
 go_wp2_with fail
 all_goals
  refine(HFre.out w2 HB2.out.below).mono ?_
  obtain⟨q,hq⟩: ∃q,xQ (its L) oa=q:=⟨_,rfl⟩
  have HQ:=hid (HFc.out q hq)
  rw[hq]
  clear hq
  obtain⟨dd,x,many,code⟩:=q
  rintro e w3 ⟨rfl,hb3⟩
  have HB3:=hid (HB2.out.kept hb3)
  clear hb3
  clear f0 o0 r0 q0
  have f0:=zn HB3.out.box
  have o0:=zW HB3.out.op
  have r0:=zn HB3.out.res
  have q0:=zH HB3.out.res
  dsimp only
  rcases HQ.out with ⟨hne,hfr⟩|⟨hz,hfr,hmany⟩
  ·dsimp only at hne hfr
   have HA:=hid (show Fs.act env ⟨its L,nx⟩ ⟨1,oa,ob,oo,og,on,od⟩= .error code by rw[HR.out,hfr])
   clear hfr
   go_wp2_with fail
   refine bodyPost_ret_by (za rfl _ _ (w.heap.size+1+1) _ _ rfl (set2 _ _ HB3.out.res)) rfl ?_
   exact zo code HB3.out HI.out HNL.out (by unfold Fs.doE;rw[HA.out])
  dsimp only at hz hfr hmany
  subst hz
  have HA1:=hid (show Fs.act env ⟨its L,nx⟩ ⟨1,oa,ob,oo,og,on,od⟩=if Nd.right less Nm.right ⟨1,on,ByteArray.empty,ByteArray.empty,[]⟩=false then .error 1 else if 64<=(Fs.nodeD (its L) dd).ents.length then .error 3 else if 256<=(its L).length then .error 6 else .ok ⟨Fs.enter env (Fs.setL (its L) nx ⟨1,on,ByteArray.empty,ByteArray.empty,[]⟩) dd x nx,nx+1⟩ by rw[HR.out,hfr];rfl)
  have hxs:=HSm2.out x (xP hfr)
  have HMany:=hid hmany
  have HB4:=hid (HB3.out.kept (below_one w3 (.cells #[.int .i64 1,.int .i64 on,.string ⟨#[]⟩,.string ⟨#[]⟩,.slice none 0 0] 43)))
  have HO4:=hid (heap_alloc_new w3 (.cells #[.int .i64 1,.int .i64 on,.string ⟨#[]⟩,.string ⟨#[]⟩,.slice none 0 0] 43))
  clear hfr hmany
  have p0:=zW HB4.out.op
  go_wp2_with fail
  clear p0
  generalize w3.alloc (.cells #[.int .i64 1,.int .i64 on,.string ⟨#[]⟩,.string ⟨#[]⟩,.slice none 0 0] 43)=W4 at HB4 HO4|-
  have hp4:w.heap.size+1+1<w3.heap.size:=lt_of_obj HB3.out.res
  generalize w3.heap.size=p4 at HO4 hp4|-
  refine(vP 1 on ⟨#[]⟩ ⟨#[]⟩ none 0 0 [] W4 (zs _) (by decide) (λj hj=>by omega)).mono ?_
  have HNdr:=hid (show ndr 1 on ⟨#[]⟩ ⟨#[]⟩ []=Nd.right less Nm.right ⟨1,on,ByteArray.empty,ByteArray.empty,[]⟩from rfl)
  unfold xE
  generalize ndr 1 on ⟨#[]⟩ ⟨#[]⟩ []=R at*
  rintro e w5 ⟨rfl,hb5⟩
  have HB5:=hid (HB4.out.kept hb5)
  have HO5:=hid ((hb5.block _ (lt_of_obj HO4.out)).trans HO4.out)
  rw[<-HNdr.out]at HA1
  clear hb5 HB4 HO4 HNdr f0 o0 r0 q0
  have f0:=zn HB5.out.box
  have r0:=zn HB5.out.res
  have q0:=zH HB5.out.res
  dsimp only
  cases R
  ·have HA:=hid (HA1.out.trans (if_pos rfl))
   go_wp2_with fail
   refine bodyPost_ret_by (za rfl _ _ (w.heap.size+1+1) _ _ rfl (set2 _ _ HB5.out.res)) rfl ?_
   exact zo 1 HB5.out HI.out HNL.out (by unfold Fs.doE;rw[HA.out])
  have HA2:=hid (HA1.out.trans (if_neg (by decide)))
  by_cases h64:(64:Int)<=many
  ·have HA:=hid (HA2.out.trans (if_pos (by have:=HMany.out;omega)))
   go_wp2_with fail
   refine bodyPost_ret_by (za rfl _ _ (w.heap.size+1+1) _ _ rfl (set2 _ _ HB5.out.res)) rfl ?_
   exact zo 3 HB5.out HI.out HNL.out (by unfold Fs.doE;rw[HA.out])
  have HA3:=hid (HA2.out.trans (if_neg (by have:=HMany.out;omega)))
  have hni:(n:Int)<=10000:=by have:=HSm.out.few;omega
  by_cases h256:(256:Int)<=(n:Int)
  ·have HA:=hid (HA3.out.trans (if_pos (by rw[HLen.out];omega)))
   go_wp2_with fail
   refine bodyPost_ret_by (za rfl _ _ (w.heap.size+1+1) _ _ rfl (set2 _ _ HB5.out.res)) rfl ?_
   exact zo 6 HB5.out HI.out HNL.out (by unfold Fs.doE;rw[HA.out])
  have HA:=hid (HA3.out.trans (if_neg (by rw[HLen.out];omega)))
  have HSt:=hid (λW (hb:Below w.heap.size w W)=>show Calls prog 50 #[fv a n c nx,.int .i64 nx,.agg #[.int .i64 1,.int .i64 on,.string ⟨#[]⟩,.string ⟨#[]⟩,.slice none 0 0]] W (FsR (Fs.setL (its L) nx ⟨1,on,ByteArray.empty,ByteArray.empty,[]⟩) nx W)from HSet.out nx 1 on ⟨#[]⟩ ⟨#[]⟩ none 0 [] W hb (zs W))
  have HFs:=hid (λL6 (h:its L6=Fs.setL (its L) nx ⟨1,on,ByteArray.empty,ByteArray.empty,[]⟩)=>vr HSm.out.ents (Nat.zero_le _) h)
  have hp5:w.heap.size+1+1<w5.heap.size:=lt_of_obj HB5.out.res
  have HMK:=hid (show∀W,Sx w a n c nx ⟨1,oa,ob,oo,og,on,od⟩ p4 #[.int .i64 1,.int .i64 on,.string ⟨#[]⟩,.string ⟨#[]⟩,.slice none 0 0] W->W.cell? ⟨w.heap.size,0,none⟩=some (.slice a n c)/\W.cell? ⟨w.heap.size,1,none⟩=some (.int .i64 nx)/\W.cell? ⟨p4,0,none⟩=some (.int .i64 1)/\W.cell? ⟨p4,1,none⟩=some (.int .i64 on)/\W.cell? ⟨p4,2,none⟩=some (.string ⟨#[]⟩)/\W.cell? ⟨p4,3,none⟩=some (.string ⟨#[]⟩)/\W.cell? ⟨p4,4,none⟩=some (.slice none 0 0)/\Sx w a n c nx ⟨1,oa,ob,oo,og,on,od⟩ p4 #[.int .i64 1,.int .i64 on,.string ⟨#[]⟩,.string ⟨#[]⟩,.slice none 0 0] W from λW h=>⟨cell_obj h.ob.box 0,cell_obj h.ob.box 1,cell_obj h.xb 0,cell_obj h.xb 1,cell_obj h.xb 2,cell_obj h.xb 3,cell_obj h.xb 4,h⟩)
  have GB:=hid (show∀W,(W.cell? ⟨w.heap.size,0,none⟩=some (.slice a n c)/\W.cell? ⟨w.heap.size,1,none⟩=some (.int .i64 nx)/\W.cell? ⟨p4,0,none⟩=some (.int .i64 1)/\W.cell? ⟨p4,1,none⟩=some (.int .i64 on)/\W.cell? ⟨p4,2,none⟩=some (.string ⟨#[]⟩)/\W.cell? ⟨p4,3,none⟩=some (.string ⟨#[]⟩)/\W.cell? ⟨p4,4,none⟩=some (.slice none 0 0)/\Sx w a n c nx ⟨1,oa,ob,oo,og,on,od⟩ p4 #[.int .i64 1,.int .i64 on,.string ⟨#[]⟩,.string ⟨#[]⟩,.slice none 0 0] W)->Sx w a n c nx ⟨1,oa,ob,oo,og,on,od⟩ p4 #[.int .i64 1,.int .i64 on,.string ⟨#[]⟩,.string ⟨#[]⟩,.slice none 0 0] W from λW h=>h.2.2.2.2.2.2.2)
  have HD:=hid (show Sx w a n c nx ⟨1,oa,ob,oo,og,on,od⟩ p4 #[.int .i64 1,.int .i64 on,.string ⟨#[]⟩,.string ⟨#[]⟩,.slice none 0 0] w5.drew from⟨HB5.out.kept (Below.refl _ _).drew,HO5.out⟩)
  have HZd:=hid (show(w5.drew.alloc (.cells #[.slice none 0 0,.int .i64 0] 29)).heap[w5.drew.heap.size]?=some (.cells #[.slice none 0 0,.int .i64 0] 29 (0,0))from heap_alloc_new _ _)
  have HZe:=hid (show(w5.alloc (.cells #[.slice none 0 0,.int .i64 0] 29)).drew.heap[w5.heap.size]?=some (.cells #[.slice none 0 0,.int .i64 0] 29 (0,0))from heap_alloc_new _ _)
  go_wp2_with fail
  clear r0 q0 f0
  go_region_held3 (λW=>W.cell? ⟨w.heap.size,0,none⟩=some (.slice a n c)/\W.cell? ⟨w.heap.size,1,none⟩=some (.int .i64 nx)/\W.cell? ⟨p4,0,none⟩=some (.int .i64 1)/\W.cell? ⟨p4,1,none⟩=some (.int .i64 on)/\W.cell? ⟨p4,2,none⟩=some (.string ⟨#[]⟩)/\W.cell? ⟨p4,3,none⟩=some (.string ⟨#[]⟩)/\W.cell? ⟨p4,4,none⟩=some (.slice none 0 0)/\Sx w a n c nx ⟨1,oa,ob,oo,og,on,od⟩ p4 #[.int .i64 1,.int .i64 on,.string ⟨#[]⟩,.string ⟨#[]⟩,.slice none 0 0] W)
   (first|exact HMK.out _ HD.out|exact HMK.out _ pA.out|exact HMK.out _ pB.out|exact HMK.out _ (HD.out.kept (below_one _ _))|exact HMK.out _ (pA.out.kept (below_one _ _))|exact HMK.out _ (pB.out.kept (below_one _ _))|exact HMK.out _ (Sx.set2 pB.out (lt_of_obj pA.out.ob.res) (Nat.ne_of_gt (lt_of_obj pA.out.xb)) _ _)|exact HMK.out _ (Sx.set2 pB.out (lt_of_obj HD.out.ob.res) (Nat.ne_of_gt (lt_of_obj HD.out.xb)) _ _)|assumption)
   (first
    |(go_at_call 50;(with_reducible refine(HSt.out _ (Ob.below (Sx.ob (GB.out _ (by assumption))))).mono ?_);rintro e w6 ⟨a6,c6,L6,hL6,rfl,hI6,hb6⟩;have pA:=hid (Sx.kept (GB.out _ (by assumption)) hb6);have HI6:=hid hI6;have HL6:=hid hL6;have HF6:=hid (HFs.out L6 hL6);try (have HZ6:=hid ((hb6.block _ (lt_of_obj HZd.out)).trans HZd.out));try (have HZ6:=hid ((hb6.block _ (lt_of_obj HZe.out)).trans HZe.out));clear hL6 hI6 hb6)
    |(go_at_call 49;(with_reducible refine(z7 a6 L6.length c6 nx L6 dd x nx w6 HI6.out (Nat.le_trans HF6.out.2 (by have:=HNL.out;omega)) HF6.out.1.fewE hxs).mono ?_);rintro e w7 ⟨a7,c7,L7,hL7,rfl,hI7,hb7⟩;have pB:=hid (Sx.kept pA.out hb7);have HI7:=hid hI7;have HL7:=hid hL7;try (have HZ7:=hid ((hb7.block _ (lt_of_obj HZ6.out)).trans HZ6.out);have l0:=cell_obj HZ7.out 0;have l1:=cell_obj HZ7.out 1;have l2:=free_obj HZ7.out 0;have l3:=free_obj HZ7.out 1);clear hL7 hI7 hb7)
    |(go_at_call 49;(with_reducible refine(z7 a6 L6.length c6 nx L6 dd x nx _ (HI6.out.below (below_one w6 (.cells #[.slice none 0 0,.int .i64 0] 29))) (Nat.le_trans HF6.out.2 (by have:=HNL.out;omega)) HF6.out.1.fewE hxs).mono ?_);rintro e w7 ⟨a7,c7,L7,hL7,rfl,hI7,hb7⟩;have pB:=hid (Sx.kept (Sx.kept pA.out (below_one w6 (.cells #[.slice none 0 0,.int .i64 0] 29))) hb7);have HZ7:=hid ((hb7.block _ (lt_of_obj (heap_alloc_new w6 (.cells #[.slice none 0 0,.int .i64 0] 29)))).trans (heap_alloc_new w6 _));have HI7:=hid hI7;have HL7:=hid hL7;have l0:=cell_obj HZ7.out 0;have l1:=cell_obj HZ7.out 1;have l2:=free_obj HZ7.out 0;have l3:=free_obj HZ7.out 1;clear hL7 hI7 hb7))
  all_goals
   first
    |have HF:=hid (show Gd w a n c nx ⟨1,oa,ob,oo,og,on,od⟩ w5.heap.size a7 c7 L7 _ from⟨pB.out.ob.set2 hp5 (.slice a7 L7.length c7) (.int .i64 nx),yr HI7.out HZ7.out _ _,set2 _ _ HZ7.out,hp5⟩)
     generalize (w7.setCell ⟨w5.heap.size,0,none⟩ (.slice a7 L7.length c7)).setCell ⟨w5.heap.size,1,none⟩ (.int .i64 nx)=W9 at HF|-
     generalize w5.heap.size=p9 at HF|-
    |have HF:=hid (show Gd w a n c nx ⟨1,oa,ob,oo,og,on,od⟩ w6.heap.size a7 c7 L7 _ from⟨pB.out.ob.set2 (lt_of_obj pA.out.ob.res) (.slice a7 L7.length c7) (.int .i64 nx),yr HI7.out HZ7.out _ _,set2 _ _ HZ7.out,lt_of_obj pA.out.ob.res⟩)
     generalize (w7.setCell ⟨w6.heap.size,0,none⟩ (.slice a7 L7.length c7)).setCell ⟨w6.heap.size,1,none⟩ (.int .i64 nx)=W9 at HF|-
     generalize w6.heap.size=p9 at HF|-
    |have HF:=hid (show Gd w a n c nx ⟨1,oa,ob,oo,og,on,od⟩ w7.heap.size a7 c7 L7 _ from⟨pB.out.ob.kept (below_one w7 (.cells #[.slice a7 L7.length c7,.int .i64 nx] 29)),HI7.out.below (below_one w7 _),heap_alloc_new w7 _,lt_of_obj pB.out.ob.res⟩)
     generalize w7.alloc (.cells #[.slice a7 L7.length c7,.int .i64 nx] 29)=W9 at HF|-
     generalize w7.heap.size=p9 at HF|-
   have HL9:=hid (show its L7=Fs.enter env (Fs.setL (its L) nx ⟨1,on,ByteArray.empty,ByteArray.empty,[]⟩) dd x nx by rw[HL7.out,HL6.out];rfl)
   have f1:W9.cell? ⟨w.heap.size,1,none⟩=some (.int .i64 nx):=cell_obj HF.out.ob.box 1
   have u0:W9.cell? ⟨p9,0,none⟩=some (.slice a7 L7.length c7):=cell_obj HF.out.box 0
   have u1:W9.cell? ⟨p9,1,none⟩=some (.int .i64 nx):=cell_obj HF.out.box 1
   have v1:=free_obj HF.out.box 1
   have r0:=zn HF.out.ob.res
   have q0:=zH HF.out.ob.res
   have hbig:=HF.out.big
   have hwr:IntKind.i64.wrap (nx+1)=nx+1:=IntWalk.i64_in _ (by omega)
   obtain⟨n7,hn7⟩: ∃n7,n7=L7.length:=⟨_,rfl⟩
   rw[<-hn7]at u0|-
   have HN7:=hid hn7
   clear hn7
   go_wp2_with fail
   refine bodyPost_ret_by (za rfl _ _ (w.heap.size+1+1) _ _ rfl (set2 _ _ (HF.out.one (.int .i64 (nx+1))).1.res)) rfl ?_
   exact zL 0 (HF.out.one (.int .i64 (nx+1))).1 (HF.out.one (.int .i64 (nx+1))).2 HN7.out (by unfold Fs.doE;rw[HA.out,HL9.out])
theorem VI(a:Option Addr)(n c:Nat)(nx:Int)(L:List MI)(oa ob:ByteArray)(oo og on:Int)(od:ByteArray)(w:World)(hI:Items a n L w)(hS:Small11 L n ⟨2,oa,ob,oo,og,on,od⟩){na:List ByteArray}(ha:spl oa=some na)(hnx:0<=nx/\nx<=1000000000000):
  Calls prog 11 #[fv a n c nx,.agg #[.int .i64 2,.string oa,.string ob,.int .i64 oo,.int .i64 og,.int .i64 on,.string od]] w (DoR (Fs.doE env ⟨its L,nx⟩ ⟨2,oa,ob,oo,og,on,od⟩) w):=by
 have HFre:=hid (λW (hb:Below w.heap.size w W)=>vE a n c nx L oa W (hI.below hb) hS.n5 hS.ents.fewE hS.a)
 have HSet:=hid (λi k m dd t ea ec es W (hb:Below w.heap.size w W) (hE:Ents ea (List.length es) es W)=>xv a n c nx L i k m dd t ea ec es W (hI.below hb) hS.n5 hE)
 have HI:=hid (λW (hb:Below w.heap.size w W)=>hI.below hb)
 have HNL:=hid hI.count
 have HB:=hid (show Ob w a n c nx ⟨2,oa,ob,oo,og,on,od⟩ (((w.alloc (.cells #[.slice a n c,.int .i64 nx] 29)).alloc (.cells #[.int .i64 2,.string oa,.string ob,.int .i64 oo,.int .i64 og,.int .i64 on,.string od] 34)).alloc (.cells #[.slice none 0 0,.int .i64 0] 29))from zQ w a n c nx ⟨2,oa,ob,oo,og,on,od⟩)
 have HSp:=hid (λW=>zi oa W hS.a)
 have HSq:=hid (λW=>zi ob W hS.b)
 have HSm:=hid hS
 clear hI hS
 obtain⟨ns,hns⟩: ∃ns,Nm.split oa.data.toList=some ns:=by
  unfold spl at ha
  cases hq:Nm.split oa.data.toList with
  |none=>rw[hq]at ha;cases ha
  |some ns=>exact⟨ns,rfl⟩
 have HNs:=hid hns
 clear hns
 have HR:=hid (show Fs.act env ⟨its L,nx⟩ ⟨2,oa,ob,oo,og,on,od⟩=Fs.create env ⟨its L,nx⟩ ⟨2,oa,ob,oo,og,on,od⟩ na by
  unfold Fs.act
  rw[if_neg (by show¬ ((2:Int)<1\/(11:Int)<2);decide),show env.sp oa=some na from ha]
  rfl)
 unfold Fs.create at HR
 rw[show Fs.madeNode ⟨2,oa,ob,oo,og,on,od⟩=⟨2,on,ByteArray.empty,ByteArray.empty,[]⟩from rfl]at HR
 have HFc:=hid (xW (l:=its L) ha)
 have HSm2:=hid (vw ha)
 have HLen:=hid (show(its L).length=n by unfold its;rw[List.length_map];exact HNL.out.symm)
 go_enter func11,ntmps11
 go_wp2_with fail
 generalize ((w.alloc (.cells #[.slice a n c,.int .i64 nx] 29)).alloc (.cells #[.int .i64 2,.string oa,.string ob,.int .i64 oo,.int .i64 og,.int .i64 on,.string od] 34)).alloc (.cells #[.slice none 0 0,.int .i64 0] 29)=W0 at HB|-
 go_wp2_with fail
 refine(HSp.out W0).mono ?_
 rintro e w1 hX
 have HB1:=hid (HB.out.kept hX.below)
 obtain⟨ao,cap,rfl,-⟩:=hX.yes _ HNs.out
 clear hX HB
 have o0:=zW HB1.out.op
 dsimp only
 go_wp2_with fail
 refine(HSq.out w1).mono ?_
 rintro e w2 hY
 have HB2:=hid (HB1.out.kept hY.below)
 obtain⟨v2,code2,rfl⟩:=hY.form
 clear o0
 clear hY HB1
 have f0:=zn HB2.out.box
 have o0:=zW HB2.out.op
 have r0:=zn HB2.out.res
 have q0:=zH HB2.out.res
 dsimp only
 go_wp2_with fail
 all_goals
  refine(HFre.out w2 HB2.out.below).mono ?_
  obtain⟨q,hq⟩: ∃q,xQ (its L) oa=q:=⟨_,rfl⟩
  have HQ:=hid (HFc.out q hq)
  rw[hq]
  clear hq
  obtain⟨dd,x,many,code⟩:=q
  rintro e w3 ⟨rfl,hb3⟩
  have HB3:=hid (HB2.out.kept hb3)
  clear hb3
  clear f0 o0 r0 q0
  have f0:=zn HB3.out.box
  have o0:=zW HB3.out.op
  have r0:=zn HB3.out.res
  have q0:=zH HB3.out.res
  dsimp only
  rcases HQ.out with ⟨hne,hfr⟩|⟨hz,hfr,hmany⟩
  ·dsimp only at hne hfr
   have HA:=hid (show Fs.act env ⟨its L,nx⟩ ⟨2,oa,ob,oo,og,on,od⟩= .error code by rw[HR.out,hfr])
   clear hfr
   go_wp2_with fail
   refine bodyPost_ret_by (za rfl _ _ (w.heap.size+1+1) _ _ rfl (set2 _ _ HB3.out.res)) rfl ?_
   exact zo code HB3.out HI.out HNL.out (by unfold Fs.doE;rw[HA.out])
  dsimp only at hz hfr hmany
  subst hz
  have HA1:=hid (show Fs.act env ⟨its L,nx⟩ ⟨2,oa,ob,oo,og,on,od⟩=if Nd.right less Nm.right ⟨2,on,ByteArray.empty,ByteArray.empty,[]⟩=false then .error 1 else if 64<=(Fs.nodeD (its L) dd).ents.length then .error 3 else if 256<=(its L).length then .error 6 else .ok ⟨Fs.enter env (Fs.setL (its L) nx ⟨2,on,ByteArray.empty,ByteArray.empty,[]⟩) dd x nx,nx+1⟩ by rw[HR.out,hfr];rfl)
  have hxs:=HSm2.out x (xP hfr)
  have HMany:=hid hmany
  have HB4:=hid (HB3.out.kept (below_one w3 (.cells #[.int .i64 2,.int .i64 on,.string ⟨#[]⟩,.string ⟨#[]⟩,.slice none 0 0] 43)))
  have HO4:=hid (heap_alloc_new w3 (.cells #[.int .i64 2,.int .i64 on,.string ⟨#[]⟩,.string ⟨#[]⟩,.slice none 0 0] 43))
  clear hfr hmany
  have p0:=zW HB4.out.op
  go_wp2_with fail
  clear p0
  generalize w3.alloc (.cells #[.int .i64 2,.int .i64 on,.string ⟨#[]⟩,.string ⟨#[]⟩,.slice none 0 0] 43)=W4 at HB4 HO4|-
  have hp4:w.heap.size+1+1<w3.heap.size:=lt_of_obj HB3.out.res
  generalize w3.heap.size=p4 at HO4 hp4|-
  refine(vP 2 on ⟨#[]⟩ ⟨#[]⟩ none 0 0 [] W4 (zs _) (by decide) (λj hj=>by omega)).mono ?_
  have HNdr:=hid (show ndr 2 on ⟨#[]⟩ ⟨#[]⟩ []=Nd.right less Nm.right ⟨2,on,ByteArray.empty,ByteArray.empty,[]⟩from rfl)
  unfold xE
  generalize ndr 2 on ⟨#[]⟩ ⟨#[]⟩ []=R at*
  rintro e w5 ⟨rfl,hb5⟩
  have HB5:=hid (HB4.out.kept hb5)
  have HO5:=hid ((hb5.block _ (lt_of_obj HO4.out)).trans HO4.out)
  rw[<-HNdr.out]at HA1
  clear hb5 HB4 HO4 HNdr f0 o0 r0 q0
  have f0:=zn HB5.out.box
  have r0:=zn HB5.out.res
  have q0:=zH HB5.out.res
  dsimp only
  cases R
  ·have HA:=hid (HA1.out.trans (if_pos rfl))
   go_wp2_with fail
   refine bodyPost_ret_by (za rfl _ _ (w.heap.size+1+1) _ _ rfl (set2 _ _ HB5.out.res)) rfl ?_
   exact zo 1 HB5.out HI.out HNL.out (by unfold Fs.doE;rw[HA.out])
  have HA2:=hid (HA1.out.trans (if_neg (by decide)))
  by_cases h64:(64:Int)<=many
  ·have HA:=hid (HA2.out.trans (if_pos (by have:=HMany.out;omega)))
   go_wp2_with fail
   refine bodyPost_ret_by (za rfl _ _ (w.heap.size+1+1) _ _ rfl (set2 _ _ HB5.out.res)) rfl ?_
   exact zo 3 HB5.out HI.out HNL.out (by unfold Fs.doE;rw[HA.out])
  have HA3:=hid (HA2.out.trans (if_neg (by have:=HMany.out;omega)))
  have hni:(n:Int)<=10000:=by have:=HSm.out.few;omega
  by_cases h256:(256:Int)<=(n:Int)
  ·have HA:=hid (HA3.out.trans (if_pos (by rw[HLen.out];omega)))
   go_wp2_with fail
   refine bodyPost_ret_by (za rfl _ _ (w.heap.size+1+1) _ _ rfl (set2 _ _ HB5.out.res)) rfl ?_
   exact zo 6 HB5.out HI.out HNL.out (by unfold Fs.doE;rw[HA.out])
  have HA:=hid (HA3.out.trans (if_neg (by rw[HLen.out];omega)))
  have HSt:=hid (λW (hb:Below w.heap.size w W)=>show Calls prog 50 #[fv a n c nx,.int .i64 nx,.agg #[.int .i64 2,.int .i64 on,.string ⟨#[]⟩,.string ⟨#[]⟩,.slice none 0 0]] W (FsR (Fs.setL (its L) nx ⟨2,on,ByteArray.empty,ByteArray.empty,[]⟩) nx W)from HSet.out nx 2 on ⟨#[]⟩ ⟨#[]⟩ none 0 [] W hb (zs W))
  have HFs:=hid (λL6 (h:its L6=Fs.setL (its L) nx ⟨2,on,ByteArray.empty,ByteArray.empty,[]⟩)=>vr HSm.out.ents (Nat.zero_le _) h)
  have hp5:w.heap.size+1+1<w5.heap.size:=lt_of_obj HB5.out.res
  have HMK:=hid (show∀W,Sx w a n c nx ⟨2,oa,ob,oo,og,on,od⟩ p4 #[.int .i64 2,.int .i64 on,.string ⟨#[]⟩,.string ⟨#[]⟩,.slice none 0 0] W->W.cell? ⟨w.heap.size,0,none⟩=some (.slice a n c)/\W.cell? ⟨w.heap.size,1,none⟩=some (.int .i64 nx)/\W.cell? ⟨p4,0,none⟩=some (.int .i64 2)/\W.cell? ⟨p4,1,none⟩=some (.int .i64 on)/\W.cell? ⟨p4,2,none⟩=some (.string ⟨#[]⟩)/\W.cell? ⟨p4,3,none⟩=some (.string ⟨#[]⟩)/\W.cell? ⟨p4,4,none⟩=some (.slice none 0 0)/\Sx w a n c nx ⟨2,oa,ob,oo,og,on,od⟩ p4 #[.int .i64 2,.int .i64 on,.string ⟨#[]⟩,.string ⟨#[]⟩,.slice none 0 0] W from λW h=>⟨cell_obj h.ob.box 0,cell_obj h.ob.box 1,cell_obj h.xb 0,cell_obj h.xb 1,cell_obj h.xb 2,cell_obj h.xb 3,cell_obj h.xb 4,h⟩)
  have GB:=hid (show∀W,(W.cell? ⟨w.heap.size,0,none⟩=some (.slice a n c)/\W.cell? ⟨w.heap.size,1,none⟩=some (.int .i64 nx)/\W.cell? ⟨p4,0,none⟩=some (.int .i64 2)/\W.cell? ⟨p4,1,none⟩=some (.int .i64 on)/\W.cell? ⟨p4,2,none⟩=some (.string ⟨#[]⟩)/\W.cell? ⟨p4,3,none⟩=some (.string ⟨#[]⟩)/\W.cell? ⟨p4,4,none⟩=some (.slice none 0 0)/\Sx w a n c nx ⟨2,oa,ob,oo,og,on,od⟩ p4 #[.int .i64 2,.int .i64 on,.string ⟨#[]⟩,.string ⟨#[]⟩,.slice none 0 0] W)->Sx w a n c nx ⟨2,oa,ob,oo,og,on,od⟩ p4 #[.int .i64 2,.int .i64 on,.string ⟨#[]⟩,.string ⟨#[]⟩,.slice none 0 0] W from λW h=>h.2.2.2.2.2.2.2)
  have HD:=hid (show Sx w a n c nx ⟨2,oa,ob,oo,og,on,od⟩ p4 #[.int .i64 2,.int .i64 on,.string ⟨#[]⟩,.string ⟨#[]⟩,.slice none 0 0] w5.drew from⟨HB5.out.kept (Below.refl _ _).drew,HO5.out⟩)
  have HZd:=hid (show(w5.drew.alloc (.cells #[.slice none 0 0,.int .i64 0] 29)).heap[w5.drew.heap.size]?=some (.cells #[.slice none 0 0,.int .i64 0] 29 (0,0))from heap_alloc_new _ _)
  have HZe:=hid (show(w5.alloc (.cells #[.slice none 0 0,.int .i64 0] 29)).drew.heap[w5.heap.size]?=some (.cells #[.slice none 0 0,.int .i64 0] 29 (0,0))from heap_alloc_new _ _)
  go_wp2_with fail
  clear r0 q0 f0
  go_region_held3 (λW=>W.cell? ⟨w.heap.size,0,none⟩=some (.slice a n c)/\W.cell? ⟨w.heap.size,1,none⟩=some (.int .i64 nx)/\W.cell? ⟨p4,0,none⟩=some (.int .i64 2)/\W.cell? ⟨p4,1,none⟩=some (.int .i64 on)/\W.cell? ⟨p4,2,none⟩=some (.string ⟨#[]⟩)/\W.cell? ⟨p4,3,none⟩=some (.string ⟨#[]⟩)/\W.cell? ⟨p4,4,none⟩=some (.slice none 0 0)/\Sx w a n c nx ⟨2,oa,ob,oo,og,on,od⟩ p4 #[.int .i64 2,.int .i64 on,.string ⟨#[]⟩,.string ⟨#[]⟩,.slice none 0 0] W)
   (first|exact HMK.out _ HD.out|exact HMK.out _ pA.out|exact HMK.out _ pB.out|exact HMK.out _ (HD.out.kept (below_one _ _))|exact HMK.out _ (pA.out.kept (below_one _ _))|exact HMK.out _ (pB.out.kept (below_one _ _))|exact HMK.out _ (Sx.set2 pB.out (lt_of_obj pA.out.ob.res) (Nat.ne_of_gt (lt_of_obj pA.out.xb)) _ _)|exact HMK.out _ (Sx.set2 pB.out (lt_of_obj HD.out.ob.res) (Nat.ne_of_gt (lt_of_obj HD.out.xb)) _ _)|assumption)
   (first
    |(go_at_call 50;(with_reducible refine(HSt.out _ (Ob.below (Sx.ob (GB.out _ (by assumption))))).mono ?_);rintro e w6 ⟨a6,c6,L6,hL6,rfl,hI6,hb6⟩;have pA:=hid (Sx.kept (GB.out _ (by assumption)) hb6);have HI6:=hid hI6;have HL6:=hid hL6;have HF6:=hid (HFs.out L6 hL6);try (have HZ6:=hid ((hb6.block _ (lt_of_obj HZd.out)).trans HZd.out));try (have HZ6:=hid ((hb6.block _ (lt_of_obj HZe.out)).trans HZe.out));clear hL6 hI6 hb6)
    |(go_at_call 49;(with_reducible refine(z7 a6 L6.length c6 nx L6 dd x nx w6 HI6.out (Nat.le_trans HF6.out.2 (by have:=HNL.out;omega)) HF6.out.1.fewE hxs).mono ?_);rintro e w7 ⟨a7,c7,L7,hL7,rfl,hI7,hb7⟩;have pB:=hid (Sx.kept pA.out hb7);have HI7:=hid hI7;have HL7:=hid hL7;try (have HZ7:=hid ((hb7.block _ (lt_of_obj HZ6.out)).trans HZ6.out);have l0:=cell_obj HZ7.out 0;have l1:=cell_obj HZ7.out 1;have l2:=free_obj HZ7.out 0;have l3:=free_obj HZ7.out 1);clear hL7 hI7 hb7)
    |(go_at_call 49;(with_reducible refine(z7 a6 L6.length c6 nx L6 dd x nx _ (HI6.out.below (below_one w6 (.cells #[.slice none 0 0,.int .i64 0] 29))) (Nat.le_trans HF6.out.2 (by have:=HNL.out;omega)) HF6.out.1.fewE hxs).mono ?_);rintro e w7 ⟨a7,c7,L7,hL7,rfl,hI7,hb7⟩;have pB:=hid (Sx.kept (Sx.kept pA.out (below_one w6 (.cells #[.slice none 0 0,.int .i64 0] 29))) hb7);have HZ7:=hid ((hb7.block _ (lt_of_obj (heap_alloc_new w6 (.cells #[.slice none 0 0,.int .i64 0] 29)))).trans (heap_alloc_new w6 _));have HI7:=hid hI7;have HL7:=hid hL7;have l0:=cell_obj HZ7.out 0;have l1:=cell_obj HZ7.out 1;have l2:=free_obj HZ7.out 0;have l3:=free_obj HZ7.out 1;clear hL7 hI7 hb7))
  all_goals
   first
    |have HF:=hid (show Gd w a n c nx ⟨2,oa,ob,oo,og,on,od⟩ w5.heap.size a7 c7 L7 _ from⟨pB.out.ob.set2 hp5 (.slice a7 L7.length c7) (.int .i64 nx),yr HI7.out HZ7.out _ _,set2 _ _ HZ7.out,hp5⟩)
     generalize (w7.setCell ⟨w5.heap.size,0,none⟩ (.slice a7 L7.length c7)).setCell ⟨w5.heap.size,1,none⟩ (.int .i64 nx)=W9 at HF|-
     generalize w5.heap.size=p9 at HF|-
    |have HF:=hid (show Gd w a n c nx ⟨2,oa,ob,oo,og,on,od⟩ w6.heap.size a7 c7 L7 _ from⟨pB.out.ob.set2 (lt_of_obj pA.out.ob.res) (.slice a7 L7.length c7) (.int .i64 nx),yr HI7.out HZ7.out _ _,set2 _ _ HZ7.out,lt_of_obj pA.out.ob.res⟩)
     generalize (w7.setCell ⟨w6.heap.size,0,none⟩ (.slice a7 L7.length c7)).setCell ⟨w6.heap.size,1,none⟩ (.int .i64 nx)=W9 at HF|-
     generalize w6.heap.size=p9 at HF|-
    |have HF:=hid (show Gd w a n c nx ⟨2,oa,ob,oo,og,on,od⟩ w7.heap.size a7 c7 L7 _ from⟨pB.out.ob.kept (below_one w7 (.cells #[.slice a7 L7.length c7,.int .i64 nx] 29)),HI7.out.below (below_one w7 _),heap_alloc_new w7 _,lt_of_obj pB.out.ob.res⟩)
     generalize w7.alloc (.cells #[.slice a7 L7.length c7,.int .i64 nx] 29)=W9 at HF|-
     generalize w7.heap.size=p9 at HF|-
   have HL9:=hid (show its L7=Fs.enter env (Fs.setL (its L) nx ⟨2,on,ByteArray.empty,ByteArray.empty,[]⟩) dd x nx by rw[HL7.out,HL6.out];rfl)
   have f1:W9.cell? ⟨w.heap.size,1,none⟩=some (.int .i64 nx):=cell_obj HF.out.ob.box 1
   have u0:W9.cell? ⟨p9,0,none⟩=some (.slice a7 L7.length c7):=cell_obj HF.out.box 0
   have u1:W9.cell? ⟨p9,1,none⟩=some (.int .i64 nx):=cell_obj HF.out.box 1
   have v1:=free_obj HF.out.box 1
   have r0:=zn HF.out.ob.res
   have q0:=zH HF.out.ob.res
   have hbig:=HF.out.big
   have hwr:IntKind.i64.wrap (nx+1)=nx+1:=IntWalk.i64_in _ (by omega)
   obtain⟨n7,hn7⟩: ∃n7,n7=L7.length:=⟨_,rfl⟩
   rw[<-hn7]at u0|-
   have HN7:=hid hn7
   clear hn7
   go_wp2_with fail
   refine bodyPost_ret_by (za rfl _ _ (w.heap.size+1+1) _ _ rfl (set2 _ _ (HF.out.one (.int .i64 (nx+1))).1.res)) rfl ?_
   exact zL 0 (HF.out.one (.int .i64 (nx+1))).1 (HF.out.one (.int .i64 (nx+1))).2 HN7.out (by unfold Fs.doE;rw[HA.out,HL9.out])
end Go.Proofs.YtabmamofnhcgbaaGreatDoor
