/- A part of the proofs. -/
import Derived.Shelf.Strings.OnBuilder
import Derived.Lib.Join
import Derived.Test.YtabmamofnhcgbaaGreatDoorC12
set_option maxRecDepth 1000000
set_option maxHeartbeats 16000000
open Go.Lib (hid)
open Go.Proofs.Tryz
namespace Go.Proofs.YtabmamofnhcgbaaGreatDoor
open Go.RowKit Go.Less
attribute [local go_sem 9000] zg zf
def zu(l:List Fs.Item)(p:ByteArray):Int×Nd.Node×Int:=
 if(zF l p).2.2≠0 then(0,(zF l p).2.1,(zF l p).2.2)else if(zF l p).2.1.kind=2 then(0,Nd.none0,11)else if(zF l p).2.1.kind=3 then(0,Nd.none0,16)else((zF l p).1,(zF l p).2.1,0)
theorem uf(a:Option Addr)(n c:Nat)(nx:Int)(L:List MI)(p:ByteArray)(w:World)(hI:Items a n L w)(hn:n<=100000)(hF:Vb (its L))(hp:p.size<=1048576):
  Calls prog 67 #[fv a n c nx,.string p] w (zU (zu (its L) p) w):=by
 have HFi:=hid (λW (hb:Below w.heap.size w W)=>xJ a n c nx L p W (hI.below hb) hn hF hp)
 have HB:=hid (Z5 w a n c nx)
 clear hI hF
 generalize its L=l at*
 go_enter func67,ntmps67
 go_wp2_with fail
 generalize (w.alloc (.cells #[.slice a n c,.int .i64 nx] 29)).alloc (.cells #[.int .i64 0,.int .i64 0,.string ⟨#[]⟩,.string ⟨#[]⟩,.slice none 0 0] 43)=W0 at HB|-
 go_wp2_with fail
 refine(HFi.out W0 HB.out.below).mono ?_
 obtain⟨r,hr⟩: ∃r,zF l p=r:=⟨_,rfl⟩
 have HR:=hid (show zu l p=if r.2.2≠0 then(0,r.2.1,r.2.2)else if r.2.1.kind=2 then(0,Nd.none0,11)else if r.2.1.kind=3 then(0,Nd.none0,16)else(r.1,r.2.1,0) by unfold zu;rw[hr])
 rw[hr]
 clear hr
 obtain⟨i,⟨k,m,d,t,es⟩,code⟩:=r
 rintro e w1 ⟨ea,ec,rfl,hE,hb1⟩
 have HB1:=hid (HB.out.kept hb1)
 have HB2:=hid (HB1.out.kept (below_one w1 (.cells #[.int .i64 k,.int .i64 m,.string d,.string t,.slice ea es.length ec] 43)))
 have HX2:=hid (hE.below (below_one w1 (.cells #[.int .i64 k,.int .i64 m,.string d,.string t,.slice ea es.length ec] 43)))
 have HO2:=hid (heap_alloc_new w1 (.cells #[.int .i64 k,.int .i64 m,.string d,.string t,.slice ea es.length ec] 43))
 have hne:w1.heap.size≠w.heap.size+1:=Nat.ne_of_gt (lt_of_obj HB1.out.res)
 clear hb1 hE HB
 dsimp only
 by_cases hc:code=0
 ·subst hc
  by_cases hk2:k=2
  ·have HR2:=hid (show zu l p=(0,Nd.none0,11) by rw[HR.out,if_neg (by simp),if_pos hk2])
   clear HR
   subst hk2
   have r0:=yl HB2.out.res
   have q0:=xp HB2.out.res
   go_wp2_with fail
   refine bodyPost_ret_by (zE rfl _ _ (w.heap.size+1) _ _ _ _ _ rfl (set5 _ _ _ _ _ HB2.out.res)) rfl ?_
   exact xX 11 (zI HB2.out.below (Nat.le_succ _) _ _ _ _ _) HR2.out
  ·by_cases hk3:k=3
   ·have HR2:=hid (show zu l p=(0,Nd.none0,16) by rw[HR.out,if_neg (by simp),if_neg hk2,if_pos hk3])
    clear HR
    subst hk3
    have r0:=yl HB2.out.res
    have q0:=xp HB2.out.res
    go_wp2_with fail
    refine bodyPost_ret_by (zE rfl _ _ (w.heap.size+1) _ _ _ _ _ rfl (set5 _ _ _ _ _ HB2.out.res)) rfl ?_
    exact xX 16 (zI HB2.out.below (Nat.le_succ _) _ _ _ _ _) HR2.out
   ·have HR2:=hid (show zu l p=(i,⟨k,m,d,t,es⟩,0) by rw[HR.out,if_neg (by simp),if_neg hk2,if_neg hk3])
    clear HR
    go_wp2_with fail
    generalize w1.alloc (.cells #[.int .i64 k,.int .i64 m,.string d,.string t,.slice ea es.length ec] 43)=W2 at HB2 HX2 HO2|-
    generalize w1.heap.size=p2 at HO2 hne|-
    have n0:=yl HO2.out
    have r0:=yl HB2.out.res
    have q0:=xp HB2.out.res
    go_region_law fail
    all_goals
     have HBf:=hid (zI HB2.out.below (Nat.le_succ _) (.int .i64 k) (.int .i64 m) (.string d) (.string t) (.slice ea es.length ec))
     have HEf:=hid (uj HX2.out HB2.out.res (.int .i64 k) (.int .i64 m) (.string d) (.string t) (.slice ea es.length ec))
     go_wp2_with fail
     refine bodyPost_ret_by (zE rfl _ _ (w.heap.size+1) _ _ _ _ _ rfl (show _ from set5 _ _ _ _ _ HB2.out.res)) rfl ?_
     rw[HR2.out]
     exact⟨ea,ec,rfl,HEf.out.below (Below.refl _ _).drew,HBf.out.drew⟩
 ·have HR2:=hid (show zu l p=(0,⟨k,m,d,t,es⟩,code) by rw[HR.out,if_pos hc])
  clear HR
  go_wp2_with fail
  generalize w1.alloc (.cells #[.int .i64 k,.int .i64 m,.string d,.string t,.slice ea es.length ec] 43)=W2 at HB2 HX2 HO2|-
  generalize w1.heap.size=p2 at HO2 hne|-
  have n0:=yl HO2.out
  have r0:=yl HB2.out.res
  have q0:=xp HB2.out.res
  go_region_law fail
  all_goals
   have HBf:=hid (zI HB2.out.below (Nat.le_succ _) (.int .i64 k) (.int .i64 m) (.string d) (.string t) (.slice ea es.length ec))
   have HEf:=hid (uj HX2.out HB2.out.res (.int .i64 k) (.int .i64 m) (.string d) (.string t) (.slice ea es.length ec))
   go_wp2_with fail
   refine bodyPost_ret_by (zE rfl _ _ (w.heap.size+1) _ _ _ _ _ rfl (show _ from set5 _ _ _ _ _ HB2.out.res)) rfl ?_
   rw[HR2.out]
   exact⟨ea,ec,rfl,HEf.out.below (Below.refl _ _).drew,HBf.out.drew⟩
end Go.Proofs.YtabmamofnhcgbaaGreatDoor
namespace Go.Proofs.YtabmamofnhcgbaaGreatDoor
open Go.RowKit Go.Less
open T8 (pv Dg)
attribute [local go_sem 9000] zg zf
theorem Okl.small{l:List Fs.Item}(h:Okl l)(i:Int):(Fs.nodeD l i).ents.length<=64:=by
 unfold Fs.nodeD
 cases hn:Fs.node l i with
 |none=>exact Nat.zero_le _
 |some x=>exact(h.node hn).1.len
theorem xR(c:Int){w W:World}(hb:Below w.heap.size w W){r:Int×Nd.Node×Int}(h:r=(0,Nd.none0,c)):
  zU r w (.returned (.tuple #[.int .i64 0,.agg #[.int .i64 0,.int .i64 0,.string ⟨#[]⟩,.string ⟨#[]⟩,.slice none 0 0],.int .i64 c])) W:=xX c hb h
theorem xh(m:Option Nat)(nx:Int)(l:List Fs.Item)(p:ByteArray)(w:World)(h:Sv w m l)(hp:p.size<=140737488355328):Calls prog 62 #[stv m nx,.string p] w (zU (zF l p) w):=by
 have HN:=hid (λk W (hb:Below w.heap.size w W)=>qn m nx l k W (h.below hb))
 have HS:=hid (λW=>split_any p W hp)
 have HFe:=hid h.ok.small
 clear h
 have HB:=hid (show Bxs w [(w.heap.size,#[pv m,.int .i64 nx],98),(w.heap.size+1,#[.int .i64 0,.int .i64 0,.string ⟨#[]⟩,.string ⟨#[]⟩,.slice none 0 0],43)] ((w.alloc (.cells #[pv m,.int .i64 nx] 98)).alloc (.cells #[.int .i64 0,.int .i64 0,.string ⟨#[]⟩,.string ⟨#[]⟩,.slice none 0 0] 43))from Bxs.two w _ _ _ _)
 go_enter func62,ntmps62
 go_wp2_with fail
 generalize (w.alloc (.cells #[pv m,.int .i64 nx] 98)).alloc (.cells #[.int .i64 0,.int .i64 0,.string ⟨#[]⟩,.string ⟨#[]⟩,.slice none 0 0] 43)=W0 at HB|-
 have b1:=HB.out.c5 1 rfl
 refine(HS.out W0).mono ?_
 rintro e w1 hX
 have HB:=hid (HB.out.kept hX.below)
 clear b1
 cases hsp:Nm.split p.data.toList with
 |none=>
  obtain rfl:=hX.no hsp
  have HR:=hid (show zF l p=(0,Nd.none0,14) by unfold zF spl;rw[hsp];rfl)
  clear hX hsp
  have b1:=HB.out.c5 1 rfl
  dsimp only
  go_wp2_with (first|(refine zb HB.out 1 rfl 43 _ _ rfl rfl #[.int .i64 0,.int .i64 0,.string ⟨#[]⟩,.string ⟨#[]⟩,.slice none 0 0] rfl rfl (by kernel_rfl) rfl rfl (by decide) (by decide) ?_;intro w2 hS hK hbS hsS;have HBS:=hid (show Bxs w [(w.heap.size,#[pv m,.int .i64 nx],98),(w.heap.size+1,#[.int .i64 0,.int .i64 0,.string ⟨#[]⟩,.string ⟨#[]⟩,.slice none 0 0],43)] w2 from hS);clear hS hK hbS hsS;have HB:=HBS;clear HBS;clear b1;have b1:=HB.out.c5 1 rfl)|fail)
  refine bodyPost_ret_by (zE rfl _ _ (w.heap.size+1) _ _ _ _ _ rfl (HB.out.obj 1 rfl)) rfl ?_
  exact xR 14 HB.out.below HR.out
 | some ns=>
  obtain⟨ao,cap,rfl,hT⟩:=hX.yes ns hsp
  have hS:=yA hT rfl
  have h8:ns.length<=100000:=by have:=jo (show Nm.split p.data.toList=some ns from hsp);omega
  have HR:=hid (show zF l p=match Fs.walk l 1 (ns.map lstr)with
   | .error e=>(0,Nd.none0,e)
   | .ok i=>(i,Fs.nodeD l i,0) by unfold zF spl;rw[hsp];rfl)
  have HCo:=hid hS.count
  have HSt:=hid (λW (hb:Below w1.heap.size w1 W)=>hS.below hb)
  clear hX hsp hT hS
  generalize ns.map lstr=ss at*
  obtain⟨ln,hln⟩: ∃ln,ln=ns.length:=⟨_,rfl⟩
  rw[<-hln]at h8 HCo HSt|-
  have hli:(ln:Int)<=100000:=by omega
  clear hln
  have b0:=HB.out.c2 0 rfl
  have b1:=HB.out.c5 1 rfl
  dsimp only
  go_wp2_with fail
  refine(HN.out 1 w1 HB.out.below).mono ?_
  rintro e w2 ⟨ea,ec,rfl,hE,hb⟩
  have hbk:=hb
  have hbw:=hb
  have HE0:=hid (hE.below (below_one w2 (.cells #[.int .i64 (Fs.nodeD l 1).kind,.int .i64 (Fs.nodeD l 1).mode,.string (Fs.nodeD l 1).data,.string (Fs.nodeD l 1).target,.slice ea (Fs.nodeD l 1).ents.length ec] 43)))
  clear hE
  have HB:=hid (HB.out.kept hbk)
  clear b0 b1
  clear hbk
  have HB:=hid (show Bxs w [(w.heap.size,#[pv m,.int .i64 nx],98),(w.heap.size+1,#[.int .i64 0,.int .i64 0,.string ⟨#[]⟩,.string ⟨#[]⟩,.slice none 0 0],43),(w2.heap.size,#[.int .i64 (Fs.nodeD l 1).kind,.int .i64 (Fs.nodeD l 1).mode,.string (Fs.nodeD l 1).data,.string (Fs.nodeD l 1).target,.slice ea (Fs.nodeD l 1).ents.length ec],43)] (w2.alloc (.cells #[.int .i64 (Fs.nodeD l 1).kind,.int .i64 (Fs.nodeD l 1).mode,.string (Fs.nodeD l 1).data,.string (Fs.nodeD l 1).target,.slice ea (Fs.nodeD l 1).ents.length ec] 43))from HB.out.more _ _ rfl)
  have b1:=HB.out.c5 1 rfl
  dsimp only
  go_wp2_with fail
  have hp1:w1.heap.size<=w2.heap.size:=hbw.size
  have HW:=hid (hbw.trans ((below_one w2 (.cells #[.int .i64 (Fs.nodeD l 1).kind,.int .i64 (Fs.nodeD l 1).mode,.string (Fs.nodeD l 1).data,.string (Fs.nodeD l 1).target,.slice ea (Fs.nodeD l 1).ents.length ec] 43)).mono hbw.size))
  clear b1
  clear hbw
  generalize w2.alloc (.cells #[.int .i64 (Fs.nodeD l 1).kind,.int .i64 (Fs.nodeD l 1).mode,.string (Fs.nodeD l 1).data,.string (Fs.nodeD l 1).target,.slice ea (Fs.nodeD l 1).ents.length ec] 43)=W3 at HB HE0 HW|-
  generalize w2.heap.size=pX at HB hp1|-
  go_loopw [9,13,14,32] (λx9 x13 x14 x32 wr=> ∃(j:Nat) (i:Int) (a:Option Addr) (c:Nat),j<=ln/\x32= .int .i64 j/\x9= .int .i64 i/\Hid (Fs.walk l 1 ss=Fs.walk l i (ss.drop j))/\Bxs w [(w.heap.size,#[pv m,.int .i64 nx],98),(w.heap.size+1,#[.int .i64 0,.int .i64 0,.string ⟨#[]⟩,.string ⟨#[]⟩,.slice none 0 0],43),(pX,#[.int .i64 (Fs.nodeD l i).kind,.int .i64 (Fs.nodeD l i).mode,.string (Fs.nodeD l i).data,.string (Fs.nodeD l i).target,.slice a (Fs.nodeD l i).ents.length c],43)] wr/\Ents a (Fs.nodeD l i).ents.length (Fs.nodeD l i).ents wr/\Below w1.heap.size w1 wr) (λ_ _ _ x32 _=>ln-(intOf x32).toNat)
  case atStart=>exact⟨0,1,ea,ec,Nat.zero_le _,rfl,rfl,hid rfl,HB.out,HE0.out,HW.out⟩
  case round=>
   clear HB HE0 HW
   obtain⟨j,i,a,c,hj,rfl,rfl,HE,hB,hEn,hW1⟩:=hrel
   have HB:=hid hB
   have HEn:=hid hEn
   have HW1:=hid hW1
   clear hB hEn hW1
   by_cases hlt:j<ln
   ·have j0:(j:Int)<(ln:Int):=by omega
    have hj0:(0:Int)<=(j:Int):=by omega
    have HE2:=hid (HE.out.trans (KQ i (by rw[<-HCo.out];exact hlt)))
    clear HE
    obtain⟨b1,o1,rfl,nc⟩:=(HSt.out wr HW1.out).cell j hlt
    have nc:wr.cell? ⟨b1,o1+j,none⟩=some (.string (at_ ss j)):=nc
    have HFi:=hid (HFe.out i)
    generalize Fs.nodeD l i=x at*
    obtain⟨k,mo,d,t,es⟩:=x
    dsimp only at HB HEn HFi HE2
    by_cases hk:k=2
    ·subst hk
     have HFd:=hid (λW (h:Ents a es.length es W)=>find_any 2 mo d t a es.length c es (at_ ss j) W h (Nat.le_trans HFi.out (by decide)))
     unfold vS at HFd
     rw[if_neg (by simp)]at HE2
     have b0:=HB.out.c2 0 rfl
     have b1:=HB.out.c5 1 rfl
     have b2:=HB.out.c5 2 rfl
     cases hf:Nd.find es (at_ ss j)with
     |none=>
      rw[hf]at HFd HE2
      have HR:=hid (show zF l p=(0,Nd.none0,4)from HR.out.trans (by rw[HE2.out]))
      clear HE2 hf
      dsimp only[Option.getD,Option.isSome]at HFd
      go_wp2_with fail
      refine(HFd.out _ HEn.out).mono ?_
      rintro e w3 ⟨rfl,hb⟩
      have HB:=hid (HB.out.kept hb)
      clear b0 b1 b2
      have b1:=HB.out.c5 1 rfl
      dsimp only
      go_wp2_with (first|(refine zb HB.out 1 rfl 43 _ _ rfl rfl #[.int .i64 0,.int .i64 0,.string ⟨#[]⟩,.string ⟨#[]⟩,.slice none 0 0] rfl rfl (by kernel_rfl) rfl rfl (by decide) (by decide) ?_;intro w4 hS hK hbS hsS;have HBS:=hid (show Bxs w [(w.heap.size,#[pv m,.int .i64 nx],98),(w.heap.size+1,#[.int .i64 0,.int .i64 0,.string ⟨#[]⟩,.string ⟨#[]⟩,.slice none 0 0],43),(pX,#[.int .i64 2,.int .i64 mo,.string d,.string t,.slice a es.length c],43)] w4 from hS);clear hS hK hbS hsS;have HB:=HBS;clear HBS;clear b1;have b1:=HB.out.c5 1 rfl)|fail)
      refine bodyPost_ret_by (zE rfl _ _ (w.heap.size+1) _ _ _ _ _ rfl (HB.out.obj 1 rfl)) rfl ?_
      exact xR 4 HB.out.below HR.out
     |some k2=>
      rw[hf]at HFd HE2
      have HE3:=hid (show Fs.walk l 1 ss=Fs.walk l k2 (ss.drop (j+1))from HE2.out)
      clear HE2 hf
      dsimp only[Option.getD,Option.isSome]at HFd
      go_wp2_with fail
      refine(HFd.out _ HEn.out).mono ?_
      rintro e w3 ⟨rfl,hb⟩
      have HW1:=hid (HW1.out.trans (hb.mono HW1.out.size))
      have HB:=hid (HB.out.kept hb)
      clear b0 b1 b2
      have b0:=HB.out.c2 0 rfl
      have b1:=HB.out.c5 1 rfl
      dsimp only
      go_wp2_with fail
      refine(HN.out k2 w3 HB.out.below).mono ?_
      rintro e w4 ⟨a2,c2,rfl,hE2,hb⟩
      have hbk:=hb
      have HW1:=hid (HW1.out.trans (hb.mono HW1.out.size))
      have HEn:=hid hE2
      clear hE2
      have HB:=hid (HB.out.kept hbk)
      clear b0 b1
      clear hbk
      have b1:=HB.out.c5 1 rfl
      dsimp only
      go_wp2_with (first|(refine zb HB.out 2 rfl 43 _ _ rfl rfl #[.int .i64 (Fs.nodeD l k2).kind,.int .i64 (Fs.nodeD l k2).mode,.string (Fs.nodeD l k2).data,.string (Fs.nodeD l k2).target,.slice a2 (Fs.nodeD l k2).ents.length c2] rfl rfl (by kernel_rfl) rfl rfl (by decide) (by decide) ?_;intro w5 hS hK hbS hsS;have HBS:=hid (show Bxs w [(w.heap.size,#[pv m,.int .i64 nx],98),(w.heap.size+1,#[.int .i64 0,.int .i64 0,.string ⟨#[]⟩,.string ⟨#[]⟩,.slice none 0 0],43),(pX,#[.int .i64 (Fs.nodeD l k2).kind,.int .i64 (Fs.nodeD l k2).mode,.string (Fs.nodeD l k2).data,.string (Fs.nodeD l k2).target,.slice a2 (Fs.nodeD l k2).ents.length c2],43)] w5 from hS);have HEn:=hid (hK.ents (HB.out.obj 2 rfl) (jt _ _ _ _ _ _ _) HEn.out);have HW1:=hid (KF HW1.out hK hp1 hsS HB.out.below hbS);clear hS hK hbS hsS;have HB:=HBS;clear HBS;clear b1;have b1:=HB.out.c5 1 rfl)|fail)
      go_roundw
      case rel=>exact⟨j+1,k2,a2,c2,by omega,by go_num,rfl,HE3,HB.out,HEn.out,HW1.out⟩
      case measure=>simp[intOf];omega
    ·have HR:=hid (show zF l p=(0,Nd.none0,10)from HR.out.trans (by rw[HE2.out];exact(by rw[if_pos hk])))
     clear HE2
     have b1:=HB.out.c5 1 rfl
     have b2:=HB.out.c5 2 rfl
     go_wp2_with (first|(refine zb HB.out 1 rfl 43 _ _ rfl rfl #[.int .i64 0,.int .i64 0,.string ⟨#[]⟩,.string ⟨#[]⟩,.slice none 0 0] rfl rfl (by kernel_rfl) rfl rfl (by decide) (by decide) ?_;intro w3 hS hK hbS hsS;have HBS:=hid (show Bxs w [(w.heap.size,#[pv m,.int .i64 nx],98),(w.heap.size+1,#[.int .i64 0,.int .i64 0,.string ⟨#[]⟩,.string ⟨#[]⟩,.slice none 0 0],43),(pX,#[.int .i64 k,.int .i64 mo,.string d,.string t,.slice a es.length c],43)] w3 from hS);clear hS hK hbS hsS;have HB:=HBS;clear HBS;clear b1 b2;have b1:=HB.out.c5 1 rfl)|fail)
     refine bodyPost_ret_by (zE rfl _ _ (w.heap.size+1) _ _ _ _ _ rfl (HB.out.obj 1 rfl)) rfl ?_
     exact xR 10 HB.out.below HR.out
   ·obtain rfl:j=ln:=by omega
    have HR:=hid (show zF l p=(i,Fs.nodeD l i,0)from HR.out.trans (by rw[HE.out,HCo.out,List.drop_eq_nil_of_le (Nat.le_refl _)];rfl))
    clear HE
    generalize Fs.nodeD l i=x at*
    obtain⟨k,mo,d,t,es⟩:=x
    dsimp only at HB HEn HR
    have b1:=HB.out.c5 1 rfl
    have b2:=HB.out.c5 2 rfl
    have q1_0:wr.frozen? ⟨w.heap.size+1,0,none⟩=false:=HB.out.free 1 rfl 0
    have q1_1:wr.frozen? ⟨w.heap.size+1,1,none⟩=false:=HB.out.free 1 rfl 1
    have q1_2:wr.frozen? ⟨w.heap.size+1,2,none⟩=false:=HB.out.free 1 rfl 2
    have q1_3:wr.frozen? ⟨w.heap.size+1,3,none⟩=false:=HB.out.free 1 rfl 3
    have q1_4:wr.frozen? ⟨w.heap.size+1,4,none⟩=false:=HB.out.free 1 rfl 4
    go_wp2_with fail
    go_region_law fail
    all_goals
     have HBf:=hid (HB.out.put5 1 rfl (.int .i64 k) (.int .i64 mo) (.string d) (.string t) (.slice a es.length c))
     have HEf:=hid (uj HEn.out (HB.out.obj 1 rfl) (.int .i64 k) (.int .i64 mo) (.string d) (.string t) (.slice a es.length c))
     go_wp2_with fail
     refine bodyPost_ret_by (zE rfl _ _ (w.heap.size+1) _ _ _ _ _ rfl (HBf.out.obj 1 rfl)) rfl ?_
     rw[HR.out]
     exact⟨a,c,rfl,HEf.out.below (Below.refl _ _).drew,HBf.out.below.drew⟩
end Go.Proofs.YtabmamofnhcgbaaGreatDoor
namespace Go.Proofs.YtabmamofnhcgbaaGreatDoor
open Go.RowKit
def dat(ss:List ByteArray):List (List UInt8):=ss.map λs=>s.data.toList
def qO(ns:List (List UInt8)):List UInt8×Int:=match Nm.join ns with
 |some p=>(p,0)
 |none=>([],14)
theorem Uf{ns:List (List UInt8)}(h:Nm.join ns=none):qO ns=([],14):=by unfold qO;rw[h]
theorem Ug{ns:List (List UInt8)}{p:List UInt8}(h:Nm.join ns=some p):qO ns=(p,0):=by unfold qO;rw[h]
theorem zay{ns:List (List UInt8)}(h:8<ns.length):Nm.join ns=none:=by unfold Nm.join;rw[if_neg (by rintro ⟨h1,_⟩;omega)]
theorem K9{ns:List (List UInt8)}(h8:ns.length<=8)(h:ns.all Nm.right=true):Nm.join ns=some (Nm.pathOf ns):=by unfold Nm.join;rw[if_pos ⟨h8,h⟩]
theorem YX{l:List UInt8}(h:Nm.right l=true):l.length<=16:=by
 unfold Nm.right at h
 simp only[Bool.and_eq_true,decide_eq_true_eq]at h
 exact h.1.1.2
end Go.Proofs.YtabmamofnhcgbaaGreatDoor
namespace Go.Proofs.YtabmamofnhcgbaaGreatDoor.P9
open Go.Shelf
def ren:Go.Shelf.Ren:=⟨fun|156=>245|165=>255|166=>181|169=>183|227=>236|228=>237|240=>213|241=>270|276=>239|277=>273|316=>113|n=>n,fun|0=>0|3=>3|4=>4|5=>5|9=>9|20=>20|31=>52|37=>144|70=>240|72=>242|75=>244|76=>246|80=>60|116=>288|124=>308|127=>219|164=>294|n=>n,fun|n=>n⟩
theorem lays156:Go.Proofs.Lays.n156 prog ren:={
 mixed:=by kernel_rfl
 f156:=func245.trans (congrArg some (by kernel_rfl))
 f165:=func255.trans (congrArg some (by kernel_rfl))
 f166:=func181.trans (congrArg some (by kernel_rfl))
 f169:=func183.trans (congrArg some (by kernel_rfl))
 f240:=func213.trans (congrArg some (by kernel_rfl))
 f241:=func270.trans (congrArg some (by kernel_rfl))
 f276:=func239.trans (congrArg some (by kernel_rfl))
 f277:=func273.trans (congrArg some (by kernel_rfl))
 t0:=underlying0
 a0:=Tryz.isAgg0
 z0:=Tryz.sizeOf0
 v0:=Tryz.zeroValue0
 t3:=underlying3
 a3:=Tryz.isAgg3
 z3:=Tryz.sizeOf3
 v3:=Tryz.zeroValue3
 t4:=underlying4
 a4:=Tryz.isAgg4
 z4:=Tryz.sizeOf4
 v4:=Tryz.zeroValue4
 t9:=underlying9
 a9:=Tryz.isAgg9
 z9:=Tryz.sizeOf9
 v9:=Tryz.zeroValue9
 t20:=underlying20
 a20:=Tryz.isAgg20
 z20:=Tryz.sizeOf20
 v20:=Tryz.zeroValue20
 t31:=underlying52
 a31:=Tryz.isAgg52
 z31:=Tryz.sizeOf52
 v31:=Tryz.zeroValue52
 t37:=underlying144
 a37:=Tryz.isAgg144
 z37:=Tryz.sizeOf144
 v37:=Tryz.zeroValue144
 t70:=underlying240
 a70:=Tryz.isAgg240
 z70:=Tryz.sizeOf240
 v70:=Tryz.zeroValue240
 t72:=underlying242
 a72:=Tryz.isAgg242
 z72:=Tryz.sizeOf242
 v72:=Tryz.zeroValue242
 t75:=underlying244
 a75:=Tryz.isAgg244
 z75:=Tryz.sizeOf244
 v75:=Tryz.zeroValue244
 t76:=underlying246
 a76:=Tryz.isAgg246
 z76:=Tryz.sizeOf246
 v76:=Tryz.zeroValue246
 t127:=underlying219
 a127:=Tryz.isAgg219
 z127:=Tryz.sizeOf219
 v127:=Tryz.zeroValue219
 t164:=underlying294
 a164:=Tryz.isAgg294
 z164:=Tryz.sizeOf294
 v164:=Tryz.zeroValue294}
theorem lays227:Go.Proofs.Lays.n227 prog ren:={
 mixed:=by kernel_rfl
 f227:=func236.trans (congrArg some (by kernel_rfl))
 t0:=underlying0
 a0:=Tryz.isAgg0
 z0:=Tryz.sizeOf0
 v0:=Tryz.zeroValue0
 t3:=underlying3
 a3:=Tryz.isAgg3
 z3:=Tryz.sizeOf3
 v3:=Tryz.zeroValue3
 t4:=underlying4
 a4:=Tryz.isAgg4
 z4:=Tryz.sizeOf4
 v4:=Tryz.zeroValue4
 t5:=underlying5
 a5:=Tryz.isAgg5
 z5:=Tryz.sizeOf5
 v5:=Tryz.zeroValue5
 t9:=underlying9
 a9:=Tryz.isAgg9
 z9:=Tryz.sizeOf9
 v9:=Tryz.zeroValue9
 t116:=underlying288
 a116:=Tryz.isAgg288
 z116:=Tryz.sizeOf288}
theorem lays228:Go.Proofs.Lays.n228 prog ren:={
 mixed:=by kernel_rfl
 f228:=func237.trans (congrArg some (by kernel_rfl))
 t0:=underlying0
 a0:=Tryz.isAgg0
 z0:=Tryz.sizeOf0
 v0:=Tryz.zeroValue0
 t4:=underlying4
 a4:=Tryz.isAgg4
 z4:=Tryz.sizeOf4
 v4:=Tryz.zeroValue4
 t5:=underlying5
 a5:=Tryz.isAgg5
 z5:=Tryz.sizeOf5
 v5:=Tryz.zeroValue5
 t116:=underlying288
 a116:=Tryz.isAgg288
 z116:=Tryz.sizeOf288
 t124:=underlying308
 a124:=Tryz.isAgg308
 z124:=Tryz.sizeOf308
 v124:=Tryz.zeroValue308}
theorem laysM316:Go.Proofs.LaysM.n316 prog ren:={
 mixed:=by kernel_rfl
 f316:=func113.trans (congrArg some (by kernel_rfl))
 t0:=underlying0
 a0:=Tryz.isAgg0
 z0:=Tryz.sizeOf0
 v0:=Tryz.zeroValue0
 t3:=underlying3
 a3:=Tryz.isAgg3
 z3:=Tryz.sizeOf3
 v3:=Tryz.zeroValue3
 t4:=underlying4
 a4:=Tryz.isAgg4
 z4:=Tryz.sizeOf4
 v4:=Tryz.zeroValue4
 t9:=underlying9
 a9:=Tryz.isAgg9
 z9:=Tryz.sizeOf9
 v9:=Tryz.zeroValue9
 t37:=underlying144
 a37:=Tryz.isAgg144
 z37:=Tryz.sizeOf144
 v37:=Tryz.zeroValue144
 t127:=underlying219
 a127:=Tryz.isAgg219
 z127:=Tryz.sizeOf219
 v127:=Tryz.zeroValue219
 t5:=underlying5
 a5:=Tryz.isAgg5
 z5:=Tryz.sizeOf5
 v5:=Tryz.zeroValue5
 i0:=by kernel_rfl
 i3:=by kernel_rfl
 i4:=by kernel_rfl
 i5:=by kernel_rfl
 i9:=by kernel_rfl
 i37:=by kernel_rfl
 i127:=by kernel_rfl}
theorem extra:Builder.Extra prog ren:={
 sizeBuilder:=by kernel_rfl
 liesBuilder:=by kernel_rfl
 t5:=underlying5
 a5:=Tryz.isAgg5
 z5:=Tryz.sizeOf5
 v5:=Tryz.zeroValue5
 infoByte:=by kernel_rfl
 cellsByte:=by kernel_rfl
 sizeByte:=by kernel_rfl
 neB5:=by decide}
theorem info68:(prog.info? 288).map (λi=>(i.zero,i.size))=some (some (.agg (Array.replicate 256 (.bool false))),256):=by kernel_rfl
end Go.Proofs.YtabmamofnhcgbaaGreatDoor.P9
namespace Go.Proofs.YtabmamofnhcgbaaGreatDoor
open Go.RowKit
def zbk(ns:List (List UInt8)):Bool:=ns.all Nm.right
theorem Qt(s:ByteArray)(w:World)(hs:s.size<=140737488355328):Calls prog 243 #[.string s] w λe w'=>e= .returned (.bool (!Nm.right s.data.toList))/\Below w.heap.size w w':=by
 go_enter func243,ntmps243
 go_wp2_with fail
 refine(ud s _ hs).mono ?_
 rintro e w1 ⟨rfl,hB⟩
 dsimp only
 go_wp2_with fail
 go_ret
 exact⟨rfl,hB⟩
structure Rowy (a:Option Addr) (ln:Nat) (ss:List ByteArray) (w:World):Prop where
 strs:Strs a ln ss w
 size: ∀i,i<ss.length->(ss.getD i ByteArray.empty).size<=140737488355328
theorem Rowy.below{a:Option Addr}{len:Nat}{ss:List ByteArray}{w w':World}(h:Rowy a len ss w)(hb:Below w.heap.size w w'):Rowy a len ss w':=⟨h.strs.below hb,h.size⟩
theorem dat_at(ss:List ByteArray){k:Nat}(hk:k<ss.length):(dat ss).getD k []=(ss.getD k ByteArray.empty).data.toList:=by
 unfold dat
 rw[List.getD,List.getD,List.getElem?_map,List.getElem?_eq_getElem hk];rfl
theorem Qk(ss:List ByteArray):(dat ss).length=ss.length:=by unfold dat;rw[List.length_map]
theorem Q3{ns:List (List UInt8)}{k:Nat}(h:(ns.take k).all Nm.right=true)(hk:k<ns.length)(hr:Nm.right (ns.getD k [])=true):(ns.take (k+1)).all Nm.right=true:=by
 rw[List.take_succ_eq_append_getElem hk,List.all_append,h]
 rw[List.getD,List.getElem?_eq_getElem hk,Option.getD_some]at hr
 simp[hr]
theorem zb6{ns:List (List UInt8)}{k:Nat}(hk:k<ns.length)(hr:Nm.right (ns.getD k [])=false):ns.all Nm.right=false:=by
 rw[List.getD,List.getElem?_eq_getElem hk,Option.getD_some]at hr
 rw[Bool.eq_false_iff]
 intro h
 rw[List.all_eq_true.1 h _ (List.getElem_mem hk)]at hr
 cases hr
theorem zeQ(a:Option Addr)(ln cn:Nat)(ss:List ByteArray)(w:World)(hR:Rowy a ln ss w)(h8:ln<=8):Calls prog 264 #[.slice a ln cn,.func (.func 243) #[] #[]] w λe w'=>(∃z:Int,e= .returned (.int .i64 z)/\(0<=z↔zbk (dat ss)=false))/\Below w.heap.size w w':=by
 have HR:=hid hR
 have hcnt:=hR.strs.count
 clear hR
 have eg: ∀args w,(callFunc 243 args).run prog w= .ok (.enter 243 args) w:=enters_of func243 (by kernel_rfl) rfl
 go_enter func264,ntmps264
 go_wp2_with fail
 go_loopw [8] (λv8 wr=> ∃k:Nat,k<=ln/\v8= .int .i64 k/\Below w.heap.size w wr/\Hid (((dat ss).take k).all Nm.right=true)) (λv8 _=>ln-(intOf v8).toNat)
 case atStart=>exact⟨0,Nat.zero_le _,rfl,Below.refl _ _,rfl⟩
 case round=>
  obtain⟨k,hk,rfl,hB,HA⟩:=hrel
  have HL:=hid (Qk ss)
  by_cases hlt:k<ln
  ·have hk0:(0:Int)<=(k:Int):=by omega
   obtain⟨b,off,rfl,hc⟩:=(HR.out.below hB).strs.cell k hlt
   have hsz:=HR.out.size k (by omega)
   have HD:=hid (dat_at ss (k:=k) (by omega))
   generalize ss.getD k ByteArray.empty=x at*
   have HW:=hid (λw=>Qt x w hsz)
   have HBh:=hid hB
   clear hB hsz
   cases hr:Nm.right x.data.toList with
   |true=>
    have HX:=hid hr
    rw[hr]at HW
    clear hr
    go_wp2_with fail
    refine(HW.out _).mono ?_
    rintro e w2 ⟨rfl,hw2⟩
    have HB2:=hid (HBh.out.trans (hw2.mono HBh.out.size))
    clear hw2
    dsimp only
    go_wp2_with fail
    go_roundw
    case rel=>exact⟨k+1,by omega,by simp,HB2.out,Q3 HA.out (by rw[HL.out];omega) (by rw[HD.out];exact HX.out)⟩
    case measure=>simp[intOf];omega
   |false=>
    have HX:=hid hr
    rw[hr]at HW
    clear hr
    go_wp2_with fail
    refine(HW.out _).mono ?_
    rintro e w2 ⟨rfl,hw2⟩
    have HB2:=hid (HBh.out.trans (hw2.mono HBh.out.size))
    clear hw2
    dsimp only
    go_wp2_with fail
    go_ret
    exact⟨⟨_,rfl,by unfold zbk;rw[zb6 (ns:=dat ss) (k:=k) (by rw[HL.out];omega) (by rw[HD.out];exact HX.out)];simp⟩,HB2.out⟩
  ·have HBh:=hid hB
   clear hB
   go_wp2_with fail
   go_ret
   refine⟨⟨_,rfl, ?_⟩,HBh.out⟩
   have h:=HA.out
   rw[List.take_of_length_le (by rw[HL.out];omega)]at h
   unfold zbk
   rw[h];decide
theorem zcm(a:Option Addr)(ln cn:Nat)(ss:List ByteArray)(w:World)(hR:Rowy a ln ss w)(h8:ln<=8):Calls prog 244 #[.slice a ln cn,.func (.func 243) #[] #[]] w λe w'=>e= .returned (.bool (!zbk (dat ss)))/\Below w.heap.size w w':=by
 have HI:=hid (zeQ a ln cn ss w hR h8)
 clear hR h8
 generalize zbk (dat ss)=r at*
 go_enter func244,ntmps244
 go_wp2_with fail
 refine HI.out.mono ?_
 rintro e w1 ⟨⟨z,rfl,hz⟩,hB⟩
 dsimp only
 cases r with
 |false=>
  have h0:0<=z:=hz.2 rfl
  clear hz
  go_wp2_with fail
  go_ret
  refine⟨?_,hB⟩
  simp
 |true=>
  have h0: ¬ 0<=z:=λh=>by have:=hz.1 h;cases this
  clear hz
  go_wp2_with fail
  go_ret
  refine⟨?_,hB⟩
  simp
def UK(ns:List (List UInt8)):List UInt8:=Lib.join ns [47]
theorem qm(ns:List (List UInt8)):Nm.pathOf ns=47::UK ns:=by
 unfold UK Nm.pathOf
 cases ns with
 |nil=>rfl
 |cons x r=>
  rw[if_neg (by simp),Lib.join_cons]
  rfl
theorem Yf{ns:List (List UInt8)}(h8:ns.length<=8)(h:ns.all Nm.right=true):(UK ns).length<=140:=by
 have e:=congrArg List.length (qm ns)
 rw[List.length_cons]at e
 have:(Nm.pathOf ns).length<=137:=by
  have hf: ∀l:List (List UInt8),l.all Nm.right=true->((l.map (47:: ·)).flatten).length<=17*l.length:=by
   intro l
   induction l with
   |nil=>simp
   |cons x l ih=>
    intro h
    rw[List.all_cons,Bool.and_eq_true]at h
    have h1:=YX h.1
    have h2:=ih h.2
    simp only[List.map_cons,List.flatten_cons,List.length_append,List.length_cons]
    omega
  have:=hf ns h
  unfold Nm.pathOf
  split
  ·simp
  ·omega
 omega
theorem QS(a:Option Addr)(ln cn:Nat)(ss:List ByteArray)(w:World)(hS:Strs a ln ss w)(hcn:ln<=cn)(h8:ln<=8)(hl:(UK (dat ss)).length<=1000):Calls prog 245 #[.slice a ln cn,.string ⟨#[47]⟩] w λe w'=>e= .returned (.string (lstr (UK (dat ss))))/\Below w.heap.size w w':=by
 by_cases h0:ln=0
 ·subst h0
  have hss:ss=[]:=List.eq_nil_of_length_eq_zero hS.count.symm
  subst hss
  refine(Any.strings_Join_none P9.lays156 P9.extra a cn ⟨#[47]⟩ w).mono ?_
  rintro e w' ⟨rfl,rfl⟩
  exact⟨rfl,Below.refl _ _⟩
 ·obtain⟨b,off,rfl,hc0⟩:=hS.cell 0 (by omega)
  have hcnt:=hS.count
  subst hcnt
  have h:=Any.strings_Join P9.lays156 P9.extra b off cn ss ⟨#[47]⟩ w ?_ (block_lt_of_cell hc0) (by omega) hcn (by
   show(UK (dat ss)).length<=_
   omega)
  ·exact h
  ·intro j x hj
   have hjl:j<ss.length:=(List.getElem?_eq_some_iff.1 hj).1
   obtain⟨b',off',e,hc⟩:=hS.cell j hjl
   cases e
   rw[hc,List.getD,hj];rfl
theorem join_any(a:Option Addr)(ln cn:Nat)(ss:List ByteArray)(w:World)(hS:Strs a ln ss w)(hln:ln<=140737488355328)(hcn:ln<=cn)(hsz: ∀i,i<ss.length->(ss.getD i ByteArray.empty).size<=140737488355328):Calls prog 218 #[.slice a ln cn] w λe w'=>e= .returned (.tuple #[.string (lstr (qO (dat ss)).1),.int .i64 (qO (dat ss)).2])/\Below w.heap.size w w':=by
 have hds:(dat ss).length=ln:=by rw[Qk];exact hS.count.symm
 rcases Nat.lt_or_ge 8 ln with h8|h8
 ·have h8i:(8:Int)<(ln:Int):=by omega
  rw[Uf (zay (ns:=dat ss) (by omega))]
  clear hds hS hsz
  go_enter func218,ntmps218
  go_wp2_with fail
  go_ret2
  exact⟨rfl,Below.refl _ _⟩
 have h8i: ¬ (8:Int)<(ln:Int):=by omega
 have HF:=hid (zcm a ln cn ss w ⟨hS,hsz⟩ h8)
 cases hr:zbk (dat ss)with
 |false=>
  rw[Uf (by unfold Nm.join;rw[if_neg];rintro ⟨_,h⟩;unfold zbk at hr;rw[hr]at h;cases h)]
  rw[hr]at HF
  clear hds hS hsz hr
  go_enter func218,ntmps218
  go_wp2_with fail
  refine HF.out.mono ?_
  rintro e w1 ⟨rfl,hB⟩
  dsimp only
  go_wp2_with fail
  go_ret2
  exact⟨rfl,hB⟩
 |true=>
  have HJ:=hid (λw1 (hb:Below w.heap.size w w1)=>QS a ln cn ss w1 (hS.below hb) hcn h8 (by have:=Yf (ns:=dat ss) (by omega) hr;omega))
  have hbl:=Yf (ns:=dat ss) (by omega) hr
  rw[Ug (K9 (by omega) hr),qm]
  rw[hr]at HF
  have hsz2:(lstr (UK (dat ss))).size<=140:=by rw[lstr_size];exact hbl
  clear hds hS hsz hr hbl
  generalize UK (dat ss)=t at*
  go_enter func218,ntmps218
  go_wp2_with fail
  refine HF.out.mono ?_
  rintro e w1 ⟨rfl,hB⟩
  have HB1:=hid hB
  clear hB
  dsimp only
  go_wp2_with fail
  refine(HJ.out _ HB1.out).mono ?_
  rintro e w2 ⟨rfl,hB2⟩
  have HB2:=hid (HB1.out.trans (hB2.mono HB1.out.size))
  clear hB2
  dsimp only
  go_wp2_with fail
  go_ret2
  refine⟨?_,HB2.out⟩
  rw[show lstr (47::t)=(⟨#[47]⟩:ByteArray)++lstr t from(lstr_append [47] t).symm]
  rfl
def xw(l:List UInt8):List UInt8×List UInt8×Int:=match Nm.split l with
 |none=>([],[],14)
 |some ns=>if ns=[]then([],[],17)else(Nm.pathOf ns.dropLast,ns.getLastD [],0)
theorem yh{l:List UInt8}{ns:List (List UInt8)}(h:Nm.split l=some ns):ns.length<=8/\ns.all Nm.right=true:=by
 have:=Nm.join_split h
 unfold Nm.join at this
 split at this
 ·rename_i hx;exact hx
 ·cases this
theorem jf(ns:List (List UInt8)):dat (ns.map lstr)=ns:=by
 unfold dat;rw[List.map_map]
 exact List.map_id'' (λ_=>rfl) ns
theorem YJ{a:Option Addr}{n k:Nat}{ss:List ByteArray}{w:World}(h:Strs a n ss w)(hk:k<=n):Strs a k (ss.take k) w:=
 ⟨by rw[List.length_take,<-h.count];omega,λi hi=>by
  obtain⟨b,off,ha,hc⟩:=h.cell i (by omega)
  refine⟨b,off,ha, ?_⟩
  rw[hc]
  simp[List.getD,hi]⟩
def xS(l:List UInt8)(w:World)(e:Ending)(w':World):Prop:=e= .returned (.tuple #[.string (lstr (xw l).1),.string (lstr (xw l).2.1),.int .i64 (xw l).2.2])/\Below w.heap.size w w'
theorem uV{l:List UInt8}{w w':World}{r:List UInt8×List UInt8×Int}(h:xw l=r)(hb:Below w.heap.size w w'):xS l w (.returned (.tuple #[.string (lstr r.1),.string (lstr r.2.1),.int .i64 r.2.2])) w':=by
 unfold xS;rw[h];exact⟨rfl,hb⟩
theorem ZH(p:ByteArray)(w:World)(hp:p.size<=140737488355328):Calls prog 191 #[.string p] w (xS p.data.toList w):=by
 go_enter func191,ntmps191
 go_wp2_with fail
 refine(split_any p w hp).mono ?_
 rintro e w1 hX
 have HB:=hid hX.below
 cases hsp:Nm.split p.data.toList with
 |none=>
  obtain rfl:=hX.no hsp
  have HP:=hid (uV (l:=p.data.toList) (r:=([],[],14)) (by unfold xw;rw[hsp]) HB.out)
  clear hX hsp
  dsimp only
  go_wp2_with fail
  go_ret3
  exact HP.out
 | some ns=>
  obtain⟨ao,cap,rfl,hT⟩:=hX.yes ns hsp
  obtain⟨h8,hr⟩:=yh hsp
  clear hX
  rcases List.eq_nil_or_concat ns with rfl|⟨ms,x,rfl⟩
  ·have HP:=hid (uV (l:=p.data.toList) (r:=([],[],17)) (by unfold xw;rw[hsp];rfl) HB.out)
   clear hsp hT h8 hr
   dsimp only
   rw[show([]:List (List UInt8)).length=0 from rfl]
   go_wp2_with fail
   go_ret3
   exact HP.out
  ·rw[List.concat_eq_append]at*
   have hn:(ms++[x]).length=ms.length+1:=by simp
   have HP:=hid (λ(w':World) (hb:Below w.heap.size w w')=>uV (l:=p.data.toList) (r:=(Nm.pathOf ms,x,0)) (by
    unfold xw
    rw[hsp]
    show(if _ then _ else _)=_
    rw[if_neg (by simp),List.dropLast_concat,List.getLastD_concat]) hb)
   have hms:Nm.join ms=some (Nm.pathOf ms):=K9 (by omega) (by rw[List.all_append,Bool.and_eq_true]at hr;exact hr.1)
   have hS:=yA hT rfl
   rw[hn]at hT hS|-
   have hS2:=YJ hS (Nat.le_succ _)
   rw[List.map_append,List.take_append_of_le_length (by simp),List.take_of_length_le (by simp)]at hS2
   obtain⟨b,off,rfl,hc⟩:=hS.cell ms.length (by omega)
   rw[show((ms++[x]).map lstr).getD ms.length ByteArray.empty=lstr x from by simp[List.getD]]at hc
   have hcap:ms.length+1<=cap:=Zk hT
   have HJ:=hid (join_any (some ⟨b,off,none⟩) ms.length cap (ms.map lstr) w1 hS2 (by omega) (by omega) (λi hi=>by
    have hi2:i<ms.length:=by simpa using hi
    rw[List.getD,List.getElem?_map,List.getElem?_eq_getElem hi2]
    have hrm:ms.all Nm.right=true:=by rw[List.all_append,Bool.and_eq_true]at hr;exact hr.1
    have:=YX (List.all_eq_true.1 hrm _ (List.getElem_mem hi2))
    show(lstr ms[i]).size<=_
    rw[lstr_size];omega))
   rw[jf,Ug hms]at HJ
   dsimp only at HJ
   have hm8:(ms.length:Int)<=8:=by omega
   clear hsp hT hS hS2 h8 hr hms hn
   generalize Nm.pathOf ms=pp at HP HJ
   generalize ms.length=k at*
   dsimp only
   go_wp2_with fail
   refine HJ.out.mono ?_
   rintro e w2 ⟨rfl,hw2⟩
   have hc2:=(hw2.cell (p:=⟨b,off+k,none⟩) (block_lt_of_cell hc)).trans hc
   have HW2:=hid hw2
   clear HJ hc hw2
   dsimp only
   go_wp2_with fail
   go_quiet (fail)
   go_wp2_with fail
   go_ret3
   exact HP.out _ (xo (HB.out.trans (HW2.out.mono HB.out.size)))
end Go.Proofs.YtabmamofnhcgbaaGreatDoor
namespace Go.Proofs.YtabmamofnhcgbaaGreatDoor
open Go.RowKit Go.Less
attribute [local go_sem 9000] zg zf zz zA zB zC
theorem zd6(m:Int)(d t:ByteArray)(a:Option Addr)(n cap:Nat)(l:List En)(nm:ByteArray)(i:Int)(w:World)(hE:Ents a n l w)(hn:n<=100000)(hs: ∀j,j<n->(l.getD j z0).1.size<=100000)(hd:d.size<=100000)(ht:t.size<=100000)(hm:nm.size<=100000)
  (hr:Nm.right nm.data.toList=true) (hf:(Nd.find l nm).isSome=false) (h64: ¬ 64<=l.length) (h:Nd.place (xA nm) l<l.length):
  Calls prog 184 #[nv 2 m d t a n cap,.string nm,.int .i64 i] w (vp (Nd.withE less Nm.right ⟨2,m,d,t,l⟩ nm i) w):=by
 have HNL:=hid hE.count
 have HStart:=hid (kR w (.int .i64 2) (.int .i64 m) (.string d) (.string t) (.slice a n cap) nm)
 have HNr:=hid (λW=>xT nm W (by omega))
 rw[hr]at HNr
 have HCo:=hid (show∀W g g',g'=g->W.cell? ⟨g,0,none⟩=some (.string nm)->Below w.heap.size w W->Calls prog 188 #[.slice a n cap,.func (.func 198) #[] #[.pointer (some ⟨g',0,none⟩)]] W λe w'=>e= .returned (.bool (Nd.find l nm).isSome)/\Below W.heap.size W w' from λW g g' e hg hb=>by subst e;exact X5 a n cap l nm _ W (hE.below hb) (by omega) hg)
 rw[hf]at HCo
 have hR:=YD (m:=m) (d:=d) (t:=t) (i:=i) hr hf h64
 have h64i: ¬ (64:Int)<=(n:Int):=by have:=HNL.out;omega
 have HOw:=hid (λW (hb:Below w.heap.size w W)=>kG 2 m d t a n cap l W (hE.below hb) hn hs hd ht)
 have HIx:=hid (λW g (hg:W.cell? ⟨g,0,none⟩=some (.string nm)) (hb:Below w.heap.size w W)=>Y9 a n cap l nm g W (hE.below hb) (by omega) hg)
 have HCl:=hid (λW=>clone_any nm W (by omega))
 have HLl:=hid (show l.length<=100000 by omega)
 have hzl:=Nd.place_le (p:=xA nm) l
 clear hE hs hd ht hr hf h64
 rw[show ixz (xA nm) l=(Nd.place (xA nm) l:Int) by unfold ixz;rw[if_pos h]]at HIx
 have HZ:=hid hzl
 clear hzl h
 generalize Nd.place (xA nm) l=z at*
 obtain⟨L5,hL5⟩: ∃L5,L5=l.take z++(nm,i)::l.drop z:=⟨_,rfl⟩
 rw[<-hL5]at hR
 have HL5:=hid hL5
 have HR:=hid hR
 clear hL5 hR
 go_enter func184,ntmps184
 go_wp2_with fail
 refine(HNr.out _).mono ?_
 rintro e w1 ⟨rfl,hw1⟩
 have HA1:=hid (HStart.out.kept hw1)
 have HA:=hid (HA1.out.kept (Below.refl _ _).drew)
 clear hw1
 dsimp only
 go_wp2_with fail
 go_region_held3 (λW=>W.cell? ⟨w.heap.size,4,none⟩=some (.slice a n cap)/\W.cell? ⟨w.heap.size+1,0,none⟩=some (.string nm)/\BW w #[.int .i64 2,.int .i64 m,.string d,.string t,.slice a n cap] nm W)
  (first|exact HA.out.all|exact pB.out.all|exact pA.out.all|assumption)
  (first
   |(go_at_call 154;(with_reducible refine(xj nm _).mono ?_);rintro e wA ⟨rfl,hcA,hA⟩;have pA:=hid (BW.kept (uG (by assumption)) hA);clear hA)
   |(go_at_call 188;(with_reducible refine(HCo.out _ _ _ (by simp) hcA (BR.below (BW.br (uG (by assumption))))).mono ?_);rintro e wB ⟨rfl,hB⟩;have pB:=hid (BW.kept (uG (by assumption)) hB);clear hB))
 have xn:wB.cell? ⟨w.heap.size+1,0,none⟩=some (.string nm):=cell_obj pB.out.nmc 0
 go_wp2_with fail
 refine(HIx.out wB (w.heap.size+1) xn pB.out.br.below).mono ?_
 rintro e wC ⟨rfl,hwC⟩
 have HC:=hid (pB.out.kept hwC)
 have HOw1:=hid (HOw.out wC HC.out.br.below)
 have hRlt:=lt_of_obj HC.out.br.res
 clear hwC xn
 have hx:=HC.out.br.box
 have x0:=yl hx
 clear hx
 dsimp only
 go_wp2_with fail
 refine HOw1.out.mono ?_
 rintro e w2 ⟨ao,cp,rfl,hown,hw2⟩
 have HC2:=hid (HC.out.kept hw2)
 have HO3:=hid (yj hown (g:=w.heap.size) (by omega) (.int .i64 2) (.int .i64 m) (.string d) (.string t) (.slice ao l.length cp))
 have HC3:=hid (HC2.out.set5 (.int .i64 2) (.int .i64 m) (.string d) (.string t) (.slice ao l.length cp))
 have hsz2:=hw2.size
 clear hown hw2 x0 HOw1
 have hx:=HC2.out.br.box
 have x0:=yl hx
 have f0:=xp hx
 clear hx
 dsimp only
 go_wp2_with fail
 clear x0 f0 HC2
 have HW3:=hid (show wC.heap.size<=(((((w2.setCell ⟨w.heap.size,0,none⟩ (.int .i64 2)).setCell ⟨w.heap.size,1,none⟩ (.int .i64 m)).setCell ⟨w.heap.size,2,none⟩ (.string d)).setCell ⟨w.heap.size,3,none⟩ (.string t)).setCell ⟨w.heap.size,4,none⟩ (.slice ao l.length cp)).heap.size by simpa[World.setCell] using hsz2)
 generalize (((((w2.setCell ⟨w.heap.size,0,none⟩ (.int .i64 2)).setCell ⟨w.heap.size,1,none⟩ (.int .i64 m)).setCell ⟨w.heap.size,2,none⟩ (.string d)).setCell ⟨w.heap.size,3,none⟩ (.string t)).setCell ⟨w.heap.size,4,none⟩ (.slice ao l.length cp))=W3 at HO3 HC3 HW3|-
 have hx:=HC3.out.br.box
 have x0:=yl hx
 have xn:W3.cell? ⟨w.heap.size+1,0,none⟩=some (.string nm):=cell_obj HC3.out.nmc 0
 clear hx
 go_region_law (first
  |(go_simp;(with_reducible refine(HCl.out _).mono ?_);rintro e w3 ⟨rfl,hw3d⟩;have hw3:=below_drew hw3d;have HC4:=hid (HC3.out.kept hw3);have HO4:=hid (owned_below HO3.out hw3);have y4:w3.cell? ⟨w.heap.size,4,none⟩=some (.slice ao l.length cp):=cell_obj HC4.out.br.box 4;have y5:(w3.alloc (.cells #[.string nm,.int .i64 i] 132)).cell? ⟨w.heap.size,4,none⟩=some (.slice ao l.length cp):=cell_obj (HC4.out.kept (below_one w3 (oc (nm,i)))).br.box 4;have HW4:=hid (Nat.le_trans HW3.out hw3.size);clear hw3d)
  |(go_simp;(with_reducible refine(ZS wC.heap.size ao cp l z w3.heap.size (nm,i) _ (owned_below HO4.out (below_one w3 (oc (nm,i)))) (heap_alloc_new w3 _) (zcH HO4.out) HZ.out HLl.out (Nat.le_trans HW4.out (below_one w3 (oc (nm,i))).size)).mono ?_);rw[<-HL5.out];rintro e w5 ⟨ao5,cp5,rfl,hown5,hgr5⟩;have HC5:=hid ((HC4.out.kept (below_one w3 (oc (nm,i)))).grown hgr5 (λk hk=>Nat.le_trans hRlt (owns_lt HO4.out k hk)));have HO5:=hid hown5;have z4:w5.cell? ⟨w.heap.size,4,none⟩=some (.slice ao l.length cp):=cell_obj HC5.out.br.box 4;have g4:=free_obj HC5.out.br.box 4;clear hown5 hgr5))
 all_goals
  clear x0 xn y4 y5 z4 g4
  have HC6:=hid (HC5.out.set4 (.slice ao5 L5.length cp5))
  have hx:=HC5.out.br.box
  have x0:=yl hx
  clear hx
  have hr:=HC5.out.br.res
  have r0:=yl hr
  have q0:=xp hr
  clear hr
  go_wp2_with fail
  refine bodyPost_ret_by (zl rfl _ _ (w.heap.size+2) _ _ _ _ _ rfl (YtabmamofnhcgbaaGreatDoor.set5 _ _ _ _ _ HC6.out.br.res)) rfl ?_
  unfold vp
  rw[HR.out]
  exact⟨ao5,cp5,rfl,xy (yj (yp HO5.out (by omega) 4 _) (by omega) _ _ _ _ _),zI HC6.out.br.below (by omega) _ _ _ _ _⟩
theorem zd7(m:Int)(d t:ByteArray)(a:Option Addr)(n cap:Nat)(l:List En)(nm:ByteArray)(i:Int)(w:World)(hE:Ents a n l w)(hn:n<=100000)(hs: ∀j,j<n->(l.getD j z0).1.size<=100000)(hd:d.size<=100000)(ht:t.size<=100000)(hm:nm.size<=100000)
  (hr:Nm.right nm.data.toList=true) (hf:(Nd.find l nm).isSome=false) (h64: ¬ 64<=l.length) (h: ¬ Nd.place (xA nm) l<l.length):
  Calls prog 184 #[nv 2 m d t a n cap,.string nm,.int .i64 i] w (vp (Nd.withE less Nm.right ⟨2,m,d,t,l⟩ nm i) w):=by
 have HNL:=hid hE.count
 have HStart:=hid (kR w (.int .i64 2) (.int .i64 m) (.string d) (.string t) (.slice a n cap) nm)
 have HNr:=hid (λW=>xT nm W (by omega))
 rw[hr]at HNr
 have HCo:=hid (show∀W g g',g'=g->W.cell? ⟨g,0,none⟩=some (.string nm)->Below w.heap.size w W->Calls prog 188 #[.slice a n cap,.func (.func 198) #[] #[.pointer (some ⟨g',0,none⟩)]] W λe w'=>e= .returned (.bool (Nd.find l nm).isSome)/\Below W.heap.size W w' from λW g g' e hg hb=>by subst e;exact X5 a n cap l nm _ W (hE.below hb) (by omega) hg)
 rw[hf]at HCo
 have hR:=YD (m:=m) (d:=d) (t:=t) (i:=i) hr hf h64
 have h64i: ¬ (64:Int)<=(n:Int):=by have:=HNL.out;omega
 have HOw:=hid (λW (hb:Below w.heap.size w W)=>kG 2 m d t a n cap l W (hE.below hb) hn hs hd ht)
 have HIx:=hid (λW g (hg:W.cell? ⟨g,0,none⟩=some (.string nm)) (hb:Below w.heap.size w W)=>Y9 a n cap l nm g W (hE.below hb) (by omega) hg)
 have HCl:=hid (λW=>clone_any nm W (by omega))
 have HLl:=hid (show l.length<=100000 by omega)
 have hzl:=Nd.place_le (p:=xA nm) l
 clear hE hs hd ht hr hf h64
 rw[show ixz (xA nm) l= -1 by unfold ixz;rw[if_neg h]]at HIx
 have hp:Nd.place (xA nm) l=n:=by have:=HNL.out;omega
 rw[hp]at hR
 have HZ:=hid (show n<=l.length from Nat.le_of_eq HNL.out)
 clear hzl h hp
 obtain⟨L5,hL5⟩: ∃L5,L5=l.take n++(nm,i)::l.drop n:=⟨_,rfl⟩
 rw[<-hL5]at hR
 have HL5:=hid hL5
 have HR:=hid hR
 clear hL5 hR
 go_enter func184,ntmps184
 go_wp2_with fail
 refine(HNr.out _).mono ?_
 rintro e w1 ⟨rfl,hw1⟩
 have HA1:=hid (HStart.out.kept hw1)
 have HA:=hid (HA1.out.kept (Below.refl _ _).drew)
 clear hw1
 dsimp only
 go_wp2_with fail
 go_region_held3 (λW=>W.cell? ⟨w.heap.size,4,none⟩=some (.slice a n cap)/\W.cell? ⟨w.heap.size+1,0,none⟩=some (.string nm)/\BW w #[.int .i64 2,.int .i64 m,.string d,.string t,.slice a n cap] nm W)
  (first|exact HA.out.all|exact pB.out.all|exact pA.out.all|assumption)
  (first
   |(go_at_call 154;(with_reducible refine(xj nm _).mono ?_);rintro e wA ⟨rfl,hcA,hA⟩;have pA:=hid (BW.kept (uG (by assumption)) hA);clear hA)
   |(go_at_call 188;(with_reducible refine(HCo.out _ _ _ (by simp) hcA (BR.below (BW.br (uG (by assumption))))).mono ?_);rintro e wB ⟨rfl,hB⟩;have pB:=hid (BW.kept (uG (by assumption)) hB);clear hB))
 have xn:wB.cell? ⟨w.heap.size+1,0,none⟩=some (.string nm):=cell_obj pB.out.nmc 0
 go_wp2_with fail
 refine(HIx.out wB (w.heap.size+1) xn pB.out.br.below).mono ?_
 rintro e wC ⟨rfl,hwC⟩
 have HC:=hid (pB.out.kept hwC)
 have HOw1:=hid (HOw.out wC HC.out.br.below)
 have hRlt:=lt_of_obj HC.out.br.res
 clear hwC xn
 have hx:=HC.out.br.box
 have x0:=yl hx
 clear hx
 dsimp only
 go_wp2_with fail
 refine HOw1.out.mono ?_
 rintro e w2 ⟨ao,cp,rfl,hown,hw2⟩
 have HC2:=hid (HC.out.kept hw2)
 have HO3:=hid (yj hown (g:=w.heap.size) (by omega) (.int .i64 2) (.int .i64 m) (.string d) (.string t) (.slice ao l.length cp))
 have HC3:=hid (HC2.out.set5 (.int .i64 2) (.int .i64 m) (.string d) (.string t) (.slice ao l.length cp))
 have hsz2:=hw2.size
 clear hown hw2 x0 HOw1
 have hx:=HC2.out.br.box
 have x0:=yl hx
 have f0:=xp hx
 clear hx
 dsimp only
 go_wp2_with fail
 clear x0 f0 HC2
 have HW3:=hid (show wC.heap.size<=(((((w2.setCell ⟨w.heap.size,0,none⟩ (.int .i64 2)).setCell ⟨w.heap.size,1,none⟩ (.int .i64 m)).setCell ⟨w.heap.size,2,none⟩ (.string d)).setCell ⟨w.heap.size,3,none⟩ (.string t)).setCell ⟨w.heap.size,4,none⟩ (.slice ao l.length cp)).heap.size by simpa[World.setCell] using hsz2)
 generalize (((((w2.setCell ⟨w.heap.size,0,none⟩ (.int .i64 2)).setCell ⟨w.heap.size,1,none⟩ (.int .i64 m)).setCell ⟨w.heap.size,2,none⟩ (.string d)).setCell ⟨w.heap.size,3,none⟩ (.string t)).setCell ⟨w.heap.size,4,none⟩ (.slice ao l.length cp))=W3 at HO3 HC3 HW3|-
 have hx:=HC3.out.br.box
 have x0:=yl hx
 have xn:W3.cell? ⟨w.heap.size+1,0,none⟩=some (.string nm):=cell_obj HC3.out.nmc 0
 clear hx
 go_region_law (first
  |(go_simp;(with_reducible refine(HCl.out _).mono ?_);rintro e w3 ⟨rfl,hw3d⟩;have hw3:=below_drew hw3d;have HC4:=hid (HC3.out.kept hw3);have HO4:=hid (owned_below HO3.out hw3);have y4:w3.cell? ⟨w.heap.size,4,none⟩=some (.slice ao l.length cp):=cell_obj HC4.out.br.box 4;have y5:(w3.alloc (.cells #[.string nm,.int .i64 i] 132)).cell? ⟨w.heap.size,4,none⟩=some (.slice ao l.length cp):=cell_obj (HC4.out.kept (below_one w3 (oc (nm,i)))).br.box 4;have HW4:=hid (Nat.le_trans HW3.out hw3.size);clear hw3d)
  |(go_simp;(with_reducible refine(ZS wC.heap.size ao cp l n w3.heap.size (nm,i) _ (owned_below HO4.out (below_one w3 (oc (nm,i)))) (heap_alloc_new w3 _) (zcH HO4.out) HZ.out HLl.out (Nat.le_trans HW4.out (below_one w3 (oc (nm,i))).size)).mono ?_);rw[<-HL5.out];rintro e w5 ⟨ao5,cp5,rfl,hown5,hgr5⟩;have HC5:=hid ((HC4.out.kept (below_one w3 (oc (nm,i)))).grown hgr5 (λk hk=>Nat.le_trans hRlt (owns_lt HO4.out k hk)));have HO5:=hid hown5;have z4:w5.cell? ⟨w.heap.size,4,none⟩=some (.slice ao l.length cp):=cell_obj HC5.out.br.box 4;have g4:=free_obj HC5.out.br.box 4;clear hown5 hgr5))
 all_goals
  clear x0 xn y4 y5 z4 g4
  have HC6:=hid (HC5.out.set4 (.slice ao5 L5.length cp5))
  have hx:=HC5.out.br.box
  have x0:=yl hx
  clear hx
  have hr:=HC5.out.br.res
  have r0:=yl hr
  have q0:=xp hr
  clear hr
  go_wp2_with fail
  refine bodyPost_ret_by (zl rfl _ _ (w.heap.size+2) _ _ _ _ _ rfl (YtabmamofnhcgbaaGreatDoor.set5 _ _ _ _ _ HC6.out.br.res)) rfl ?_
  unfold vp
  rw[HR.out]
  exact⟨ao5,cp5,rfl,xy (yj (yp HO5.out (by omega) 4 _) (by omega) _ _ _ _ _),zI HC6.out.br.below (by omega) _ _ _ _ _⟩
theorem zbv(k m:Int)(d t:ByteArray)(a:Option Addr)(n cap:Nat)(l:List En)(nm:ByteArray)(i:Int)(w:World)(hE:Ents a n l w)(hn:n<=100000)(hs: ∀j,j<n->(l.getD j z0).1.size<=100000)(hd:d.size<=100000)(ht:t.size<=100000)(hm:nm.size<=100000):
  Calls prog 184 #[nv k m d t a n cap,.string nm,.int .i64 i] w (vp (Nd.withE less Nm.right ⟨k,m,d,t,l⟩ nm i) w):=by
 have HNL:=hid hE.count
 by_cases e1: ¬ k=2
 ·have HR:=hid (show Nd.withE less Nm.right ⟨k,m,d,t,l⟩ nm i=(Nd.none0,10) by unfold Nd.withE;rw[if_pos e1])
  have HStart:=hid (kR w (.int .i64 k) (.int .i64 m) (.string d) (.string t) (.slice a n cap) nm)
  clear hE hs hd ht
  go_enter func184,ntmps184
  go_wp2_with fail
  refine bodyPost_ret_by (zl rfl _ _ (w.heap.size+2) _ _ _ _ _ rfl (HStart.out.br.res)) rfl ⟨none,0,by rw[HR.out];rfl,by rw[HR.out];exact zs _,HStart.out.br.below⟩
 obtain rfl:=Decidable.not_not.1 e1
 clear e1
 have HStart:=hid (kR w (.int .i64 2) (.int .i64 m) (.string d) (.string t) (.slice a n cap) nm)
 have HNr:=hid (λW=>xT nm W (by omega))
 cases hr:Nm.right nm.data.toList
 ·rw[hr]at HNr
  have HR:=hid (U0 (m:=m) (d:=d) (t:=t) (l:=l) (i:=i) hr)
  clear hE hs hd ht hr
  go_enter func184,ntmps184
  go_wp2_with fail
  refine(HNr.out _).mono ?_
  rintro e w1 ⟨rfl,hw1⟩
  have HA1:=hid (HStart.out.kept hw1)
  clear hw1
  dsimp only
  have hr:=HA1.out.br.res
  have r0:=yl hr
  have q0:=xp hr
  clear hr
  go_wp2_with fail
  refine bodyPost_ret_by (zl rfl _ _ (w.heap.size+2) _ _ _ _ _ rfl (YtabmamofnhcgbaaGreatDoor.set5 _ _ _ _ _ HA1.out.br.res)) rfl ⟨none,0,by rw[HR.out];rfl,by rw[HR.out];exact zs _,zI HA1.out.br.below (by omega) _ _ _ _ _⟩
 rw[hr]at HNr
 have HCo:=hid (show∀W g g',g'=g->W.cell? ⟨g,0,none⟩=some (.string nm)->Below w.heap.size w W->Calls prog 188 #[.slice a n cap,.func (.func 198) #[] #[.pointer (some ⟨g',0,none⟩)]] W λe w'=>e= .returned (.bool (Nd.find l nm).isSome)/\Below W.heap.size W w' from λW g g' e hg hb=>by subst e;exact X5 a n cap l nm _ W (hE.below hb) (by omega) hg)
 cases hf:(Nd.find l nm).isSome
 case true=>
  rw[hf]at HCo
  have HR:=hid (Vg (m:=m) (d:=d) (t:=t) (i:=i) hr hf)
  clear hE hs hd ht hr hf
  go_enter func184,ntmps184
  go_wp2_with fail
  refine(HNr.out _).mono ?_
  rintro e w1 ⟨rfl,hw1⟩
  have HA1:=hid (HStart.out.kept hw1)
  have HA:=hid (HA1.out.kept (Below.refl _ _).drew)
  clear hw1
  dsimp only
  go_wp2_with fail
  go_region_held3 (λW=>W.cell? ⟨w.heap.size,4,none⟩=some (.slice a n cap)/\W.cell? ⟨w.heap.size+1,0,none⟩=some (.string nm)/\BW w #[.int .i64 2,.int .i64 m,.string d,.string t,.slice a n cap] nm W)
   (first|exact HA.out.all|exact pB.out.all|exact pA.out.all|assumption)
   (first
    |(go_at_call 154;(with_reducible refine(xj nm _).mono ?_);rintro e wA ⟨rfl,hcA,hA⟩;have pA:=hid (BW.kept (uG (by assumption)) hA);clear hA)
    |(go_at_call 188;(with_reducible refine(HCo.out _ _ _ (by simp) hcA (BR.below (BW.br (uG (by assumption))))).mono ?_);rintro e wB ⟨rfl,hB⟩;have pB:=hid (BW.kept (uG (by assumption)) hB);clear hB))
  have hr:=pB.out.br.res
  have r0:=yl hr
  have q0:=xp hr
  clear hr
  go_wp2_with fail
  refine bodyPost_ret_by (zl rfl _ _ (w.heap.size+2) _ _ _ _ _ rfl (YtabmamofnhcgbaaGreatDoor.set5 _ _ _ _ _ pB.out.br.res)) rfl ⟨none,0,by rw[HR.out];rfl,by rw[HR.out];exact zs _,zI pB.out.br.below (by omega) _ _ _ _ _⟩
 rw[hf]at HCo
 by_cases h64:64<=l.length
 ·have HR:=hid (U1 (m:=m) (d:=d) (t:=t) (i:=i) hr hf h64)
  have h64i:(64:Int)<=(n:Int):=by have:=HNL.out;omega
  clear hE hs hd ht hr hf h64
  go_enter func184,ntmps184
  go_wp2_with fail
  refine(HNr.out _).mono ?_
  rintro e w1 ⟨rfl,hw1⟩
  have HA1:=hid (HStart.out.kept hw1)
  have HA:=hid (HA1.out.kept (Below.refl _ _).drew)
  clear hw1
  dsimp only
  go_wp2_with fail
  go_region_held3 (λW=>W.cell? ⟨w.heap.size,4,none⟩=some (.slice a n cap)/\W.cell? ⟨w.heap.size+1,0,none⟩=some (.string nm)/\BW w #[.int .i64 2,.int .i64 m,.string d,.string t,.slice a n cap] nm W)
   (first|exact HA.out.all|exact pB.out.all|exact pA.out.all|assumption)
   (first
    |(go_at_call 154;(with_reducible refine(xj nm _).mono ?_);rintro e wA ⟨rfl,hcA,hA⟩;have pA:=hid (BW.kept (uG (by assumption)) hA);clear hA)
    |(go_at_call 188;(with_reducible refine(HCo.out _ _ _ (by simp) hcA (BR.below (BW.br (uG (by assumption))))).mono ?_);rintro e wB ⟨rfl,hB⟩;have pB:=hid (BW.kept (uG (by assumption)) hB);clear hB))
  have hr:=pB.out.br.res
  have r0:=yl hr
  have q0:=xp hr
  clear hr
  go_wp2_with fail
  refine bodyPost_ret_by (zl rfl _ _ (w.heap.size+2) _ _ _ _ _ rfl (YtabmamofnhcgbaaGreatDoor.set5 _ _ _ _ _ pB.out.br.res)) rfl ⟨none,0,by rw[HR.out];rfl,by rw[HR.out];exact zs _,zI pB.out.br.below (by omega) _ _ _ _ _⟩
 by_cases h:Nd.place (xA nm) l<l.length
 ·exact zd6 m d t a n cap l nm i w hE hn hs hd ht hm hr hf h64 h
 ·exact zd7 m d t a n cap l nm i w hE hn hs hd ht hm hr hf h64 h
end Go.Proofs.YtabmamofnhcgbaaGreatDoor
namespace Go.Proofs.YtabmamofnhcgbaaGreatDoor
open Go.RowKit Go.Less
theorem Zt(k m:Int)(d t:ByteArray)(l:List En):ua k m d t l k m d t l=true:=by
 unfold ua;simp[alike_eq]
theorem ndr_right{k m:Int}{d t:ByteArray}{l:List En}:ndr k m d t l=true↔Nd.Right less Nm.right ⟨k,m,d,t,l⟩:=Nd.right_iff _
theorem XJ{s:List UInt8}{x:Nd.Node}(h:zO s=(x,0)):Nd.Right less Nm.right x/\Nd.text x=s:=by
 unfold zO at h
 cases hp:Nd.parse less Nm.right s with
 |none=>rw[hp]at h;injection h with _ h;cases h
 |some y=>
  rw[hp]at h
  injection h with h _
  subst h
  exact⟨(Nd.text_parse hp).2,(Nd.text_parse hp).1⟩
section
variable {k m : Int} {d t : ByteArray} {a : Option Addr} {n c : Nat} {l : List En} {k' m' : Int} {d' t' : ByteArray} {a' : Option Addr} {n' c' : Nat} {l' : List En} {nm : ByteArray} {i : Int} {b : Bool} {r : Int}
theorem zer(W:World)(hE:Ents a n l W)(S:Small d t n l){u:ByteArray}(h:prt ⟨k,m,d,t,l⟩=(u,r)):
  Calls prog 89 #[nv k m d t a n c] W λe w'=>e= .returned (.tuple #[.string u,.int .i64 r])/\Below W.heap.size W w':=by
 have H:=Q9 k m d t a n c l W hE (Nat.le_trans S.n80 (by decide)) (S.at hE.count)
 unfold yU at H;rw[h]at H;exact H
theorem q_with(W:World)(hE:Ents a n l W)(S:Small d t n l)(hm:nm.size<=100000)(h:Nd.withE less Nm.right ⟨k,m,d,t,l⟩ nm i=(⟨k',m',d',t',l'⟩,r))(hn:l'.length=n'):
  Calls prog 184 #[nv k m d t a n c,.string nm,.int .i64 i] W λe w'=> ∃a c,e= .returned (.tuple #[nv k' m' d' t' a n' c,.int .i64 r])/\Ents a n' l' w'/\Below W.heap.size W w':=by
 have H:=zbv k m d t a n c l nm i W hE (Nat.le_trans S.n80 (by decide)) (S.at hE.count) (Nat.le_trans S.d5 (by decide)) (Nat.le_trans S.t5 (by decide)) hm
 unfold vp at H;rw[h]at H;subst hn;exact H
theorem q_wout(W:World)(hE:Ents a n l W)(S:Small d t n l)(h:Nd.withoutE ⟨k,m,d,t,l⟩ nm=(⟨k',m',d',t',l'⟩,r))(hn:l'.length=n'):
  Calls prog 185 #[nv k m d t a n c,.string nm] W λe w'=> ∃a c,e= .returned (.tuple #[nv k' m' d' t' a n' c,.int .i64 r])/\Ents a n' l' w'/\Below W.heap.size W w':=by
 have H:=Vd k m d t a n c l nm W hE (Nat.le_trans S.n80 (by decide)) (S.at hE.count) (Nat.le_trans S.d5 (by decide)) (Nat.le_trans S.t5 (by decide))
 unfold vp at H;rw[h]at H;subst hn;exact H
theorem q_node(W:World)(hE:Ents a n l W)(S:Small d t n l)(h:ndr k m d t l=b):
  Calls prog 131 #[nv k m d t a n c] W λe w'=>e= .returned (.bool b)/\Below W.heap.size W w':=
 h▸uY k m d t a n c l W hE (Nat.le_trans S.n80 (by decide)) (S.at hE.count)
theorem KX(W:World)(hE:Ents a n l W)(hE':Ents a' n' l' W)(hn:n<=80)(hn':n'<=80)(h:ua k m d t l k' m' d' t' l'=b):
  Calls prog 22 #[nv k m d t a n c,nv k' m' d' t' a' n' c'] W λe w'=>e= .returned (.bool b)/\Below W.heap.size W w':=
 h▸VD k m d t a n c l k' m' d' t' a' n' c' l' W hE hE' (Nat.le_trans hn (by decide)) (Nat.le_trans hn' (by decide))
end
end Go.Proofs.YtabmamofnhcgbaaGreatDoor
namespace Go.Proofs.YtabmamofnhcgbaaGreatDoor
open Go.RowKit Go.Less
open T8 (pv Dg)
attribute [local go_sem 9000] zg zf
def Qq(r:Except Int (Int×ByteArray))(l:List Fs.Item)(w:World)(e:Ending)(w':World):Prop:=Below w.heap.size w w'/\match r with
 | .error c=>c≠0/\e= .returned (.tuple #[.agg #[.int .i64 0,.int .i64 0,.int .i64 0,.string ⟨#[]⟩,.string ⟨#[]⟩,.slice none 0 0,.string ⟨#[]⟩],.int .i64 c])
 | .ok (d,n)=> ∃a c,e= .returned (.tuple #[.agg #[.int .i64 d,.int .i64 (Fs.nodeD l d).kind,.int .i64 (Fs.nodeD l d).mode,.string (Fs.nodeD l d).data,.string (Fs.nodeD l d).target,.slice a (Fs.nodeD l d).ents.length c,.string n],.int .i64 0])/\Ents a (Fs.nodeD l d).ents.length (Fs.nodeD l d).ents w'
theorem yH(l:List Fs.Item)(p:ByteArray):(∃e,e≠0/\zF l p=(0,Nd.none0,e))\/ ∃ns i,spl p=some ns/\Fs.walk l 1 ns= .ok i/\zF l p=(i,Fs.nodeD l i,0):=by
 cases hs:spl p with
 |none=>exact .inl ⟨14,by decide,by unfold zF;rw[hs]⟩
 | some ns=>
  have e1:zF l p=match Fs.walk l 1 ns with
   | .error e=>(0,Nd.none0,e)
   | .ok i=>(i,Fs.nodeD l i,0):=by unfold zF;rw[hs];rfl
  rcases vu l ns 1 with ⟨i,hw⟩|hw|hw
  ·exact .inr ⟨ns,i,rfl,hw,by rw[e1,hw]⟩
  ·exact .inl ⟨10,by decide,by rw[e1,hw]⟩
  ·exact .inl ⟨4,by decide,by rw[e1,hw]⟩
theorem qo(m:Option Nat)(nx:Int)(l:List Fs.Item)(p:ByteArray)(w:World)(h:Sv w m l)(hp:p.size<=140737488355328)(hkd: ∀i x,zF l p=(i,x,0)->x.kind=1\/x.kind=2\/x.kind=3):Calls prog 65 #[stv m nx,.string p] w (zU (zu l p) w):=by
 have HF:=hid (λW (hb:Below w.heap.size w W)=>xh m nx l p W (h.below hb) hp)
 clear h
 rcases yH l p with ⟨ec,hne,hf⟩|⟨ns,i,hsp,hw,hf⟩
 ·have HR:=hid (show zu l p=(0,Nd.none0,ec) by unfold zu;rw[hf,if_pos hne])
  rw[hf]at HF
  clear hf hkd
  have HB:=hid (show Bxs w [(w.heap.size,#[pv m,.int .i64 nx],98),(w.heap.size+1,#[.int .i64 0,.int .i64 0,.string ⟨#[]⟩,.string ⟨#[]⟩,.slice none 0 0],43)] ((w.alloc (.cells #[pv m,.int .i64 nx] 98)).alloc (.cells #[.int .i64 0,.int .i64 0,.string ⟨#[]⟩,.string ⟨#[]⟩,.slice none 0 0] 43))from Bxs.two w _ _ _ _)
  go_enter func65,ntmps65
  go_wp2_with fail
  generalize (w.alloc (.cells #[pv m,.int .i64 nx] 98)).alloc (.cells #[.int .i64 0,.int .i64 0,.string ⟨#[]⟩,.string ⟨#[]⟩,.slice none 0 0] 43)=W0 at HB|-
  go_wp2_with fail
  refine(HF.out W0 HB.out.below).mono ?_
  rintro e w1 ⟨ea,eb,rfl,hE,hb⟩
  clear hE
  have HB:=hid (HB.out.kept hb)
  have HB:=hid (HB.out.more #[.int .i64 0,.int .i64 0,.string ⟨#[]⟩,.string ⟨#[]⟩,.slice ea 0 eb] 43 rfl)
  dsimp only
  go_wp2_with (first|(refine zb HB.out 1 rfl 43 _ _ rfl rfl #[.int .i64 0,.int .i64 0,.string ⟨#[]⟩,.string ⟨#[]⟩,.slice none 0 0] rfl rfl (by kernel_rfl) rfl rfl (by decide) (by decide) ?_;intro w2 hS hK hbS hsS;have HBS:=hid hS;clear hS hK hbS hsS;have HB:=HBS;clear HBS)|fail)
  refine bodyPost_ret_by (zE rfl _ _ (w.heap.size+1) _ _ _ _ _ rfl (HB.out.obj 1 rfl)) rfl ?_
  exact xR ec HB.out.below HR.out
 ·have hkd:=hkd i (Fs.nodeD l i) hf
  clear hsp hw
  generalize Fs.nodeD l i=x at*
  obtain⟨k,mo,d,t,es⟩:=x
  have HFx:=HF.out
  rw[hf]at HFx
  dsimp only at hkd
  have HF:=hid hf
  have HFo:=hid (show∀W,Below w.heap.size w W->Calls prog 62 #[stv m nx,.string p] W (zU (i,(⟨k,mo,d,t,es⟩:Nd.Node),0) W)from HFx)
  clear hf
  clear HFx
  rcases hkd with rfl|rfl|rfl
  ·have HR:=hid (show zu l p=(i,⟨1,mo,d,t,es⟩,0) by unfold zu;rw[HF.out];rfl)
   have HB:=hid (show Bxs w [(w.heap.size,#[pv m,.int .i64 nx],98),(w.heap.size+1,#[.int .i64 0,.int .i64 0,.string ⟨#[]⟩,.string ⟨#[]⟩,.slice none 0 0],43)] ((w.alloc (.cells #[pv m,.int .i64 nx] 98)).alloc (.cells #[.int .i64 0,.int .i64 0,.string ⟨#[]⟩,.string ⟨#[]⟩,.slice none 0 0] 43))from Bxs.two w _ _ _ _)
   go_enter func65,ntmps65
   go_wp2_with fail
   generalize (w.alloc (.cells #[pv m,.int .i64 nx] 98)).alloc (.cells #[.int .i64 0,.int .i64 0,.string ⟨#[]⟩,.string ⟨#[]⟩,.slice none 0 0] 43)=W0 at HB|-
   go_wp2_with fail
   refine(HFo.out W0 HB.out.below).mono ?_
   rintro e w1 ⟨a,c,rfl,hE,hb⟩
   have HEn:=hid (hE.below (below_one w1 (.cells #[.int .i64 1,.int .i64 mo,.string d,.string t,.slice a es.length c] 43)))
   clear hE
   have HB:=hid (HB.out.kept hb)
   have HB:=hid (HB.out.more #[.int .i64 1,.int .i64 mo,.string d,.string t,.slice a es.length c] 43 rfl)
   have b1:=HB.out.c5 1 rfl
   dsimp only
   have q1_0:(w1.alloc (.cells #[.int .i64 1,.int .i64 mo,.string d,.string t,.slice a es.length c] 43)).frozen? ⟨w.heap.size+1,0,none⟩=false:=HB.out.free 1 rfl 0
   have q1_1:(w1.alloc (.cells #[.int .i64 1,.int .i64 mo,.string d,.string t,.slice a es.length c] 43)).frozen? ⟨w.heap.size+1,1,none⟩=false:=HB.out.free 1 rfl 1
   have q1_2:(w1.alloc (.cells #[.int .i64 1,.int .i64 mo,.string d,.string t,.slice a es.length c] 43)).frozen? ⟨w.heap.size+1,2,none⟩=false:=HB.out.free 1 rfl 2
   have q1_3:(w1.alloc (.cells #[.int .i64 1,.int .i64 mo,.string d,.string t,.slice a es.length c] 43)).frozen? ⟨w.heap.size+1,3,none⟩=false:=HB.out.free 1 rfl 3
   have q1_4:(w1.alloc (.cells #[.int .i64 1,.int .i64 mo,.string d,.string t,.slice a es.length c] 43)).frozen? ⟨w.heap.size+1,4,none⟩=false:=HB.out.free 1 rfl 4
   go_wp2_with fail
   generalize w1.alloc (.cells #[.int .i64 1,.int .i64 mo,.string d,.string t,.slice a es.length c] 43)=W3 at*
   generalize w1.heap.size=pX at*
   have x0:W3.cell? ⟨pX,0,none⟩=some (.int .i64 1):=HB.out.cell 2 rfl 0
   have x1:W3.cell? ⟨pX,1,none⟩=some (.int .i64 mo):=HB.out.cell 2 rfl 1
   have x2:W3.cell? ⟨pX,2,none⟩=some (.string d):=HB.out.cell 2 rfl 2
   have x3:W3.cell? ⟨pX,3,none⟩=some (.string t):=HB.out.cell 2 rfl 3
   have x4:W3.cell? ⟨pX,4,none⟩=some (.slice a es.length c):=HB.out.cell 2 rfl 4
   go_region_law fail
   all_goals
    have HBf:=hid (HB.out.put5 1 rfl (.int .i64 1) (.int .i64 mo) (.string d) (.string t) (.slice a es.length c))
    have HEf:=hid (uj HEn.out (HB.out.obj 1 rfl) (.int .i64 1) (.int .i64 mo) (.string d) (.string t) (.slice a es.length c))
    go_wp2_with fail
    refine bodyPost_ret_by (zE rfl _ _ (w.heap.size+1) _ _ _ _ _ rfl (HBf.out.obj 1 rfl)) rfl ?_
    rw[HR.out]
    exact⟨a,c,rfl,HEf.out.below (Below.refl _ _).drew,HBf.out.below.drew⟩
  ·have HR:=hid (show zu l p=(0,Nd.none0,11) by unfold zu;rw[HF.out];rfl)
   have HB:=hid (show Bxs w [(w.heap.size,#[pv m,.int .i64 nx],98),(w.heap.size+1,#[.int .i64 0,.int .i64 0,.string ⟨#[]⟩,.string ⟨#[]⟩,.slice none 0 0],43)] ((w.alloc (.cells #[pv m,.int .i64 nx] 98)).alloc (.cells #[.int .i64 0,.int .i64 0,.string ⟨#[]⟩,.string ⟨#[]⟩,.slice none 0 0] 43))from Bxs.two w _ _ _ _)
   go_enter func65,ntmps65
   go_wp2_with fail
   generalize (w.alloc (.cells #[pv m,.int .i64 nx] 98)).alloc (.cells #[.int .i64 0,.int .i64 0,.string ⟨#[]⟩,.string ⟨#[]⟩,.slice none 0 0] 43)=W0 at HB|-
   go_wp2_with fail
   refine(HFo.out W0 HB.out.below).mono ?_
   rintro e w1 ⟨a,c,rfl,hE,hb⟩
   clear hE
   have HB:=hid (HB.out.kept hb)
   have HB:=hid (HB.out.more #[.int .i64 2,.int .i64 mo,.string d,.string t,.slice a es.length c] 43 rfl)
   dsimp only
   go_wp2_with (first|(refine zb HB.out 1 rfl 43 _ _ rfl rfl #[.int .i64 0,.int .i64 0,.string ⟨#[]⟩,.string ⟨#[]⟩,.slice none 0 0] rfl rfl (by kernel_rfl) rfl rfl (by decide) (by decide) ?_;intro w2 hS hK hbS hsS;have HBS:=hid hS;clear hS hK hbS hsS;have HB:=HBS;clear HBS)|fail)
   refine bodyPost_ret_by (zE rfl _ _ (w.heap.size+1) _ _ _ _ _ rfl (HB.out.obj 1 rfl)) rfl ?_
   exact xR 11 HB.out.below HR.out
  ·have HR:=hid (show zu l p=(0,Nd.none0,16) by unfold zu;rw[HF.out];rfl)
   have HB:=hid (show Bxs w [(w.heap.size,#[pv m,.int .i64 nx],98),(w.heap.size+1,#[.int .i64 0,.int .i64 0,.string ⟨#[]⟩,.string ⟨#[]⟩,.slice none 0 0],43)] ((w.alloc (.cells #[pv m,.int .i64 nx] 98)).alloc (.cells #[.int .i64 0,.int .i64 0,.string ⟨#[]⟩,.string ⟨#[]⟩,.slice none 0 0] 43))from Bxs.two w _ _ _ _)
   go_enter func65,ntmps65
   go_wp2_with fail
   generalize (w.alloc (.cells #[pv m,.int .i64 nx] 98)).alloc (.cells #[.int .i64 0,.int .i64 0,.string ⟨#[]⟩,.string ⟨#[]⟩,.slice none 0 0] 43)=W0 at HB|-
   go_wp2_with fail
   refine(HFo.out W0 HB.out.below).mono ?_
   rintro e w1 ⟨a,c,rfl,hE,hb⟩
   clear hE
   have HB:=hid (HB.out.kept hb)
   have HB:=hid (HB.out.more #[.int .i64 3,.int .i64 mo,.string d,.string t,.slice a es.length c] 43 rfl)
   dsimp only
   go_wp2_with (first|(refine zb HB.out 1 rfl 43 _ _ rfl rfl #[.int .i64 0,.int .i64 0,.string ⟨#[]⟩,.string ⟨#[]⟩,.slice none 0 0] rfl rfl (by kernel_rfl) rfl rfl (by decide) (by decide) ?_;intro w2 hS hK hbS hsS;have HBS:=hid hS;clear hS hK hbS hsS;have HB:=HBS;clear HBS)|fail)
   refine bodyPost_ret_by (zE rfl _ _ (w.heap.size+1) _ _ _ _ _ rfl (HB.out.obj 1 rfl)) rfl ?_
   exact xR 16 HB.out.below HR.out
end Go.Proofs.YtabmamofnhcgbaaGreatDoor
