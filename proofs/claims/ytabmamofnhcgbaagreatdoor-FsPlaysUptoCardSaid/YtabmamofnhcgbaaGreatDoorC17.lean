/- A part of the proofs. -/
import Derived.Test.YtabmamofnhcgbaaGreatDoorC16
set_option maxRecDepth 1000000
set_option maxHeartbeats 16000000
open Go.Lib (hid)
open Go.Proofs.Tryz
namespace Go.Proofs.YtabmamofnhcgbaaGreatDoor
open Go.RowKit Go.Less
open T8 (pv Dg)
attribute [local go_sem 9000] zg zf
theorem vx{p:ByteArray}{ns:List ByteArray}(h:spl p=some ns): ∀n∈ns,env.nm (Nd.bs n)=true:=by
 obtain⟨us,hus,rfl⟩:=xU h
 have hr:=(yh hus).2
 intro n hn
 obtain⟨u,hu,rfl⟩:=List.mem_map.1 hn
 exact List.all_eq_true.1 hr u hu
theorem uA{l l2:List Fs.Item}{ns:List ByteArray}(h:Fs.leaveP l ns= .ok l2)(hl:l.length<=900):l2.length<=900:=by
 unfold Fs.leaveP at h
 cases hp:Fs.place l ns with
 |error e=>rw[hp]at h;cases h
 | ok r=>
  obtain⟨d,n⟩:=r
  rw[hp]at h
  simp only at h
  split at h
  ·cases h
  ·injection h with h
   rw[<-h]
   unfold Fs.leave
   rw[Fs.len_set,if_pos (uu hp)]
   exact hl
theorem zad(m:Option Nat)(nx:Int)(l:List Fs.Item)(kd:Int)(oa ob:ByteArray)(oo og on:Int)(od:ByteArray)(w:World)(h:Sv w m l)(G:Fs.Half env ⟨l,nx⟩)(hf9:l.length<=900)(pa:oa.size<=140737488355328){na:List ByteArray}(ha:spl oa=some na)(pb:ob.size<=140737488355328){nb:List ByteArray}(hb:spl ob=some nb):Calls prog 100 #[stv m nx,.agg #[.int .i64 kd,.string oa,.string ob,.int .i64 oo,.int .i64 og,.int .i64 on,.string od]] w (zP (Fs.link env ⟨l,nx⟩ na nb) w):=by
 have hlk:=Fs.link_is (E:=env) (f:=⟨l,nx⟩) (aa:=na) (bs:=nb) (vx hb)
 dsimp only at hlk
 have HEnt:=hid (λi (hi:1<=i/\i<=2147483647) W (hbw:Below w.heap.size w W)=>uw m nx l ob nb i W (h.below hbw) pb hb hi hf9)
 have HFi:=hid (λW (hb:Below w.heap.size w W)=>xh m nx l oa W (h.below hb) pa)
 have HD:=hid h.dg
 rcases zT (l:=l) ha with ⟨ec,hne,hw,hf⟩|⟨i,hw,hf⟩
 ·have HR:=hid (show Fs.link env ⟨l,nx⟩ na nb= .error ec by rw[hlk,hw])
  have HF:=hid (show∀W,Below w.heap.size w W->Calls prog 62 #[stv m nx,.string oa] W (zU (0,Nd.none0,ec) W)from λW hb=>hf▸HFi.out W hb)
  clear HFi hf hw h hlk
  go_enter func100,ntmps100
  go_wp2_with fail
  obtain⟨W0,hW,HB⟩:=bx3 w m nx kd oa ob oo og on od;rw[hW];clear hW
  go_wp2_with fail
  refine(HF.out W0 HB.out.below).mono ?_
  rintro e w1 ⟨ea,eb,rfl,hE,hb⟩
  clear hE
  have HB:=hid (HB.out.kept hb)
  have HB:=hid (HB.out.more #[.int .i64 0,.int .i64 0,.string ⟨#[]⟩,.string ⟨#[]⟩,.slice ea 0 eb] 43 rfl)
  dsimp only
  go_wp2_with (first|(refine zb HB.out 2 rfl 98 _ _ rfl rfl #[.pointer none,.int .i64 0] rfl rfl (by kernel_rfl) rfl rfl (by decide) (by decide) ?_;intro w2 hS hK hbS hsS;have HBS:=hid hS;clear hS hK hbS hsS;have HB:=HBS;clear HBS)|fail)
  refine bodyPost_ret_by (zh rfl _ _ (w.heap.size+1+1) _ _ rfl (HB.out.obj 2 rfl)) rfl ?_
  exact zj HR.out hne HB.out.below
 ·rw[hw]at hlk
  simp only at hlk
  obtain⟨x,hx,hxD⟩:=G.walk_node hw
  have hxr:=h.ok.node hx
  have HXi:=hxr.2
  rw[hxD]at hf
  obtain⟨k,mo,d,t,es⟩:=x
  have HF:=hid (show∀W,Below w.heap.size w W->Calls prog 62 #[stv m nx,.string oa] W (zU (i,(⟨k,mo,d,t,es⟩:Nd.Node),0) W)from λW hb=>hf▸HFi.out W hb)
  clear hf HFi h
  rw[hxD]at hlk
  clear hx hxD hw hxr
  by_cases hk2:k=2
  ·subst hk2
   have HR:=hid (show Fs.link env ⟨l,nx⟩ na nb= .error 11 by rw[hlk];rfl)
   clear hlk HEnt
   go_enter func100,ntmps100
   go_wp2_with fail
   obtain⟨W0,hW,HB⟩:=bx3 w m nx kd oa ob oo og on od;rw[hW];clear hW
   go_wp2_with fail
   refine(HF.out W0 HB.out.below).mono ?_
   rintro e w1 ⟨a,c,rfl,hE,hb⟩
   clear hE
   have HB:=hid (HB.out.kept hb)
   have HB:=hid (HB.out.more #[.int .i64 2,.int .i64 mo,.string d,.string t,.slice a es.length c] 43 rfl)
   dsimp only
   go_wp2_with (first|(refine zb HB.out 2 rfl 98 _ _ rfl rfl #[.pointer none,.int .i64 0] rfl rfl (by kernel_rfl) rfl rfl (by decide) (by decide) ?_;intro w2 hS hK hbS hsS;have HBS:=hid hS;clear hS hK hbS hsS;have HB:=HBS;clear HBS)|fail)
   refine bodyPost_ret_by (zh rfl _ _ (w.heap.size+1+1) _ _ rfl (HB.out.obj 2 rfl)) rfl ?_
   exact zj HR.out (by decide) HB.out.below
  ·rw[if_neg hk2]at hlk
   have HE2:=hid (λW (hbw:Below w.heap.size w W)=>HEnt.out i HXi W hbw)
   clear HEnt
   cases hen:Fs.enterP env l nb i with
   |error ce=>
    have HR:=hid (show Fs.link env ⟨l,nx⟩ na nb= .error ce by rw[hlk,hen])
    rw[show wl (Fs.enterP env l nb i) nx= .error ce by rw[hen];rfl]at HE2
    clear hlk hen
    go_enter func100,ntmps100
    go_wp2_with fail
    obtain⟨W0,hW,HB⟩:=bx3 w m nx kd oa ob oo og on od;rw[hW];clear hW
    go_wp2_with fail
    refine(HF.out W0 HB.out.below).mono ?_
    rintro e w1 ⟨a,c,rfl,hE,hb⟩
    clear hE
    have HB:=hid (HB.out.kept hb)
    have HB:=hid (HB.out.more #[.int .i64 k,.int .i64 mo,.string d,.string t,.slice a es.length c] 43 rfl)
    have b0:=HB.out.c2 0 rfl
    have b1:=HB.out.c7 1 rfl
    dsimp only
    go_wp2_with fail
    refine(HE2.out (w1.alloc (.cells #[.int .i64 k,.int .i64 mo,.string d,.string t,.slice a es.length c] 43)) HB.out.below).mono ?_
    rintro e w2 ⟨hb,hne,rfl⟩
    have HB:=hid (HB.out.kept hb)
    clear b0 b1
    dsimp only
    go_wp2_with (first|(refine zb HB.out 2 rfl 98 _ _ rfl rfl #[.pointer none,.int .i64 0] rfl rfl (by kernel_rfl) rfl rfl (by decide) (by decide) ?_;intro w3 hS hK hbS hsS;have HBS:=hid hS;clear hS hK hbS hsS;have HB:=HBS;clear HBS)|fail)
    refine bodyPost_ret_by (zh rfl _ _ (w.heap.size+1+1) _ _ rfl (HB.out.obj 2 rfl)) rfl ?_
    exact zj HR.out hne HB.out.below
   |ok l2=>
    have HR:=hid (show Fs.link env ⟨l,nx⟩ na nb= .ok ⟨l2,nx⟩ by rw[hlk,hen])
    rw[show wl (Fs.enterP env l nb i) nx= .ok ⟨l2,nx⟩ by rw[hen];rfl]at HE2
    clear hlk hen
    go_enter func100,ntmps100
    go_wp2_with fail
    obtain⟨W0,hW,HB⟩:=bx3 w m nx kd oa ob oo og on od;rw[hW];clear hW
    go_wp2_with fail
    refine(HF.out W0 HB.out.below).mono ?_
    rintro e w1 ⟨a,c,rfl,hE,hb⟩
    clear hE
    have HB:=hid (HB.out.kept hb)
    have HB:=hid (HB.out.more #[.int .i64 k,.int .i64 mo,.string d,.string t,.slice a es.length c] 43 rfl)
    have b0:=HB.out.c2 0 rfl
    have b1:=HB.out.c7 1 rfl
    dsimp only
    go_wp2_with fail
    refine(HE2.out (w1.alloc (.cells #[.int .i64 k,.int .i64 mo,.string d,.string t,.slice a es.length c] 43)) HB.out.below).mono ?_
    rintro e w2 ⟨hb,m5,rfl,hS⟩
    have hbk:=hb
    have HS:=hid hS
    clear hS
    have HB:=hid (HB.out.kept hbk)
    clear b0 b1
    clear hbk
    dsimp only
    go_wp2_with (first|(refine zb HB.out 2 rfl 98 _ _ rfl rfl #[pv m5,.int .i64 nx] rfl rfl (by kernel_rfl) rfl rfl (by decide) (by decide) ?_;intro w3 hS hK hbS hsS;have HBS:=hid hS;have HS:=hid (HS.out.kept hK (HD.out.below hbS));clear hS hK hbS hsS;have HB:=HBS;clear HBS)|fail)
    refine bodyPost_ret_by (zh rfl _ _ (w.heap.size+1+1) _ _ rfl (HB.out.obj 2 rfl)) rfl ?_
    exact zM HR.out HB.out.below HS.out
theorem JX(m:Option Nat)(nx:Int)(l:List Fs.Item)(kd:Int)(oa ob:ByteArray)(oo og on:Int)(od:ByteArray)(w:World)(h:Sv w m l)(G:Fs.Half env ⟨l,nx⟩)(hf9:l.length<=900)(pa:oa.size<=140737488355328){na:List ByteArray}(ha:spl oa=some na):Calls prog 107 #[stv m nx,.agg #[.int .i64 kd,.string oa,.string ob,.int .i64 oo,.int .i64 og,.int .i64 on,.string od]] w (zP (Fs.chmod ⟨l,nx⟩ ⟨kd,oa,ob,oo,og,on,od⟩ na) w):=by
 have hlk:Fs.chmod ⟨l,nx⟩ ⟨kd,oa,ob,oo,og,on,od⟩ na=match Fs.walk l 1 na with
  | .error e=> .error e
  | .ok i=>if on<0\/511<on then .error 1 else .ok ⟨Fs.setL l i {Fs.nodeD l i with mode:=on},nx⟩:=rfl
 have HFi:=hid (λW (hb:Below w.heap.size w W)=>xh m nx l oa W (h.below hb) pa)
 have HD:=hid h.dg
 have HSv:=hid (λW (hb:Below w.heap.size w W)=>h.below hb)
 rcases zT (l:=l) ha with ⟨ec,hne,hw,hf⟩|⟨i,hw,hf⟩
 ·have HR:=hid (show Fs.chmod ⟨l,nx⟩ ⟨kd,oa,ob,oo,og,on,od⟩ na= .error ec by rw[hlk,hw])
  have HF:=hid (show∀W,Below w.heap.size w W->Calls prog 62 #[stv m nx,.string oa] W (zU (0,Nd.none0,ec) W)from λW hb=>hf▸HFi.out W hb)
  clear HFi hf hw h hlk
  go_enter func107,ntmps107
  go_wp2_with fail
  obtain⟨W0,hW,HB⟩:=bx3 w m nx kd oa ob oo og on od;rw[hW];clear hW
  go_wp2_with fail
  refine(HF.out W0 HB.out.below).mono ?_
  rintro e w1 ⟨ea,eb,rfl,hE,hb⟩
  clear hE
  have HB:=hid (HB.out.kept hb)
  have HB:=hid (HB.out.more #[.int .i64 0,.int .i64 0,.string ⟨#[]⟩,.string ⟨#[]⟩,.slice ea 0 eb] 43 rfl)
  dsimp only
  go_wp2_with (first|(refine zb HB.out 2 rfl 98 _ _ rfl rfl #[.pointer none,.int .i64 0] rfl rfl (by kernel_rfl) rfl rfl (by decide) (by decide) ?_;intro w2 hS hK hbS hsS;have HBS:=hid hS;clear hS hK hbS hsS;have HB:=HBS;clear HBS)|fail)
  refine bodyPost_ret_by (zh rfl _ _ (w.heap.size+1+1) _ _ rfl (HB.out.obj 2 rfl)) rfl ?_
  exact zj HR.out hne HB.out.below
 ·rw[hw]at hlk
  simp only at hlk
  obtain⟨x,hx,hxD⟩:=G.walk_node hw
  have hxr:=h.ok.node hx
  have HXi:=hxr.2
  have HXs:(Fs.node l i).isSome=true:=by rw[hx];rfl
  rw[hxD]at hf
  obtain⟨k,mo,d,t,es⟩:=x
  have HF:=hid (show∀W,Below w.heap.size w W->Calls prog 62 #[stv m nx,.string oa] W (zU (i,(⟨k,mo,d,t,es⟩:Nd.Node),0) W)from λW hb=>hf▸HFi.out W hb)
  clear hf HFi h
  rw[hxD]at hlk
  have hsm:=Right.smallS hxr.1
  dsimp only at hsm hlk
  have HNr:=hid (λb (hbb:ndr k on d t es=b) W a c (hE:Ents a es.length es W)=>q_node (m:=on) (c:=c) W hE hsm hbb)
  have hRi: ¬ (on<0\/511<on)->Nd.Right less Nm.right ⟨k,on,d,t,es⟩:=λhn=>⟨by show 0<=on;omega,by show on<=511;omega,hxr.1.len,hxr.1.ok,hxr.1.rise,hxr.1.kinds⟩
  clear hx hxD hw hxr hsm
  by_cases hN:on<0\/511<on
  ·have HR:=hid (show Fs.chmod ⟨l,nx⟩ ⟨kd,oa,ob,oo,og,on,od⟩ na= .error 1 by rw[hlk,if_pos hN])
   have HNr:=hid (λW a c (hE:Ents a es.length es W)=>HNr.out false (XU hN) W a c hE)
   clear hlk hRi hN
   go_enter func107,ntmps107
   go_wp2_with fail
   obtain⟨W0,hW,HB⟩:=bx3 w m nx kd oa ob oo og on od;rw[hW];clear hW
   go_wp2_with fail
   refine(HF.out W0 HB.out.below).mono ?_
   rintro e w1 ⟨a,c,rfl,hE,hb⟩
   have HEn:=hid (hE.below (below_one w1 (.cells #[.int .i64 k,.int .i64 on,.string d,.string t,.slice a es.length c] 43)))
   clear hE
   have HB:=hid (HB.out.kept hb)
   have HBp:=HB
   have HB:=hid (HB.out.more #[.int .i64 k,.int .i64 mo,.string d,.string t,.slice a es.length c] 43 rfl)
   have b1:=HB.out.c7 1 rfl
   dsimp only
   go_wp2_with fail
   clear b1
   have HB:=hid (show Bxs w [(w.heap.size,#[pv m,.int .i64 nx],98),(w.heap.size+1,#[.int .i64 kd,.string oa,.string ob,.int .i64 oo,.int .i64 og,.int .i64 on,.string od],35),(w.heap.size+1+1,#[.pointer none,.int .i64 0],98),(w1.heap.size,#[.int .i64 k,.int .i64 on,.string d,.string t,.slice a es.length c],43)] (w1.alloc (.cells #[.int .i64 k,.int .i64 on,.string d,.string t,.slice a es.length c] 43))from HBp.out.more _ _ rfl)
   refine(HNr.out (w1.alloc (.cells #[.int .i64 k,.int .i64 on,.string d,.string t,.slice a es.length c] 43)) a c HEn.out).mono ?_
   rintro e w2 ⟨rfl,hb⟩
   have HB:=hid (HB.out.kept hb)
   dsimp only
   go_wp2_with (first|(refine zb HB.out 2 rfl 98 _ _ rfl rfl #[.pointer none,.int .i64 0] rfl rfl (by kernel_rfl) rfl rfl (by decide) (by decide) ?_;intro w3 hS hK hbS hsS;have HBS:=hid hS;clear hS hK hbS hsS;have HB:=HBS;clear HBS)|fail)
   refine bodyPost_ret_by (zh rfl _ _ (w.heap.size+1+1) _ _ rfl (HB.out.obj 2 rfl)) rfl ?_
   exact zj HR.out (by decide) HB.out.below
  ·have HR:=hid (show Fs.chmod ⟨l,nx⟩ ⟨kd,oa,ob,oo,og,on,od⟩ na= .ok ⟨Fs.setL l i ⟨k,on,d,t,es⟩,nx⟩ by rw[hlk,if_neg hN])
   have HNr:=hid (λW a c (hE:Ents a es.length es W)=>HNr.out true (ndr_right.2 (hRi hN)) W a c hE)
   have hRx:=hRi hN
   have HW:=hid (λW a c (hbw:Below w.heap.size w W) (hE:Ents a es.length es W)=>vz m nx l i ⟨k,on,d,t,es⟩ a c W (HSv.out W hbw) hE hRx HXi (.inl HXs) hf9)
   clear hlk hRi hN hRx
   go_enter func107,ntmps107
   go_wp2_with fail
   obtain⟨W0,hW,HB⟩:=bx3 w m nx kd oa ob oo og on od;rw[hW];clear hW
   go_wp2_with fail
   refine(HF.out W0 HB.out.below).mono ?_
   rintro e w1 ⟨a,c,rfl,hE,hb⟩
   have HEn:=hid (hE.below (below_one w1 (.cells #[.int .i64 k,.int .i64 on,.string d,.string t,.slice a es.length c] 43)))
   clear hE
   have HB:=hid (HB.out.kept hb)
   have HBp:=HB
   have HB:=hid (HB.out.more #[.int .i64 k,.int .i64 mo,.string d,.string t,.slice a es.length c] 43 rfl)
   have b1:=HB.out.c7 1 rfl
   dsimp only
   go_wp2_with fail
   clear b1
   have HB:=hid (show Bxs w [(w.heap.size,#[pv m,.int .i64 nx],98),(w.heap.size+1,#[.int .i64 kd,.string oa,.string ob,.int .i64 oo,.int .i64 og,.int .i64 on,.string od],35),(w.heap.size+1+1,#[.pointer none,.int .i64 0],98),(w1.heap.size,#[.int .i64 k,.int .i64 on,.string d,.string t,.slice a es.length c],43)] (w1.alloc (.cells #[.int .i64 k,.int .i64 on,.string d,.string t,.slice a es.length c] 43))from HBp.out.more _ _ rfl)
   refine(HNr.out (w1.alloc (.cells #[.int .i64 k,.int .i64 on,.string d,.string t,.slice a es.length c] 43)) a c HEn.out).mono ?_
   rintro e w2 ⟨rfl,hb⟩
   have HEn:=hid (HEn.out.below hb)
   have HB:=hid (HB.out.kept hb)
   have b0:=HB.out.c2 0 rfl
   have b3:=HB.out.c5 3 rfl
   dsimp only
   go_wp2_with fail
   refine(HW.out w2 a c HB.out.below HEn.out).mono ?_
   rintro e w3 ⟨m5,rfl,hS,hb⟩
   have hbk:=hb
   have HS:=hid hS
   clear hS
   have HB:=hid (HB.out.kept hbk)
   clear b0 b3
   clear hbk
   dsimp only
   go_wp2_with (first|(refine zb HB.out 2 rfl 98 _ _ rfl rfl #[pv m5,.int .i64 nx] rfl rfl (by kernel_rfl) rfl rfl (by decide) (by decide) ?_;intro w4 hS hK hbS hsS;have HBS:=hid hS;have HS:=hid (HS.out.kept hK (HD.out.below hbS));clear hS hK hbS hsS;have HB:=HBS;clear HBS)|fail)
   refine bodyPost_ret_by (zh rfl _ _ (w.heap.size+1+1) _ _ rfl (HB.out.obj 2 rfl)) rfl ?_
   exact zM HR.out HB.out.below HS.out
theorem VW(m:Option Nat)(nx:Int)(l:List Fs.Item)(kd:Int)(oa ob:ByteArray)(oo og on:Int)(od:ByteArray)(w:World)(h:Sv w m l)(G:Fs.Half env ⟨l,nx⟩)(hf9:l.length<=900)(pa:oa.size<=140737488355328){na:List ByteArray}(ha:spl oa=some na):Calls prog 101 #[stv m nx,.agg #[.int .i64 kd,.string oa,.string ob,.int .i64 oo,.int .i64 og,.int .i64 on,.string od]] w (zP (Fs.unlink ⟨l,nx⟩ na) w):=by
 have hlk:=Fs.Half.unlink_is G (aa:=na)
 dsimp only at hlk
 have HLv:=hid (λW (hbw:Below w.heap.size w W)=>uv m nx l oa na W (h.below hbw) pa ha hf9)
 have HFi:=hid (λW (hb:Below w.heap.size w W)=>xh m nx l oa W (h.below hb) pa)
 have HD:=hid h.dg
 rcases zT (l:=l) ha with ⟨ec,hne,hw,hf⟩|⟨i,hw,hf⟩
 ·have HR:=hid (show Fs.unlink ⟨l,nx⟩ na= .error ec by rw[hlk,hw])
  have HF:=hid (show∀W,Below w.heap.size w W->Calls prog 62 #[stv m nx,.string oa] W (zU (0,Nd.none0,ec) W)from λW hb=>hf▸HFi.out W hb)
  clear HFi hf hw h hlk
  go_enter func101,ntmps101
  go_wp2_with fail
  obtain⟨W0,hW,HB⟩:=bx3 w m nx kd oa ob oo og on od;rw[hW];clear hW
  go_wp2_with fail
  refine(HF.out W0 HB.out.below).mono ?_
  rintro e w1 ⟨ea,eb,rfl,hE,hb⟩
  clear hE
  have HB:=hid (HB.out.kept hb)
  have HB:=hid (HB.out.more #[.int .i64 0,.int .i64 0,.string ⟨#[]⟩,.string ⟨#[]⟩,.slice ea 0 eb] 43 rfl)
  dsimp only
  go_wp2_with (first|(refine zb HB.out 2 rfl 98 _ _ rfl rfl #[.pointer none,.int .i64 0] rfl rfl (by kernel_rfl) rfl rfl (by decide) (by decide) ?_;intro w2 hS hK hbS hsS;have HBS:=hid hS;clear hS hK hbS hsS;have HB:=HBS;clear HBS)|fail)
  refine bodyPost_ret_by (zh rfl _ _ (w.heap.size+1+1) _ _ rfl (HB.out.obj 2 rfl)) rfl ?_
  exact zj HR.out hne HB.out.below
 ·rw [hw]at hlk
  simp only at hlk
  obtain⟨x,hx,hxD⟩:=G.walk_node hw
  have hxr:=h.ok.node hx
  have HXi:=hxr.2
  rw[hxD]at hf
  obtain⟨k,mo,d,t,es⟩:=x
  have HF:=hid (show∀W,Below w.heap.size w W->Calls prog 62 #[stv m nx,.string oa] W (zU (i,(⟨k,mo,d,t,es⟩:Nd.Node),0) W)from λW hb=>hf▸HFi.out W hb)
  clear hf HFi h
  rw[hxD]at hlk
  clear hx hxD hw hxr
  by_cases hk2:k=2
  ·subst hk2
   have HR:=hid (show Fs.unlink ⟨l,nx⟩ na= .error 11 by rw[hlk];rfl)
   clear hlk HLv
   go_enter func101,ntmps101
   go_wp2_with fail
   obtain⟨W0,hW,HB⟩:=bx3 w m nx kd oa ob oo og on od;rw[hW];clear hW
   go_wp2_with fail
   refine(HF.out W0 HB.out.below).mono ?_
   rintro e w1 ⟨a,c,rfl,hE,hb⟩
   clear hE
   have HB:=hid (HB.out.kept hb)
   have HB:=hid (HB.out.more #[.int .i64 2,.int .i64 mo,.string d,.string t,.slice a es.length c] 43 rfl)
   dsimp only
   go_wp2_with (first|(refine zb HB.out 2 rfl 98 _ _ rfl rfl #[.pointer none,.int .i64 0] rfl rfl (by kernel_rfl) rfl rfl (by decide) (by decide) ?_;intro w2 hS hK hbS hsS;have HBS:=hid hS;clear hS hK hbS hsS;have HB:=HBS;clear HBS)|fail)
   refine bodyPost_ret_by (zh rfl _ _ (w.heap.size+1+1) _ _ rfl (HB.out.obj 2 rfl)) rfl ?_
   exact zj HR.out (by decide) HB.out.below
  ·rw[if_neg hk2]at hlk
   cases hen:Fs.leaveP l na with
   |error ce=>
    have HR:=hid (show Fs.unlink ⟨l,nx⟩ na= .error ce by rw[hlk,hen])
    rw[show wl (Fs.leaveP l na) nx= .error ce by rw[hen];rfl]at HLv
    clear hlk hen
    go_enter func101,ntmps101
    go_wp2_with fail
    obtain⟨W0,hW,HB⟩:=bx3 w m nx kd oa ob oo og on od;rw[hW];clear hW
    go_wp2_with fail
    refine(HF.out W0 HB.out.below).mono ?_
    rintro e w1 ⟨a,c,rfl,hE,hb⟩
    clear hE
    have HB:=hid (HB.out.kept hb)
    have HB:=hid (HB.out.more #[.int .i64 k,.int .i64 mo,.string d,.string t,.slice a es.length c] 43 rfl)
    have b0:=HB.out.c2 0 rfl
    have b1:=HB.out.c7 1 rfl
    dsimp only
    go_wp2_with fail
    refine(HLv.out (w1.alloc (.cells #[.int .i64 k,.int .i64 mo,.string d,.string t,.slice a es.length c] 43)) HB.out.below).mono ?_
    rintro e w2 ⟨hb,hne,rfl⟩
    have HB:=hid (HB.out.kept hb)
    clear b0 b1
    dsimp only
    go_wp2_with (first|(refine zb HB.out 0 rfl 98 _ _ rfl rfl #[.pointer none,.int .i64 0] rfl rfl (by kernel_rfl) rfl rfl (by decide) (by decide) ?_;intro w3 hS hK hbS hsS;have HBS:=hid hS;clear hS hK hbS hsS;have HB:=HBS;clear HBS)|(refine zb HB.out 2 rfl 98 _ _ rfl rfl #[.pointer none,.int .i64 0] rfl rfl (by kernel_rfl) rfl rfl (by decide) (by decide) ?_;intro w4 hS hK hbS hsS;have HBS:=hid hS;clear hS hK hbS hsS;have HB:=HBS;clear HBS)|fail)
    refine bodyPost_ret_by (zh rfl _ _ (w.heap.size+1+1) _ _ rfl (HB.out.obj 2 rfl)) rfl ?_
    exact zj HR.out hne HB.out.below
   | ok l2=>
    rw[show wl (Fs.leaveP l na) nx= .ok ⟨l2,nx⟩ by rw[hen];rfl]at HLv
    have HLn:=hid (uA hen hf9)
    rw[hen]at hlk
    simp only at hlk
    clear hen
    have HNm:=hid (λW m5 (hS:Sv W m5 l2)=>Uh m5 nx l2 i W hS)
    by_cases hz:Fs.links l2 i=0
    ·have HR:=hid (show Fs.unlink ⟨l,nx⟩ na= .ok ⟨Fs.dropL l2 i,nx⟩ by rw[hlk,if_pos hz])
     rw[decide_eq_false (λhn=>hn hz)]at HNm
     have HWo:=hid (λW m5 (hS:Sv W m5 l2)=>kF m5 nx l2 i W hS HXi)
     clear hlk hz
     go_enter func101,ntmps101
     go_wp2_with fail
     obtain⟨W0,hW,HB⟩:=bx3 w m nx kd oa ob oo og on od;rw[hW];clear hW
     go_wp2_with fail
     refine(HF.out W0 HB.out.below).mono ?_
     rintro e w1 ⟨a,c,rfl,hE,hb⟩
     clear hE
     have HB:=hid (HB.out.kept hb)
     have HB:=hid (HB.out.more #[.int .i64 k,.int .i64 mo,.string d,.string t,.slice a es.length c] 43 rfl)
     have b0:=HB.out.c2 0 rfl
     have b1:=HB.out.c7 1 rfl
     dsimp only
     go_wp2_with fail
     refine(HLv.out (w1.alloc (.cells #[.int .i64 k,.int .i64 mo,.string d,.string t,.slice a es.length c] 43)) HB.out.below).mono ?_
     rintro e w2 ⟨hb,m5,rfl,hS⟩
     have hbk:=hb
     have HS:=hid hS
     clear hS
     have HB:=hid (HB.out.kept hbk)
     clear b0 b1
     clear hbk
     have b0:=HB.out.c2 0 rfl
     dsimp only
     go_wp2_with (first|(refine zb HB.out 0 rfl 98 _ _ rfl rfl #[pv m5,.int .i64 nx] rfl rfl (by kernel_rfl) rfl rfl (by decide) (by decide) ?_;intro w3 hS hK hbS hsS;have HBS:=hid hS;have HS:=hid (HS.out.kept hK (HD.out.below hbS));clear hS hK hbS hsS;have HB:=HBS;clear HBS;clear b0;have b0:=HB.out.c2 0 rfl)|fail)
     refine(HNm.out w3 m5 HS.out).mono ?_
     rintro e w4 ⟨rfl,hb⟩
     have HS:=hid (HS.out.below hb)
     have HB:=hid (HB.out.kept hb)
     clear b0
     have b0:=HB.out.c2 0 rfl
     dsimp only
     go_wp2_with fail
     refine(HWo.out w4 m5 HS.out HLn.out).mono ?_
     rintro e w5 ⟨m6,rfl,hS,hb⟩
     have hbk:=hb
     have HS:=hid hS
     clear hS
     have HB:=hid (HB.out.kept hbk)
     clear b0
     clear hbk
     have b0:=HB.out.c2 0 rfl
     dsimp only
     go_wp2_with (first|(refine zb HB.out 0 rfl 98 _ _ rfl rfl #[pv m6,.int .i64 nx] rfl rfl (by kernel_rfl) rfl rfl (by decide) (by decide) ?_;intro w6 hS hK hbS hsS;have HBS:=hid hS;have HS:=hid (HS.out.kept hK (HD.out.below hbS));clear hS hK hbS hsS;have HB:=HBS;clear HBS;clear b0;have b0:=HB.out.c2 0 rfl)|(refine zb HB.out 2 rfl 98 _ _ rfl rfl #[pv m6,.int .i64 nx] rfl rfl (by kernel_rfl) rfl rfl (by decide) (by decide) ?_;intro w7 hS hK hbS hsS;have HBS:=hid hS;have HS:=hid (HS.out.kept hK (HD.out.below hbS));clear hS hK hbS hsS;have HB:=HBS;clear HBS;clear b0;have b0:=HB.out.c2 0 rfl)|fail)
     refine bodyPost_ret_by (zh rfl _ _ (w.heap.size+1+1) _ _ rfl (HB.out.obj 2 rfl)) rfl ?_
     exact zM HR.out HB.out.below HS.out
    ·have HR:=hid (show Fs.unlink ⟨l,nx⟩ na= .ok ⟨l2,nx⟩ by rw[hlk,if_neg hz])
     rw[decide_eq_true hz]at HNm
     clear hlk hz
     go_enter func101,ntmps101
     go_wp2_with fail
     obtain⟨W0,hW,HB⟩:=bx3 w m nx kd oa ob oo og on od;rw[hW];clear hW
     go_wp2_with fail
     refine(HF.out W0 HB.out.below).mono ?_
     rintro e w1 ⟨a,c,rfl,hE,hb⟩
     clear hE
     have HB:=hid (HB.out.kept hb)
     have HB:=hid (HB.out.more #[.int .i64 k,.int .i64 mo,.string d,.string t,.slice a es.length c] 43 rfl)
     have b0:=HB.out.c2 0 rfl
     have b1:=HB.out.c7 1 rfl
     dsimp only
     go_wp2_with fail
     refine(HLv.out (w1.alloc (.cells #[.int .i64 k,.int .i64 mo,.string d,.string t,.slice a es.length c] 43)) HB.out.below).mono ?_
     rintro e w2 ⟨hb,m5,rfl,hS⟩
     have hbk:=hb
     have HS:=hid hS
     clear hS
     have HB:=hid (HB.out.kept hbk)
     clear b0 b1
     clear hbk
     have b0:=HB.out.c2 0 rfl
     dsimp only
     go_wp2_with (first|(refine zb HB.out 0 rfl 98 _ _ rfl rfl #[pv m5,.int .i64 nx] rfl rfl (by kernel_rfl) rfl rfl (by decide) (by decide) ?_;intro w3 hS hK hbS hsS;have HBS:=hid hS;have HS:=hid (HS.out.kept hK (HD.out.below hbS));clear hS hK hbS hsS;have HB:=HBS;clear HBS;clear b0;have b0:=HB.out.c2 0 rfl)|fail)
     refine(HNm.out w3 m5 HS.out).mono ?_
     rintro e w4 ⟨rfl,hb⟩
     have HS:=hid (HS.out.below hb)
     have HB:=hid (HB.out.kept hb)
     clear b0
     have b0:=HB.out.c2 0 rfl
     dsimp only
     go_wp2_with (first|(refine zb HB.out 2 rfl 98 _ _ rfl rfl #[pv m5,.int .i64 nx] rfl rfl (by kernel_rfl) rfl rfl (by decide) (by decide) ?_;intro w5 hS hK hbS hsS;have HBS:=hid hS;have HS:=hid (HS.out.kept hK (HD.out.below hbS));clear hS hK hbS hsS;have HB:=HBS;clear HBS;clear b0)|fail)
     refine bodyPost_ret_by (zh rfl _ _ (w.heap.size+1+1) _ _ rfl (HB.out.obj 2 rfl)) rfl ?_
     exact zM HR.out HB.out.below HS.out
theorem JU(m:Option Nat)(nx:Int)(l:List Fs.Item)(kd:Int)(oa ob:ByteArray)(oo og on:Int)(od:ByteArray)(w:World)(h:Sv w m l)(G:Fs.Half env ⟨l,nx⟩)(hf9:l.length<=900)(pa:oa.size<=140737488355328){na:List ByteArray}(ha:spl oa=some na):Calls prog 102 #[stv m nx,.agg #[.int .i64 kd,.string oa,.string ob,.int .i64 oo,.int .i64 og,.int .i64 on,.string od]] w (zP (Fs.rmdir ⟨l,nx⟩ na) w):=by
 have hlk:=Fs.Half.rmdir_is G (aa:=na)
 dsimp only at hlk
 have HLv:=hid (λW (hbw:Below w.heap.size w W)=>uv m nx l oa na W (h.below hbw) pa ha hf9)
 have HFi:=hid (λW (hb:Below w.heap.size w W)=>xh m nx l oa W (h.below hb) pa)
 have HD:=hid h.dg
 rcases zT (l:=l) ha with ⟨ec,hne,hw,hf⟩|⟨i,hw,hf⟩
 ·have HR:=hid (show Fs.rmdir ⟨l,nx⟩ na= .error ec by rw[hlk,hw])
  have HF:=hid (show∀W,Below w.heap.size w W->Calls prog 62 #[stv m nx,.string oa] W (zU (0,Nd.none0,ec) W)from λW hb=>hf▸HFi.out W hb)
  clear HFi hf hw h hlk
  go_enter func102,ntmps102
  go_wp2_with fail
  obtain⟨W0,hW,HB⟩:=bx3 w m nx kd oa ob oo og on od;rw[hW];clear hW
  go_wp2_with fail
  refine(HF.out W0 HB.out.below).mono ?_
  rintro e w1 ⟨ea,eb,rfl,hE,hb⟩
  clear hE
  have HB:=hid (HB.out.kept hb)
  have HB:=hid (HB.out.more #[.int .i64 0,.int .i64 0,.string ⟨#[]⟩,.string ⟨#[]⟩,.slice ea 0 eb] 43 rfl)
  dsimp only
  go_wp2_with (first|(refine zb HB.out 2 rfl 98 _ _ rfl rfl #[.pointer none,.int .i64 0] rfl rfl (by kernel_rfl) rfl rfl (by decide) (by decide) ?_;intro w2 hS hK hbS hsS;have HBS:=hid hS;clear hS hK hbS hsS;have HB:=HBS;clear HBS)|fail)
  refine bodyPost_ret_by (zh rfl _ _ (w.heap.size+1+1) _ _ rfl (HB.out.obj 2 rfl)) rfl ?_
  exact zj HR.out hne HB.out.below
 ·rw [hw]at hlk
  simp only at hlk
  obtain⟨x,hx,hxD⟩:=G.walk_node hw
  have hxr:=h.ok.node hx
  have HXi:=hxr.2
  have HXs:(Fs.node l i).isSome=true:=by rw[hx];rfl
  rw[hxD]at hf
  obtain⟨k,mo,d,t,es⟩:=x
  have HF:=hid (show∀W,Below w.heap.size w W->Calls prog 62 #[stv m nx,.string oa] W (zU (i,(⟨k,mo,d,t,es⟩:Nd.Node),0) W)from λW hb=>hf▸HFi.out W hb)
  clear hf HFi h
  rw[hxD]at hlk
  clear hx hxD hw hxr
  by_cases hk2:k=2
  ·subst hk2
   rw[if_neg (by simp)]at hlk
   by_cases hi1:i=1
   ·subst hi1
    have HR:=hid (show Fs.rmdir ⟨l,nx⟩ na= .error 17 by rw[hlk];rfl)
    clear hlk HLv
    go_enter func102,ntmps102
    go_wp2_with fail
    obtain⟨W0,hW,HB⟩:=bx3 w m nx kd oa ob oo og on od;rw[hW];clear hW
    go_wp2_with fail
    refine(HF.out W0 HB.out.below).mono ?_
    rintro e w1 ⟨a,c,rfl,hE,hb⟩
    clear hE
    have HB:=hid (HB.out.kept hb)
    have HB:=hid (HB.out.more #[.int .i64 2,.int .i64 mo,.string d,.string t,.slice a es.length c] 43 rfl)
    dsimp only
    go_wp2_with (first|(refine zb HB.out 2 rfl 98 _ _ rfl rfl #[.pointer none,.int .i64 0] rfl rfl (by kernel_rfl) rfl rfl (by decide) (by decide) ?_;intro w2 hS hK hbS hsS;have HBS:=hid hS;clear hS hK hbS hsS;have HB:=HBS;clear HBS)|fail)
    refine bodyPost_ret_by (zh rfl _ _ (w.heap.size+1+1) _ _ rfl (HB.out.obj 2 rfl)) rfl ?_
    exact zj HR.out (by decide) HB.out.below
   ·rw[if_neg hi1]at hlk
    by_cases hes:es=[]
    ·rw[if_neg (by simp[hes])]at hlk
     subst hes
     cases hen:Fs.leaveP l na with
     |error ce=>
      have HR:=hid (show Fs.rmdir ⟨l,nx⟩ na= .error ce by rw[hlk,hen])
      rw[show wl (Fs.leaveP l na) nx= .error ce by rw[hen];rfl]at HLv
      clear hlk hen
      go_enter func102,ntmps102
      go_wp2_with fail
      obtain⟨W0,hW,HB⟩:=bx3 w m nx kd oa ob oo og on od;rw[hW];clear hW
      go_wp2_with fail
      refine(HF.out W0 HB.out.below).mono ?_
      rintro e w1 ⟨a,c,rfl,hE,hb⟩
      clear hE
      have HB:=hid (HB.out.kept hb)
      have HB:=hid (HB.out.more #[.int .i64 2,.int .i64 mo,.string d,.string t,.slice a 0 c] 43 rfl)
      have b0:=HB.out.c2 0 rfl
      have b1:=HB.out.c7 1 rfl
      dsimp only
      go_wp2_with fail
      refine(HLv.out (w1.alloc (.cells #[.int .i64 2,.int .i64 mo,.string d,.string t,.slice a 0 c] 43)) HB.out.below).mono ?_
      rintro e w2 ⟨hb,hne,rfl⟩
      have HB:=hid (HB.out.kept hb)
      clear b0 b1
      dsimp only
      go_wp2_with (first|(refine zb HB.out 0 rfl 98 _ _ rfl rfl #[.pointer none,.int .i64 0] rfl rfl (by kernel_rfl) rfl rfl (by decide) (by decide) ?_;intro w3 hS hK hbS hsS;have HBS:=hid hS;clear hS hK hbS hsS;have HB:=HBS;clear HBS)|(refine zb HB.out 2 rfl 98 _ _ rfl rfl #[.pointer none,.int .i64 0] rfl rfl (by kernel_rfl) rfl rfl (by decide) (by decide) ?_;intro w4 hS hK hbS hsS;have HBS:=hid hS;clear hS hK hbS hsS;have HB:=HBS;clear HBS)|fail)
      refine bodyPost_ret_by (zh rfl _ _ (w.heap.size+1+1) _ _ rfl (HB.out.obj 2 rfl)) rfl ?_
      exact zj HR.out hne HB.out.below
     |ok l2=>
      have HR:=hid (show Fs.rmdir ⟨l,nx⟩ na= .ok ⟨Fs.dropL l2 i,nx⟩ by rw[hlk,hen])
      rw[show wl (Fs.leaveP l na) nx= .ok ⟨l2,nx⟩ by rw[hen];rfl]at HLv
      have HWo:=hid (λW m5 (hS:Sv W m5 l2)=>kF m5 nx l2 i W hS HXi)
      have HLn:=hid (uA hen hf9)
      clear hlk hen
      go_enter func102,ntmps102
      go_wp2_with fail
      obtain⟨W0,hW,HB⟩:=bx3 w m nx kd oa ob oo og on od;rw[hW];clear hW
      go_wp2_with fail
      refine(HF.out W0 HB.out.below).mono ?_
      rintro e w1 ⟨a,c,rfl,hE,hb⟩
      clear hE
      have HB:=hid (HB.out.kept hb)
      have HB:=hid (HB.out.more #[.int .i64 2,.int .i64 mo,.string d,.string t,.slice a 0 c] 43 rfl)
      have b0:=HB.out.c2 0 rfl
      have b1:=HB.out.c7 1 rfl
      dsimp only
      go_wp2_with fail
      refine(HLv.out (w1.alloc (.cells #[.int .i64 2,.int .i64 mo,.string d,.string t,.slice a 0 c] 43)) HB.out.below).mono ?_
      rintro e w2 ⟨hb,m5,rfl,hS⟩
      have hbk:=hb
      have HS:=hid hS
      clear hS
      have HB:=hid (HB.out.kept hbk)
      clear b0 b1
      clear hbk
      have b0:=HB.out.c2 0 rfl
      dsimp only
      go_wp2_with (first|(refine zb HB.out 0 rfl 98 _ _ rfl rfl #[pv m5,.int .i64 nx] rfl rfl (by kernel_rfl) rfl rfl (by decide) (by decide) ?_;intro w3 hS hK hbS hsS;have HBS:=hid hS;have HS:=hid (HS.out.kept hK (HD.out.below hbS));clear hS hK hbS hsS;have HB:=HBS;clear HBS;clear b0;have b0:=HB.out.c2 0 rfl)|fail)
      refine(HWo.out w3 m5 HS.out HLn.out).mono ?_
      rintro e w4 ⟨m6,rfl,hS,hb⟩
      have hbk:=hb
      have HS:=hid hS
      clear hS
      have HB:=hid (HB.out.kept hbk)
      clear b0
      clear hbk
      dsimp only
      go_wp2_with (first|(refine zb HB.out 2 rfl 98 _ _ rfl rfl #[pv m6,.int .i64 nx] rfl rfl (by kernel_rfl) rfl rfl (by decide) (by decide) ?_;intro w5 hS hK hbS hsS;have HBS:=hid hS;have HS:=hid (HS.out.kept hK (HD.out.below hbS));clear hS hK hbS hsS;have HB:=HBS;clear HBS)|fail)
      refine bodyPost_ret_by (zh rfl _ _ (w.heap.size+1+1) _ _ rfl (HB.out.obj 2 rfl)) rfl ?_
      exact zM HR.out HB.out.below HS.out
    ·rw[if_pos hes]at hlk
     have HR:=hid (show Fs.rmdir ⟨l,nx⟩ na= .error 12 from hlk)
     have hlen:0<es.length:=by cases es with
      |nil=>exact absurd rfl hes
      |cons _ _=>simp
     clear hlk HLv hes
     go_enter func102,ntmps102
     go_wp2_with fail
     obtain⟨W0,hW,HB⟩:=bx3 w m nx kd oa ob oo og on od;rw[hW];clear hW
     go_wp2_with fail
     refine(HF.out W0 HB.out.below).mono ?_
     rintro e w1 ⟨a,c,rfl,hE,hb⟩
     clear hE
     have HB:=hid (HB.out.kept hb)
     have HB:=hid (HB.out.more #[.int .i64 2,.int .i64 mo,.string d,.string t,.slice a es.length c] 43 rfl)
     dsimp only
     go_wp2_with (first|(refine zb HB.out 2 rfl 98 _ _ rfl rfl #[.pointer none,.int .i64 0] rfl rfl (by kernel_rfl) rfl rfl (by decide) (by decide) ?_;intro w2 hS hK hbS hsS;have HBS:=hid hS;clear hS hK hbS hsS;have HB:=HBS;clear HBS)|fail)
     refine bodyPost_ret_by (zh rfl _ _ (w.heap.size+1+1) _ _ rfl (HB.out.obj 2 rfl)) rfl ?_
     exact zj HR.out (by decide) HB.out.below
  ·rw[if_pos hk2]at hlk
   have HR:=hid (show Fs.rmdir ⟨l,nx⟩ na= .error 10 from hlk)
   clear hlk HLv
   go_enter func102,ntmps102
   go_wp2_with fail
   obtain⟨W0,hW,HB⟩:=bx3 w m nx kd oa ob oo og on od;rw[hW];clear hW
   go_wp2_with fail
   refine(HF.out W0 HB.out.below).mono ?_
   rintro e w1 ⟨a,c,rfl,hE,hb⟩
   clear hE
   have HB:=hid (HB.out.kept hb)
   have HB:=hid (HB.out.more #[.int .i64 k,.int .i64 mo,.string d,.string t,.slice a es.length c] 43 rfl)
   dsimp only
   go_wp2_with (first|(refine zb HB.out 2 rfl 98 _ _ rfl rfl #[.pointer none,.int .i64 0] rfl rfl (by kernel_rfl) rfl rfl (by decide) (by decide) ?_;intro w2 hS hK hbS hsS;have HBS:=hid hS;clear hS hK hbS hsS;have HB:=HBS;clear HBS)|fail)
   refine bodyPost_ret_by (zh rfl _ _ (w.heap.size+1+1) _ _ rfl (HB.out.obj 2 rfl)) rfl ?_
   exact zj HR.out (by decide) HB.out.below
end Go.Proofs.YtabmamofnhcgbaaGreatDoor
namespace Go.Proofs.YtabmamofnhcgbaaGreatDoor
open Go.RowKit Go.Less T6
theorem zci{s d:List UInt8}{off:Int}(hs:s.length<=4096)(h:(z8 s off d).2=0):(z8 s off d).1.length<=4096:=by
 unfold z8 at h|-
 split at h
 ·simp at h
 rename_i h1
 rw[if_neg h1]
 split at h
 ·simp at h
 rename_i h2
 rw[if_neg h2]
 show(Chk.put s off.toNat d).length<=4096
 by_cases hd:d=[]
 ·subst hd;rw[Chk.put_nil];exact hs
 ·rw[Chk.put_length hd];omega
theorem zbC{s:List UInt8}{n:Int}(h:(zD s n).2=0):(zD s n).1.length<=4096:=by
 unfold zD at h|-
 split at h
 ·simp at h
 rename_i h1
 rw[if_neg h1]
 split at h
 ·simp at h
 rename_i h2
 rw[if_neg h2]
 show(Chk.trunc s n.toNat).length<=4096
 rw[Chk.trunc_length];omega
theorem ze9{s t:List UInt8}{off f n:Int}(hs:s.length<=4096)(h:(yD s off t f n).2=0):(yD s off t f n).1.length<=4096:=by
 unfold yD at h|-
 split at h
 ·simp at h
 ·rename_i h1
  rw[if_neg h1]
  exact zci hs h
theorem KT{s:ByteArray}{n:Nat}(h:s.size<=n):s.data.toList.length<=n:=by rw[Array.length_toList];exact h
theorem env_ok:Fs.EnvOk env where
 rising:=rising
 few h:=by
  obtain⟨us,hus,rfl⟩:=xU h
  rw[List.length_map]
  exact(yh hus).1
 names h:=vx h
 put s o d hs h:=by
  show(lstr _).size<=4096
  rw[lstr_size]
  exact zci (KT hs) h
 trunc s n h:=by
  show(lstr _).size<=4096
  rw[lstr_size]
  exact zbC h
 copy s o t f n hs h:=by
  show(lstr _).size<=4096
  rw[lstr_size]
  exact ze9 (KT hs) h
theorem dp_of{f:Fs.FS}(H:Fs.Half env f): ∀(k:Nat) {i:Int},(∀rs j,Gr.go (Fs.step f.l) i rs=some j->rs.length<=k)->Dp f.l k i:=by
 intro k
 induction k with
 | zero=>
  intro i h
  show(Fs.nodeD f.l i).ents=[]
  cases hn:Fs.node f.l i with
  |none=>unfold Fs.nodeD;rw[hn];rfl
  | some x=>
   rw[Fs.nodeD_of hn]
   cases hx:x.ents with
   |nil=>rfl
   |cons e es=>
    have:=H.ent_step env_ok hn (e:=e) (by rw[hx];exact List.mem_cons_self)
    have:=h [e.1] e.2 (Gr.go_cons.2 ⟨e.2,this,rfl⟩)
    simp at this
 | succ k ih=>
  intro i h e he
  cases hn:Fs.node f.l i with
  |none=>unfold Fs.nodeD at he;rw[hn]at he;cases he
  | some x=>
   rw[Fs.nodeD_of hn]at he
   have hs:=H.ent_step env_ok hn he
   exact ih λrs j hr=>by
    have:=h (e.1::rs) j (Gr.go_cons.2 ⟨e.2,hs,hr⟩)
    simpa using this
theorem Qg{f:Fs.FS}(H:Fs.Half env f){ns:List ByteArray}{i:Int}(h:Fs.walk f.l 1 ns= .ok i):Dp f.l 9 i:=dp_of H 9 λrs j hr=>by
 have:=H.tree.deep (Gr.go_append_iff.2 ⟨i,H.walk_iff.1 h,hr⟩)
 rw[List.length_append]at this
 omega
theorem YC{a b:ByteArray}{na nb:List ByteArray}(ha:spl a=some na)(hb:spl b=some nb):Nm.within a.data.toList b.data.toList=decide (nb.take na.length=na):=by
 obtain⟨us,hus,rfl⟩:=xU ha
 obtain⟨vs,hvs,rfl⟩:=xU hb
 unfold Nm.within
 rw[hus,hvs]
 have hinj: ∀u v:List (List UInt8),u.map lstr=v.map lstr↔u=v:=λu v=>by
  constructor
  ·intro h
   have:=congrArg dat h
   rwa [jf,jf]at this
  ·intro h;rw[h]
 rw[List.length_map,<-List.map_take]
 show us.isPrefixOf vs=_
 cases hp:us.isPrefixOf vs with
 |true=>
  obtain⟨z,rfl⟩:=(Nm.isPrefixOf_iff us vs).1 hp
  exact(decide_eq_true (by rw[List.take_append_of_le_length (Nat.le_refl _),List.take_length])).symm
 |false=>
  refine(decide_eq_false λh=> ?_).symm
  have h2:=(hinj _ _).1 h
  rw[(Nm.isPrefixOf_iff us vs).2 ⟨vs.drop us.length,by conv=>lhs;rw[<-List.take_append_drop us.length vs,h2]⟩]at hp
  cases hp
theorem KS{b:ByteArray}{nb:List ByteArray}(h:spl b=some nb)(hne:nb≠[]):Lib.countByte b.data.toList 47=nb.length:=by
 obtain⟨us,hus,rfl⟩:=xU h
 obtain⟨hp,-,hr⟩:=Nm.split_path hus
 rw[hp]
 unfold Nm.pathOf
 rw[if_neg (λe=>hne (by rw[e];rfl)),List.length_map]
 unfold Lib.countByte
 clear hp hus h hne
 revert hr
 induction us with
 |nil=>intro _;rfl
 |cons u us ih=>
  intro hr
  rw[List.all_cons,Bool.and_eq_true]at hr
  have h0:List.count 47 u=0:=List.count_eq_zero.2 λhm=>Nm.right_none hr.1 _ hm rfl
  rw[List.map_cons,List.flatten_cons,List.count_append,List.count_cons,h0,ih hr.2,List.length_cons]
  simp
  omega
theorem Ur{l:List Fs.Item}{ns:List ByteArray}{r:Int×ByteArray}(h:Fs.fresh l ns= .ok r):ns≠[]:=λe=>by rw[e]at h;cases h
end Go.Proofs.YtabmamofnhcgbaaGreatDoor
namespace Go.Proofs.YtabmamofnhcgbaaGreatDoor
open Go.RowKit Go.Less
open T8 (pv Dg yx)
attribute [local go_sem 9000] zg zf
theorem Z8{l l1:List Fs.Item}{ns:List ByteArray}{i:Int}(h:Fs.enterP env l ns i= .ok l1): ∃d y,(Fs.node l d).isSome=true/\l1=Fs.setL l d y:=by
 unfold Fs.enterP at h
 cases hp:Fs.place l ns with
 |error e=>rw[hp]at h;cases h
 | ok r=>
  obtain⟨d,n⟩:=r
  rw[hp]at h
  simp only at h
  split at h
  ·cases h
  ·injection h with h
   exact⟨d,_,uu hp,h.symm⟩
theorem Kq{l l1:List Fs.Item}{ns:List ByteArray}{i:Int}(h:Fs.enterP env l ns i= .ok l1)(hl:l.length<=900):l1.length<=900:=by
 obtain⟨d,y,hd,rfl⟩:=Z8 h
 rw[Fs.len_set,if_pos hd];exact hl
theorem zaT{l l1:List Fs.Item}{ns:List ByteArray}{i k:Int}(h:Fs.enterP env l ns i= .ok l1)(hl: ∀y∈l,y.1<k): ∀y∈l1,y.1<k:=by
 obtain⟨d,y,hd,rfl⟩:=Z8 h
 intro z hz
 unfold Fs.setL at hz
 rw[if_pos hd,List.append_nil]at hz
 obtain⟨u,hu,rfl⟩:=List.mem_map.1 hz
 split
 ·rename_i e;exact e▸hl u hu
 ·exact hl u hu
theorem uW(m:Option Nat)(nx:Int)(l:List Fs.Item)(p:ByteArray)(k mo:Int)(d t:ByteArray)(w:World)(h:Sv w m l)(hf9:l.length<=900)(pp:p.size<=140737488355328){ns:List ByteArray}(hs:spl p=some ns)(hnx:1<=nx/\nx<=2147483646)(hin: ∀y∈l,y.1<nx){R:Except Int Fs.FS}(hR:R=match Fs.fresh l ns with
   | .error e=> .error e
   | .ok (dn,_)=>if ndr k mo d t []=false then .error 1 else if 64<=(Fs.nodeD l dn).ents.length then .error 3 else if 256<=l.length then .error 6 else match Fs.enterP env l ns nx with
    | .error e=> .error e
    | .ok l1=> .ok ⟨Fs.setL l1 nx ⟨k,mo,d,t,[]⟩,nx+1⟩):Calls prog 133 #[stv m nx,.string p,nv k mo d t none 0 0] w (zP R w):=by
 have HGp:=hid (λW (hbw:Below w.heap.size w W)=>ZI m nx l p ns W (h.below hbw) pp hs)
 have HEnt:=hid (λW (hbw:Below w.heap.size w W)=>uw m nx l p ns nx W (h.below hbw) pp hs ⟨hnx.1,by omega⟩ hf9)
 have HLe:=hid (λW (hbw:Below w.heap.size w W)=>yx (h.rp.below hbw))
 rw[Fs.kv_len]at HLe
 have HNd:=hid (λW=>uY k mo d t none 0 0 [] W (zs W) (by decide) (by intro j hj;omega))
 have HD:=hid h.dg
 have HSm:=hid h.ok.small
 cases hfr:Fs.fresh l ns with
 |error ec=>
  rw[hfr]at HGp hR
  have HR:=hid hR
  have hne:=kN hfr
  clear hR hfr HEnt HLe HNd HD HSm h hs hin
  have HB:=hid (show Bxs w [(w.heap.size,#[pv m,.int .i64 nx],98),(w.heap.size+1,#[.int .i64 k,.int .i64 mo,.string d,.string t,.slice none 0 0],43),(w.heap.size+1+1,#[.pointer none,.int .i64 0],98)] (((w.alloc (.cells #[pv m,.int .i64 nx] 98)).alloc (.cells #[.int .i64 k,.int .i64 mo,.string d,.string t,.slice none 0 0] 43)).alloc (.cells #[.pointer none,.int .i64 0] 98))from Bxs.three w _ _ _ _ _ _)
  go_enter func133,ntmps133
  go_wp2_with fail
  generalize ((w.alloc (.cells #[pv m,.int .i64 nx] 98)).alloc (.cells #[.int .i64 k,.int .i64 mo,.string d,.string t,.slice none 0 0] 43)).alloc (.cells #[.pointer none,.int .i64 0] 98)=W0 at HB|-
  go_wp2_with fail
  refine(HGp.out W0 HB.out.below).mono ?_
  rintro e w1 ⟨hb,_,rfl⟩
  have HB:=hid (HB.out.kept hb)
  have HB:=hid (HB.out.more #[.int .i64 0,.int .i64 0,.int .i64 0,.string ⟨#[]⟩,.string ⟨#[]⟩,.slice none 0 0,.string ⟨#[]⟩] 199 rfl)
  dsimp only
  go_wp2_with (first|(refine zb HB.out 2 rfl 98 _ _ rfl rfl #[.pointer none,.int .i64 0] rfl rfl (by kernel_rfl) rfl rfl (by decide) (by decide) ?_;intro w2 hS hK hbS hsS;have HBS:=hid hS;clear hS hK hbS hsS;have HB:=HBS;clear HBS)|fail)
  refine bodyPost_ret_by (zh rfl _ _ (w.heap.size+1+1) _ _ rfl (HB.out.obj 2 rfl)) rfl ?_
  exact zj HR.out hne HB.out.below
 | ok r=>
  obtain⟨dn,y1⟩:=r
  rw[hfr]at HGp hR
  simp only at hR
  obtain⟨x1,hx1⟩: ∃x,Fs.nodeD l dn=x:=⟨_,rfl⟩
  have hs1:=HSm.out dn
  rw[hx1]at hR hs1
  have HGo:=hid (show∀W,Below w.heap.size w W->Calls prog 139 #[stv m nx,.string p] W λe w'=>Below W.heap.size W w'/\ ∃a c,e= .returned (.tuple #[.agg #[.int .i64 dn,.int .i64 x1.kind,.int .i64 x1.mode,.string x1.data,.string x1.target,.slice a x1.ents.length c,.string y1],.int .i64 0])/\Ents a x1.ents.length x1.ents w' from λW hb=>(HGp.out W hb).mono λe w' hx=>by
   obtain⟨hx3,hx4⟩:=hx
   simp only[hx1]at hx4
   exact⟨hx3,hx4⟩)
  clear HGp hfr hs HSm
  obtain⟨k1,m1,d1,t1,e1⟩:=x1
  dsimp only at HGo hR hs1
  have HFu:=hid (λ(a:Option Addr) (c:Nat) W=>jY k1 m1 d1 t1 a e1.length c W (by omega))
  clear hx1
  cases hnd:ndr k mo d t []with
  |false=>
   rw[hnd]at HNd
   have HR:=hid (show R= .error 1 by rw[hR,if_pos hnd])
   clear hR HEnt HLe HFu hnd h hin
   have HB:=hid (show Bxs w [(w.heap.size,#[pv m,.int .i64 nx],98),(w.heap.size+1,#[.int .i64 k,.int .i64 mo,.string d,.string t,.slice none 0 0],43),(w.heap.size+1+1,#[.pointer none,.int .i64 0],98)] (((w.alloc (.cells #[pv m,.int .i64 nx] 98)).alloc (.cells #[.int .i64 k,.int .i64 mo,.string d,.string t,.slice none 0 0] 43)).alloc (.cells #[.pointer none,.int .i64 0] 98))from Bxs.three w _ _ _ _ _ _)
   go_enter func133,ntmps133
   go_wp2_with fail
   generalize ((w.alloc (.cells #[pv m,.int .i64 nx] 98)).alloc (.cells #[.int .i64 k,.int .i64 mo,.string d,.string t,.slice none 0 0] 43)).alloc (.cells #[.pointer none,.int .i64 0] 98)=W0 at HB|-
   go_wp2_with fail
   refine(HGo.out W0 HB.out.below).mono ?_
   rintro e w1 ⟨hb,a1,c1,rfl,hE1⟩
   clear hE1
   have HB:=hid (HB.out.kept hb)
   have HB:=hid (HB.out.more #[.int .i64 dn,.int .i64 k1,.int .i64 m1,.string d1,.string t1,.slice a1 e1.length c1,.string y1] 199 rfl)
   have b1:=HB.out.c5 1 rfl
   dsimp only
   go_wp2_with fail
   refine(HNd.out (w1.alloc (.cells #[.int .i64 dn,.int .i64 k1,.int .i64 m1,.string d1,.string t1,.slice a1 e1.length c1,.string y1] 199))).mono ?_
   rintro e w2 ⟨rfl,hb⟩
   have HB:=hid (HB.out.kept hb)
   clear b1
   dsimp only
   go_wp2_with (first|(refine zb HB.out 2 rfl 98 _ _ rfl rfl #[.pointer none,.int .i64 0] rfl rfl (by kernel_rfl) rfl rfl (by decide) (by decide) ?_;intro w3 hS hK hbS hsS;have HBS:=hid hS;clear hS hK hbS hsS;have HB:=HBS;clear HBS)|fail)
   refine bodyPost_ret_by (zh rfl _ _ (w.heap.size+1+1) _ _ rfl (HB.out.obj 2 rfl)) rfl ?_
   exact zj HR.out (by decide) HB.out.below
  | true=>
   rw[hnd]at HNd
   rw[if_neg (by rw[hnd];decide)]at hR
   by_cases hfull:64<=e1.length
   ·rw[show decide ((64:Int)<=(e1.length:Int))=true from decide_eq_true (by omega)]at HFu
    have HR:=hid (show R= .error 3 by rw[hR,if_pos hfull])
    clear hR HEnt HLe hnd h hin
    have HB:=hid (show Bxs w [(w.heap.size,#[pv m,.int .i64 nx],98),(w.heap.size+1,#[.int .i64 k,.int .i64 mo,.string d,.string t,.slice none 0 0],43),(w.heap.size+1+1,#[.pointer none,.int .i64 0],98)] (((w.alloc (.cells #[pv m,.int .i64 nx] 98)).alloc (.cells #[.int .i64 k,.int .i64 mo,.string d,.string t,.slice none 0 0] 43)).alloc (.cells #[.pointer none,.int .i64 0] 98))from Bxs.three w _ _ _ _ _ _)
    go_enter func133,ntmps133
    go_wp2_with fail
    generalize ((w.alloc (.cells #[pv m,.int .i64 nx] 98)).alloc (.cells #[.int .i64 k,.int .i64 mo,.string d,.string t,.slice none 0 0] 43)).alloc (.cells #[.pointer none,.int .i64 0] 98)=W0 at HB|-
    go_wp2_with fail
    refine(HGo.out W0 HB.out.below).mono ?_
    rintro e w1 ⟨hb,a1,c1,rfl,hE1⟩
    clear hE1
    have HB:=hid (HB.out.kept hb)
    have HB:=hid (HB.out.more #[.int .i64 dn,.int .i64 k1,.int .i64 m1,.string d1,.string t1,.slice a1 e1.length c1,.string y1] 199 rfl)
    have b1:=HB.out.c5 1 rfl
    dsimp only
    go_wp2_with fail
    refine(HNd.out (w1.alloc (.cells #[.int .i64 dn,.int .i64 k1,.int .i64 m1,.string d1,.string t1,.slice a1 e1.length c1,.string y1] 199))).mono ?_
    rintro e w2 ⟨rfl,hb⟩
    have HB:=hid (HB.out.kept hb)
    clear b1
    have b3:=HB.out.c7 3 rfl
    dsimp only
    go_wp2_with fail
    refine(HFu.out a1 c1 w2).mono ?_
    rintro e w3 ⟨rfl,hb⟩
    have HB:=hid (HB.out.kept hb)
    clear b3
    dsimp only
    go_wp2_with (first|(refine zb HB.out 2 rfl 98 _ _ rfl rfl #[.pointer none,.int .i64 0] rfl rfl (by kernel_rfl) rfl rfl (by decide) (by decide) ?_;intro w4 hS hK hbS hsS;have HBS:=hid hS;clear hS hK hbS hsS;have HB:=HBS;clear HBS)|fail)
    refine bodyPost_ret_by (zh rfl _ _ (w.heap.size+1+1) _ _ rfl (HB.out.obj 2 rfl)) rfl ?_
    exact zj HR.out (by decide) HB.out.below
   ·rw[show decide ((64:Int)<=(e1.length:Int))=false from decide_eq_false (by omega)]at HFu
    rw[if_neg hfull]at hR
    by_cases hmany:256<=l.length
    ·have hmi:(256:Int)<=(l.length:Int):=by omega
     have HR:=hid (show R= .error 6 by rw[hR,if_pos hmany])
     clear hR HEnt hnd h hin hfull hs1
     have HB:=hid (show Bxs w [(w.heap.size,#[pv m,.int .i64 nx],98),(w.heap.size+1,#[.int .i64 k,.int .i64 mo,.string d,.string t,.slice none 0 0],43),(w.heap.size+1+1,#[.pointer none,.int .i64 0],98)] (((w.alloc (.cells #[pv m,.int .i64 nx] 98)).alloc (.cells #[.int .i64 k,.int .i64 mo,.string d,.string t,.slice none 0 0] 43)).alloc (.cells #[.pointer none,.int .i64 0] 98))from Bxs.three w _ _ _ _ _ _)
     go_enter func133,ntmps133
     go_wp2_with fail
     generalize ((w.alloc (.cells #[pv m,.int .i64 nx] 98)).alloc (.cells #[.int .i64 k,.int .i64 mo,.string d,.string t,.slice none 0 0] 43)).alloc (.cells #[.pointer none,.int .i64 0] 98)=W0 at HB|-
     go_wp2_with fail
     refine(HGo.out W0 HB.out.below).mono ?_
     rintro e w1 ⟨hb,a1,c1,rfl,hE1⟩
     clear hE1
     have HB:=hid (HB.out.kept hb)
     have HB:=hid (HB.out.more #[.int .i64 dn,.int .i64 k1,.int .i64 m1,.string d1,.string t1,.slice a1 e1.length c1,.string y1] 199 rfl)
     have b1:=HB.out.c5 1 rfl
     dsimp only
     go_wp2_with fail
     refine(HNd.out (w1.alloc (.cells #[.int .i64 dn,.int .i64 k1,.int .i64 m1,.string d1,.string t1,.slice a1 e1.length c1,.string y1] 199))).mono ?_
     rintro e w2 ⟨rfl,hb⟩
     have HB:=hid (HB.out.kept hb)
     clear b1
     have b3:=HB.out.c7 3 rfl
     dsimp only
     go_wp2_with fail
     refine(HFu.out a1 c1 w2).mono ?_
     rintro e w3 ⟨rfl,hb⟩
     have HB:=hid (HB.out.kept hb)
     clear b3
     have b0:=HB.out.c2 0 rfl
     dsimp only
     go_wp2_with fail
     refine(HLe.out w3 HB.out.below).mono ?_
     rintro e w4 ⟨rfl,hb⟩
     have HB:=hid (HB.out.kept hb)
     clear b0
     dsimp only
     go_wp2_with (first|(refine zb HB.out 2 rfl 98 _ _ rfl rfl #[.pointer none,.int .i64 0] rfl rfl (by kernel_rfl) rfl rfl (by decide) (by decide) ?_;intro w5 hS hK hbS hsS;have HBS:=hid hS;clear hS hK hbS hsS;have HB:=HBS;clear HBS)|fail)
     refine bodyPost_ret_by (zh rfl _ _ (w.heap.size+1+1) _ _ rfl (HB.out.obj 2 rfl)) rfl ?_
     exact zj HR.out (by decide) HB.out.below
    ·have hmi: ¬ ((256:Int)<=(l.length:Int)):=by omega
     rw[if_neg hmany]at hR
     cases hen:Fs.enterP env l ns nx with
     |error ec=>
      rw[hen]at hR
      have HR:=hid hR
      rw[show wl (Fs.enterP env l ns nx) nx= .error ec by rw[hen];rfl]at HEnt
      clear hR hnd h hin hfull hs1 hen hmany
      have HB:=hid (show Bxs w [(w.heap.size,#[pv m,.int .i64 nx],98),(w.heap.size+1,#[.int .i64 k,.int .i64 mo,.string d,.string t,.slice none 0 0],43),(w.heap.size+1+1,#[.pointer none,.int .i64 0],98)] (((w.alloc (.cells #[pv m,.int .i64 nx] 98)).alloc (.cells #[.int .i64 k,.int .i64 mo,.string d,.string t,.slice none 0 0] 43)).alloc (.cells #[.pointer none,.int .i64 0] 98))from Bxs.three w _ _ _ _ _ _)
      go_enter func133,ntmps133
      go_wp2_with fail
      generalize ((w.alloc (.cells #[pv m,.int .i64 nx] 98)).alloc (.cells #[.int .i64 k,.int .i64 mo,.string d,.string t,.slice none 0 0] 43)).alloc (.cells #[.pointer none,.int .i64 0] 98)=W0 at HB|-
      go_wp2_with fail
      refine(HGo.out W0 HB.out.below).mono ?_
      rintro e w1 ⟨hb,a1,c1,rfl,hE1⟩
      clear hE1
      have HB:=hid (HB.out.kept hb)
      have HB:=hid (HB.out.more #[.int .i64 dn,.int .i64 k1,.int .i64 m1,.string d1,.string t1,.slice a1 e1.length c1,.string y1] 199 rfl)
      have b1:=HB.out.c5 1 rfl
      dsimp only
      go_wp2_with fail
      refine(HNd.out (w1.alloc (.cells #[.int .i64 dn,.int .i64 k1,.int .i64 m1,.string d1,.string t1,.slice a1 e1.length c1,.string y1] 199))).mono ?_
      rintro e w2 ⟨rfl,hb⟩
      have HB:=hid (HB.out.kept hb)
      clear b1
      have b3:=HB.out.c7 3 rfl
      dsimp only
      go_wp2_with fail
      refine(HFu.out a1 c1 w2).mono ?_
      rintro e w3 ⟨rfl,hb⟩
      have HB:=hid (HB.out.kept hb)
      clear b3
      have b0:=HB.out.c2 0 rfl
      dsimp only
      go_wp2_with fail
      refine(HLe.out w3 HB.out.below).mono ?_
      rintro e w4 ⟨rfl,hb⟩
      have HB:=hid (HB.out.kept hb)
      clear b0
      have b0:=HB.out.c2 0 rfl
      dsimp only
      go_wp2_with fail
      refine(HEnt.out w4 HB.out.below).mono ?_
      rintro e w5 ⟨hb,hne,rfl⟩
      have HB:=hid (HB.out.kept hb)
      clear b0
      dsimp only
      go_wp2_with (first|(refine zb HB.out 0 rfl 98 _ _ rfl rfl #[.pointer none,.int .i64 0] rfl rfl (by kernel_rfl) rfl rfl (by decide) (by decide) ?_;intro w6 hS hK hbS hsS;have HBS:=hid hS;clear hS hK hbS hsS;have HB:=HBS;clear HBS)|(refine zb HB.out 2 rfl 98 _ _ rfl rfl #[.pointer none,.int .i64 0] rfl rfl (by kernel_rfl) rfl rfl (by decide) (by decide) ?_;intro w7 hS hK hbS hsS;have HBS:=hid hS;clear hS hK hbS hsS;have HB:=HBS;clear HBS)|fail)
      refine bodyPost_ret_by (zh rfl _ _ (w.heap.size+1+1) _ _ rfl (HB.out.obj 2 rfl)) rfl ?_
      exact zj HR.out hne HB.out.below
     |ok l1=>
      rw[hen]at hR
      have HR:=hid hR
      rw[show wl (Fs.enterP env l ns nx) nx= .ok ⟨l1,nx⟩ by rw[hen];rfl]at HEnt
      have hln:=Kq hen hf9
      have hlt:=zaT hen hin
      have hRx:=ndr_right.1 hnd
      have HWi:=hid (λm5 W (hS:Sv W m5 l1)=>vz m5 nx l1 nx ⟨k,mo,d,t,[]⟩ none 0 W hS (zs W) hRx ⟨hnx.1,by omega⟩ (.inr hlt) hln)
      have hwr:IntKind.i64.wrap (nx+1)=nx+1:=IntWalk.i64_in _ (by omega)
      clear hR hnd h hin hfull hs1 hen hmany hlt hRx
      have HB:=hid (show Bxs w [(w.heap.size,#[pv m,.int .i64 nx],98),(w.heap.size+1,#[.int .i64 k,.int .i64 mo,.string d,.string t,.slice none 0 0],43),(w.heap.size+1+1,#[.pointer none,.int .i64 0],98)] (((w.alloc (.cells #[pv m,.int .i64 nx] 98)).alloc (.cells #[.int .i64 k,.int .i64 mo,.string d,.string t,.slice none 0 0] 43)).alloc (.cells #[.pointer none,.int .i64 0] 98))from Bxs.three w _ _ _ _ _ _)
      go_enter func133,ntmps133
      go_wp2_with fail
      generalize ((w.alloc (.cells #[pv m,.int .i64 nx] 98)).alloc (.cells #[.int .i64 k,.int .i64 mo,.string d,.string t,.slice none 0 0] 43)).alloc (.cells #[.pointer none,.int .i64 0] 98)=W0 at HB|-
      go_wp2_with fail
      refine(HGo.out W0 HB.out.below).mono ?_
      rintro e w1 ⟨hb,a1,c1,rfl,hE1⟩
      clear hE1
      have HB:=hid (HB.out.kept hb)
      have HB:=hid (HB.out.more #[.int .i64 dn,.int .i64 k1,.int .i64 m1,.string d1,.string t1,.slice a1 e1.length c1,.string y1] 199 rfl)
      have b1:=HB.out.c5 1 rfl
      dsimp only
      go_wp2_with fail
      refine(HNd.out (w1.alloc (.cells #[.int .i64 dn,.int .i64 k1,.int .i64 m1,.string d1,.string t1,.slice a1 e1.length c1,.string y1] 199))).mono ?_
      rintro e w2 ⟨rfl,hb⟩
      have HB:=hid (HB.out.kept hb)
      clear b1
      have b3:=HB.out.c7 3 rfl
      dsimp only
      go_wp2_with fail
      refine(HFu.out a1 c1 w2).mono ?_
      rintro e w3 ⟨rfl,hb⟩
      have HB:=hid (HB.out.kept hb)
      clear b3
      have b0:=HB.out.c2 0 rfl
      dsimp only
      go_wp2_with fail
      refine(HLe.out w3 HB.out.below).mono ?_
      rintro e w4 ⟨rfl,hb⟩
      have HB:=hid (HB.out.kept hb)
      clear b0
      have b0:=HB.out.c2 0 rfl
      dsimp only
      go_wp2_with fail
      refine(HEnt.out w4 HB.out.below).mono ?_
      rintro e w5 ⟨hb,m5,rfl,hS⟩
      have hbk:=hb
      have HS:=hid hS
      clear hS
      have HB:=hid (HB.out.kept hbk)
      clear b0
      clear hbk
      have b0:=HB.out.c2 0 rfl
      have b1:=HB.out.c5 1 rfl
      dsimp only
      go_wp2_with (first|(refine zb HB.out 0 rfl 98 _ _ rfl rfl #[pv m5,.int .i64 nx] rfl rfl (by kernel_rfl) rfl rfl (by decide) (by decide) ?_;intro w6 hS hK hbS hsS;have HBS:=hid hS;have HS:=hid (HS.out.kept hK (HD.out.below hbS));clear hS hK hbS hsS;have HB:=HBS;clear HBS;clear b0 b1;have b0:=HB.out.c2 0 rfl;have b1:=HB.out.c5 1 rfl)|fail)
      refine(HWi.out m5 w6 HS.out).mono ?_
      rintro e w7 ⟨m6,rfl,hS,hb⟩
      have hbk:=hb
      have HS:=hid hS
      clear hS
      have HB:=hid (HB.out.kept hbk)
      clear b0 b1
      clear hbk
      have b0:=HB.out.c2 0 rfl
      dsimp only
      go_wp2_with (first|(refine zb HB.out 0 rfl 98 _ _ rfl rfl #[pv m6,.int .i64 nx] rfl rfl (by kernel_rfl) rfl rfl (by decide) (by decide) ?_;intro w8 hS hK hbS hsS;have HBS:=hid hS;have HS:=hid (HS.out.kept hK (HD.out.below hbS));clear hS hK hbS hsS;have HB:=HBS;clear HBS;clear b0;have b0:=HB.out.c2 0 rfl;have fz0_1:w8.frozen? ⟨w.heap.size,1,none⟩=false:=HB.out.free 0 rfl 1;have HBq:=HB;have HB:=hid (show Bxs w [(w.heap.size,#[pv m6,.int .i64 (nx+1)],98),(w.heap.size+1,#[.int .i64 k,.int .i64 mo,.string d,.string t,.slice none 0 0],43),(w.heap.size+1+1,#[.pointer none,.int .i64 0],98),(w1.heap.size,#[.int .i64 dn,.int .i64 k1,.int .i64 m1,.string d1,.string t1,.slice a1 e1.length c1,.string y1],199)] (w8.setCell ⟨w.heap.size,1,none⟩ (.int .i64 (nx+1)))from HBq.out.put 0 rfl 1 (.int .i64 (nx+1)));have HS:=hid (HS.out.kept (Kept.cell (HBq.out.obj 0 rfl) (by decide) (by decide) 1 (.int .i64 (nx+1))) (HD.out.below HB.out.below));have c0_0:(w8.setCell ⟨w.heap.size,1,none⟩ (.int .i64 (nx+1))).cell? ⟨w.heap.size,0,none⟩=some (pv m6):=HB.out.cell 0 rfl 0;have c0_1:(w8.setCell ⟨w.heap.size,1,none⟩ (.int .i64 (nx+1))).cell? ⟨w.heap.size,1,none⟩=some (.int .i64 (nx+1)):=HB.out.cell 0 rfl 1)|(refine zb HB.out 2 rfl 98 _ _ rfl rfl #[pv m6,.int .i64 (nx+1)] rfl rfl (by kernel_rfl) rfl rfl (by decide) (by decide) ?_;intro w9 hS hK hbS hsS;have HBS:=hid hS;have HS:=hid (HS.out.kept hK (HD.out.below hbS));clear hS hK hbS hsS;have HB:=HBS;clear HBS;clear b0 c0_0 c0_1 fz0_1;have b0:=HB.out.c2 0 rfl)|fail)
      refine bodyPost_ret_by (zh rfl _ _ (w.heap.size+1+1) _ _ rfl (HB.out.obj 2 rfl)) rfl ?_
      exact zM HR.out HB.out.below HS.out
theorem Ys(m:Option Nat)(nx:Int)(kd:Int)(oa ob:ByteArray)(oo og on:Int)(od:ByteArray)(w:World){R:Except Int Fs.FS}(hC: ∀W,Below w.heap.size w W->Calls prog 133 #[stv m nx,.string oa,nv 1 on ⟨#[]⟩ ⟨#[]⟩ none 0 0] W (zP R W))(hD:Dg w):Calls prog 97 #[stv m nx,.agg #[.int .i64 kd,.string oa,.string ob,.int .i64 oo,.int .i64 og,.int .i64 on,.string od]] w (zP R w):=by
 have HC:=hid hC
 have HD:=hid hD
 clear hC hD
 cases R with
 |error ec=>
  go_enter func97,ntmps97
  go_wp2_with fail
  obtain⟨W0,hW,HB⟩:=bx3 w m nx kd oa ob oo og on od;rw[hW];clear hW
  go_wp2_with fail
  refine(HC.out W0 HB.out.below).mono ?_
  rintro e w1 ⟨hb,hne,rfl⟩
  have HB:=hid (HB.out.kept hb)
  dsimp only
  go_wp2_with (first|(refine zb HB.out 2 rfl 98 _ _ rfl rfl #[.pointer none,.int .i64 0] rfl rfl (by kernel_rfl) rfl rfl (by decide) (by decide) ?_;intro w2 hS hK hbS hsS;have HBS:=hid hS;clear hS hK hbS hsS;have HB:=HBS;clear HBS)|fail)
  refine bodyPost_ret_by (zh rfl _ _ (w.heap.size+1+1) _ _ rfl (HB.out.obj 2 rfl)) rfl ?_
  exact zj rfl hne HB.out.below
 |ok f=>
  obtain⟨l2,n2⟩:=f
  go_enter func97,ntmps97
  go_wp2_with fail
  obtain⟨W0,hW,HB⟩:=bx3 w m nx kd oa ob oo og on od;rw[hW];clear hW
  go_wp2_with fail
  refine(HC.out W0 HB.out.below).mono ?_
  rintro e w1 ⟨hb,m6,rfl,hS⟩
  have HS:=hid hS
  clear hS
  have HB:=hid (HB.out.kept hb)
  dsimp only
  go_wp2_with (first|(refine zb HB.out 2 rfl 98 _ _ rfl rfl #[pv m6,.int .i64 n2] rfl rfl (by kernel_rfl) rfl rfl (by decide) (by decide) ?_;intro w2 hS hK hbS hsS;have HBS:=hid hS;have HS:=hid (HS.out.kept hK (HD.out.below hbS));clear hS hK hbS hsS;have HB:=HBS;clear HBS)|fail)
  refine bodyPost_ret_by (zh rfl _ _ (w.heap.size+1+1) _ _ rfl (HB.out.obj 2 rfl)) rfl ?_
  exact zM rfl HB.out.below HS.out
theorem XO(m:Option Nat)(nx:Int)(kd:Int)(oa ob:ByteArray)(oo og on:Int)(od:ByteArray)(w:World){R:Except Int Fs.FS}(hC: ∀W,Below w.heap.size w W->Calls prog 133 #[stv m nx,.string oa,nv 2 on ⟨#[]⟩ ⟨#[]⟩ none 0 0] W (zP R W))(hD:Dg w):Calls prog 98 #[stv m nx,.agg #[.int .i64 kd,.string oa,.string ob,.int .i64 oo,.int .i64 og,.int .i64 on,.string od]] w (zP R w):=by
 have HC:=hid hC
 have HD:=hid hD
 clear hC hD
 cases R with
 |error ec=>
  go_enter func98,ntmps98
  go_wp2_with fail
  obtain⟨W0,hW,HB⟩:=bx3 w m nx kd oa ob oo og on od;rw[hW];clear hW
  go_wp2_with fail
  refine(HC.out W0 HB.out.below).mono ?_
  rintro e w1 ⟨hb,hne,rfl⟩
  have HB:=hid (HB.out.kept hb)
  dsimp only
  go_wp2_with (first|(refine zb HB.out 2 rfl 98 _ _ rfl rfl #[.pointer none,.int .i64 0] rfl rfl (by kernel_rfl) rfl rfl (by decide) (by decide) ?_;intro w2 hS hK hbS hsS;have HBS:=hid hS;clear hS hK hbS hsS;have HB:=HBS;clear HBS)|fail)
  refine bodyPost_ret_by (zh rfl _ _ (w.heap.size+1+1) _ _ rfl (HB.out.obj 2 rfl)) rfl ?_
  exact zj rfl hne HB.out.below
 |ok f=>
  obtain⟨l2,n2⟩:=f
  go_enter func98,ntmps98
  go_wp2_with fail
  obtain⟨W0,hW,HB⟩:=bx3 w m nx kd oa ob oo og on od;rw[hW];clear hW
  go_wp2_with fail
  refine(HC.out W0 HB.out.below).mono ?_
  rintro e w1 ⟨hb,m6,rfl,hS⟩
  have HS:=hid hS
  clear hS
  have HB:=hid (HB.out.kept hb)
  dsimp only
  go_wp2_with (first|(refine zb HB.out 2 rfl 98 _ _ rfl rfl #[pv m6,.int .i64 n2] rfl rfl (by kernel_rfl) rfl rfl (by decide) (by decide) ?_;intro w2 hS hK hbS hsS;have HBS:=hid hS;have HS:=hid (HS.out.kept hK (HD.out.below hbS));clear hS hK hbS hsS;have HB:=HBS;clear HBS)|fail)
  refine bodyPost_ret_by (zh rfl _ _ (w.heap.size+1+1) _ _ rfl (HB.out.obj 2 rfl)) rfl ?_
  exact zM rfl HB.out.below HS.out
theorem XN(m:Option Nat)(nx:Int)(kd:Int)(oa ob:ByteArray)(oo og on:Int)(od:ByteArray)(w:World){R:Except Int Fs.FS}(hC: ∀W,Below w.heap.size w W->Calls prog 133 #[stv m nx,.string oa,nv 3 511 ⟨#[]⟩ od none 0 0] W (zP R W))(hD:Dg w):Calls prog 99 #[stv m nx,.agg #[.int .i64 kd,.string oa,.string ob,.int .i64 oo,.int .i64 og,.int .i64 on,.string od]] w (zP R w):=by
 have HC:=hid hC
 have HD:=hid hD
 clear hC hD
 cases R with
 |error ec=>
  go_enter func99,ntmps99
  go_wp2_with fail
  obtain⟨W0,hW,HB⟩:=bx3 w m nx kd oa ob oo og on od;rw[hW];clear hW
  go_wp2_with fail
  refine(HC.out W0 HB.out.below).mono ?_
  rintro e w1 ⟨hb,hne,rfl⟩
  have HB:=hid (HB.out.kept hb)
  dsimp only
  go_wp2_with (first|(refine zb HB.out 2 rfl 98 _ _ rfl rfl #[.pointer none,.int .i64 0] rfl rfl (by kernel_rfl) rfl rfl (by decide) (by decide) ?_;intro w2 hS hK hbS hsS;have HBS:=hid hS;clear hS hK hbS hsS;have HB:=HBS;clear HBS)|fail)
  refine bodyPost_ret_by (zh rfl _ _ (w.heap.size+1+1) _ _ rfl (HB.out.obj 2 rfl)) rfl ?_
  exact zj rfl hne HB.out.below
 |ok f=>
  obtain⟨l2,n2⟩:=f
  go_enter func99,ntmps99
  go_wp2_with fail
  obtain⟨W0,hW,HB⟩:=bx3 w m nx kd oa ob oo og on od;rw[hW];clear hW
  go_wp2_with fail
  refine(HC.out W0 HB.out.below).mono ?_
  rintro e w1 ⟨hb,m6,rfl,hS⟩
  have HS:=hid hS
  clear hS
  have HB:=hid (HB.out.kept hb)
  dsimp only
  go_wp2_with (first|(refine zb HB.out 2 rfl 98 _ _ rfl rfl #[pv m6,.int .i64 n2] rfl rfl (by kernel_rfl) rfl rfl (by decide) (by decide) ?_;intro w2 hS hK hbS hsS;have HBS:=hid hS;have HS:=hid (HS.out.kept hK (HD.out.below hbS));clear hS hK hbS hsS;have HB:=HBS;clear HBS)|fail)
  refine bodyPost_ret_by (zh rfl _ _ (w.heap.size+1+1) _ _ rfl (HB.out.obj 2 rfl)) rfl ?_
  exact zM rfl HB.out.below HS.out
end Go.Proofs.YtabmamofnhcgbaaGreatDoor
