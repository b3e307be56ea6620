/- A part of the proofs. -/
import Derived.Maps.OwnSet
import Derived.Test.YtabmamofnhcgbaaGreatDoorC17
set_option maxRecDepth 1000000
set_option maxHeartbeats 16000000
open Go.Lib (hid)
open Go.Proofs.Tryz
namespace Go.Proofs.YtabmamofnhcgbaaGreatDoor
open T6
open Go.RowKit Go.Less
open T8 (pv Dg)
attribute [local go_sem 9000] zg zf
theorem j6{l:List Fs.Item}{p:ByteArray}{ns:List ByteArray}(hs:spl p=some ns):(∃ec,ec≠0/\Fs.file l ns= .error ec/\zu l p=(0,Nd.none0,ec))\/ ∃i,Fs.walk l 1 ns= .ok i/\Fs.file l ns= .ok (i,Fs.nodeD l i)/\zu l p=(i,Fs.nodeD l i,0)/\(Fs.nodeD l i).kind≠2/\(Fs.nodeD l i).kind≠3:=by
 rcases zT (l:=l) hs with ⟨ec,hne,hw,hf⟩|⟨i,hw,hf⟩
 ·exact .inl ⟨ec,hne,by unfold Fs.file;rw[hw],by unfold zu;rw[hf,if_pos hne]⟩
 ·by_cases h2:(Fs.nodeD l i).kind=2
  ·exact .inl ⟨11,by decide,by unfold Fs.file;rw[hw];simp only;rw[if_pos h2],by unfold zu;rw[hf,if_neg (by simp),if_pos h2]⟩
  ·by_cases h3:(Fs.nodeD l i).kind=3
   ·exact .inl ⟨16,by decide,by unfold Fs.file;rw[hw];simp only;rw[if_neg h2,if_pos h3],by unfold zu;rw[hf,if_neg (by simp),if_neg h2,if_pos h3]⟩
   ·exact .inr ⟨i,hw,by unfold Fs.file;rw[hw];simp only;rw[if_neg h2,if_neg h3],by unfold zu;rw[hf,if_neg (by simp),if_neg h2,if_neg h3],h2,h3⟩
theorem ZP{f:Fs.FS}(G:Fs.Half env f){p:ByteArray}{i:Int}{x:Nd.Node}(h:zF f.l p=(i,x,0)):x.kind=1\/x.kind=2\/x.kind=3:=by
 rcases yH f.l p with ⟨e,hne,hf⟩|⟨ns,j,hs,hw,hf⟩
 ·rw[hf]at h
  injection h with _ h
  injection h with _ h
  exact absurd h hne
 ·rw[hf]at h
  injection h with _ h
  injection h with h _
  obtain⟨y,hy,hyD⟩:=G.walk_node hw
  rw[<-h,hyD]
  rcases (G.right hy).kinds with ⟨hk,_⟩|⟨hk,_⟩|⟨hk,_⟩
  ·exact .inl hk
  ·exact .inr (.inl hk)
  ·exact .inr (.inr hk)
theorem Jy{x:Nd.Node}(h:Nd.Right less Nm.right x)(h2:x.kind≠2)(h3:x.kind≠3){s:ByteArray}(hs:s.size<=4096):Nd.Right less Nm.right {x with data:=s}:=by
 refine⟨h.m0,h.m1,h.len,h.ok,h.rise, ?_⟩
 rcases h.kinds with ⟨a,b,c,_⟩|⟨a,_⟩|⟨a,_⟩
 ·exact .inl ⟨a,b,c,hs⟩
 ·exact absurd a h2
 ·exact absurd a h3
theorem jy{x:Nd.Node}(h:Nd.Right less Nm.right x):x.data.size<=4096:=by
 rcases h.kinds with ⟨_,_,_,e⟩|⟨_,_,e⟩|⟨_,e,_⟩
 ·exact e
 ·rw[e];decide
 ·rw[e];decide
theorem j9(gk:Nat)(lb:Array Value)(eg: ∀args w,(callFunc gk args).run prog w= .ok (.enter gk args) w)(Gf:ByteArray->ByteArray×Int)(m:Option Nat)(nx:Int)(l:List Fs.Item)(p:ByteArray)(w:World)(h:Sv w m l)(G:Fs.Half env ⟨l,nx⟩)(hf9:l.length<=900)(pp:p.size<=140737488355328){ns:List ByteArray}(hs:spl p=some ns)
  (HC0: ∀s,s.size<=4096-> ∀W,Below w.heap.size w W->Calls prog gk (#[.string s]++lb) W λe w'=>e= .returned (.tuple #[.string (Gf s).1,.int .i64 (Gf s).2])/\Below W.heap.size W w')
  (hG: ∀s,s.size<=4096->(Gf s).2=0->(Gf s).1.size<=4096) {R:Except Int Fs.FS} (hR:R=match Fs.file l ns with
   | .error e=> .error e
   | .ok (i,x)=>match Fs.asked (Gf x.data)with
    | .error e=> .error e
    | .ok s=> .ok ⟨Fs.setL l i {x with data:=s},nx⟩):Calls prog 144 #[stv m nx,.string p,.func (.func gk) #[] lb] w (zP R w):=by
 have HFi:=hid (λW (hbw:Below w.heap.size w W)=>qo m nx l p W (h.below hbw) pp (λi x hx=>ZP G hx))
 have HD:=hid h.dg
 have HSv:=hid (λW (hb:Below w.heap.size w W)=>h.below hb)
 rcases j6 (l:=l) hs with ⟨ec,hne,hf,hfr⟩|⟨i,hw,hf,hfr,hk2,hk3⟩
 ·rw[hf]at hR
  rw[hfr]at HFi
  have HR:=hid hR
  clear hR hf hfr h G hs HC0 hG
  have HB:=hid (show Bxs w [(w.heap.size,#[pv m,.int .i64 nx],98),(w.heap.size+1,#[.pointer none,.int .i64 0],98)] ((w.alloc (.cells #[pv m,.int .i64 nx] 98)).alloc (.cells #[.pointer none,.int .i64 0] 98))from Bxs.two w _ _ _ _)
  go_enter func144,ntmps144
  go_wp2_with fail
  generalize (w.alloc (.cells #[pv m,.int .i64 nx] 98)).alloc (.cells #[.pointer none,.int .i64 0] 98)=W0 at HB|-
  go_wp2_with fail
  refine(HFi.out W0 HB.out.below).mono ?_
  rintro e w1 ⟨ea,eb,rfl,hE,hb⟩
  clear hE
  have HB:=hid (HB.out.kept hb)
  have HB:=hid (HB.out.more #[.int .i64 0,.int .i64 0,.string ⟨#[]⟩,.string ⟨#[]⟩,.slice ea 0 eb] 43 rfl)
  dsimp only
  go_wp2_with (first|(refine zb HB.out 1 rfl 98 _ _ rfl rfl #[.pointer none,.int .i64 0] rfl rfl (by kernel_rfl) rfl rfl (by decide) (by decide) ?_;intro w2 hS hK hbS hsS;have HBS:=hid hS;clear hS hK hbS hsS;have HB:=HBS;clear HBS)|fail)
  refine bodyPost_ret_by (zh rfl _ _ (w.heap.size+1) _ _ rfl (HB.out.obj 1 rfl)) rfl ?_
  exact zj HR.out hne HB.out.below
 ·obtain⟨x,hx,hxD⟩:=G.walk_node hw
  have hxr:=h.ok.node hx
  have hXi:=hxr.2
  have hXs:(Fs.node l i).isSome=true:=by rw[hx];rfl
  have hds:=jy hxr.1
  rw[hxD]at hf hfr hk2 hk3
  rw[hf]at hR
  rw[hfr]at HFi
  obtain⟨k,mo,d,t,es⟩:=x
  have hRd:=λs hs=>Jy hxr.1 hk2 hk3 (s:=s) hs
  have HC:=hid (HC0 d hds)
  have hGd:=hG d hds
  simp only at hR
  obtain⟨⟨s2,c2⟩,hg⟩: ∃r,Gf d=r:=⟨_,rfl⟩
  rw[hg]at HC hR hGd
  unfold Fs.asked at hR
  clear HC0 hG hf hfr hk2 hk3 hx hxD hxr hg h G hs hw hds
  by_cases hc:c2=0
  ·subst hc
   rw[if_neg (by simp)]at hR
   have HR:=hid hR
   have hRs:=hRd s2 (hGd rfl)
   have HWi:=hid (λa c W (hb:Below w.heap.size w W) (hE:Ents a es.length es W)=>vz m nx l i ⟨k,mo,s2,t,es⟩ a c W (HSv.out W hb) hE hRs hXi (.inl hXs) hf9)
   clear hR hRd hGd hRs
   have HB:=hid (show Bxs w [(w.heap.size,#[pv m,.int .i64 nx],98),(w.heap.size+1,#[.pointer none,.int .i64 0],98)] ((w.alloc (.cells #[pv m,.int .i64 nx] 98)).alloc (.cells #[.pointer none,.int .i64 0] 98))from Bxs.two w _ _ _ _)
   go_enter func144,ntmps144
   go_wp2_with fail
   generalize (w.alloc (.cells #[pv m,.int .i64 nx] 98)).alloc (.cells #[.pointer none,.int .i64 0] 98)=W0 at HB|-
   go_wp2_with fail
   refine(HFi.out W0 HB.out.below).mono ?_
   rintro e w1 ⟨a,c,rfl,hE,hb⟩
   have HEn:=hid (hE.below (below_one w1 (.cells #[.int .i64 k,.int .i64 mo,.string d,.string t,.slice a es.length c] 43)))
   clear hE
   have HB:=hid (HB.out.kept hb)
   have HB:=hid (HB.out.more #[.int .i64 k,.int .i64 mo,.string d,.string t,.slice a es.length c] 43 rfl)
   dsimp only
   go_wp2_with fail
   refine(HC.out (w1.alloc (.cells #[.int .i64 k,.int .i64 mo,.string d,.string t,.slice a es.length c] 43)) HB.out.below).mono ?_
   rintro e w2 ⟨rfl,hb⟩
   have HEn:=hid (HEn.out.below hb)
   have HB:=hid (HB.out.kept hb)
   have b2:=HB.out.c5 2 rfl
   dsimp only
   have fz2_2:w2.frozen? ⟨w1.heap.size,2,none⟩=false:=HB.out.free 2 rfl 2
   have HBq:=HB
   have HB:=hid (show Bxs w [(w.heap.size,#[pv m,.int .i64 nx],98),(w.heap.size+1,#[.pointer none,.int .i64 0],98),(w1.heap.size,#[.int .i64 k,.int .i64 mo,.string s2,.string t,.slice a es.length c],43)] (w2.setCell ⟨w1.heap.size,2,none⟩ (.string s2))from HBq.out.put 2 rfl 2 (.string s2))
   have c0_0:(w2.setCell ⟨w1.heap.size,2,none⟩ (.string s2)).cell? ⟨w.heap.size,0,none⟩=some (pv m):=HB.out.cell 0 rfl 0
   have c0_1:(w2.setCell ⟨w1.heap.size,2,none⟩ (.string s2)).cell? ⟨w.heap.size,1,none⟩=some (.int .i64 nx):=HB.out.cell 0 rfl 1
   have c2_0:(w2.setCell ⟨w1.heap.size,2,none⟩ (.string s2)).cell? ⟨w1.heap.size,0,none⟩=some (.int .i64 k):=HB.out.cell 2 rfl 0
   have c2_1:(w2.setCell ⟨w1.heap.size,2,none⟩ (.string s2)).cell? ⟨w1.heap.size,1,none⟩=some (.int .i64 mo):=HB.out.cell 2 rfl 1
   have c2_2:(w2.setCell ⟨w1.heap.size,2,none⟩ (.string s2)).cell? ⟨w1.heap.size,2,none⟩=some (.string s2):=HB.out.cell 2 rfl 2
   have c2_3:(w2.setCell ⟨w1.heap.size,2,none⟩ (.string s2)).cell? ⟨w1.heap.size,3,none⟩=some (.string t):=HB.out.cell 2 rfl 3
   have c2_4:(w2.setCell ⟨w1.heap.size,2,none⟩ (.string s2)).cell? ⟨w1.heap.size,4,none⟩=some (.slice a es.length c):=HB.out.cell 2 rfl 4
   have HEn:=hid ((Kept.cell (HBq.out.obj 2 rfl) (by decide) (by decide) 2 (.string s2)).ents (HBq.out.obj 2 rfl) (jt _ _ _ _ _ _ _) HEn.out)
   go_wp2_with fail
   refine(HWi.out a c (w2.setCell ⟨w1.heap.size,2,none⟩ (.string s2)) HB.out.below HEn.out).mono ?_
   rintro e w3 ⟨m6,rfl,hS,hb⟩
   have hbk:=hb
   have HS:=hid hS
   clear hS
   have HB:=hid (HB.out.kept hbk)
   clear b2 c0_0 c0_1 c2_0 c2_1 c2_2 c2_3 c2_4 fz2_2
   clear hbk
   dsimp only
   go_wp2_with (first|(refine zb HB.out 1 rfl 98 _ _ rfl rfl #[pv m6,.int .i64 nx] rfl rfl (by kernel_rfl) rfl rfl (by decide) (by decide) ?_;intro w4 hS hK hbS hsS;have HBS:=hid hS;have HS:=hid (HS.out.kept hK (HD.out.below hbS));clear hS hK hbS hsS;have HB:=HBS;clear HBS)|fail)
   refine bodyPost_ret_by (zh rfl _ _ (w.heap.size+1) _ _ rfl (HB.out.obj 1 rfl)) rfl ?_
   exact zM HR.out HB.out.below HS.out
  ·rw[if_pos hc]at hR
   have HR:=hid hR
   clear hR hRd hGd
   have HB:=hid (show Bxs w [(w.heap.size,#[pv m,.int .i64 nx],98),(w.heap.size+1,#[.pointer none,.int .i64 0],98)] ((w.alloc (.cells #[pv m,.int .i64 nx] 98)).alloc (.cells #[.pointer none,.int .i64 0] 98))from Bxs.two w _ _ _ _)
   go_enter func144,ntmps144
   go_wp2_with fail
   generalize (w.alloc (.cells #[pv m,.int .i64 nx] 98)).alloc (.cells #[.pointer none,.int .i64 0] 98)=W0 at HB|-
   go_wp2_with fail
   refine(HFi.out W0 HB.out.below).mono ?_
   rintro e w1 ⟨a,c,rfl,hE,hb⟩
   clear hE
   have HB:=hid (HB.out.kept hb)
   have HB:=hid (HB.out.more #[.int .i64 k,.int .i64 mo,.string d,.string t,.slice a es.length c] 43 rfl)
   dsimp only
   go_wp2_with fail
   refine(HC.out (w1.alloc (.cells #[.int .i64 k,.int .i64 mo,.string d,.string t,.slice a es.length c] 43)) HB.out.below).mono ?_
   rintro e w2 ⟨rfl,hb⟩
   have HB:=hid (HB.out.kept hb)
   have b2:=HB.out.c5 2 rfl
   dsimp only
   have fz2_2:w2.frozen? ⟨w1.heap.size,2,none⟩=false:=HB.out.free 2 rfl 2
   have HBq:=HB
   have HB:=hid (show Bxs w [(w.heap.size,#[pv m,.int .i64 nx],98),(w.heap.size+1,#[.pointer none,.int .i64 0],98),(w1.heap.size,#[.int .i64 k,.int .i64 mo,.string s2,.string t,.slice a es.length c],43)] (w2.setCell ⟨w1.heap.size,2,none⟩ (.string s2))from HBq.out.put 2 rfl 2 (.string s2))
   go_wp2_with (first|(refine zb HB.out 1 rfl 98 _ _ rfl rfl #[.pointer none,.int .i64 0] rfl rfl (by kernel_rfl) rfl rfl (by decide) (by decide) ?_;intro w3 hS hK hbS hsS;have HBS:=hid hS;clear hS hK hbS hsS;have HB:=HBS;clear HBS;clear b2 fz2_2)|fail)
   refine bodyPost_ret_by (zh rfl _ _ (w.heap.size+1) _ _ rfl (HB.out.obj 1 rfl)) rfl ?_
   exact zj HR.out hc HB.out.below
theorem zdM(g:Nat)(s:ByteArray)(kd:Int)(oa ob:ByteArray)(oo og on:Int)(od:ByteArray)(w:World)(hs:s.size<=4096)(hod:od.size<=140737488355328)(hoo:oo<=9223372036854775807)(hg:w.heap[g]?=some (.cells #[.int .i64 kd,.string oa,.string ob,.int .i64 oo,.int .i64 og,.int .i64 on,.string od] 35 (0,0))):Calls prog 145 #[.string s,.pointer (some ⟨g,0,none⟩)] w λe w'=>e= .returned (.tuple #[.string (env.put s oo od).1,.int .i64 (env.put s oo od).2])/\Below w.heap.size w w':=by
 have HP:=hid (put_any s oo od w (Nat.le_trans hs (by decide)) hod hoo)
 have o3:w.cell? ⟨g,3,none⟩=some (.int .i64 oo):=cell_obj hg 3
 have o6:w.cell? ⟨g,6,none⟩=some (.string od):=cell_obj hg 6
 clear hg hs hod hoo
 go_enter func145,ntmps145
 go_wp2_with fail
 refine HP.out.mono ?_
 rintro e w2 ⟨rfl,hb⟩
 dsimp only
 go_wp2_with fail
 go_ret2
 exact⟨rfl,hb⟩
theorem zdL(g:Nat)(s:ByteArray)(kd:Int)(oa ob:ByteArray)(oo og on:Int)(od:ByteArray)(w:World)(hg:w.heap[g]?=some (.cells #[.int .i64 kd,.string oa,.string ob,.int .i64 oo,.int .i64 og,.int .i64 on,.string od] 35 (0,0))):Calls prog 147 #[.string s,.pointer (some ⟨g,0,none⟩)] w λe w'=>e= .returned (.tuple #[.string (env.trunc s on).1,.int .i64 (env.trunc s on).2])/\Below w.heap.size w w':=by
 have HP:=hid (QB s on w)
 have o5:w.cell? ⟨g,5,none⟩=some (.int .i64 on):=cell_obj hg 5
 clear hg
 go_enter func147,ntmps147
 go_wp2_with fail
 refine HP.out.mono ?_
 rintro e w2 ⟨rfl,hb⟩
 dsimp only
 go_wp2_with fail
 go_ret2
 exact⟨rfl,hb⟩
def uB(l:List Fs.Item)(nb:List ByteArray)(oo og on:Int)(s:ByteArray):ByteArray×Int:=match Fs.file l nb with
 | .error e=>(⟨#[]⟩,e)
 | .ok (_,y)=>env.copy s oo y.data og on
theorem zdK(q g:Nat)(s:ByteArray)(m:Option Nat)(nx:Int)(l:List Fs.Item)(kd:Int)(oa ob:ByteArray)(oo og on:Int)(od:ByteArray)(w:World)(h:Sv w m l)(G:Fs.Half env ⟨l,nx⟩)(pb:ob.size<=140737488355328){nb:List ByteArray}(hb:spl ob=some nb)(hs:s.size<=4096)(hoo:oo<=9223372036854775807)(hog:og<=9223372036854775807)(hon:on<=9223372036854775807)(hq:w.heap[q]?=some (.cells #[pv m,.int .i64 nx] 98 (0,0)))(hg:w.heap[g]?=some (.cells #[.int .i64 kd,.string oa,.string ob,.int .i64 oo,.int .i64 og,.int .i64 on,.string od] 35 (0,0))):Calls prog 149 #[.string s,.pointer (some ⟨q,0,none⟩),.pointer (some ⟨g,0,none⟩)] w λe w'=>e= .returned (.tuple #[.string (uB l nb oo og on s).1,.int .i64 (uB l nb oo og on s).2])/\Below w.heap.size w w':=by
 have HFi:=hid (qo m nx l ob w h pb (λi x hx=>ZP G hx))
 have q0:w.cell? ⟨q,0,none⟩=some (pv m):=cell_obj hq 0
 have q1:w.cell? ⟨q,1,none⟩=some (.int .i64 nx):=cell_obj hq 1
 have o2:w.cell? ⟨g,2,none⟩=some (.string ob):=cell_obj hg 2
 have HG:=hid hg
 clear hg hq
 rcases j6 (l:=l) hb with ⟨ec,hne,hf,hfr⟩|⟨i,hw,hf,hfr,hk2,hk3⟩
 ·rw[hfr]at HFi
  have HR:=hid (show uB l nb oo og on s=(⟨#[]⟩,ec) by unfold uB;rw[hf])
  clear hf hfr h G hb
  go_enter func149,ntmps149
  go_wp2_with fail
  refine HFi.out.mono ?_
  rintro e w2 ⟨ea,eb,rfl,hE,hb⟩
  clear hE q0 q1 o2
  dsimp only
  go_wp2_with fail
  go_ret2
  rw[HR.out]
  exact⟨rfl,hb.trans (below_one _ _|>.mono hb.size)⟩
 ·obtain⟨x,hx,hxD⟩:=G.walk_node hw
  have hds:=jy (h.ok.node hx).1
  rw[hxD]at hf hfr
  rw[hfr]at HFi
  obtain⟨k,mo,d,t,es⟩:=x
  have HR:=hid (show uB l nb oo og on s=env.copy s oo d og on by unfold uB;rw[hf])
  have HP:=hid (λW=>zdD s oo d og on W (Nat.le_trans hs (by decide)) (Nat.le_trans hds (by decide)) hoo hog hon)
  clear hf hfr h G hb hw hk2 hk3 hx hxD hds hs hoo hog hon
  go_enter func149,ntmps149
  go_wp2_with fail
  refine HFi.out.mono ?_
  rintro e w2 ⟨ea,eb,rfl,hE,hb⟩
  have hb3:=hb.trans ((below_one w2 (.cells #[.int .i64 k,.int .i64 mo,.string d,.string t,.slice ea es.length eb] 43)).mono hb.size)
  have hG3:=(hb3.block _ (lt_of_obj HG.out)).trans HG.out
  have o3:(w2.alloc (.cells #[.int .i64 k,.int .i64 mo,.string d,.string t,.slice ea es.length eb] 43)).cell? ⟨g,3,none⟩=some (.int .i64 oo):=cell_obj hG3 3
  have o4:(w2.alloc (.cells #[.int .i64 k,.int .i64 mo,.string d,.string t,.slice ea es.length eb] 43)).cell? ⟨g,4,none⟩=some (.int .i64 og):=cell_obj hG3 4
  have o5:(w2.alloc (.cells #[.int .i64 k,.int .i64 mo,.string d,.string t,.slice ea es.length eb] 43)).cell? ⟨g,5,none⟩=some (.int .i64 on):=cell_obj hG3 5
  have HB3:=hid hb3
  clear hE q0 q1 o2 hG3 hb3 hb
  dsimp only
  go_wp2_with fail
  refine(HP.out _).mono ?_
  rintro e w4 ⟨rfl,hb4⟩
  have HB4:=hid (HB3.out.trans (hb4.mono HB3.out.size))
  clear o3 o4 o5 hb4
  dsimp only
  go_wp2_with fail
  go_ret2
  rw[HR.out]
  exact⟨rfl,HB4.out⟩
theorem JS(m:Option Nat)(nx:Int)(kd:Int)(oa ob:ByteArray)(oo og on:Int)(od:ByteArray)(w:World){R:Except Int Fs.FS}(hC: ∀W,Bxs w [(w.heap.size,#[pv m,.int .i64 nx],98),(w.heap.size+1,#[.int .i64 kd,.string oa,.string ob,.int .i64 oo,.int .i64 og,.int .i64 on,.string od],35),(w.heap.size+1+1,#[.pointer none,.int .i64 0],98)] W->Calls prog 144 #[stv m nx,.string oa,.func (.func 145) #[] #[.pointer (some ⟨w.heap.size+1,0,none⟩)]] W (zP R W))(hD:Dg w):Calls prog 104 #[stv m nx,.agg #[.int .i64 kd,.string oa,.string ob,.int .i64 oo,.int .i64 og,.int .i64 on,.string od]] w (zP R w):=by
 have HC:=hid hC
 have HD:=hid hD
 clear hC hD
 cases R with
 |error ec=>
  go_enter func104,ntmps104
  go_wp2_with fail
  obtain⟨W0,hW,HB⟩:=bx3 w m nx kd oa ob oo og on od;rw[hW];clear hW
  go_wp2_with fail
  refine(HC.out W0 HB.out).mono ?_
  rintro e w1 ⟨hb,hne,rfl⟩
  have HB:=hid (HB.out.kept hb)
  dsimp only
  go_wp2_with (first|(refine zb HB.out 2 rfl 98 _ _ rfl rfl #[.pointer none,.int .i64 0] rfl rfl (by kernel_rfl) rfl rfl (by decide) (by decide) ?_;intro w2 hS hK hbS hsS;have HBS:=hid hS;clear hS hK hbS hsS;have HB:=HBS;clear HBS)|fail)
  refine bodyPost_ret_by (zh rfl _ _ (w.heap.size+1+1) _ _ rfl (HB.out.obj 2 rfl)) rfl ?_
  exact zj rfl hne HB.out.below
 |ok f=>
  obtain⟨l2,n2⟩:=f
  go_enter func104,ntmps104
  go_wp2_with fail
  obtain⟨W0,hW,HB⟩:=bx3 w m nx kd oa ob oo og on od;rw[hW];clear hW
  go_wp2_with fail
  refine(HC.out W0 HB.out).mono ?_
  rintro e w1 ⟨hb,m6,rfl,hS⟩
  have HS:=hid hS
  clear hS
  have HB:=hid (HB.out.kept hb)
  dsimp only
  go_wp2_with (first|(refine zb HB.out 2 rfl 98 _ _ rfl rfl #[pv m6,.int .i64 n2] rfl rfl (by kernel_rfl) rfl rfl (by decide) (by decide) ?_;intro w2 hS hK hbS hsS;have HBS:=hid hS;have HS:=hid (HS.out.kept hK (HD.out.below hbS));clear hS hK hbS hsS;have HB:=HBS;clear HBS)|fail)
  refine bodyPost_ret_by (zh rfl _ _ (w.heap.size+1+1) _ _ rfl (HB.out.obj 2 rfl)) rfl ?_
  exact zM rfl HB.out.below HS.out
theorem Yr(m:Option Nat)(nx:Int)(kd:Int)(oa ob:ByteArray)(oo og on:Int)(od:ByteArray)(w:World){R:Except Int Fs.FS}(hC: ∀W,Bxs w [(w.heap.size,#[pv m,.int .i64 nx],98),(w.heap.size+1,#[.int .i64 kd,.string oa,.string ob,.int .i64 oo,.int .i64 og,.int .i64 on,.string od],35),(w.heap.size+1+1,#[.pointer none,.int .i64 0],98)] W->Calls prog 144 #[stv m nx,.string oa,.func (.func 147) #[] #[.pointer (some ⟨w.heap.size+1,0,none⟩)]] W (zP R W))(hD:Dg w):Calls prog 105 #[stv m nx,.agg #[.int .i64 kd,.string oa,.string ob,.int .i64 oo,.int .i64 og,.int .i64 on,.string od]] w (zP R w):=by
 have HC:=hid hC
 have HD:=hid hD
 clear hC hD
 cases R with
 |error ec=>
  go_enter func105,ntmps105
  go_wp2_with fail
  obtain⟨W0,hW,HB⟩:=bx3 w m nx kd oa ob oo og on od;rw[hW];clear hW
  go_wp2_with fail
  refine(HC.out W0 HB.out).mono ?_
  rintro e w1 ⟨hb,hne,rfl⟩
  have HB:=hid (HB.out.kept hb)
  dsimp only
  go_wp2_with (first|(refine zb HB.out 2 rfl 98 _ _ rfl rfl #[.pointer none,.int .i64 0] rfl rfl (by kernel_rfl) rfl rfl (by decide) (by decide) ?_;intro w2 hS hK hbS hsS;have HBS:=hid hS;clear hS hK hbS hsS;have HB:=HBS;clear HBS)|fail)
  refine bodyPost_ret_by (zh rfl _ _ (w.heap.size+1+1) _ _ rfl (HB.out.obj 2 rfl)) rfl ?_
  exact zj rfl hne HB.out.below
 |ok f=>
  obtain⟨l2,n2⟩:=f
  go_enter func105,ntmps105
  go_wp2_with fail
  obtain⟨W0,hW,HB⟩:=bx3 w m nx kd oa ob oo og on od;rw[hW];clear hW
  go_wp2_with fail
  refine(HC.out W0 HB.out).mono ?_
  rintro e w1 ⟨hb,m6,rfl,hS⟩
  have HS:=hid hS
  clear hS
  have HB:=hid (HB.out.kept hb)
  dsimp only
  go_wp2_with (first|(refine zb HB.out 2 rfl 98 _ _ rfl rfl #[pv m6,.int .i64 n2] rfl rfl (by kernel_rfl) rfl rfl (by decide) (by decide) ?_;intro w2 hS hK hbS hsS;have HBS:=hid hS;have HS:=hid (HS.out.kept hK (HD.out.below hbS));clear hS hK hbS hsS;have HB:=HBS;clear HBS)|fail)
  refine bodyPost_ret_by (zh rfl _ _ (w.heap.size+1+1) _ _ rfl (HB.out.obj 2 rfl)) rfl ?_
  exact zM rfl HB.out.below HS.out
theorem JW(m:Option Nat)(nx:Int)(kd:Int)(oa ob:ByteArray)(oo og on:Int)(od:ByteArray)(w:World){R:Except Int Fs.FS}(hC: ∀W,Bxs w [(w.heap.size,#[pv m,.int .i64 nx],98),(w.heap.size+1,#[.int .i64 kd,.string oa,.string ob,.int .i64 oo,.int .i64 og,.int .i64 on,.string od],35),(w.heap.size+1+1,#[.pointer none,.int .i64 0],98)] W->Calls prog 144 #[stv m nx,.string oa,.func (.func 149) #[] #[.pointer (some ⟨w.heap.size,0,none⟩),.pointer (some ⟨w.heap.size+1,0,none⟩)]] W (zP R W))(hD:Dg w):Calls prog 106 #[stv m nx,.agg #[.int .i64 kd,.string oa,.string ob,.int .i64 oo,.int .i64 og,.int .i64 on,.string od]] w (zP R w):=by
 have HC:=hid hC
 have HD:=hid hD
 clear hC hD
 cases R with
 |error ec=>
  go_enter func106,ntmps106
  go_wp2_with fail
  obtain⟨W0,hW,HB⟩:=bx3 w m nx kd oa ob oo og on od;rw[hW];clear hW
  go_wp2_with fail
  refine(HC.out W0 HB.out).mono ?_
  rintro e w1 ⟨hb,hne,rfl⟩
  have HB:=hid (HB.out.kept hb)
  dsimp only
  go_wp2_with (first|(refine zb HB.out 2 rfl 98 _ _ rfl rfl #[.pointer none,.int .i64 0] rfl rfl (by kernel_rfl) rfl rfl (by decide) (by decide) ?_;intro w2 hS hK hbS hsS;have HBS:=hid hS;clear hS hK hbS hsS;have HB:=HBS;clear HBS)|fail)
  refine bodyPost_ret_by (zh rfl _ _ (w.heap.size+1+1) _ _ rfl (HB.out.obj 2 rfl)) rfl ?_
  exact zj rfl hne HB.out.below
 |ok f=>
  obtain⟨l2,n2⟩:=f
  go_enter func106,ntmps106
  go_wp2_with fail
  obtain⟨W0,hW,HB⟩:=bx3 w m nx kd oa ob oo og on od;rw[hW];clear hW
  go_wp2_with fail
  refine(HC.out W0 HB.out).mono ?_
  rintro e w1 ⟨hb,m6,rfl,hS⟩
  have HS:=hid hS
  clear hS
  have HB:=hid (HB.out.kept hb)
  dsimp only
  go_wp2_with (first|(refine zb HB.out 2 rfl 98 _ _ rfl rfl #[pv m6,.int .i64 n2] rfl rfl (by kernel_rfl) rfl rfl (by decide) (by decide) ?_;intro w2 hS hK hbS hsS;have HBS:=hid hS;have HS:=hid (HS.out.kept hK (HD.out.below hbS));clear hS hK hbS hsS;have HB:=HBS;clear HBS)|fail)
  refine bodyPost_ret_by (zh rfl _ _ (w.heap.size+1+1) _ _ rfl (HB.out.obj 2 rfl)) rfl ?_
  exact zM rfl HB.out.below HS.out
end Go.Proofs.YtabmamofnhcgbaaGreatDoor
namespace Go.Proofs.YtabmamofnhcgbaaGreatDoor
open Go.RowKit Go.Less Go.Maps
attribute [local go_sem 9000] zg zf
abbrev ik(a:Int):Lit:= .int .i64 a
theorem zav:Keyed prog 3:=int_keyed underlying3
def upd{α:Type}(f:Int->Option α)(a:Int)(v:α):Int->Option α:=λx=>if x=a then some v else f x
def held(v:Value):Option (DataW Value×List MemPlace):=some (.held v,[])
def Mp(w:World)(b n:Nat)(f:Int->Option Value):Prop:=
 ∃D:DataW Value,w.ownsMap prog 3 held b n D/\ ∀a,(ik a).wf=true->(∀z,D.atKey (ik a) (.held z)= .held ((f a).getD z))/\Maps.has D (ik a)=(f a).isSome
theorem Mp.lt{w:World}{b n:Nat}{f:Int->Option Value}(h:Mp w b n f):b<w.heap.size:=by
 obtain⟨D,ho,_⟩:=h;exact ho.lt
theorem Mp.made(w:World):Mp (w.alloc (.map #[] 0)) w.heap.size 0 (λ_=>none):=
 ⟨.map [],World.ownsMap_made w _ _ _,λ_ _=>⟨λ_=>rfl,rfl⟩⟩
theorem Mp.look_ok{w:World}{b n:Nat}{f:Int->Option Value}(h:Mp w b n f){t e:TypeId}(ht:prog.underlying t=some (.map 3 e)){z:Value}(hz:(zeroValue e).run prog w= .ok z w){a:Int}(ha:(ik a).wf=true):
  (Instr.lookup t (.map (some b)) (.int .i64 a) true).run prog w= .ok (.tuple #[(f a).getD z,.bool (f a).isSome]) w:=by
 obtain⟨D,ho,h2⟩:=h
 obtain⟨v,ps,hr,hv⟩:=ho.look_ok zav ht hz (zd:= .held z) (zp:=[]) rfl (keyOf_int_mk underlying3 ha)
 rw[(h2 a ha).1 z]at hv
 rw[hr,(h2 a ha).2]
 unfold held at hv
 injection hv with hv
 injection hv with hv _
 injection hv with hv
 rw[hv]
theorem X0(a:Int):WideAt.IsKeyLit (ik a):=trivial
theorem Mp.store{w:World}{b n:Nat}{f:Int->Option Value}(h:Mp w b n f){t e:TypeId}(ht:prog.underlying t=some (.map 3 e))(hn:n<maxLen){a:Int}(ha:(ik a).wf=true)(v:Value):
  ∃w',(Instr.mapUpdate t (.map (some b)) (.int .i64 a) v).run prog w= .ok () w'/\Mp w' b (n+1) (upd f a v)/\w.mapTurned w' b:=by
 obtain⟨D,ho,h2⟩:=h
 have hm:=ho.isMap
 obtain⟨w',hr,h3,h4⟩:=ho.store zav ht hn (keyOf_int_mk underlying3 ha) (val:=v) (d:= .held v) (ps:=[]) rfl
 refine⟨w',hr,⟨_,h3,λx hx=> ?_⟩,h4⟩
 unfold upd
 by_cases hxa:x=a
 ·subst hxa
  rw[if_pos rfl]
  exact⟨λz=>atKey_put_same hm (X0 _) _ _,has_put_same hm (X0 _) _⟩
 ·rw[if_neg hxa]
  have hne:ik x≠ik a:=λe=>hxa (by injection e)
  exact⟨λz=>(atKey_put_other hne _ _).trans ((h2 x hx).1 z),(has_put_other hne _).trans (h2 x hx).2⟩
theorem zG{w0 w w':World}{b:Nat}(h:Below w0.heap.size w0 w)(ht:w.mapTurned w' b)(hb:w0.heap.size<=b):Below w0.heap.size w0 w':=by
 have hg:=ht.grown
 have hs:w.heap.size<=w'.heap.size:=hg.size
 refine⟨hg.os.trans h.os,hg.tape.trans h.tape,hg.output.trans h.output,Nat.le_trans h.size hs,λk hk=> ?_⟩
 rw[hg.block k (Nat.lt_of_lt_of_le hk h.size) (λe=>by injection e;omega)]
 exact h.block k hk
def fnv(k:Nat):Value:= .func (.func k) #[] #[]
def fdo:Int->Option Value:=upd (upd (upd (upd (upd (upd (upd (upd (upd (upd (upd (λ_=>none) 1 (fnv 97)) 2 (fnv 98)) 3 (fnv 99)) 4 (fnv 100)) 5 (fnv 101)) 6 (fnv 102)) 7 (fnv 103)) 8 (fnv 104)) 9 (fnv 105)) 10 (fnv 106)) 11 (fnv 107)
theorem ze0{k:Int}(h:k<1\/11<k):fdo k=none:=by
 unfold fdo upd
 simp only
 repeat rw[if_neg (by omega)]
theorem yZ(w:World):Calls prog 58 #[] w λe w'=> ∃mb,e= .returned (.map (some mb))/\Mp w' mb 11 fdo/\Below w.heap.size w w':=by
 have hmm:= @run_makeMap prog
 have M0:=Mp.made w
 have B0:=below_one w (.map #[] 0)
 obtain⟨w1,hr1,M1,ht1⟩:=M0.store underlying117 (by decide) (a:=1) (by decide) (fnv 97)
 have B1:=zG B0 ht1 (Nat.le_refl _)
 clear ht1
 obtain⟨w2,hr2,M2,ht2⟩:=M1.store underlying117 (by decide) (a:=2) (by decide) (fnv 98)
 have B2:=zG B1 ht2 (Nat.le_refl _)
 clear ht2
 obtain⟨w3,hr3,M3,ht3⟩:=M2.store underlying117 (by decide) (a:=3) (by decide) (fnv 99)
 have B3:=zG B2 ht3 (Nat.le_refl _)
 clear ht3
 obtain⟨w4,hr4,M4,ht4⟩:=M3.store underlying117 (by decide) (a:=4) (by decide) (fnv 100)
 have B4:=zG B3 ht4 (Nat.le_refl _)
 clear ht4
 obtain⟨w5,hr5,M5,ht5⟩:=M4.store underlying117 (by decide) (a:=5) (by decide) (fnv 101)
 have B5:=zG B4 ht5 (Nat.le_refl _)
 clear ht5
 obtain⟨w6,hr6,M6,ht6⟩:=M5.store underlying117 (by decide) (a:=6) (by decide) (fnv 102)
 have B6:=zG B5 ht6 (Nat.le_refl _)
 clear ht6
 obtain⟨w7,hr7,M7,ht7⟩:=M6.store underlying117 (by decide) (a:=7) (by decide) (fnv 103)
 have B7:=zG B6 ht7 (Nat.le_refl _)
 clear ht7
 obtain⟨w8,hr8,M8,ht8⟩:=M7.store underlying117 (by decide) (a:=8) (by decide) (fnv 104)
 have B8:=zG B7 ht8 (Nat.le_refl _)
 clear ht8
 obtain⟨w9,hr9,M9,ht9⟩:=M8.store underlying117 (by decide) (a:=9) (by decide) (fnv 105)
 have B9:=zG B8 ht9 (Nat.le_refl _)
 clear ht9
 obtain⟨w10,hr10,M10,ht10⟩:=M9.store underlying117 (by decide) (a:=10) (by decide) (fnv 106)
 have B10:=zG B9 ht10 (Nat.le_refl _)
 clear ht10
 obtain⟨w11,hr11,M11,ht11⟩:=M10.store underlying117 (by decide) (a:=11) (by decide) (fnv 107)
 have B11:=zG B10 ht11 (Nat.le_refl _)
 clear ht11
 have HM:=hid M11
 have HB:=hid B11
 clear M0 B0 M1 B1 M2 B2 M3 B3 M4 B4 M5 B5 M6 B6 M7 B7 M8 B8 M9 B9 M10 B10 M11 B11
 unfold fnv at hr1 hr2 hr3 hr4 hr5 hr6 hr7 hr8 hr9 hr10 hr11
 go_enter func58,ntmps58
 go_wp2_with fail
 go_ret
 exact⟨_,rfl,HM.out,HB.out⟩
end Go.Proofs.YtabmamofnhcgbaaGreatDoor
namespace Go.Proofs.YtabmamofnhcgbaaGreatDoor
open Go.RowKit
structure Names:Prop where
 right: ∀(s:ByteArray) (w:World),s.size<=140737488355328->Calls prog 127 #[.string s] w λe w'=>e= .returned (.bool (Nm.right s.data.toList))/\Below w.heap.size w w'
 split: ∀(p:ByteArray) (w:World),p.size<=140737488355328->Calls prog 108 #[.string p] w (Splitted p.data.toList w)
 join: ∀(a:Option Addr) (ln cn:Nat) (ss:List ByteArray) (w:World),Strs a ln ss w->ln<=140737488355328->ln<=cn->(∀i,i<ss.length->(ss.getD i ByteArray.empty).size<=140737488355328)->Calls prog 218 #[.slice a ln cn] w λe w'=>e= .returned (.tuple #[.string (lstr (qO (dat ss)).1),.int .i64 (qO (dat ss)).2])/\Below w.heap.size w w'
 parent: ∀(p:ByteArray) (w:World),p.size<=140737488355328->Calls prog 191 #[.string p] w (xS p.data.toList w)
 within: ∀(a b:ByteArray) (w:World),a.size<=140737488355328->b.size<=140737488355328->Calls prog 138 #[.string a,.string b] w (yv a.data.toList b.data.toList w)
end Go.Proofs.YtabmamofnhcgbaaGreatDoor
namespace Go.Proofs.YtabmamofnhcgbaaGreatDoor
open Go.RowKit
attribute [local go_sem 9000] xq vD
theorem zdh{α:Type}{l m:List α}{d:α}(hl:l.length=m.length)(h: ∀i,i<l.length->l.getD i d=m.getD i d):l=m:=by
 apply List.ext_getElem hl
 intro i h1 h2
 have:=h i h1
 rwa [List.getD,List.getD,List.getElem?_eq_getElem h1,List.getElem?_eq_getElem h2]at this
theorem zaX(w:World)(m n:Nat):(w.drewN m).drewN n=w.drewN (m+n):=by unfold World.drewN;simp only[Nat.add_assoc]
theorem Zz{a b:Bool}(h:b=a):Ending.returned (.bool a)= .returned (.bool b):=by rw[h]
def xH(a b:List ByteArray):Bool:=decide (a=b)
theorem JM(a b:Option Addr)(la ca lb cb:Nat)(sa sb:List ByteArray)(w:World)(hA:Strs a la sa w)(hB:Strs b lb sb w)(hla:la<=140737488355328)(hlb:lb<=140737488355328):
  Calls prog 190 #[.slice a la ca,.slice b lb cb] w λe w'=>e= .returned (.bool (xH sa sb))/\ ∃n,w'=w.drewN n:=by
 have hl1:(la:Int)<=140737488355328:=by omega
 have hl2:(lb:Int)<=140737488355328:=by omega
 by_cases hne:la=lb
 ·subst hne
  go_enter func190,ntmps190
  go_wp2
  go_loopw [13] (λi wr=> ∃k n:Nat,k<=la/\i= .int .i64 k/\wr=w.drewN n/\ ∀i,i<k->sa.getD i ByteArray.empty=sb.getD i ByteArray.empty) (λi _=>la-(intOf i).toNat)
  case atStart=>exact⟨0,0,by omega,rfl,rfl,λi hi=>by omega⟩
  case round=>
   obtain⟨k,n,hk,rfl,rfl,hall⟩:=hrel
   have HA:=hid hall
   clear hall
   by_cases hlt:k<la
   ·obtain⟨b1,o1,rfl,hc1⟩:=hA.cell k hlt
    obtain⟨b2,o2,rfl,hc2⟩:=hB.cell k hlt
    have hk0:(k:Int)<(la:Int):=by omega
    by_cases he:sa.getD k ByteArray.empty=sb.getD k ByteArray.empty
    ·have HN:=hid (show∀i,i<k+1->sa.getD i ByteArray.empty=sb.getD i ByteArray.empty from λi hi=>by
      rcases Nat.lt_or_ge i k with h|h
      ·exact HA.out i h
      ·obtain rfl:i=k:=by omega
       exact he)
     have ha:yb (sa.getD k ByteArray.empty) (sb.getD k ByteArray.empty)=true:=decide_eq_true he
     generalize sa.getD k ByteArray.empty=x at hc1 ha
     generalize sb.getD k ByteArray.empty=y at hc2 ha
     clear he
     go_wp2_with fail
     go_quiet (fail)
     go_wp2_with fail
     go_roundw
     case rel=>exact⟨k+1,_,by omega,by go_num,rfl,HN.out⟩
     case measure=>simp[intOf];omega
    ·have HD:=hid (show xH sa sb=false from decide_eq_false λe=>he (by rw[e]))
     have ha:yb (sa.getD k ByteArray.empty) (sb.getD k ByteArray.empty)=false:=decide_eq_false he
     generalize sa.getD k ByteArray.empty=x at hc1 ha
     generalize sb.getD k ByteArray.empty=y at hc2 ha
     clear he
     go_wp2_with fail
     go_quiet (fail)
     go_wp2_with fail
     go_ret
     exact⟨Zz HD.out,_,zaX _ _ _⟩
   ·obtain rfl:k=la:=by omega
    have HD:=hid (show xH sa sb=true from decide_eq_true (zdh (by rw[<-hA.count,<-hB.count]) λi hi=>HA.out i (by rw[hA.count];exact hi)))
    go_wp2_with fail
    go_ret
    exact⟨Zz HD.out,_,rfl⟩
 ·have hne': ¬ (la:Int)=(lb:Int):=by omega
  have HD:=hid (show xH sa sb=false from decide_eq_false λe=>hne (by rw[hA.count,hB.count,e]))
  go_enter func190,ntmps190
  go_wp2
  go_ret
  exact⟨Zz HD.out,0,rfl⟩
theorem VP{xs ys:List (List UInt8)}(hl:xs.length<=ys.length):xs.isPrefixOf ys=xH ((ys.map lstr).take xs.length) (xs.map lstr):=by
 unfold xH
 rw[<-List.map_take]
 have hinj: ∀u v:List (List UInt8),u.map lstr=v.map lstr↔u=v:=λu v=>by
  constructor
  ·intro h
   have:=congrArg dat h
   rwa [jf,jf]at this
  ·intro h;rw[h]
 rw[decide_eq_decide.2 (hinj _ _)]
 by_cases h:ys.take xs.length=xs
 ·have e:=List.take_append_drop xs.length ys
  rw[h]at e
  rw[decide_eq_true h,(Nm.isPrefixOf_iff xs ys).2 ⟨ys.drop xs.length,e.symm⟩]
 ·rw[decide_eq_false h,Bool.eq_false_iff]
  intro h2
  obtain⟨z,rfl⟩:=(Nm.isPrefixOf_iff xs ys).1 h2
  exact h (by simp)
theorem jZ(a b:ByteArray)(w:World)(ha:a.size<=140737488355328)(hb:b.size<=140737488355328):Calls prog 138 #[.string a,.string b] w (yv a.data.toList b.data.toList w):=by
 go_enter func138,ntmps138
 go_wp2_with fail
 refine(split_any a w ha).mono ?_
 rintro e w1 hX
 have HB:=hid hX.below
 have HY:=hid (split_any b w1 hb)
 cases hsa:Nm.split a.data.toList with
 |none=>
  obtain rfl:=hX.no hsa
  have HP:=hid (yg (a:=a.data.toList) (b:=b.data.toList) (show Nm.within a.data.toList b.data.toList=false from by unfold Nm.within;rw[hsa]) HB.out)
  clear hX hsa
  dsimp only
  go_wp2_with fail
  go_ret
  exact HP.out
 | some xs=>
  obtain⟨ao,cap,rfl,hT⟩:=hX.yes xs hsa
  have h8:=(yh hsa).1
  have HS:=hid (yA hT rfl)
  clear hX hT
  dsimp only
  go_wp2_with fail
  refine HY.out.mono ?_
  rintro e w2 hX2
  have HB2:=hid (HB.out.trans (hX2.below.mono HB.out.size))
  have HS2:=hid (HS.out.below hX2.below)
  clear HS
  cases hsb:Nm.split b.data.toList with
  |none=>
   obtain rfl:=hX2.no hsb
   have HP:=hid (yg (a:=a.data.toList) (b:=b.data.toList) (show Nm.within a.data.toList b.data.toList=false from by unfold Nm.within;rw[hsa,hsb]) HB2.out)
   clear hX2 hsa hsb
   dsimp only
   go_wp2_with fail
   go_ret
   exact HP.out
  | some ys=>
   obtain⟨ao2,cap2,rfl,hT2⟩:=hX2.yes ys hsb
   have hcap:=Zk hT2
   have HT:=hid (yA hT2 rfl)
   have hW:Nm.within a.data.toList b.data.toList=xs.isPrefixOf ys:=by unfold Nm.within;rw[hsa,hsb]
   have HW:=hid hW
   clear hX2 hT2 hsa hsb hW
   dsimp only
   rcases Nat.lt_or_ge ys.length xs.length with hl|hl
   ·have hli:(ys.length:Int)<(xs.length:Int):=by omega
    have HP:=hid (yg (HW.out.trans (qI hl)) HB2.out)
    clear hl
    generalize xs.length=lx at*
    generalize ys.length=ly at*
    go_wp2_with fail
    go_ret
    exact HP.out
   ·have hli: ¬ (ys.length:Int)<(xs.length:Int):=by omega
    have hci:(xs.length:Int)<=(cap2:Int):=by omega
    have HE:=hid (JM ao2 ao xs.length cap2 xs.length cap _ _ w2 (YJ HT.out hl) HS2.out (by omega) (by omega))
    have HP:=hid (λ(w':World) (hb:Below w.heap.size w w')=>yg (HW.out.trans (VP hl)) hb)
    clear HT HS2 HW hl
    generalize xH ((ys.map lstr).take xs.length) (xs.map lstr)=r at*
    generalize xs.length=lx at*
    generalize ys.length=ly at*
    go_wp2_with fail
    refine HE.out.mono ?_
    rintro e w3 ⟨rfl,n,rfl⟩
    dsimp only
    go_wp2_with fail
    go_ret
    exact HP.out _ (xo HB2.out)
theorem names:Names:=⟨ud,split_any,join_any,ZH,jZ⟩
end Go.Proofs.YtabmamofnhcgbaaGreatDoor
namespace Go.Proofs.YtabmamofnhcgbaaGreatDoor
open Go.RowKit Go.Less
open T8 (pv Dg)
attribute [local go_sem 9000] zg zf
theorem XM(m:Option Nat)(nx:Int)(l:List Fs.Item)(kd:Int)(oa ob:ByteArray)(oo og on:Int)(od:ByteArray)(w:World)(h:Sv w m l)(hf9:l.length<=900)(pa:oa.size<=140737488355328){na nb:List ByteArray}(ha:spl oa=some na)(pb:ob.size<=140737488355328)(hb:spl ob=some nb)(i:Int)(hi1:i≠1)(hXi:1<=i/\i<=2147483647)(mo:Int)(d t:ByteArray)(es:List En)(hN:Fs.nodeD l i=⟨2,mo,d,t,es⟩)(hD9:Dp l 9 i)(HWn:Nm.within oa.data.toList ob.data.toList=false)
  (hF: ∀W,Below w.heap.size w W->Calls prog 62 #[stv m nx,.string oa] W (zU (i,(⟨2,mo,d,t,es⟩:Nd.Node),0) W))
  (dn2:Int) (y2:ByteArray) (hpl:Fs.place l na= .ok (dn2,y2)) (l1:List Fs.Item) (hlv:Fs.leaveP l na= .ok l1) {R:Except Int Fs.FS} (hR:R=match Fs.fresh l nb with
   | .error e=> .error e
   | .ok (dn,_)=>if 64<=(Fs.nodeD l dn).ents.length/\dn2≠dn then .error 3 else if 8<nb.length+Fs.deep l 9 i then .error 3 else match Fs.enterP env l1 nb i with
    | .error e=> .error e
    | .ok l2=> .ok ⟨l2,nx⟩):Calls prog 103 #[stv m nx,.agg #[.int .i64 kd,.string oa,.string ob,.int .i64 oo,.int .i64 og,.int .i64 on,.string od]] w (zP R w):=by
 have HF:=hid hF
 clear hF
 have HGp:=hid (λW (hbw:Below w.heap.size w W)=>ZI m nx l ob nb W (h.below hbw) pb hb)
 have HPl:=hid (λW (hbw:Below w.heap.size w W)=>(vG m nx l oa na W (h.below hbw) pa ha))
 have HLv:=hid (λW (hbw:Below w.heap.size w W)=>uv m nx l oa na W (h.below hbw) pa ha hf9)
 have HLn:=uA hlv hf9
 rw[show wl (Fs.leaveP l na) nx= .ok ⟨l1,nx⟩ by rw[hlv];rfl]at HLv
 have HEnt:=hid (λm5 W (hS:Sv W m5 l1)=>uw m5 nx l1 ob nb i W hS pb hb hXi HLn)
 have HD:=hid h.dg
 have HSm:=hid h.ok.small
 have HHt:=hid (λ(a:Option Addr) (c:Nat) W (hbw:Below w.heap.size w W) (hE:Ents a (Fs.nodeD l i).ents.length (Fs.nodeD l i).ents W)=>ZU m nx l w h 9 (by decide) i a c W hbw hE hD9)
 rw[hN]at HHt
 dsimp only at HHt
 have hDs:=y7 l 9 i
 have hn8:nb.length<=8:=by
  obtain⟨us,hus,rfl⟩:=xU hb
  rw[List.length_map];exact(yh hus).1
 rw[hpl]at HPl
 have HWi:=hid (λW=>jZ oa ob W pa pb)
 unfold yv at HWi
 rw[HWn]at HWi
 have HRi:=hid hR
 clear hR
 go_enter func103,ntmps103
 go_wp2_with fail
 obtain⟨W0,hW,HB⟩:=bx3 w m nx kd oa ob oo og on od;rw[hW];clear hW
 go_wp2_with fail
 refine(HF.out W0 HB.out.below).mono ?_
 rintro e w1 ⟨a,c,rfl,hE,hb⟩
 have HEn:=hid (hE.below (below_one w1 (.cells #[.int .i64 2,.int .i64 mo,.string d,.string t,.slice a es.length c] 43)))
 clear hE
 have HB:=hid (HB.out.kept hb)
 clear hb
 have HB:=hid (HB.out.more #[.int .i64 2,.int .i64 mo,.string d,.string t,.slice a es.length c] 43 rfl)
 have b1:=HB.out.c7 1 rfl
 dsimp only
 go_wp2_with fail
 refine(HWi.out (w1.alloc (.cells #[.int .i64 2,.int .i64 mo,.string d,.string t,.slice a es.length c] 43))).mono ?_
 rintro e w2 ⟨rfl,hb⟩
 have HEn:=hid (HEn.out.below hb)
 have HB:=hid (HB.out.kept hb)
 clear b1 hb
 have b0:=HB.out.c2 0 rfl
 have b1:=HB.out.c7 1 rfl
 have b2:=HB.out.c2 2 rfl
 have b3:=HB.out.c5 3 rfl
 dsimp only
 go_wp2_with fail
 cases hfr:Fs.fresh l nb with
 |error ec=>
  have hR:=HRi.out
  rw[hfr]at HGp hR
  have HR:=hid hR
  have hne:=kN hfr
  clear hR hfr hpl hlv HPl HLv HEnt HHt HSm HLn hN hD9 h hb ha hDs hn8
  refine(HGp.out w2 HB.out.below).mono ?_
  rintro e w3 ⟨hb,_,rfl⟩
  have HB:=hid (HB.out.kept hb)
  clear b0 b1 b2 b3 hb
  have HB:=hid (HB.out.more #[.int .i64 0,.int .i64 0,.int .i64 0,.string ⟨#[]⟩,.string ⟨#[]⟩,.slice none 0 0,.string ⟨#[]⟩] 199 rfl)
  dsimp only
  go_wp2_with (first|(refine zb HB.out 2 rfl 98 _ _ rfl rfl #[.pointer none,.int .i64 0] rfl rfl (by kernel_rfl) rfl rfl (by decide) (by decide) ?_;intro w4 hS hK hbS hsS;have HBS:=hid hS;clear hS hK hbS hsS;have HB:=HBS;clear HBS)|fail)
  refine bodyPost_ret_by (zh rfl _ _ (w.heap.size+1+1) _ _ rfl (HB.out.obj 2 rfl)) rfl ?_
  exact zj HR.out hne HB.out.below
 | ok r=>
  obtain⟨dn,y1⟩:=r
  have hR:=HRi.out
  rw[hfr]at HGp hR
  simp only at hR
  obtain⟨x1,hx1⟩: ∃x,Fs.nodeD l dn=x:=⟨_,rfl⟩
  obtain⟨x2,hx2⟩: ∃x,Fs.nodeD l dn2=x:=⟨_,rfl⟩
  have hs1:=HSm.out dn
  rw[hx1]at hR hs1
  have HGo:=hid (show∀W,Below w.heap.size w W->Calls prog 139 #[stv m nx,.string ob] W λe w'=>Below W.heap.size W w'/\ ∃a c,e= .returned (.tuple #[.agg #[.int .i64 dn,.int .i64 x1.kind,.int .i64 x1.mode,.string x1.data,.string x1.target,.slice a x1.ents.length c,.string y1],.int .i64 0])/\Ents a x1.ents.length x1.ents w' from λW hb=>(HGp.out W hb).mono λe w' hx=>by
   obtain⟨hx3,hx4⟩:=hx
   simp only[hx1]at hx4
   exact⟨hx3,hx4⟩)
  have HPo:=hid (show∀W,Below w.heap.size w W->Calls prog 140 #[stv m nx,.string oa] W λe w'=>Below W.heap.size W w'/\ ∃a c,e= .returned (.tuple #[.agg #[.int .i64 dn2,.int .i64 x2.kind,.int .i64 x2.mode,.string x2.data,.string x2.target,.slice a x2.ents.length c,.string y2],.int .i64 0])/\Ents a x2.ents.length x2.ents w' from λW hb=>(HPl.out W hb).mono λe w' hx=>by
   obtain⟨hx3,hx4⟩:=hx
   simp only[hx2]at hx4
   exact⟨hx3,hx4⟩)
  have hsl:=KS hb (Ur hfr)
  have HCo:=hid (show∀W,Calls prog 142 #[.string ob,.string ⟨#[47]⟩] W λe w'=>e= .returned (.int .i64 (nb.length:Int))/\w'=W from λW=>(Xj ob W).mono λe w' hx=>by rw[hsl]at hx;exact hx)
  clear hsl HGp HPl hx2 hfr hpl hlv HLn hD9 h hb ha HSm hN
  obtain⟨k1,m1,d1,t1,e1⟩:=x1
  obtain⟨k2,m2,d2,t2,e2⟩:=x2
  dsimp only at HGo HPo hR hs1
  have HFu:=hid (λ(a:Option Addr) (c:Nat) W=>jY k1 m1 d1 t1 a e1.length c W (by omega))
  generalize Fs.deep l 9 i=D at*
  generalize nb.length=N at*
  clear hx1
  have hwr:IntKind.i64.wrap ((N:Int)+(D:Int))=(N:Int)+(D:Int):=IntWalk.i64_in _ (by omega)
  have HRi:=hid hR
  clear hR
  refine(HGo.out w2 HB.out.below).mono ?_
  rintro e w3 ⟨hb,a1,c1,rfl,hE1⟩
  clear hE1
  have HEn:=hid ((HEn.out.below hb).below (below_one w3 (.cells #[.int .i64 dn,.int .i64 k1,.int .i64 m1,.string d1,.string t1,.slice a1 e1.length c1,.string y1] 199)))
  have HB:=hid (HB.out.kept hb)
  clear b0 b1 b2 b3 hb
  have HB:=hid (HB.out.more #[.int .i64 dn,.int .i64 k1,.int .i64 m1,.string d1,.string t1,.slice a1 e1.length c1,.string y1] 199 rfl)
  have b0:=HB.out.c2 0 rfl
  have b1:=HB.out.c7 1 rfl
  dsimp only
  go_wp2_with fail
  refine(HPo.out (w3.alloc (.cells #[.int .i64 dn,.int .i64 k1,.int .i64 m1,.string d1,.string t1,.slice a1 e1.length c1,.string y1] 199)) HB.out.below).mono ?_
  rintro e w4 ⟨hb,a2,c2,rfl,hE2⟩
  clear hE2
  have HEn:=hid ((HEn.out.below hb).below (below_one w4 (.cells #[.int .i64 dn2,.int .i64 k2,.int .i64 m2,.string d2,.string t2,.slice a2 e2.length c2,.string y2] 199)))
  have HB:=hid (HB.out.kept hb)
  clear b0 b1 hb
  have HB:=hid (HB.out.more #[.int .i64 dn2,.int .i64 k2,.int .i64 m2,.string d2,.string t2,.slice a2 e2.length c2,.string y2] 199 rfl)
  have b0:=HB.out.c2 0 rfl
  have b1:=HB.out.c7 1 rfl
  have b2:=HB.out.c2 2 rfl
  have b3:=HB.out.c5 3 rfl
  have b4:=HB.out.c7 4 rfl
  dsimp only
  go_wp2_with fail
  generalize (w4.alloc (.cells #[.int .i64 dn2,.int .i64 k2,.int .i64 m2,.string d2,.string t2,.slice a2 e2.length c2,.string y2] 199))=V at HB HEn b0 b1 b2 b3 b4|-
  by_cases hfd:64<=e1.length/\dn2≠dn
  ·have HR:=hid (show R= .error 3 by rw[HRi.out,if_pos hfd])
   rw[show decide ((64:Int)<=(e1.length:Int))=true from decide_eq_true (by omega)]at HFu
   have hdd:dn≠dn2:=λe=>hfd.2 e.symm
   clear HRi HLv HEnt HHt HCo hwr hDs hn8 hfd hs1
   refine(HFu.out a1 c1 V).mono ?_
   rintro e w5 ⟨rfl,hb⟩
   have HB:=hid (HB.out.kept hb)
   clear b0 b1 b2 b3 b4 hb
   have b4:=HB.out.c7 4 rfl
   have b5:=HB.out.c7 5 rfl
   dsimp only
   go_wp2_with (first|(refine zb HB.out 2 rfl 98 _ _ rfl rfl #[.pointer none,.int .i64 0] rfl rfl (by kernel_rfl) rfl rfl (by decide) (by decide) ?_;intro w6 hS hK hbS hsS;have HBS:=hid hS;clear hS hK hbS hsS;have HB:=HBS;clear HBS;clear b4 b5)|fail)
   refine bodyPost_ret_by (zh rfl _ _ (w.heap.size+1+1) _ _ rfl (HB.out.obj 2 rfl)) rfl ?_
   exact zj HR.out (by decide) HB.out.below
  have hR:=HRi.out
  rw[if_neg hfd]at hR
  have HRi:=hid hR
  clear hR
  have hcs:decide ((64:Int)<=(e1.length:Int))=false\/(decide ((64:Int)<=(e1.length:Int))=true/\dn2=dn):=by
   by_cases h1:64<=e1.length
   ·exact .inr ⟨decide_eq_true (by omega),Classical.byContradiction λh2=>hfd ⟨h1,h2⟩⟩
   ·exact .inl (decide_eq_false (by omega))
  have HBv:=HB
  have HEv:=HEn
  have HFv:=HFu
  have HRv:=HRi
  clear hfd
  rcases hcs with hfi|⟨hfi,rfl⟩
  all_goals
   have HB:=HBv
   have HEn:=HEv
   have HFu:=HFv
   have HRi:=HRv
   rw[hfi]at HFu
   clear hfi HBv HEv HFv HRv
   refine(HFu.out a1 c1 V).mono ?_
   rintro e w5 ⟨rfl,hb⟩
   have HEn:=hid (HEn.out.below hb)
   have HB:=hid (HB.out.kept hb)
   clear b0 b1 b2 b3 b4 hb
   have b0:=HB.out.c2 0 rfl
   have b1:=HB.out.c7 1 rfl
   have b4:=HB.out.c7 4 rfl
   have b5:=HB.out.c7 5 rfl
   dsimp only
   go_wp2_with fail
   have HSx:=hid (λW hb=>(⟨(HB.out.kept hb).cell 0 rfl 0,(HB.out.kept hb).cell 0 rfl 1,(HB.out.kept hb).cell 1 rfl 2,(HB.out.kept hb).cell 3 rfl 0,(HB.out.kept hb).cell 3 rfl 1,(HB.out.kept hb).cell 3 rfl 2,(HB.out.kept hb).cell 3 rfl 3,(HB.out.kept hb).cell 3 rfl 4,hb⟩:W.cell? ⟨w.heap.size,0,none⟩=some (pv m)/\W.cell? ⟨w.heap.size,1,none⟩=some (.int .i64 nx)/\W.cell? ⟨w.heap.size+1,2,none⟩=some (.string ob)/\W.cell? ⟨w1.heap.size,0,none⟩=some (.int .i64 2)/\W.cell? ⟨w1.heap.size,1,none⟩=some (.int .i64 mo)/\W.cell? ⟨w1.heap.size,2,none⟩=some (.string d)/\W.cell? ⟨w1.heap.size,3,none⟩=some (.string t)/\W.cell? ⟨w1.heap.size,4,none⟩=some (.slice a es.length c)/\Below w5.heap.size w5 W))
   have HHx:=hid (λW (hb:Below w5.heap.size w5 W)=>HHt.out a c W (HB.out.below.trans (hb.mono HB.out.below.size)) (HEn.out.below hb))
   have hBd:=(Below.refl w5.heap.size w5).drew
   go_wp2_with fail
   go_region_held3 (λW=>W.cell? ⟨w.heap.size,0,none⟩=some (pv m)/\W.cell? ⟨w.heap.size,1,none⟩=some (.int .i64 nx)/\W.cell? ⟨w.heap.size+1,2,none⟩=some (.string ob)/\W.cell? ⟨w1.heap.size,0,none⟩=some (.int .i64 2)/\W.cell? ⟨w1.heap.size,1,none⟩=some (.int .i64 mo)/\W.cell? ⟨w1.heap.size,2,none⟩=some (.string d)/\W.cell? ⟨w1.heap.size,3,none⟩=some (.string t)/\W.cell? ⟨w1.heap.size,4,none⟩=some (.slice a es.length c)/\Below w5.heap.size w5 W)
    (first|exact HSx.out _ (by assumption))
    (first
    |(go_at_call 142;(with_reducible refine(HCo.out _).mono ?_);rintro e w20 ⟨rfl,rfl⟩)
    |(go_at_call 143;(with_reducible refine(HHx.out _ (by assumption)).mono ?_);rintro e w21 ⟨rfl,hw21⟩;have hb21:=T8.btrans hw21 (by assumption)))
   all_goals
    have HB:=hid (HB.out.kept hb21)
    clear b0 b1 b4 b5
    clear hb21 hw21 hBd HHx HSx
    have b1:=HB.out.c7 1 rfl
    by_cases hdeep:8<N+D
    ·have HR:=hid (show R= .error 3 by rw[HRi.out,if_pos hdeep])
     have hdi:(8:Int)<(N:Int)+(D:Int):=by omega
     clear HRi HLv HEnt hdeep
     go_wp2_with (first|(refine zb HB.out 2 rfl 98 _ _ rfl rfl #[.pointer none,.int .i64 0] rfl rfl (by kernel_rfl) rfl rfl (by decide) (by decide) ?_;intro w6 hS hK hbS hsS;have HBS:=hid hS;clear hS hK hbS hsS;have HB:=HBS;clear HBS;clear b1)|fail)
     refine bodyPost_ret_by (zh rfl _ _ (w.heap.size+1+1) _ _ rfl (HB.out.obj 2 rfl)) rfl ?_
     exact zj HR.out (by decide) HB.out.below
    have hdi: ¬ ((8:Int)<(N:Int)+(D:Int)):=by omega
    have hR:=HRi.out
    rw[if_neg hdeep]at hR
    have HRi:=hid hR
    clear hdeep hR
    go_wp2_with fail
    refine(HLv.out w21 HB.out.below).mono ?_
    rintro e w6 ⟨hb,m5,rfl,hS⟩
    have HS:=hid hS
    clear hS
    have HB:=hid (HB.out.kept hb)
    clear b1 hb
    have b0:=HB.out.c2 0 rfl
    have b1:=HB.out.c7 1 rfl
    dsimp only
    go_wp2_with (first|(refine zb HB.out 0 rfl 98 _ _ rfl rfl #[pv m5,.int .i64 nx] rfl rfl (by kernel_rfl) rfl rfl (by decide) (by decide) ?_;intro w7 hS hK hbS hsS;have HBS:=hid hS;have HS:=hid (HS.out.kept hK (HD.out.below hbS));clear hS hK hbS hsS;have HB:=HBS;clear HBS;clear b0 b1;have b0:=HB.out.c2 0 rfl;have b1:=HB.out.c7 1 rfl)|fail)
    cases hen:Fs.enterP env l1 nb i with
    |error ec=>
     have hR:=HRi.out
     rw[hen]at hR
     have HR:=hid hR
     rw[show wl (Fs.enterP env l1 nb i) nx= .error ec by rw[hen];rfl]at HEnt
     clear hen hR
     refine(HEnt.out m5 w7 HS.out).mono ?_
     rintro e w8 ⟨hb,hne,rfl⟩
     have HB:=hid (HB.out.kept hb)
     clear b0 b1 hb
     dsimp only
     go_wp2_with (first|(refine zb HB.out 2 rfl 98 _ _ rfl rfl #[.pointer none,.int .i64 0] rfl rfl (by kernel_rfl) rfl rfl (by decide) (by decide) ?_;intro w9 hS hK hbS hsS;have HBS:=hid hS;clear hS hK hbS hsS;have HB:=HBS;clear HBS)|fail)
     refine bodyPost_ret_by (zh rfl _ _ (w.heap.size+1+1) _ _ rfl (HB.out.obj 2 rfl)) rfl ?_
     exact zj HR.out hne HB.out.below
    |ok l2=>
     have hR:=HRi.out
     rw[hen]at hR
     have HR:=hid hR
     rw[show wl (Fs.enterP env l1 nb i) nx= .ok ⟨l2,nx⟩ by rw[hen];rfl]at HEnt
     clear hen hR
     refine(HEnt.out m5 w7 HS.out).mono ?_
     rintro e w8 ⟨hb,m6,rfl,hS⟩
     have HS:=hid hS
     clear hS
     have HB:=hid (HB.out.kept hb)
     clear b0 b1 hb
     dsimp only
     go_wp2_with (first|(refine zb HB.out 2 rfl 98 _ _ rfl rfl #[pv m6,.int .i64 nx] rfl rfl (by kernel_rfl) rfl rfl (by decide) (by decide) ?_;intro w9 hS hK hbS hsS;have HBS:=hid hS;have HS:=hid (HS.out.kept hK (HD.out.below hbS));clear hS hK hbS hsS;have HB:=HBS;clear HBS)|fail)
     refine bodyPost_ret_by (zh rfl _ _ (w.heap.size+1+1) _ _ rfl (HB.out.obj 2 rfl)) rfl ?_
     exact zM HR.out HB.out.below HS.out
theorem XK(m:Option Nat)(nx:Int)(l:List Fs.Item)(kd:Int)(oa ob:ByteArray)(oo og on:Int)(od:ByteArray)(w:World)(h:Sv w m l)(hf9:l.length<=900)(pa:oa.size<=140737488355328){na nb:List ByteArray}(ha:spl oa=some na)(pb:ob.size<=140737488355328)(hb:spl ob=some nb)(i:Int)(hi1:i≠1)(hXi:1<=i/\i<=2147483647)(k:Int)(mo:Int)(d t:ByteArray)(es:List En)(hN:Fs.nodeD l i=⟨k,mo,d,t,es⟩)(hD9:Dp l 9 i)(hk2:k≠2)
  (hF: ∀W,Below w.heap.size w W->Calls prog 62 #[stv m nx,.string oa] W (zU (i,(⟨k,mo,d,t,es⟩:Nd.Node),0) W))
  (dn2:Int) (y2:ByteArray) (hpl:Fs.place l na= .ok (dn2,y2)) (l1:List Fs.Item) (hlv:Fs.leaveP l na= .ok l1) {R:Except Int Fs.FS} (hR:R=match Fs.fresh l nb with
   | .error e=> .error e
   | .ok (dn,_)=>if 64<=(Fs.nodeD l dn).ents.length/\dn2≠dn then .error 3 else if 8<nb.length+Fs.deep l 9 i then .error 3 else match Fs.enterP env l1 nb i with
    | .error e=> .error e
    | .ok l2=> .ok ⟨l2,nx⟩):Calls prog 103 #[stv m nx,.agg #[.int .i64 kd,.string oa,.string ob,.int .i64 oo,.int .i64 og,.int .i64 on,.string od]] w (zP R w):=by
 have HF:=hid hF
 clear hF
 have HGp:=hid (λW (hbw:Below w.heap.size w W)=>ZI m nx l ob nb W (h.below hbw) pb hb)
 have HPl:=hid (λW (hbw:Below w.heap.size w W)=>(vG m nx l oa na W (h.below hbw) pa ha))
 have HLv:=hid (λW (hbw:Below w.heap.size w W)=>uv m nx l oa na W (h.below hbw) pa ha hf9)
 have HLn:=uA hlv hf9
 rw[show wl (Fs.leaveP l na) nx= .ok ⟨l1,nx⟩ by rw[hlv];rfl]at HLv
 have HEnt:=hid (λm5 W (hS:Sv W m5 l1)=>uw m5 nx l1 ob nb i W hS pb hb hXi HLn)
 have HD:=hid h.dg
 have HSm:=hid h.ok.small
 have HHt:=hid (λ(a:Option Addr) (c:Nat) W (hbw:Below w.heap.size w W) (hE:Ents a (Fs.nodeD l i).ents.length (Fs.nodeD l i).ents W)=>ZU m nx l w h 9 (by decide) i a c W hbw hE hD9)
 rw[hN]at HHt
 dsimp only at HHt
 have hDs:=y7 l 9 i
 have hn8:nb.length<=8:=by
  obtain⟨us,hus,rfl⟩:=xU hb
  rw[List.length_map];exact(yh hus).1
 rw[hpl]at HPl
 have HRi:=hid hR
 clear hR
 go_enter func103,ntmps103
 go_wp2_with fail
 obtain⟨W0,hW,HB⟩:=bx3 w m nx kd oa ob oo og on od;rw[hW];clear hW
 go_wp2_with fail
 refine(HF.out W0 HB.out.below).mono ?_
 rintro e w1 ⟨a,c,rfl,hE,hb⟩
 have HEn:=hid (hE.below (below_one w1 (.cells #[.int .i64 k,.int .i64 mo,.string d,.string t,.slice a es.length c] 43)))
 clear hE
 have HB:=hid (HB.out.kept hb)
 clear hb
 have HB:=hid (HB.out.more #[.int .i64 k,.int .i64 mo,.string d,.string t,.slice a es.length c] 43 rfl)
 have b0:=HB.out.c2 0 rfl
 have b1:=HB.out.c7 1 rfl
 have b2:=HB.out.c2 2 rfl
 dsimp only
 go_wp2_with fail
 cases hfr:Fs.fresh l nb with
 |error ec=>
  have hR:=HRi.out
  rw[hfr]at HGp hR
  have HR:=hid hR
  have hne:=kN hfr
  clear hR hfr hpl hlv HPl HLv HEnt HHt HSm HLn hN hD9 h hb ha hDs hn8
  refine(HGp.out (w1.alloc (.cells #[.int .i64 k,.int .i64 mo,.string d,.string t,.slice a es.length c] 43)) HB.out.below).mono ?_
  rintro e w2 ⟨hb,_,rfl⟩
  have HB:=hid (HB.out.kept hb)
  clear b0 b1 b2 hb
  have HB:=hid (HB.out.more #[.int .i64 0,.int .i64 0,.int .i64 0,.string ⟨#[]⟩,.string ⟨#[]⟩,.slice none 0 0,.string ⟨#[]⟩] 199 rfl)
  dsimp only
  go_wp2_with (first|(refine zb HB.out 2 rfl 98 _ _ rfl rfl #[.pointer none,.int .i64 0] rfl rfl (by kernel_rfl) rfl rfl (by decide) (by decide) ?_;intro w3 hS hK hbS hsS;have HBS:=hid hS;clear hS hK hbS hsS;have HB:=HBS;clear HBS)|fail)
  refine bodyPost_ret_by (zh rfl _ _ (w.heap.size+1+1) _ _ rfl (HB.out.obj 2 rfl)) rfl ?_
  exact zj HR.out hne HB.out.below
 | ok r=>
  obtain⟨dn,y1⟩:=r
  have hR:=HRi.out
  rw[hfr]at HGp hR
  simp only at hR
  obtain⟨x1,hx1⟩: ∃x,Fs.nodeD l dn=x:=⟨_,rfl⟩
  obtain⟨x2,hx2⟩: ∃x,Fs.nodeD l dn2=x:=⟨_,rfl⟩
  have hs1:=HSm.out dn
  rw[hx1]at hR hs1
  have HGo:=hid (show∀W,Below w.heap.size w W->Calls prog 139 #[stv m nx,.string ob] W λe w'=>Below W.heap.size W w'/\ ∃a c,e= .returned (.tuple #[.agg #[.int .i64 dn,.int .i64 x1.kind,.int .i64 x1.mode,.string x1.data,.string x1.target,.slice a x1.ents.length c,.string y1],.int .i64 0])/\Ents a x1.ents.length x1.ents w' from λW hb=>(HGp.out W hb).mono λe w' hx=>by
   obtain⟨hx3,hx4⟩:=hx
   simp only[hx1]at hx4
   exact⟨hx3,hx4⟩)
  have HPo:=hid (show∀W,Below w.heap.size w W->Calls prog 140 #[stv m nx,.string oa] W λe w'=>Below W.heap.size W w'/\ ∃a c,e= .returned (.tuple #[.agg #[.int .i64 dn2,.int .i64 x2.kind,.int .i64 x2.mode,.string x2.data,.string x2.target,.slice a x2.ents.length c,.string y2],.int .i64 0])/\Ents a x2.ents.length x2.ents w' from λW hb=>(HPl.out W hb).mono λe w' hx=>by
   obtain⟨hx3,hx4⟩:=hx
   simp only[hx2]at hx4
   exact⟨hx3,hx4⟩)
  have hsl:=KS hb (Ur hfr)
  have HCo:=hid (show∀W,Calls prog 142 #[.string ob,.string ⟨#[47]⟩] W λe w'=>e= .returned (.int .i64 (nb.length:Int))/\w'=W from λW=>(Xj ob W).mono λe w' hx=>by rw[hsl]at hx;exact hx)
  clear hsl HGp HPl hx2 hfr hpl hlv HLn hD9 h hb ha HSm hN
  obtain⟨k1,m1,d1,t1,e1⟩:=x1
  obtain⟨k2,m2,d2,t2,e2⟩:=x2
  dsimp only at HGo HPo hR hs1
  have HFu:=hid (λ(a:Option Addr) (c:Nat) W=>jY k1 m1 d1 t1 a e1.length c W (by omega))
  generalize Fs.deep l 9 i=D at*
  generalize nb.length=N at*
  clear hx1
  have hwr:IntKind.i64.wrap ((N:Int)+(D:Int))=(N:Int)+(D:Int):=IntWalk.i64_in _ (by omega)
  have HRi:=hid hR
  clear hR
  refine(HGo.out (w1.alloc (.cells #[.int .i64 k,.int .i64 mo,.string d,.string t,.slice a es.length c] 43)) HB.out.below).mono ?_
  rintro e w2 ⟨hb,a1,c1,rfl,hE1⟩
  clear hE1
  have HEn:=hid ((HEn.out.below hb).below (below_one w2 (.cells #[.int .i64 dn,.int .i64 k1,.int .i64 m1,.string d1,.string t1,.slice a1 e1.length c1,.string y1] 199)))
  have HB:=hid (HB.out.kept hb)
  clear b0 b1 b2 hb
  have HB:=hid (HB.out.more #[.int .i64 dn,.int .i64 k1,.int .i64 m1,.string d1,.string t1,.slice a1 e1.length c1,.string y1] 199 rfl)
  have b0:=HB.out.c2 0 rfl
  have b1:=HB.out.c7 1 rfl
  dsimp only
  go_wp2_with fail
  refine(HPo.out (w2.alloc (.cells #[.int .i64 dn,.int .i64 k1,.int .i64 m1,.string d1,.string t1,.slice a1 e1.length c1,.string y1] 199)) HB.out.below).mono ?_
  rintro e w3 ⟨hb,a2,c2,rfl,hE2⟩
  clear hE2
  have HEn:=hid ((HEn.out.below hb).below (below_one w3 (.cells #[.int .i64 dn2,.int .i64 k2,.int .i64 m2,.string d2,.string t2,.slice a2 e2.length c2,.string y2] 199)))
  have HB:=hid (HB.out.kept hb)
  clear b0 b1 hb
  have HB:=hid (HB.out.more #[.int .i64 dn2,.int .i64 k2,.int .i64 m2,.string d2,.string t2,.slice a2 e2.length c2,.string y2] 199 rfl)
  have b0:=HB.out.c2 0 rfl
  have b1:=HB.out.c7 1 rfl
  have b2:=HB.out.c2 2 rfl
  have b3:=HB.out.c5 3 rfl
  have b4:=HB.out.c7 4 rfl
  dsimp only
  go_wp2_with fail
  generalize (w3.alloc (.cells #[.int .i64 dn2,.int .i64 k2,.int .i64 m2,.string d2,.string t2,.slice a2 e2.length c2,.string y2] 199))=V at HB HEn b0 b1 b2 b3 b4|-
  by_cases hfd:64<=e1.length/\dn2≠dn
  ·have HR:=hid (show R= .error 3 by rw[HRi.out,if_pos hfd])
   rw[show decide ((64:Int)<=(e1.length:Int))=true from decide_eq_true (by omega)]at HFu
   have hdd:dn≠dn2:=λe=>hfd.2 e.symm
   clear HRi HLv HEnt HHt HCo hwr hDs hn8 hfd hs1
   refine(HFu.out a1 c1 V).mono ?_
   rintro e w4 ⟨rfl,hb⟩
   have HB:=hid (HB.out.kept hb)
   clear b0 b1 b2 b3 b4 hb
   have b4:=HB.out.c7 4 rfl
   have b5:=HB.out.c7 5 rfl
   dsimp only
   go_wp2_with (first|(refine zb HB.out 2 rfl 98 _ _ rfl rfl #[.pointer none,.int .i64 0] rfl rfl (by kernel_rfl) rfl rfl (by decide) (by decide) ?_;intro w5 hS hK hbS hsS;have HBS:=hid hS;clear hS hK hbS hsS;have HB:=HBS;clear HBS;clear b4 b5)|fail)
   refine bodyPost_ret_by (zh rfl _ _ (w.heap.size+1+1) _ _ rfl (HB.out.obj 2 rfl)) rfl ?_
   exact zj HR.out (by decide) HB.out.below
  have hR:=HRi.out
  rw[if_neg hfd]at hR
  have HRi:=hid hR
  clear hR
  have hcs:decide ((64:Int)<=(e1.length:Int))=false\/(decide ((64:Int)<=(e1.length:Int))=true/\dn2=dn):=by
   by_cases h1:64<=e1.length
   ·exact .inr ⟨decide_eq_true (by omega),Classical.byContradiction λh2=>hfd ⟨h1,h2⟩⟩
   ·exact .inl (decide_eq_false (by omega))
  have HBv:=HB
  have HEv:=HEn
  have HFv:=HFu
  have HRv:=HRi
  clear hfd
  rcases hcs with hfi|⟨hfi,rfl⟩
  all_goals
   have HB:=HBv
   have HEn:=HEv
   have HFu:=HFv
   have HRi:=HRv
   rw[hfi]at HFu
   clear hfi HBv HEv HFv HRv
   refine(HFu.out a1 c1 V).mono ?_
   rintro e w4 ⟨rfl,hb⟩
   have HEn:=hid (HEn.out.below hb)
   have HB:=hid (HB.out.kept hb)
   clear b0 b1 b2 b3 b4 hb
   have b0:=HB.out.c2 0 rfl
   have b1:=HB.out.c7 1 rfl
   have b4:=HB.out.c7 4 rfl
   have b5:=HB.out.c7 5 rfl
   dsimp only
   go_wp2_with fail
   have HSx:=hid (λW hb=>(⟨(HB.out.kept hb).cell 0 rfl 0,(HB.out.kept hb).cell 0 rfl 1,(HB.out.kept hb).cell 1 rfl 2,(HB.out.kept hb).cell 3 rfl 0,(HB.out.kept hb).cell 3 rfl 1,(HB.out.kept hb).cell 3 rfl 2,(HB.out.kept hb).cell 3 rfl 3,(HB.out.kept hb).cell 3 rfl 4,hb⟩:W.cell? ⟨w.heap.size,0,none⟩=some (pv m)/\W.cell? ⟨w.heap.size,1,none⟩=some (.int .i64 nx)/\W.cell? ⟨w.heap.size+1,2,none⟩=some (.string ob)/\W.cell? ⟨w1.heap.size,0,none⟩=some (.int .i64 k)/\W.cell? ⟨w1.heap.size,1,none⟩=some (.int .i64 mo)/\W.cell? ⟨w1.heap.size,2,none⟩=some (.string d)/\W.cell? ⟨w1.heap.size,3,none⟩=some (.string t)/\W.cell? ⟨w1.heap.size,4,none⟩=some (.slice a es.length c)/\Below w4.heap.size w4 W))
   have HHx:=hid (λW (hb:Below w4.heap.size w4 W)=>HHt.out a c W (HB.out.below.trans (hb.mono HB.out.below.size)) (HEn.out.below hb))
   have hBd:=(Below.refl w4.heap.size w4).drew
   go_wp2_with fail
   go_region_held3 (λW=>W.cell? ⟨w.heap.size,0,none⟩=some (pv m)/\W.cell? ⟨w.heap.size,1,none⟩=some (.int .i64 nx)/\W.cell? ⟨w.heap.size+1,2,none⟩=some (.string ob)/\W.cell? ⟨w1.heap.size,0,none⟩=some (.int .i64 k)/\W.cell? ⟨w1.heap.size,1,none⟩=some (.int .i64 mo)/\W.cell? ⟨w1.heap.size,2,none⟩=some (.string d)/\W.cell? ⟨w1.heap.size,3,none⟩=some (.string t)/\W.cell? ⟨w1.heap.size,4,none⟩=some (.slice a es.length c)/\Below w4.heap.size w4 W)
    (first|exact HSx.out _ (by assumption))
    (first
    |(go_at_call 142;(with_reducible refine(HCo.out _).mono ?_);rintro e w20 ⟨rfl,rfl⟩)
    |(go_at_call 143;(with_reducible refine(HHx.out _ (by assumption)).mono ?_);rintro e w21 ⟨rfl,hw21⟩;have hb21:=T8.btrans hw21 (by assumption)))
   all_goals
    have HB:=hid (HB.out.kept hb21)
    clear b0 b1 b4 b5
    clear hb21 hw21 hBd HHx HSx
    have b1:=HB.out.c7 1 rfl
    by_cases hdeep:8<N+D
    ·have HR:=hid (show R= .error 3 by rw[HRi.out,if_pos hdeep])
     have hdi:(8:Int)<(N:Int)+(D:Int):=by omega
     clear HRi HLv HEnt hdeep
     go_wp2_with (first|(refine zb HB.out 2 rfl 98 _ _ rfl rfl #[.pointer none,.int .i64 0] rfl rfl (by kernel_rfl) rfl rfl (by decide) (by decide) ?_;intro w5 hS hK hbS hsS;have HBS:=hid hS;clear hS hK hbS hsS;have HB:=HBS;clear HBS;clear b1)|fail)
     refine bodyPost_ret_by (zh rfl _ _ (w.heap.size+1+1) _ _ rfl (HB.out.obj 2 rfl)) rfl ?_
     exact zj HR.out (by decide) HB.out.below
    have hdi: ¬ ((8:Int)<(N:Int)+(D:Int)):=by omega
    have hR:=HRi.out
    rw[if_neg hdeep]at hR
    have HRi:=hid hR
    clear hdeep hR
    go_wp2_with fail
    refine(HLv.out w21 HB.out.below).mono ?_
    rintro e w5 ⟨hb,m5,rfl,hS⟩
    have HS:=hid hS
    clear hS
    have HB:=hid (HB.out.kept hb)
    clear b1 hb
    have b0:=HB.out.c2 0 rfl
    have b1:=HB.out.c7 1 rfl
    dsimp only
    go_wp2_with (first|(refine zb HB.out 0 rfl 98 _ _ rfl rfl #[pv m5,.int .i64 nx] rfl rfl (by kernel_rfl) rfl rfl (by decide) (by decide) ?_;intro w6 hS hK hbS hsS;have HBS:=hid hS;have HS:=hid (HS.out.kept hK (HD.out.below hbS));clear hS hK hbS hsS;have HB:=HBS;clear HBS;clear b0 b1;have b0:=HB.out.c2 0 rfl;have b1:=HB.out.c7 1 rfl)|fail)
    cases hen:Fs.enterP env l1 nb i with
    |error ec=>
     have hR:=HRi.out
     rw[hen]at hR
     have HR:=hid hR
     rw[show wl (Fs.enterP env l1 nb i) nx= .error ec by rw[hen];rfl]at HEnt
     clear hen hR
     refine(HEnt.out m5 w6 HS.out).mono ?_
     rintro e w7 ⟨hb,hne,rfl⟩
     have HB:=hid (HB.out.kept hb)
     clear b0 b1 hb
     dsimp only
     go_wp2_with (first|(refine zb HB.out 2 rfl 98 _ _ rfl rfl #[.pointer none,.int .i64 0] rfl rfl (by kernel_rfl) rfl rfl (by decide) (by decide) ?_;intro w8 hS hK hbS hsS;have HBS:=hid hS;clear hS hK hbS hsS;have HB:=HBS;clear HBS)|fail)
     refine bodyPost_ret_by (zh rfl _ _ (w.heap.size+1+1) _ _ rfl (HB.out.obj 2 rfl)) rfl ?_
     exact zj HR.out hne HB.out.below
    |ok l2=>
     have hR:=HRi.out
     rw[hen]at hR
     have HR:=hid hR
     rw[show wl (Fs.enterP env l1 nb i) nx= .ok ⟨l2,nx⟩ by rw[hen];rfl]at HEnt
     clear hen hR
     refine(HEnt.out m5 w6 HS.out).mono ?_
     rintro e w7 ⟨hb,m6,rfl,hS⟩
     have HS:=hid hS
     clear hS
     have HB:=hid (HB.out.kept hb)
     clear b0 b1 hb
     dsimp only
     go_wp2_with (first|(refine zb HB.out 2 rfl 98 _ _ rfl rfl #[pv m6,.int .i64 nx] rfl rfl (by kernel_rfl) rfl rfl (by decide) (by decide) ?_;intro w8 hS hK hbS hsS;have HBS:=hid hS;have HS:=hid (HS.out.kept hK (HD.out.below hbS));clear hS hK hbS hsS;have HB:=HBS;clear HBS)|fail)
     refine bodyPost_ret_by (zh rfl _ _ (w.heap.size+1+1) _ _ rfl (HB.out.obj 2 rfl)) rfl ?_
     exact zM HR.out HB.out.below HS.out
end Go.Proofs.YtabmamofnhcgbaaGreatDoor
