/- A part of the proofs. -/
import Derived.Test.YtabmamofnhcgbaaGreatDoorC11
set_option maxRecDepth 1000000
set_option maxHeartbeats 16000000
open Go.Lib (hid)
open Go.Proofs.Tryz
namespace Go.Proofs.YtabmamofnhcgbaaGreatDoor
open Go.RowKit Go.Less
open T8 (pv Rp Dg vW vI vJ yx vA yq yV X7 cn Zg)
theorem Jp(w:World)(a b c d:UInt8):(convert 144 9 (.slice (some ⟨w.heap.size,0,none⟩) 4 4)).run prog (w.alloc (.cells #[.int .u8 (a.toNat:Int),.int .u8 (b.toNat:Int),.int .u8 (c.toNat:Int),.int .u8 (d.toNat:Int)] 5))= .ok (.string ⟨#[a,b,c,d]⟩) (w.alloc (.cells #[.int .u8 (a.toNat:Int),.int .u8 (b.toNat:Int),.int .u8 (c.toNat:Int),.int .u8 (d.toNat:Int)] 5)):=by
 rw[run_convert_bytes_arg (P:=prog) (w.alloc (.cells #[.int .u8 (a.toNat:Int),.int .u8 (b.toNat:Int),.int .u8 (c.toNat:Int),.int .u8 (d.toNat:Int)] 5)) 144 5 underlying144 underlying5 w.heap.size 0 4 4 [(a.toNat:Int),(b.toNat:Int),(c.toNat:Int),(d.toNat:Int)] rfl ?_ 9 underlying9]
 ·simp[strOfNums]
 ·intro i hi
  rw[Nat.zero_add,World.cell?_alloc_new]
  match i,hi with
  |0,_=>rfl
  |1,_=>rfl
  |2,_=>rfl
  |3,_=>rfl
attribute [local go_sem 9000] Jp
theorem zax(n:Nat)(w:World)(_:n<=4294967295):
  Calls prog 90 #[.int .i64 (n:Int)] w (λe w'=>e= .returned (.string (Fs.key (n:Int)))/\Below w.heap.size w w'):=by
 have HK:=hid (show Fs.key (n:Int)=⟨#[byteOf (n/16777216),byteOf (n/65536),byteOf (n/256),byteOf n]⟩ by unfold Fs.key Nd.mk Nd.n4;simp[byteOf])
 have e0:(n:Int)/16777216%256=((byteOf (n/16777216)).toNat:Int):=by rw[<-byteOf_eq];omega
 have e1:(n:Int)/65536%256=((byteOf (n/65536)).toNat:Int):=by rw[<-byteOf_eq];omega
 have e2:(n:Int)/256%256=((byteOf (n/256)).toNat:Int):=by rw[<-byteOf_eq];omega
 have e3:(n:Int)%256=((byteOf n).toNat:Int):=by rw[<-byteOf_eq]
 generalize hA:byteOf (n/16777216)=A at e0 HK
 generalize hB:byteOf (n/65536)=B at e1 HK
 generalize hC:byteOf (n/256)=C at e2 HK
 generalize hD:byteOf n=D at e3 HK
 clear hA hB hC hD
 generalize (n:Int)=k at*
 go_enter func90,ntmps90
 go_wp2_with fail
 go_ret
 exact⟨by rw[HK.out];rfl,(Below.refl w.heap.size w).alloc (Nat.le_refl _) _⟩
theorem jv(i:Int)(w:World)(h0:0<=i)(h1:i<4294967296):
  Calls prog 90 #[.int .i64 i] w (λe w'=>e= .returned (.string (Fs.key i))/\Below w.heap.size w w'):=by
 obtain⟨n,rfl⟩: ∃n:Nat,i=n:=⟨i.toNat,by omega⟩
 exact zax n w (by omega)
theorem K6{w:World}{m:Option Nat}{l:List T8.Pr}(h:Rp w m l)(x:ByteArray)(hx:Tr.get l x=none):Calls prog 120 #[pv m,.string x] w λe w'=>e= .returned (.tuple #[.string ⟨#[]⟩,.bool false])/\Below w.heap.size w w':=by
 have HT:=hid (yV h.map)
 have hf:=X7 h.sorted x
 rw[hx]at hf
 have HF:=hid hf
 clear h hf
 go_enter func120,ntmps120
 go_wp2_with fail
 refine HT.out.mono ?_
 rintro e w' ⟨p,rfl,hp,rfl⟩
 dsimp only
 go_wp2_with fail
 refine(T8.find_any hp x).mono ?_
 rintro e w' ⟨q,rfl,hq,rfl⟩
 have hfo:=HF.out
 generalize Tr.T.find less (cn l) x=u at hq hfo
 cases u with
 |node l' k' v' r'=>cases hfo
 |leaf=>
  have hq0:q=none:=hq
  subst hq0
  clear hq
  clear hfo HF hp HT
  simp only[pv,Zg]
  go_wp2_with fail
  go_ret2
  exact⟨rfl,Below.refl _ _⟩
end Go.Proofs.YtabmamofnhcgbaaGreatDoor
namespace Go.Proofs.YtabmamofnhcgbaaGreatDoor
open Go.RowKit Go.Less
open T8 (pv Rp Dg vW vI vJ yx vA yq cn Zg)
theorem Okl.out{l:List Fs.Item}(h:Okl l){k:Int}(hk:k<1\/2147483647<k):Fs.node l k=none:=Fs.node_none.2 λy hy e=>by have:=h.pos y hy;omega
theorem uZ{l:List Fs.Item}{k:Int}{w W:World}(h:Fs.node l k=none)(hb:Below w.heap.size w W):xF l k w (.returned (.tuple #[.agg #[.int .i64 0,.int .i64 0,.string ⟨#[]⟩,.string ⟨#[]⟩,.slice none 0 0],.bool false])) W:=by
 unfold xF
 rw[show Fs.nodeD l k=Nd.none0 from by unfold Fs.nodeD;rw[h];rfl,h]
 exact⟨none,0,rfl,zs _,hb⟩
theorem V4{l:List Fs.Item}{k:Int}{x:Nd.Node}{w W:World}(h:Fs.node l k=some x)(hb:Below w.heap.size w W){a:Option Addr}{c:Nat}(hE:Ents a x.ents.length x.ents W):xF l k w (.returned (.tuple #[nv x.kind x.mode x.data x.target a x.ents.length c,.bool true])) W:=by
 unfold xF
 rw[show Fs.nodeD l k=x from Fs.nodeD_of h,h]
 exact⟨a,c,rfl,hE,hb⟩
theorem KW(w:World)(a b c d e f g:Value):((w.alloc (.cells #[a,b] 98)).alloc (.cells #[c,d,e,f,g] 43)).heap[w.heap.size+1]?=some (.cells #[c,d,e,f,g] 43 (0,0)):=by
 have:=heap_alloc_new (w.alloc (.cells #[a,b] 98)) (.cells #[c,d,e,f,g] 43)
 rw[yw]at this
 exact this
theorem qn(m:Option Nat)(nx:Int)(l:List Fs.Item)(k:Int)(w:World)(h:Sv w m l):Calls prog 109 #[stv m nx,.int .i64 k] w (xF l k w):=by
 have HB:=hid (Bxs.two w #[pv m,.int .i64 nx] 98 #[.int .i64 0,.int .i64 0,.string ⟨#[]⟩,.string ⟨#[]⟩,.slice none 0 0] 43)
 have HZ:=hid (KW w (pv m) (.int .i64 nx) (.int .i64 0) (.int .i64 0) (.string ⟨#[]⟩) (.string ⟨#[]⟩) (.slice none 0 0))
 by_cases hk:k<1
 ·have HR:=hid (h.ok.out (.inl hk))
  clear h
  go_enter func109,ntmps109
  go_wp2_with fail
  refine bodyPost_ret_by (zl rfl _ _ (w.heap.size+1) _ _ _ _ _ rfl HZ.out) rfl ?_
  exact uZ HR.out HB.out.below
 by_cases hk2:2147483647<k
 ·have HR:=hid (h.ok.out (.inr hk2))
  clear h
  go_enter func109,ntmps109
  go_wp2_with fail
  refine bodyPost_ret_by (zl rfl _ _ (w.heap.size+1) _ _ _ _ _ rfl HZ.out) rfl ?_
  exact uZ HR.out HB.out.below
 have HK:=hid (λW=>jv k W (by omega) (by omega))
 have hg:=Uo h (i:=k) (by omega)
 cases hn:Fs.node l k with
 | none=>
  rw[hn]at hg
  have HG:=hid (λW (hb:Below w.heap.size w W)=>K6 (h.rp.below hb) (Fs.key k) hg)
  have HR:=hid hn
  clear hn hg h HZ
  go_enter func109,ntmps109
  go_wp2_with fail
  generalize (w.alloc (.cells #[pv m,.int .i64 nx] 98)).alloc (.cells #[.int .i64 0,.int .i64 0,.string ⟨#[]⟩,.string ⟨#[]⟩,.slice none 0 0] 43)=W0 at HB|-
  have HSx:=hid (show∀W,Below W0.heap.size W0 W->W.cell? ⟨w.heap.size,0,none⟩=some (pv m)/\Below W0.heap.size W0 W from λW hb=>⟨(HB.out.kept hb).cell 0 rfl 0,hb⟩)
  have HWt:=hid (show∀W,Below W0.heap.size W0 W->Below w.heap.size w W from λW hb=>HB.out.below.trans (hb.mono HB.out.below.size))
  have hBd:=(Below.refl W0.heap.size W0).drew
  go_wp2_with fail
  go_region_held3 (λW=>W.cell? ⟨w.heap.size,0,none⟩=some (pv m)/\Below W0.heap.size W0 W)
   (first|exact HSx.out _ (by assumption))
   (first
   |(go_at_call 90;(with_reducible refine(HK.out _).mono ?_);rintro e w2 ⟨rfl,hw2⟩;have hb2:=T8.btrans hw2 (by assumption))
   |(go_at_call 120;(with_reducible refine(HG.out _ (HWt.out _ (by assumption))).mono ?_);rintro e w3 ⟨rfl,hw3⟩;have hb3:=T8.btrans hw3 (by assumption)))
  have HB:=hid (HB.out.kept hb3)
  clear hb3 hb2 hw2 hw3 hBd
  go_wp2_with (first|(refine zb HB.out 1 rfl 43 _ _ rfl rfl #[.int .i64 0,.int .i64 0,.string ⟨#[]⟩,.string ⟨#[]⟩,.slice none 0 0] rfl rfl (by kernel_rfl) rfl rfl (by decide) (by decide) ?_;intro w9 hS hK9 hbS hsS;have HBS:=hid hS;clear hS hK9 hbS hsS)|fail)
  refine bodyPost_ret_by (zl rfl _ _ (w.heap.size+1) _ _ _ _ _ rfl (HBS.out.obj 1 rfl)) rfl ?_
  exact uZ HR.out HBS.out.below
 | some x=>
  rw[hn]at hg
  have hx:=h.ok.node hn
  have hts:=uM hx.1
  have HG:=hid (λW (hb:Below w.heap.size w W)=>yq (h.rp.below hb) (Fs.key k) (Fs.txt x) hg)
  have HPa:=hid (show∀W,Calls prog 121 #[.string (Fs.txt x)] W (vp (x,0) W)from λW=>js hx.1▸Y4 (Fs.txt x) W (by omega))
  have HR:=hid hn
  clear hn hg h HZ hx hts
  generalize Fs.txt x=tx at*
  obtain⟨q,mo,d,u,es⟩:=x
  go_enter func109,ntmps109
  go_wp2_with fail
  generalize (w.alloc (.cells #[pv m,.int .i64 nx] 98)).alloc (.cells #[.int .i64 0,.int .i64 0,.string ⟨#[]⟩,.string ⟨#[]⟩,.slice none 0 0] 43)=W0 at HB|-
  have HSx:=hid (show∀W,Below W0.heap.size W0 W->W.cell? ⟨w.heap.size,0,none⟩=some (pv m)/\Below W0.heap.size W0 W from λW hb=>⟨(HB.out.kept hb).cell 0 rfl 0,hb⟩)
  have HWt:=hid (show∀W,Below W0.heap.size W0 W->Below w.heap.size w W from λW hb=>HB.out.below.trans (hb.mono HB.out.below.size))
  have hBd:=(Below.refl W0.heap.size W0).drew
  go_wp2_with fail
  go_region_held3 (λW=>W.cell? ⟨w.heap.size,0,none⟩=some (pv m)/\Below W0.heap.size W0 W)
   (first|exact HSx.out _ (by assumption))
   (first
   |(go_at_call 90;(with_reducible refine(HK.out _).mono ?_);rintro e w2 ⟨rfl,hw2⟩;have hb2:=T8.btrans hw2 (by assumption))
   |(go_at_call 120;(with_reducible refine(HG.out _ (HWt.out _ (by assumption))).mono ?_);rintro e w3 ⟨rfl,hw3⟩;have hb3:=T8.btrans hw3 (by assumption)))
  have HB:=hid (HB.out.kept hb3)
  clear hb3 hb2 hw2 hw3 hBd
  go_wp2_with fail
  refine(HPa.out _).mono ?_
  rintro e w4 ⟨a,c,rfl,hE,hb⟩
  have HB:=hid (show Bxs w _ (w4.alloc (.cells #[.int .i64 q,.int .i64 mo,.string d,.string u,.slice a es.length c] 43))from(HB.out.kept hb).more _ _ rfl)
  have HE:=hid (hE.below (below_one w4 (.cells #[.int .i64 q,.int .i64 mo,.string d,.string u,.slice a es.length c] 43)))
  clear hE hb
  dsimp only
  go_wp2_with (first|(refine zb HB.out 1 rfl 43 _ _ rfl rfl #[.int .i64 q,.int .i64 mo,.string d,.string u,.slice a es.length c] rfl rfl (by kernel_rfl) rfl rfl (by decide) (by decide) ?_;intro w9 hS hK9 hbS hsS;have HBS:=hid hS;have HK9:=hid hK9;clear hS hK9 hbS hsS)|fail)
  have HEn:=hid (HK9.out.ents (HB.out.obj 1 rfl) (jt _ _ _ _ _ _ _) HE.out)
  refine bodyPost_ret_by (zl rfl _ _ (w.heap.size+1) _ _ _ _ _ rfl (HBS.out.obj 1 rfl)) rfl ?_
  exact V4 HR.out HBS.out.below HEn.out
end Go.Proofs.YtabmamofnhcgbaaGreatDoor
namespace Go.Proofs.YtabmamofnhcgbaaGreatDoor
open Go.RowKit
theorem stringslite_Clone(s:ByteArray)(w:World)(hlim:s.size<=281474976710656):Calls prog 113 #[.string s] w λe w'=>e= .returned (.string s)/\Below w.heap.size w w':=Any.stringslite_Clone laysM316 s w hlim
theorem set_obj{w:World}{b:Nat}{x y:Value}{t:TypeId}(h:w.heap[b]?=some (.cells #[x] t (0,0))):(w.setCell ⟨b,0,none⟩ y).heap[b]?=some (.cells #[y] t (0,0)):=by
 have:=heap_setCell_same w b 0 #[x] t y h
 simpa using this
structure Box (w:World) (g:Nat) (l:List (List UInt8)) (W:World):Prop where
 row: ∃ao cap,W.heap[g]?=some (.cells #[.slice ao l.length cap] 52 (0,0))/\vi (g+1) (.slice ao l.length cap) l W
 lo:w.heap.size<=g
 below:Below w.heap.size w W
theorem Box.kept{w W W':World}{g:Nat}{l:List (List UInt8)}(h:Box w g l W)(hb:Below W.heap.size W W'):Box w g l W':=by
 obtain⟨ao,cap,h1,h2⟩:=h.row
 exact⟨⟨ao,cap,(hb.block _ (lt_of_obj h1)).trans h1,vC h2 hb⟩,h.lo,h.below.trans (hb.mono h.below.size)⟩
theorem zdQ{w W w1 w4:World}{g:Nat}{l:List (List UInt8)}{k:List UInt8}{ao ao4:Option Addr}{cap cap4:Nat}(h:Box w g l W)(hw:Below W.heap.size W w1)
  (hO:vi (g+1) (.slice ao l.length cap) l (w1.alloc (.cells #[.string (lstr k)] 9)))
  (hO4:vi (g+1) (.slice ao4 (l.length+1) cap4) (l++[k]) w4)
  (hg:(w1.alloc (.cells #[.string (lstr k)] 9)).grownBy w4 (Value.slice ao l.length cap).ownBlock):
  Box w g (l++[k]) (w4.setCell ⟨g,0,none⟩ (.slice ao4 (l.length+1) cap4)):=by
 have h3:=(h.kept hw).kept (below_one w1 (.cells #[.string (lstr k)] 9))
 have hne: ∀x,x<=g->some x≠(Value.slice ao l.length cap).ownBlock:=λx hx e=>by have:=um hO x e.symm;omega
 have hlt4: ∀j,(Value.slice ao4 (l.length+1) cap4).ownBlock=some j->j≠g:=λj hj e=>by have:=um hO4 j hj;omega
 obtain⟨a0,c0,hk,_⟩:=h3.row
 have hk4:=grown_obj hg hk (hne g (Nat.le_refl _))
 have lo:=h.lo
 have hl:(l++[k]).length=l.length+1:=by simp
 refine⟨⟨ao4,cap4, ?_, ?_⟩,lo, ?_⟩
 ·rw[hl];exact set_obj hk4
 ·rw[hl]
  refine World.ownsRow.kept hO4 (?_:w4.grownBy _ (some g)) (.inr λe=> ?_)
  ·exact⟨rfl,rfl,rfl,by simp[World.setCell],λj hj hne=>heap_setCell_other w4 ⟨g,0,none⟩ j _ (λe=>hne (by rw[e]))⟩
  ·exact hlt4 g e rfl
 ·refine Below.setCell ?_ lo _
  exact h3.below.grown hg h3.below.size (λj hj=>by have:=um hO j hj;omega)
theorem zfe{w W w1 w4:World}{g:Nat}{l:List (List UInt8)}{k:List UInt8}{ao:Option Addr}{cap:Nat}(h:Box w g l W)(hw:Below W.heap.size W w1)
  (hO:vi (g+1) (.slice ao l.length cap) l (w1.alloc (.cells #[.string (lstr k)] 9))) (hg:(w1.alloc (.cells #[.string (lstr k)] 9)).grownBy w4 (Value.slice ao l.length cap).ownBlock):
  (∃v,w4.heap[g]?=some (.cells #[v] 52 (0,0)))/\Below w.heap.size w w4:=by
 have h3:=(h.kept hw).kept (below_one w1 (.cells #[.string (lstr k)] 9))
 obtain⟨a0,c0,hk,_⟩:=h3.row
 have lo:=h.lo
 exact⟨⟨_,grown_obj hg hk λe=>by have:=um hO g e.symm;omega⟩,h3.below.grown hg h3.below.size (λj hj=>by have:=um hO j hj;omega)⟩
theorem QN{ops:Array Oper}{o:Oper}{a:Act}{w:World}{K:Act->World->Prop}{E:Prop}{Q:Exit->Act->World->Prop}(hgd:o.guard=none)(s x:Operand)
  (ho:o.op= .call {callee:= .builtin .append,args:= #[s,x],argTypes:= #[52,52]})
  (base:Nat) (v:Value) (ls:List (List UInt8)) (hs:a.eval s=v) (hown:vi base v ls w)
  (b:Nat) (c:List UInt8) (hx:a.eval x= .slice (some ⟨b,0,none⟩) 1 1) (hc:w.cell? ⟨b,0,none⟩=some (.string (lstr c))) (hn:ls.length<=1000000) (hbase:base<=w.heap.size)
  (h: ∀ao' cap' w',vi base (.slice ao' (ls.length+1) cap') (ls++[c]) w'->w.grownBy w' v.ownBlock->K (a.put o.dst (.slice ao' (ls.length+1) cap')) w'):
  if Region.wanted o (yielded ops a.tmps)=true then Oper.wp prog o a w K Q else E:=by
 have hw:Region.wanted o (yielded ops a.tmps)=true:=by simp[Region.wanted,hgd]
 rw[if_pos hw]
 obtain⟨i0,hi,hz0,hz1,hz2⟩:=info_parts zc8
 refine wp_append_own w s x 52 ho base 9 i0 (.string ⟨#[]⟩) 1 16 underlying52 hi hz0 hz1 hz2 rfl (by decide) v ls.length (ls.map λl=> .string (lstr l)) hs hown ⟨b,0,none⟩ 1 1 [.string (lstr c)] hx rfl ?_ ?_ (by unfold maxLen;omega) (by omega) hbase ?_
 ·intro j y hj
  match j with
  |0=>simp at hj;subst hj;simpa[Addr.add] using hc
  |j+1=>simp at hj
 ·intro y hy;simp at hy;subst hy;rfl
 ·intro v' w' hown' hg _
  have hB':vi base v' (ls++[c]) w':=by
   unfold vi
   rw[List.length_append,List.map_append]
   exact hown'
  obtain⟨ao',cap',rfl⟩:=YF hB'
  rw[List.length_append]at hB'|-
  exact h ao' cap' w' hB' hg
def Tells(w:World)(g:Nat)(l:List (List UInt8))(e:Ending)(W:World):Prop:=e= .returned (.tuple #[])/\Box w g l W
theorem zbE(w W:World)(g:Nat)(XL:List (List UInt8))(k:List UInt8)(hk:k.length<=140737488355328)(hX:XL.length<=100)(HB:Box w g XL W):
  Calls prog 152 #[.string (lstr k),.pointer (some ⟨g,0,none⟩)] W (Tells w g (XL++[k])):=by
 have HC:=hid (λW1=>clone_any (lstr k) W1 (by rw[lstr_size];omega))
 have HLen:=hid hX
 have HK5:=hid HB
 obtain⟨ao,cap,hk1,hk2⟩:=HB.row
 have ck5:W.cell? ⟨g,0,none⟩=some (.slice ao XL.length cap):=cell_obj hk1 0
 have hgk:=lt_of_obj hk1
 have HO5:=hid hk2
 clear hk1 hk2 HB hk hX
 go_enter func152,ntmps152
 go_wp2_with fail
 go_region_law (first
   |(refine QN rfl _ _ rfl (g+1) _ XL (by rfl) HO3.out w1.heap.size k (by rfl) (by simp) (Nat.le_trans HLen.out (by decide)) HZ.out ?_;intro ao4 cap4 w4 hown4 hgrow4;have HK4:=hid (zdQ HK5.out hw1 HO3.out hown4 hgrow4);have hmid:=zfe HK5.out hw1 HO3.out hgrow4;obtain⟨v4,hk4⟩:=hmid.1;have ck4:=cell_obj hk4 0;have fk4:=free_obj hk4 0;clear hown4 hgrow4 hk4 hmid)
   |(go_simp;(with_reducible refine(HC.out _).mono ?_);rintro e w1 ⟨rfl,hw1d⟩;have hw1:=below_drew hw1d;have ck1:=(hw1.cell (p:=⟨g,0,none⟩) hgk).trans ck5;have hgk1:=Nat.lt_of_lt_of_le hgk hw1.size;have HB3:=hid (hw1.trans ((below_one w1 (.cells #[.string (lstr k)] 9)).mono hw1.size));have HO3:=hid (vC (vC HO5.out hw1) (below_one w1 (.cells #[.string (lstr k)] 9)));have HZ:=hid (Nat.le_trans (Nat.succ_le_of_lt hgk) HB3.out.size)))
 all_goals
  go_wp2_with fail
  go_end0
  exact⟨rfl,HK4.out⟩
end Go.Proofs.YtabmamofnhcgbaaGreatDoor
namespace Nm
theorem split_path{p:List UInt8}{ns:List (List UInt8)}(h:split p=some ns):p=pathOf ns/\ns.length<=8/\ns.all right=true:=by
 have h1:=join_split h
 unfold join at h1
 split at h1
 ·rename_i hx
  cases h1;exact⟨rfl,hx⟩
 ·cases h1
theorem path_split{ns:List (List UInt8)}(h8:ns.length<=8)(hr:ns.all right=true):split (pathOf ns)=some ns:=Je (by unfold join;rw[if_pos ⟨h8,hr⟩])
theorem isPrefixOf_iff(x y:List (List UInt8)):x.isPrefixOf y=true↔ ∃z,y=x++z:=by
 induction x generalizing y with
 |nil=>exact⟨λ_=>⟨y,rfl⟩,λ_=>rfl⟩
 | cons a x ih=>
  cases y with
  |nil=>exact⟨(λh=>by cases h),(λ⟨z,h⟩=>by cases h)⟩
  |cons b y=>
   show(a==b&&x.isPrefixOf y)=true↔_
   rw[Bool.and_eq_true,ih,beq_iff_eq]
   constructor
   ·rintro ⟨rfl,z,rfl⟩;exact⟨z,rfl⟩
   ·rintro ⟨z,h⟩;cases h;exact⟨rfl,z,rfl⟩
structure Parted (a p n:List UInt8):Prop where
 inside:within p a=true
 not:within a p=false
 right:right n=true
 deep:p≠[47]->a=p++[47]++n
 flat:p=[47]->a=47::n
end Nm
namespace Go.Proofs.YtabmamofnhcgbaaGreatDoor
open Go.RowKit
attribute [local go_sem 9000] xq vD
theorem zfs: ∀l:List UInt8,Lib.indexByte l 47<0->Nm.pieces l=[l]
 |[],_=>rfl
 | x::l,h=>by
  unfold Lib.indexByte at h
  unfold Nm.pieces
  by_cases hx:x=47
  ·subst hx;simp at h
  ·have hb:(x==47)=false:=beq_eq_false_iff_ne.2 hx
   rw[hb]at h
   simp only[Bool.false_eq_true,if_false]at h
   have hl:Lib.indexByte l 47<0:=by
    have hge:=Lib.indexByte_ge l 47
    split at h
    ·rename_i h2;rw[beq_iff_eq]at h2;omega
    ·omega
   rw[if_neg hx,zfs l hl]
theorem zcZ: ∀l:List UInt8,0<=Lib.indexByte l 47-> ∃i:Nat,Lib.indexByte l 47=i/\i<l.length/\Nm.pieces l=l.take i::Nm.pieces (l.drop (i+1))
 |[],h=>by simp[Lib.indexByte]at h
 | x::l,h=>by
  unfold Lib.indexByte at h|-
  by_cases hx:x=47
  ·subst hx
   exact⟨0,by simp,by simp,by simp[Nm.pieces]⟩
  ·have hb:(x==47)=false:=beq_eq_false_iff_ne.2 hx
   rw[hb]at h|-
   simp only[Bool.false_eq_true,if_false]at h|-
   by_cases h2:(Lib.indexByte l 47== -1)=true
   ·rw[if_pos h2]at h;omega
   ·rw[if_neg h2]at h|-
    rw[beq_iff_eq]at h2
    obtain⟨i,hi,hlt,hp⟩:=zcZ l (by omega)
    refine⟨i+1,by omega,by simp;omega, ?_⟩
    rw[show Nm.pieces (x::l)=(if x=47 then[]::Nm.pieces l else match Nm.pieces l with|[]=>[[x]]|c::cs=>(x::c)::cs)from rfl,if_neg hx,hp]
    rfl
theorem zaF(s:ByteArray)(w:World):Calls prog 219 #[.string s,.string ⟨#[47]⟩] w λe w'=>e= .returned (.int .i64 (Lib.indexByte s.data.toList 47))/\w'=w:=by
 cases ha:yb ⟨#[47]⟩ s with
 | true=>
  have hz:Lib.indexByte s.data.toList 47=0:=by
   have e:s=⟨#[47]⟩:=(of_decide_eq_true ha).symm
   rw[e];decide
  rw[hz]
  clear hz
  go_enter func219,ntmps219
  go_wp2_with fail
  go_ret
  exact⟨rfl,rfl⟩
 |false=>
  have HI:=hid (λw=>ib50 s 47 w)
  go_enter func219,ntmps219
  go_wp2_with fail
  refine(HI.out _).mono ?_
  rintro e w1 ⟨rfl,rfl⟩
  dsimp only
  go_wp2_with fail
  go_ret
  exact⟨rfl,rfl⟩
structure CutIs (s a b:ByteArray) (f:Bool):Prop where
 sep:f=true->Nm.pieces s.data.toList=a.data.toList::Nm.pieces b.data.toList
 not:f=false->Nm.pieces s.data.toList=[a.data.toList]
 la:a.size<=s.size
 lb:b.size<=s.size
theorem cut_no{s:ByteArray}(h:Lib.indexByte s.data.toList 47<0):CutIs s s ⟨#[]⟩ false:=
 ⟨(λh=>by cases h),(λ_=>zfs _ h),Nat.le_refl _,Nat.zero_le _⟩
theorem ze6{s:ByteArray}{i:Nat}(hi:i<s.data.toList.length)(hp:Nm.pieces s.data.toList=s.data.toList.take i::Nm.pieces (s.data.toList.drop (i+1))):CutIs s (s.extract 0 i) (s.extract (i+1) s.size) true:=by
 have hl:s.data.toList.length=s.size:=Array.length_toList
 refine⟨λ_=> ?_,(λh=>by cases h), ?_, ?_⟩
 ·rw[hp,ByteArray.data_extract,ByteArray.data_extract,Array.toList_extract,Array.toList_extract,List.extract_eq_take_drop,List.extract_eq_take_drop]
  rw[List.drop_zero,Nat.sub_zero,List.take_of_length_le (i:=s.size-(i+1)) (by rw[List.length_drop];omega)]
 ·rw[ByteArray.size_extract];omega
 ·rw[ByteArray.size_extract];omega
theorem zaZ(s:ByteArray)(w:World)(hs:s.size<=140737488355328):Calls prog 221 #[.string s,.string ⟨#[47]⟩] w λe w'=>(∃a b f,e= .returned (.tuple #[.string a,.string b,.bool f])/\CutIs s a b f)/\ ∃n,w'=w.drewN n:=by
 have HI:=hid (λw=>zaF s w)
 have HN:=hid (λh=>cut_no (s:=s) h)
 have HY:=hid (zcZ s.data.toList)
 have HC:=hid (λi=>ze6 (s:=s) (i:=i))
 have hl:s.data.toList.length=s.size:=Array.length_toList
 generalize Lib.indexByte s.data.toList 47=z at*
 by_cases hz:z<0
 ·go_enter func221,ntmps221
  go_wp2_with fail
  refine(HI.out _).mono ?_
  rintro e w1 ⟨rfl,rfl⟩
  dsimp only
  go_wp2_with fail
  go_ret3
  exact⟨⟨_,_,_,rfl,HN.out hz⟩,0,rfl⟩
 ·obtain⟨i,rfl,hi,hp⟩:=HY.out (by omega)
  have HF:=hid (HC.out i hi hp)
  rw[hl]at hi
  have c1:(0:Int)<=(i:Int):=by omega
  have c2:(i:Int)<=(s.size:Int):=by omega
  have c3:(0:Int)<=(i:Int)+1:=by omega
  have c4:(i:Int)+1<=(s.size:Int):=by omega
  clear HN HY HC hp hl hz
  go_enter func221,ntmps221
  go_wp2_with fail
  refine(HI.out _).mono ?_
  rintro e w1 ⟨rfl,rfl⟩
  dsimp only
  go_wp2_with fail
  go_quiet (fail)
  go_wp2_with fail
  go_ret3
  exact⟨⟨_,_,_,rfl,HF.out⟩,_,rfl⟩
theorem ze8(s:ByteArray)(w:World)(hs:s.size<=140737488355328):Calls prog 197 #[.string s,.string ⟨#[47]⟩] w λe w'=>(∃a b f,e= .returned (.tuple #[.string a,.string b,.bool f])/\CutIs s a b f)/\ ∃n,w'=w.drewN n:=by
 go_enter func197,ntmps197
 go_wp2_with fail
 refine(zaZ s _ hs).mono ?_
 rintro e w1 ⟨⟨a,b,f,rfl,hc⟩,n,rfl⟩
 dsimp only
 go_wp2_with fail
 go_ret3
 exact⟨⟨_,_,_,rfl,hc⟩,_,rfl⟩
def yC(s:ByteArray):Bool:=s.data.toList.head?==some 47
theorem Jl{s:ByteArray}:yC s=(decide (1<=s.size)&&yb (s.extract 0 1) ⟨#[47]⟩):=by
 unfold yC
 have hl:s.data.toList.length=s.size:=Array.length_toList
 have he:(s.extract 0 1).data.toList=s.data.toList.take 1:=by
  rw[ByteArray.data_extract,Array.toList_extract,List.extract_eq_take_drop,List.drop_zero]
 have ha:yb (s.extract 0 1) ⟨#[47]⟩=decide (s.data.toList.take 1=[47]):=by
  unfold yb
  rw[<-he]
  apply decide_eq_decide.2
  exact⟨λh=>by rw[h],λh=>Go.WideShapes.bytes_inj h⟩
 rw[ha,<-hl]
 cases s.data.toList with
 |nil=>rfl
 |cons x l=>
  show(some x==some (47:UInt8))=_
  by_cases hx:x=47
  ·subst hx;simp
  ·simp[hx]
theorem zeU(s:ByteArray)(w:World)(hs:s.size<=140737488355328):Calls prog 250 #[.string s,.string ⟨#[47]⟩] w λe w'=>e= .returned (.bool (yC s))/\w'=w:=by
 rw[Jl]
 by_cases h1:1<=s.size
 ·have h1i:(1:Int)<=(s.size:Int):=by omega
  go_enter func250,ntmps250
  go_wp2_with fail
  go_ret
  refine⟨?_,rfl⟩
  simp[h1]
 ·have h1i: ¬ (1:Int)<=(s.size:Int):=by omega
  go_enter func250,ntmps250
  go_wp2_with fail
  go_ret
  refine⟨?_,rfl⟩
  simp
theorem qE{s:ByteArray}(h:yC s=true):1<=s.size/\s.data.toList=47::(s.extract 1 s.size).data.toList:=by
 unfold yC at h
 have hl:s.data.toList.length=s.size:=Array.length_toList
 have he:(s.extract 1 s.size).data.toList=s.data.toList.drop 1:=by
  rw[ByteArray.data_extract,Array.toList_extract,List.extract_eq_take_drop,List.take_of_length_le (by rw[List.length_drop];omega)]
 rw[he,<-hl]
 cases hd:s.data.toList with
 |nil=>rw[hd]at h;simp at h
 |cons x l=>
  rw[hd]at h
  simp at h
  subst h
  simp
theorem Jk{s:ByteArray}(h:yC s=false):Nm.split s.data.toList=none:=by
 unfold yC at h
 have hne:=beq_eq_false_iff_ne.1 h
 refine Nm.split_no (λe=>hne (by rw[e];rfl)) ?_
 cases hd:s.data.toList with
 |nil=>left;rfl
 |cons x l=>right;rw[hd]at hne;simpa using hne
theorem Kw(s:ByteArray)(w:World)(hs:s.size<=140737488355328):Calls prog 220 #[.string s,.string ⟨#[47]⟩] w λe w'=>e= .returned (.tuple #[.string (if yC s then s.extract 1 s.size else s),.bool (yC s)])/\w'=w:=by
 have HI:=hid (λw=>zeU s w hs)
 have HY:=hid (λh=>(qE (s:=s) h).1)
 generalize yC s=f at*
 cases f with
 |true=>
  have c1:(1:Int)<=(s.size:Int):=by have:=HY.out rfl;omega
  go_enter func220,ntmps220
  go_wp2_with fail
  refine(HI.out _).mono ?_
  rintro e w1 ⟨rfl,rfl⟩
  dsimp only
  go_wp2_with fail
  go_ret2
  exact⟨rfl,rfl⟩
 |false=>
  go_enter func220,ntmps220
  go_wp2_with fail
  refine(HI.out _).mono ?_
  rintro e w1 ⟨rfl,rfl⟩
  dsimp only
  go_wp2_with fail
  go_ret2
  exact⟨rfl,rfl⟩
theorem zdz(s:ByteArray)(w:World)(hs:s.size<=140737488355328):Calls prog 196 #[.string s,.string ⟨#[47]⟩] w λe w'=>e= .returned (.tuple #[.string (if yC s then s.extract 1 s.size else s),.bool (yC s)])/\w'=w:=by
 have HI:=hid (λw=>Kw s w hs)
 generalize yC s=f at*
 generalize (if f=true then s.extract 1 s.size else s)=r at*
 go_enter func196,ntmps196
 go_wp2_with fail
 refine(HI.out _).mono ?_
 rintro e w1 ⟨rfl,rfl⟩
 dsimp only
 go_wp2_with fail
 go_ret2
 exact⟨rfl,rfl⟩
def KA(r:List UInt8):List (List UInt8):=if r=[]then[]else Nm.pieces r
theorem Jf(r:List UInt8):Nm.split (47::r)=if(KA r).all Nm.right=true/\(KA r).length<=8 then some (KA r)else none:=by
 unfold KA
 by_cases h:r=[]
 ·subst h;rfl
 ·rw[if_neg h,Nm.split_is (by simp) (by simp) (by simpa using h)]
  rfl
structure Goes (L T:List (List UInt8)) (m:Bool) (r:ByteArray):Prop where
 few:T.length<=8
 right:T.all Nm.right=true
 all:L=T++(if m=true then Nm.pieces r.data.toList else[])
 size:r.size<=140737488355328
theorem Goes.done{L T:List (List UInt8)}{r:ByteArray}(h:Goes L T false r):L=T:=by rw[h.all];simp
theorem Goes.many{L T:List (List UInt8)}{r:ByteArray}(h:Goes L T true r)(h8:T.length=8): ¬ (L.all Nm.right=true/\L.length<=8):=by
 rintro ⟨_,h2⟩
 rw[h.all,if_pos rfl,List.length_append,h8]at h2
 exact Nm.pieces_ne r.data.toList (List.eq_nil_of_length_eq_zero (by omega))
theorem Goes.wrong{L T:List (List UInt8)}{r a b:ByteArray}{f:Bool}(h:Goes L T true r)(hc:CutIs r a b f)(ha:Nm.right a.data.toList=false): ¬ (L.all Nm.right=true/\L.length<=8):=by
 rintro ⟨h1,_⟩
 rw[h.all,if_pos rfl,List.all_append,Bool.and_eq_true]at h1
 have h2:=h1.2
 cases f with
 |true=>rw[hc.sep rfl,List.all_cons,ha]at h2;cases h2
 |false=>rw[hc.not rfl,List.all_cons,ha]at h2;cases h2
theorem Goes.next{L T:List (List UInt8)}{r a b:ByteArray}{f:Bool}(h:Goes L T true r)(h8:T.length<8)(hc:CutIs r a b f)(ha:Nm.right a.data.toList=true):Goes L (T++[a.data.toList]) f b:=by
 have hs:=h.size
 have hlb:=hc.lb
 refine⟨by simp;omega,by rw[List.all_append,h.right];simp[ha], ?_,by omega⟩
 rw[h.all,if_pos rfl]
 cases f with
 |true=>rw[hc.sep rfl];simp
 |false=>rw[hc.not rfl];simp
structure Walked (w0:World) (g:Nat) (l:List UInt8) (e:Ending) (w':World):Prop where
 end_:(∃ns,e= .returned (.bool true)/\Nm.split l=some ns/\Box w0 g ns w')\/(e= .returned (.bool false)/\Nm.split l=none)
 below:Below w0.heap.size w0 w'
theorem walk_any(w0 W:World)(g:Nat)(p:ByteArray)(hp:p.size<=140737488355328)(HB0:Box w0 g [] W):Calls prog 151 #[.string p,.func (.func 152) #[] #[.pointer (some ⟨g,0,none⟩)]] W (Walked w0 g p.data.toList):=by
 have HP:=hid (λw=>zdz p w (by omega))
 have HB:=hid HB0
 clear HB0
 have eg: ∀args w,(callFunc 152 args).run prog w= .ok (.enter 152 args) w:=enters_of func152 (by kernel_rfl) rfl
 cases hsl:yC p with
 |false=>
  have HN:=hid (Jk hsl)
  rw[hsl]at HP
  clear hsl
  go_enter func151,ntmps151
  go_wp2_with fail
  refine(HP.out _).mono ?_
  rintro e w1 ⟨rfl,rfl⟩
  dsimp only
  go_wp2_with fail
  go_ret
  exact⟨.inr ⟨rfl,HN.out⟩,HB.out.below⟩
 | true=>
  have HY:=hid (qE hsl)
  rw[hsl]at HP
  rw[if_pos rfl]at HP
  clear hsl
  rw[HY.out.2]
  have hr:(p.extract 1 p.size).size<=140737488355328:=by rw[ByteArray.size_extract];omega
  generalize p.extract 1 p.size=r at*
  have HS:=hid (Jf r.data.toList)
  have HG:Hid (Goes (KA r.data.toList) [] (!yb r ⟨#[]⟩) r):=by
   refine⟨Nat.zero_le _,rfl, ?_,hr⟩
   unfold KA yb
   by_cases h:r=⟨#[]⟩
   ·subst h;rfl
   ·have h2: ¬ r.data.toList=[]:=λe=>h (Go.WideShapes.bytes_inj e)
    rw[if_neg h2,decide_eq_false h];simp
  generalize KA r.data.toList=L at*
  clear hr
  go_enter func151,ntmps151
  go_wp2_with fail
  refine(HP.out _).mono ?_
  rintro e w1 ⟨rfl,rfl⟩
  dsimp only
  go_wp2_with fail
  go_loopw [5,7,8] (λv5 v7 v8 wr=> ∃(q:ByteArray) (m:Bool) (T:List (List UInt8)),v5= .string q/\v7= .bool m/\v8= .int .i64 T.length/\Hid (Goes L T m q)/\Hid (Box w0 g T wr)) (λ_ _ v8 _=>9-(intOf v8).toNat)
  case atStart=>exact⟨r,_,[],rfl,rfl,rfl,HG,HB⟩
  case round=>
   obtain⟨q,m,T,rfl,rfl,rfl,HG1,HB1⟩:=hrel
   cases m with
   |false=>
    go_wp2_with fail
    go_ret
    exact⟨.inl ⟨T,rfl,by rw[HS.out,HG1.out.done,if_pos ⟨HG1.out.right,HG1.out.few⟩],HB1.out⟩,HB1.out.below⟩
   | true=>
    have HC:=hid (λw=>ze8 q w (by have:=HG1.out.size;omega))
    go_wp2_with fail
    refine(HC.out _).mono ?_
    rintro e w2 ⟨⟨a,b,f,rfl,hc⟩,n,rfl⟩
    have HC1:=hid hc
    have HB2:=hid (HB1.out.kept (bdn (Below.refl _ _) n))
    clear hc HC
    dsimp only
    have h8:=HG1.out.few
    by_cases h8e:T.length=8
    ·go_wp2_with fail
     go_ret
     exact⟨.inr ⟨rfl,by rw[HS.out,if_neg (HG1.out.many h8e)]⟩,HB2.out.below⟩
    ·have h8i: ¬ (T.length:Int)=8:=by omega
     have HR:=hid (λw=>ud a w (by have:=HG1.out.size;have:=HC1.out.la;omega))
     cases hra:Nm.right a.data.toList with
     |false=>
      have HRA:=hid hra
      rw[hra]at HR
      clear hra
      go_wp2_with fail
      refine(HR.out _).mono ?_
      rintro e w3 ⟨rfl,hw3⟩
      have HB3:=hid (HB2.out.kept hw3)
      clear hw3
      dsimp only
      go_wp2_with fail
      go_ret
      exact⟨.inr ⟨rfl,by rw[HS.out,if_neg (HG1.out.wrong HC1.out HRA.out)]⟩,HB3.out.below⟩
     |true=>
      have HRA:=hid hra
      rw[hra]at HR
      clear hra
      go_wp2_with fail
      refine(HR.out _).mono ?_
      rintro e w3 ⟨rfl,hw3⟩
      have HB3:=hid (HB2.out.kept hw3)
      clear hw3
      have HT:=hid (zbE w0 w3 g T a.data.toList (by have:=HG1.out.size;have:=HC1.out.la;have h:=Array.length_toList (xs:=a.data);have h:a.data.toList.length=a.size:=h;omega) (by omega) HB3.out)
      dsimp only
      go_wp2_with fail
      refine HT.out.mono ?_
      rintro e w4 ⟨rfl,hB4⟩
      have HB4:=hid hB4
      clear hB4
      dsimp only
      go_wp2_with fail
      go_roundw
      case rel=>exact⟨b,f,T++[a.data.toList],rfl,rfl,by simp,HG1.out.next (by omega) HC1.out HRA.out,HB4⟩
      case measure=>simp[intOf];omega
theorem zfd(w:World):Box w w.heap.size [] (w.alloc (.cells #[.slice none 0 0] 52)):=by
 refine⟨⟨none,0, ?_, ?_⟩,Nat.le_refl _,below_one _ _⟩
 ·show(w.heap.push _)[w.heap.size]?=_
  simp
 ·exact World.ownsRow_nil _ _ _ _
theorem zfc{w W:World}{g:Nat}{l:List (List UInt8)}(h:Box w g l W): ∃ao cap,W.heap[g]?=some (.cells #[.slice ao l.length cap] 52 (0,0))/\vi w.heap.size (.slice ao l.length cap) l W:=by
 obtain⟨ao,cap,h1,h2,h3⟩:=h.row
 have lo:=h.lo
 refine⟨ao,cap,h1,h2, ?_⟩
 rcases h3 with h3|⟨g',c,cur,h4,h5,h6⟩
 ·exact .inl h3
 ·exact .inr ⟨g',c,cur,h4,by omega,h6⟩
theorem split_any(p:ByteArray)(w:World)(hp:p.size<=140737488355328):Calls prog 108 #[.string p] w (Splitted p.data.toList w):=by
 have HW:=hid (λW h=>walk_any w W w.heap.size p hp h)
 have HB:=hid (zfd w)
 go_enter func108,ntmps108
 go_wp2_with fail
 refine(HW.out _ HB.out).mono ?_
 rintro e w1 ⟨h|⟨rfl,hn⟩,hB⟩
 ·obtain⟨ns,rfl,hs,hbx⟩:=h
  have HS:=hid hs
  obtain⟨ao,cap,hk,ht⟩:=zfc hbx
  have ck:=cell_obj hk 0
  have HT:=hid ht
  have HBB:=hid hB
  clear hk ht hbx hs hB
  dsimp only
  go_wp2_with fail
  go_ret2
  exact jN HS.out HT.out HBB.out
 ·have HN:=hid hn
  have HBB:=hid hB
  clear hn hB
  dsimp only
  go_wp2_with fail
  go_ret2
  exact xG HN.out HBB.out
end Go.Proofs.YtabmamofnhcgbaaGreatDoor
namespace Go.Proofs.YtabmamofnhcgbaaGreatDoor
open Go.RowKit Go.Less
attribute [local go_sem 9000] zg zf
theorem Zk{base n c:Nat}{a:Option Addr}{ls:List (List UInt8)}{w:World}(h:vi base (.slice a n c) ls w):n<=c:=by
 obtain⟨_,⟨e,h0⟩|⟨g,cap',cur,e,_,_,h1,_⟩⟩:=h
 ·injection e with e1 e2 e3;omega
 ·injection e with e1 e2 e3;omega
theorem QL{a:Option Addr}{q:Nat}{ps:List ByteArray}{x:ByteArray}{w:World}(h:Strs a (q+1) (ps++[x]) w):Strs a q ps w/\ ∃b off,a=some ⟨b,off,none⟩/\w.cell? ⟨b,off+q,none⟩=some (.string x):=by
 have hc:=h.count
 rw[List.length_append,List.length_singleton]at hc
 have hq:q=ps.length:=by omega
 refine⟨⟨hq,λi hi=> ?_⟩, ?_⟩
 ·obtain⟨b,off,e,hcell⟩:=h.cell i (by omega)
  refine⟨b,off,e, ?_⟩
  rw[hcell,List.getD,List.getD,List.getElem?_append_left (by omega)]
 ·obtain⟨b,off,e,hcell⟩:=h.cell q (by omega)
  refine⟨b,off,e, ?_⟩
  rw[hcell,List.getD,List.getElem?_append_right (by omega),hq,Nat.sub_self];rfl
theorem xo{B n:Nat}{w wr:World}(h:Below B w wr):Below B w (wr.drewN n):=h.trans ⟨rfl,rfl,rfl,Nat.le_refl _,λ_ _=>rfl⟩
def vj(l:List Fs.Item)(p:ByteArray):Int×ByteArray×Int:=match Fs.place l ((spl p).getD [])with
 | .error e=>(0,⟨#[]⟩,e)
 | .ok r=>(r.1,r.2,0)
def Placed(r:Int×ByteArray×Int)(w:World)(e:Ending)(w':World):Prop:=e= .returned (.tuple #[.int .i64 r.1,.string r.2.1,.int .i64 r.2.2])/\Below w.heap.size w w'
theorem place_end(l:List Fs.Item)(ps:List ByteArray)(n:ByteArray):Fs.place l (ps++[n])=match Fs.walk l 1 ps with
  | .error e=> .error e
  | .ok d=>if(Fs.nodeD l d).kind≠2 then .error 10 else .ok (d,n):=by
 unfold Fs.place
 rw[show(ps++[n]).getLast?=some n by simp,List.dropLast_concat]
 rfl
theorem ut(a:Option Addr)(n c:Nat)(nx:Int)(L:List MI)(p:ByteArray)(w:World)(hI:Items a n L w)(hn:n<=100000)(hF:Vb (its L))(hp:p.size<=1048576):
  Calls prog 52 #[fv a n c nx,.string p] w (Placed (vj (its L) p) w):=by
 have HN:=hid (λk W (hb:Below w.heap.size w W)=>xI a n c nx L k W (hI.below hb) (Nat.le_trans hn (by decide)))
 have HWk:=hid (λb0 ln cn ss W (hb:Below w.heap.size w W) (h:Strs b0 ln ss W) (hl:ln<=100000)=>YZ a n c nx L b0 ln cn ss W (hI.below hb) hn hF h hl)
 have HS:=hid (λW=>zi p W hp)
 have HB:=hid (Zi w a n c nx)
 clear hI hF
 generalize its L=l at*
 go_enter func52,ntmps52
 go_wp2_with fail
 generalize w.alloc (.cells #[.slice a n c,.int .i64 nx] 29)=W0 at HB|-
 refine(HS.out W0).mono ?_
 rintro e w1 hX
 have HB1:=hid (HB.out.kept hX.below)
 cases hsp:Nm.split p.data.toList with
 |none=>
  obtain rfl:=hX.no hsp
  have HR:=hid (show vj l p=(0,⟨#[]⟩,5) by unfold vj spl;rw[hsp];rfl)
  clear hX hsp HB
  dsimp only
  go_wp2_with fail
  go_ret3
  rw[HR.out]
  exact⟨rfl,HB1.out.below⟩
 | some ns=>
  obtain⟨ao,cap,rfl,hT⟩:=hX.yes ns hsp
  have hS:=yA hT rfl
  have hcap:=Zk hT
  have h8:=jo hsp
  have HR:=hid (show vj l p=match Fs.place l (ns.map lstr)with
   | .error e=>(0,⟨#[]⟩,e)
   | .ok r=>(r.1,r.2,0) by unfold vj spl;rw[hsp];rfl)
  clear hX hsp HB hT
  rw[show ns.length=(ns.map lstr).length by rw[List.length_map]]at hS hcap h8|-
  generalize ns.map lstr=ss at*
  rcases Gr.snoc_cases ss with rfl|⟨ps,x,rfl⟩
  ·have HR2:=hid (show vj l p=(0,⟨#[]⟩,5)from HR.out)
   dsimp only
   rw[show([]:List ByteArray).length=0 from rfl]
   go_wp2_with fail
   go_ret3
   rw[HR2.out]
   exact⟨rfl,HB1.out.below⟩
  ·rw[show(ps++[x]).length=ps.length+1 by simp]at*
   obtain⟨hS1,b1,o1,rfl,hc1⟩:=QL hS
   have HC:=hid (λW (hb:Below w1.heap.size w1 W)=>show W.cell? ⟨b1,o1+ps.length,none⟩=some (.string x)from(hb.cell (p:=⟨b1,o1+ps.length,none⟩) (block_lt_of_cell hc1)).trans hc1)
   rw[place_end]at HR
   have HWa:=hid (HWk.out (some ⟨b1,o1,none⟩) ps.length cap ps w1.drew HB1.out.below.drew (hS1.below ((Below.refl _ w1).drew)) (by omega))
   have HCode:=hid (vu l ps 1)
   generalize Fs.walk l 1 ps=r at*
   generalize ps.length=q at*
   have qc:(q:Int)<=(cap:Int):=by omega
   have cb0:=zn HB1.out.box
   have hq1:IntKind.i64.wrap (q:Int)=(q:Int):=IntWalk.i64_in _ (by omega)
   clear hS hS1 hc1 hcap HWk
   dsimp only
   go_wp2_with fail
   go_region_law (first|(go_simp;(with_reducible refine HWa.out.mono ?_);rintro e w2 ⟨rfl,hb2⟩;have HB2:=hid (HB1.out.kept (((Below.refl w1.heap.size w1).drew).trans hb2));have HL2:=hid (((Below.refl w1.heap.size w1).drew).trans hb2);clear hb2)|fail)
   clear cb0
   cases r with
   | error code=>
    have hne:code≠0:=by
     rcases HCode.out with ⟨j,h⟩|h|h
     ·cases h
     ·injection h with h;omega
     ·injection h with h;omega
    dsimp only[Qy]
    go_wp2_with fail
    go_ret3
    rw[HR.out]
    exact⟨rfl,HB2.out.below⟩
   | ok d=>
    have cb0:=zn HB2.out.box
    dsimp only[Qy]
    go_wp2_with fail
    refine(HN.out d w2 HB2.out.below).mono ?_
    have HR:=hid (show vj l p=match (if(Fs.nodeD l d).kind≠2 then .error 10 else .ok (d,x):Except Int (Int×ByteArray))with
     | .error e=>(0,⟨#[]⟩,e)
     | .ok r=>(r.1,r.2,0)from HR.out)
    unfold xF
    generalize Fs.nodeD l d=y at*
    obtain⟨k,m,dd,t,es⟩:=y
    rintro e w3 ⟨ea,ec,rfl,hE,hb3⟩
    have HB3:=hid (HB2.out.kept hb3)
    have HL3:=hid (HL2.out.trans (hb3.mono HL2.out.size))
    have HB4:=hid (HB3.out.kept (below_one w3 (.cells #[.int .i64 k,.int .i64 m,.string dd,.string t,.slice ea es.length ec] 43)))
    have HL4:=hid (HL3.out.trans ((below_one w3 (.cells #[.int .i64 k,.int .i64 m,.string dd,.string t,.slice ea es.length ec] 43)).mono HL3.out.size))
    clear hb3 hE cb0
    dsimp only
    by_cases hk:k=2
    ·have HR2:=hid (show vj l p=(d,x,0) by rw[HR.out];simp only[hk];rfl)
     have nc:=HC.out _ HL4.out
     clear HR
     subst hk
     go_wp2_with fail
     generalize w3.alloc (.cells #[.int .i64 2,.int .i64 m,.string dd,.string t,.slice ea es.length ec] 43)=W4 at HB4 HL4 nc|-
     have hq3:(q:Int)<(q:Int)+1:=by omega
     have hq0:(0:Int)<=(q:Int):=by omega
     go_quiet (fail)
     go_wp2_with fail
     go_ret3
     rw[HR2.out]
     exact⟨rfl,xo HB4.out.below⟩
    ·have HR2:=hid (show vj l p=(0,⟨#[]⟩,10) by rw[HR.out,if_pos (show(⟨k,m,dd,t,es⟩:Nd.Node).kind≠2 from hk)])
     clear HR
     go_wp2_with fail
     go_ret3
     rw[HR2.out]
     exact⟨rfl,HB4.out.below⟩
def xQ(l:List Fs.Item)(p:ByteArray):Int×ByteArray×Int×Int:=match Fs.fresh l ((spl p).getD [])with
 | .error e=>(0,⟨#[]⟩,0,e)
 | .ok r=>(r.1,r.2,(Fs.nodeD l r.1).ents.length,0)
def zfk(r:Int×ByteArray×Int×Int)(w:World)(e:Ending)(w':World):Prop:=e= .returned (.tuple #[.int .i64 r.1,.string r.2.1,.int .i64 r.2.2.1,.int .i64 r.2.2.2])/\Below w.heap.size w w'
theorem ur{fn:Func}{t u v x:Tmp}(h:fn.results= #[.tmp t,.tmp u,.tmp v,.tmp x])(tmps:Array Value)(P:Program)(w:World):
  (results fn tmps).run P w= .ok (.tuple #[tmps.getD t undef,tmps.getD u undef,tmps.getD v undef,tmps.getD x undef]) w:=by
 simp[results,h]
theorem jS(l:List Fs.Item)(ns:List ByteArray):(∃r,Fs.place l ns= .ok r)\/Fs.place l ns= .error 5\/Fs.place l ns= .error 10\/Fs.place l ns= .error 4:=by
 rcases Gr.snoc_cases ns with rfl|⟨ps,x,rfl⟩
 ·exact .inr (.inl rfl)
 ·rw[place_end]
  rcases vu l ps 1 with ⟨j,h⟩|h|h
  ·rw[h]
   by_cases hk:(Fs.nodeD l j).kind≠2
   ·simp only[if_pos hk];exact .inr (.inr (.inl trivial))
   ·simp only[if_neg hk];exact .inl ⟨_,rfl⟩
  ·rw[h];exact .inr (.inr (.inl rfl))
  ·rw[h];exact .inr (.inr (.inr rfl))
theorem vE(a:Option Addr)(n c:Nat)(nx:Int)(L:List MI)(p:ByteArray)(w:World)(hI:Items a n L w)(hn:n<=100000)(hF:Vb (its L))(hp:p.size<=1048576):
  Calls prog 47 #[fv a n c nx,.string p] w (zfk (xQ (its L) p) w):=by
 have HN:=hid (λk W (hb:Below w.heap.size w W)=>xI a n c nx L k W (hI.below hb) (Nat.le_trans hn (by decide)))
 have HP:=hid (λW (hb:Below w.heap.size w W)=>ut a n c nx L p W (hI.below hb) hn hF hp)
 have HB:=hid (Zi w a n c nx)
 have HFe:=hid hF
 clear hI hF
 generalize its L=l at*
 go_enter func47,ntmps47
 go_wp2_with fail
 generalize w.alloc (.cells #[.slice a n c,.int .i64 nx] 29)=W0 at HB|-
 refine(HP.out W0 HB.out.below).mono ?_
 have HR:=hid (show xQ l p=match (match Fs.place l ((spl p).getD [])with
   | .error e=> .error e
   | .ok (d,n)=>if(Nd.find (Fs.nodeD l d).ents n).isSome=true then .error 5 else .ok (d,n):Except Int (Int×ByteArray))with
  | .error e=>(0,⟨#[]⟩,0,e)
  | .ok r=>(r.1,r.2,(Fs.nodeD l r.1).ents.length,0)from rfl)
 have HCode:=hid (jS l ((spl p).getD []))
 unfold vj
 generalize Fs.place l ((spl p).getD [])=r at*
 rintro e w1 ⟨rfl,hb1⟩
 have HB1:=hid (HB.out.kept hb1)
 clear hb1 HB
 have cb0:=zn HB1.out.box
 cases r with
 | error code=>
  have hne:code≠0:=by
   rcases HCode.out with ⟨j,h⟩|h|h|h
   ·cases h
   ·injection h with h;omega
   ·injection h with h;omega
   ·injection h with h;omega
  dsimp only
  go_wp2_with fail
  (try simp only[Exit.inBlock,Exit.then])
  refine bodyPost_ret (ur rfl _ _ _) rfl ?_
  rw[HR.out]
  exact⟨rfl,HB1.out.below⟩
 | ok dn=>
  obtain⟨d,x⟩:=dn
  dsimp only
  go_wp2_with fail
  refine(HN.out d w1 HB1.out.below).mono ?_
  have hR0: ∀y,Fs.nodeD l d=y->xQ l p=if(Nd.find y.ents x).isSome=true then(0,⟨#[]⟩,0,5)else(d,x,(y.ents.length:Int),0):=λy hy=>by
   rw[HR.out]
   simp only[hy]
   by_cases hs:(Nd.find y.ents x).isSome=true
   ·simp only[if_pos hs]
   ·simp only[if_neg hs,hy]
  unfold xF
  generalize (Fs.node l d).isSome=ok
  generalize hy:Fs.nodeD l d=y
  have HFi:=hid (show y.ents.length<=1000 from hy▸HFe.out d)
  have HR:=hid (hR0 y hy)
  clear hR0 hy
  obtain⟨k,m,dd,t,es⟩:=y
  rintro e w2 ⟨ea,ec,rfl,hE,hb2⟩
  have HX:=hid hE
  have HB2:=hid (HB1.out.kept hb2)
  have HB3:=hid (HB2.out.kept (below_one w2 (.cells #[.int .i64 k,.int .i64 m,.string dd,.string t,.slice ea es.length ec] 43)))
  have HX3:=hid (HX.out.below (below_one w2 (.cells #[.int .i64 k,.int .i64 m,.string dd,.string t,.slice ea es.length ec] 43)))
  have HO3:=hid (heap_alloc_new w2 (.cells #[.int .i64 k,.int .i64 m,.string dd,.string t,.slice ea es.length ec] 43))
  clear hb2 hE cb0
  dsimp only
  go_wp2_with fail
  have HFd:=hid (uS k m dd t ea es.length ec es x _ HX3.out (Nat.le_trans HFi.out (by decide)))
  unfold vS at HFd
  refine HFd.out.mono ?_
  cases hf:Nd.find es x with
  |none=>
   have HR2:=hid (show xQ l p=(d,x,(es.length:Int),0) by rw[HR.out];simp[hf])
   rintro e w4 ⟨rfl,hb4⟩
   have HB4:=hid (HB3.out.kept hb4)
   have n4:w4.cell? ⟨w2.heap.size,4,none⟩=some (.slice ea es.length ec):=cell_obj ((hb4.block _ (lt_of_obj HO3.out)).trans HO3.out) 4
   clear HR hf hb4
   dsimp only[Option.getD,Option.isSome]
   go_wp2_with fail
   go_quiet (fail)
   go_wp2_with fail
   (try simp only[Exit.inBlock,Exit.then])
   refine bodyPost_ret (ur rfl _ _ _) rfl ?_
   rw[HR2.out]
   exact⟨rfl,xo HB4.out.below⟩
  |some k2=>
   have HR2:=hid (show xQ l p=(0,⟨#[]⟩,0,5) by rw[HR.out];simp[hf])
   rintro e w4 ⟨rfl,hb4⟩
   have HB4:=hid (HB3.out.kept hb4)
   clear HR hf hb4
   dsimp only[Option.getD,Option.isSome]
   go_wp2_with fail
   (try simp only[Exit.inBlock,Exit.then])
   refine bodyPost_ret (ur rfl _ _ _) rfl ?_
   rw[HR2.out]
   exact⟨rfl,HB4.out.below⟩
structure Eb (w:World) (a:Option Addr) (n c:Nat) (nx:Int) (W:World):Prop where
 box:W.heap[w.heap.size]?=some (.cells #[.slice a n c,.int .i64 nx] 29 (0,0))
 res:W.heap[w.heap.size+1]?=some (.cells #[.slice none 0 0,.int .i64 0] 29 (0,0))
 below:Below w.heap.size w W
theorem UA(w:World)(a:Option Addr)(n c:Nat)(nx:Int):Eb w a n c nx ((w.alloc (.cells #[.slice a n c,.int .i64 nx] 29)).alloc (.cells #[.slice none 0 0,.int .i64 0] 29)):=
 ⟨Xw _ _ _,kV _ _ _,((Below.refl _ w).alloc (Nat.le_refl _) _).alloc (by simp) _⟩
theorem Eb.kept{w W W':World}{a:Option Addr}{n c:Nat}{nx:Int}(h:Eb w a n c nx W)(hb:Below W.heap.size W W'):Eb w a n c nx W':=
 ⟨(hb.block _ (lt_of_obj h.box)).trans h.box,(hb.block _ (lt_of_obj h.res)).trans h.res,h.below.trans (hb.mono h.below.size)⟩
theorem yr{a:Option Addr}{n p:Nat}{L:List MI}{W:World}{a':Option Addr}{n' c':Nat}{z:Int}(h:Items a n L W)(hp:W.heap[p]?=some (.cells #[.slice a' n' c',.int .i64 z] 29 (0,0)))(v0 v1:Value):
  Items a n L ((W.setCell ⟨p,0,none⟩ v0).setCell ⟨p,1,none⟩ v1):=by
 have hk: ∀q,q≠p->((W.setCell ⟨p,0,none⟩ v0).setCell ⟨p,1,none⟩ v1).heap[q]?=W.heap[q]?:=λq hq=>by
  rw[heap_setCell_other _ _ q _ (λe=>hq e),heap_setCell_other _ _ q _ (λe=>hq e)]
 refine⟨h.count,λi x hx=> ?_,λx hx=> ?_⟩
 ·obtain⟨b,off,e,hc⟩:=h.cell i x hx
  refine⟨b,off,e,λj v hj=> ?_⟩
  by_cases hb:b=p
  ·subst hb
   have h4:=hc 4 _ rfl
   rw[cell_obj hp]at h4
   have:off+i*6+4<2:=by
    rcases Nat.lt_or_ge (off+i*6+4) 2 with h|h
    ·exact h
    ·rw[Array.getElem?_eq_none (by show 2<=_;omega)]at h4;cases h4
   omega
  ·rw[<-hc j v hj];simp only[World.cell?,hk b hb]
 ·have hE:=h.ents x hx
  refine⟨hE.count,λi hi=> ?_⟩
  obtain⟨b,off,e,h0,h1⟩:=hE.cell i hi
  by_cases hb:b=p
  ·subst hb
   rw[cell_obj hp]at h0
   generalize off+i*2=j at h0
   match j with
   |0=>cases h0
   |1=>cases h0
   |j+2=>simp at h0
  ·exact⟨b,off,e,by rw[<-h0];simp only[World.cell?,hk b hb],by rw[<-h1];simp only[World.cell?,hk b hb]⟩
theorem FsR.store{l:List Fs.Item}{nx:Int}{w W':World}{a:Option Addr}{n c:Nat}{L:List MI}{a':Option Addr}{n' c':Nat}{z:Int}{p:Nat}(hl:its L=l)(hI:Items a L.length L W')(hn:n=L.length)(hb:Below w.heap.size w W')
  (hp:W'.heap[p]?=some (.cells #[.slice a' n' c',.int .i64 z] 29 (0,0))) (hpw:w.heap.size<=p):FsR l nx w (.returned (.agg #[.slice a n c,.int .i64 nx])) ((W'.setCell ⟨p,0,none⟩ (.slice a n c)).setCell ⟨p,1,none⟩ (.int .i64 nx)):=by
 subst hn
 exact⟨a,c,L,hl,rfl,yr hI hp _ _,(hb.setCell (p:=⟨p,0,none⟩) hpw _).setCell (p:=⟨p,1,none⟩) hpw _⟩
theorem z7(a:Option Addr)(n c:Nat)(nx:Int)(L:List MI)(d:Int)(x:ByteArray)(i:Int)(w:World)(hI:Items a n L w)(hn:n<=100000)(hF:Vb (its L))(hx:x.size<=100000):
  Calls prog 49 #[fv a n c nx,.int .i64 d,.string x,.int .i64 i] w (FsR (Fs.setL (its L) d (Nd.withE less Nm.right (Fs.nodeD (its L) d) x i).1) nx w):=by
 have HN:=hid (λk W (hb:Below w.heap.size w W)=>xI a n c nx L k W (hI.below hb) (Nat.le_trans hn (by decide)))
 have HSet:=hid (λk m dd t ea ec es W (hb:Below w.heap.size w W) (hE:Ents ea (List.length es) es W)=>xv a n c nx L d k m dd t ea ec es W (hI.below hb) hn hE)
 have HB:=hid (UA w a n c nx)
 have HFe:=hid (hF d)
 clear hI hF
 generalize its L=l at*
 go_enter func49,ntmps49
 go_wp2_with fail
 generalize (w.alloc (.cells #[.slice a n c,.int .i64 nx] 29)).alloc (.cells #[.slice none 0 0,.int .i64 0] 29)=W0 at HB|-
 go_wp2_with fail
 refine(HN.out d W0 HB.out.below).mono ?_
 unfold xF
 generalize (Fs.node l d).isSome=ok
 generalize Fs.nodeD l d=y at*
 obtain⟨k,m,dd,t,es⟩:=y
 rintro e w2 ⟨ea,ec,rfl,hE,hb2⟩
 have HB2:=hid (HB.out.kept hb2)
 have HB3:=hid (HB2.out.kept (below_one w2 (.cells #[.int .i64 k,.int .i64 m,.string dd,.string t,.slice ea es.length ec] 43)))
 have HX3:=hid (hE.below (below_one w2 (.cells #[.int .i64 k,.int .i64 m,.string dd,.string t,.slice ea es.length ec] 43)))
 clear hb2 hE
 dsimp only
 go_wp2_with fail
 refine(VC k m dd t ea es.length ec es x i _ HX3.out (Nat.le_trans HFe.out (by decide)) (Nat.le_trans hx (by decide))).mono ?_
 generalize hr:Nd.withE less Nm.right ⟨k,m,dd,t,es⟩ x i=r
 obtain⟨⟨k',m',dd',t',es'⟩,code⟩:=r
 have HR:=hid hr
 clear hr
 rintro e w4 ⟨ac,cc,rfl,hE4,hb4⟩
 have HB4:=hid (HB3.out.kept hb4)
 have HB5:=hid (HB4.out.kept (below_one w4 (.cells #[.int .i64 k',.int .i64 m',.string dd',.string t',.slice ac es'.length cc] 43)))
 have HX5:=hid (hE4.below (below_one w4 (.cells #[.int .i64 k',.int .i64 m',.string dd',.string t',.slice ac es'.length cc] 43)))
 clear hb4 hE4
 dsimp only
 have cb0:=zn HB5.out.box
 go_wp2_with fail
 refine(HSet.out k' m' dd' t' ac cc es' _ HB5.out.below HX5.out).mono ?_
 rintro e w6 ⟨a6,c6,L6,hL6,rfl,hI6,hb6⟩
 have HB6:=hid (HB5.out.kept hb6)
 have HI6:=hid hI6
 have HL6:=hid hL6
 clear hb6 hI6 hL6 cb0
 have r0:=zn HB6.out.res
 have q0:=zH HB6.out.res
 obtain⟨n6,hn6⟩: ∃n6,n6=L6.length:=⟨_,rfl⟩
 rw[<-hn6]
 have HN6:=hid hn6
 clear hn6
 dsimp only
 go_wp2_with fail
 refine bodyPost_ret_by (yX rfl _ _ (w.heap.size+1) _ _ rfl (set2 _ _ HB6.out.res)) rfl ?_
 rw[HR.out]
 exact FsR.store HL6.out HI6.out HN6.out HB6.out.below HB6.out.res (by omega)
theorem jR(a:Option Addr)(n c:Nat)(nx:Int)(L:List MI)(d:Int)(x:ByteArray)(w:World)(hI:Items a n L w)(hn:n<=100000)(hF:Vb (its L)):
  Calls prog 53 #[fv a n c nx,.int .i64 d,.string x] w (FsR (Fs.setL (its L) d (Nd.withoutE (Fs.nodeD (its L) d) x).1) nx w):=by
 have HN:=hid (λk W (hb:Below w.heap.size w W)=>xI a n c nx L k W (hI.below hb) (Nat.le_trans hn (by decide)))
 have HSet:=hid (λk m dd t ea ec es W (hb:Below w.heap.size w W) (hE:Ents ea (List.length es) es W)=>xv a n c nx L d k m dd t ea ec es W (hI.below hb) hn hE)
 have HB:=hid (UA w a n c nx)
 have HFe:=hid (hF d)
 clear hI hF
 generalize its L=l at*
 go_enter func53,ntmps53
 go_wp2_with fail
 generalize (w.alloc (.cells #[.slice a n c,.int .i64 nx] 29)).alloc (.cells #[.slice none 0 0,.int .i64 0] 29)=W0 at HB|-
 go_wp2_with fail
 refine(HN.out d W0 HB.out.below).mono ?_
 unfold xF
 generalize (Fs.node l d).isSome=ok
 generalize Fs.nodeD l d=y at*
 obtain⟨k,m,dd,t,es⟩:=y
 rintro e w2 ⟨ea,ec,rfl,hE,hb2⟩
 have HB2:=hid (HB.out.kept hb2)
 have HB3:=hid (HB2.out.kept (below_one w2 (.cells #[.int .i64 k,.int .i64 m,.string dd,.string t,.slice ea es.length ec] 43)))
 have HX3:=hid (hE.below (below_one w2 (.cells #[.int .i64 k,.int .i64 m,.string dd,.string t,.slice ea es.length ec] 43)))
 clear hb2 hE
 dsimp only
 go_wp2_with fail
 refine(ZB k m dd t ea es.length ec es x _ HX3.out (Nat.le_trans HFe.out (by decide))).mono ?_
 generalize hr:Nd.withoutE ⟨k,m,dd,t,es⟩ x=r
 obtain⟨⟨k',m',dd',t',es'⟩,code⟩:=r
 have HR:=hid hr
 clear hr
 rintro e w4 ⟨ac,cc,rfl,hE4,hb4⟩
 have HB4:=hid (HB3.out.kept hb4)
 have HB5:=hid (HB4.out.kept (below_one w4 (.cells #[.int .i64 k',.int .i64 m',.string dd',.string t',.slice ac es'.length cc] 43)))
 have HX5:=hid (hE4.below (below_one w4 (.cells #[.int .i64 k',.int .i64 m',.string dd',.string t',.slice ac es'.length cc] 43)))
 clear hb4 hE4
 dsimp only
 have cb0:=zn HB5.out.box
 go_wp2_with fail
 refine(HSet.out k' m' dd' t' ac cc es' _ HB5.out.below HX5.out).mono ?_
 rintro e w6 ⟨a6,c6,L6,hL6,rfl,hI6,hb6⟩
 have HB6:=hid (HB5.out.kept hb6)
 have HI6:=hid hI6
 have HL6:=hid hL6
 clear hb6 hI6 hL6 cb0
 have r0:=zn HB6.out.res
 have q0:=zH HB6.out.res
 obtain⟨n6,hn6⟩: ∃n6,n6=L6.length:=⟨_,rfl⟩
 rw[<-hn6]
 have HN6:=hid hn6
 clear hn6
 dsimp only
 go_wp2_with fail
 refine bodyPost_ret_by (yX rfl _ _ (w.heap.size+1) _ _ rfl (set2 _ _ HB6.out.res)) rfl ?_
 rw[HR.out]
 exact FsR.store HL6.out HI6.out HN6.out HB6.out.below HB6.out.res (by omega)
def FewM(L:List MI):Prop:= ∀x∈L,x.x.ents.length<=1000
theorem FewM.fewE{L:List MI}(h:FewM L):Vb (its L):=λi=>by
 unfold Fs.nodeD
 cases hn:Fs.node (its L) i with
 |none=>exact Nat.zero_le _
 |some x=>
  have hm:=Fs.node_mem hn
  obtain⟨y,hy,e⟩:=List.mem_map.1 hm
  have:=h y hy
  rw[show y.x=x from by show y.it.2=x;rw[e]]at this
  exact this
def cnt(es:List En)(i:Int):Nat:=es.countP λe=>decide (e.2=i)
theorem zdF(es:List En)(e:En)(i:Int):cnt (es++[e]) i=cnt es i+if e.2=i then 1 else 0:=by
 unfold cnt
 rw[List.countP_append,List.countP_singleton]
 by_cases h:e.2=i<;>simp[h]
theorem Kx(es:List En)(i:Int):cnt es i<=es.length:=List.countP_le_length
theorem J7(L:List MI)(x:MI)(i:Int):Fs.links (its (L++[x])) i=Fs.links (its L) i+cnt x.x.ents i:=by
 unfold Fs.links its cnt
 rw[List.map_append,List.map_append,List.sum_append]
 simp
theorem kQ{b off n:Nat}{l:List En}{W:World}(h:Ents (some ⟨b,off,none⟩) n l W){j:Nat}(hj:j<n): ∃x,l[j]?=some x/\W.cell? ⟨b,off+j*2,none⟩=some (.string x.1)/\W.cell? ⟨b,off+j*2+1,none⟩=some (.int .i64 x.2):=by
 obtain⟨b',off',e,h0,h1⟩:=h.cell j hj
 obtain⟨rfl,rfl⟩:b'=b/\off'=off:=by cases e;exact⟨rfl,rfl⟩
 have hl:j<l.length:=by rw[<-h.count];exact hj
 refine⟨l[j],List.getElem?_eq_getElem hl, ?_, ?_⟩
 ·rw[h0,List.getD,List.getElem?_eq_getElem hl];rfl
 ·rw[h1,List.getD,List.getElem?_eq_getElem hl];rfl
theorem JD(a:Option Addr)(n c:Nat)(nx:Int)(L:List MI)(i:Int)(w:World)(hI:Items a n L w)(hn:n<=100000)(hF:FewM L):
  Calls prog 54 #[fv a n c nx,.int .i64 i] w λe w'=>e= .returned (.int .i64 (Fs.links (its L) i))/\Below w.heap.size w w':=by
 have hni:(n:Int)<=100000:=by omega
 have HI:=hid (λW (hb:Below w.heap.size w W)=>hI.below hb)
 have HNL:=hid hI.count
 have HF:=hid hF
 have HB:=hid (Zi w a n c nx)
 clear hI hF
 go_enter func54,ntmps54
 go_wp2_with fail
 generalize w.alloc (.cells #[.slice a n c,.int .i64 nx] 29)=W0 at HB|-
 go_loopw [5,6,7] (λx5 x6 _ wr=> ∃j:Nat,j<=n/\x6= .int .i64 j/\x5= .int .i64 (Fs.links (its (L.take j)) i)/\Hid (Fs.links (its (L.take j)) i<=j*1000)/\Wb w a n c nx wr) (λ_ x6 _ _=>n-(intOf x6).toNat)
 case atStart=>exact⟨0,Nat.zero_le _,rfl,rfl,hid (Nat.zero_le _),HB.out⟩
 case round=>
  clear HB
  obtain⟨j,hj,rfl,rfl,HLe,hb⟩:=hrel
  have HB:=hid hb
  have cb0:wr.cell? ⟨w.heap.size,0,none⟩=some (.slice a n c):=cell_obj hb.box 0
  clear hb
  by_cases hlt:j<n
  ·have j0:(j:Int)<(n:Int):=by omega
   have hj0:(0:Int)<=(j:Int):=by omega
   obtain⟨b,off,x,rfl,hx,-⟩:=(HI.out _ HB.out.below).six hlt
   have HT:=hid (zw hx)
   have HSix:=hid (λW (hb:Below w.heap.size w W)=>show Six b off j x W/\Ents x.ea x.x.ents.length x.x.ents W from by
    obtain⟨b',off',x',e,hx',h6⟩:=(HI.out W hb).six hlt
    injection e with e
    injection e with e1 e2 _
    subst e1 e2
    rw[hx]at hx'
    injection hx' with hx'
    subst hx'
    exact⟨h6,(HI.out W hb).ents x (List.mem_of_getElem? hx)⟩)
   have HXl:=hid (HF.out x (List.mem_of_getElem? hx))
   have HLn:=hid (show Fs.links (its (L.take (j+1))) i=Fs.links (its (L.take j)) i+cnt x.x.ents i by rw[HT.out,J7])
   generalize Fs.links (its (L.take j)) i=N at*
   clear hx
   go_wp2_with fail
   go_loopw [5,7] (λx5 x7 wq=> ∃q:Nat,q<=x.x.ents.length/\x7= .int .i64 q/\x5= .int .i64 ((N+cnt (x.x.ents.take q) i:Nat):Int)/\Wb w (some ⟨b,off,none⟩) n c nx wq) (λ_ x7 _=>x.x.ents.length-(intOf x7).toNat)
   case atStart=>exact⟨0,Nat.zero_le _,rfl,rfl,HB.out⟩
   case round=>
    clear cb0 HB
    obtain⟨q,hq,rfl,rfl,hb⟩:=hrel
    have HB:=hid hb
    have cb0:wr.cell? ⟨w.heap.size,0,none⟩=some (.slice (some ⟨b,off,none⟩) n c):=cell_obj hb.box 0
    clear hb
    obtain⟨h6,hE⟩:=HSix.out _ HB.out.below
    have c5:=h6.c5
    have hxl:(x.x.ents.length:Int)<=1000:=by have:=HXl.out;omega
    have HcL:=hid (Kx (x.x.ents.take q) i)
    clear h6
    by_cases hqlt:q<x.x.ents.length
    ·have q0:(q:Int)<(x.x.ents.length:Int):=by omega
     have hq0:(0:Int)<=(q:Int):=by omega
     obtain⟨b2,o2,e2,-,-⟩:=hE.cell q hqlt
     rw[e2]at hE c5
     obtain⟨y,hy,d0,d1⟩:=kQ hE hqlt
     have HTq:=hid (show cnt (x.x.ents.take (q+1)) i=cnt (x.x.ents.take q) i+if y.2=i then 1 else 0 by rw[zw hy,zdF])
     have hM:cnt (x.x.ents.take q) i<=1000:=by have:=HcL.out;rw[List.length_take]at*;omega
     have hNM:N<=100000000:=by have:=HLe.out;omega
     clear e2 hE hy
     generalize cnt (x.x.ents.take q) i=M at*
     by_cases hyi:y.2=i
     ·rw[if_pos hyi]at HTq
      subst hyi
      have hwr:IntKind.i64.wrap (((N+M:Nat):Int)+1)=((N+M:Nat):Int)+1:=IntWalk.i64_in _ (by omega)
      generalize hNMq:N+M=Q at*
      go_wp2_with fail
      go_roundw
      case rel=>exact⟨q+1,by omega,by go_num,by rw[HTq.out,<-Nat.add_assoc,hNMq,Int.natCast_add];rfl,HB.out⟩
      case measure=>simp[intOf];omega
     ·rw[if_neg hyi]at HTq
      go_wp2_with fail
      go_roundw
      case rel=>exact⟨q+1,by omega,by go_num,by rw[HTq.out,Nat.add_zero],HB.out⟩
      case measure=>simp[intOf];omega
    ·obtain rfl:q=x.x.ents.length:=by omega
     have HEnd:=hid (show N+cnt (x.x.ents.take x.x.ents.length) i=Fs.links (its (L.take (j+1))) i by rw[List.take_length,HLn.out])
     have HLe2:=hid (show Fs.links (its (L.take (j+1))) i<=(j+1)*1000 by have:=HLe.out;have:=Kx x.x.ents i;rw[HLn.out];omega)
     go_wp2_with fail
     go_roundw
     case rel=>exact⟨j+1,by omega,by go_num,by rw[HEnd.out],HLe2,HB.out⟩
     case measure=>simp[intOf];omega
  ·obtain rfl:j=n:=by omega
   have HR:=hid (show Fs.links (its (L.take j)) i=Fs.links (its L) i by rw[HNL.out,List.take_length])
   go_wp2_with fail
   go_ret
   rw[HR.out]
   exact⟨rfl,HB.out.below⟩
def Dp(l:List Fs.Item):Nat->Int->Prop
 |0,i=>(Fs.nodeD l i).ents=[]
 |k+1,i=> ∀e∈(Fs.nodeD l i).ents,Dp l k e.2
def xf(V:En->Nat)(es:List En):Nat:=es.foldl (λn e=>max n (1+V e)) 0
theorem jL(V:En->Nat)(es:List En)(e:En):xf V (es++[e])=max (xf V es) (1+V e):=by
 unfold xf;rw[List.foldl_append];rfl
theorem zfn{V:En->Nat}{es:List En}(h: ∀e∈es,V e<=100):xf V es<=101:=by
 induction es using Nd.snoc_rec with
 |nil=>exact Nat.zero_le _
 |append_singleton es e ih=>
  rw[jL]
  have h1:=ih λx hx=>h x (List.mem_append_left _ hx)
  have h2:=h e (List.mem_append_right _ (List.mem_singleton.2 rfl))
  exact Nat.max_le.2 ⟨h1,by omega⟩
theorem y7(l:List Fs.Item): ∀(k:Nat) (i:Int),Fs.deep l k i<=k
 |0,_=>Nat.le_refl _
 | k+1,i=>by
  have key: ∀(es:List En) (a:Nat),a<=k+1->es.foldl (λn e=>max n (1+Fs.deep l k e.2)) a<=k+1:=by
   intro es
   induction es with
   |nil=>exact λa h=>h
   |cons e es ih=>exact λa h=>ih _ (Nat.max_le.2 ⟨h,by have:=y7 l k e.2;omega⟩)
  exact key _ 0 (Nat.zero_le _)
structure Nf (w:World) (a:Option Addr) (n c:Nat) (nx:Int) (p:Nat) (k m:Int) (d t:ByteArray) (ea:Option Addr) (ec:Nat) (es:List En) (W:World):Prop where
 wb:Wb w a n c nx W
 nb:W.heap[p]?=some (.cells #[.int .i64 k,.int .i64 m,.string d,.string t,.slice ea es.length ec] 43 (0,0))
 ents:Ents ea es.length es W
theorem Nf.kept{w:World}{a:Option Addr}{n c:Nat}{nx:Int}{p:Nat}{k m:Int}{d t:ByteArray}{ea:Option Addr}{ec:Nat}{es:List En}{W W':World}(h:Nf w a n c nx p k m d t ea ec es W)(hb:Below W.heap.size W W'):Nf w a n c nx p k m d t ea ec es W':=
 ⟨h.wb.kept hb,(hb.block _ (lt_of_obj h.nb)).trans h.nb,h.ents.below hb⟩
theorem ZE(a:Option Addr)(n c:Nat)(nx:Int)(L:List MI)(i:Int)(w:World)(V:En->Nat)(hI:Items a n L w)(hn:n<=100000)(hF:FewM L)
  (hV: ∀e∈(Fs.nodeD (its L) i).ents,V e<=100/\ ∀W,Below w.heap.size w W->Calls prog 57 #[fv a n c nx,.int .i64 e.2] W λr w'=>r= .returned (.int .i64 (V e))/\Below W.heap.size W w'):
  Calls prog 57 #[fv a n c nx,.int .i64 i] w λe w'=>e= .returned (.int .i64 (xf V (Fs.nodeD (its L) i).ents))/\Below w.heap.size w w':=by
 have HN:=hid (λk W (hb:Below w.heap.size w W)=>xI a n c nx L k W (hI.below hb) (Nat.le_trans hn (by decide)))
 have HB:=hid (Zi w a n c nx)
 have hF2:=hF.fewE i
 clear hI hF
 generalize its L=l at*
 go_enter func57,ntmps57
 go_wp2_with fail
 generalize w.alloc (.cells #[.slice a n c,.int .i64 nx] 29)=W0 at HB|-
 go_wp2_with fail
 refine(HN.out i W0 HB.out.below).mono ?_
 unfold xF
 generalize (Fs.node l i).isSome=ok
 obtain⟨y,hyy⟩: ∃y,Fs.nodeD l i=y:=⟨_,rfl⟩
 have HY:=hid hyy
 rw[hyy]at hV hF2|-
 clear hyy
 obtain⟨k,m,dd,t,es⟩:=y
 have HV:=hid hV
 have hel:es.length<=1000:=hF2
 rintro e w2 ⟨ea,ec,rfl,hE,hb2⟩
 have HB2:=hid (HB.out.kept hb2)
 have HNf:=hid (show Nf w a n c nx w2.heap.size k m dd t ea ec es (w2.alloc (.cells #[.int .i64 k,.int .i64 m,.string dd,.string t,.slice ea es.length ec] 43))from⟨HB2.out.kept (below_one w2 _),heap_alloc_new w2 _,hE.below (below_one w2 _)⟩)
 clear hb2 hE hV hF2
 dsimp only
 go_wp2_with fail
 generalize w2.alloc (.cells #[.int .i64 k,.int .i64 m,.string dd,.string t,.slice ea es.length ec] 43)=W3 at HNf|-
 generalize w2.heap.size=p3 at HNf|-
 go_loopw [7,8,9] (λx7 x8 _ wr=> ∃q:Nat,q<=es.length/\x8= .int .i64 q/\x7= .int .i64 (xf V (es.take q))/\Nf w a n c nx p3 k m dd t ea ec es wr) (λ_ x8 _ _=>es.length-(intOf x8).toNat)
 case atStart=>exact⟨0,Nat.zero_le _,rfl,rfl,HNf.out⟩
 case round=>
  clear HNf
  obtain⟨q,hq,rfl,rfl,hb⟩:=hrel
  have HK:=hid hb
  have n4:wr.cell? ⟨p3,4,none⟩=some (.slice ea es.length ec):=cell_obj hb.nb 4
  clear hb
  by_cases hlt:q<es.length
  ·have q0:(q:Int)<(es.length:Int):=by omega
   have hq0:(0:Int)<=(q:Int):=by omega
   have cb0:=zn HK.out.wb.box
   obtain⟨b2,o2,e2,-,-⟩:=HK.out.ents.cell q hlt
   have hE:=HK.out.ents
   rw[e2]at hE
   obtain⟨y,hy,d0,d1⟩:=kQ hE hlt
   obtain⟨hy1,hy2⟩:=HV.out y (List.mem_of_getElem? hy)
   have HT:=hid (show xf V (es.take (q+1))=max (xf V (es.take q)) (1+V y) by rw[zw hy,jL])
   have HCa:=hid (hy2 wr.drew HK.out.wb.below.drew)
   have HKd:=hid (HK.out.kept ((Below.refl wr.heap.size wr).drew))
   clear hy hE hy2 d0
   rw[e2]at n4
   generalize xf V (es.take q)=N at*
   generalize V y=M at*
   have hwr:IntKind.i64.wrap (1+(M:Int))=1+(M:Int):=IntWalk.i64_in _ (by omega)
   clear e2
   go_wp2_with fail
   go_region_law (first|(go_simp;(with_reducible refine HCa.out.mono ?_);rintro e w5 ⟨rfl,hb5⟩;have HK5:=hid (HKd.out.kept hb5);clear hb5)|fail)
   all_goals
    rcases Nat.lt_or_ge N (1+M)with hNM|hNM
    ·have hi:(N:Int)<1+(M:Int):=by omega
     have HT2:=hid (show xf V (es.take (q+1))=1+M by rw[HT.out];omega)
     clear hNM
     go_wp2_with fail
     go_roundw
     case rel=>exact⟨q+1,by omega,by go_num,by rw[HT2.out,Int.natCast_add];rfl,HK5.out⟩
     case measure=>simp[intOf];omega
    ·have hi: ¬ (N:Int)<1+(M:Int):=by omega
     have HT2:=hid (show xf V (es.take (q+1))=N by rw[HT.out];omega)
     clear hNM
     go_wp2_with fail
     go_roundw
     case rel=>exact⟨q+1,by omega,by go_num,by rw[HT2.out],HK5.out⟩
     case measure=>simp[intOf];omega
  ·obtain rfl:q=es.length:=by omega
   have HR:=hid (show xf V (es.take es.length)=xf V es by rw[List.take_length])
   go_wp2_with fail
   go_ret
   rw[HR.out,HY.out]
   exact⟨rfl,HK.out.wb.below⟩
theorem Q7(a:Option Addr)(n c:Nat)(nx:Int)(L:List MI)(hn:n<=100000)(hF:FewM L): ∀(K:Nat),K<=100-> ∀(i:Int) (w:World),Items a n L w->Dp (its L) K i->
  Calls prog 57 #[fv a n c nx,.int .i64 i] w λe w'=>e= .returned (.int .i64 (Fs.deep (its L) K i))/\Below w.heap.size w w':=by
 intro K
 induction K with
 |zero=>
  intro _ i w hI hD
  have hD:(Fs.nodeD (its L) i).ents=[]:=hD
  refine(ZE a n c nx L i w (λ_=>0) hI hn hF (by rw[hD];intro e he;cases he)).mono ?_
  rintro e w' ⟨rfl,hb⟩
  rw[hD]
  exact⟨rfl,hb⟩
 |succ K ih=>
  intro hK i w hI hD
  exact ZE a n c nx L i w (λe=>Fs.deep (its L) K e.2) hI hn hF λe he=>⟨Nat.le_trans (y7 _ _ _) (by omega),λW hb=>ih (by omega) e.2 W (hI.below hb) (hD e he)⟩
end Go.Proofs.YtabmamofnhcgbaaGreatDoor
