/- A part of the proofs. -/
import Derived.Test.YtabmamofnhcgbaaGreatDoorP00
set_option maxRecDepth 1000000
set_option maxHeartbeats 16000000
open Go.Lib (hid)
open Go.Proofs.Tryz
namespace Go.Proofs.YtabmamofnhcgbaaGreatDoor
open Go.RowKit Go.Less Go.Maps
open T8 (pv Dg)
attribute [local go_sem 9000] zg zf
theorem Six.below{b off i:Nat}{x:MI}{W W':World}(h:Six b off i x W)(hb:Below W.heap.size W W'):Six b off i x W':=
 have k: ∀{o:Nat} {v:Value},W.cell? ⟨b,o,none⟩=some v->W'.cell? ⟨b,o,none⟩=some v:=λhc=>(hb.cell (block_lt_of_cell hc)).trans hc
 ⟨k h.c0,k h.c1,k h.c2,k h.c3,k h.c4,k h.c5⟩
theorem VG(a:Option Addr)(n c:Nat)(nx:Int)(L:List MI)(a2:Option Addr)(n2 c2:Nat)(nx2:Int)(L2:List MI)(w:World)(hI:Items a n L w)(hI2:Items a2 n2 L2 w)(hn:n<=100000)(hL:its L=its L2)(hF: ∀x∈its L,x.2.ents.length<=64):
  Calls prog 13 #[fv a n c nx,fv a2 n2 c2 nx2] w λe w'=>e= .returned (.bool true)/\Below w.heap.size w w':=by
 have hl:=congrArg List.length hL
 simp only[its,List.length_map]at hl
 obtain rfl:n=n2:=by rw[hI.count,hI2.count];exact hl
 have hni:(n:Int)<=100000:=by omega
 have HI:=hid (λW (hb:Below w.heap.size w W)=>hI.below hb)
 have HI2:=hid (λW (hb:Below w.heap.size w W)=>hI2.below hb)
 have HLe:=hid hL
 have HF:=hid hF
 have HB:=hid (Bxs.two w #[.slice a n c,.int .i64 nx] 29 #[.slice a2 n c2,.int .i64 nx2] 29)
 clear hI hI2 hL hF hl
 have b0:=HB.out.c2 0 rfl
 have b1:=HB.out.c2 1 rfl
 go_enter func13,ntmps13
 go_wp2_with fail
 generalize (w.alloc (.cells #[.slice a n c,.int .i64 nx] 29)).alloc (.cells #[.slice a2 n c2,.int .i64 nx2] 29)=W0 at HB b0 b1|-
 clear b0 b1
 go_loopw [5] (λx5 wr=> ∃j:Nat,j<=n/\x5= .int .i64 j/\Below W0.heap.size W0 wr) (λx5 _=>n-(intOf x5).toNat)
 case atStart=>exact⟨0,Nat.zero_le _,rfl,Below.refl _ _⟩
 case round=>
  obtain⟨j,hj,rfl,hB⟩:=hrel
  have HBr:=hid (HB.out.kept hB)
  have HB0:=hid hB
  clear hB
  by_cases hlt:j<n
  ·have j0:(j:Int)<(n:Int):=by omega
   have hj0:(0:Int)<=(j:Int):=by omega
   obtain⟨b,o,x,rfl,hx,h6⟩:=(HI.out _ HBr.out.below).six hlt
   obtain⟨b2,o2,y,rfl,hy,h7⟩:=(HI2.out _ HBr.out.below).six hlt
   have hxy:x.it=y.it:=by
    have e:=congrArg (λl=>l[j]?) HLe.out
    simp only[its,List.getElem?_map,hx,hy,Option.map_some]at e
    exact Option.some.inj e
   have hxe:=HF.out x.it (List.mem_map.2 ⟨x,List.mem_of_getElem? hx,rfl⟩)
   have hEx:=(HI.out _ HBr.out.below).ents x (List.mem_of_getElem? hx)
   have hEy:=(HI2.out _ HBr.out.below).ents y (List.mem_of_getElem? hy)
   have HS:=hid (λW (hb:Below wr.heap.size wr W)=>And.intro (h6.below hb) (h7.below hb))
   obtain⟨⟨xi,⟨xk,xm,xd,xt,xe⟩⟩,xa,xc⟩:=x
   obtain⟨yt,ya,yc⟩:=y
   dsimp only at hxy
   subst hxy
   dsimp only[MI.x]at hEx hEy hxe
   have HSx:=hid (λW (hb:Below wr.heap.size wr W)=>(show W.cell? ⟨w.heap.size,0,none⟩=some (.slice (some ⟨b,o,none⟩) n c)/\W.cell? ⟨w.heap.size+1,0,none⟩=some (.slice (some ⟨b2,o2,none⟩) n c2)/\W.cell? ⟨b,o+j*6,none⟩=some (.int .i64 xi)/\W.cell? ⟨b,o+j*6+1,none⟩=some (.int .i64 xk)/\W.cell? ⟨b,o+j*6+2,none⟩=some (.int .i64 xm)/\W.cell? ⟨b,o+j*6+3,none⟩=some (.string xd)/\W.cell? ⟨b,o+j*6+4,none⟩=some (.string xt)/\W.cell? ⟨b,o+j*6+5,none⟩=some (.slice xa xe.length xc)/\W.cell? ⟨b2,o2+j*6,none⟩=some (.int .i64 xi)/\W.cell? ⟨b2,o2+j*6+1,none⟩=some (.int .i64 xk)/\W.cell? ⟨b2,o2+j*6+2,none⟩=some (.int .i64 xm)/\W.cell? ⟨b2,o2+j*6+3,none⟩=some (.string xd)/\W.cell? ⟨b2,o2+j*6+4,none⟩=some (.string xt)/\W.cell? ⟨b2,o2+j*6+5,none⟩=some (.slice ya xe.length yc)/\Below wr.heap.size wr W from⟨((HBr.out.kept hb).c2 0 rfl).1,((HBr.out.kept hb).c2 1 rfl).1,(HS.out W hb).1.c0,(HS.out W hb).1.c1,(HS.out W hb).1.c2,(HS.out W hb).1.c3,(HS.out W hb).1.c4,(HS.out W hb).1.c5,(HS.out W hb).2.c0,(HS.out W hb).2.c1,(HS.out W hb).2.c2,(HS.out W hb).2.c3,(HS.out W hb).2.c4,(HS.out W hb).2.c5,hb⟩))
   have HSm:=hid (λW (hb:Below wr.heap.size wr W)=>KX (k:=xk) (m:=xm) (d:=xd) (t:=xt) (c:=xc) (k':=xk) (m':=xm) (d':=xd) (t':=xt) (c':=yc) W (hEx.below hb) (hEy.below hb) (by omega) (by omega) (Zt xk xm xd xt xe))
   have c0:=((HBr.out).c2 0 rfl).1
   have hBd:=(Below.refl wr.heap.size wr).drew
   clear h6 h7 hEx hEy hx hy
   go_wp2_with fail
   clear c0
   go_region_held3 (λW=>W.cell? ⟨w.heap.size,0,none⟩=some (.slice (some ⟨b,o,none⟩) n c)/\W.cell? ⟨w.heap.size+1,0,none⟩=some (.slice (some ⟨b2,o2,none⟩) n c2)/\W.cell? ⟨b,o+j*6,none⟩=some (.int .i64 xi)/\W.cell? ⟨b,o+j*6+1,none⟩=some (.int .i64 xk)/\W.cell? ⟨b,o+j*6+2,none⟩=some (.int .i64 xm)/\W.cell? ⟨b,o+j*6+3,none⟩=some (.string xd)/\W.cell? ⟨b,o+j*6+4,none⟩=some (.string xt)/\W.cell? ⟨b,o+j*6+5,none⟩=some (.slice xa xe.length xc)/\W.cell? ⟨b2,o2+j*6,none⟩=some (.int .i64 xi)/\W.cell? ⟨b2,o2+j*6+1,none⟩=some (.int .i64 xk)/\W.cell? ⟨b2,o2+j*6+2,none⟩=some (.int .i64 xm)/\W.cell? ⟨b2,o2+j*6+3,none⟩=some (.string xd)/\W.cell? ⟨b2,o2+j*6+4,none⟩=some (.string xt)/\W.cell? ⟨b2,o2+j*6+5,none⟩=some (.slice ya xe.length yc)/\Below wr.heap.size wr W)
    (first|exact HSx.out _ (by assumption))
    (first|(go_at_call 22;(with_reducible refine(HSm.out _ (by assumption)).mono ?_);rintro e w5 ⟨rfl,hw5⟩;have hb5:=T8.btrans hw5 (by assumption)))
   all_goals
    have HX:=hid (HB0.out.trans (hb5.mono HB0.out.size))
    clear hb5 hw5 hBd
    go_wp2_with fail
    go_roundw
    case rel=>exact⟨j+1,by omega,by go_num,HX.out⟩
    case measure=>simp[intOf];omega
  ·obtain rfl:j=n:=by omega
   have hge: ¬ ((j:Int)<(j:Int)):=by omega
   have c0:=((HBr.out).c2 0 rfl).1
   go_wp2_with fail
   go_ret
   exact⟨rfl,HBr.out.below⟩
end Go.Proofs.YtabmamofnhcgbaaGreatDoor
namespace Go.Proofs.YtabmamofnhcgbaaGreatDoor
open T6
open Go.RowKit Go.Less
attribute [local go_sem 9000] zg zf
theorem run_bytes4(w:World)(a b c d:UInt8):(convert 144 9 (.slice (some ⟨w.heap.size,0,none⟩) 4 4)).run prog (w.alloc (.cells #[.int .u8 (a.toNat:Int),.int .u8 (b.toNat:Int),.int .u8 (c.toNat:Int),.int .u8 (d.toNat:Int)] 5))= .ok (.string ⟨#[a,b,c,d]⟩) (w.alloc (.cells #[.int .u8 (a.toNat:Int),.int .u8 (b.toNat:Int),.int .u8 (c.toNat:Int),.int .u8 (d.toNat:Int)] 5)):=by
 rw[run_convert_bytes_arg (P:=prog) (w.alloc (.cells #[.int .u8 (a.toNat:Int),.int .u8 (b.toNat:Int),.int .u8 (c.toNat:Int),.int .u8 (d.toNat:Int)] 5)) 144 5 underlying144 underlying5 w.heap.size 0 4 4 [(a.toNat:Int),(b.toNat:Int),(c.toNat:Int),(d.toNat:Int)] rfl ?_ 9 underlying9]
 ·simp[strOfNums]
 ·intro i hi
  rw[Nat.zero_add,World.cell?_alloc_new]
  match i,hi with
  |0,_=>rfl
  |1,_=>rfl
  |2,_=>rfl
  |3,_=>rfl
attribute [local go_sem 9000] run_bytes4
def zcW(n:Nat):ByteArray:=⟨(num n 4).toArray⟩
theorem zcb(n:Nat)(w:World)(_:n<=1000000000000):
  Calls prog 28 #[.int .i64 (n:Int)] w (λe w'=>e= .returned (.string (zcW n))/\Below w.heap.size w w'):=by
 have HK:=hid (show zcW n=⟨#[byteOf (n/16777216),byteOf (n/65536),byteOf (n/256),byteOf n]⟩ by unfold zcW;congr 1;simp[num,byteOf])
 have e0:(n:Int)/16777216%256=((byteOf (n/16777216)).toNat:Int):=by rw[<-byteOf_eq];omega
 have e1:(n:Int)/65536%256=((byteOf (n/65536)).toNat:Int):=by rw[<-byteOf_eq];omega
 have e2:(n:Int)/256%256=((byteOf (n/256)).toNat:Int):=by rw[<-byteOf_eq];omega
 have e3:(n:Int)%256=((byteOf n).toNat:Int):=by rw[<-byteOf_eq]
 generalize hA:byteOf (n/16777216)=A at e0 HK
 generalize hB:byteOf (n/65536)=B at e1 HK
 generalize hC:byteOf (n/256)=C at e2 HK
 generalize hD:byteOf n=D at e3 HK
 clear hA hB hC hD
 generalize (n:Int)=k at*
 go_enter func28,ntmps28
 go_wp2_with fail
 go_ret
 exact⟨by rw[HK.out];rfl,(Below.refl w.heap.size w).alloc (Nat.le_refl _) _⟩
end Go.Proofs.YtabmamofnhcgbaaGreatDoor
namespace Go.Proofs.YtabmamofnhcgbaaGreatDoor
open Go.RowKit Go.Less Go.Maps
open T8 (pv Dg Prs Gave K0 Vy)
attribute [local go_sem 9000] zg zf
theorem zcV(n:Nat):zcW n=Fs.key (n:Int):=by
 unfold zcW Fs.key Nd.mk Nd.n4
 simp[num]
theorem V7{x:Nd.Node}(h:Nd.Right less Nm.right x): ∀j,j<x.ents.length->(x.ents.getD j z0).1.size<=100000:=λj hj=>by
 rw[List.getD,List.getElem?_eq_getElem hj]
 have h1:=(h.ok _ (List.getElem_mem hj)).1
 unfold Nm.right at h1
 simp only[Bool.and_eq_true,decide_eq_true_eq]at h1
 have e:(Nd.bs x.ents[j].1).length=x.ents[j].1.size:=Array.length_toList
 show x.ents[j].1.size<=100000
 omega
theorem zez{base e s n cap:Nat}{a:Option Addr}{xs:List Value}{w:World}(h:w.ownsRow base e s (.slice a n cap) n xs):n<=cap:=by
 obtain⟨_,⟨e,_⟩|⟨g,cap',cur,e,_,_,hc,_⟩⟩:=h
 ·injection e with _ e1 e2;omega
 ·injection e with _ _ e2;subst e2;exact hc
def X9(l:List Fs.Item)(w:World)(e:Ending)(w':World):Prop:= ∃ao cap,e= .returned (.slice ao l.length cap)/\Prs ao l.length (Fs.kv l) w'/\l.length<=cap/\Below w.heap.size w w'
theorem zeO{l:List Fs.Item}(h:Okl l){j:Nat}{y:Fs.Item}(hy:l[j]?=some y):Tr.put less (Fs.kv (l.take j)) (Fs.key y.1) (Fs.txt y.2)=Fs.kv (l.take (j+1)):=by
 have hT:=zw hy
 have hm:=List.mem_of_getElem? hy
 have hpos:=h.pos y hm
 have hlt: ∀z∈l.take j,z.1<y.1:=λz hz=>by
  have hr:=h.inos
  have e:l=l.take (j+1)++l.drop (j+1):=(List.take_append_drop _ _).symm
  rw[hT]at e
  unfold Fs.Rising at hr
  rw[e,List.append_assoc,List.pairwise_append]at hr
  exact hr.2.2 z hz y (by simp)
 have hr:Fs.Rising (l.take j):=List.Pairwise.sublist (List.take_sublist _ _) h.inos
 rw[Fs.put_kv (λz hz=>h.ub z (List.mem_of_mem_take hz)) hr (by omega) y.2 (.inr hlt),hT]
 unfold Fs.setL
 have hno:Fs.node (l.take j) y.1=none:=Fs.node_none.2 λz hz e=>by have:=hlt z hz;omega
 rw[Fs.setL_no (λz hz e=>by have:=hlt z hz;omega),hno]
 rfl
theorem JC(a:Option Addr)(n c:Nat)(nx:Int)(L:List MI)(w:World)(hI:Items a n L w)(hok:Okl (its L)):
  Calls prog 21 #[fv a n c nx] w (X9 (its L) w):=by
 have hcount:=hI.count
 have hlen:(its L).length=n:=by unfold its;rw[List.length_map];exact hcount.symm
 have hn:n<=1000:=by rw[<-hlen];exact hok.few
 have hni:(n:Int)<=1000:=by omega
 have HI:=hid (λW (hb:Below w.heap.size w W)=>hI.below hb)
 have HOk:=hid hok
 have HLn:=hid hlen
 have HB:=hid (Bxs.one w #[.slice a n c,.int .i64 nx] 29)
 have HAt:=hid (λ(j:Nat) (x:MI) (hx:L[j]?=some x)=>(show(its L)[j]?=some x.it by unfold its;rw[List.getElem?_map,hx];rfl))
 clear hI hok hcount hlen
 generalize its L=l at*
 have b0:=HB.out.c2 0 rfl
 go_enter func21,ntmps21
 go_wp2_with fail
 generalize w.alloc (.cells #[.slice a n c,.int .i64 nx] 29)=W0 at HB b0|-
 clear b0
 go_loopw [3,4,5,6] (λx3 x4 _ _ wr=> ∃(j:Nat) (ao:Option Addr) (cp:Nat),j<=n/\x4= .int .i64 j/\x3= .slice ao j cp/\j<=cp/\Prs ao j (Fs.kv (l.take j)) wr/\Below W0.heap.size W0 wr) (λ_ x4 _ _ _=>n-(intOf x4).toNat)
 case atStart=>exact⟨0,none,0,Nat.zero_le _,rfl,rfl,Nat.le_refl _,⟨rfl,λi hi=>by omega⟩,Below.refl _ _⟩
 case round=>
  obtain⟨j,ao,cp,hj,rfl,rfl,hcp,hP,hB⟩:=hrel
  have HP:=hid (λW (hb:Below wr.heap.size wr W)=>hP.below hb)
  have HBr:=hid (HB.out.kept hB)
  have HB0:=hid hB
  clear hP hB
  by_cases hlt:j<n
  ·have j0:(j:Int)<(n:Int):=by omega
   have hj0:(0:Int)<=(j:Int):=by omega
   obtain⟨b,o,x,rfl,hx,h6⟩:=(HI.out _ HBr.out.below).six hlt
   have hy:=HAt.out j x hx
   have hm:=List.mem_of_getElem? hy
   have HK:=hid (zeO HOk.out hy)
   have hR:=HOk.out.right _ hm
   have hpos:=HOk.out.pos _ hm
   have hEx:=(HI.out _ HBr.out.below).ents x (List.mem_of_getElem? hx)
   have HS:=hid (λW (hb:Below wr.heap.size wr W)=>h6.below hb)
   have hns:=V7 hR
   have hpt:=KY hR
   have hl64:=hR.len
   obtain⟨⟨xi,⟨xk,xm,xd,xt,xe⟩⟩,xa,xc⟩:=x
   dsimp only[MI.x]at hEx hpos hns hpt HK hl64
   have HPr:=hid (show∀W,Below wr.heap.size wr W->Calls prog 25 #[nv xk xm xd xt xa xe.length xc] W (λe w'=>e= .returned (.tuple #[.string (Fs.txt ⟨xk,xm,xd,xt,xe⟩),.int .i64 0])/\Below W.heap.size W w')from λW hb=>by
    have:=XG xk xm xd xt xa xe.length xc xe W (hEx.below hb) (by omega) hns
    unfold yU at this
    rwa [hpt]at this)
   obtain⟨q,rfl⟩: ∃q:Nat,xi=(q:Int):=⟨xi.toNat,by omega⟩
   have HKy:=hid (show∀W,Calls prog 28 #[.int .i64 (q:Int)] W (λe w'=>e= .returned (.string (Fs.key (q:Int)))/\Below W.heap.size W w')from λW=>zcV q▸zcb q W (by omega))
   generalize Fs.txt ⟨xk,xm,xd,xt,xe⟩=tx at*
   generalize Fs.key (q:Int)=ky at*
   have HPu:=hid (λW (hb:Below wr.heap.size wr W)=>Vy ao j cp (Fs.kv (l.take j)) ky tx W (HP.out W hb) (by omega))
   unfold Gave at HPu
   have HLk:=hid (show(T8.put (Fs.kv (l.take j)) ky tx).length=j+1 by
    show(Tr.put less (Fs.kv (l.take j)) ky tx).length=j+1
    rw[HK.out,Fs.kv_len,List.length_take,HLn.out];omega)
   have HKe:=hid (show T8.put (Fs.kv (l.take j)) ky tx=Fs.kv (l.take (j+1))from HK.out)
   rw[HLk.out]at HPu
   generalize T8.put (Fs.kv (l.take j)) ky tx=pp at HPu HLk HKe
   have hb0:=HBr.out.c2 0 rfl
   obtain⟨c0,c1,c2,c3,c4,c5⟩:=h6
   dsimp only[MI.x]at c0 c1 c2 c3 c4 c5
   clear hx hy hm hR hEx hns hpt hpos
   go_wp2_with fail
   refine(HPr.out _ (Below.refl _ _)).mono ?_
   rintro e w3 ⟨rfl,hb⟩
   have HBx:=hid hb
   obtain⟨d0,d1,d2,d3,d4,d5⟩:=HS.out w3 hb
   dsimp only[MI.x]at d0 d1 d2 d3 d4 d5
   have hb1:=(HBr.out.kept hb).c2 0 rfl
   clear hb hb0 c0 c1 c2 c3 c4 c5
   dsimp only
   go_wp2_with fail
   refine(HKy.out _).mono ?_
   rintro e w4 ⟨rfl,hb⟩
   have HBx:=hid (HBx.out.trans (hb.mono HBx.out.size))
   clear hb hb1 d0 d1 d2 d3 d4 d5
   dsimp only
   go_wp2_with fail
   refine(HPu.out _ HBx.out).mono ?_
   rintro e w5 ⟨ao5,cp5,rfl,hO,hb⟩
   have HBx:=hid (HBx.out.trans (hb.mono HBx.out.size))
   have HX:=hid (show Prs ao5 (j+1) (Fs.kv (l.take (j+1))) w5/\j+1<=cp5 by
    rw[<-HKe.out]
    have hO2:=hO
    unfold T8.Own at hO2
    rw[HLk.out]at hO2
    exact⟨K0 hO2,zez hO2⟩)
   clear hb hO
   dsimp only
   go_wp2_with fail
   go_roundw
   case rel=>exact⟨j+1,ao5,cp5,by omega,by go_num,by simp,HX.out.2,HX.out.1,HB0.out.trans (HBx.out.mono HB0.out.size)⟩
   case measure=>simp[intOf];omega
  ·obtain rfl:j=n:=by omega
   have hge: ¬ ((j:Int)<(j:Int)):=by omega
   have hb0:=HBr.out.c2 0 rfl
   go_wp2_with fail
   go_ret
   have hT:l.take j=l:=by rw[<-HLn.out,List.take_length]
   have hP:=HP.out wr (Below.refl _ _)
   rw[hT]at hP
   unfold X9
   rw[HLn.out]
   exact⟨ao,cp,rfl,hP,hcp,HBr.out.below⟩
end Go.Proofs.YtabmamofnhcgbaaGreatDoor
namespace Go.Proofs.YtabmamofnhcgbaaGreatDoor
open T6
open Go.RowKit Go.Less
attribute [local go_sem 9000] zg zf
theorem zcc(a:Option Addr)(n c:Nat)(nx:Int)(L:List MI)(oa ob:ByteArray)(oo og on:Int)(od:ByteArray)(w:World)(hI:Items a n L w)(hS:Small11 L n ⟨4,oa,ob,oo,og,on,od⟩){na nb:List ByteArray}(ha:spl oa=some na)(hb:spl ob=some nb):
  Calls prog 11 #[fv a n c nx,.agg #[.int .i64 4,.string oa,.string ob,.int .i64 oo,.int .i64 og,.int .i64 on,.string od]] w (DoR (Fs.doE env ⟨its L,nx⟩ ⟨4,oa,ob,oo,og,on,od⟩) w):=by
 have HFi:=hid (λW (hb:Below w.heap.size w W)=>xJ a n c nx L oa W (hI.below hb) hS.n5 hS.ents.fewE hS.a)
 have HFre:=hid (λW (hb:Below w.heap.size w W)=>vE a n c nx L ob W (hI.below hb) hS.n5 hS.ents.fewE hS.b)
 have HEnt:=hid (λd x i W (hb:Below w.heap.size w W) (hx:ByteArray.size x<=100000)=>z7 a n c nx L d x i W (hI.below hb) hS.n5 hS.ents.fewE hx)
 have HI:=hid (λW (hb:Below w.heap.size w W)=>hI.below hb)
 have HNL:=hid hI.count
 have HB:=hid (show Ob w a n c nx ⟨4,oa,ob,oo,og,on,od⟩ (((w.alloc (.cells #[.slice a n c,.int .i64 nx] 29)).alloc (.cells #[.int .i64 4,.string oa,.string ob,.int .i64 oo,.int .i64 og,.int .i64 on,.string od] 34)).alloc (.cells #[.slice none 0 0,.int .i64 0] 29))from zQ w a n c nx ⟨4,oa,ob,oo,og,on,od⟩)
 have HSp:=hid (λW=>zi oa W hS.a)
 have HSq:=hid (λW=>zi ob W hS.b)
 clear hI hS
 obtain⟨ns,hns⟩: ∃ns,Nm.split oa.data.toList=some ns:=by
  unfold spl at ha
  cases hq:Nm.split oa.data.toList with
  |none=>rw[hq]at ha;cases ha
  |some ns=>exact⟨ns,rfl⟩
 have HNs:=hid hns
 clear hns
 obtain⟨ms,hms⟩: ∃ms,Nm.split ob.data.toList=some ms:=by
  unfold spl at hb
  cases hq:Nm.split ob.data.toList with
  |none=>rw[hq]at hb;cases hb
  |some ms=>exact⟨ms,rfl⟩
 have HMs:=hid hms
 clear hms
 have HR:=hid (show Fs.act env ⟨its L,nx⟩ ⟨4,oa,ob,oo,og,on,od⟩=Fs.link env ⟨its L,nx⟩ na nb by
  unfold Fs.act
  rw[if_neg (by show¬ ((4:Int)<1\/(11:Int)<4);decide),show env.sp oa=some na from ha,show env.sp ob=some nb from hb]
  rfl)
 unfold Fs.link at HR
 have HFc:=hid (xW (l:=its L) hb)
 have HSm2:=hid (vw hb)
 have HCases:=hid (show∀r,zF (its L) oa=r->(r.2.2≠0/\Fs.act env ⟨its L,nx⟩ ⟨4,oa,ob,oo,og,on,od⟩= .error r.2.2)\/(r.2.2=0/\Fs.walk (its L) 1 na= .ok r.1/\r.2.1=Fs.nodeD (its L) r.1/\Fs.act env ⟨its L,nx⟩ ⟨4,oa,ob,oo,og,on,od⟩=if r.2.1.kind=2 then .error 11 else match Fs.fresh (its L) nb with| .error e=> .error e| .ok (d,x)=>if 64<=(Fs.nodeD (its L) d).ents.length then .error 3 else .ok ⟨Fs.enter env (its L) d x r.1,nx⟩)from λr hr=>by
  rw[HR.out]
  rcases zT (l:=its L) ha with ⟨e,hne,hw,hf⟩|⟨i,hw,hf⟩
  ·rw[<-hr,hf,hw];exact .inl ⟨hne,rfl⟩
  ·rw[<-hr,hf,hw];exact .inr ⟨rfl,rfl,rfl,rfl⟩)
 go_enter func11,ntmps11
 go_wp2_with fail
 generalize ((w.alloc (.cells #[.slice a n c,.int .i64 nx] 29)).alloc (.cells #[.int .i64 4,.string oa,.string ob,.int .i64 oo,.int .i64 og,.int .i64 on,.string od] 34)).alloc (.cells #[.slice none 0 0,.int .i64 0] 29)=W0 at HB|-
 go_wp2_with fail
 refine(HSp.out W0).mono ?_
 rintro e w1 hX
 have HB1:=hid (HB.out.kept hX.below)
 obtain⟨ao,cap,rfl,-⟩:=hX.yes _ HNs.out
 clear hX HB
 have o0:=zW HB1.out.op
 dsimp only
 go_wp2_with fail
 refine(HSq.out w1).mono ?_
 rintro e w2 hY
 have HB2:=hid (HB1.out.kept hY.below)
 obtain⟨bo,bcap,rfl,-⟩:=hY.yes _ HMs.out
 clear o0
 clear hY HB1
 have f0:=zn HB2.out.box
 have o0:=zW HB2.out.op
 dsimp only
 go_wp2_with fail
 refine(HFi.out w2 HB2.out.below).mono ?_
 obtain⟨r,hr⟩: ∃r,zF (its L) oa=r:=⟨_,rfl⟩
 have HC:=hid (HCases.out r hr)
 rw[hr]
 clear hr
 obtain⟨i,⟨k,m,d,t,es⟩,code⟩:=r
 rintro e w3 ⟨ea,ec,rfl,hE,hb3⟩
 have HB3:=hid (HB2.out.kept hb3)
 have HB4:=hid (HB3.out.kept (below_one w3 (.cells #[.int .i64 k,.int .i64 m,.string d,.string t,.slice ea es.length ec] 43)))
 have HE3:=hid hE
 have HX4:=hid (hE.below (below_one w3 (.cells #[.int .i64 k,.int .i64 m,.string d,.string t,.slice ea es.length ec] 43)))
 have HO4:=hid (heap_alloc_new w3 (.cells #[.int .i64 k,.int .i64 m,.string d,.string t,.slice ea es.length ec] 43))
 clear f0 o0
 clear hb3 hE
 dsimp only
 rcases HC.out with ⟨hne,ha2⟩|⟨hz,hwk,hnd,ha2⟩
 ·have HA:=hid ha2
  clear ha2
  dsimp only at hne
  have f0:=zn HB4.out.box
  have r0:=zn HB4.out.res
  have q0:=zH HB4.out.res
  go_wp2_with fail
  refine bodyPost_ret_by (za rfl _ _ (w.heap.size+1+1) _ _ rfl (set2 _ _ HB4.out.res)) rfl ?_
  exact zo code HB4.out HI.out HNL.out (by unfold Fs.doE;rw[HA.out])
 dsimp only at hz hwk hnd ha2
 subst hz
 have HNd:=hid hnd
 clear hwk hnd
 by_cases hk2:k=2
 ·have HA:=hid (ha2.trans (if_pos hk2))
  clear ha2
  subst hk2
  have f0:=zn HB4.out.box
  have o0:=zW HB4.out.op
  have r0:=zn HB4.out.res
  have q0:=zH HB4.out.res
  go_wp2_with fail
  refine bodyPost_ret_by (za rfl _ _ (w.heap.size+1+1) _ _ rfl (set2 _ _ HB4.out.res)) rfl ?_
  exact zo 11 HB4.out HI.out HNL.out (by unfold Fs.doE;rw[HA.out])
 have HA2:=hid (ha2.trans (if_neg hk2))
 clear ha2
 have f0:=zn HB4.out.box
 have o0:=zW HB4.out.op
 go_wp2_with fail
 generalize w3.alloc (.cells #[.int .i64 k,.int .i64 m,.string d,.string t,.slice ea es.length ec] 43)=W4 at HB4 HX4 HO4|-
 refine(HFre.out W4 HB4.out.below).mono ?_
 obtain⟨q,hq⟩: ∃q,xQ (its L) ob=q:=⟨_,rfl⟩
 have HQ:=hid (HFc.out q hq)
 rw[hq]
 clear hq
 obtain⟨dd,x,many,code⟩:=q
 rintro e w5 ⟨rfl,hb5⟩
 have HB5:=hid (HB4.out.kept hb5)
 clear hb5
 clear f0 o0
 have f0:=zn HB5.out.box
 have r0:=zn HB5.out.res
 have q0:=zH HB5.out.res
 dsimp only
 rcases HQ.out with ⟨hne,hfr⟩|⟨hz,hfr,hmany⟩
 ·dsimp only at hne hfr
  have HA:=hid (show Fs.act env ⟨its L,nx⟩ ⟨4,oa,ob,oo,og,on,od⟩= .error code by rw[HA2.out,hfr])
  clear hfr
  go_wp2_with fail
  refine bodyPost_ret_by (za rfl _ _ (w.heap.size+1+1) _ _ rfl (set2 _ _ HB5.out.res)) rfl ?_
  exact zo code HB5.out HI.out HNL.out (by unfold Fs.doE;rw[HA.out])
 dsimp only at hz hfr hmany
 subst hz
 have HA3:=hid (show Fs.act env ⟨its L,nx⟩ ⟨4,oa,ob,oo,og,on,od⟩=if 64<=(Fs.nodeD (its L) dd).ents.length then .error 3 else .ok ⟨Fs.enter env (its L) dd x i,nx⟩ by rw[HA2.out,hfr])
 have hxs:=HSm2.out x (xP hfr)
 clear hfr
 by_cases h64:(64:Int)<=many
 ·have HA:=hid (HA3.out.trans (if_pos (by omega)))
  clear hmany
  go_wp2_with fail
  refine bodyPost_ret_by (za rfl _ _ (w.heap.size+1+1) _ _ rfl (set2 _ _ HB5.out.res)) rfl ?_
  exact zo 3 HB5.out HI.out HNL.out (by unfold Fs.doE;rw[HA.out])
 have HA:=hid (HA3.out.trans (if_neg (by omega)))
 clear hmany
 go_wp2_with fail
 refine(HEnt.out dd x i w5 HB5.out.below hxs).mono ?_
 rintro e w6 ⟨a6,c6,L6,hL6,rfl,hI6,hb6⟩
 have HB6:=hid (HB5.out.kept hb6)
 have HI6:=hid hI6
 have HL6:=hid hL6
 clear hb6 hI6 hL6 f0 r0 q0
 obtain⟨n6,hn6⟩: ∃n6,n6=L6.length:=⟨_,rfl⟩
 rw[<-hn6]
 have HN6:=hid hn6
 clear hn6
 have r0:=zn HB6.out.res
 have q0:=zH HB6.out.res
 dsimp only
 go_wp2_with fail
 refine bodyPost_ret_by (za rfl _ _ (w.heap.size+1+1) _ _ rfl (set2 _ _ HB6.out.res)) rfl ?_
 exact zL 0 HB6.out HI6.out HN6.out (by unfold Fs.doE;rw[HA.out,HL6.out];rfl)
theorem rDo_b4(a:Option Addr)(n c:Nat)(nx:Int)(L:List MI)(oa ob:ByteArray)(oo og on:Int)(od:ByteArray)(w:World)(hI:Items a n L w)(hS:Small11 L n ⟨4,oa,ob,oo,og,on,od⟩){na:List ByteArray}(ha:spl oa=some na)(hb0:spl ob=none):
  Calls prog 11 #[fv a n c nx,.agg #[.int .i64 4,.string oa,.string ob,.int .i64 oo,.int .i64 og,.int .i64 on,.string od]] w (DoR (Fs.doE env ⟨its L,nx⟩ ⟨4,oa,ob,oo,og,on,od⟩) w):=by
 have HI:=hid (λW (hb:Below w.heap.size w W)=>hI.below hb)
 have HNL:=hid hI.count
 have HB:=hid (show Ob w a n c nx ⟨4,oa,ob,oo,og,on,od⟩ (((w.alloc (.cells #[.slice a n c,.int .i64 nx] 29)).alloc (.cells #[.int .i64 4,.string oa,.string ob,.int .i64 oo,.int .i64 og,.int .i64 on,.string od] 34)).alloc (.cells #[.slice none 0 0,.int .i64 0] 29))from zQ w a n c nx ⟨4,oa,ob,oo,og,on,od⟩)
 have HSp:=hid (λW=>zi oa W hS.a)
 have HSq:=hid (λW=>zi ob W hS.b)
 clear hI hS
 obtain⟨ns,hns⟩: ∃ns,Nm.split oa.data.toList=some ns:=by
  unfold spl at ha
  cases hq:Nm.split oa.data.toList with
  |none=>rw[hq]at ha;cases ha
  |some ns=>exact⟨ns,rfl⟩
 have HNs:=hid hns
 clear hns
 have hb:Nm.split ob.data.toList=none:=by unfold spl at hb0;simpa using hb0
 have HR:=hid (show Fs.act env ⟨its L,nx⟩ ⟨4,oa,ob,oo,og,on,od⟩= .error 14 by
  unfold Fs.act
  rw[if_neg (by show¬ ((4:Int)<1\/(11:Int)<4);decide),show env.sp oa=some na from ha]
  simp only
  rw[if_pos ⟨by simp,hb0⟩])
 go_enter func11,ntmps11
 go_wp2_with fail
 generalize ((w.alloc (.cells #[.slice a n c,.int .i64 nx] 29)).alloc (.cells #[.int .i64 4,.string oa,.string ob,.int .i64 oo,.int .i64 og,.int .i64 on,.string od] 34)).alloc (.cells #[.slice none 0 0,.int .i64 0] 29)=W0 at HB|-
 go_wp2_with fail
 refine(HSp.out W0).mono ?_
 rintro e w1 hX
 have HB1:=hid (HB.out.kept hX.below)
 obtain⟨ao,cap,rfl,-⟩:=hX.yes _ HNs.out
 clear hX HB
 have o0:=zW HB1.out.op
 dsimp only
 go_wp2_with fail
 refine(HSq.out w1).mono ?_
 rintro e w2 hY
 have HB2:=hid (HB1.out.kept hY.below)
 obtain rfl:=hY.no hb
 clear o0
 clear hY HB1
 have f0:=zn HB2.out.box
 have o0:=zW HB2.out.op
 have r0:=zn HB2.out.res
 have q0:=zH HB2.out.res
 dsimp only
 go_wp2_with fail
 refine bodyPost_ret_by (za rfl _ _ (w.heap.size+1+1) _ _ rfl (set2 _ _ HB2.out.res)) rfl ?_
 exact zo 14 HB2.out HI.out HNL.out (by unfold Fs.doE;rw[HR.out])
theorem rDo_b7(a:Option Addr)(n c:Nat)(nx:Int)(L:List MI)(oa ob:ByteArray)(oo og on:Int)(od:ByteArray)(w:World)(hI:Items a n L w)(hS:Small11 L n ⟨7,oa,ob,oo,og,on,od⟩){na:List ByteArray}(ha:spl oa=some na)(hb0:spl ob=none):
  Calls prog 11 #[fv a n c nx,.agg #[.int .i64 7,.string oa,.string ob,.int .i64 oo,.int .i64 og,.int .i64 on,.string od]] w (DoR (Fs.doE env ⟨its L,nx⟩ ⟨7,oa,ob,oo,og,on,od⟩) w):=by
 have HI:=hid (λW (hb:Below w.heap.size w W)=>hI.below hb)
 have HNL:=hid hI.count
 have HB:=hid (show Ob w a n c nx ⟨7,oa,ob,oo,og,on,od⟩ (((w.alloc (.cells #[.slice a n c,.int .i64 nx] 29)).alloc (.cells #[.int .i64 7,.string oa,.string ob,.int .i64 oo,.int .i64 og,.int .i64 on,.string od] 34)).alloc (.cells #[.slice none 0 0,.int .i64 0] 29))from zQ w a n c nx ⟨7,oa,ob,oo,og,on,od⟩)
 have HSp:=hid (λW=>zi oa W hS.a)
 have HSq:=hid (λW=>zi ob W hS.b)
 clear hI hS
 obtain⟨ns,hns⟩: ∃ns,Nm.split oa.data.toList=some ns:=by
  unfold spl at ha
  cases hq:Nm.split oa.data.toList with
  |none=>rw[hq]at ha;cases ha
  |some ns=>exact⟨ns,rfl⟩
 have HNs:=hid hns
 clear hns
 have hb:Nm.split ob.data.toList=none:=by unfold spl at hb0;simpa using hb0
 have HR:=hid (show Fs.act env ⟨its L,nx⟩ ⟨7,oa,ob,oo,og,on,od⟩= .error 14 by
  unfold Fs.act
  rw[if_neg (by show¬ ((7:Int)<1\/(11:Int)<7);decide),show env.sp oa=some na from ha]
  simp only
  rw[if_pos ⟨by simp,hb0⟩])
 go_enter func11,ntmps11
 go_wp2_with fail
 generalize ((w.alloc (.cells #[.slice a n c,.int .i64 nx] 29)).alloc (.cells #[.int .i64 7,.string oa,.string ob,.int .i64 oo,.int .i64 og,.int .i64 on,.string od] 34)).alloc (.cells #[.slice none 0 0,.int .i64 0] 29)=W0 at HB|-
 go_wp2_with fail
 refine(HSp.out W0).mono ?_
 rintro e w1 hX
 have HB1:=hid (HB.out.kept hX.below)
 obtain⟨ao,cap,rfl,-⟩:=hX.yes _ HNs.out
 clear hX HB
 have o0:=zW HB1.out.op
 dsimp only
 go_wp2_with fail
 refine(HSq.out w1).mono ?_
 rintro e w2 hY
 have HB2:=hid (HB1.out.kept hY.below)
 obtain rfl:=hY.no hb
 clear o0
 clear hY HB1
 have f0:=zn HB2.out.box
 have o0:=zW HB2.out.op
 have r0:=zn HB2.out.res
 have q0:=zH HB2.out.res
 dsimp only
 go_wp2_with fail
 refine bodyPost_ret_by (za rfl _ _ (w.heap.size+1+1) _ _ rfl (set2 _ _ HB2.out.res)) rfl ?_
 exact zo 14 HB2.out HI.out HNL.out (by unfold Fs.doE;rw[HR.out])
theorem zen(a:Option Addr)(n c:Nat)(nx:Int)(L:List MI)(oa ob:ByteArray)(oo og on:Int)(od:ByteArray)(w:World)(hI:Items a n L w)(hS:Small11 L n ⟨10,oa,ob,oo,og,on,od⟩){na:List ByteArray}(ha:spl oa=some na)(hb0:spl ob=none):
  Calls prog 11 #[fv a n c nx,.agg #[.int .i64 10,.string oa,.string ob,.int .i64 oo,.int .i64 og,.int .i64 on,.string od]] w (DoR (Fs.doE env ⟨its L,nx⟩ ⟨10,oa,ob,oo,og,on,od⟩) w):=by
 have HI:=hid (λW (hb:Below w.heap.size w W)=>hI.below hb)
 have HNL:=hid hI.count
 have HB:=hid (show Ob w a n c nx ⟨10,oa,ob,oo,og,on,od⟩ (((w.alloc (.cells #[.slice a n c,.int .i64 nx] 29)).alloc (.cells #[.int .i64 10,.string oa,.string ob,.int .i64 oo,.int .i64 og,.int .i64 on,.string od] 34)).alloc (.cells #[.slice none 0 0,.int .i64 0] 29))from zQ w a n c nx ⟨10,oa,ob,oo,og,on,od⟩)
 have HSp:=hid (λW=>zi oa W hS.a)
 have HSq:=hid (λW=>zi ob W hS.b)
 clear hI hS
 obtain⟨ns,hns⟩: ∃ns,Nm.split oa.data.toList=some ns:=by
  unfold spl at ha
  cases hq:Nm.split oa.data.toList with
  |none=>rw[hq]at ha;cases ha
  |some ns=>exact⟨ns,rfl⟩
 have HNs:=hid hns
 clear hns
 have hb:Nm.split ob.data.toList=none:=by unfold spl at hb0;simpa using hb0
 have HR:=hid (show Fs.act env ⟨its L,nx⟩ ⟨10,oa,ob,oo,og,on,od⟩= .error 14 by
  unfold Fs.act
  rw[if_neg (by show¬ ((10:Int)<1\/(11:Int)<10);decide),show env.sp oa=some na from ha]
  simp only
  rw[if_pos ⟨by simp,hb0⟩])
 go_enter func11,ntmps11
 go_wp2_with fail
 generalize ((w.alloc (.cells #[.slice a n c,.int .i64 nx] 29)).alloc (.cells #[.int .i64 10,.string oa,.string ob,.int .i64 oo,.int .i64 og,.int .i64 on,.string od] 34)).alloc (.cells #[.slice none 0 0,.int .i64 0] 29)=W0 at HB|-
 go_wp2_with fail
 refine(HSp.out W0).mono ?_
 rintro e w1 hX
 have HB1:=hid (HB.out.kept hX.below)
 obtain⟨ao,cap,rfl,-⟩:=hX.yes _ HNs.out
 clear hX HB
 have o0:=zW HB1.out.op
 dsimp only
 go_wp2_with fail
 refine(HSq.out w1).mono ?_
 rintro e w2 hY
 have HB2:=hid (HB1.out.kept hY.below)
 obtain rfl:=hY.no hb
 clear o0
 clear hY HB1
 have f0:=zn HB2.out.box
 have o0:=zW HB2.out.op
 have r0:=zn HB2.out.res
 have q0:=zH HB2.out.res
 dsimp only
 go_wp2_with fail
 refine bodyPost_ret_by (za rfl _ _ (w.heap.size+1+1) _ _ rfl (set2 _ _ HB2.out.res)) rfl ?_
 exact zo 14 HB2.out HI.out HNL.out (by unfold Fs.doE;rw[HR.out])
theorem Qv{l:List Fs.Item}{ps:List ByteArray}{x:ByteArray}: ∀{j i:Int},Fs.walk l j (ps++[x])= .ok i-> ∃d,Fs.walk l j ps= .ok d/\(Fs.nodeD l d).kind=2/\Nd.find (Fs.nodeD l d).ents x=some i:=by
 induction ps with
 | nil=>
  intro j i h
  rw[List.nil_append,Fs.walk]at h
  split at h
  ·cases h
  ·rename_i hk
   cases hf:Nd.find (Fs.nodeD l j).ents x with
   |none=>rw[hf]at h;cases h
   |some c=>
    rw[hf]at h
    have h:Fs.walk l c []= .ok i:=h
    unfold Fs.walk at h
    injection h with h
    exact⟨j,rfl,by simpa using hk,by rw[hf,h]⟩
 | cons y ps ih=>
  intro j i h
  rw[List.cons_append,Fs.walk]at h
  rw[Fs.walk]
  split at h
  ·cases h
  ·rename_i hk
   rw[if_neg hk]
   cases hf:Nd.find (Fs.nodeD l j).ents y with
   |none=>rw[hf]at h;cases h
   |some c=>
    rw[hf]at h
    exact ih h
theorem kx{l:List Fs.Item}{ns:List ByteArray}{i:Int}(h:Fs.walk l 1 ns= .ok i)(hi:i≠1): ∃d x,Fs.place l ns= .ok (d,x):=by
 rcases Gr.snoc_cases ns with rfl|⟨ps,x,rfl⟩
 ·unfold Fs.walk at h;injection h with h;exact absurd h.symm hi
 ·obtain⟨d,h1,h2,_⟩:=Qv h
  exact⟨d,x,by rw[place_end,h1];simp only;rw[if_neg (by simp[h2])]⟩
theorem y9(y:Nd.Node)(x:ByteArray):(Nd.withoutE y x).1.ents.length<=y.ents.length:=by
 unfold Nd.withoutE
 split
 ·exact Nat.zero_le _
 ·split
  ·exact Nat.zero_le _
  ·exact(Nd.cut_sub y.ents x).length_le
theorem vr{L L6:List MI}{d:Int}{y:Nd.Node}(hF:FewM L)(hy:y.ents.length<=1000)(h:its L6=Fs.setL (its L) d y):FewM L6/\L6.length<=L.length+1:=by
 constructor
 ·intro z hz
  have hm:z.it∈its L6:=List.mem_map_of_mem hz
  rw[h]at hm
  rcases Fs.mem_set hm with e|⟨hm,_⟩
  ·show z.it.2.ents.length<=1000
   rw[e];exact hy
  ·obtain⟨u,hu,e⟩:=List.mem_map.1 hm
   have:=hF u hu
   show z.it.2.ents.length<=1000
   rw[<-e];exact this
 ·have e:=congrArg List.length h
  rw[Fs.len_set]at e
  unfold its at e
  rw[List.length_map,List.length_map]at e
  split at e<;>omega
theorem Ob.set2{w W:World}{a:Option Addr}{n c:Nat}{nx:Int}{o:Fs.Op}(h:Ob w a n c nx o W){p:Nat}(hp:w.heap.size+1+1<p)(v0 v1:Value):Ob w a n c nx o ((W.setCell ⟨p,0,none⟩ v0).setCell ⟨p,1,none⟩ v1):=by
 have hk: ∀q,q≠p->((W.setCell ⟨p,0,none⟩ v0).setCell ⟨p,1,none⟩ v1).heap[q]?=W.heap[q]?:=λq hq=>by
  rw[heap_setCell_other _ _ q _ (λe=>hq e),heap_setCell_other _ _ q _ (λe=>hq e)]
 exact⟨(hk _ (by omega)).trans h.box,(hk _ (by omega)).trans h.op,(hk _ (by omega)).trans h.res,(h.below.setCell (p:=⟨p,0,none⟩) (by show w.heap.size<=p;omega) v0).setCell (p:=⟨p,1,none⟩) (by show w.heap.size<=p;omega) v1⟩
theorem kA{l:List Fs.Item}{p:ByteArray}{nb:List ByteArray}{d:Int}{x:ByteArray}(h:spl p=some nb)(hp:Fs.place l nb= .ok (d,x)):vj l p=(d,x,0):=by
 unfold vj
 rw[h]
 simp only[Option.getD_some]
 rw[hp]
theorem JE(a:Option Addr)(n c:Nat)(nx:Int)(L:List MI)(oa ob:ByteArray)(oo og on:Int)(od:ByteArray)(w:World)(hI:Items a n L w)(hS:Small11 L n ⟨5,oa,ob,oo,og,on,od⟩){na:List ByteArray}(ha:spl oa=some na)(h1:(Fs.nodeD (its L) 1).kind=2):
  Calls prog 11 #[fv a n c nx,.agg #[.int .i64 5,.string oa,.string ob,.int .i64 oo,.int .i64 og,.int .i64 on,.string od]] w (DoR (Fs.doE env ⟨its L,nx⟩ ⟨5,oa,ob,oo,og,on,od⟩) w):=by
 have HFi:=hid (λW (hb:Below w.heap.size w W)=>xJ a n c nx L oa W (hI.below hb) hS.n5 hS.ents.fewE hS.a)
 have HPl:=hid (λW (hb:Below w.heap.size w W)=>ut a n c nx L oa W (hI.below hb) hS.n5 hS.ents.fewE hS.a)
 have HLe:=hid (λd x W (hb:Below w.heap.size w W)=>jR a n c nx L d x W (hI.below hb) hS.n5 hS.ents.fewE)
 have HI:=hid (λW (hb:Below w.heap.size w W)=>hI.below hb)
 have HNL:=hid hI.count
 have HB:=hid (show Ob w a n c nx ⟨5,oa,ob,oo,og,on,od⟩ (((w.alloc (.cells #[.slice a n c,.int .i64 nx] 29)).alloc (.cells #[.int .i64 5,.string oa,.string ob,.int .i64 oo,.int .i64 og,.int .i64 on,.string od] 34)).alloc (.cells #[.slice none 0 0,.int .i64 0] 29))from zQ w a n c nx ⟨5,oa,ob,oo,og,on,od⟩)
 have HSp:=hid (λW=>zi oa W hS.a)
 have HSq:=hid (λW=>zi ob W hS.b)
 have HSm:=hid hS
 clear hI hS
 obtain⟨ns,hns⟩: ∃ns,Nm.split oa.data.toList=some ns:=by
  unfold spl at ha
  cases hq:Nm.split oa.data.toList with
  |none=>rw[hq]at ha;cases ha
  |some ns=>exact⟨ns,rfl⟩
 have HNs:=hid hns
 clear hns
 have HR:=hid (show Fs.act env ⟨its L,nx⟩ ⟨5,oa,ob,oo,og,on,od⟩=Fs.unlink ⟨its L,nx⟩ na by
  unfold Fs.act
  rw[if_neg (by show¬ ((5:Int)<1\/(11:Int)<5);decide),show env.sp oa=some na from ha]
  rfl)
 unfold Fs.unlink at HR
 have HCases:=hid (show∀r,zF (its L) oa=r->(r.2.2≠0/\Fs.act env ⟨its L,nx⟩ ⟨5,oa,ob,oo,og,on,od⟩= .error r.2.2)\/(r.2.2=0/\Fs.walk (its L) 1 na= .ok r.1/\r.2.1=Fs.nodeD (its L) r.1/\Fs.act env ⟨its L,nx⟩ ⟨5,oa,ob,oo,og,on,od⟩=if r.2.1.kind=2 then .error 11 else match Fs.place (its L) na with| .error e=> .error e| .ok (d,x)=> .ok ⟨if Fs.links (Fs.leave (its L) d x) r.1=0 then Fs.dropL (Fs.leave (its L) d x) r.1 else Fs.leave (its L) d x,nx⟩)from λr hr=>by
  rw[HR.out]
  rcases zT (l:=its L) ha with ⟨e,hne,hw,hf⟩|⟨i,hw,hf⟩
  ·rw[<-hr,hf,hw];exact .inl ⟨hne,rfl⟩
  ·rw[<-hr,hf,hw];exact .inr ⟨rfl,rfl,rfl,rfl⟩)
 go_enter func11,ntmps11
 go_wp2_with fail
 generalize ((w.alloc (.cells #[.slice a n c,.int .i64 nx] 29)).alloc (.cells #[.int .i64 5,.string oa,.string ob,.int .i64 oo,.int .i64 og,.int .i64 on,.string od] 34)).alloc (.cells #[.slice none 0 0,.int .i64 0] 29)=W0 at HB|-
 go_wp2_with fail
 refine(HSp.out W0).mono ?_
 rintro e w1 hX
 have HB1:=hid (HB.out.kept hX.below)
 obtain⟨ao,cap,rfl,-⟩:=hX.yes _ HNs.out
 clear hX HB
 have o0:=zW HB1.out.op
 dsimp only
 go_wp2_with fail
 refine(HSq.out w1).mono ?_
 rintro e w2 hY
 have HB2:=hid (HB1.out.kept hY.below)
 obtain⟨v2,code2,rfl⟩:=hY.form
 clear o0
 clear hY HB1
 have f0:=zn HB2.out.box
 have o0:=zW HB2.out.op
 have r0:=zn HB2.out.res
 have q0:=zH HB2.out.res
 dsimp only
 go_wp2_with fail
 all_goals
  refine(HFi.out w2 HB2.out.below).mono ?_
  obtain⟨r,hr⟩: ∃r,zF (its L) oa=r:=⟨_,rfl⟩
  have HC:=hid (HCases.out r hr)
  rw[hr]
  clear hr
  obtain⟨i,⟨k,m,d,t,es⟩,code⟩:=r
  rintro e w3 ⟨ea,ec,rfl,hE,hb3⟩
  have HB3:=hid (HB2.out.kept hb3)
  have HB4:=hid (HB3.out.kept (below_one w3 (.cells #[.int .i64 k,.int .i64 m,.string d,.string t,.slice ea es.length ec] 43)))
  have HE3:=hid hE
  have HX4:=hid (hE.below (below_one w3 (.cells #[.int .i64 k,.int .i64 m,.string d,.string t,.slice ea es.length ec] 43)))
  have HO4:=hid (heap_alloc_new w3 (.cells #[.int .i64 k,.int .i64 m,.string d,.string t,.slice ea es.length ec] 43))
  clear f0 o0 r0 q0
  clear hb3 hE
  dsimp only
  rcases HC.out with ⟨hne,ha2⟩|⟨hz,hwk,hnd,ha2⟩
  ·have HA:=hid ha2
   clear ha2
   dsimp only at hne
   have f0:=zn HB4.out.box
   have r0:=zn HB4.out.res
   have q0:=zH HB4.out.res
   go_wp2_with fail
   refine bodyPost_ret_by (za rfl _ _ (w.heap.size+1+1) _ _ rfl (set2 _ _ HB4.out.res)) rfl ?_
   exact zo code HB4.out HI.out HNL.out (by unfold Fs.doE;rw[HA.out])
  dsimp only at hz hwk hnd ha2
  subst hz
  have HW:=hid hwk
  have HNd:=hid hnd
  clear hwk hnd
  by_cases hk2:k=2
  ·have HA:=hid (ha2.trans (if_pos hk2))
   clear ha2
   subst hk2
   have f0:=zn HB4.out.box
   have o0:=zW HB4.out.op
   have r0:=zn HB4.out.res
   have q0:=zH HB4.out.res
   go_wp2_with fail
   refine bodyPost_ret_by (za rfl _ _ (w.heap.size+1+1) _ _ rfl (set2 _ _ HB4.out.res)) rfl ?_
   exact zo 11 HB4.out HI.out HNL.out (by unfold Fs.doE;rw[HA.out])
  have HA2:=hid (ha2.trans (if_neg hk2))
  clear ha2
  have hi1:i≠1:=λe=>hk2 (by have:=congrArg Nd.Node.kind HNd.out;simp only at this;rw[this,e];exact h1)
  obtain⟨dd,x,hpl⟩:=kx HW.out hi1
  have HA3:=hid (show Fs.act env ⟨its L,nx⟩ ⟨5,oa,ob,oo,og,on,od⟩= .ok ⟨if Fs.links (Fs.leave (its L) dd x) i=0 then Fs.dropL (Fs.leave (its L) dd x) i else Fs.leave (its L) dd x,nx⟩ by rw[HA2.out,hpl])
  have HPr:=hid (kA ha hpl)
  clear hpl
  have f0:=zn HB4.out.box
  have o0:=zW HB4.out.op
  go_wp2_with fail
  generalize w3.alloc (.cells #[.int .i64 k,.int .i64 m,.string d,.string t,.slice ea es.length ec] 43)=W4 at HB4 HX4 HO4|-
  refine(HPl.out W4 HB4.out.below).mono ?_
  rw[HPr.out]
  rintro e w5 ⟨rfl,hb5⟩
  have HB5:=hid (HB4.out.kept hb5)
  clear hb5
  clear f0 o0
  have f0:=zn HB5.out.box
  dsimp only
  go_wp2_with fail
  refine(HLe.out dd x w5 HB5.out.below).mono ?_
  rintro e w6 ⟨a6,c6,L6,hL6,rfl,hI6,hb6⟩
  have HL6:=hid (show its L6=Fs.leave (its L) dd x from hL6)
  have HFw:=hid (vr HSm.out.ents (Nat.le_trans (y9 _ _) (HSm.out.ents.fewE dd)) hL6)
  have HB6:=hid (HB5.out.kept hb6)
  obtain⟨n6,hn6⟩: ∃n6,n6=L6.length:=⟨_,rfl⟩
  rw[<-hn6]at hI6|-
  have HN6:=hid hn6
  have hn7:n6<=100000:=by have:=HFw.out.2;have:=HSm.out.few;have:=HNL.out;omega
  have HB7:=hid (HB6.out.kept (below_one w6 (.cells #[.slice a6 n6 c6,.int .i64 nx] 29)))
  have HI7:=hid (hI6.below (below_one w6 (.cells #[.slice a6 n6 c6,.int .i64 nx] 29)))
  have HO7:=hid (heap_alloc_new w6 (.cells #[.slice a6 n6 c6,.int .i64 nx] 29))
  clear f0
  clear hb6 hI6 hL6 hn6
  dsimp only
  go_wp2_with fail
  generalize w6.alloc (.cells #[.slice a6 n6 c6,.int .i64 nx] 29)=W7 at HB7 HI7 HO7|-
  have hp7:w.heap.size+1+1<w6.heap.size:=lt_of_obj HB6.out.res
  generalize w6.heap.size=p7 at HO7 hp7|-
  refine(JD a6 n6 c6 nx L6 i W7 HI7.out hn7 HFw.out.1).mono ?_
  rw[HL6.out]
  rintro e w8 ⟨rfl,hb8⟩
  have HB8:=hid (HB7.out.kept hb8)
  have HI8:=hid (HI7.out.below hb8)
  have HO8:=hid ((hb8.block _ (lt_of_obj HO7.out)).trans HO7.out)
  clear hb8
  generalize Fs.links (Fs.leave (its L) dd x) i=K at*
  have u0:=zn HO8.out
  dsimp only
  by_cases hK:K=0
  ·subst hK
   have HA:=hid (HA3.out.trans (by rw[if_pos rfl]))
   go_wp2_with fail
   refine(Y0 a6 n6 c6 nx L6 i w8 HI8.out hn7).mono ?_
   rw[HL6.out]
   rintro e w9 ⟨a9,c9,L9,hL9,rfl,hI9,hb9⟩
   have HB9:=hid (HB8.out.kept hb9)
   have HO9:=hid ((hb9.block _ (lt_of_obj HO8.out)).trans HO8.out)
   have HL9:=hid hL9
   obtain⟨n9,hn9⟩: ∃n9,n9=L9.length:=⟨_,rfl⟩
   rw[<-hn9]at hI9|-
   have HN9:=hid hn9
   have HI10:=hid (yr hI9 HO9.out (.slice a9 n9 c9) (.int .i64 nx))
   have HB10:=hid (HB9.out.set2 hp7 (.slice a9 n9 c9) (.int .i64 nx))
   clear hb9 hL9 hI9 hn9 u0
   have u0:=zn HO9.out
   have v0:=free_obj HO9.out 0
   have v1:=free_obj HO9.out 1
   have r0:=zn HB9.out.res
   have q0:=zH HB9.out.res
   dsimp only
   go_wp2_with fail
   refine bodyPost_ret_by (za rfl _ _ (w.heap.size+1+1) _ _ rfl (set2 _ _ HB10.out.res)) rfl ?_
   exact zL 0 HB10.out (HN9.out▸HI10.out) HN9.out (by unfold Fs.doE;rw[HA.out,HL9.out])
  ·have HA:=hid (HA3.out.trans (by rw[if_neg hK]))
   have hKi: ¬ (K:Int)=0:=by omega
   have r0:=zn HB8.out.res
   have q0:=zH HB8.out.res
   go_wp2_with fail
   refine bodyPost_ret_by (za rfl _ _ (w.heap.size+1+1) _ _ rfl (set2 _ _ HB8.out.res)) rfl ?_
   exact zL 0 HB8.out (HN6.out▸HI8.out) HN6.out (by unfold Fs.doE;rw[HA.out,HL6.out])
theorem Q5(a:Option Addr)(n c:Nat)(nx:Int)(L:List MI)(oa ob:ByteArray)(oo og on:Int)(od:ByteArray)(w:World)(hI:Items a n L w)(hS:Small11 L n ⟨6,oa,ob,oo,og,on,od⟩){na:List ByteArray}(ha:spl oa=some na):
  Calls prog 11 #[fv a n c nx,.agg #[.int .i64 6,.string oa,.string ob,.int .i64 oo,.int .i64 og,.int .i64 on,.string od]] w (DoR (Fs.doE env ⟨its L,nx⟩ ⟨6,oa,ob,oo,og,on,od⟩) w):=by
 have HFi:=hid (λW (hb:Below w.heap.size w W)=>xJ a n c nx L oa W (hI.below hb) hS.n5 hS.ents.fewE hS.a)
 have HPl:=hid (λW (hb:Below w.heap.size w W)=>ut a n c nx L oa W (hI.below hb) hS.n5 hS.ents.fewE hS.a)
 have HLe:=hid (λd x W (hb:Below w.heap.size w W)=>jR a n c nx L d x W (hI.below hb) hS.n5 hS.ents.fewE)
 have HI:=hid (λW (hb:Below w.heap.size w W)=>hI.below hb)
 have HNL:=hid hI.count
 have HB:=hid (show Ob w a n c nx ⟨6,oa,ob,oo,og,on,od⟩ (((w.alloc (.cells #[.slice a n c,.int .i64 nx] 29)).alloc (.cells #[.int .i64 6,.string oa,.string ob,.int .i64 oo,.int .i64 og,.int .i64 on,.string od] 34)).alloc (.cells #[.slice none 0 0,.int .i64 0] 29))from zQ w a n c nx ⟨6,oa,ob,oo,og,on,od⟩)
 have HSp:=hid (λW=>zi oa W hS.a)
 have HSq:=hid (λW=>zi ob W hS.b)
 have HSm:=hid hS
 clear hI hS
 obtain⟨ns,hns⟩: ∃ns,Nm.split oa.data.toList=some ns:=by
  unfold spl at ha
  cases hq:Nm.split oa.data.toList with
  |none=>rw[hq]at ha;cases ha
  |some ns=>exact⟨ns,rfl⟩
 have HNs:=hid hns
 clear hns
 have HR:=hid (show Fs.act env ⟨its L,nx⟩ ⟨6,oa,ob,oo,og,on,od⟩=Fs.rmdir ⟨its L,nx⟩ na by
  unfold Fs.act
  rw[if_neg (by show¬ ((6:Int)<1\/(11:Int)<6);decide),show env.sp oa=some na from ha]
  rfl)
 unfold Fs.rmdir at HR
 have HCases:=hid (show∀r,zF (its L) oa=r->(r.2.2≠0/\Fs.act env ⟨its L,nx⟩ ⟨6,oa,ob,oo,og,on,od⟩= .error r.2.2)\/(r.2.2=0/\Fs.walk (its L) 1 na= .ok r.1/\r.2.1=Fs.nodeD (its L) r.1/\Fs.act env ⟨its L,nx⟩ ⟨6,oa,ob,oo,og,on,od⟩=if r.2.1.kind≠2 then .error 10 else if r.1=1 then .error 17 else if r.2.1.ents≠[]then .error 12 else match Fs.place (its L) na with| .error e=> .error e| .ok (d,x)=> .ok ⟨Fs.dropL (Fs.leave (its L) d x) r.1,nx⟩)from λr hr=>by
  rw[HR.out]
  rcases zT (l:=its L) ha with ⟨e,hne,hw,hf⟩|⟨i,hw,hf⟩
  ·rw[<-hr,hf,hw];exact .inl ⟨hne,rfl⟩
  ·rw[<-hr,hf,hw];exact .inr ⟨rfl,rfl,rfl,rfl⟩)
 go_enter func11,ntmps11
 go_wp2_with fail
 generalize ((w.alloc (.cells #[.slice a n c,.int .i64 nx] 29)).alloc (.cells #[.int .i64 6,.string oa,.string ob,.int .i64 oo,.int .i64 og,.int .i64 on,.string od] 34)).alloc (.cells #[.slice none 0 0,.int .i64 0] 29)=W0 at HB|-
 go_wp2_with fail
 refine(HSp.out W0).mono ?_
 rintro e w1 hX
 have HB1:=hid (HB.out.kept hX.below)
 obtain⟨ao,cap,rfl,-⟩:=hX.yes _ HNs.out
 clear hX HB
 have o0:=zW HB1.out.op
 dsimp only
 go_wp2_with fail
 refine(HSq.out w1).mono ?_
 rintro e w2 hY
 have HB2:=hid (HB1.out.kept hY.below)
 obtain⟨v2,code2,rfl⟩:=hY.form
 clear o0
 clear hY HB1
 have f0:=zn HB2.out.box
 have o0:=zW HB2.out.op
 have r0:=zn HB2.out.res
 have q0:=zH HB2.out.res
 dsimp only
 go_wp2_with fail
 all_goals
  refine(HFi.out w2 HB2.out.below).mono ?_
  obtain⟨r,hr⟩: ∃r,zF (its L) oa=r:=⟨_,rfl⟩
  have HC:=hid (HCases.out r hr)
  rw[hr]
  clear hr
  obtain⟨i,⟨k,m,d,t,es⟩,code⟩:=r
  rintro e w3 ⟨ea,ec,rfl,hE,hb3⟩
  have HB3:=hid (HB2.out.kept hb3)
  have HB4:=hid (HB3.out.kept (below_one w3 (.cells #[.int .i64 k,.int .i64 m,.string d,.string t,.slice ea es.length ec] 43)))
  have HE3:=hid hE
  have HX4:=hid (hE.below (below_one w3 (.cells #[.int .i64 k,.int .i64 m,.string d,.string t,.slice ea es.length ec] 43)))
  have HO4:=hid (heap_alloc_new w3 (.cells #[.int .i64 k,.int .i64 m,.string d,.string t,.slice ea es.length ec] 43))
  clear f0 o0 r0 q0
  clear hb3 hE
  dsimp only
  rcases HC.out with ⟨hne,ha2⟩|⟨hz,hwk,hnd,ha2⟩
  ·have HA:=hid ha2
   clear ha2
   dsimp only at hne
   have f0:=zn HB4.out.box
   have r0:=zn HB4.out.res
   have q0:=zH HB4.out.res
   go_wp2_with fail
   refine bodyPost_ret_by (za rfl _ _ (w.heap.size+1+1) _ _ rfl (set2 _ _ HB4.out.res)) rfl ?_
   exact zo code HB4.out HI.out HNL.out (by unfold Fs.doE;rw[HA.out])
  dsimp only at hz hwk hnd ha2
  subst hz
  have HW:=hid hwk
  have HNd:=hid hnd
  clear hwk hnd
  by_cases hk2:k=2
  rotate_left
  ·have HA:=hid (ha2.trans (if_pos hk2))
   clear ha2
   have f0:=zn HB4.out.box
   have o0:=zW HB4.out.op
   have r0:=zn HB4.out.res
   have q0:=zH HB4.out.res
   go_wp2_with fail
   refine bodyPost_ret_by (za rfl _ _ (w.heap.size+1+1) _ _ rfl (set2 _ _ HB4.out.res)) rfl ?_
   exact zo 10 HB4.out HI.out HNL.out (by unfold Fs.doE;rw[HA.out])
  have ha3:=ha2.trans (if_neg (by simpa using hk2))
  clear ha2
  subst hk2
  by_cases hi1:i=1
  ·have HA:=hid (ha3.trans (if_pos hi1))
   clear ha3
   subst hi1
   have f0:=zn HB4.out.box
   have o0:=zW HB4.out.op
   have r0:=zn HB4.out.res
   have q0:=zH HB4.out.res
   go_wp2_with fail
   refine bodyPost_ret_by (za rfl _ _ (w.heap.size+1+1) _ _ rfl (set2 _ _ HB4.out.res)) rfl ?_
   exact zo 17 HB4.out HI.out HNL.out (by unfold Fs.doE;rw[HA.out])
  have ha4:=ha3.trans (if_neg hi1)
  clear ha3
  rcases Nat.eq_zero_or_pos es.length with hes|hes
  rotate_left
  ·have HA:=hid (ha4.trans (if_pos (λe=>by have e:es=[]:=e;rw[e]at hes;cases hes)))
   have hei:(0:Int)<(es.length:Int):=by omega
   clear ha4 hes
   have f0:=zn HB4.out.box
   have o0:=zW HB4.out.op
   have r0:=zn HB4.out.res
   have q0:=zH HB4.out.res
   go_wp2_with fail
   refine bodyPost_ret_by (za rfl _ _ (w.heap.size+1+1) _ _ rfl (set2 _ _ HB4.out.res)) rfl ?_
   exact zo 12 HB4.out HI.out HNL.out (by unfold Fs.doE;rw[HA.out])
  obtain rfl:=List.eq_nil_of_length_eq_zero hes
  have ha5:=ha4.trans (if_neg (λe=>e rfl))
  clear ha4 hes
  obtain⟨dd,x,hpl⟩:=kx HW.out hi1
  have HA:=hid (show Fs.act env ⟨its L,nx⟩ ⟨6,oa,ob,oo,og,on,od⟩= .ok ⟨Fs.dropL (Fs.leave (its L) dd x) i,nx⟩ by rw[ha5,hpl])
  have HPr:=hid (kA ha hpl)
  clear hpl ha5
  rw[List.length_nil]at HB4 HX4 HO4|-
  have f0:=zn HB4.out.box
  have o0:=zW HB4.out.op
  go_wp2_with fail
  generalize w3.alloc (.cells #[.int .i64 2,.int .i64 m,.string d,.string t,.slice ea 0 ec] 43)=W4 at HB4 HX4 HO4|-
  refine(HPl.out W4 HB4.out.below).mono ?_
  rw[HPr.out]
  rintro e w5 ⟨rfl,hb5⟩
  have HB5:=hid (HB4.out.kept hb5)
  clear hb5
  clear f0 o0
  have f0:=zn HB5.out.box
  dsimp only
  go_wp2_with fail
  refine(HLe.out dd x w5 HB5.out.below).mono ?_
  rintro e w6 ⟨a6,c6,L6,hL6,rfl,hI6,hb6⟩
  have HL6:=hid (show its L6=Fs.leave (its L) dd x from hL6)
  have HFw:=hid (vr HSm.out.ents (Nat.le_trans (y9 _ _) (HSm.out.ents.fewE dd)) hL6)
  have HB6:=hid (HB5.out.kept hb6)
  obtain⟨n6,hn6⟩: ∃n6,n6=L6.length:=⟨_,rfl⟩
  rw[<-hn6]at hI6|-
  have HI6:=hid hI6
  have hn7:n6<=100000:=by have:=HFw.out.2;have:=HSm.out.few;have:=HNL.out;omega
  clear f0
  clear hb6 hI6 hL6 hn6
  dsimp only
  go_wp2_with fail
  refine(Y0 a6 n6 c6 nx L6 i w6 HI6.out hn7).mono ?_
  rw[HL6.out]
  rintro e w9 ⟨a9,c9,L9,hL9,rfl,hI9,hb9⟩
  have HB9:=hid (HB6.out.kept hb9)
  have HL9:=hid hL9
  have HI9:=hid hI9
  obtain⟨n9,hn9⟩: ∃n9,n9=L9.length:=⟨_,rfl⟩
  rw[<-hn9]
  have HN9:=hid hn9
  clear hb9 hL9 hI9 hn9
  have r0:=zn HB9.out.res
  have q0:=zH HB9.out.res
  dsimp only
  go_wp2_with fail
  refine bodyPost_ret_by (za rfl _ _ (w.heap.size+1+1) _ _ rfl (set2 _ _ HB9.out.res)) rfl ?_
  exact zL 0 HB9.out HI9.out HN9.out (by unfold Fs.doE;rw[HA.out,HL9.out])
end Go.Proofs.YtabmamofnhcgbaaGreatDoor
