/- A part of the proofs. -/
import Derived.Shelf.Abstract
import Derived.Laws.RangeAny
import Derived.Lib.Bytealg
import Derived.BigCall
import Derived.BigGuard
import Derived.Laws.Runes
import Derived.Laws.Strings3
import Derived.Laws.Cover4
import Derived.Lib.OthersKept
import Derived.Test.YtabmamofnhcgbaaGreatDoorC08
set_option maxRecDepth 1000000
set_option maxHeartbeats 16000000
open Go.Lib (hid)
open Go.Proofs.Tryz
namespace Go.Proofs.YtabmamofnhcgbaaGreatDoor
open Go.RowKit Go.Less
attribute [local go_sem 9000] zg zf zz zA zB zC
def yY(nm:ByteArray)(x:En):Bool:=decide (x.1=nm)
def xA(nm:ByteArray)(x:En):Bool:= !less x.1 nm
def ixz(p:En->Bool)(l:List En):Int:=if Nd.place p l<l.length then(Nd.place p l:Int)else-1
theorem Qa{p:En->Bool}{l:List En}{k:Nat}(h:Nd.place p l=k)(hk:k<l.length):ixz p l=(k:Int):=by unfold ixz;rw[h,if_pos hk]
theorem Qb{p:En->Bool}{l:List En}(h:Nd.place p l=l.length):ixz p l= -1:=by unfold ixz;rw[h,if_neg (Nat.lt_irrefl _)]
abbrev ev(x:En):Value:= .agg #[.string x.1,.int .i64 x.2]
theorem za3(x:En)(nm:ByteArray)(g:Nat)(w:World)(hg:w.cell? ⟨g,0,none⟩=some (.string nm)):Calls prog 198 #[ev x,.pointer (some ⟨g,0,none⟩)] w λe w'=>e= .returned (.bool (yY nm x))/\Below w.heap.size w w':=by
 have hlt:=block_lt_of_cell hg
 go_enter func198,ntmps198
 go_wp2_with fail
 go_ret
 exact⟨rfl,(Below.refl _ _).alloc (Nat.le_refl _) _⟩
theorem za4(x:En)(nm:ByteArray)(g:Nat)(w:World)(hg:w.cell? ⟨g,0,none⟩=some (.string nm)):Calls prog 214 #[ev x,.pointer (some ⟨g,0,none⟩)] w λe w'=>e= .returned (.bool (xA nm x))/\Below w.heap.size w w':=by
 have hlt:=block_lt_of_cell hg
 go_enter func214,ntmps214
 go_wp2_with fail
 go_ret
 exact⟨rfl,(Below.refl _ _).alloc (Nat.le_refl _) _⟩
theorem xj(nm:ByteArray)(w:World):Calls prog 154 #[.string nm] w λe w'=>e= .returned (.func (.func 198) #[] #[.pointer (some ⟨w.heap.size,0,none⟩)])/\w'.cell? ⟨w.heap.size,0,none⟩=some (.string nm)/\Below w.heap.size w w':=by
 go_enter func154,ntmps154
 go_wp2_with fail
 go_ret
 exact⟨rfl,cell_obj (heap_alloc_new w _) 0,(Below.refl _ _).alloc (Nat.le_refl _) _⟩
theorem qr(a:Option Addr)(n cap:Nat)(l:List En)(nm:ByteArray)(g:Nat)(w:World)(hE:Ents a n l w)(hn:n<=1000000)(hg:w.cell? ⟨g,0,none⟩=some (.string nm)):
  Calls prog 153 #[.slice a n cap,.func (.func 198) #[] #[.pointer (some ⟨g,0,none⟩)]] w λe w'=>e= .returned (.int .i64 (ixz (yY nm) l))/\Below w.heap.size w w':=by
 have HNL:=hid hE.count
 have hni:(n:Int)<=1000000:=by omega
 have HE:=hid (λW (hb:Below w.heap.size w W)=>hE.below hb)
 have HG:=hid (show∀W,Below w.heap.size w W->W.cell? ⟨g,0,none⟩=some (.string nm)from λW hb=>(hb.cell (block_lt_of_cell hg)).trans hg)
 have eg: ∀args w,(callFunc 198 args).run prog w= .ok (.enter 198 args) w:=enters_of func198 (by kernel_rfl) rfl
 clear hE hg
 go_enter func153,ntmps153
 go_wp2_with fail
 go_loopw [8] (λv wr=> ∃k:Nat,k<=n/\v= .int .i64 k/\Below w.heap.size w wr/\Hid (Nd.place (yY nm) (l.take k)=k)) (λv _=>n-(intOf v).toNat)
 case atStart=>exact⟨0,Nat.zero_le _,rfl,Below.refl _ _,rfl⟩
 case round=>
  obtain⟨k,hk,rfl,hB,HA⟩:=hrel
  by_cases hlt:k<n
  ·have k0:(k:Int)<(n:Int):=by omega
   have hk0:(0:Int)<=(k:Int):=by omega
   have hkl:k<l.length:=by rw[<-HNL.out];exact hlt
   obtain⟨b,off,rfl,c0,c1⟩:=(HE.out _ hB).cell k hlt
   have HM:=hid (λh=>Nd.place_more (p:=yY nm) (z:=z0) HA.out hkl h)
   have HH:=hid (λh=>Nd.place_hit (p:=yY nm) (z:=z0) HA.out hkl h)
   have HLt:=hid hkl
   generalize l.getD k z0=x at c0 c1 HM HH
   have HC:=hid (za3 x nm g wr (HG.out _ hB))
   have HBh:=hid hB
   clear hB hkl
   cases hr:yY nm x with
   |false=>
    rw[hr]at HC
    have HR:=hid (HM.out hr)
    clear hr HM HH
    go_wp2_with fail
    refine HC.out.mono ?_
    rintro e w2 ⟨rfl,hw2⟩
    have HB2:=hid (HBh.out.trans (hw2.mono HBh.out.size))
    clear hw2
    dsimp only
    go_wp2_with fail
    go_roundw
    case rel=>exact⟨k+1,by omega,by go_num,HB2.out,HR.out⟩
    case measure=>simp[intOf];omega
   |true=>
    rw[hr]at HC
    have HR:=hid (Qa (HH.out hr) HLt.out)
    clear hr HM HH
    go_wp2_with fail
    refine HC.out.mono ?_
    rintro e w2 ⟨rfl,hw2⟩
    have HB2:=hid (HBh.out.trans (hw2.mono HBh.out.size))
    clear hw2
    dsimp only
    go_wp2_with fail
    go_ret
    rw[HR.out]
    exact⟨rfl,HB2.out⟩
  ·obtain rfl:k=n:=by omega
   have HR:=hid (Qb (p:=yY nm) (l:=l) (by have h:=HA.out;rw[HNL.out,List.take_length]at h;rw[h]))
   have HBh:=hid hB
   clear hB
   go_wp2_with fail
   go_ret
   rw[HR.out]
   exact⟨rfl,HBh.out⟩
theorem Y9(a:Option Addr)(n cap:Nat)(l:List En)(nm:ByteArray)(g:Nat)(w:World)(hE:Ents a n l w)(hn:n<=1000000)(hg:w.cell? ⟨g,0,none⟩=some (.string nm)):
  Calls prog 153 #[.slice a n cap,.func (.func 214) #[] #[.pointer (some ⟨g,0,none⟩)]] w λe w'=>e= .returned (.int .i64 (ixz (xA nm) l))/\Below w.heap.size w w':=by
 have HNL:=hid hE.count
 have hni:(n:Int)<=1000000:=by omega
 have HE:=hid (λW (hb:Below w.heap.size w W)=>hE.below hb)
 have HG:=hid (show∀W,Below w.heap.size w W->W.cell? ⟨g,0,none⟩=some (.string nm)from λW hb=>(hb.cell (block_lt_of_cell hg)).trans hg)
 have eg: ∀args w,(callFunc 214 args).run prog w= .ok (.enter 214 args) w:=enters_of func214 (by kernel_rfl) rfl
 clear hE hg
 go_enter func153,ntmps153
 go_wp2_with fail
 go_loopw [8] (λv wr=> ∃k:Nat,k<=n/\v= .int .i64 k/\Below w.heap.size w wr/\Hid (Nd.place (xA nm) (l.take k)=k)) (λv _=>n-(intOf v).toNat)
 case atStart=>exact⟨0,Nat.zero_le _,rfl,Below.refl _ _,rfl⟩
 case round=>
  obtain⟨k,hk,rfl,hB,HA⟩:=hrel
  by_cases hlt:k<n
  ·have k0:(k:Int)<(n:Int):=by omega
   have hk0:(0:Int)<=(k:Int):=by omega
   have hkl:k<l.length:=by rw[<-HNL.out];exact hlt
   obtain⟨b,off,rfl,c0,c1⟩:=(HE.out _ hB).cell k hlt
   have HM:=hid (λh=>Nd.place_more (p:=xA nm) (z:=z0) HA.out hkl h)
   have HH:=hid (λh=>Nd.place_hit (p:=xA nm) (z:=z0) HA.out hkl h)
   have HLt:=hid hkl
   generalize l.getD k z0=x at c0 c1 HM HH
   have HC:=hid (za4 x nm g wr (HG.out _ hB))
   have HBh:=hid hB
   clear hB hkl
   cases hr:xA nm x with
   |false=>
    rw[hr]at HC
    have HR:=hid (HM.out hr)
    clear hr HM HH
    go_wp2_with fail
    refine HC.out.mono ?_
    rintro e w2 ⟨rfl,hw2⟩
    have HB2:=hid (HBh.out.trans (hw2.mono HBh.out.size))
    clear hw2
    dsimp only
    go_wp2_with fail
    go_roundw
    case rel=>exact⟨k+1,by omega,by go_num,HB2.out,HR.out⟩
    case measure=>simp[intOf];omega
   |true=>
    rw[hr]at HC
    have HR:=hid (Qa (HH.out hr) HLt.out)
    clear hr HM HH
    go_wp2_with fail
    refine HC.out.mono ?_
    rintro e w2 ⟨rfl,hw2⟩
    have HB2:=hid (HBh.out.trans (hw2.mono HBh.out.size))
    clear hw2
    dsimp only
    go_wp2_with fail
    go_ret
    rw[HR.out]
    exact⟨rfl,HB2.out⟩
  ·obtain rfl:k=n:=by omega
   have HR:=hid (Qb (p:=xA nm) (l:=l) (by have h:=HA.out;rw[HNL.out,List.take_length]at h;rw[h]))
   have HBh:=hid hB
   clear hB
   go_wp2_with fail
   go_ret
   rw[HR.out]
   exact⟨rfl,HBh.out⟩
theorem X5(a:Option Addr)(n cap:Nat)(l:List En)(nm:ByteArray)(g:Nat)(w:World)(hE:Ents a n l w)(hn:n<=1000000)(hg:w.cell? ⟨g,0,none⟩=some (.string nm)):
  Calls prog 188 #[.slice a n cap,.func (.func 198) #[] #[.pointer (some ⟨g,0,none⟩)]] w λe w'=>e= .returned (.bool (Nd.find l nm).isSome)/\Below w.heap.size w w':=by
 have HI:=hid (qr a n cap l nm g w hE hn hg)
 have hf:=Nd.find_is l nm
 clear hE hn hg
 by_cases h:Nd.place (yY nm) l<l.length
 ·have HF:=hid (hf.trans (decide_eq_true h))
  rw[show ixz (yY nm) l=(Nd.place (yY nm) l:Int) by unfold ixz;rw[if_pos h]]at HI
  clear hf h
  generalize Nd.place (yY nm) l=z at HI
  have hz:(0:Int)<=(z:Int):=by omega
  go_enter func188,ntmps188
  go_wp2_with fail
  refine HI.out.mono ?_
  rintro e w1 ⟨rfl,hB⟩
  dsimp only
  go_wp2_with fail
  go_ret
  rw[HF.out]
  exact⟨rfl,hB⟩
 ·have HF:=hid (hf.trans (decide_eq_false h))
  rw[show ixz (yY nm) l= -1 by unfold ixz;rw[if_neg h]]at HI
  clear hf h
  go_enter func188,ntmps188
  go_wp2_with fail
  refine HI.out.mono ?_
  rintro e w1 ⟨rfl,hB⟩
  dsimp only
  go_wp2_with fail
  go_ret
  rw[HF.out]
  exact⟨rfl,hB⟩
structure PF (w:World) (cs:Array Value) (W:World):Prop where
 box:W.heap[w.heap.size]?=some (.cells cs 43 (0,0))
 below:Below w.heap.size w W
theorem PF.kept{w:World}{cs:Array Value}{W W':World}(h:PF w cs W)(hb:Below W.heap.size W W'):PF w cs W':=
 ⟨(hb.block _ (lt_of_obj h.box)).trans h.box,h.below.trans (hb.mono h.below.size)⟩
theorem PF.start(w:World)(cs:Array Value):PF w cs (w.alloc (.cells cs 43)):=⟨heap_alloc_new w _,(Below.refl _ w).alloc (Nat.le_refl _) _⟩
theorem uF{w:World}{cs:Array Value}{v:Value}{W:World}(h:W.cell? ⟨w.heap.size,4,none⟩=some v/\PF w cs W):PF w cs W:=h.2
theorem find_any(k m:Int)(d t:ByteArray)(a:Option Addr)(n cap:Nat)(l:List En)(nm:ByteArray)(w:World)(hE:Ents a n l w)(hn:n<=1000000):
  Calls prog 110 #[nv k m d t a n cap,.string nm] w (vS l nm w):=by
 have HNL:=hid hE.count
 have HE:=hid (λW (hb:Below w.heap.size w W)=>hE.below hb)
 have HIx:=hid (show∀W g g',g'=g->W.cell? ⟨g,0,none⟩=some (.string nm)->Below w.heap.size w W->Calls prog 153 #[.slice a n cap,.func (.func 198) #[] #[.pointer (some ⟨g',0,none⟩)]] W λe w'=>e= .returned (.int .i64 (ixz (yY nm) l))/\Below W.heap.size W w' from λW g g' e hg hb=>by subst e;exact qr a n cap l nm _ W (hE.below hb) hn hg)
 have HP:=hid (PF.start w #[.int .i64 k,.int .i64 m,.string d,.string t,.slice a n cap])
 have HF:=hid (Nd.find_place l nm z0)
 clear hE
 have c4:(w.alloc (.cells #[.int .i64 k,.int .i64 m,.string d,.string t,.slice a n cap] 43)).cell? ⟨w.heap.size,4,none⟩=some (.slice a n cap):=cell_obj HP.out.box 4
 have HPd:=hid (HP.out.kept (Below.refl _ _).drew)
 by_cases h:Nd.place (yY nm) l<l.length
 ·rw[show ixz (yY nm) l=(Nd.place (yY nm) l:Int) by unfold ixz;rw[if_pos h]]at HIx
  have HF2:=hid (HF.out.trans (if_pos h))
  have hln:Nd.place (yY nm) l<n:=by have:=HNL.out;omega
  change Hid (Nd.find l nm=some (l.getD (Nd.place (yY nm) l) z0).2)at HF2
  clear h HF
  obtain⟨b,off,rfl,_,_⟩:=(HE.out _ (Below.refl _ _)).cell _ hln
  have HC:=hid (λW (hb:Below w.heap.size w W)=>(HE.out W hb).cell _ hln)
  generalize Nd.place (yY nm) l=z at*
  generalize l.getD z z0=x at*
  have hz0:(0:Int)<=(z:Int):=by omega
  have hz1:(z:Int)<(n:Int):=by omega
  go_enter func110,ntmps110
  go_wp2_with fail
  go_region_held3 (λW=>W.cell? ⟨w.heap.size,4,none⟩=some (.slice (some ⟨b,off,none⟩) n cap)/\PF w #[.int .i64 k,.int .i64 m,.string d,.string t,.slice (some ⟨b,off,none⟩) n cap] W)
   (first|exact⟨cell_obj HPd.out.box 4,HPd.out⟩|exact⟨cell_obj pB.out.box 4,pB.out⟩|exact⟨cell_obj pA.out.box 4,pA.out⟩|assumption)
   (first
    |(go_at_call 154;(with_reducible refine(xj nm _).mono ?_);rintro e wA ⟨rfl,hcA,hA⟩;have pA:=hid (PF.kept (uF (by assumption)) hA);clear hA)
    |(go_at_call 153;(with_reducible refine(HIx.out _ _ _ (by simp) hcA (PF.below (uF (by assumption)))).mono ?_);rintro e wB ⟨rfl,hB⟩;have pB:=hid (PF.kept (uF (by assumption)) hB);clear hB))
  have cB:wB.cell? ⟨w.heap.size,4,none⟩=some (.slice (some ⟨b,off,none⟩) n cap):=cell_obj pB.out.box 4
  obtain⟨b',off',eb,c0,c1⟩:=HC.out _ pB.out.below
  obtain⟨rfl,rfl⟩:b'=b/\off'=off:=by cases eb;exact⟨rfl,rfl⟩
  go_wp2_with fail
  go_ret2
  show vS l nm w _ _
  unfold vS
  rw[HF2.out]
  exact⟨rfl,pB.out.below⟩
 ·rw[show ixz (yY nm) l= -1 by unfold ixz;rw[if_neg h]]at HIx
  have HF2:=hid (HF.out.trans (if_neg h))
  clear h HF
  go_enter func110,ntmps110
  go_wp2_with fail
  go_region_held3 (λW=>W.cell? ⟨w.heap.size,4,none⟩=some (.slice a n cap)/\PF w #[.int .i64 k,.int .i64 m,.string d,.string t,.slice a n cap] W)
   (first|exact⟨cell_obj HPd.out.box 4,HPd.out⟩|exact⟨cell_obj pB.out.box 4,pB.out⟩|exact⟨cell_obj pA.out.box 4,pA.out⟩|assumption)
   (first
    |(go_at_call 154;(with_reducible refine(xj nm _).mono ?_);rintro e wA ⟨rfl,hcA,hA⟩;have pA:=hid (PF.kept (uF (by assumption)) hA);clear hA)
    |(go_at_call 153;(with_reducible refine(HIx.out _ _ _ (by simp) hcA (PF.below (uF (by assumption)))).mono ?_);rintro e wB ⟨rfl,hB⟩;have pB:=hid (PF.kept (uF (by assumption)) hB);clear hB))
  go_wp2_with fail
  go_ret2
  show vS l nm w _ _
  unfold vS
  rw[HF2.out]
  exact⟨rfl,pB.out.below⟩
structure BR (w:World) (b r:Nat) (cs:Array Value) (W:World):Prop where
 box:W.heap[b]?=some (.cells cs 43 (0,0))
 res:W.heap[r]?=some (.cells zc 43 (0,0))
 lo:w.heap.size<=b/\w.heap.size<=r/\b≠r
 below:Below w.heap.size w W
theorem BR.kept{w:World}{b r:Nat}{cs:Array Value}{W W':World}(h:BR w b r cs W)(hb:Below W.heap.size W W'):BR w b r cs W':=
 ⟨(hb.block _ (lt_of_obj h.box)).trans h.box,(hb.block _ (lt_of_obj h.res)).trans h.res,h.lo,h.below.trans (hb.mono h.below.size)⟩
theorem BR.grown{w:World}{b r:Nat}{cs:Array Value}{W W':World}{row:Option Nat}(h:BR w b r cs W)(hg:W.grownBy W' row)(hrow: ∀k,row=some k->w.heap.size<=k/\k≠b/\k≠r):BR w b r cs W':=
 ⟨grown_obj hg h.box (λe=>(hrow b e.symm).2.1 rfl),grown_obj hg h.res (λe=>(hrow r e.symm).2.2 rfl),h.lo,h.below.grown hg h.below.size (λj hj=>(hrow j hj).1)⟩
theorem BR.set4{w:World}{b r:Nat}{v0 v1 v2 v3 v4:Value}{W:World}(h:BR w b r #[v0,v1,v2,v3,v4] W)(v:Value):BR w b r #[v0,v1,v2,v3,v] (W.setCell ⟨b,4,none⟩ v):=by
 refine⟨by simpa using heap_setCell_same W b 4 _ 43 v h.box, ?_,h.lo,h.below.setCell h.lo.1 _⟩
 rw[heap_setCell_other W ⟨b,4,none⟩ r _ (λe=>h.lo.2.2 e.symm)];exact h.res
theorem BR.set5{w:World}{b r:Nat}{x0 x1 x2 x3 x4:Value}{W:World}(h:BR w b r #[x0,x1,x2,x3,x4] W)(v0 v1 v2 v3 v4:Value):
  BR w b r #[v0,v1,v2,v3,v4] (((((W.setCell ⟨b,0,none⟩ v0).setCell ⟨b,1,none⟩ v1).setCell ⟨b,2,none⟩ v2).setCell ⟨b,3,none⟩ v3).setCell ⟨b,4,none⟩ v4):=by
 have hne:r≠b:=λe=>h.lo.2.2 e.symm
 refine⟨YtabmamofnhcgbaaGreatDoor.set5 _ _ _ _ _ h.box, ?_,h.lo,zI h.below h.lo.1 _ _ _ _ _⟩
 rw[heap_setCell_other _ ⟨b,4,none⟩ r _ hne,heap_setCell_other _ ⟨b,3,none⟩ r _ hne,heap_setCell_other _ ⟨b,2,none⟩ r _ hne,heap_setCell_other _ ⟨b,1,none⟩ r _ hne,heap_setCell_other _ ⟨b,0,none⟩ r _ hne]
 exact h.res
theorem Vf{m:Int}{d t:ByteArray}{l:List En}{nm:ByteArray}(h: ¬ Nd.place (yY nm) l<l.length):Nd.withoutE ⟨2,m,d,t,l⟩ nm=(Nd.none0,4):=by
 unfold Nd.withoutE
 rw[if_neg (by simp),if_pos (by rw[Nd.find_is];exact decide_eq_false h)]
theorem Xt{m:Int}{d t:ByteArray}{l:List En}{nm:ByteArray}(h:Nd.place (yY nm) l<l.length):Nd.withoutE ⟨2,m,d,t,l⟩ nm=(⟨2,m,d,t,l.take (Nd.place (yY nm) l)++l.drop (Nd.place (yY nm) l+1)⟩,0):=by
 unfold Nd.withoutE
 rw[if_neg (by simp),if_neg (by rw[Nd.find_is];show¬ decide (Nd.place (yY nm) l<l.length)=false;rw[decide_eq_true h];simp)]
 show(Nd.Node.mk 2 m d t (Nd.cut l nm),(0:Int))=_
 rw[Nd.cut_place];rfl
theorem Vd(k m:Int)(d t:ByteArray)(a:Option Addr)(n cap:Nat)(l:List En)(nm:ByteArray)(w:World)(hE:Ents a n l w)(hn:n<=100000)(hs: ∀j,j<n->(l.getD j z0).1.size<=100000)(hd:d.size<=100000)(ht:t.size<=100000):
  Calls prog 185 #[nv k m d t a n cap,.string nm] w (vp (Nd.withoutE ⟨k,m,d,t,l⟩ nm) w):=by
 have HNL:=hid hE.count
 have HB0:=hid (show∀x y:Obj,Below w.heap.size w ((w.alloc x).alloc y)from λx y=>((Below.refl _ w).alloc (Nat.le_refl _) _).alloc (by simp) _)
 by_cases e1: ¬ k=2
 ·have HR:=hid (show Nd.withoutE ⟨k,m,d,t,l⟩ nm=(Nd.none0,10) by unfold Nd.withoutE;rw[if_pos e1])
  clear hE hs hd ht
  go_enter func185,ntmps185
  go_wp2_with fail
  refine bodyPost_ret_by (zl rfl _ _ (w.heap.size+1) _ _ _ _ _ rfl (kV _ _ _)) rfl ⟨none,0,by rw[HR.out];rfl,by rw[HR.out];exact zs _,HB0.out _ _⟩
 obtain rfl:=Decidable.not_not.1 e1
 clear e1
 have HIx:=hid (show∀W g g',g'=g->W.cell? ⟨g,0,none⟩=some (.string nm)->Below w.heap.size w W->Calls prog 153 #[.slice a n cap,.func (.func 198) #[] #[.pointer (some ⟨g',0,none⟩)]] W λe w'=>e= .returned (.int .i64 (ixz (yY nm) l))/\Below W.heap.size W w' from λW g g' e hg hb=>by subst e;exact qr a n cap l nm _ W (hE.below hb) (by omega) hg)
 have HOw:=hid (λW (hb:Below w.heap.size w W)=>kG 2 m d t a n cap l W (hE.below hb) hn hs hd ht)
 have HPd:=hid (show PF w #[.int .i64 2,.int .i64 m,.string d,.string t,.slice a n cap] (((w.alloc (.cells #[.int .i64 2,.int .i64 m,.string d,.string t,.slice a n cap] 43)).alloc (.cells #[.int .i64 0,.int .i64 0,.string ⟨#[]⟩,.string ⟨#[]⟩,.slice none 0 0] 43)).drew)from⟨Xw _ _ _,(HB0.out _ _).drew⟩)
 have HRs:=hid (show((((w.alloc (.cells #[.int .i64 2,.int .i64 m,.string d,.string t,.slice a n cap] 43)).alloc (.cells #[.int .i64 0,.int .i64 0,.string ⟨#[]⟩,.string ⟨#[]⟩,.slice none 0 0] 43)).drew).heap[w.heap.size+1]?=some (.cells zc 43 (0,0)))from kV _ _ _)
 have HRn:=hid (show(w.heap.size<=w.heap.size/\w.heap.size<=w.heap.size+1/\w.heap.size≠w.heap.size+1)from⟨Nat.le_refl _,Nat.le_succ _,by omega⟩)
 clear hE hs hd ht
 by_cases h:Nd.place (yY nm) l<l.length
 ·rw[show ixz (yY nm) l=(Nd.place (yY nm) l:Int) by unfold ixz;rw[if_pos h]]at HIx
  have HW:=hid (Xt (m:=m) (d:=d) (t:=t) h)
  have HH:=hid h
  clear h
  generalize Nd.place (yY nm) l=z at*
  have hz0:(0:Int)<=(z:Int):=by omega
  have hzn:z<n:=by have:=HNL.out;have:=HH.out;omega
  have hw1:IntKind.i64.wrap ((z:Int)+1)=(z:Int)+1:=IntWalk.i64_in _ (by omega)
  go_enter func185,ntmps185
  go_wp2_with fail
  go_region_held3 (λW=>W.cell? ⟨w.heap.size,4,none⟩=some (.slice a n cap)/\PF w #[.int .i64 2,.int .i64 m,.string d,.string t,.slice a n cap] W)
   (first|exact⟨cell_obj HPd.out.box 4,HPd.out⟩|exact⟨cell_obj pB.out.box 4,pB.out⟩|exact⟨cell_obj pA.out.box 4,pA.out⟩|assumption)
   (first
    |(go_at_call 154;(with_reducible refine(xj nm _).mono ?_);rintro e wA ⟨rfl,hcA,hA⟩;have pA:=hid (PF.kept (uF (by assumption)) hA);have gA:=hid hA;clear hA)
    |(go_at_call 153;(with_reducible refine(HIx.out _ _ _ (by simp) hcA (PF.below (uF (by assumption)))).mono ?_);rintro e wB ⟨rfl,hB⟩;have pB:=hid (PF.kept (uF (by assumption)) hB);have gB:=hid hB;clear hB))
  have HBR:=hid (show BR w w.heap.size (w.heap.size+1) #[.int .i64 2,.int .i64 m,.string d,.string t,.slice a n cap] wB from⟨pB.out.box,((gB.out.mono (Nat.le_refl _)).block _ (Nat.lt_of_lt_of_le (lt_of_obj HRs.out) gA.out.size)).trans ((gA.out.block _ (lt_of_obj HRs.out)).trans HRs.out),HRn.out,pB.out.below⟩)
  clear HIx HPd HRs
  have HOw1:=hid (HOw.out wB pB.out.below)
  have hRlt:=lt_of_obj HBR.out.res
  have hx:=HBR.out.box
  have x0:wB.cell? ⟨w.heap.size,0,none⟩=some (.int .i64 2):=cell_obj hx 0
  have x1:wB.cell? ⟨w.heap.size,1,none⟩=some (.int .i64 m):=cell_obj hx 1
  have x2:wB.cell? ⟨w.heap.size,2,none⟩=some (.string d):=cell_obj hx 2
  have x3:wB.cell? ⟨w.heap.size,3,none⟩=some (.string t):=cell_obj hx 3
  clear hx
  go_wp2_with fail
  refine HOw1.out.mono ?_
  rintro e w2 ⟨ao,cp,rfl,hown,hw2⟩
  have HBR2:=hid (HBR.out.kept hw2)
  have HO3:=hid (yj hown (g:=w.heap.size) (by omega) (.int .i64 2) (.int .i64 m) (.string d) (.string t) (.slice ao l.length cp))
  have HBR3:=hid (HBR2.out.set5 (.int .i64 2) (.int .i64 m) (.string d) (.string t) (.slice ao l.length cp))
  clear hown hw2 x0 x1 x2 x3 HBR HOw1 HOw
  have hx:=HBR2.out.box
  have x0:w2.cell? ⟨w.heap.size,0,none⟩=some (.int .i64 2):=cell_obj hx 0
  have x1:w2.cell? ⟨w.heap.size,1,none⟩=some (.int .i64 m):=cell_obj hx 1
  have x2:w2.cell? ⟨w.heap.size,2,none⟩=some (.string d):=cell_obj hx 2
  have x3:w2.cell? ⟨w.heap.size,3,none⟩=some (.string t):=cell_obj hx 3
  have x4:w2.cell? ⟨w.heap.size,4,none⟩=some (.slice a n cap):=cell_obj hx 4
  have f0:=xp hx
  clear hx
  dsimp only
  go_wp2_with fail
  refine(Ku wB.heap.size ao cp l z _ HO3.out HH.out (by have:=HNL.out;omega)).mono ?_
  rintro e w5 ⟨ao5,cp5,rfl,hown5,hgr5⟩
  have HBR5:=hid (HBR3.out.grown hgr5 (λk hk=>by have h1:=owns_lt HO3.out k hk;exact⟨by omega,by omega,by omega⟩))
  have HO5:=hid hown5
  clear hown5 hgr5 x0 x1 x2 x3 x4 f0 HBR2 HBR3
  have HBR6:=hid (HBR5.out.set4 (.slice ao5 (l.take z++l.drop (z+1)).length cp5))
  generalize hLen:(l.take z++l.drop (z+1)).length=len5 at*
  have hx:=HBR5.out.box
  have x0:w5.cell? ⟨w.heap.size,0,none⟩=some (.int .i64 2):=cell_obj hx 0
  have x1:w5.cell? ⟨w.heap.size,1,none⟩=some (.int .i64 m):=cell_obj hx 1
  have x2:w5.cell? ⟨w.heap.size,2,none⟩=some (.string d):=cell_obj hx 2
  have x3:w5.cell? ⟨w.heap.size,3,none⟩=some (.string t):=cell_obj hx 3
  have x4:w5.cell? ⟨w.heap.size,4,none⟩=some (.slice ao l.length cp):=cell_obj hx 4
  have f0:=xp hx
  clear hx
  have hr:=HBR5.out.res
  have r0:=yl hr
  have q0:=xp hr
  clear hr
  dsimp only
  go_wp2_with fail
  refine bodyPost_ret_by (zl rfl _ _ (w.heap.size+1) _ _ _ _ _ rfl (YtabmamofnhcgbaaGreatDoor.set5 _ _ _ _ _ HBR6.out.res)) rfl ?_
  unfold vp
  rw[HW.out]
  dsimp only
  rw[hLen]
  have ho5:=HO5.out
  refine⟨ao5,cp5,rfl, ?_,zI HBR6.out.below (Nat.le_succ _) _ _ _ _ _⟩
  rw[<-hLen]at ho5|-
  exact xy (yj (yp ho5 (by omega) 4 _) (by omega) _ _ _ _ _)
 ·rw[show ixz (yY nm) l= -1 by unfold ixz;rw[if_neg h]]at HIx
  have HW:=hid (Vf (m:=m) (d:=d) (t:=t) h)
  clear h HOw
  go_enter func185,ntmps185
  go_wp2_with fail
  go_region_held3 (λW=>W.cell? ⟨w.heap.size,4,none⟩=some (.slice a n cap)/\PF w #[.int .i64 2,.int .i64 m,.string d,.string t,.slice a n cap] W)
   (first|exact⟨cell_obj HPd.out.box 4,HPd.out⟩|exact⟨cell_obj pB.out.box 4,pB.out⟩|exact⟨cell_obj pA.out.box 4,pA.out⟩|assumption)
   (first
    |(go_at_call 154;(with_reducible refine(xj nm _).mono ?_);rintro e wA ⟨rfl,hcA,hA⟩;have pA:=hid (PF.kept (uF (by assumption)) hA);have gA:=hid hA;clear hA)
    |(go_at_call 153;(with_reducible refine(HIx.out _ _ _ (by simp) hcA (PF.below (uF (by assumption)))).mono ?_);rintro e wB ⟨rfl,hB⟩;have pB:=hid (PF.kept (uF (by assumption)) hB);have gB:=hid hB;clear hB))
  have HBR:=hid (show BR w w.heap.size (w.heap.size+1) #[.int .i64 2,.int .i64 m,.string d,.string t,.slice a n cap] wB from⟨pB.out.box,((gB.out.mono (Nat.le_refl _)).block _ (Nat.lt_of_lt_of_le (lt_of_obj HRs.out) gA.out.size)).trans ((gA.out.block _ (lt_of_obj HRs.out)).trans HRs.out),HRn.out,pB.out.below⟩)
  clear HIx HPd HRs
  have hr:=HBR.out.res
  have r0:=yl hr
  have q0:=xp hr
  clear hr
  go_wp2_with fail
  refine bodyPost_ret_by (zl rfl _ _ (w.heap.size+1) _ _ _ _ _ rfl (YtabmamofnhcgbaaGreatDoor.set5 _ _ _ _ _ HBR.out.res)) rfl ⟨none,0,by rw[HW.out];rfl,by rw[HW.out];exact zs _,zI HBR.out.below (Nat.le_succ _) _ _ _ _ _⟩
end Go.Proofs.YtabmamofnhcgbaaGreatDoor
namespace Go.Proofs.YtabmamofnhcgbaaGreatDoor
open Go
theorem qT(s:ByteArray)(pos:Nat)(h:pos<s.size)(ha:128<=(s[pos]'h).toNat):
  pos+(Utf8.decode s pos).2<=s.size/\(∀k,k<(Utf8.decode s pos).2->128<=(s.get! (pos+k)).toNat)/\Utf8.valid (Utf8.decode s pos).1=true:=by
 have e0:s.get! (pos+0)=s[pos]'h:=get_at s pos h
 have hn: ¬ (s[pos]'h).toNat<128:=by omega
 have one: ∀k,k<1->128<=(s.get! (pos+k)).toNat:=λk hk=>by
  obtain rfl:k=0:=by omega
  rw[e0];exact ha
 unfold Utf8.decode
 simp only[e0,if_neg hn]
 have bad:pos+(Utf8.runeError,1).2<=s.size/\(∀k,k<(Utf8.runeError,1).2->128<=(s.get! (pos+k)).toNat)/\Utf8.valid ((Utf8.runeError,1).1:Nat)=true:=⟨h,one,by decide⟩
 split
 ·rename_i hc
  simp only[Bool.and_eq_true,decide_eq_true_eq,beq_iff_eq]at hc
  split
  ·refine⟨by show pos+2<=s.size;omega,λk hk=> ?_, ?_⟩
   ·have hk:k<2:=hk
    rcases Nat.lt_or_ge k 1 with h1|h1
    ·exact one k h1
    ·obtain rfl:k=1:=by omega
     omega
   ·unfold Utf8.valid
    simp only[Bool.or_eq_true,Bool.and_eq_true,decide_eq_true_eq]
    left;omega
  ·exact bad
 ·split
  ·rename_i hc
   simp only[Bool.and_eq_true,decide_eq_true_eq,beq_iff_eq]at hc
   split
   ·rename_i hv
    simp only[Bool.and_eq_true,decide_eq_true_eq]at hv
    refine⟨by show pos+3<=s.size;omega,λk hk=> ?_,hv.2⟩
    have hk:k<3:=hk
    rcases Nat.lt_or_ge k 1 with h1|h1
    ·exact one k h1
    ·rcases Nat.lt_or_ge k 2 with h2|h2
     ·obtain rfl:k=1:=by omega
      omega
     ·obtain rfl:k=2:=by omega
      omega
   ·exact bad
  ·split
   ·rename_i hc
    simp only[Bool.and_eq_true,decide_eq_true_eq,beq_iff_eq]at hc
    split
    ·rename_i hv
     simp only[Bool.and_eq_true,decide_eq_true_eq]at hv
     refine⟨by show pos+4<=s.size;omega,λk hk=> ?_,hv.2⟩
     have hk:k<4:=hk
     rcases Nat.lt_or_ge k 1 with h1|h1
     ·exact one k h1
     ·rcases Nat.lt_or_ge k 2 with h2|h2
      ·obtain rfl:k=1:=by omega
       omega
      ·rcases Nat.lt_or_ge k 3 with h3|h3
       ·obtain rfl:k=2:=by omega
        omega
       ·obtain rfl:k=3:=by omega
        omega
    ·exact bad
   ·exact bad
theorem U3{n:Nat}(h:Utf8.valid (n:Int)=true):n<55296\/(57343<n/\n<=1114111):=by
 unfold Utf8.valid at h
 simp only[Bool.or_eq_true,Bool.and_eq_true,decide_eq_true_eq]at h
 omega
theorem Uz{n:Nat}(h:128<=n)(hv:Utf8.valid (n:Int)=true):(∃a b:UInt8,Utf8.encode (n:Int)=⟨#[a,b]⟩/\128<=b.toNat)\/3<=(Utf8.encode (n:Int)).size:=by
 unfold Utf8.encode
 rw[if_pos hv]
 have e:(n:Int).toNat=n:=Int.toNat_natCast n
 simp only[e]
 rw[if_neg (by omega)]
 split
 ·left
  refine⟨_,_,rfl, ?_⟩
  simp only[UInt8.toNat_ofNat']
  omega
 ·right
  split
  ·show 3<=(3:Nat);omega
  ·show 3<=(4:Nat);omega
end Go.Proofs.YtabmamofnhcgbaaGreatDoor
namespace Go.Proofs.YtabmamofnhcgbaaGreatDoor
open Go.RowKit
theorem ib50(s:ByteArray)(c:Int)(w:World):Calls prog 246 #[.string s,.int .u8 c] w λe w'=>e= .returned (.int .i64 (Lib.indexByte s.data.toList c.toNat.toUInt8))/\w'=w:=by
 go_enter func246,ntmps246
 go_wp2
 rw[run_callFunc_extern func265 (by kernel_rfl) (by kernel_rfl) (by kernel_rfl) (e:=Extern.BytealgIndexByte.indexByte) (by kernel_rfl),Lib.run_indexByteString]
 simp only[Result.andThen]
 rw[Oper.upon_value]
 go_wp2
 go_ret
 exact⟨rfl,rfl⟩
theorem ib46(s:ByteArray)(c:Int)(w:World):Calls prog 261 #[.string s,.int .u8 c] w λe w'=>e= .returned (.int .i64 (Lib.indexByte s.data.toList c.toNat.toUInt8))/\w'=w:=by
 go_enter func261,ntmps261
 go_wp2_with fail
 refine(ib50 s c _).mono ?_
 rintro e w1 ⟨rfl,rfl⟩
 dsimp only
 go_wp2_with fail
 go_ret
 exact⟨rfl,rfl⟩
def two(x:Nat):Bool:=x==47||x==0
theorem ib_two{n:Nat}(h:n<128):(0<=Lib.indexByte [47,0] ((n:Int).toNat.toUInt8))↔two n=true:=by
 have hc: ∀k:Fin 128,(0<=Lib.indexByte [47,0] (((k.val:Nat):Int).toNat.toUInt8))↔two k.val=true:=by decide
 exact hc ⟨n,h⟩
theorem zbX(n:Nat)(h:n<128)(w:World):Calls prog 234 #[.string ⟨#[47,0]⟩,.int .i32 (n:Int)] w λe w'=>(∃z:Int,e= .returned (.int .i64 z)/\(0<=z↔two n=true))/\Below w.heap.size w w':=by
 have h2:=ib_two h
 have h0:(0:Int)<=(n:Int):=by omega
 have h1:(n:Int)<128:=by omega
 go_enter func234,ntmps234
 go_wp2_with (go_at_call 261;refine(ib46 _ _ _).mono ?_;rintro e w1 ⟨rfl,hw⟩;rw[hw])
 go_ret
 refine⟨⟨_,rfl, ?_⟩,Below.refl _ _⟩
 have e1:(n:Int).toNat=n:=Int.toNat_natCast n
 rw[e1]at h2
 simpa using h2
theorem UM{B:Nat}{a w:World}(h:Below B a w)(n:Nat):Below B a (w.drewN n):=h.trans ⟨rfl,rfl,rfl,Nat.le_refl _,λ_ _=>rfl⟩
theorem zbY(w:World):Calls prog 234 #[.string ⟨#[47,0]⟩,.int .i32 65533] w λe w'=>(∃z:Int,e= .returned (.int .i64 z)/\z<0)/\Below w.heap.size w w':=by
 have hn0:=λty=>run_next_ascii (P:=prog) w ⟨#[47,0]⟩ 0 ty (by decide) (by decide)
 have hn1:=λty=>run_next_ascii (P:=prog) w ⟨#[47,0]⟩ 1 ty (by decide) (by decide)
 have hn2:=λty=>run_next_end (P:=prog) w ⟨#[47,0]⟩ 2 ty (by decide)
 go_enter func234,ntmps234
 go_wp2
 go_loopg [5,6] 2 (λg _ _ wx=>(g=2/\wx=w.iter ⟨#[47,0]⟩ 0)\/(g=1/\wx=w.iter ⟨#[47,0]⟩ 1)\/(g=0/\wx=w.iter ⟨#[47,0]⟩ 2))
 case atStart=>exact Or.inl ⟨rfl,rfl⟩
 case round=>
  rcases hrel with ⟨rfl,rfl⟩|⟨rfl,rfl⟩|⟨rfl,rfl⟩
  ·go_wp2
   go_roundg 1
   case measure=>omega
   case rel=>exact Or.inr (Or.inl ⟨rfl,rfl⟩)
  ·go_wp2
   go_roundg 0
   case measure=>omega
   case rel=>exact Or.inr (Or.inr ⟨rfl,rfl⟩)
  ·go_wp2
   go_ret
   exact⟨⟨_,rfl,by decide⟩,(Below.refl _ _).alloc (Nat.le_refl _) _⟩
theorem Qw(n:Nat)(hv:Utf8.valid (n:Int)=true)(w:World):Calls prog 262 #[.int .i32 (n:Int)] w λe w'=>e= .returned (.bool true)/\w'=w:=by
 have h0:(0:Int)<=(n:Int):=by omega
 rcases U3 hv with hr|hr
 ·have h3:(n:Int)<55296:=by omega
  go_enter func262,ntmps262
  go_wp2
  go_ret
  exact⟨rfl,rfl⟩
 ·have h3: ¬ (n:Int)<55296:=by omega
  have h4:(57343:Int)<(n:Int):=by omega
  have h5:(n:Int)<=1114111:=by omega
  go_enter func262,ntmps262
  go_wp2
  go_ret
  exact⟨rfl,rfl⟩
theorem QY(n:Nat)(h:128<=n)(hv:Utf8.valid (n:Int)=true)(hne:n≠65533)(w:World):Calls prog 234 #[.string ⟨#[47,0]⟩,.int .i32 (n:Int)] w λe w'=>(∃z:Int,e= .returned (.int .i64 z)/\z<0)/\Below w.heap.size w w':=by
 have HV:=hid (λw=>Qw n hv w)
 have HE:=hid (Uz h hv)
 have h0:(0:Int)<=(n:Int):=by omega
 have h1: ¬ (n:Int)<128:=by omega
 have h2:((n:Int)==65533)=false:=by rw[beq_eq_false_iff_ne];omega
 clear hv hne h
 generalize (n:Int)=r at*
 rcases HE.out with ⟨a,b,he,hb⟩|he
 ·have HF:=hid he
  clear he HE
  go_enter func234,ntmps234
  go_wp2_with fail
  refine(HV.out _).mono ?_
  rintro e w1 ⟨rfl,rfl⟩
  dsimp only
  go_wp2_with fail
  refine wp_scope_straight ?_
  go_wp2_with fail
  rw[HF.out,show wrap64 (((⟨#[a,b]⟩:ByteArray).size:Int)-1)=1 from IntWalk.wrap64_in 1 ⟨by decide,by decide⟩]
  go_loopw [9] (λv9 wx=>v9= .int .i64 1/\wx=w1) (λ_ _=>0)
  case atStart=>exact⟨rfl,rfl⟩
  case round=>
   obtain⟨rfl,rfl⟩:=hrel
   go_wp2_with fail
   refine wp_scope_straight ?_
   go_wp2_with fail
   have hbi: ¬ (b.toNat:Int)=0:=by omega
   have hbj: ¬ ((((⟨#[47,0]⟩:ByteArray)[1]'(by decide)).toNat:Int)=(((⟨#[a,b]⟩:ByteArray)[1]'(Nat.lt_succ_self 1)).toNat:Int)):=λh=>hbi h.symm
   have hbk:((((⟨#[47,0]⟩:ByteArray)[1]'(by decide)).toNat:Int) !=(((⟨#[a,b]⟩:ByteArray)[1]'(Nat.lt_succ_self 1)).toNat:Int))=true:=bne_iff_ne.2 hbj
   have hw2:IntKind.i64.wrap 2=2:=by decide
   go_quiet (fail)
   go_wp2_with fail
   have HI:=hid (λw=>show Calls prog 261 #[.string ByteArray.empty,.int .u8 (b.toNat:Int)] w λe w'=>e= .returned (.int .i64 (-1))/\w'=w from ib46 ByteArray.empty (b.toNat:Int) w)
   go_quiet (first|(go_at_call 261;refine(HI.out _).mono ?_;rintro e w2 ⟨rfl,rfl⟩;exact⟨rfl,_,rfl⟩))
   go_wp2_with fail
   simp+zetaDelta only[Exit.noGoto,Exit.inBlock,Exit.then]
   go_ret
   exact⟨⟨_,rfl,by decide⟩,UM (Below.refl _ _) _⟩
 ·have HF:=hid he
  clear he HE
  go_enter func234,ntmps234
  go_wp2_with fail
  refine(HV.out _).mono ?_
  rintro e w1 ⟨rfl,rfl⟩
  dsimp only
  go_wp2_with fail
  refine wp_scope_straight ?_
  go_wp2_with fail
  have hz:wrap64 ((Utf8.encode r).size-1)=((Utf8.encode r).size:Int)-1:=IntWalk.wrap64_in _ ⟨by have h7:=HF.out;have:=encode_size_le r;omega,by have h7:=HF.out;have:=encode_size_le r;omega⟩
  rw[hz]
  have hge: ¬ ((Utf8.encode r).size:Int)-1<2:=by have:=HF.out;omega
  generalize ((Utf8.encode r).size:Int)-1=z at*
  clear hz
  go_loopw [9] (λv9 wx=>v9= .int .i64 z/\wx=w1) (λ_ _=>0)
  case atStart=>exact⟨rfl,rfl⟩
  case round=>
   obtain⟨rfl,rfl⟩:=hrel
   go_wp2_with fail
   go_ret
   exact⟨⟨_,rfl,by decide⟩,Below.refl _ _⟩
theorem Zj{n:Nat}(h:128<=n):two n=false:=by
 unfold two
 rw[Bool.or_eq_false_iff,beq_eq_false_iff_ne,beq_eq_false_iff_ne]
 omega
theorem zbZ(n:Nat)(hn:n<128\/(128<=n/\Utf8.valid (n:Int)=true))(w:World):Calls prog 234 #[.string ⟨#[47,0]⟩,.int .i32 (n:Int)] w λe w'=>(∃z:Int,e= .returned (.int .i64 z)/\(0<=z↔two n=true))/\Below w.heap.size w w':=by
 rcases hn with h|⟨h,hv⟩
 ·exact zbX n h w
 ·have ht: ∀z:Int,z<0->(0<=z↔two n=true):=λz hz=>by rw[Zj h];constructor;(intro h5;omega);(intro h5;cases h5)
  by_cases he:n=65533
  ·subst he
   exact(zbY w).mono λe w' h5=>by obtain⟨⟨z,h6,h7⟩,h8⟩:=h5;exact⟨⟨z,h6,ht z h7⟩,h8⟩
  ·exact(QY n h hv he w).mono λe w' h5=>by obtain⟨⟨z,h6,h7⟩,h8⟩:=h5;exact⟨⟨z,h6,ht z h7⟩,h8⟩
def UU(s:ByteArray)(i:Nat):Prop:= ∀j,j<i->two (s.get! j).toNat=false
theorem ZY{s:ByteArray}{i:Nat}(h:i<s.size):s.get! i=s[i]'h:=by
 have:=get_at s i h
 rwa [Nat.add_zero]at this
theorem zdx{s:ByteArray}{i:Nat}(h:i<s.size):((Utf8.decode s i).1<128\/(128<=(Utf8.decode s i).1/\Utf8.valid ((Utf8.decode s i).1:Int)=true))/\1<=(Utf8.decode s i).2/\i+(Utf8.decode s i).2<=s.size:=by
 by_cases ha:(s[i]'h).toNat<128
 ·rw[decode_ascii s i h ha];exact⟨.inl ha,Nat.le_refl _,h⟩
 ·have ha:128<=(s[i]'h).toNat:=by omega
  have h1:=decode_high s i h ha
  have h2:=qT s i h ha
  exact⟨.inr ⟨h1.1,h2.2.2⟩,h1.2,h2.1⟩
theorem ze5{s:ByteArray}{i:Nat}(h:i<s.size)(ht:two (Utf8.decode s i).1=true):two (s.get! i).toNat=true:=by
 by_cases ha:(s[i]'h).toNat<128
 ·rw[decode_ascii s i h ha]at ht;rw[ZY h];exact ht
 ·have h1:=decode_high s i h (by omega)
  rw[Zj h1.1]at ht;cases ht
theorem zdw{s:ByteArray}{i:Nat}(h:i<s.size)(hN:UU s i)(ht:two (Utf8.decode s i).1=false):UU s (i+(Utf8.decode s i).2):=by
 intro j hj
 rcases Nat.lt_or_ge j i with h1|h1
 ·exact hN j h1
 by_cases ha:(s[i]'h).toNat<128
 ·rw[decode_ascii s i h ha]at ht hj
  have hj:j<i+1:=hj
  obtain rfl:j=i:=by omega
  rw[ZY h];exact ht
 ·have h2:=qT s i h (by omega)
  have h3:=h2.2.1 (j-i) (by omega)
  rw[show i+(j-i)=j from by omega]at h3
  exact Zj h3
def ja(s:ByteArray):Bool:=s.data.toList.any λx=>two x.toNat
theorem Xc{s:ByteArray}(h:UU s s.size):ja s=false:=by
 unfold ja
 rw[List.any_eq_false]
 intro x hx
 obtain⟨i,hi,rfl⟩:=List.getElem_of_mem hx
 rw[Array.length_toList]at hi
 have hi:i<s.size:=hi
 have h1:=h i hi
 rw[ZY hi]at h1
 rw[Array.getElem_toList]
 intro h2
 exact Bool.noConfusion (h1.symm.trans h2)
theorem ZV{s:ByteArray}{i:Nat}(hi:i<s.size)(h:two (s.get! i).toNat=true):ja s=true:=by
 unfold ja
 rw[List.any_eq_true]
 rw[ZY hi]at h
 exact⟨s[i]'hi,Array.getElem_mem_toList (xs:=s.data) hi,h⟩
theorem Zr(n:Int)(w:World):Calls prog 235 #[.int .i64 n] w λe w'=>e= .returned (.bool (decide (8<n)))/\w'=w:=by
 go_enter func235,ntmps235
 go_wp2
 go_ret
 exact⟨rfl,rfl⟩
def zdX(s:ByteArray)(w:World)(e:Ending)(w':World):Prop:=(∃z:Int,e= .returned (.int .i64 z)/\(0<=z↔ja s=true))/\Below w.heap.size w w'
theorem zbj(s:ByteArray)(w:World)(h8:s.size<=8):Calls prog 205 #[.string s,.string ⟨#[47,0]⟩] w (zdX s w):=by
 have h8z:decide ((8:Int)<(s.size:Int))=false:=decide_eq_false (by omega)
 go_enter func205,ntmps205
 go_wp2_with fail
 refine(Zr _ _).mono ?_
 rintro e w1 ⟨rfl,rfl⟩
 rw[h8z]
 dsimp only
 go_wp2_with fail
 go_loopg [9,10] s.size (λg _ _ wx=> ∃i:Nat,i+g=s.size/\wx.heap[w1.heap.size]?=some (.stringIter s i)/\Below w1.heap.size w1 wx/\UU s i)
 case atStart=>exact⟨0,by omega,World.iter_heap _ _ _,(Below.refl _ _).alloc (Nat.le_refl _) _,λj hj=>by omega⟩
 case round=>
  obtain⟨i,hig,hit,hB,hno⟩:=hrel
  have HN:=hid hno
  clear hno h8 h8z
  generalize hk:w1.heap.size=k at*
  cases gk with
  |zero=>
   obtain rfl:i=s.size:=by omega
   have hnx:=λty=>Lib.run_next_end_at (P:=prog) _ k s s.size ty hit (by omega)
   go_wp2
   go_ret
   exact⟨⟨_,rfl,by rw[Xc HN.out];decide⟩,hk▸hB⟩
  | succ g=>
   have hi:i<s.size:=by omega
   have hnx:=λty=>Lib.run_next_any_at (P:=prog) _ k s i ty hit hi
   have hkn:=zdx hi
   have HH:=hid (ze5 hi)
   have HS:=hid (zdw hi HN.out)
   have hit2:=Lib.iterAt_heap _ k s i (i+(Utf8.decode s i).2) hit
   have hB2:=Lib.below_iterAt hB (Nat.le_refl k) s (i+(Utf8.decode s i).2)
   have hk2:=(Array.getElem?_eq_some_iff.1 hit2).1
   generalize Utf8.decode s i=d at*
   obtain⟨r,n⟩:=d
   dsimp only at*
   have HR:=hid (λw=>zbZ r hkn.1 w)
   have hn1:=hkn.2.1
   have hn2:=hkn.2.2
   clear hkn
   go_wp2_with fail
   refine(HR.out _).mono ?_
   rintro e w3 ⟨⟨z,rfl,hz⟩,hw3⟩
   dsimp only
   have hB3:=hB2.trans (hw3.mono (Nat.le_of_lt hk2))
   have hit3:=(hw3.block k hk2).trans hit2
   clear hB2 hw3 hit2 hnx hB hit
   by_cases hz0:0<=z
   ·have HT:=hid (hz.1 hz0)
    clear hz
    go_wp2_with fail
    go_ret
    exact⟨⟨_,rfl,by rw[ZV hi (HH.out HT.out)];simp⟩,hk▸hB3⟩
   ·have HT:=hid (show two r=false from Bool.eq_false_iff.2 λh=>hz0 (hz.2 h))
    clear hz
    go_wp2_with fail
    go_roundg (s.size-(i+n))
    case measure=>omega
    case rel=>exact⟨i+n,by omega,hit3,hB3,HS.out HT.out⟩
theorem low2: ∀(j:Nat) b,(⟨#[47,0]⟩:ByteArray).data.toList[j]?=some b->b.toNat<128:=by
 intro j b h
 match j,h with
 |0,h=>cases h;decide
 |1,h=>cases h;decide
 |j+2,h=>simp at h
def cells2:Array Value:=Lib.setCells [47,0]
theorem zcK(w:World):Calls prog 236 #[.string ⟨#[47,0]⟩] w λe w'=>e= .returned (.tuple #[.agg cells2,.bool true])/\w'=w.alloc (.cells cells2 288):=
 Any.strings_makeASCIISet lays227 (Go.zero_of_info info68).1 (Go.zero_of_info info68).2 ⟨#[47,0]⟩ w (by decide) low2
theorem Xb(b:Nat)(x:UInt8)(v:Bool)(w:World)(h:w.cell? ⟨b,x.toNat,none⟩=some (.bool v)):Calls prog 237 #[.pointer (some ⟨b,0,none⟩),.int .u8 x.toNat] w λe w'=>e= .returned (.bool v)/\w'=w:=
 Any.asciiSet_contains lays228 b x v w h
theorem qU:cells2.size=256:=Lib.setCells_size _
theorem two_is(x:UInt8):([47,0]:List UInt8).contains x=two x.toNat:=by
 have h: ∀k:Fin 256,([47,0]:List UInt8).contains (UInt8.ofNat k.val)=two (UInt8.ofNat k.val).toNat:=by decide+kernel
 have:=h ⟨x.toNat,x.toNat_lt⟩
 simpa using this
theorem za6(w:World)(x:UInt8):(w.alloc (.cells cells2 288)).cell? ⟨w.heap.size,x.toNat,none⟩=some (.bool (two x.toNat)):=by
 rw[World.cell?_alloc_at _ _ _ _ rfl,<-two_is]
 exact Lib.setCells_at _ _
theorem zeros_size:Tryz.zeroCells288.size=256:=by kernel_rfl
theorem fill68(w:World):(storeCells ⟨w.heap.size,0,none⟩ cells2.toList 0).run prog (w.alloc (.cells Tryz.zeroCells288 288))= .ok () (w.alloc (.cells cells2 288)):=
 run_storeCells_new w 288 Tryz.zeroCells288 cells2 (by rw[qU];exact(Go.zero_of_info info68).2) (by rw[qU];exact zeros_size) (Lib.setCells_one _)
theorem zdU(s:ByteArray)(w:World)(h8:8<s.size)(hs:s.size<=100):Calls prog 205 #[.string s,.string ⟨#[47,0]⟩] w (zdX s w):=by
 have h8z:decide ((8:Int)<(s.size:Int))=true:=decide_eq_true (by omega)
 go_enter func205,ntmps205
 go_wp2_with fail
 refine(Zr _ _).mono ?_
 rintro e w1 ⟨rfl,rfl⟩
 rw[h8z]
 dsimp only
 go_wp2_with fail
 refine(zcK _).mono ?_
 rintro e w2 ⟨rfl,rfl⟩
 dsimp only
 go_wp2_with fail
 have hsc:(storeCells ⟨w1.heap.size+1,0,none⟩ cells2.toList 0).run prog ((w1.alloc (.cells cells2 288)).alloc (.cells Tryz.zeroCells288 288))= .ok () ((w1.alloc (.cells cells2 288)).alloc (.cells cells2 288)):=by
  have h:=fill68 (w1.alloc (.cells cells2 288))
  rw[World.size_alloc]at h
  exact h
 rw[hsc]
 simp only[Result.andThen]
 rw[Oper.upon_skip]
 go_wp2_with fail
 have hcell: ∀x:UInt8,((w1.alloc (.cells cells2 288)).alloc (.cells cells2 288)).cell? ⟨w1.heap.size+1,x.toNat,none⟩=some (.bool (two x.toNat)):=λx=>by
  have h:=za6 (w1.alloc (.cells cells2 288)) x
  rw[World.size_alloc]at h
  exact h
 have HC:=hid hcell
 have HB:RowKit.Hid (Below w1.heap.size w1 ((w1.alloc (.cells cells2 288)).alloc (.cells cells2 288))):=((Below.refl _ _).alloc (Nat.le_refl _) _).alloc (by rw[World.size_alloc];omega) _
 clear hsc hcell
 generalize (w1.alloc (.cells cells2 288)).alloc (.cells cells2 288)=w2 at*
 go_loopg [8] s.size (λg s8 wx=> ∃i:Nat,i+g=s.size/\s8= .int .i64 i/\wx=w2/\UU s i)
 case atStart=>exact⟨0,by omega,rfl,rfl,λj hj=>by omega⟩
 case round=>
  obtain⟨i,hig,rfl,rfl,hno⟩:=hrel
  have HN:=hid hno
  clear hno
  cases gk with
  |zero=>
   obtain rfl:i=s.size:=by omega
   have hiz: ¬ ((s.size:Int)<(s.size:Int)):=by omega
   go_wp2_with fail
   go_ret
   exact⟨⟨_,rfl,by rw[Xc HN.out];decide⟩,HB.out⟩
  | succ g=>
   have hi:i<s.size:=by omega
   have hiz:(i:Int)<(s.size:Int):=by omega
   have HG:=hid (ZY hi)
   cases ht:two (s[i]'hi).toNat with
   | false=>
    have HX:=hid (Xb (w1.heap.size+1) (s[i]'hi) false _ (ht▸HC.out (s[i]'hi)))
    have HT:=hid ht
    clear ht
    go_wp2_with fail
    refine HX.out.mono ?_
    rintro e w3 ⟨rfl,rfl⟩
    dsimp only
    go_wp2_with fail
    go_roundg g
    case measure=>omega
    case rel=>
     refine⟨i+1,by omega,by first|rfl|simp,rfl,λj hj=> ?_⟩
     rcases Nat.lt_or_ge j i with h1|h1
     ·exact HN.out j h1
     ·obtain rfl:j=i:=by omega
      rw[HG.out];exact HT.out
   |true=>
    have HX:=hid (Xb (w1.heap.size+1) (s[i]'hi) true _ (ht▸HC.out (s[i]'hi)))
    have HT:=hid ht
    clear ht
    go_wp2_with fail
    refine HX.out.mono ?_
    rintro e w3 ⟨rfl,rfl⟩
    dsimp only
    go_wp2_with fail
    go_ret
    exact⟨⟨_,rfl,by rw[ZV hi (by rw[HG.out];exact HT.out)];simp⟩,HB.out⟩
theorem zfj(s:ByteArray)(w:World)(hs:s.size<=100):Calls prog 205 #[.string s,.string ⟨#[47,0]⟩] w (zdX s w):=by
 by_cases h8:s.size<=8
 ·exact zbj s w h8
 ·exact zdU s w (by omega) hs
theorem X4(s:ByteArray)(w:World)(hs:s.size<=100):Calls prog 167 #[.string s,.string ⟨#[47,0]⟩] w λe w'=>e= .returned (.bool (ja s))/\Below w.heap.size w w':=by
 go_enter func167,ntmps167
 go_wp2_with fail
 refine(zfj s _ hs).mono ?_
 rintro e w1 ⟨⟨z,rfl,hz⟩,hB⟩
 dsimp only
 have HZ:=hid hz
 clear hz
 by_cases h0:0<=z
 ·go_wp2_with fail
  go_ret
  refine⟨?_,hB⟩
  rw[HZ.out.1 h0]
  simp
 ·go_wp2_with fail
  go_ret
  refine⟨?_,hB⟩
  rw[show ja s=false from Bool.eq_false_iff.2 λh=>by have:=HZ.out.2 h;omega]
  simp
end Go.Proofs.YtabmamofnhcgbaaGreatDoor
namespace Go.Proofs.YtabmamofnhcgbaaGreatDoor
open Go.RowKit
attribute [local go_sem 9000] xq vD
theorem Ke(s:ByteArray):(s.data.toList.all λx=>x !=47&&x !=0)= !ja s:=by
 unfold ja
 induction s.data.toList with
 |nil=>rfl
 | cons x l ih=>
  rw[List.all_cons,List.any_cons,ih]
  have h:(x !=47&&x !=0)= !two x.toNat:=by
   have h: ∀k:Fin 256,(UInt8.ofNat k.val !=47&&UInt8.ofNat k.val !=0)= !two (UInt8.ofNat k.val).toNat:=by decide+kernel
   have:=h ⟨x.toNat,x.toNat_lt⟩
   simpa using this
  rw[h,Bool.not_or]
theorem Jx(s:ByteArray)(h1:yb s ⟨#[]⟩=false)(h2:s.size<=16)(h3:yb s ⟨#[46]⟩=false)(h4:yb s ⟨#[46,46]⟩=false):Nm.right s.data.toList= !ja s:=by
 have hne: ∀l:List UInt8,yb s ⟨l.toArray⟩=false->s.data.toList≠l:=λl h e=>by
  unfold yb at h
  have h:=of_decide_eq_false h
  exact h (Go.WideShapes.bytes_inj e)
 have hl:s.data.toList.length=s.size:=Array.length_toList
 unfold Nm.right
 rw[Ke,hl]
 have e1:decide (1<=s.size)=true:=decide_eq_true (by
  have:=hne [] h1
  rcases Nat.eq_zero_or_pos s.size with h|h
  ·exact absurd (List.eq_nil_of_length_eq_zero (hl.trans h)) this
  ·exact h)
 have e2:decide (s.size<=16)=true:=decide_eq_true h2
 have e3:(s.data.toList !=[46])=true:=bne_iff_ne.2 (hne [46] h3)
 have e4:(s.data.toList !=[46,46])=true:=bne_iff_ne.2 (hne [46,46] h4)
 rw[e1,e2,e3,e4]
 simp
theorem Jw(s:ByteArray)(h:yb s ⟨#[]⟩=true\/16<s.size\/yb s ⟨#[46]⟩=true\/yb s ⟨#[46,46]⟩=true):Nm.right s.data.toList=false:=by
 have he: ∀t,yb s t=true->s=t:=λt h=>of_decide_eq_true h
 rcases h with h|h|h|h
 ·rw[he _ h];rfl
 ·have hl:s.data.toList.length=s.size:=Array.length_toList
  unfold Nm.right
  rw[hl,show decide (s.size<=16)=false from decide_eq_false (by omega)]
  simp
 ·rw[he _ h];decide
 ·rw[he _ h];decide
theorem ud(s:ByteArray)(w:World)(hs:s.size<=140737488355328):Calls prog 127 #[.string s] w λe w'=>e= .returned (.bool (Nm.right s.data.toList))/\Below w.heap.size w w':=by
 have HN:=hid (Jw s)
 have HY:=hid (Jx s)
 generalize hR:Nm.right s.data.toList=R at*
 clear hR
 cases h1:yb s ⟨#[]⟩with
 |true=>
  obtain rfl:=HN.out (.inl h1)
  clear HN HY
  go_enter func127,ntmps127
  go_wp2_with fail
  go_ret
  exact⟨rfl,Below.refl _ _⟩
 | false=>
  by_cases h2:s.size<=16
  ·have h2i: ¬ (16:Int)<(s.size:Int):=by omega
   cases h3:yb s ⟨#[46]⟩with
   |true=>
    obtain rfl:=HN.out (.inr (.inr (.inl h3)))
    clear HN HY
    go_enter func127,ntmps127
    go_wp2_with fail
    go_ret
    exact⟨rfl,Below.refl _ _⟩
   | false=>
    cases h4:yb s ⟨#[46,46]⟩with
    |true=>
     obtain rfl:=HN.out (.inr (.inr (.inr h4)))
     clear HN HY
     go_enter func127,ntmps127
     go_wp2_with fail
     go_ret
     exact⟨rfl,Below.refl _ _⟩
    |false=>
     obtain rfl:=HY.out h1 h2 h3 h4
     have HC:=hid (X4 s w (by omega))
     clear HN HY
     go_enter func127,ntmps127
     go_wp2_with fail
     refine HC.out.mono ?_
     rintro e w1 ⟨rfl,hB⟩
     dsimp only
     go_wp2_with fail
     go_ret
     exact⟨rfl,hB⟩
  ·have h2i:(16:Int)<(s.size:Int):=by omega
   obtain rfl:=HN.out (.inr (.inl (by omega)))
   clear HN HY
   go_enter func127,ntmps127
   go_wp2_with fail
   go_ret
   exact⟨rfl,Below.refl _ _⟩
end Go.Proofs.YtabmamofnhcgbaaGreatDoor
namespace Go.Proofs.YtabmamofnhcgbaaGreatDoor
open Go.RowKit Go.Less
attribute [local go_sem 9000] zg zf zz zA zB zC
theorem xT(s:ByteArray)(w:World)(hs:s.size<=140737488355328):Calls prog 212 #[.string s] w λe w'=>e= .returned (.bool (Nm.right s.data.toList))/\Below w.heap.size w w':=by
 go_enter func212,ntmps212
 go_wp2_with fail
 refine(ud s _ hs).mono ?_
 rintro e w1 ⟨rfl,hB⟩
 dsimp only
 go_wp2_with fail
 go_ret
 exact⟨rfl,hB⟩
structure BW (w:World) (cs:Array Value) (nm:ByteArray) (W:World):Prop where
 br:BR w w.heap.size (w.heap.size+2) cs W
 nmc:W.heap[w.heap.size+1]?=some (.cells #[.string nm] 9 (0,0))
theorem BW.kept{w:World}{cs:Array Value}{nm:ByteArray}{W W':World}(h:BW w cs nm W)(hb:Below W.heap.size W W'):BW w cs nm W':=
 ⟨h.br.kept hb,(hb.block _ (lt_of_obj h.nmc)).trans h.nmc⟩
theorem BW.grown{w:World}{cs:Array Value}{nm:ByteArray}{W W':World}{row:Option Nat}(h:BW w cs nm W)(hg:W.grownBy W' row)(hrow: ∀k,row=some k->w.heap.size+3<=k):BW w cs nm W':=
 ⟨h.br.grown hg (λk hk=>by have:=hrow k hk;exact⟨by omega,by omega,by omega⟩),grown_obj hg h.nmc (λe=>by have:=hrow _ e.symm;omega)⟩
theorem BW.set4{w:World}{v0 v1 v2 v3 v4:Value}{nm:ByteArray}{W:World}(h:BW w #[v0,v1,v2,v3,v4] nm W)(v:Value):BW w #[v0,v1,v2,v3,v] nm (W.setCell ⟨w.heap.size,4,none⟩ v):=
 ⟨h.br.set4 v,by rw[heap_setCell_other W ⟨w.heap.size,4,none⟩ (w.heap.size+1) _ (by show w.heap.size+1≠w.heap.size;omega)];exact h.nmc⟩
theorem BW.set5{w:World}{x0 x1 x2 x3 x4:Value}{nm:ByteArray}{W:World}(h:BW w #[x0,x1,x2,x3,x4] nm W)(v0 v1 v2 v3 v4:Value):
  BW w #[v0,v1,v2,v3,v4] nm (((((W.setCell ⟨w.heap.size,0,none⟩ v0).setCell ⟨w.heap.size,1,none⟩ v1).setCell ⟨w.heap.size,2,none⟩ v2).setCell ⟨w.heap.size,3,none⟩ v3).setCell ⟨w.heap.size,4,none⟩ v4):=by
 have hne:w.heap.size+1≠w.heap.size:=by omega
 refine⟨h.br.set5 v0 v1 v2 v3 v4, ?_⟩
 rw[heap_setCell_other _ ⟨w.heap.size,4,none⟩ _ _ hne,heap_setCell_other _ ⟨w.heap.size,3,none⟩ _ _ hne,heap_setCell_other _ ⟨w.heap.size,2,none⟩ _ _ hne,heap_setCell_other _ ⟨w.heap.size,1,none⟩ _ _ hne,heap_setCell_other _ ⟨w.heap.size,0,none⟩ _ _ hne]
 exact h.nmc
theorem uG{w:World}{v u:Value}{cs:Array Value}{nm:ByteArray}{W:World}(h:W.cell? ⟨w.heap.size,4,none⟩=some v/\W.cell? ⟨w.heap.size+1,0,none⟩=some u/\BW w cs nm W):BW w cs nm W:=h.2.2
theorem BW.all{w:World}{v0 v1 v2 v3 v4:Value}{nm:ByteArray}{W:World}(h:BW w #[v0,v1,v2,v3,v4] nm W):W.cell? ⟨w.heap.size,4,none⟩=some v4/\W.cell? ⟨w.heap.size+1,0,none⟩=some (.string nm)/\BW w #[v0,v1,v2,v3,v4] nm W:=
 ⟨cell_obj h.br.box 4,cell_obj h.nmc 0,h⟩
theorem kR(w:World)(v0 v1 v2 v3 v4:Value)(nm:ByteArray):BW w #[v0,v1,v2,v3,v4] nm (((w.alloc (.cells #[v0,v1,v2,v3,v4] 43)).alloc (.cells #[.string nm] 9)).alloc (.cells #[.int .i64 0,.int .i64 0,.string ⟨#[]⟩,.string ⟨#[]⟩,.slice none 0 0] 43)):=by
 have hb:=below_one ((w.alloc (.cells #[v0,v1,v2,v3,v4] 43)).alloc (.cells #[.string nm] 9)) (.cells #[.int .i64 0,.int .i64 0,.string ⟨#[]⟩,.string ⟨#[]⟩,.slice none 0 0] 43)
 have hb0:=((Below.refl _ w).alloc (Nat.le_refl _) (.cells #[v0,v1,v2,v3,v4] 43)).alloc (by simp) (.cells #[.string nm] 9)
 have h2:=heap_alloc_new ((w.alloc (.cells #[v0,v1,v2,v3,v4] 43)).alloc (.cells #[.string nm] 9)) (.cells #[.int .i64 0,.int .i64 0,.string ⟨#[]⟩,.string ⟨#[]⟩,.slice none 0 0] 43)
 rw[show((w.alloc (.cells #[v0,v1,v2,v3,v4] 43)).alloc (.cells #[.string nm] 9)).heap.size=w.heap.size+2 from by simp]at h2
 exact⟨⟨(hb.block _ (lt_of_obj (Xw w _ _))).trans (Xw _ _ _),h2,⟨Nat.le_refl _,by omega,by omega⟩,hb0.trans (hb.mono hb0.size)⟩,(hb.block _ (lt_of_obj (kV w _ _))).trans (kV _ _ _)⟩
theorem zcH{b:Nat}{ao:Option Addr}{n c:Nat}{l:List En}{w:World}(h:Own b (.slice ao n c) l w):some w.heap.size≠(Value.slice ao n c).ownBlock:=λe=>by
 have:=(World.ownsRow.lt h _ e.symm).2
 omega
theorem U0{m:Int}{d t:ByteArray}{l:List En}{nm:ByteArray}{i:Int}(h:Nm.right nm.data.toList=false):Nd.withE less Nm.right ⟨2,m,d,t,l⟩ nm i=(Nd.none0,14):=by
 unfold Nd.withE;rw[if_neg (by simp),if_pos (show Nm.right (Nd.bs nm)=false from h)]
theorem Vg{m:Int}{d t:ByteArray}{l:List En}{nm:ByteArray}{i:Int}(h:Nm.right nm.data.toList=true)(h2:(Nd.find l nm).isSome=true):Nd.withE less Nm.right ⟨2,m,d,t,l⟩ nm i=(Nd.none0,5):=by
 unfold Nd.withE;rw[if_neg (by simp),if_neg (by show¬ Nm.right nm.data.toList=false;rw[h];simp),if_pos h2]
theorem U1{m:Int}{d t:ByteArray}{l:List En}{nm:ByteArray}{i:Int}(h:Nm.right nm.data.toList=true)(h2:(Nd.find l nm).isSome=false)(h3:64<=l.length):Nd.withE less Nm.right ⟨2,m,d,t,l⟩ nm i=(Nd.none0,3):=by
 unfold Nd.withE;rw[if_neg (by simp),if_neg (by show¬ Nm.right nm.data.toList=false;rw[h];simp),if_neg (by rw[h2];simp),if_pos h3]
theorem YD{m:Int}{d t:ByteArray}{l:List En}{nm:ByteArray}{i:Int}(h:Nm.right nm.data.toList=true)(h2:(Nd.find l nm).isSome=false)(h3: ¬ 64<=l.length):Nd.withE less Nm.right ⟨2,m,d,t,l⟩ nm i=(⟨2,m,d,t,l.take (Nd.place (xA nm) l)++(nm,i)::l.drop (Nd.place (xA nm) l)⟩,0):=by
 unfold Nd.withE;rw[if_neg (by simp),if_neg (by show¬ Nm.right nm.data.toList=false;rw[h];simp),if_neg (by rw[h2];simp),if_neg h3]
 show(Nd.Node.mk 2 m d t (Nd.ins less l nm i),(0:Int))=_
 rw[Nd.ins_place];rfl
def rte(l:List En):Bool:=decide (l.length<=64)&&ndg l
theorem qd(a:Option Addr)(n cap:Nat)(l:List En)(w:World)(hE:Ents a n l w)(hn:n<=1000000)(hs: ∀j,j<n->(l.getD j z0).1.size<=100000):
  Calls prog 179 #[.slice a n cap] w (xE (rte l) w):=by
 have HNL:=hid hE.count
 have hni:(n:Int)<=1000000:=by omega
 have HE:=hid (λW (hb:Below w.heap.size w W)=>hE.below hb)
 have HS:=hid hs
 have HF:=hid (show∀b W,rte l=b->Below w.heap.size w W->xE (rte l) w (.returned (.bool b)) W from λb W h hb=>by rw[h];exact⟨rfl,hb⟩)
 clear hE hs
 by_cases e3:64<n
 ·have HR:=hid (show rte l=false by unfold rte;rw[decide_eq_false (p:=l.length<=64) (by have:=HNL.out;omega)];rfl)
  have e3i:(64:Int)<(n:Int):=by omega
  clear e3
  go_enter func179,ntmps179
  go_wp2_with fail
  go_ret
  exact HF.out _ _ HR.out (Below.refl _ _)
 have HP2:=hid (show rte l=ndg l by unfold rte;rw[decide_eq_true (by have:=HNL.out;omega)];rfl)
 have e3i: ¬ (64:Int)<(n:Int):=by omega
 clear e3
 go_enter func179,ntmps179
 go_wp2_with fail
 go_loopw [10] (λi wr=>(∃j:Nat,j<=n/\i= .int .i64 j/\ndg (l.take j)=true)/\Below w.heap.size w wr) (λi _=>n-(intOf i).toNat)
 case atStart=>exact⟨⟨0,Nat.zero_le _,rfl,rfl⟩,Below.refl _ _⟩
 case round=>
  obtain⟨⟨j,hj,rfl,hg⟩,hb⟩:=hrel
  have HB:=hid hb
  by_cases hlt:j<n
  ·have j0:(j:Int)<(n:Int):=by omega
   have hj0:(0:Int)<=(j:Int):=by omega
   have hjl:j<l.length:=by rw[<-HNL.out];exact hlt
   obtain⟨b,off,rfl,c0,c1⟩:=(HE.out _ hb).cell j hlt
   have hsz:=HS.out j hlt
   obtain⟨x,hxe⟩: ∃x,x=l.getD j z0:=⟨_,rfl⟩
   rw[<-hxe]at c0 c1 hsz
   have HM:=hid (λho ha=>V6 hjl hg hxe ho ha)
   have HBad:=hid (λho=>K5 hjl hxe ho)
   have HLow:=hid (λha=>K4 hjl hxe ha)
   have HAft:=hid (λh0=>Yj hjl h0 x)
   have HRx:=hid (λW=>xT x.1 W (by omega))
   have HO:=hid (zfp x)
   clear hxe hg hsz
   have HNw:=hid (heap_alloc_new wr (oc x))
   have HBA:=hid (show Below w.heap.size w (wr.alloc (oc x))from hb.alloc hb.size _)
   cases hr:Nm.right x.1.data.toList
   ·rw[hr]at HRx HO
    have HR:=hid (show rte l=false by rw[HP2.out,HBad.out (by rw[HO.out];rfl)])
    clear HM HBad HLow HAft HO HP2 hr
    go_wp2_with fail
    refine(HRx.out _).mono ?_
    rintro e w2 ⟨rfl,hw2⟩
    have HB2:=hid (HBA.out.trans (hw2.mono HBA.out.size))
    clear hw2
    dsimp only
    go_wp2_with fail
    go_ret
    exact HF.out _ _ HR.out HB2.out
   rw[hr]at HRx HO
   clear hr
   by_cases i1:x.2<1
   ·have HR:=hid (show rte l=false by rw[HP2.out,HBad.out (by rw[HO.out,decide_eq_false (p:=1<=x.2) (by omega)];rfl)])
    clear HM HBad HLow HAft HO HP2
    go_wp2_with fail
    refine(HRx.out _).mono ?_
    rintro e w2 ⟨rfl,hw2⟩
    have e1:w2.cell? ⟨wr.heap.size,1,none⟩=some (.int .i64 x.2):=(hw2.cell (p:=⟨wr.heap.size,1,none⟩) (lt_of_obj HNw.out)).trans (cell_obj HNw.out 1)
    have HB2:=hid (HBA.out.trans (hw2.mono HBA.out.size))
    clear hw2
    dsimp only
    go_wp2_with fail
    go_ret
    exact HF.out _ _ HR.out HB2.out
   have d1:decide (x.2<1)=false:=decide_eq_false i1
   by_cases i2:2147483647<x.2
   ·have HR:=hid (show rte l=false by rw[HP2.out,HBad.out (by rw[HO.out,decide_eq_false (p:=x.2<=2147483647) (by omega)];simp)])
    clear HM HBad HLow HAft HO HP2
    go_wp2_with fail
    refine(HRx.out _).mono ?_
    rintro e w2 ⟨rfl,hw2⟩
    have e1:w2.cell? ⟨wr.heap.size,1,none⟩=some (.int .i64 x.2):=(hw2.cell (p:=⟨wr.heap.size,1,none⟩) (lt_of_obj HNw.out)).trans (cell_obj HNw.out 1)
    have HB2:=hid (HBA.out.trans (hw2.mono HBA.out.size))
    clear hw2
    dsimp only
    go_wp2_with fail
    go_ret
    exact HF.out _ _ HR.out HB2.out
   have HK:=hid (show Nd.entOk Nm.right x=true by rw[HO.out,decide_eq_true (p:=1<=x.2) (by omega),decide_eq_true (p:=x.2<=2147483647) (by omega)];rfl)
   have d2:decide (2147483647<x.2)=false:=decide_eq_false i2
   clear HO HBad
   by_cases hj1:j=0
   ·have hjb:decide (0<j)=false:=decide_eq_false (by omega)
    have HG:=hid (HM.out HK.out (by rw[hj1];exact Yi l x))
    clear HM HLow HAft HK hj1
    go_wp2_with fail
    refine(HRx.out _).mono ?_
    rintro e w2 ⟨rfl,hw2⟩
    have e1:w2.cell? ⟨wr.heap.size,1,none⟩=some (.int .i64 x.2):=(hw2.cell (p:=⟨wr.heap.size,1,none⟩) (lt_of_obj HNw.out)).trans (cell_obj HNw.out 1)
    have HB2:=hid (HBA.out.trans (hw2.mono HBA.out.size))
    clear hw2
    dsimp only
    go_wp2_with fail
    go_quiet (fail)
    go_wp2_with fail
    exact⟨⟨⟨j+1,by omega,by go_num,HG.out⟩,bdn HB2.out _⟩,by simp[intOf];omega⟩
   obtain⟨i,rfl⟩: ∃i,j=i+1:=⟨j-1,by omega⟩
   obtain⟨b',off',eb,p0,p1⟩:=(HE.out _ hb).cell i (by omega)
   obtain⟨rfl,rfl⟩:b'=b/\off'=off:=by cases eb;exact⟨rfl,rfl⟩
   have HA2:=hid (HAft.out (by omega))
   rw[show i+1-1=i from rfl]at HA2
   obtain⟨y,hye⟩: ∃y,y=l.getD i z0:=⟨_,rfl⟩
   rw[<-hye]at p0 p1 HA2
   clear hye HAft eb hj1
   have hi0:(0:Int)<=(i:Int):=by omega
   have hin:(i:Int)<(n:Int):=by omega
   have hwr:IntKind.i64.wrap (i:Int)=(i:Int):=IntWalk.i64_in _ (by omega)
   have q0:(wr.alloc (oc x)).cell? ⟨b',off'+i*2,none⟩=some (.string y.1):=(((Below.refl _ wr).alloc (Nat.le_refl _) _).cell (p:=⟨b',off'+i*2,none⟩) (block_lt_of_cell p0)).trans p0
   cases hly:less y.1 x.1
   ·rw[hly]at HA2
    have HR:=hid (show rte l=false by rw[HP2.out,HLow.out HA2.out])
    clear HM HLow HP2 HK HA2
    go_wp2_with fail
    refine(HRx.out _).mono ?_
    rintro e w2 ⟨rfl,hw2⟩
    have e0:w2.cell? ⟨wr.heap.size,0,none⟩=some (.string x.1):=(hw2.cell (p:=⟨wr.heap.size,0,none⟩) (lt_of_obj HNw.out)).trans (cell_obj HNw.out 0)
    have e1:w2.cell? ⟨wr.heap.size,1,none⟩=some (.int .i64 x.2):=(hw2.cell (p:=⟨wr.heap.size,1,none⟩) (lt_of_obj HNw.out)).trans (cell_obj HNw.out 1)
    have HB2:=hid (HBA.out.trans (hw2.mono HBA.out.size))
    have q2:w2.cell? ⟨b',off'+i*2,none⟩=some (.string y.1):=(hw2.cell (p:=⟨b',off'+i*2,none⟩) (block_lt_of_cell q0)).trans q0
    clear hw2
    dsimp only
    go_wp2_with fail
    go_quiet (fail)
    go_wp2_with fail
    go_ret
    exact HF.out _ _ HR.out (bdn HB2.out _)
   ·rw[hly]at HA2
    have HG:=hid (HM.out HK.out HA2.out)
    clear HM HLow HK HA2
    go_wp2_with fail
    refine(HRx.out _).mono ?_
    rintro e w2 ⟨rfl,hw2⟩
    have e0:w2.cell? ⟨wr.heap.size,0,none⟩=some (.string x.1):=(hw2.cell (p:=⟨wr.heap.size,0,none⟩) (lt_of_obj HNw.out)).trans (cell_obj HNw.out 0)
    have e1:w2.cell? ⟨wr.heap.size,1,none⟩=some (.int .i64 x.2):=(hw2.cell (p:=⟨wr.heap.size,1,none⟩) (lt_of_obj HNw.out)).trans (cell_obj HNw.out 1)
    have HB2:=hid (HBA.out.trans (hw2.mono HBA.out.size))
    have q2:w2.cell? ⟨b',off'+i*2,none⟩=some (.string y.1):=(hw2.cell (p:=⟨b',off'+i*2,none⟩) (block_lt_of_cell q0)).trans q0
    clear hw2
    dsimp only
    go_wp2_with fail
    go_quiet (fail)
    go_wp2_with fail
    exact⟨⟨⟨i+1+1,by omega,by go_num,HG.out⟩,bdn HB2.out _⟩,by simp[intOf];omega⟩
  ·obtain rfl:j=n:=by omega
   have HR:=hid (show rte l=true by rw[HP2.out];rw[HNL.out,List.take_length]at hg;exact hg)
   clear hg hb
   go_wp2_with fail
   go_ret
   exact HF.out _ _ HR.out HB.out
end Go.Proofs.YtabmamofnhcgbaaGreatDoor
