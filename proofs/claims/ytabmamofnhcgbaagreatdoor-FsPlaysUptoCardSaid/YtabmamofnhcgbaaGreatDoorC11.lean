/- A part of the proofs. -/
import Derived.Test.YtabmamofnhcgbaaGreatDoorC10
set_option maxRecDepth 1000000
set_option maxHeartbeats 16000000
open Go.Lib (hid)
open Go.Proofs.Tryz
namespace Go.Proofs.YtabmamofnhcgbaaGreatDoor
open Go.RowKit Go.Less
attribute [local go_sem 9000] zg zf
structure Sb (w:World) (a:Option Addr) (n c:Nat) (nx:Int) (cs:Array Value) (L:List MI) (u v:Value) (W:World):Prop where
 box:W.heap[w.heap.size]?=some (.cells #[.slice a n c,.int .i64 nx] 29 (0,0))
 node:W.heap[w.heap.size+1]?=some (.cells cs 43 (0,0))
 res:W.heap[w.heap.size+1+1]?=some (.cells #[.slice none 0 0,.int .i64 0] 29 (0,0))
 out:W.heap[w.heap.size+1+1+1]?=some (.cells #[u,.int .i64 nx] 29 (0,0))
 own:vm (w.heap.size+4) v L W
 big:w.heap.size+4<=W.heap.size
 below:Below w.heap.size w W
theorem al{W:World}{b:Nat}{q:Obj}(h:W.heap[b]?=some q)(o:Obj):(W.alloc o).heap[b]?=some q:=(((Below.refl W.heap.size W).alloc (Nat.le_refl _) o).block _ (lt_of_obj h)).trans h
section
variable {w : World} {a : Option Addr} {n c : Nat} {nx : Int} {cs : Array Value} {L : List MI} {u v : Value} {W : World}
theorem zbU(w:World)(a:Option Addr)(n c:Nat)(nx:Int)(cs:Array Value):Sb w a n c nx cs [] (.slice none 0 0) (.slice none 0 0) ((((w.alloc (.cells #[.slice a n c,.int .i64 nx] 29)).alloc (.cells cs 43)).alloc (.cells #[.slice none 0 0,.int .i64 0] 29)).alloc (.cells #[.slice none 0 0,.int .i64 nx] 29)):=by
 have b0:=(Below.refl w.heap.size w).alloc (Nat.le_refl _) (.cells #[.slice a n c,.int .i64 nx] 29)
 have b1:=b0.alloc b0.size (.cells cs 43)
 have b2:=b1.alloc b1.size (.cells #[.slice none 0 0,.int .i64 0] 29)
 have b3:=b2.alloc b2.size (.cells #[.slice none 0 0,.int .i64 nx] 29)
 have z1:(w.alloc (.cells #[.slice a n c,.int .i64 nx] 29)).heap.size=w.heap.size+1:=yw _ _
 have z2:((w.alloc (.cells #[.slice a n c,.int .i64 nx] 29)).alloc (.cells cs 43)).heap.size=w.heap.size+1+1:=by rw[yw,z1]
 have z3:(((w.alloc (.cells #[.slice a n c,.int .i64 nx] 29)).alloc (.cells cs 43)).alloc (.cells #[.slice none 0 0,.int .i64 0] 29)).heap.size=w.heap.size+1+1+1:=by rw[yw,z2]
 have k0:=heap_alloc_new w (.cells #[.slice a n c,.int .i64 nx] 29)
 have k1:=heap_alloc_new (w.alloc (.cells #[.slice a n c,.int .i64 nx] 29)) (.cells cs 43)
 have k2:=heap_alloc_new ((w.alloc (.cells #[.slice a n c,.int .i64 nx] 29)).alloc (.cells cs 43)) (.cells #[.slice none 0 0,.int .i64 0] 29)
 have k3:=heap_alloc_new (((w.alloc (.cells #[.slice a n c,.int .i64 nx] 29)).alloc (.cells cs 43)).alloc (.cells #[.slice none 0 0,.int .i64 0] 29)) (.cells #[.slice none 0 0,.int .i64 nx] 29)
 rw[z1]at k1
 rw[z2]at k2
 rw[z3]at k3
 exact⟨al (al (al k0 _) _) _,al (al k1 _) _,al k2 _,k3,ZK _ _,by rw[yw,z3];exact Nat.le_refl _,b3⟩
theorem Sb.more(h:Sb w a n c nx cs L u v W){W' W4:World}{v4:Value}{x:MI}(hA:Below W.heap.size W W')(hg:W'.grownBy W4 v.ownBlock)(hO:vm (w.heap.size+4) v L W')(hown:vm (w.heap.size+4) v4 (L++[x]) W4):Sb w a n c nx cs (L++[x]) u v4 W4:=by
 have big:=h.big
 have hne: ∀y,y<w.heap.size+4->some y≠v.ownBlock:=λy hy e=>by have:=owns_lt hO y e.symm;omega
 have hbig:W.heap.size<=W'.heap.size:=hA.size
 have hs:W'.heap.size<=W4.heap.size:=hg.size
 have keep: ∀{b:Nat} {q:Obj},W.heap[b]?=some q->b<w.heap.size+4->W4.heap[b]?=some q:=λhb hl=>grown_obj hg ((hA.block _ (lt_of_obj hb)).trans hb) (hne _ hl)
 exact⟨keep h.box (by omega),keep h.node (by omega),keep h.res (by omega),keep h.out (by omega),hown,by omega,(h.below.trans (hA.mono h.below.size)).grown hg (Nat.le_trans h.below.size hbig) (λj hj=>by have:=owns_lt hO j hj;omega)⟩
theorem Sb.store(h:Sb w a n c nx cs L u v W):Sb w a n c nx cs L v v (W.setCell ⟨w.heap.size+1+1+1,0,none⟩ v):=by
 have ho: ∀{b:Nat} {q:Obj},W.heap[b]?=some q->b≠w.heap.size+1+1+1->(W.setCell ⟨w.heap.size+1+1+1,0,none⟩ v).heap[b]?=some q:=λhb hne=>(heap_setCell_other W ⟨w.heap.size+1+1+1,0,none⟩ _ _ hne).trans hb
 have hs:=heap_setCell_same W (w.heap.size+1+1+1) 0 _ 29 v h.out
 refine⟨ho h.box (by omega),ho h.node (by omega),ho h.res (by omega),by simpa using hs,xz h.own (by omega) 0 v, ?_,h.below.setCell (by show w.heap.size<=w.heap.size+1+1+1;omega) v⟩
 have:=h.big
 simpa[World.setCell] using this
end
def uH(L:List MI)(k:Int)(x:MI):List MI:=L.map λy=>if y.it.1=k then x else y
theorem QT(L:List MI)(k:Int)(x y:MI):uH (L++[y]) k x=uH L k x++[if y.it.1=k then x else y]:=by simp[uH]
theorem zc3(L:List MI)(k:Int)(x:MI)(hx:x.it.1=k):its (uH L k x)++(if(Fs.node (its L) k).isSome=true then[]else[x.it])=Fs.setL (its L) k x.x:=by
 have e:its (uH L k x)=(its L).map λy=>if y.1=k then(k,x.x)else y:=by
  unfold its uH
  rw[List.map_map,List.map_map]
  refine List.map_congr_left λy _=> ?_
  show(if y.it.1=k then x else y).it=if y.it.1=k then(k,x.x)else y.it
  split
  ·rw[<-hx]
  ·rfl
 unfold Fs.setL
 rw[e,<-hx]
theorem Vu(L:List MI)(k:Int)(x:MI):(uH L k x).length=L.length:=by simp[uH]
theorem zag(L:List MI)(y:MI)(k:Int):(Fs.node (its (L++[y])) k).isSome=((Fs.node (its L) k).isSome||decide (y.it.1=k)):=by
 unfold its
 rw[List.map_append,Fs.node_append]
 cases Fs.node (L.map (·.it)) k with
 |none=>by_cases h:y.it.1=k<;>simp[Fs.node,h]
 |some z=>simp
theorem set2{w:World}{g:Nat}{x0 x1:Value}(v0 v1:Value)(h:w.heap[g]?=some (.cells #[x0,x1] 29 (0,0))):((w.setCell ⟨g,0,none⟩ v0).setCell ⟨g,1,none⟩ v1).heap[g]?=some (.cells #[v0,v1] 29 (0,0)):=by
 have h0:=heap_setCell_same w g 0 _ 29 v0 h
 have h1:=heap_setCell_same _ g 1 _ 29 v1 h0
 simpa using h1
theorem Sb.fin{w:World}{a:Option Addr}{n c:Nat}{nx:Int}{cs:Array Value}{M:List MI}{l:List Fs.Item}{W:World}{u:Value}{ao:Option Addr}{cp q:Nat}
  (h:Sb w a n c nx cs M u (.slice ao q cp) W) (hq:q=M.length) (hl:its M=l) (HE: ∀W',Below w.heap.size w W'-> ∀y∈M,Ents y.ea y.x.ents.length y.x.ents W'):
  FsR l nx w (.returned (.agg #[.slice ao q cp,.int .i64 nx])) ((W.setCell ⟨w.heap.size+1+1,0,none⟩ (.slice ao q cp)).setCell ⟨w.heap.size+1+1,1,none⟩ (.int .i64 nx)):=by
 subst hq
 have hb:=(h.below.setCell (p:=⟨w.heap.size+1+1,0,none⟩) (by show w.heap.size<=w.heap.size+1+1;omega) (.slice ao M.length cp)).setCell (p:=⟨w.heap.size+1+1,1,none⟩) (by show w.heap.size<=w.heap.size+1+1;omega) (.int .i64 nx)
 exact⟨ao,cp,M,hl,rfl,jV (xz (xz h.own (by omega) 0 _) (by omega) 1 _) (HE _ hb),hb⟩
theorem xv(a:Option Addr)(n c:Nat)(nx:Int)(L:List MI)(i k m:Int)(d t:ByteArray)(ea:Option Addr)(ec:Nat)(es:List En)(w:World)(hI:Items a n L w)(hn:n<=100000)(hE:Ents ea es.length es w):
  Calls prog 50 #[fv a n c nx,.int .i64 i,nv k m d t ea es.length ec] w (FsR (Fs.setL (its L) i ⟨k,m,d,t,es⟩) nx w):=by
 have hni:(n:Int)<=100000:=by omega
 have HI:=hid (λW (hb:Below w.heap.size w W)=>hI.below hb)
 have HE:=hid (λW (hb:Below w.heap.size w W)=>hE.below hb)
 have HNL:=hid hI.count
 have HEn:=hid hI.ents
 have HS:=hid (zbU w a n c nx #[.int .i64 k,.int .i64 m,.string d,.string t,.slice ea es.length ec])
 clear hI hE
 go_enter func50,ntmps50
 go_wp2_with fail
 obtain⟨X,hX⟩: ∃X:MI,X=⟨(i,⟨k,m,d,t,es⟩),ea,ec⟩:=⟨_,rfl⟩
 have HXc:=hid (show(yG X).toArray= #[.int .i64 i,.int .i64 k,.int .i64 m,.string d,.string t,.slice ea es.length ec] by rw[hX];rfl)
 have HF:=hid (show its (uH L i X)++(if(Fs.node (its L) i).isSome=true then[]else[X.it])=Fs.setL (its L) i ⟨k,m,d,t,es⟩ by rw[hX];exact zc3 L i ⟨(i,⟨k,m,d,t,es⟩),ea,ec⟩ rfl)
 have HX:=hid hX
 clear hX
 go_loopw [8,9] (λg x wr=> ∃(j:Nat) (v:Value),j<=n/\x= .int .i64 j/\g= .bool (Fs.node (its (L.take j)) i).isSome/\Sb w a n c nx #[.int .i64 k,.int .i64 m,.string d,.string t,.slice ea es.length ec] (uH (L.take j) i X) v v wr) (λ_ x _=>n-(intOf x).toNat)
 case atStart=>exact⟨0,_,Nat.zero_le _,rfl,rfl,HS.out⟩
 case round=>
  clear HS
  obtain⟨j,v,hj,rfl,rfl,hG⟩:=hrel
  obtain⟨ao,cp,rfl⟩:=owns_form hG.own
  have HG:=hid hG
  have hb0:=cell_obj hG.box 0
  have cb:wr.cell? ⟨w.heap.size,0,none⟩=some (.slice a n c):=hb0
  clear hb0 hG
  by_cases hlt:j<n
  ·have j0:(j:Int)<(n:Int):=by omega
   have hj0:(0:Int)<=(j:Int):=by omega
   obtain⟨b,off,x,rfl,hx,h6⟩:=(HI.out _ HG.out.below).six hlt
   have HT:=hid (zw hx)
   have HM:=hid (show uH (L.take (j+1)) i X=uH (L.take j) i X++[if x.it.1=i then X else x] by rw[HT.out,QT])
   have HD:=hid (show(Fs.node (its (L.take (j+1))) i).isSome=((Fs.node (its (L.take j)) i).isSome||decide (x.it.1=i)) by rw[HT.out,zag])
   have HLn:=hid (show(uH (L.take j) i X).length<=1000000 by rw[Vu,List.length_take];omega)
   obtain⟨c0,c1,c2,c3,c4,c5⟩:=h6
   clear hx
   generalize uH (L.take j) i X=M at*
   generalize (Fs.node (its (L.take j)) i).isSome=g at*
   have ho:=HG.out.out
   have o0:wr.cell? ⟨w.heap.size+1+1+1,0,none⟩=some (.slice ao M.length cp):=cell_obj ho 0
   clear ho
   by_cases hk:x.it.1=i
   ·rw[if_pos hk]at HM
    have ho:=HG.out.node
    have y0:=yl ho
    clear ho
    have hA:=(Below.refl wr.heap.size wr).alloc (Nat.le_refl _) (.cells #[.int .i64 i,.int .i64 k,.int .i64 m,.string d,.string t,.slice ea es.length ec] 70)
    have HO:=hid (vH HG.out.own hA)
    have HN:=hid (show(wr.alloc (.cells #[.int .i64 i,.int .i64 k,.int .i64 m,.string d,.string t,.slice ea es.length ec] 70)).heap[wr.heap.size]?=some (.cells (yG X).toArray 70 (0,0)) by rw[HXc.out];exact heap_alloc_new wr _)
    have HSz:=hid (Nat.le_trans HG.out.big hA.size)
    have HA:=hid hA
    clear hA
    subst hk
    go_wp2_with (first|(at_builtin;refine Qm rfl _ _ rfl (w.heap.size+4) _ M (by rfl) HO.out wr.heap.size X (by rfl) HN.out HLn.out HSz.out ?_;intro ao4 cap4 w4 hown4 hgrow4;have HG4:=hid (HG.out.more HA.out hgrow4 HO.out (by simpa[vm] using hown4));clear hown4 hgrow4;have o1:=cell_obj HG4.out.out 0;have o2:=free_obj HG4.out.out 0)|fail)
    go_roundw
    case rel=>exact⟨j+1,.slice ao4 (M.length+1) cap4,by omega,by go_num,by rw[HD.out];simp,by rw[HM.out];exact HG4.out.store⟩
    case measure=>simp[intOf];omega
   ·rw[if_neg hk]at HM
    have hA:=(Below.refl wr.heap.size wr).alloc (Nat.le_refl _) (.cells #[.int .i64 x.it.1,.int .i64 x.x.kind,.int .i64 x.x.mode,.string x.x.data,.string x.x.target,.slice x.ea x.x.ents.length x.ec] 70)
    have HA:=hid hA.drew
    have HO:=hid (vH HG.out.own hA.drew)
    have HN:=hid (show(wr.alloc (.cells #[.int .i64 x.it.1,.int .i64 x.x.kind,.int .i64 x.x.mode,.string x.x.data,.string x.x.target,.slice x.ea x.x.ents.length x.ec] 70)).drew.heap[wr.heap.size]?=some (.cells (yG x).toArray 70 (0,0))from heap_alloc_new wr _)
    have HSz:=hid (show w.heap.size+4<=(wr.alloc (.cells #[.int .i64 x.it.1,.int .i64 x.x.kind,.int .i64 x.x.mode,.string x.x.data,.string x.x.target,.slice x.ea x.x.ents.length x.ec] 70)).drew.heap.size from Nat.le_trans HG.out.big hA.size)
    clear hA
    have o3:(wr.alloc (.cells #[.int .i64 x.it.1,.int .i64 x.x.kind,.int .i64 x.x.mode,.string x.x.data,.string x.x.target,.slice x.ea x.x.ents.length x.ec] 70)).cell? ⟨w.heap.size+1+1+1,0,none⟩=some (.slice ao M.length cp):=cell_obj (al HG.out.out _) 0
    go_wp2_with fail
    go_region_law (first|(refine kW rfl _ _ rfl (w.heap.size+4) _ M (by rfl) HO.out wr.heap.size x (by rfl) HN.out HLn.out HSz.out ?_;intro ao4 cap4 w4 hown4 hgrow4;have HG4:=hid (HG.out.more HA.out hgrow4 HO.out (by simpa[vm] using hown4));clear hown4 hgrow4;have o1:=cell_obj HG4.out.out 0;have o2:=free_obj HG4.out.out 0)|fail)
    all_goals
     go_wp2_with fail
     go_roundw
     case rel=>exact⟨j+1,.slice ao4 (M.length+1) cap4,by omega,by go_num,by rw[HD.out,decide_eq_false hk,Bool.or_false],by rw[HM.out];exact HG4.out.store⟩
     case measure=>simp[intOf];omega
  ·obtain rfl:j=n:=by omega
   have hT:L.take j=L:=by rw[HNL.out,List.take_length]
   rw[hT]at HG|-
   clear hT
   have HEx:=hid (show X.it=(i,⟨k,m,d,t,es⟩)/\X.ea=ea from by rw[HX.out];exact⟨rfl,rfl⟩)
   have HM:=hid (λy (hy:y∈uH L i X)=>show y=X\/y∈L from by
    unfold uH at hy
    obtain⟨z,hz,e⟩:=List.mem_map.1 hy
    by_cases hzk:z.it.1=i
    ·rw[if_pos hzk]at e;exact .inl e.symm
    ·rw[if_neg hzk]at e;subst e;exact .inr hz)
   have HLn:=hid (show(uH L i X).length<=1000000 by rw[Vu,<-HNL.out];omega)
   generalize uH L i X=M at*
   cases hg:(Fs.node (its L) i).isSome
   ·rw[hg,if_neg (by simp)]at HF
    have ho:=HG.out.node
    have y0:=yl ho
    have o0:wr.cell? ⟨w.heap.size+1+1+1,0,none⟩=some (.slice ao M.length cp):=cell_obj HG.out.out 0
    clear ho
    have hA:=(Below.refl wr.heap.size wr).alloc (Nat.le_refl _) (.cells #[.int .i64 i,.int .i64 k,.int .i64 m,.string d,.string t,.slice ea es.length ec] 70)
    have HO:=hid (vH HG.out.own hA)
    have HN:=hid (show(wr.alloc (.cells #[.int .i64 i,.int .i64 k,.int .i64 m,.string d,.string t,.slice ea es.length ec] 70)).heap[wr.heap.size]?=some (.cells (yG X).toArray 70 (0,0)) by rw[HXc.out];exact heap_alloc_new wr _)
    have HSz:=hid (Nat.le_trans HG.out.big hA.size)
    have HA:=hid hA
    clear hA
    go_wp2_with (first|(at_builtin;refine Qm rfl _ _ rfl (w.heap.size+4) _ M (by rfl) HO.out wr.heap.size X (by rfl) HN.out HLn.out HSz.out ?_;intro ao4 cap4 w4 hown4 hgrow4;have HG4:=hid (HG.out.more HA.out hgrow4 HO.out (by simpa[vm] using hown4));clear hown4 hgrow4;have o1:=cell_obj HG4.out.out 0;have o2:=free_obj HG4.out.out 0;have o3:=cell_obj HG4.out.out 1;have r0:=cell_obj HG4.out.res 0;have r1:=cell_obj HG4.out.res 1;have q0:=free_obj HG4.out.res 0;have q1:=free_obj HG4.out.res 1)|fail)
    refine bodyPost_ret_by (yX rfl _ _ (w.heap.size+1+1) _ _ rfl (set2 _ _ HG4.out.store.res)) rfl ?_
    refine HG4.out.store.fin (by simp) (by rw[<-HF.out];simp[its]) λW' hb' y hy=> ?_
    have hy:y=X\/y∈L:=by
     rcases List.mem_append.1 hy with hy|hy
     ·exact HM.out y hy
     ·exact .inl (List.mem_singleton.1 hy)
    rcases hy with rfl|hy
    ·have:=HE.out W' hb'
     show Ents y.ea y.it.2.ents.length y.it.2.ents W'
     rw[HEx.out.1,HEx.out.2];exact this
    ·exact(HEn.out y hy).below hb'
   ·rw[hg,if_pos rfl,List.append_nil]at HF
    have o0:wr.cell? ⟨w.heap.size+1+1+1,0,none⟩=some (.slice ao M.length cp):=cell_obj HG.out.out 0
    have o1:wr.cell? ⟨w.heap.size+1+1+1,1,none⟩=some (.int .i64 nx):=cell_obj HG.out.out 1
    have r0:wr.cell? ⟨w.heap.size+1+1,0,none⟩=some (.slice none 0 0):=cell_obj HG.out.res 0
    have r1:wr.cell? ⟨w.heap.size+1+1,1,none⟩=some (.int .i64 0):=cell_obj HG.out.res 1
    have q0:=free_obj HG.out.res 0
    have q1:=free_obj HG.out.res 1
    go_wp2_with fail
    refine bodyPost_ret_by (yX rfl _ _ (w.heap.size+1+1) _ _ rfl (set2 _ _ HG.out.res)) rfl ?_
    refine HG.out.fin rfl HF.out λW' hb' y hy=> ?_
    rcases HM.out y hy with rfl|hy
    ·have:=HE.out W' hb'
     show Ents y.ea y.it.2.ents.length y.it.2.ents W'
     rw[HEx.out.1,HEx.out.2];exact this
    ·exact(HEn.out y hy).below hb'
structure Db (w:World) (a:Option Addr) (n c:Nat) (nx:Int) (L:List MI) (u v:Value) (W:World):Prop where
 box:W.heap[w.heap.size]?=some (.cells #[.slice a n c,.int .i64 nx] 29 (0,0))
 res:W.heap[w.heap.size+1]?=some (.cells #[.slice none 0 0,.int .i64 0] 29 (0,0))
 out:W.heap[w.heap.size+1+1]?=some (.cells #[u,.int .i64 nx] 29 (0,0))
 own:vm (w.heap.size+3) v L W
 big:w.heap.size+3<=W.heap.size
 below:Below w.heap.size w W
section
variable {w : World} {a : Option Addr} {n c : Nat} {nx : Int} {L : List MI} {u v : Value} {W : World}
theorem zdy(w:World)(a:Option Addr)(n c:Nat)(nx:Int):Db w a n c nx [] (.slice none 0 0) (.slice none 0 0) (((w.alloc (.cells #[.slice a n c,.int .i64 nx] 29)).alloc (.cells #[.slice none 0 0,.int .i64 0] 29)).alloc (.cells #[.slice none 0 0,.int .i64 nx] 29)):=by
 have b0:=(Below.refl w.heap.size w).alloc (Nat.le_refl _) (.cells #[.slice a n c,.int .i64 nx] 29)
 have b1:=b0.alloc b0.size (.cells #[.slice none 0 0,.int .i64 0] 29)
 have b2:=b1.alloc b1.size (.cells #[.slice none 0 0,.int .i64 nx] 29)
 have z1:(w.alloc (.cells #[.slice a n c,.int .i64 nx] 29)).heap.size=w.heap.size+1:=yw _ _
 have z2:((w.alloc (.cells #[.slice a n c,.int .i64 nx] 29)).alloc (.cells #[.slice none 0 0,.int .i64 0] 29)).heap.size=w.heap.size+1+1:=by rw[yw,z1]
 have k0:=heap_alloc_new w (.cells #[.slice a n c,.int .i64 nx] 29)
 have k1:=heap_alloc_new (w.alloc (.cells #[.slice a n c,.int .i64 nx] 29)) (.cells #[.slice none 0 0,.int .i64 0] 29)
 have k2:=heap_alloc_new ((w.alloc (.cells #[.slice a n c,.int .i64 nx] 29)).alloc (.cells #[.slice none 0 0,.int .i64 0] 29)) (.cells #[.slice none 0 0,.int .i64 nx] 29)
 rw[z1]at k1
 rw[z2]at k2
 exact⟨al (al k0 _) _,al k1 _,k2,ZK _ _,by rw[yw,z2];exact Nat.le_refl _,b2⟩
theorem Db.more(h:Db w a n c nx L u v W){W' W4:World}{v4:Value}{x:MI}(hA:Below W.heap.size W W')(hg:W'.grownBy W4 v.ownBlock)(hO:vm (w.heap.size+3) v L W')(hown:vm (w.heap.size+3) v4 (L++[x]) W4):Db w a n c nx (L++[x]) u v4 W4:=by
 have big:=h.big
 have hne: ∀y,y<w.heap.size+3->some y≠v.ownBlock:=λy hy e=>by have:=owns_lt hO y e.symm;omega
 have hbig:W.heap.size<=W'.heap.size:=hA.size
 have hs:W'.heap.size<=W4.heap.size:=hg.size
 have keep: ∀{b:Nat} {q:Obj},W.heap[b]?=some q->b<w.heap.size+3->W4.heap[b]?=some q:=λhb hl=>grown_obj hg ((hA.block _ (lt_of_obj hb)).trans hb) (hne _ hl)
 exact⟨keep h.box (by omega),keep h.res (by omega),keep h.out (by omega),hown,by omega,(h.below.trans (hA.mono h.below.size)).grown hg (Nat.le_trans h.below.size hbig) (λj hj=>by have:=owns_lt hO j hj;omega)⟩
theorem Db.store(h:Db w a n c nx L u v W):Db w a n c nx L v v (W.setCell ⟨w.heap.size+1+1,0,none⟩ v):=by
 have ho: ∀{b:Nat} {q:Obj},W.heap[b]?=some q->b≠w.heap.size+1+1->(W.setCell ⟨w.heap.size+1+1,0,none⟩ v).heap[b]?=some q:=λhb hne=>(heap_setCell_other W ⟨w.heap.size+1+1,0,none⟩ _ _ hne).trans hb
 have hs:=heap_setCell_same W (w.heap.size+1+1) 0 _ 29 v h.out
 refine⟨ho h.box (by omega),ho h.res (by omega),by simpa using hs,xz h.own (by omega) 0 v, ?_,h.below.setCell (by show w.heap.size<=w.heap.size+1+1;omega) v⟩
 have:=h.big
 simpa[World.setCell] using this
theorem Db.fin{l:List Fs.Item}{ao:Option Addr}{cp:Nat}(h:Db w a n c nx L u (.slice ao L.length cp) W)(hl:its L=l)(HE: ∀W',Below w.heap.size w W'-> ∀y∈L,Ents y.ea y.x.ents.length y.x.ents W'):
  FsR l nx w (.returned (.agg #[.slice ao L.length cp,.int .i64 nx])) ((W.setCell ⟨w.heap.size+1,0,none⟩ (.slice ao L.length cp)).setCell ⟨w.heap.size+1,1,none⟩ (.int .i64 nx)):=by
 have hb:=(h.below.setCell (p:=⟨w.heap.size+1,0,none⟩) (by show w.heap.size<=w.heap.size+1;omega) (.slice ao L.length cp)).setCell (p:=⟨w.heap.size+1,1,none⟩) (by show w.heap.size<=w.heap.size+1;omega) (.int .i64 nx)
 exact⟨ao,cp,L,hl,rfl,jV (xz (xz h.own (by omega) 0 _) (by omega) 1 _) (HE _ hb),hb⟩
end
def vL(L:List MI)(k:Int):List MI:=L.filter λy=>decide (y.it.1≠k)
theorem Kr(L:List MI)(k:Int)(y:MI):vL (L++[y]) k=if y.it.1=k then vL L k else vL L k++[y]:=by
 unfold vL
 rw[List.filter_append,List.filter_cons]
 by_cases h:y.it.1=k<;>simp[h]
theorem zaA(L:List MI)(k:Int):its (vL L k)=Fs.dropL (its L) k:=by
 unfold its vL Fs.dropL
 rw[List.filter_map]
 rfl
theorem zaW(L:List MI)(k:Int):(vL L k).length<=L.length:=List.length_filter_le _ _
theorem Y0(a:Option Addr)(n c:Nat)(nx:Int)(L:List MI)(i:Int)(w:World)(hI:Items a n L w)(hn:n<=100000):
  Calls prog 55 #[fv a n c nx,.int .i64 i] w (FsR (Fs.dropL (its L) i) nx w):=by
 have hni:(n:Int)<=100000:=by omega
 have HI:=hid (λW (hb:Below w.heap.size w W)=>hI.below hb)
 have HNL:=hid hI.count
 have HEn:=hid hI.ents
 have HS:=hid (zdy w a n c nx)
 clear hI
 go_enter func55,ntmps55
 go_wp2_with fail
 go_loopw [6] (λx wr=> ∃(j:Nat) (v:Value),j<=n/\x= .int .i64 j/\Db w a n c nx (vL (L.take j) i) v v wr) (λx _=>n-(intOf x).toNat)
 case atStart=>exact⟨0,_,Nat.zero_le _,rfl,HS.out⟩
 case round=>
  clear HS
  obtain⟨j,v,hj,rfl,hG⟩:=hrel
  obtain⟨ao,cp,rfl⟩:=owns_form hG.own
  have HG:=hid hG
  have hb0:=cell_obj hG.box 0
  have cb:wr.cell? ⟨w.heap.size,0,none⟩=some (.slice a n c):=hb0
  clear hb0 hG
  by_cases hlt:j<n
  ·have j0:(j:Int)<(n:Int):=by omega
   have hj0:(0:Int)<=(j:Int):=by omega
   obtain⟨b,off,x,rfl,hx,h6⟩:=(HI.out _ HG.out.below).six hlt
   have HT:=hid (zw hx)
   have HM:=hid (show vL (L.take (j+1)) i=if x.it.1=i then vL (L.take j) i else vL (L.take j) i++[x] by rw[HT.out,Kr])
   have HLn:=hid (show(vL (L.take j) i).length<=1000000 by have:=zaW (L.take j) i;rw[List.length_take]at this;omega)
   obtain⟨c0,c1,c2,c3,c4,c5⟩:=h6
   clear hx
   generalize vL (L.take j) i=M at*
   have o0:wr.cell? ⟨w.heap.size+1+1,0,none⟩=some (.slice ao M.length cp):=cell_obj HG.out.out 0
   by_cases hk:x.it.1=i
   ·rw[if_pos hk]at HM
    subst hk
    go_wp2_with fail
    go_roundw
    case rel=>exact⟨j+1,.slice ao M.length cp,by omega,by go_num,by rw[HM.out];exact HG.out⟩
    case measure=>simp[intOf];omega
   ·rw[if_neg hk]at HM
    have hA:=(Below.refl wr.heap.size wr).alloc (Nat.le_refl _) (.cells #[.int .i64 x.it.1,.int .i64 x.x.kind,.int .i64 x.x.mode,.string x.x.data,.string x.x.target,.slice x.ea x.x.ents.length x.ec] 70)
    have HA:=hid hA.drew
    have HO:=hid (vH HG.out.own hA.drew)
    have HN:=hid (show(wr.alloc (.cells #[.int .i64 x.it.1,.int .i64 x.x.kind,.int .i64 x.x.mode,.string x.x.data,.string x.x.target,.slice x.ea x.x.ents.length x.ec] 70)).drew.heap[wr.heap.size]?=some (.cells (yG x).toArray 70 (0,0))from heap_alloc_new wr _)
    have HSz:=hid (show w.heap.size+3<=(wr.alloc (.cells #[.int .i64 x.it.1,.int .i64 x.x.kind,.int .i64 x.x.mode,.string x.x.data,.string x.x.target,.slice x.ea x.x.ents.length x.ec] 70)).drew.heap.size from Nat.le_trans HG.out.big hA.size)
    clear hA
    have o3:(wr.alloc (.cells #[.int .i64 x.it.1,.int .i64 x.x.kind,.int .i64 x.x.mode,.string x.x.data,.string x.x.target,.slice x.ea x.x.ents.length x.ec] 70)).cell? ⟨w.heap.size+1+1,0,none⟩=some (.slice ao M.length cp):=cell_obj (al HG.out.out _) 0
    go_wp2_with fail
    go_region_law (first|(refine kW rfl _ _ rfl (w.heap.size+3) _ M (by rfl) HO.out wr.heap.size x (by rfl) HN.out HLn.out HSz.out ?_;intro ao4 cap4 w4 hown4 hgrow4;have HG4:=hid (HG.out.more HA.out hgrow4 HO.out (by simpa[vm] using hown4));clear hown4 hgrow4;have o1:=cell_obj HG4.out.out 0;have o2:=free_obj HG4.out.out 0)|fail)
    all_goals
     go_wp2_with fail
     go_roundw
     case rel=>exact⟨j+1,.slice ao4 (M.length+1) cap4,by omega,by go_num,by rw[HM.out];exact HG4.out.store⟩
     case measure=>simp[intOf];omega
  ·obtain rfl:j=n:=by omega
   have hT:L.take j=L:=by rw[HNL.out,List.take_length]
   rw[hT]at HG
   clear hT
   have HF:=hid (zaA L i)
   have HM:=hid (λy (hy:y∈vL L i)=>(List.mem_filter.1 hy).1)
   generalize vL L i=M at*
   have o0:wr.cell? ⟨w.heap.size+1+1,0,none⟩=some (.slice ao M.length cp):=cell_obj HG.out.out 0
   have o1:wr.cell? ⟨w.heap.size+1+1,1,none⟩=some (.int .i64 nx):=cell_obj HG.out.out 1
   have r0:=zn HG.out.res
   have q0:=zH HG.out.res
   go_wp2_with fail
   refine bodyPost_ret_by (yX rfl _ _ (w.heap.size+1) _ _ rfl (set2 _ _ HG.out.res)) rfl ?_
   exact HG.out.fin HF.out λW' hb' y hy=>(HEn.out y (HM.out y hy)).below hb'
structure Wb (w:World) (a:Option Addr) (n c:Nat) (nx:Int) (W:World):Prop where
 box:W.heap[w.heap.size]?=some (.cells #[.slice a n c,.int .i64 nx] 29 (0,0))
 below:Below w.heap.size w W
theorem Wb.kept{w W W':World}{a:Option Addr}{n c:Nat}{nx:Int}(h:Wb w a n c nx W)(hb:Below W.heap.size W W'):Wb w a n c nx W':=
 ⟨(hb.block _ (lt_of_obj h.box)).trans h.box,h.below.trans (hb.mono h.below.size)⟩
theorem Zi(w:World)(a:Option Addr)(n c:Nat)(nx:Int):Wb w a n c nx (w.alloc (.cells #[.slice a n c,.int .i64 nx] 29)):=⟨heap_alloc_new w _,below_one w _⟩
def Qy(r:Except Int Int):Int×Int:=match r with
 | .ok i=>(i,0)
 | .error e=>(0,e)
def Vb(l:List Fs.Item):Prop:= ∀i,(Fs.nodeD l i).ents.length<=1000
def at_(ss:List ByteArray)(j:Nat):ByteArray:=ss.getD j ByteArray.empty
theorem KQ{l:List Fs.Item}{ss:List ByteArray}{j:Nat}(i:Int)(h:j<ss.length):Fs.walk l i (ss.drop j)=if(Fs.nodeD l i).kind≠2 then .error 10 else match Nd.find (Fs.nodeD l i).ents (at_ ss j)with
  |none=> .error 4
  |some c=>Fs.walk l c (ss.drop (j+1)):=by
 rw[List.drop_eq_getElem_cons h,Fs.walk]
 have:ss[j]=at_ ss j:=by unfold at_;rw[List.getD,List.getElem?_eq_getElem h];rfl
 rw[this];rfl
theorem YZ(a:Option Addr)(n c:Nat)(nx:Int)(L:List MI)(b0:Option Addr)(ln cn:Nat)(ss:List ByteArray)(w:World)(hI:Items a n L w)(hn:n<=100000)(hF:Vb (its L))(hS:Strs b0 ln ss w)(hln:ln<=100000):
  Calls prog 63 #[fv a n c nx,.slice b0 ln cn] w λe w'=>e= .returned (.tuple #[.int .i64 (Qy (Fs.walk (its L) 1 ss)).1,.int .i64 (Qy (Fs.walk (its L) 1 ss)).2])/\Below w.heap.size w w':=by
 have hli:(ln:Int)<=100000:=by omega
 have HN:=hid (λk W (hb:Below w.heap.size w W)=>xI a n c nx L k W (hI.below hb) (Nat.le_trans hn (by decide)))
 have HSt:=hid (λW (hb:Below w.heap.size w W)=>hS.below hb)
 have HCo:=hid hS.count
 have HFe:=hid hF
 have HW:=hid (Zi w a n c nx)
 clear hI hS hF
 generalize its L=l at*
 go_enter func63,ntmps63
 go_wp2_with fail
 go_loopw [6,7,8,9,10,11] (λx6 x7 _ _ _ _ wr=> ∃(j:Nat) (i:Int),j<=ln/\x7= .int .i64 j/\x6= .int .i64 i/\Hid (Fs.walk l 1 ss=Fs.walk l i (ss.drop j))/\Wb w a n c nx wr) (λ_ x7 _ _ _ _ _=>ln-(intOf x7).toNat)
 case atStart=>exact⟨0,1,Nat.zero_le _,rfl,rfl,hid rfl,HW.out⟩
 case round=>
  clear HW
  obtain⟨j,i,hj,rfl,rfl,HE,hb⟩:=hrel
  have HB:=hid hb
  have cb0:=zn hb.box
  clear hb
  by_cases hlt:j<ln
  ·have j0:(j:Int)<(ln:Int):=by omega
   have hj0:(0:Int)<=(j:Int):=by omega
   have HE2:=hid (HE.out.trans (KQ i (by rw[<-HCo.out];exact hlt)))
   clear HE
   obtain⟨b1,o1,rfl,-⟩:=(HSt.out _ HB.out.below).cell j hlt
   have HC:=hid (λW (hb:Below w.heap.size w W)=>show W.cell? ⟨b1,o1+j,none⟩=some (.string (at_ ss j))from by
    obtain⟨b',o',e,hc⟩:=(HSt.out W hb).cell j hlt
    injection e with e
    injection e with e1 e2 _
    subst e1 e2
    exact hc)
   have HFi:=hid (HFe.out i)
   go_wp2_with fail
   refine(HN.out i wr HB.out.below).mono ?_
   unfold xF
   generalize Fs.nodeD l i=x at*
   generalize (Fs.node l i).isSome=ok at*
   obtain⟨k,m,d,t,es⟩:=x
   rintro e w2 ⟨ea,ec,rfl,hE,hb2⟩
   have HX:=hid hE
   have HB2:=hid (HB.out.kept hb2)
   clear cb0 hb2 hE
   dsimp only
   by_cases hk:k=2
   ·subst hk
    have HB3:=hid (HB2.out.kept (below_one w2 (.cells #[.int .i64 2,.int .i64 m,.string d,.string t,.slice ea es.length ec] 43)))
    have HX3:=hid (HX.out.below (below_one w2 (.cells #[.int .i64 2,.int .i64 m,.string d,.string t,.slice ea es.length ec] 43)))
    have HO3:=hid (heap_alloc_new w2 (.cells #[.int .i64 2,.int .i64 m,.string d,.string t,.slice ea es.length ec] 43))
    go_wp2_with fail
    generalize w2.alloc (.cells #[.int .i64 2,.int .i64 m,.string d,.string t,.slice ea es.length ec] 43)=W3 at HB3 HX3 HO3|-
    generalize w2.heap.size=p3 at HO3|-
    have n0:=yl HO3.out
    have nc:=HC.out W3 HB3.out.below
    have HFd:=hid (uS 2 m d t ea es.length ec es (at_ ss j) W3.drew (HX3.out.below ((Below.refl _ W3).drew)) (Nat.le_trans HFi.out (by decide)))
    have HB4:=hid (λW (h:Below W3.drew.heap.size W3.drew W)=>HB3.out.kept (((Below.refl W3.heap.size W3).drew).trans h))
    clear HB2 HX HX3
    unfold vS at HFd
    cases hf:Nd.find es (at_ ss j)with
    | none=>
     rw[hf]at HFd HE2
     have HR:=hid (show Fs.walk l 1 ss= .error 4 from HE2.out)
     clear HE2 hf
     dsimp only[Option.getD,Option.isSome]at HFd
     go_region_law (first|(go_simp;(with_reducible refine HFd.out.mono ?_);rintro e w5 ⟨rfl,hb5⟩;have HB5:=hid (HB4.out _ hb5);clear hb5)|fail)
     all_goals
      go_wp2_with fail
      go_ret2
      rw[HR.out]
      exact⟨rfl,HB5.out.below⟩
    | some k2=>
     rw[hf]at HFd HE2
     have HR:=hid (show Fs.walk l 1 ss=Fs.walk l k2 (ss.drop (j+1))from HE2.out)
     clear HE2 hf
     dsimp only[Option.getD,Option.isSome]at HFd
     go_region_law (first|(go_simp;(with_reducible refine HFd.out.mono ?_);rintro e w5 ⟨rfl,hb5⟩;have HB5:=hid (HB4.out _ hb5);clear hb5)|fail)
     all_goals
      go_wp2_with fail
      go_roundw
      case rel=>exact⟨j+1,k2,by omega,by go_num,rfl,HR,HB5.out⟩
      case measure=>simp[intOf];omega
   ·have HR:=hid (show Fs.walk l 1 ss= .error 10 from HE2.out.trans (if_pos hk))
    clear HE2
    go_wp2_with fail
    go_ret2
    rw[HR.out]
    exact⟨rfl,(HB2.out.kept (below_one w2 _)).below⟩
  ·obtain rfl:j=ln:=by omega
   have HR:=hid (show Fs.walk l 1 ss= .ok i by rw[HE.out,HCo.out,List.drop_eq_nil_of_le (Nat.le_refl _)];rfl)
   clear HE
   go_wp2_with fail
   go_ret2
   rw[HR.out]
   exact⟨rfl,HB.out.below⟩
end Go.Proofs.YtabmamofnhcgbaaGreatDoor
namespace Go.Proofs.YtabmamofnhcgbaaGreatDoor
open Go.RowKit
theorem UO{ops:Array Oper}{rest:List Oper}{o:Oper}{a:Act}{Q:Exit->Act->World->Prop}{w:World}(hgd:o.guard=none)(s x:Operand)(ho:o.op= .call {callee:= .builtin .append,args:= #[s,x],argTypes:= #[52,52]})
  {base:Nat} {v:Value} {ls:List (List UInt8)} (hB:vi base v ls w) (hs:a.eval s=v) (bb:Nat) (y:ByteArray) (c:List UInt8) (hyc:y=lstr c) (hx:a.eval x= .slice (some ⟨bb,0,none⟩) 1 1) (hc:w.cell? ⟨bb,0,none⟩=some (.string y)) (hl:ls.length<=1048576) (hb:base<=w.heap.size)
  (h: ∀ao cap' w',vi base (.slice ao (ls.length+1) cap') (ls++[c]) w'->w.grownBy w' v.ownBlock->wpList prog ops Q rest (a.put o.dst (.slice ao (ls.length+1) cap')) w'):wpList prog ops Q (o::rest) a w:=by
 subst hyc
 obtain⟨i0,hi,hz0,hz1,hz2⟩:=info_parts zc8
 refine wpList_append_own w hgd s x 52 ho base 9 i0 (.string ⟨#[]⟩) 1 16 underlying52 hi hz0 hz1 hz2 rfl (by decide) v ls.length (ls.map λl=> .string (lstr l)) hs hB ⟨bb,0,none⟩ 1 1 [.string (lstr c)] hx rfl ?_ ?_ (by unfold maxLen;omega) (by omega) hb ?_
 ·intro j u hj
  match j with
  |0=>simp at hj;subst hj;simpa[Addr.add] using hc
  |j+1=>simp at hj
 ·intro u hu;simp at hu;subst hu;rfl
 ·intro v' w' hown hg _
  have hB':vi base v' (ls++[c]) w':=by
   unfold vi
   rw[List.length_append,List.map_append]
   exact hown
  obtain⟨ao,cap',rfl⟩:=YF hB'
  rw[List.length_append]at hB'|-
  exact h ao cap' w' hB' hg
structure Splitted (l:List UInt8) (w:World) (e:Ending) (w':World):Prop where
 yes: ∀ns,Nm.split l=some ns-> ∃ao cap,e= .returned (.tuple #[.slice ao ns.length cap,.int .i64 0])/\vi w.heap.size (.slice ao ns.length cap) ns w'
 no:Nm.split l=none->e= .returned (.tuple #[.slice none 0 0,.int .i64 14])
 below:Below w.heap.size w w'
theorem xG{l:List UInt8}{w w':World}(h:Nm.split l=none)(hb:Below w.heap.size w w'):Splitted l w (.returned (.tuple #[.slice none 0 0,.int .i64 14])) w':=
 ⟨(λns e=>by rw[h]at e;cases e),(λ_=>rfl),hb⟩
theorem jN{l:List UInt8}{ns:List (List UInt8)}{w w':World}{ao:Option Addr}{cap:Nat}(h:Nm.split l=some ns)(hT:vi w.heap.size (.slice ao ns.length cap) ns w')(hb:Below w.heap.size w w'):Splitted l w (.returned (.tuple #[.slice ao ns.length cap,.int .i64 0])) w':=
 ⟨(λms e=>by rw[h]at e;cases e;exact⟨ao,cap,rfl,hT⟩),(λe=>by rw[h]at e;cases e),hb⟩
theorem zbT(x:ByteArray){f i:Nat}(hf:f<=i)(hi:i<=x.size):x.extract f i=lstr (Nm.seg x.data.toList f i):=by
 have h:=cut_text x f (i-f) (by omega)
 rw[show f+(i-f)=i from by omega]at h
 exact h
theorem toList_eq{x:ByteArray}{l:List UInt8}(h:x.data.toList=l):(x.toList==l)=true:=by rw[Lib.toList_data,h,beq_iff_eq]
theorem QF{x:ByteArray}{l:List UInt8}(h:x.data.toList≠l):(x.toList==l)=false:=by rw[Lib.toList_data,beq_eq_false_iff_ne];exact h
structure Upto (p:ByteArray) (w:World) (out:List (List UInt8)) (f i:Nat) (a:Option Addr) (c:Nat) (wr:World):Prop where
 one:1<=i
 le:i<=p.size+1
 row:vi w.heap.size (.slice a out.length c) out wr
 below:Below w.heap.size w wr
 right:out.all Nm.right=true
 at_:i<=p.size->Nm.At p.data.toList f i out
 all:i=p.size+1->Nm.pieces (p.data.toList.drop 1)=out
 few:out.length<=i
theorem zi(p:ByteArray)(w:World)(hp:p.size<=1048576):Calls prog 46 #[.string p] w (Splitted p.data.toList w):=by
 have hL:p.data.toList.length=p.size:=Array.length_toList
 by_cases h0:p.data.toList=[47]
 ·have c0:=toList_eq h0
  have HS:=hid (show Splitted p.data.toList w (.returned (.tuple #[.slice none 0 0,.int .i64 0])) w from jN (ns:=[]) (by rw[h0];exact Nm.split_top) (World.ownsRow_nil _ _ _ _) (Below.refl _ _))
  clear h0 hL
  go_enter func46,ntmps46
  go_wp2_with fail
  go_ret2
  exact HS.out
 have c0:=QF h0
 by_cases h1:p.size=0
 ·have HS:=hid (xG (w:=w) (w':=w) (Nm.split_no h0 (.inl (by rw[hL];exact h1))) (Below.refl _ _))
  clear h0 hL
  go_enter func46,ntmps46
  go_wp2_with fail
  go_ret2
  exact HS.out
 have hpos:0<p.size:=by omega
 have hb0:=b_at p hpos
 have hz0:(p.size:Int)≠0:=by omega
 have hzb:((p.size:Int)==0)=false:=by rw[beq_eq_false_iff_ne];exact hz0
 have hpd:0<p.data.size:=hpos
 by_cases h2:p[0]=47
 ·have n0:((p[0].toNat:Int) !=47)=false:=by rw[h2];rfl
  have hsp:=Nm.split_is (p:=p.data.toList) (by rw[<-hb0];exact h2) (by rw[hL];exact hpos) h0
  have HSP:=hid hsp
  have HLL:=hid hL
  have hst:Upto p w [] 1 1 none 0 w:=⟨Nat.le_refl _,by omega,World.ownsRow_nil _ _ _ _,Below.refl _ _,rfl,λ_=>Nm.At.start (by rw[hL];exact hpos),(λh=>by omega),Nat.zero_le _⟩
  have HST:=hid hst
  clear hsp hst h0 hL hb0 h1 hz0
  clear h2
  go_enter func46,ntmps46
  go_wp2_with fail
  go_loopw [4,5,6] (λx4 x5 x6 wr=> ∃(out:List (List UInt8)) (f i:Nat) (a:Option Addr) (c:Nat),x4= .slice a out.length c/\x5= .int .i64 (f:Int)/\x6= .int .i64 (i:Int)/\Upto p w out f i a c wr) (λ_ _ x6 _=>p.size+1-(intOf x6).toNat)
  case atStart=>exact⟨[],1,1,none,0,rfl,rfl,rfl,HST.out⟩
  case round=>
   obtain⟨out,f,i,a,c,rfl,rfl,rfl,hU⟩:=hrel
   clear HST
   by_cases hle:i<=p.size
   ·have hA:=hU.at_ hle
    have i0:(i:Int)<=(p.size:Int):=by omega
    have hf0:(0:Int)<=(f:Int):=by omega
    have hfi:(f:Int)<=(i:Int):=by have:=hA.le;omega
    have hi0:(0:Int)<=(i:Int):=by omega
    have HU:=hid hU
    have HA:=hid hA
    clear hA hU
    by_cases hgo:i<p.size/\p.data.toList.getD i 0≠47
    ·obtain⟨hlt,hne⟩:=hgo
     have hib:=b_at p hlt
     have i1:(i:Int)<(p.size:Int):=by omega
     have hid2:i<p.data.size:=hlt
     have n1:((p[i].toNat:Int) !=47)=true:=by
      rw[bne_iff_ne]
      intro e
      exact hne (by rw[<-hib];exact UInt8.toNat_inj.1 (by rw[show((47:UInt8)).toNat=47 from rfl];omega))
     have HN:=hid (show Upto p w out f (i+1) a c wr from⟨by omega,by omega,HU.out.row,HU.out.below,HU.out.right,λ_=>HA.out.more (by rw[HLL.out];exact hlt) hne,(λh=>by omega),by have:=HU.out.few;omega⟩)
     clear hib hne
     go_wp2_with fail
     go_roundw
     case rel=>exact⟨out,f,i+1,a,c,rfl,rfl,by go_num,HN.out⟩
     case measure=>simp[intOf]<;>omega
    ·have hcut:i=p.data.toList.length\/p.data.toList.getD i 0=47:=by
      rw[HLL.out]
      by_cases h:i<p.size
      ·right
       exact Classical.byContradiction λhne=>hgo ⟨h,hne⟩
      ·left;omega
     have HM:=hid (HA.out.mem hcut)
     have hsg:=zbT p (f:=f) (i:=i) HA.out.le hle
     have HR:=hid (xu (lstr (Nm.seg p.data.toList f i)) wr (by rw[<-hsg,ByteArray.size_extract];omega))
     unfold yR at HR
     rw[lstr_data]at HR
     have HSG:=hid hsg
     have hn1:i<p.size->((p.data.toList.getD i 0).toNat:Int)=47:=λh=>by
      rcases hcut with e|e
      ·rw[HLL.out]at e;omega
      ·rw[e];rfl
     have HC:=hid hcut
     clear hsg hgo hcut
     rcases Nat.lt_or_ge i p.size with hlt|hge
     ·have i1:(i:Int)<(p.size:Int):=by omega
      have hid2:i<p.data.size:=hlt
      have n1:((p[i].toNat:Int) !=47)=false:=by rw[b_at p hlt,hn1 hlt];rfl
      have HC2:=hid (λ(_:i+1<=p.size)=>show p.data.toList.getD i 0=47 from by rcases HC.out with e|e;rw[HLL.out]at e;omega;exact e)
      have HC3:=hid (λ(h:i+1=p.size+1)=>show Nm.pieces (p.data.toList.drop 1)=out++[Nm.seg p.data.toList f i]from by omega)
      clear hn1 hlt
      go_wp2_with fail
      rw[HSG.out]
      refine HR.out.mono ?_
      rintro e w2 ⟨rfl,rfl⟩
      dsimp only
      cases hr:Nm.right (Nm.seg p.data.toList f i)with
      | false=>
       have HS:=hid (xG (w:=w) (show Nm.split p.data.toList=none from by
        rw[HSP.out,if_neg]
        rintro ⟨h,_⟩
        have:=List.all_eq_true.1 h _ HM.out
        rw[hr]at this;cases this) HU.out.below)
       clear hr
       go_wp2_with fail
       go_ret2
       exact HS.out
      |true=>
       have hal:=(Below.refl wr.heap.size wr).alloc (Nat.le_refl _) (.cells #[.string (p.extract f i)] 9)
       have HT1:=hid (vC HU.out.row hal)
       have HW2:=hid (HU.out.below.trans (hal.mono HU.out.below.size))
       have HRR:=hid hr
       have HFW:=hid (show out.length<=1048576 from by have:=HU.out.few;omega)
       clear hal hr
       go_wp2_with (at_builtin;refine UO rfl _ _ rfl HT1.out (by rfl) wr.heap.size _ (Nm.seg p.data.toList f i) HSG.out (by rfl) (by simp) HFW.out HW2.out.size ?_;intro ao4 cap4 w4 hT4 hgrow4;have HT2:=hid hT4;have HW3:=hid (HW2.out.grown hgrow4 HW2.out.size (λj hj=>um HT1.out j hj));clear hT4 hgrow4)
       go_roundw
       case rel=>exact⟨out++[Nm.seg p.data.toList f i],i+1,i+1,ao4,cap4,by rw[List.length_append];rfl,by go_num,by go_num,⟨by omega,by omega,by rw[List.length_append];exact HT2.out,HW3.out,by rw[List.all_append,HU.out.right,List.all_cons,HRR.out];rfl,λh=>HA.out.cut (by rw[HLL.out];omega) (HC2.out h),λh=>HC3.out h,by rw[List.length_append];have:=HU.out.few;simp;omega⟩⟩
       case measure=>simp[intOf]<;>omega
     ·have i1:(p.size:Int)<=(i:Int):=by omega
      have hie:i=p.size:=by omega
      have HC2:=hid (λ(h:i+1<=p.size)=>show p.data.toList.getD i 0=47 from by omega)
      have HC3:=hid (λ(_:i+1=p.size+1)=>show Nm.pieces (p.data.toList.drop 1)=out++[Nm.seg p.data.toList f i]from by
       have hA2:=HA.out
       rw[show i=p.data.toList.length from by rw[HLL.out];exact hie]at hA2|-
       exact hA2.last)
      clear hn1 hge hie
      go_wp2_with fail
      rw[HSG.out]
      refine HR.out.mono ?_
      rintro e w2 ⟨rfl,rfl⟩
      dsimp only
      cases hr:Nm.right (Nm.seg p.data.toList f i)with
      | false=>
       have HS:=hid (xG (w:=w) (show Nm.split p.data.toList=none from by
        rw[HSP.out,if_neg]
        rintro ⟨h,_⟩
        have:=List.all_eq_true.1 h _ HM.out
        rw[hr]at this;cases this) HU.out.below)
       clear hr
       go_wp2_with fail
       go_ret2
       exact HS.out
      |true=>
       have hal:=(Below.refl wr.heap.size wr).alloc (Nat.le_refl _) (.cells #[.string (p.extract f i)] 9)
       have HT1:=hid (vC HU.out.row hal)
       have HW2:=hid (HU.out.below.trans (hal.mono HU.out.below.size))
       have HRR:=hid hr
       have HFW:=hid (show out.length<=1048576 from by have:=HU.out.few;omega)
       clear hal hr
       go_wp2_with (at_builtin;refine UO rfl _ _ rfl HT1.out (by rfl) wr.heap.size _ (Nm.seg p.data.toList f i) HSG.out (by rfl) (by simp) HFW.out HW2.out.size ?_;intro ao4 cap4 w4 hT4 hgrow4;have HT2:=hid hT4;have HW3:=hid (HW2.out.grown hgrow4 HW2.out.size (λj hj=>um HT1.out j hj));clear hT4 hgrow4)
       go_roundw
       case rel=>exact⟨out++[Nm.seg p.data.toList f i],i+1,i+1,ao4,cap4,by rw[List.length_append];rfl,by go_num,by go_num,⟨by omega,by omega,by rw[List.length_append];exact HT2.out,HW3.out,by rw[List.all_append,HU.out.right,List.all_cons,HRR.out];rfl,λh=>HA.out.cut (by rw[HLL.out];omega) (HC2.out h),λh=>HC3.out h,by rw[List.length_append];have:=HU.out.few;simp;omega⟩⟩
       case measure=>simp[intOf]<;>omega
   ·obtain rfl:i=p.size+1:=by have:=hU.le;omega
    have hall:=hU.all rfl
    have hr:=hU.right
    have hrow:=hU.row
    have HB:=hid hU.below
    clear hU
    rcases Nat.lt_or_ge 8 out.length with h8|h8
    ·have h8i:(8:Int)<(out.length:Int):=by omega
     have HS:=hid (xG (w:=w) (show Nm.split p.data.toList=none from by rw[HSP.out,hall,if_neg (by omega)]) HB.out)
     clear hall hr hrow h8
     go_wp2_with fail
     go_ret2
     exact HS.out
    ·have h8i:(out.length:Int)<=8:=by omega
     have HS:=hid (jN (w:=w) (ns:=out) (show Nm.split p.data.toList=some out from by rw[HSP.out,hall,if_pos ⟨hr,h8⟩]) hrow HB.out)
     clear hall hr hrow h8
     go_wp2_with fail
     go_ret2
     exact HS.out
 ·have n0:((p[0].toNat:Int) !=47)=true:=by
   rw[bne_iff_ne]
   intro e
   exact h2 (UInt8.toNat_inj.1 (by rw[show((47:UInt8)).toNat=47 from rfl];omega))
  have HS:=hid (xG (w:=w) (w':=w) (Nm.split_no h0 (.inr (by rw[<-hb0];exact h2))) (Below.refl _ _))
  clear h0 hL hb0 h1 hz0 h2
  go_enter func46,ntmps46
  go_wp2_with fail
  go_ret2
  exact HS.out
end Go.Proofs.YtabmamofnhcgbaaGreatDoor
namespace Go.Proofs.YtabmamofnhcgbaaGreatDoor
open Go.RowKit Go.Less
attribute [local go_sem 9000] zg zf
theorem jo{l:List UInt8}{ns:List (List UInt8)}(h:Nm.split l=some ns):ns.length<=8:=by
 have h1:=Nm.join_split h
 unfold Nm.join at h1
 split at h1
 ·rename_i hx;exact hx.1
 ·cases h1
def spl(p:ByteArray):Option (List ByteArray):=(Nm.split p.data.toList).map λns=>ns.map lstr
theorem zE{fn:Func}{p u v:Tmp}(h:fn.results= #[.tmp u,.cell p 43,.tmp v])(tmps:Array Value)(w:World)(g:Nat)(k m d t e:Value)
  (hp:tmps.getD p undef= .pointer (some ⟨g,0,none⟩)) (hg:w.heap[g]?=some (.cells #[k,m,d,t,e] 43 (0,0))):
  (results fn tmps).run prog w= .ok (.tuple #[tmps.getD u undef,.agg #[k,m,d,t,e],tmps.getD v undef]) w:=by
 simp only[results,h]
 simp only[List.mapM_cons,List.mapM_nil,Array.mapM_eq_mapM_toList,Sem.run_bind]
 simp[Result.andThen,hp,asAddr,run_loadVar_row (P:=prog) w g 43 43 #[k,m,d,t,e] (0,0) _ hg underlying43 rfl Jn]
theorem uj{a:Option Addr}{n p:Nat}{l:List En}{W:World}{k m:Int}{d t:ByteArray}{a':Option Addr}{n' c':Nat}(h:Ents a n l W)
  (hp:W.heap[p]?=some (.cells #[.int .i64 k,.int .i64 m,.string d,.string t,.slice a' n' c'] 43 (0,0))) (v0 v1 v2 v3 v4:Value):
  Ents a n l (((((W.setCell ⟨p,0,none⟩ v0).setCell ⟨p,1,none⟩ v1).setCell ⟨p,2,none⟩ v2).setCell ⟨p,3,none⟩ v3).setCell ⟨p,4,none⟩ v4):=by
 have hk: ∀q,q≠p->(((((W.setCell ⟨p,0,none⟩ v0).setCell ⟨p,1,none⟩ v1).setCell ⟨p,2,none⟩ v2).setCell ⟨p,3,none⟩ v3).setCell ⟨p,4,none⟩ v4).heap[q]?=W.heap[q]?:=λq hq=>by
  rw[heap_setCell_other _ _ q _ (λe=>hq e),heap_setCell_other _ _ q _ (λe=>hq e),heap_setCell_other _ _ q _ (λe=>hq e),heap_setCell_other _ _ q _ (λe=>hq e),heap_setCell_other _ _ q _ (λe=>hq e)]
 refine⟨h.count,λi hi=> ?_⟩
 obtain⟨b,off,rfl,h0,h1⟩:=h.cell i hi
 by_cases hb:b=p
 ·subst hb
  rw[cell_obj hp]at h0 h1
  generalize off+i*2=j at h0 h1
  match j with
  |0=>cases h0
  |1=>cases h0
  |2=>cases h1
  |3=>cases h1
  |4=>cases h0
  |j+5=>simp at h0
 ·refine⟨b,off,rfl, ?_, ?_⟩
  ·rw[<-h0];simp only[World.cell?,hk b hb]
  ·rw[<-h1];simp only[World.cell?,hk b hb]
def zF(l:List Fs.Item)(p:ByteArray):Int×Nd.Node×Int:=match spl p with
 |none=>(0,Nd.none0,14)
 |some ns=>match Fs.walk l 1 ns with
  | .error e=>(0,Nd.none0,e)
  | .ok i=>(i,Fs.nodeD l i,0)
def zU(r:Int×Nd.Node×Int)(w:World)(e:Ending)(w':World):Prop:=
 ∃ea ec,e= .returned (.tuple #[.int .i64 r.1,nv r.2.1.kind r.2.1.mode r.2.1.data r.2.1.target ea r.2.1.ents.length ec,.int .i64 r.2.2])/\Ents ea r.2.1.ents.length r.2.1.ents w'/\Below w.heap.size w w'
theorem Fb.kept{w W W':World}{a:Option Addr}{n c:Nat}{nx:Int}(h:Fb w a n c nx W)(hb:Below W.heap.size W W'):Fb w a n c nx W':=
 ⟨(hb.block _ (lt_of_obj h.box)).trans h.box,(hb.block _ (lt_of_obj h.res)).trans h.res,h.below.trans (hb.mono h.below.size)⟩
theorem xX(c:Int){w W:World}(hb:Below w.heap.size w W){r:Int×Nd.Node×Int}(h:r=(0,Nd.none0,c)):
  zU r w (.returned (.tuple #[.int .i64 0,.agg #[.int .i64 0,.int .i64 0,.string ⟨#[]⟩,.string ⟨#[]⟩,.slice none 0 0],.int .i64 c])) W:=by
 subst h
 exact⟨none,0,rfl,zs _,hb⟩
theorem vu(l:List Fs.Item): ∀(ns:List ByteArray) (i:Int),(∃j,Fs.walk l i ns= .ok j)\/Fs.walk l i ns= .error 10\/Fs.walk l i ns= .error 4
 |[],i=> .inl ⟨i,rfl⟩
 | n::ns,i=>by
  unfold Fs.walk
  split
  ·exact .inr (.inl rfl)
  ·split
   ·exact .inr (.inr rfl)
   ·exact vu l ns _
theorem xJ(a:Option Addr)(n c:Nat)(nx:Int)(L:List MI)(p:ByteArray)(w:World)(hI:Items a n L w)(hn:n<=100000)(hF:Vb (its L))(hp:p.size<=1048576):
  Calls prog 17 #[fv a n c nx,.string p] w (zU (zF (its L) p) w):=by
 have HN:=hid (λk W (hb:Below w.heap.size w W)=>xI a n c nx L k W (hI.below hb) (Nat.le_trans hn (by decide)))
 have HWk:=hid (λb0 ln cn ss W (hb:Below w.heap.size w W) (h:Strs b0 ln ss W) (hl:ln<=100000)=>YZ a n c nx L b0 ln cn ss W (hI.below hb) hn hF h hl)
 have HS:=hid (λW=>zi p W hp)
 have HB:=hid (Z5 w a n c nx)
 clear hI hF
 generalize its L=l at*
 go_enter func17,ntmps17
 go_wp2_with fail
 generalize (w.alloc (.cells #[.slice a n c,.int .i64 nx] 29)).alloc (.cells #[.int .i64 0,.int .i64 0,.string ⟨#[]⟩,.string ⟨#[]⟩,.slice none 0 0] 43)=W0 at HB|-
 refine(HS.out W0).mono ?_
 rintro e w1 hX
 have HB1:=hid (HB.out.kept hX.below)
 cases hsp:Nm.split p.data.toList with
 |none=>
  obtain rfl:=hX.no hsp
  have HR:=hid (show zF l p=(0,Nd.none0,14) by unfold zF spl;rw[hsp];rfl)
  clear hX hsp HB
  have r0:=yl HB1.out.res
  have q0:=xp HB1.out.res
  dsimp only
  go_wp2_with fail
  refine bodyPost_ret_by (zE rfl _ _ (w.heap.size+1) _ _ _ _ _ rfl (set5 _ _ _ _ _ HB1.out.res)) rfl ?_
  exact xX 14 (zI HB1.out.below (Nat.le_succ _) _ _ _ _ _) HR.out
 | some ns=>
  obtain⟨ao,cap,rfl,hT⟩:=hX.yes ns hsp
  have hS:=yA hT rfl
  have h8:ns.length<=100000:=by
   have:=(show Nm.split p.data.toList=some ns from hsp)
   have:=jo this
   omega
  have HWa:=hid (HWk.out ao ns.length cap (ns.map lstr) w1 HB1.out.below hS h8)
  have HR:=hid (show zF l p=match Fs.walk l 1 (ns.map lstr)with
   | .error e=>(0,Nd.none0,e)
   | .ok i=>(i,Fs.nodeD l i,0) by unfold zF spl;rw[hsp];rfl)
  clear hX hsp HB hT hS h8 HWk
  generalize ns.map lstr=ss at*
  have cb0:=zn HB1.out.box
  dsimp only
  go_wp2_with fail
  refine HWa.out.mono ?_
  have HCode:=hid (vu l ss 1)
  generalize Fs.walk l 1 ss=r at*
  rintro e w2 ⟨rfl,hb2⟩
  have HB2:=hid (HB1.out.kept hb2)
  clear hb2 cb0
  cases r with
  | error code=>
   have hne:code≠0:=by
    rcases HCode.out with ⟨j,h⟩|h|h
    ·cases h
    ·injection h with h;omega
    ·injection h with h;omega
   have r0:=yl HB2.out.res
   have q0:=xp HB2.out.res
   dsimp only[Qy]
   go_wp2_with fail
   refine bodyPost_ret_by (zE rfl _ _ (w.heap.size+1) _ _ _ _ _ rfl (set5 _ _ _ _ _ HB2.out.res)) rfl ?_
   exact xX code (zI HB2.out.below (Nat.le_succ _) _ _ _ _ _) HR.out
  | ok i=>
   have cb0:=zn HB2.out.box
   dsimp only[Qy]
   go_wp2_with fail
   refine(HN.out i w2 HB2.out.below).mono ?_
   have HR:=hid (show zF l p=(i,Fs.nodeD l i,0)from HR.out)
   unfold xF
   generalize Fs.nodeD l i=x at*
   obtain⟨k,m,d,t,es⟩:=x
   rintro e w3 ⟨ea,ec,rfl,hE,hb3⟩
   have HX:=hid hE
   have HB3:=hid (HB2.out.kept hb3)
   have HB4:=hid (HB3.out.kept (below_one w3 (.cells #[.int .i64 k,.int .i64 m,.string d,.string t,.slice ea es.length ec] 43)))
   have HX4:=hid (HX.out.below (below_one w3 (.cells #[.int .i64 k,.int .i64 m,.string d,.string t,.slice ea es.length ec] 43)))
   have HO4:=hid (heap_alloc_new w3 (.cells #[.int .i64 k,.int .i64 m,.string d,.string t,.slice ea es.length ec] 43))
   clear cb0 hb3 hE
   dsimp only
   go_wp2_with fail
   generalize w3.alloc (.cells #[.int .i64 k,.int .i64 m,.string d,.string t,.slice ea es.length ec] 43)=W4 at HB4 HX4 HO4|-
   have hne:w3.heap.size≠w.heap.size+1:=Nat.ne_of_gt (lt_of_obj HB3.out.res)
   generalize w3.heap.size=p4 at HO4 hne|-
   have n0:=yl HO4.out
   have r0:=yl HB4.out.res
   have q0:=xp HB4.out.res
   go_region_law fail
   all_goals
    have HBf:=hid (zI HB4.out.below (Nat.le_succ _) (.int .i64 k) (.int .i64 m) (.string d) (.string t) (.slice ea es.length ec))
    have HEf:=hid (uj HX4.out HB4.out.res (.int .i64 k) (.int .i64 m) (.string d) (.string t) (.slice ea es.length ec))
    go_wp2_with fail
    refine bodyPost_ret_by (zE rfl _ _ (w.heap.size+1) _ _ _ _ _ rfl (show _ from set5 _ _ _ _ _ HB4.out.res)) rfl ?_
    rw[HR.out]
    exact⟨ea,ec,rfl,HEf.out.below (Below.refl _ _).drew,HBf.out.drew⟩
end Go.Proofs.YtabmamofnhcgbaaGreatDoor
namespace Go.Proofs.YtabmamofnhcgbaaGreatDoor
open Go.RowKit Go.Less
open T8 (pv Dg)
abbrev Bo:=Nat×Array Value×TypeId
structure Bxs (w:World) (L:List Bo) (W:World):Prop where
 at_: ∀(i:Nat) (b:Bo),L[i]?=some b->W.heap[b.1]?=some (.cells b.2.1 b.2.2 (0,0))
 lo: ∀(i:Nat) (b:Bo),L[i]?=some b->w.heap.size<=b.1
 apart: ∀(i j:Nat) (b c:Bo),L[i]?=some b->L[j]?=some c->i≠j->b.1≠c.1
 below:Below w.heap.size w W
theorem Bxs.nil(w:World):Bxs w [] w:=⟨λi b h=>by simp at h,λi b h=>by simp at h,λi j b c h=>by simp at h,Below.refl _ _⟩
theorem Bxs.kept{w:World}{L:List Bo}{W W':World}(h:Bxs w L W)(hb:Below W.heap.size W W'):Bxs w L W':=
 ⟨λi b hi=>(hb.block _ (lt_of_obj (h.at_ i b hi))).trans (h.at_ i b hi),h.lo,h.apart,h.below.trans (hb.mono h.below.size)⟩
theorem km{L:List Bo}{x b:Bo}{i:Nat}(h:(L++[x])[i]?=some b):(i<L.length/\L[i]?=some b)\/(i=L.length/\b=x):=by
 by_cases hi:i<L.length
 ·rw[List.getElem?_append_left hi]at h;exact .inl ⟨hi,h⟩
 ·rw[List.getElem?_append_right (by omega)]at h
  cases hk:i-L.length with
  |zero=>rw[hk]at h;injection h with h;exact .inr ⟨by omega,h.symm⟩
  |succ k=>rw[hk]at h;simp at h
theorem Bxs.more{w:World}{L:List Bo}{W:World}(h:Bxs w L W)(cs:Array Value)(t:TypeId){p:Nat}(hp:W.heap.size=p):Bxs w (L++[(p,cs,t)]) (W.alloc (.cells cs t)):=by
 subst hp
 have hk:=h.kept (below_one W (.cells cs t))
 refine⟨λi b hi=> ?_,λi b hi=> ?_,λi j b c hi hj hne=> ?_,hk.below⟩
 ·rcases km hi with ⟨_,hi⟩|⟨_,rfl⟩
  ·exact hk.at_ i b hi
  ·exact heap_alloc_new W _
 ·rcases km hi with ⟨_,hi⟩|⟨_,rfl⟩
  ·exact h.lo i b hi
  ·exact h.below.size
 ·rcases km hi with ⟨_,hi⟩|⟨rfl,rfl⟩<;>rcases km hj with ⟨_,hj⟩|⟨e,rfl⟩
  ·exact h.apart i j b c hi hj hne
  ·exact Nat.ne_of_lt (lt_of_obj (h.at_ i b hi))
  ·exact Nat.ne_of_gt (lt_of_obj (h.at_ j c hj))
  ·exact absurd e.symm hne
theorem Bxs.one(w:World)(cs:Array Value)(t:TypeId):Bxs w [(w.heap.size,cs,t)] (w.alloc (.cells cs t)):=(Bxs.nil w).more cs t rfl
theorem Bxs.two(w:World)(cs:Array Value)(t:TypeId)(ds:Array Value)(u:TypeId):Bxs w [(w.heap.size,cs,t),(w.heap.size+1,ds,u)] ((w.alloc (.cells cs t)).alloc (.cells ds u)):=(Bxs.one w cs t).more ds u (yw _ _)
theorem Bxs.three(w:World)(cs:Array Value)(t:TypeId)(ds:Array Value)(u:TypeId)(es:Array Value)(v:TypeId):Bxs w [(w.heap.size,cs,t),(w.heap.size+1,ds,u),(w.heap.size+1+1,es,v)] (((w.alloc (.cells cs t)).alloc (.cells ds u)).alloc (.cells es v)):=(Bxs.two w cs t ds u).more es v (by rw[yw,yw])
theorem Bxs.cell{w:World}{L:List Bo}{W:World}(h:Bxs w L W)(i:Nat){p:Nat}{cs:Array Value}{t:TypeId}(hi:L[i]?=some (p,cs,t))(k:Nat):W.cell? ⟨p,k,none⟩=cs[k]?:=cell_obj (h.at_ i _ hi) k
theorem Bxs.free{w:World}{L:List Bo}{W:World}(h:Bxs w L W)(i:Nat){p:Nat}{cs:Array Value}{t:TypeId}(hi:L[i]?=some (p,cs,t))(k:Nat):W.frozen? ⟨p,k,none⟩=false:=free_obj (h.at_ i _ hi) k
theorem Bxs.obj{w:World}{L:List Bo}{W:World}(h:Bxs w L W)(i:Nat){p:Nat}{cs:Array Value}{t:TypeId}(hi:L[i]?=some (p,cs,t)):W.heap[p]?=some (.cells cs t (0,0)):=h.at_ i _ hi
theorem Bxs.put{w:World}{L:List Bo}{W:World}(h:Bxs w L W)(i:Nat){p:Nat}{cs:Array Value}{t:TypeId}(hi:L[i]?=some (p,cs,t))(k:Nat)(v:Value):Bxs w (L.set i (p,cs.setIfInBounds k v,t)) (W.setCell ⟨p,k,none⟩ v):=by
 have hl:i<L.length:=(List.getElem?_eq_some_iff.1 hi).1
 have old: ∀(j:Nat) (b:Bo),(L.set i (p,cs.setIfInBounds k v,t))[j]?=some b->(j=i/\b=(p,cs.setIfInBounds k v,t))\/(j≠i/\L[j]?=some b):=λj b hj=>by
  rw[List.getElem?_set]at hj
  split at hj
  ·rename_i e
   subst e
   try rw[if_pos hl]at hj
   injection hj with hj
   exact .inl ⟨rfl,hj.symm⟩
  ·rename_i e;exact .inr ⟨λx=>e x.symm,hj⟩
 refine⟨λj b hj=> ?_,λj b hj=> ?_,λj m b c hj hm hne=> ?_,h.below.setCell (h.lo i _ hi) v⟩
 ·rcases old j b hj with ⟨rfl,rfl⟩|⟨hne,hj⟩
  ·exact heap_setCell_same W p k cs t v (h.at_ _ _ hi)
  ·rw[heap_setCell_other W ⟨p,k,none⟩ b.1 v (h.apart j i b _ hj hi hne)]
   exact h.at_ j b hj
 ·rcases old j b hj with ⟨rfl,rfl⟩|⟨_,hj'⟩
  ·exact h.lo j (p,cs,t) hi
  ·exact h.lo j b hj'
 ·rcases old j b hj with ⟨e1,rfl⟩|⟨h1,hj'⟩<;>rcases old m c hm with ⟨e2,rfl⟩|⟨h2,hm'⟩
  ·exact absurd (e1.trans e2.symm) hne
  ·exact h.apart i m (p,cs,t) c hi hm' (λx=>h2 x.symm)
  ·exact h.apart j i b (p,cs,t) hj' hi h1
  ·exact h.apart j m b c hj' hm' hne
theorem Bxs.put5{w:World}{L:List Bo}{W:World}(h:Bxs w L W)(i:Nat){p:Nat}{x0 x1 x2 x3 x4:Value}{t:TypeId}(hi:L[i]?=some (p,#[x0,x1,x2,x3,x4],t))(v0 v1 v2 v3 v4:Value):
  Bxs w (L.set i (p,#[v0,v1,v2,v3,v4],t)) (((((W.setCell ⟨p,0,none⟩ v0).setCell ⟨p,1,none⟩ v1).setCell ⟨p,2,none⟩ v2).setCell ⟨p,3,none⟩ v3).setCell ⟨p,4,none⟩ v4):=by
 have hl:i<L.length:=(List.getElem?_eq_some_iff.1 hi).1
 have h1:=h.put i hi 0 v0
 have h2:=h1.put i (p:=p) (cs:= #[v0,x1,x2,x3,x4]) (t:=t) (by rw[List.getElem?_set_self hl];rfl) 1 v1
 rw[List.set_set]at h2
 have h3:=h2.put i (p:=p) (cs:= #[v0,v1,x2,x3,x4]) (t:=t) (by rw[List.getElem?_set_self hl];rfl) 2 v2
 rw[List.set_set]at h3
 have h4:=h3.put i (p:=p) (cs:= #[v0,v1,v2,x3,x4]) (t:=t) (by rw[List.getElem?_set_self hl];rfl) 3 v3
 rw[List.set_set]at h4
 have h5:=h4.put i (p:=p) (cs:= #[v0,v1,v2,v3,x4]) (t:=t) (by rw[List.getElem?_set_self hl];rfl) 4 v4
 rw[List.set_set]at h5
 exact h5
structure Kept (p:Nat) (T:TypeId) (W W':World):Prop where
 obj: ∃cs fr,W.heap[p]?=some (.cells cs T fr)
 tree:T≠170
 map:T≠172
 all: ∀k,k≠p->W'.heap[k]?=W.heap[k]?
theorem Kept.block{p:Nat}{T:TypeId}{W W':World}(h:Kept p T W W'){b:Nat}{cs:Array Value}{t:TypeId}{fr:Nat×Nat}(hb:W.heap[b]?=some (.cells cs t fr))(ht:T≠t):W'.heap[b]?=some (.cells cs t fr):=by
 by_cases e:b=p
 ·subst e
  obtain⟨cs',fr',ho⟩:=h.obj
  rw[ho]at hb
  injection hb with hb
  injection hb with _ e _
  exact absurd e ht
 ·exact(h.all b e).trans hb
theorem Kept.trees{p:Nat}{T:TypeId}{W W':World}(h:Kept p T W W'): ∀{t:T8.Tt} {q:Option Nat},T8.Tree W q t->T8.Tree W' q t
 | .leaf,_,hq=>hq
 | .node _ _ _ _,_,⟨b,pl,pr,e,hc,hk,hv,hl,hr⟩=>⟨b,pl,pr,e,h.block hc h.tree,hk,hv,h.trees hl,h.trees hr⟩
theorem Kept.maps{p:Nat}{T:TypeId}{W W':World}(h:Kept p T W W'){m:Option Nat}{t:T8.Tt}(hm:T8.IsMap W m t):T8.IsMap W' m t:=by
 cases m with
 |none=>exact hm
 |some b=>obtain⟨q,h1,h2⟩:=hm;exact⟨q,h.block h1 h.map,h.trees h2⟩
theorem Sv.kept{p:Nat}{T:TypeId}{W W':World}{m:Option Nat}{l:List Fs.Item}(h:Sv W m l)(hk:Kept p T W W')(hD:Dg W'):Sv W' m l:=⟨⟨h.rp.sorted,hk.maps h.rp.map⟩,h.ok,hD⟩
theorem Kept.cell{p:Nat}{T:TypeId}{W:World}{cs:Array Value}{fr:Nat×Nat}(h:W.heap[p]?=some (.cells cs T fr))(t1:T≠170)(t2:T≠172)(k:Nat)(v:Value):Kept p T W (W.setCell ⟨p,k,none⟩ v):=
 ⟨⟨_,_,h⟩,t1,t2,λj hj=>heap_setCell_other W ⟨p,k,none⟩ j v hj⟩
theorem zb{ops:Array Oper}{rest:List Oper}{o:Oper}{a:Act}{w0 w:World}{L:List Bo}{Q:Exit->Act->World->Prop}(H:Bxs w0 L w)(i:Nat)(hgd:o.guard=none)(ty:TypeId)(x y:Operand)(ho:o.op= .store ty x y)
  {p:Nat} {old:Array Value} (hi:L[i]?=some (p,old,ty)) (cells:Array Value) (hx:a.eval x= .pointer (some ⟨p,0,none⟩)) (hy:a.eval y= .agg cells)
  (hz:(prog.info? ty).map (·.size)=some cells.size) (hold:old.size=cells.size) (h1:cells.toList.all (·.oneCell')=true) (t1:ty≠170) (t2:ty≠172)
  (h: ∀w',Bxs w0 (L.set i (p,cells,ty)) w'->Kept p ty w w'->Below w0.heap.size w0 w'->w'.heap.size=w.heap.size->wpList prog ops Q rest (a.put o.dst undef) w'):wpList prog ops Q (o::rest) a w:=by
 have hg:=H.at_ i _ hi
 have hl:i<L.length:=(List.getElem?_eq_some_iff.1 hi).1
 have hlo:=H.lo i _ hi
 have hb:Below w0.heap.size w0 (w.setRow p cells):=⟨H.below.os,H.below.tape,H.below.output,by rw[setRow_size];exact H.below.size,λk hk=>(setRow_other _ _ _ _ (by simp only at hlo;omega)).trans (H.below.block k hk)⟩
 refine wpList_store_row hgd ty x y ho p cells hx hy ty old hg hz hold (by rw[<-Array.all_toList];exact h1) (h _ ⟨λj b hj=> ?_,λj b hj=> ?_,λj m b c hj hm hne=> ?_,hb⟩ ⟨⟨_,_,hg⟩,t1,t2,λk hk=>setRow_other _ _ _ _ hk⟩ hb (setRow_size _ _ _))
 ·rw[List.getElem?_set]at hj
  split at hj
  ·try rw[if_pos hl]at hj
   injection hj with hj
   subst hj
   exact setRow_heap _ _ _ _ _ _ hg
  ·rename_i e
   rw[setRow_other _ _ _ _ (H.apart j i b _ hj hi (λx=>e x.symm))]
   exact H.at_ j b hj
 ·rw[List.getElem?_set]at hj
  split at hj
  ·try rw[if_pos hl]at hj
   injection hj with hj
   subst hj
   exact hlo
  ·exact H.lo j b hj
 ·rw[List.getElem?_set]at hj hm
  split at hj<;>split at hm
  ·rename_i e1 e2;exact absurd (e1.symm.trans e2) hne
  ·rename_i e1 e2
   try rw[if_pos hl]at hj
   injection hj with hj
   subst hj
   exact H.apart i m (p,old,ty) c hi hm e2
  ·rename_i e1 e2
   try rw[if_pos hl]at hm
   injection hm with hm
   subst hm
   exact H.apart j i b (p,old,ty) hj hi (λx=>e1 x.symm)
  ·exact H.apart j m b c hj hm hne
def Xp(cs:Array Value):Prop:= ∀j s i,cs[j]?=some (.string s)->cs[j+1]?=some (.int .i64 i)->False
theorem jt(k m:Int)(d t:ByteArray)(a:Option Addr)(n c:Nat):Xp #[.int .i64 k,.int .i64 m,.string d,.string t,.slice a n c]:=λj s i h0 h1=>by
 match j with
 |0=>cases h0
 |1=>cases h0
 |2=>cases h1
 |3=>cases h1
 |4=>cases h0
 |j+5=>simp at h0
theorem zeE(m:Option Nat)(nx:Int):Xp #[pv m,.int .i64 nx]:=λj s i h0 h1=>by
 match j with
 |0=>cases h0
 |1=>cases h0
 |j+2=>simp at h0
theorem V5(q k m:Int)(d t:ByteArray)(a:Option Addr)(n c:Nat)(x:ByteArray):Xp #[.int .i64 q,.int .i64 k,.int .i64 m,.string d,.string t,.slice a n c,.string x]:=λj s i h0 h1=>by
 match j with
 |0=>cases h0
 |1=>cases h0
 |2=>cases h0
 |3=>cases h1
 |4=>cases h1
 |5=>cases h0
 |6=>simp at h1
 |j+7=>simp at h0
theorem Kept.ents{p:Nat}{T:TypeId}{W W':World}(hk:Kept p T W W'){cs:Array Value}{t:TypeId}(hp:W.heap[p]?=some (.cells cs t (0,0)))(hn:Xp cs){a:Option Addr}{n:Nat}{l:List En}(h:Ents a n l W):Ents a n l W':=by
 refine⟨h.count,λi hi=> ?_⟩
 obtain⟨b,off,rfl,h0,h1⟩:=h.cell i hi
 by_cases hb:b=p
 ·subst hb
  rw[cell_obj hp]at h0 h1
  exact(hn _ _ _ h0 h1).elim
 ·refine⟨b,off,rfl, ?_, ?_⟩
  ·rw[<-h0];simp only[World.cell?,hk.all b hb]
  ·rw[<-h1];simp only[World.cell?,hk.all b hb]
theorem KF{w w1 W W':World}{p:Nat}{T:TypeId}(h1:Below w1.heap.size w1 W)(hk:Kept p T W W')(hp:w1.heap.size<=p)(hs:W'.heap.size=W.heap.size)(hb:Below w.heap.size w W)(hb':Below w.heap.size w W'):Below w1.heap.size w1 W':=
 ⟨hb'.os.trans (hb.os.symm.trans h1.os),hb'.tape.trans (hb.tape.symm.trans h1.tape),hb'.output.trans (hb.output.symm.trans h1.output),by rw[hs];exact h1.size,λk hkl=>(hk.all k (by omega)).trans (h1.block k hkl)⟩
theorem zbP:(prog.info? 98).map (·.size)=some 2:=by kernel_rfl
theorem zeh:(prog.info? 199).map (·.size)=some 7:=by kernel_rfl
theorem zh{fn:Func}{p u:Tmp}(h:fn.results= #[.cell p 98,.tmp u])(tmps:Array Value)(w:World)(g:Nat)(k m:Value)
  (hp:tmps.getD p undef= .pointer (some ⟨g,0,none⟩)) (hg:w.heap[g]?=some (.cells #[k,m] 98 (0,0))):
  (results fn tmps).run prog w= .ok (.tuple #[.agg #[k,m],tmps.getD u undef]) w:=by
 rw[results_cell_tmp h,hp]
 simp[asAddr,Result.andThen,run_loadVar_row (P:=prog) w g 98 98 #[k,m] (0,0) _ hg underlying98 rfl zbP]
theorem qF{fn:Func}{p:Tmp}(h:fn.results= #[.cell p 98])(tmps:Array Value)(w:World)(g:Nat)(k m:Value)
  (hp:tmps.getD p undef= .pointer (some ⟨g,0,none⟩)) (hg:w.heap[g]?=some (.cells #[k,m] 98 (0,0))):
  (results fn tmps).run prog w= .ok (.agg #[k,m]) w:=
 results_cell_row (P:=prog) h _ _ g 98 #[k,m] (0,0) _ hp hg underlying98 rfl zbP
theorem yW{fn:Func}{p u:Tmp}(h:fn.results= #[.cell p 199,.tmp u])(tmps:Array Value)(w:World)(g:Nat)(a b c d e f k:Value)
  (hp:tmps.getD p undef= .pointer (some ⟨g,0,none⟩)) (hg:w.heap[g]?=some (.cells #[a,b,c,d,e,f,k] 199 (0,0))):
  (results fn tmps).run prog w= .ok (.tuple #[.agg #[a,b,c,d,e,f,k],tmps.getD u undef]) w:=by
 rw[results_cell_tmp h,hp]
 simp[asAddr,Result.andThen,run_loadVar_row (P:=prog) w g 199 199 #[a,b,c,d,e,f,k] (0,0) _ hg underlying199 rfl zeh]
def zP(r:Except Int Fs.FS)(w:World)(e:Ending)(w':World):Prop:=Below w.heap.size w w'/\match r with
 | .error c=>c≠0/\e= .returned (.tuple #[.agg #[.pointer none,.int .i64 0],.int .i64 c])
 | .ok f=> ∃m,e= .returned (.tuple #[stv m f.next,.int .i64 0])/\Sv w' m f.l
section
variable {w : World} {L : List Bo} {W : World}
theorem Bxs.c2(h:Bxs w L W)(i:Nat){p:Nat}{x y:Value}{t:TypeId}(hi:L[i]?=some (p,#[x,y],t)):W.cell? ⟨p,0,none⟩=some x/\W.cell? ⟨p,1,none⟩=some y:=⟨h.cell i hi 0,h.cell i hi 1⟩
theorem Bxs.c5(h:Bxs w L W)(i:Nat){p:Nat}{a b c d e:Value}{t:TypeId}(hi:L[i]?=some (p,#[a,b,c,d,e],t)):W.cell? ⟨p,0,none⟩=some a/\W.cell? ⟨p,1,none⟩=some b/\W.cell? ⟨p,2,none⟩=some c/\W.cell? ⟨p,3,none⟩=some d/\W.cell? ⟨p,4,none⟩=some e:=
 ⟨h.cell i hi 0,h.cell i hi 1,h.cell i hi 2,h.cell i hi 3,h.cell i hi 4⟩
theorem Bxs.c7(h:Bxs w L W)(i:Nat){p:Nat}{a b c d e f g:Value}{t:TypeId}(hi:L[i]?=some (p,#[a,b,c,d,e,f,g],t)):W.cell? ⟨p,0,none⟩=some a/\W.cell? ⟨p,1,none⟩=some b/\W.cell? ⟨p,2,none⟩=some c/\W.cell? ⟨p,3,none⟩=some d/\W.cell? ⟨p,4,none⟩=some e/\W.cell? ⟨p,5,none⟩=some f/\W.cell? ⟨p,6,none⟩=some g:=
 ⟨h.cell i hi 0,h.cell i hi 1,h.cell i hi 2,h.cell i hi 3,h.cell i hi 4,h.cell i hi 5,h.cell i hi 6⟩
end
end Go.Proofs.YtabmamofnhcgbaaGreatDoor
namespace Go.Proofs.YtabmamofnhcgbaaGreatDoor
open T8 (pv)
theorem bx3(w:World)(m:Option Nat)(nx kd:Int)(oa ob:ByteArray)(oo og on:Int)(od:ByteArray): ∃W0,((w.alloc (.cells #[pv m,.int .i64 nx] 98)).alloc (.cells #[.int .i64 kd,.string oa,.string ob,.int .i64 oo,.int .i64 og,.int .i64 on,.string od] 35)).alloc (.cells #[.pointer none,.int .i64 0] 98)=W0/\RowKit.Hid (Bxs w [(w.heap.size,#[pv m,.int .i64 nx],98),(w.heap.size+1,#[.int .i64 kd,.string oa,.string ob,.int .i64 oo,.int .i64 og,.int .i64 on,.string od],35),(w.heap.size+1+1,#[.pointer none,.int .i64 0],98)] W0):=⟨_,rfl,hid (Bxs.three w _ _ _ _ _ _)⟩
end Go.Proofs.YtabmamofnhcgbaaGreatDoor
