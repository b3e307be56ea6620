/- A part of the proofs. -/
import Derived.BigRegion
import Derived.StillTailTactics
import Derived.Laws.CopyOwn
import Derived.ScopeJumps
import Derived.Shelf.Strings.Builder1
import Derived.Shelf.Strings.Builder2
import Derived.Shelf.Strings.BuilderF
import Derived.Shelf.Strings.BuilderK
import Derived.Shelf.Strings.Repeat
import Derived.Test.YtabmamofnhcgbaaGreatDoorC00
set_option maxRecDepth 1000000
set_option maxHeartbeats 16000000
open Go.Lib (hid)
open Go.Proofs.Tryz
namespace Go.Proofs.YtabmamofnhcgbaaGreatDoor.T8
open Go.RowKit Sha
attribute [local go_sem 9000] yO yJ yN xr yM yK yL un uo run_bytes4 run_bytes1
def zY(f:Nat->BitVec 32):Array Value:=((List.range 64).map λj=>wv (f j)).toArray
theorem zR(f:Nat->BitVec 32):(zY f).size=64:=by simp[zY]
theorem uK(f:Nat->BitVec 32)(j:Nat)(h:j<64):(zY f)[j]?=some (wv (f j)):=by simp[zY,h]
theorem Vc(f:Nat->BitVec 32)(k:Nat)(x:BitVec 32):(zY f).setIfInBounds k (wv x)=zY (λj=>if j=k then x else f j):=by
 apply Array.ext
 ·simp[zY]
 ·intro i h1 h2
  have h3:i<64:=by simpa[zY] using h2
  rw[Array.getElem_setIfInBounds (by simpa using h1)]
  by_cases hk:k=i
  ·subst hk;simp[zY]
  ·rw[if_neg hk];simp[zY,show¬ i=k from λe=>hk e.symm]
theorem UX(f g:Nat->BitVec 32)(h: ∀j,j<64->f j=g j):zY f=zY g:=by
 unfold zY
 rw[List.map_congr_left (λj hj=>by rw[h j (List.mem_range.1 hj)])]
theorem kc(f:Nat->BitVec 32):((zY f).all λx=>x.oneCell')=true:=by
 simp[zY];intros;rfl
def yP(m:Nat->UInt8)(k j:Nat):BitVec 32:=if j<k then wd m j else 0
theorem Y3(m:Nat->UInt8)(k:Nat):(λj=>if j=k then wd m k else yP m k j)=yP m (k+1):=by
 funext j
 unfold yP
 by_cases h:j=k
 ·subst h;simp
 ·rw[if_neg h]
  by_cases h2:j<k
  ·rw[if_pos h2,if_pos (by omega)]
  ·rw[if_neg h2,if_neg (by omega)]
theorem KO(m:Nat->UInt8):zY (yP m 64)=zY (wd m):=UX _ _ λ_ hj=>if_pos hj
structure SpreadW (m:Nat->UInt8) (w:World) (k:Nat) (wr:World):Prop where
 own:wr.heap[w.heap.size+1]?=some (.cells (zY (yP m k)) 216 (0,0))
 res:wr.heap[w.heap.size]?=some (.cells (zY (λ_=>0)) 216 (0,0))
 below:Below w.heap.size w wr
theorem Y2(m:Nat->UInt8):yP m 0=λ_=>0:=by funext j;simp[yP]
theorem SpreadW.cell{m:Nat->UInt8}{w wr:World}{k:Nat}(h:SpreadW m w k wr)(j:Nat)(hj:j<64):wr.cell? ⟨w.heap.size+1,j,none⟩=some (wv (yP m k j)):=
 (cell_of_row wr (w.heap.size+1) j _ _ _ h.own).trans (uK _ j hj)
theorem SpreadW.free{m:Nat->UInt8}{w wr:World}{k:Nat}(h:SpreadW m w k wr)(j:Nat):wr.frozen? ⟨w.heap.size+1,j,none⟩=false:=
 frozen_of_row wr _ j _ _ h.own
theorem SpreadW.step{m:Nat->UInt8}{w wr:World}{k:Nat}(h:SpreadW m w k wr)(x:BitVec 32)(hx:x=wd m k):
  SpreadW m w (k+1) (wr.setCell ⟨w.heap.size+1,k,none⟩ (wv x)).drew:=by
 subst hx
 refine⟨?_, ?_, ?_⟩
 ·show(wr.setCell ⟨w.heap.size+1,k,none⟩ (wv (wd m k))).heap[w.heap.size+1]?=_
  rw[heap_setCell_same wr _ k _ _ _ h.own,Vc,Y3]
 ·show(wr.setCell ⟨w.heap.size+1,k,none⟩ (wv (wd m k))).heap[w.heap.size]?=_
  rw[heap_setCell_other wr _ _ _ (by simp)];exact h.res
 ·exact(h.below.setCell (p:=⟨w.heap.size+1,k,none⟩) (by simp) _).drew
theorem SpreadW.drewN{m:Nat->UInt8}{w wr:World}{k:Nat}(h:SpreadW m w k wr)(n:Nat):SpreadW m w k (wr.drewN n):=
 ⟨by rw[<-h.own];rfl,by rw[<-h.res];rfl,h.below.trans ⟨rfl,rfl,rfl,Nat.le_refl _,λ_ _=>rfl⟩⟩
theorem SpreadW.start(m:Nat->UInt8)(w:World):SpreadW m w 0 ((w.alloc (.cells (zY (λ_=>0)) 216)).alloc (.cells (zY (λ_=>0)) 216)):=by
 refine⟨?_, ?_, ?_⟩
 ·rw[heap_alloc2_new,Y2]
 ·rw[heap_alloc2_old]
 ·exact((Below.refl _ _).alloc (Nat.le_refl _) _).alloc (by simp) _
theorem Ja(b:Nat)(m:Nat->UInt8)(w:World)(hb:b<w.heap.size)(hm: ∀j,j<64->w.cell? ⟨b,8+j,none⟩=some (bv (m j))):
  Calls prog 251 #[.pointer (some ⟨b,0,none⟩)] w λe w'=>e= .returned (.agg (zY (wd m)))/\Below w.heap.size w w':=by
 have HM:=hid hm
 clear hm
 go_enter func251,ntmps251
 go_wp2
 go_loopw [11] (λi wr=> ∃k:Nat,k<=16/\i= .int .i64 k/\SpreadW m w k wr) (λi _=>16-(intOf i).toNat)
 case atStart=>exact⟨0,by omega,rfl,SpreadW.start m w⟩
 case round=>
  obtain⟨k,hk,rfl,hr⟩:=hrel
  by_cases hlt:k<16
  ·have hs:=uQ wr b 8 (4*(k:Int)) (4*k) (by omega) (by omega)
   have hc: ∀j,j<64->wr.cell? ⟨b,8+j,none⟩=some (bv (m j)):=λj hj=>(hr.below.cell (p:=⟨b,8+j,none⟩) hb).trans (HM.out j hj)
   have c0:=hc (4*k) (by omega)
   have c1:=hc (4*k+1) (by omega)
   have c2:=hc (4*k+2) (by omega)
   have c3:=hc (4*k+3) (by omega)
   have hl:4<=64-4*k:=by omega
   rw[<-Nat.add_assoc]at c1 c2 c3
   generalize 8+4*k=o at hs c0 c1 c2 c3
   generalize 64-4*k=L at hs hl
   clear hc
   have hl0:0<L:=by omega
   have hl1:(1:Int)<(L:Int):=by omega
   have hl2:(2:Int)<(L:Int):=by omega
   have hl3:(3:Int)<(L:Int):=by omega
   have hk64:(k:Int)<64:=by omega
   have hd:=hr.cell k (by omega)
   have hf:=hr.free k
   go_wp2
   go_still_tail 24,(by kernel_rfl)
   change wpList _ _ _ _ _ wr.drew
   go_wp2
   go_roundw
   case rel=>exact⟨k+1,by omega,by go_num,hr.step _ (by rw[Vh _ _ hlt];rfl)⟩
   case measure=>simp[intOf];omega
  ·replace hr:SpreadW m w 16 wr:=by
    obtain rfl:k=16:=by omega
    exact hr
   have hge:(16:Int)<=(k:Int):=by omega
   clear hlt hk
   go_wp2
   clear hge
   obtain⟨w2,rfl⟩: ∃w2:World,w2=wr:=⟨_,rfl⟩
   go_loopw [6] (λi wr=> ∃k:Nat,16<=k/\k<=64/\i= .int .i64 k/\SpreadW m w k wr) (λi _=>64-(intOf i).toNat)
   case atStart=>exact⟨16,by omega,by omega,rfl,hr⟩
   case round=>
    clear hr
    obtain⟨k,hk0,hk,rfl,hr⟩:=hrel
    by_cases hlt:k<64
    ·have p16:yP m k (k-16)=wd m (k-16):=if_pos (by omega)
     have p15:yP m k (k-15)=wd m (k-15):=if_pos (by omega)
     have p2:yP m k (k-2)=wd m (k-2):=if_pos (by omega)
     have c15:=hr.cell (k-15) (by omega)
     have c2:=hr.cell (k-2) (by omega)
     rw[p15]at c15
     rw[p2]at c2
     clear p15 p2
     have hj15:(k:Int)-15<64:=by omega
     have hj16:(k:Int)-16<64:=by omega
     have hj7:(k:Int)-7<64:=by omega
     have hj2:(k:Int)-2<64:=by omega
     have hk64:(k:Int)<64:=by omega
     go_wp2
     go_quiet (fail)
     go_wp2_with (go_at_call 252;refine(vT _ _ _ (by omega) (by omega)).mono ?_;rintro e w' ⟨rfl,rfl⟩)
     replace hr:SpreadW m w k (wr.drewN nq):=hr.drewN nq
     clear c15 c2
     generalize wr.drewN nq=wq at*
     have p16:yP m k (k-16)=wd m (k-16):=if_pos (by omega)
     have p7:yP m k (k-7)=wd m (k-7):=if_pos (by omega)
     have c16:=hr.cell (k-16) (by omega)
     have c7:=hr.cell (k-7) (by omega)
     rw[p16]at c16
     rw[p7]at c7
     clear p16 p7
     have hd:=hr.cell k (by omega)
     have hf:=hr.free k
     have g16:(16:Int)<=(k:Int):=by omega
     have g7:(7:Int)<=(k:Int):=by omega
     have e16:IntKind.i64.wrap ((k:Int)-16)=(k:Int)-16:=IntWalk.i64_in _ (by omega)
     have e7:IntKind.i64.wrap ((k:Int)-7)=(k:Int)-7:=IntWalk.i64_in _ (by omega)
     have t16:((k:Int)-16).toNat=k-16:=by omega
     have t7:((k:Int)-7).toNat=k-7:=by omega
     go_still_tail 15,(by kernel_rfl)
     clear e16 e7 t16 t7
     change wpList _ _ _ _ _ wq.drew
     go_wp2
     go_roundw
     case rel=>exact⟨k+1,by omega,by omega,by go_num,hr.step _ (KP m k hk0).symm⟩
     case measure=>simp[intOf];omega
    ·replace hr:SpreadW m w 64 wr:=by
      obtain rfl:k=64:=by omega
      exact hr
     have h64:=KO m
     go_wp2_with (first
      |(refine wpList_load_row rfl 216 _ rfl (w.heap.size+1) rfl 216 (zY (yP m 64)) (0,0) _ hr.own underlying216 rfl (by rw[zR];kernel_rfl) ?_)
      |(refine wpList_store_row rfl 216 _ _ rfl w.heap.size (zY (yP m 64)) rfl rfl 216 (zY (λ_=>0)) hr.res (by rw[zR];kernel_rfl) (by rw[zR,zR]) (kc _) ?_))
     refine bodyPost_ret (v:= .agg (zY (wd m))) (results_cell_row (P:=prog) Tryz.results251 _ _ w.heap.size 216 (zY (wd m)) (0,0) _ rfl ?_ underlying216 rfl (by rw[zR];kernel_rfl)) rfl ⟨rfl,below_setRow hr.below (Nat.le_refl _) _⟩
     rw[<-h64]
     exact setRow_heap _ _ _ _ _ _ hr.res
structure OnlyB (b:Nat) (w w':World):Prop where
 os:w'.os=w.os
 tape:w'.tape=w.tape
 output:w'.output=w.output
 size:w.heap.size<=w'.heap.size
 block: ∀k,k<w.heap.size->k≠b->w'.heap[k]?=w.heap[k]?
theorem OnlyB.refl(b:Nat)(w:World):OnlyB b w w:=⟨rfl,rfl,rfl,Nat.le_refl _,λ_ _ _=>rfl⟩
theorem OnlyB.trans{b:Nat}{x y z:World}(h:OnlyB b x y)(k:OnlyB b y z):OnlyB b x z:=
 ⟨k.os.trans h.os,k.tape.trans h.tape,k.output.trans h.output,Nat.le_trans h.size k.size,
  λi hi hne=>(k.block i (Nat.lt_of_lt_of_le hi h.size) hne).trans (h.block i hi hne)⟩
theorem OnlyB.of_below{b:Nat}{x y z:World}(h:OnlyB b x y)(k:Below y.heap.size y z):OnlyB b x z:=
 h.trans ⟨k.os,k.tape,k.output,k.size,λi hi _=>k.block i hi⟩
theorem OnlyB.alloc{b:Nat}{x y:World}(h:OnlyB b x y)(o:Obj):OnlyB b x (y.alloc o):=h.of_below ((Below.refl _ _).alloc (Nat.le_refl _) o)
theorem OnlyB.setCell{b:Nat}{x y:World}(h:OnlyB b x y){p:Addr}(hp:p.block=b\/x.heap.size<=p.block)(v:Value):OnlyB b x (y.setCell p v):=
 ⟨h.os,h.tape,h.output,Nat.le_trans h.size (by simp),λi hi hne=>(heap_setCell_other y p i v (by omega)).trans (h.block i hi hne)⟩
theorem OnlyB.setRow{b:Nat}{x y:World}(h:OnlyB b x y){g:Nat}(hp:g=b\/x.heap.size<=g)(cs:Array Value):OnlyB b x (y.setRow g cs):=
 ⟨h.os,h.tape,h.output,Nat.le_trans h.size (by simp),λi hi hne=>(setRow_other y g i cs (by omega)).trans (h.block i hi hne)⟩
theorem OnlyB.drewN{b:Nat}{x y:World}(h:OnlyB b x y)(n:Nat):OnlyB b x (y.drewN n):=⟨h.os,h.tape,h.output,h.size,h.block⟩
theorem OnlyB.below{b B:Nat}{x y:World}(h:OnlyB b x y)(hb:B<=b)(hB:B<=x.heap.size):Below B x y:=
 ⟨h.os,h.tape,h.output,h.size,λk hk=>h.block k (by omega) (by omega)⟩
theorem OnlyB.cell{b:Nat}{x y:World}(h:OnlyB b x y)(p:Addr)(hp:p.block<x.heap.size)(hne:p.block≠b):y.cell? p=x.cell? p:=
 World.cell?_of_block (h.block p.block hp hne)
def pcL(ws:Nat->BitVec 32)(m:Nat->UInt8)(h t:Int):List Value:=
 ((List.range 8).map λj=>wv (ws j))++(((List.range 64).map λj=>bv (m j))++[.int .i64 h,.int .u64 t])
def pc(ws:Nat->BitVec 32)(m:Nat->UInt8)(h t:Int):Array Value:=(pcL ws m h t).toArray
section
variable (ws : Nat -> BitVec 32) (m : Nat -> UInt8) (h t : Int)
theorem kD(j:Nat)(hj:j<8):(pc ws m h t)[j]?=some (wv (ws j)):=by
 simp only[pc,pcL,List.getElem?_toArray]
 rw[List.getElem?_append_left (by simpa using hj)]
 simp[hj]
theorem Ze(j:Nat)(hj:j<64):(pc ws m h t)[8+j]?=some (bv (m j)):=by
 simp only[pc,pcL,List.getElem?_toArray]
 rw[List.getElem?_append_right (by simp),List.getElem?_append_left (by simp;omega)]
 simp[hj]
theorem kE:(pc ws m h t)[72]?=some (.int .i64 h):=rfl
theorem VT:(pc ws m h t)[73]?=some (.int .u64 t):=rfl
theorem jr:(pc ws m h t).size=74:=by simp[pc,pcL]
theorem JN(k:Nat)(hk:k<8)(x:BitVec 32):(pc ws m h t).setIfInBounds k (wv x)=pc (λj=>if j=k then x else ws j) m h t:=by
 match k,hk with
 |0,_=>rfl
 |1,_=>rfl
 |2,_=>rfl
 |3,_=>rfl
 |4,_=>rfl
 |5,_=>rfl
 |6,_=>rfl
 |7,_=>rfl
theorem jT(x:Int):(pc ws m h t).setIfInBounds 72 (.int .i64 x)=pc ws m x t:=rfl
theorem VU(x:Int):(pc ws m h t).setIfInBounds 73 (.int .u64 x)=pc ws m h x:=rfl
end
structure RoundW (b g:Nat) (s:St) (m:Nat->UInt8) (h t:Int) (w wr:World):Prop where
 press:wr.heap[b]?=some (.cells (pc s.get m h t) 263 (0,0))
 own:wr.heap[g]?=some (.cells (zY (wd m)) 216 (0,0))
 only:OnlyB b w wr
theorem RoundW.drewN{b g:Nat}{s:St}{m:Nat->UInt8}{h t:Int}{w wr:World}(hr:RoundW b g s m h t w wr)(n:Nat):RoundW b g s m h t w (wr.drewN n):=
 ⟨hr.press,hr.own,hr.only.drewN n⟩
theorem XY{w:World}{f:Nat->Value}(h: ∀j,j<64->w.cell? ⟨2,j,none⟩=some (f j)):2<w.heap.size:=block_lt_of_cell (h 0 (by omega))
theorem RoundW.start{b:Nat}{s:St}{m:Nat->UInt8}{h t:Int}{w w1:World}(hp:w.heap[b]?=some (.cells (pc s.get m h t) 263 (0,0)))(hw1:Below w.heap.size w w1):
  RoundW b w1.heap.size s m h t w ((w1.alloc (.cells (zY (λ_=>0)) 216)).setRow w1.heap.size (zY (wd m))):=by
 have hb:b<w.heap.size:=lt_of_block hp
 have hs:=hw1.size
 refine⟨?_, ?_, ?_⟩
 ·rw[setRow_other _ _ _ _ (by omega),Below.heap_alloc _ _ _ (by omega),hw1.block b hb,hp]
 ·exact setRow_heap _ _ _ _ _ _ (heap_alloc_new w1 _)
 ·exact(((OnlyB.refl b w).of_below hw1).alloc _).setRow (.inr hs) _
def mix(s f:St)(k j:Nat):BitVec 32:=if j<k then s.get j+f.get j else s.get j
structure SumW (b:Nat) (s f:St) (m:Nat->UInt8) (h t:Int) (w:World) (k:Nat) (wr:World):Prop where
 press:wr.heap[b]?=some (.cells (pc (mix s f k) m h t) 263 (0,0))
 only:OnlyB b w wr
theorem SumW.cell{b:Nat}{s f:St}{m:Nat->UInt8}{h t:Int}{w wr:World}{k:Nat}(hr:SumW b s f m h t w k wr)(hk:k<8):wr.cell? ⟨b,k,none⟩=some (wv (s.get k)):=by
 rw[cell_of_row wr b _ _ _ _ hr.press,kD _ _ _ _ k hk,mix,if_neg (by omega)]
theorem SumW.free{b:Nat}{s f:St}{m:Nat->UInt8}{h t:Int}{w wr:World}{k:Nat}(hr:SumW b s f m h t w k wr)(j:Nat):wr.frozen? ⟨b,j,none⟩=false:=
 frozen_of_row wr b j _ _ hr.press
theorem SumW.step{b:Nat}{s f:St}{m:Nat->UInt8}{h t:Int}{w wr:World}{k:Nat}(hr:SumW b s f m h t w k wr)(hk:k<8):
  SumW b s f m h t w (k+1) (wr.setCell ⟨b,k,none⟩ (wv (s.get k+f.get k))).drew:=by
 refine⟨?_,(hr.only.setCell (p:=⟨b,k,none⟩) (.inl rfl) _).drewN 1⟩
 show(wr.setCell ⟨b,k,none⟩ (wv (s.get k+f.get k))).heap[b]?=_
 rw[heap_setCell_same wr b k _ _ _ hr.press,JN _ _ _ _ k hk]
 congr 3
 funext j
 unfold mix
 by_cases h1:j=k
 ·subst h1;simp
 ·rw[if_neg h1]
  by_cases h2:j<k
  ·rw[if_pos h2,if_pos (by omega)]
  ·rw[if_neg h2,if_neg (by omega)]
theorem zcn(f g:Nat->BitVec 32)(m:Nat->UInt8)(h t:Int)(hfg: ∀j,j<8->f j=g j):pc f m h t=pc g m h t:=by
 unfold pc pcL
 rw[List.map_congr_left (λj hj=>by rw[hfg j (List.mem_range.1 hj)])]
theorem SumW.done{b:Nat}{s f:St}{m:Nat->UInt8}{h t:Int}{w wr:World}(hr:SumW b s f m h t w 8 wr):
  wr.heap[b]?=some (.cells (pc (qV s f).get m h t) 263 (0,0)):=by
 rw[hr.press,zcn (mix s f 8) (qV s f).get m h t λj hj=>(if_pos hj).trans (Xn s f j).symm]
theorem Un(f:St)(k:Nat)(hk:k<8): ∀w:World,(Instr.index 215 (.agg #[wv f.a,wv f.b,wv f.c,wv f.d,wv f.e,wv f.f,wv f.g,wv f.h]) (.int .i64 (k:Int))).run prog w= .ok (wv (f.get k)) w:=by
 intro w
 match k,hk with
 |0,_=>exact rfl
 |1,_=>exact rfl
 |2,_=>exact rfl
 |3,_=>exact rfl
 |4,_=>exact rfl
 |5,_=>exact rfl
 |6,_=>exact rfl
 |7,_=>exact rfl
theorem ZF(b:Nat)(s:St)(m:Nat->UInt8)(h t:Int)(w:World)(hb1:b≠2)(hp:w.heap[b]?=some (.cells (pc s.get m h t) 263 (0,0)))
  (hK: ∀j,j<64->w.cell? ⟨2,j,none⟩=some (wv (kAt j))):
  Calls prog 222 #[.pointer (some ⟨b,0,none⟩)] w λe w'=>e= .returned (.tuple #[])/\OnlyB b w w'/\w'.heap[b]?=some (.cells (pc (press s m).get m h t) 263 (0,0)):=by
 have hb:b<w.heap.size:=lt_of_block hp
 have hm: ∀j,j<64->w.cell? ⟨b,8+j,none⟩=some (bv (m j)):=λj hj=>(cell_of_row w b _ _ _ _ hp).trans (Ze _ _ _ _ j hj)
 have HS:=hid (Ja b m w hb hm)
 have HP:=hid hp
 have HK:=hid hK
 clear hK hm hp
 go_enter func222,ntmps222
 go_wp2_with (first
  |(go_at_call 251;refine HS.out.mono ?_;rintro e w1 ⟨rfl,hw1⟩)
  | (refine wpList_store_row rfl 216 _ _ rfl w1.heap.size (zY (wd m)) rfl rfl 216 (zY (λ_=>0)) (heap_alloc_new w1 _) (by rw[zR];kernel_rfl) (by rw[zR,zR]) (kc _) ?_
     change wpList _ _ _ _ _ ((w1.alloc (.cells (zY (λ_=>0)) 216)).setRow w1.heap.size (zY (wd m)))
     have hr:=RoundW.start HP.out hw1
     have hsz:b<w1.heap.size/\w.heap.size<=w1.heap.size:=⟨Nat.lt_of_lt_of_le hb hw1.size,hw1.size⟩
     generalize World.setRow _ _ _=w2 at hr|-
     generalize w1.heap.size=g at hr hsz|-
     clear hw1))
 dsimp only[Act.put]
 have hc: ∀j,j<8->w2.cell? ⟨b,j,none⟩=some (wv (s.get j)):=λj hj=>(cell_of_row w2 b _ _ _ _ hr.press).trans (kD _ _ _ _ j hj)
 have c0:=hc 0 (by omega)
 have c1:=hc 1 (by omega)
 have c2:=hc 2 (by omega)
 have c3:=hc 3 (by omega)
 have c4:=hc 4 (by omega)
 have c5:=hc 5 (by omega)
 have c6:=hc 6 (by omega)
 have c7:=hc 7 (by omega)
 simp only[St.get]at c0 c1 c2 c3 c4 c5 c6 c7
 clear hc
 go_quiet (fail)
 go_wp2
 go_quiet (fail)
 go_wp2
 clear c0 c1 c2 c3 c4 c5 c6 c7
 generalize hw3:World.drewN w2 _=w3
 replace hr:RoundW b g s m h t w w3:=by rw[<-hw3];exact hr.drewN _
 clear hw3
 go_loopw [61,3,4,5,6,7,8,9,10] (λi va vb vc vd ve vf vg vh wr=> ∃k:Nat,k<=64/\i= .int .i64 k/\va=wv (zX m s k).a/\vb=wv (zX m s k).b/\vc=wv (zX m s k).c/\vd=wv (zX m s k).d/\
   ve=wv (zX m s k).e/\vf=wv (zX m s k).f/\vg=wv (zX m s k).g/\vh=wv (zX m s k).h/\RoundW b g s m h t w wr) (λi _ _ _ _ _ _ _ _ _=>64-(intOf i).toNat)
 case atStart=>exact⟨0,by omega,rfl,rfl,rfl,rfl,rfl,rfl,rfl,rfl,rfl,hr.drewN _⟩
 case round=>
  clear hr
  obtain⟨k,hk,rfl,rfl,rfl,rfl,rfl,rfl,rfl,rfl,rfl,hr⟩:=hrel
  by_cases hlt:k<64
  ·have hst:=hid (show zX m s (k+1)=round (zX m s k) (kAt k) (wd m k)from rfl)
   generalize zX m s k=st at hst|-
   have hck:=(hr.only.cell ⟨2,k,none⟩ (XY HK.out) hb1.symm).trans (HK.out k hlt)
   have hcw:=(cell_of_row wr g k _ _ _ hr.own).trans (uK (wd m) k hlt)
   have hk0:(k:Int)<64:=by omega
   go_wp2_with (go_at_call 252;refine(vT _ _ _ (by omega) (by omega)).mono ?_;rintro e w' ⟨rfl,rfl⟩)
   go_quiet (fail)
   go_wp2_with (go_at_call 252;refine(vT _ _ _ (by omega) (by omega)).mono ?_;rintro e w' ⟨rfl,rfl⟩)
   go_roundw
   case rel=>
    refine⟨k+1,by omega,by go_num, ?_, ?_, ?_, ?_, ?_, ?_, ?_, ?_,hr.drewN _⟩<;>(rw[hst.out];rfl)
   case measure=>simp[intOf];omega
  ·have HF:=hid (show Sha.press s m=qV s (zX m s k) by rw[show k=64 by omega];rfl)
   have hge:(64:Int)<=(k:Int):=by omega
   clear hlt hk
   generalize zX m s k=f at HF|-
   go_wp2
   clear hge
   have hr0:SumW b s f m h t w 0 wr:=⟨hr.press,hr.only⟩
   clear hr
   go_loopw [136] (λi wr=> ∃k:Nat,k<=8/\i= .int .i64 k/\SumW b s f m h t w k wr) (λi _=>8-(intOf i).toNat)
   case atStart=>exact⟨0,by omega,rfl,hr0⟩
   case round=>
    clear hr0
    obtain⟨k,hk,rfl,hr⟩:=hrel
    by_cases hlt:k<8
    ·have hix:=Un f k hlt
     have hk0:(k:Int)<8:=by omega
     have hc:=hr.cell hlt
     have hf:=hr.free k
     go_wp2
     go_still_tail 11,(by kernel_rfl)
     change wpList _ _ _ _ _ wr.drew
     go_wp2
     go_roundw
     case rel=>exact⟨k+1,by omega,by go_num,hr.step hlt⟩
     case measure=>simp[intOf];omega
    ·obtain rfl:k=8:=by omega
     clear hlt hk
     go_wp2
     go_end0
     exact⟨rfl,hr.only,by rw[HF.out];exact hr.done⟩
end Go.Proofs.YtabmamofnhcgbaaGreatDoor.T8
namespace Go.Proofs.YtabmamofnhcgbaaGreatDoor.T8
open Go.RowKit Sha
def strLen:Value->Nat| .string s=>s.size|_=>0
theorem zev(ws:Nat->BitVec 32)(m:Nat->UInt8)(h n:Nat)(hl t:Int)(r:List UInt8)(hn:h+n<=64)(hr:n<=r.length):
  ((pc ws m hl t).toList.take (8+h+0)++(r.take n).map (λb=>bv b)++(pc ws m hl t).toList.drop (8+h+0+((r.take n).map (λb=>bv b)).length)).toArray=pc ws (kH m h n r) hl t:=by
 have hlen:((r.take n).map (λb=>bv b)).length=n:=by simp;omega
 have hz:=jr ws m hl t
 have key: ∀i:Nat,((pc ws m hl t).toList.take (8+h+0)++(r.take n).map (λb=>bv b)++(pc ws m hl t).toList.drop (8+h+0+((r.take n).map (λb=>bv b)).length))[i]?=(pc ws (kH m h n r) hl t)[i]?:=by
  intro i
  rw[hlen,Nat.add_zero]
  have hT:((pc ws m hl t).toList.take (8+h)).length=8+h:=by rw[List.length_take,Array.length_toList,hz];omega
  by_cases h1:i<8
  ·rw[List.append_assoc,List.getElem?_append_left (by omega),List.getElem?_take,if_pos (by omega),Array.getElem?_toList,kD _ _ _ _ i h1,kD _ _ _ _ i h1]
  ·by_cases h2:i<72
   ·obtain⟨j,rfl⟩: ∃j,i=8+j:=⟨i-8,by omega⟩
    rw[Ze _ _ _ _ j (by omega)]
    unfold kH
    by_cases h3:j<h
    ·rw[List.append_assoc,List.getElem?_append_left (by omega),List.getElem?_take,if_pos (by omega),Array.getElem?_toList,Ze _ _ _ _ j (by omega),if_neg (by omega)]
    ·by_cases h4:j<h+n
     ·rw[List.getElem?_append_left (by rw[List.length_append,hT,hlen];omega),List.getElem?_append_right (by omega),hT,if_pos ⟨by omega,h4⟩,show 8+j-(8+h)=j-h by omega]
      rw[List.getElem?_map,List.getElem?_take,if_pos (by omega),List.getElem?_eq_getElem (by omega)]
      simp[List.getD,List.getElem?_eq_getElem (show j-h<r.length by omega)]
     ·rw[List.getElem?_append_right (by rw[List.length_append,hT,hlen];omega),List.length_append,hT,hlen,List.getElem?_drop,Array.getElem?_toList,show 8+h+n+(8+j-(8+h+n))=8+j by omega,Ze _ _ _ _ j (by omega),if_neg (by omega)]
   ·rw[List.getElem?_append_right (by rw[List.length_append,hT,hlen];omega),List.length_append,hT,hlen,List.getElem?_drop,Array.getElem?_toList,show 8+h+n+(i-(8+h+n))=i by omega]
    by_cases h5:i<74
    ·obtain rfl|rfl:i=72\/i=73:=by omega
     ·rfl
     ·rfl
    ·rw[Array.getElem?_eq_none (by rw[jr];omega),Array.getElem?_eq_none (by rw[jr];omega)]
 apply Array.ext'
 apply List.ext_getElem?
 intro i
 rw[List.toList_toArray,key i,Array.getElem?_toList]
theorem kp{P:Program}(w:World)(dT sT ty elem:TypeId)(hu:P.underlying dT=some (.slice elem))(hz:(sizeOf elem).run P w= .ok 1 w)(base:Option Addr)(dLen dCap:Nat)(r:ByteArray)(n:Nat)(hn:Nat.min r.size dLen=n)(a:Addr)(w2:World)(hb:base=some a)
  (hst:(storeCells a ((r.data.toList.map λb=>(Value.int .u8 (b.toNat:Int))).take n)).run P w= .ok () w2):
  (Builtin.copy_ #[dT,sT] ty #[.slice base dLen dCap,.string r]).run P w= .ok (goInt n) w2:=by
 subst hb
 simp[Builtin.copy_,run_underlying hu,Builtin.lenOf,Builtin.firstCells,hz,hn,hst]
theorem ko(w:World)(b h n:Nat)(r:ByteArray)(ws:Nat->BitVec 32)(m:Nat->UInt8)(hl t:Int)(ty:TypeId)(hh:h<64)(hn:n=min r.size (64-h))(hp:w.heap[b]?=some (.cells (pc ws m hl t) 263 (0,0))):
  (Builtin.copy_ #[144,9] ty #[.slice (some ⟨b,8+h,none⟩) (64-h) (64-h),.string r]).run prog w=
   .ok (goInt n) (w.setRow b (pc ws (kH m h n r.data.toList) hl t)):=by
 have hrs:r.data.toList.length=r.size:=by rw[Array.length_toList];rfl
 have hst:=run_storeCells_at prog b (8+h) 263 ((r.data.toList.take n).map (λb=>bv b)) 0 _ w hp (by rw[jr,List.length_map,List.length_take];omega) (by intro v hv;obtain⟨x,_,rfl⟩:=List.mem_map.1 hv;rfl)
 rw[zev ws m h n hl t r.data.toList (by omega) (by omega)]at hst
 have hz:(sizeOf 5).run prog w= .ok 1 w:=by kernel_rfl
 have hmin:Nat.min r.size (64-h)=n:=hn.symm
 exact kp w 144 9 ty 5 underlying144 hz (some ⟨b,8+h,none⟩) (64-h) (64-h) r n hmin _ _ rfl (by rw[<-List.map_take];exact hst)
theorem scope_jumps2{P:Program}{a:Act}{w:World}{Q:Exit->Act->World->Prop}{c rest:Code}(l:Nat)(J:Act->World->Prop)(μ:Act->World->Nat)(hf:findLabel c l=some (Code.skip.seq rest))
  (pass: ∀a w,J a w->rest.wp P (Exit.jump l (λa' w'=>J a' w'/\μ a' w'<μ a w) Q) a w)
  (first:(∀a w,J a w->rest.wp P (Exit.jump l J Q) a w)->c.wp P (Exit.jump l J Q) a w):(Code.scope c).wp P Q a w:=
 wp_scope_jumps l J μ hf (first λa w hj=>Code.wp_mono (λe a w h=>by cases e<;>first|exact h|exact⟨h.1,h.2.1⟩) (pass a w hj))
  (λa w hj=>wp_seq (wp_skip (pass a w hj)))
structure FeedW (b:Nat) (Z:List UInt8) (T:Int) (w:World) (r:ByteArray) (wr:World):Prop where
 ex: ∃(F:List UInt8) (s:St) (m:Nat->UInt8) (h:Nat),F++r.data.toList=Z/\Holds F s m h/\wr.heap[b]?=some (.cells (pc s.get m h T) 263 (0,0))
 only:OnlyB b w wr
def Fed(b:Nat)(S:List UInt8)(w:World):Prop:= ∃(s:St) (m:Nat->UInt8) (h:Nat),Holds S s m h/\w.heap[b]?=some (.cells (pc s.get m h S.length) 263 (0,0))
theorem FeedW.start{b:Nat}{S:List UInt8}{x:ByteArray}{s:St}{m:Nat->UInt8}{h:Nat}{w:World}(hh:Holds S s m h)(hp:w.heap[b]?=some (.cells (pc s.get m h S.length) 263 (0,0))):
  FeedW b (S++x.data.toList) ((S.length+x.size:Nat):Int) w x (w.setCell ⟨b,73,none⟩ (.int .u64 ((S.length:Int)+(x.size:Int)))):=by
 refine⟨⟨S,s,m,h,rfl,hh, ?_⟩,(OnlyB.refl b w).setCell (p:=⟨b,73,none⟩) (.inl rfl) _⟩
 rw[heap_setCell_same w b 73 _ _ _ hp,VU,Int.natCast_add]
theorem zdA(r:ByteArray)(n:Nat):(r.extract n r.size).data.toList=r.data.toList.drop n:=by
 rw[ByteArray.data_extract,Array.toList_extract,List.extract_eq_take_drop,List.take_of_length_le]
 rw[List.length_drop,Array.length_toList];exact Nat.le_refl _
theorem Uv(wr:World)(b:Nat)(ws:Nat->BitVec 32)(m m':Nat->UInt8)(h t:Int)(w:World)(hp:wr.heap[b]?=some (.cells (pc ws m h t) 263 (0,0)))(ho:OnlyB b w wr):
  (wr.drew.setRow b (pc ws m' h t)).heap[b]?=some (.cells (pc ws m' h t) 263 (0,0))/\OnlyB b w (wr.drew.setRow b (pc ws m' h t)):=
 ⟨setRow_heap wr.drew b _ _ _ _ hp,(ho.drewN 1).setRow (.inl rfl) _⟩
theorem jd(b:Nat)(S:List UInt8)(x:ByteArray)(w:World)(hb1:b≠2)(hp:Fed b S w)(hsz:S.length+x.size<=1099511627776)
  (hK: ∀j,j<64->w.cell? ⟨2,j,none⟩=some (wv (kAt j))):
  Calls prog 199 #[.pointer (some ⟨b,0,none⟩),.string x] w λe w'=>e= .returned (.tuple #[])/\OnlyB b w w'/\Fed b (S++x.data.toList) w':=by
 obtain⟨s,m,h,hh,hp⟩:=hp
 have ht:=(cell_of_row w b 73 _ _ _ hp).trans (VT _ _ _ _)
 have hf:=frozen_of_row w b 73 _ _ hp
 have HK:=hid hK
 clear hK
 go_enter func199,ntmps199
 go_wp2
 refine scope_jumps2 0 (λa' wr=> ∃(r:ByteArray) (v4 v5 v6 v7 v8 v9 v10 v11 v12 v13 v14 v15 v16 v17 v18 v19 v20 v21 v22 v23 v24 v25 v26 v27 v28 v29 v30 v31 v32 v33 v34 v35 v36 v37 v38 v39 v40 v41 v42 v43 v44 v45:Value),a'={tmps:= #[.pointer (some ⟨b,0,none⟩),.string r,undef,undef,v4,v5,v6,v7,v8,v9,v10,v11,v12,v13,v14,v15,v16,v17,v18,v19,v20,v21,v22,v23,v24,v25,v26,v27,v28,v29,v30,v31,v32,v33,v34,v35,v36,v37,v38,v39,v40,v41,v42,v43,v44,v45],defers:=[]}/\FeedW b (S++x.data.toList) ((S.length+x.size:Nat):Int) w r wr) (λa' _=>strLen (a'.tmps.getD 1 undef)) rfl ?_ ?_
 ·rintro a' wr ⟨r,v4,v5,v6,v7,v8,v9,v10,v11,v12,v13,v14,v15,v16,v17,v18,v19,v20,v21,v22,v23,v24,v25,v26,v27,v28,v29,v30,v31,v32,v33,v34,v35,v36,v37,v38,v39,v40,v41,v42,v43,v44,v45,rfl,hr⟩
  obtain⟨⟨F,s1,m1,h1,hF,hH,hp1⟩,ho⟩:=hr
  have hh1:h1<64:=by have:=hH.place;omega
  have c2:=(cell_of_row wr b 72 _ _ _ hp1).trans (kE _ _ _ _)
  have hs:=λW:World=>uQ W b 8 (h1:Int) h1 rfl hh1
  by_cases hc:64-h1<=r.size
  ·have hcp:=ko wr.drew b h1 (64-h1) r s1.get m1 h1 ((S.length+x.size:Nat):Int) 3 hh1 (by omega) hp1
   have hw2:=Uv wr b s1.get m1 (kH m1 h1 (64-h1) r.data.toList) h1 ((S.length+x.size:Nat):Int) w hp1 ho
   generalize World.setRow _ _ _=w2 at hcp hw2
   obtain⟨hp2,ho2⟩:=hw2
   have c2':=(cell_of_row w2 b 72 _ _ _ hp2).trans (kE _ _ _ _)
   have f2':=frozen_of_row w2 b 72 _ _ hp2
   have hfull:=λm'=>hH.full r.data.toList m' (by rw[Array.length_toList];exact hc)
   have hdone: ∀n,(F++r.data.toList.take n)++(r.extract n r.size).data.toList=S++x.data.toList:=by
    intro n
    rw[<-hF,List.append_assoc,zdA,List.take_append_drop]
   have hmeas:0<64-h1:=by omega
   have HF:=hid hfull
   have HD:=hid hdone
   have hq:((h1:Int)+((64-h1:Nat):Int)==64)=true:=by rw[beq_iff_eq];omega
   have hge:((64-h1:Nat):Int)<=(r.size:Int):=by omega
   have h1le:(h1:Int)+((64-h1:Nat):Int)<=64:=by omega
   clear hfull hdone hF hH ho hc
   generalize 64-h1=n at*
   have hp3:(w2.setCell ⟨b,72,none⟩ (.int .i64 ((h1:Int)+(n:Int)))).heap[b]?=some (.cells (pc s1.get (kH m1 h1 n r.data.toList) ((h1:Int)+(n:Int)) ((S.length+x.size:Nat):Int)) 263 (0,0)):=by
    rw[heap_setCell_same w2 b 72 _ _ _ hp2,jT]
   have ho3:OnlyB b w (w2.setCell ⟨b,72,none⟩ (.int .i64 ((h1:Int)+(n:Int)))):=ho2.setCell (p:=⟨b,72,none⟩) (.inl rfl) _
   have HP:=hid (ZF b s1 (kH m1 h1 n r.data.toList) _ _ _ hb1 hp3 (λj hj=>(ho3.cell ⟨2,j,none⟩ (XY HK.out) hb1.symm).trans (HK.out j hj)))
   have HO:=hid ho3
   clear hp3 ho3 ho2 hp2
   go_wp2
   go_still_tail 9,(by kernel_rfl)
   change wpList _ _ _ _ _ wr.drew
   go_wp2_with (go_at_call 222;refine HP.out.mono ?_;rintro e w4 ⟨rfl,ho4,hp4⟩;have c4:=(cell_of_row w4 b 72 _ _ _ hp4).trans (kE _ _ _ _);have f4:=frozen_of_row w4 b 72 _ _ hp4)
   go_step3
   refine⟨rfl,⟨r.extract n r.size,_,_,_,_,_,_,_,_,_,_,_,_,_,_,_,_,_,_,_,_,_,_,_,_,_,_,_,_,_,_,_,_,_,_,_,_,_,_,_,_,_,_,rfl,⟨⟨F++r.data.toList.take n,_,kH m1 h1 n r.data.toList,0,HD.out n,HF.out _, ?_⟩,(HO.out.trans ho4).setCell (p:=⟨b,72,none⟩) (.inl rfl) _⟩⟩, ?_⟩
   ·rw[heap_setCell_same w4 b 72 _ _ _ hp4,jT];rfl
   ·simp[strLen];omega
  ·have hcp:=ko wr.drew b h1 r.size r s1.get m1 h1 ((S.length+x.size:Nat):Int) 3 hh1 (by omega) hp1
   have hw2:=Uv wr b s1.get m1 (kH m1 h1 r.size r.data.toList) h1 ((S.length+x.size:Nat):Int) w hp1 ho
   generalize World.setRow _ _ _=w2 at hcp hw2
   obtain⟨hp2,ho2⟩:=hw2
   have c2':=(cell_of_row w2 b 72 _ _ _ hp2).trans (kE _ _ _ _)
   have f2':=frozen_of_row w2 b 72 _ _ hp2
   have hless:=hid (hH.less r.data.toList (by rw[Array.length_toList];show h1+r.size<64;omega))
   have HF:=hid hF
   have HP2:=hid hp2
   have hq:(h1:Int)+(r.size:Int)<64:=by omega
   clear hF hH ho hc hp2
   go_wp2
   go_still_tail 9,(by kernel_rfl)
   change wpList _ _ _ _ _ wr.drew
   go_wp2
   simp only[Exit.jump]
   go_end0
   refine⟨rfl,ho2.setCell (p:=⟨b,72,none⟩) (.inl rfl) _,s1,kH m1 h1 r.size r.data.toList,h1+r.size, ?_, ?_⟩
   ·rw[<-HF.out];exact hless.out
   ·rw[heap_setCell_same w2 b 72 _ _ _ HP2.out,jT,List.length_append,Array.length_toList,Int.natCast_add];rfl
 ·intro hpass
  go_wp2
  go_step3
  rename_i Kf hKf
  exact hKf _ _ (hpass _ _ ⟨x,_,_,_,_,_,_,_,_,_,_,_,_,_,_,_,_,_,_,_,_,_,_,_,_,_,_,_,_,_,_,_,_,_,_,_,_,_,_,_,_,_,_,rfl,FeedW.start hh hp⟩)
end Go.Proofs.YtabmamofnhcgbaaGreatDoor.T8
namespace Go.Proofs.YtabmamofnhcgbaaGreatDoor.T8
open Go.Shelf
def ren:Go.Shelf.Ren:=⟨fun|99=>254|105=>223|165=>255|166=>181|167=>7|169=>183|170=>256|206=>250|212=>253|240=>213|241=>270|263=>268|264=>269|276=>239|277=>273|n=>n,fun|0=>0|3=>3|4=>4|5=>5|9=>9|20=>20|37=>144|46=>143|51=>214|53=>238|70=>240|72=>242|75=>244|76=>246|80=>60|109=>302|127=>219|146=>310|148=>313|164=>294|n=>n,fun|n=>n⟩
theorem zeM:Go.Proofs.Lays.n105 prog ren:={
 mixed:=by kernel_rfl
 f99:=func254.trans (congrArg some (by kernel_rfl))
 f105:=func223.trans (congrArg some (by kernel_rfl))
 f165:=func255.trans (congrArg some (by kernel_rfl))
 f166:=func181.trans (congrArg some (by kernel_rfl))
 f169:=func183.trans (congrArg some (by kernel_rfl))
 f170:=func256.trans (congrArg some (by kernel_rfl))
 f206:=func250.trans (congrArg some (by kernel_rfl))
 f212:=func253.trans (congrArg some (by kernel_rfl))
 f240:=func213.trans (congrArg some (by kernel_rfl))
 f241:=func270.trans (congrArg some (by kernel_rfl))
 f263:=func268.trans (congrArg some (by kernel_rfl))
 f264:=func269.trans (congrArg some (by kernel_rfl))
 f276:=func239.trans (congrArg some (by kernel_rfl))
 f277:=func273.trans (congrArg some (by kernel_rfl))
 t0:=underlying0
 a0:=Tryz.isAgg0
 z0:=Tryz.sizeOf0
 v0:=Tryz.zeroValue0
 t3:=underlying3
 a3:=Tryz.isAgg3
 z3:=Tryz.sizeOf3
 v3:=Tryz.zeroValue3
 t4:=underlying4
 a4:=Tryz.isAgg4
 z4:=Tryz.sizeOf4
 v4:=Tryz.zeroValue4
 t5:=underlying5
 a5:=Tryz.isAgg5
 z5:=Tryz.sizeOf5
 v5:=Tryz.zeroValue5
 t9:=underlying9
 a9:=Tryz.isAgg9
 z9:=Tryz.sizeOf9
 v9:=Tryz.zeroValue9
 t20:=underlying20
 a20:=Tryz.isAgg20
 z20:=Tryz.sizeOf20
 v20:=Tryz.zeroValue20
 t37:=underlying144
 a37:=Tryz.isAgg144
 z37:=Tryz.sizeOf144
 v37:=Tryz.zeroValue144
 t46:=underlying143
 a46:=Tryz.isAgg143
 z46:=Tryz.sizeOf143
 v46:=Tryz.zeroValue143
 t51:=underlying214
 a51:=Tryz.isAgg214
 z51:=Tryz.sizeOf214
 v51:=Tryz.zeroValue214
 t53:=underlying238
 a53:=Tryz.isAgg238
 z53:=Tryz.sizeOf238
 v53:=Tryz.zeroValue238
 t70:=underlying240
 a70:=Tryz.isAgg240
 z70:=Tryz.sizeOf240
 v70:=Tryz.zeroValue240
 t72:=underlying242
 a72:=Tryz.isAgg242
 z72:=Tryz.sizeOf242
 v72:=Tryz.zeroValue242
 t75:=underlying244
 a75:=Tryz.isAgg244
 z75:=Tryz.sizeOf244
 v75:=Tryz.zeroValue244
 t76:=underlying246
 a76:=Tryz.isAgg246
 z76:=Tryz.sizeOf246
 v76:=Tryz.zeroValue246
 t109:=underlying302
 a109:=Tryz.isAgg302
 z109:=Tryz.sizeOf302
 v109:=Tryz.zeroValue302
 t127:=underlying219
 a127:=Tryz.isAgg219
 z127:=Tryz.sizeOf219
 v127:=Tryz.zeroValue219
 t146:=underlying310
 a146:=Tryz.isAgg310
 z146:=Tryz.sizeOf310
 v146:=Tryz.zeroValue310
 t148:=underlying313
 a148:=Tryz.isAgg313
 z148:=Tryz.sizeOf313
 v148:=Tryz.zeroValue313
 t164:=underlying294
 a164:=Tryz.isAgg294
 z164:=Tryz.sizeOf294
 v164:=Tryz.zeroValue294}
theorem lays166:Go.Proofs.Lays.n166 prog ren:={
 mixed:=by kernel_rfl
 f166:=func181.trans (congrArg some (by kernel_rfl))
 f240:=func213.trans (congrArg some (by kernel_rfl))
 f276:=func239.trans (congrArg some (by kernel_rfl))
 t0:=underlying0
 a0:=Tryz.isAgg0
 z0:=Tryz.sizeOf0
 v0:=Tryz.zeroValue0
 t3:=underlying3
 a3:=Tryz.isAgg3
 z3:=Tryz.sizeOf3
 v3:=Tryz.zeroValue3
 t4:=underlying4
 a4:=Tryz.isAgg4
 z4:=Tryz.sizeOf4
 v4:=Tryz.zeroValue4
 t9:=underlying9
 a9:=Tryz.isAgg9
 z9:=Tryz.sizeOf9
 v9:=Tryz.zeroValue9
 t20:=underlying20
 a20:=Tryz.isAgg20
 z20:=Tryz.sizeOf20
 v20:=Tryz.zeroValue20
 t37:=underlying144
 a37:=Tryz.isAgg144
 z37:=Tryz.sizeOf144
 v37:=Tryz.zeroValue144
 t70:=underlying240
 a70:=Tryz.isAgg240
 z70:=Tryz.sizeOf240
 v70:=Tryz.zeroValue240
 t72:=underlying242
 a72:=Tryz.isAgg242
 z72:=Tryz.sizeOf242
 v72:=Tryz.zeroValue242
 t75:=underlying244
 a75:=Tryz.isAgg244
 z75:=Tryz.sizeOf244
 v75:=Tryz.zeroValue244
 t164:=underlying294
 a164:=Tryz.isAgg294
 z164:=Tryz.sizeOf294
 v164:=Tryz.zeroValue294}
theorem lays169:Go.Proofs.Lays.n169 prog ren:={
 mixed:=by kernel_rfl
 f169:=func183.trans (congrArg some (by kernel_rfl))
 t0:=underlying0
 a0:=Tryz.isAgg0
 z0:=Tryz.sizeOf0
 v0:=Tryz.zeroValue0
 t3:=underlying3
 a3:=Tryz.isAgg3
 z3:=Tryz.sizeOf3
 v3:=Tryz.zeroValue3
 t9:=underlying9
 a9:=Tryz.isAgg9
 z9:=Tryz.sizeOf9
 v9:=Tryz.zeroValue9
 t37:=underlying144
 a37:=Tryz.isAgg144
 z37:=Tryz.sizeOf144
 v37:=Tryz.zeroValue144
 t70:=underlying240
 a70:=Tryz.isAgg240
 z70:=Tryz.sizeOf240
 v70:=Tryz.zeroValue240
 t72:=underlying242
 a72:=Tryz.isAgg242
 z72:=Tryz.sizeOf242
 v72:=Tryz.zeroValue242
 t127:=underlying219
 a127:=Tryz.isAgg219
 z127:=Tryz.sizeOf219
 v127:=Tryz.zeroValue219}
open Go.Shelf in
theorem extra:Builder.Extra prog ren:={
 sizeBuilder:=by kernel_rfl
 liesBuilder:=by kernel_rfl
 t5:=underlying5
 a5:=Tryz.isAgg5
 z5:=Tryz.sizeOf5
 v5:=Tryz.zeroValue5
 infoByte:=by kernel_rfl
 cellsByte:=by kernel_rfl
 sizeByte:=by kernel_rfl
 neB5:=by decide}
end Go.Proofs.YtabmamofnhcgbaaGreatDoor.T8
namespace Go.Proofs.YtabmamofnhcgbaaGreatDoor.T8
open Go.RowKit Sha
def KOk(w:World):Prop:= ∀j,j<64->w.cell? ⟨2,j,none⟩=some (wv (kAt j))
theorem KOk.lt{w:World}(h:KOk w):2<w.heap.size:=XY h
theorem KOk.below{w w':World}(h:KOk w)(hb:Below w.heap.size w w'):KOk w':=λj hj=>(hb.cell (p:=⟨2,j,none⟩) h.lt).trans (h j hj)
theorem KOk.only{b:Nat}{w w':World}(h:KOk w)(hb:OnlyB b w w')(hb1:b≠2):KOk w':=λj hj=>(hb.cell ⟨2,j,none⟩ h.lt hb1.symm).trans (h j hj)
theorem Fed.lt{b:Nat}{S:List UInt8}{w:World}(h:Fed b S w):b<w.heap.size:=by
 obtain⟨s,m,k,_,hp⟩:=h;exact lt_of_block hp
theorem Fed.below{b:Nat}{S:List UInt8}{w w':World}(h:Fed b S w)(hb:Below w.heap.size w w'):Fed b S w':=by
 have hlt:=h.lt
 obtain⟨s,m,k,hh,hp⟩:=h
 exact⟨s,m,k,hh,(hb.block b hlt).trans hp⟩
theorem Xs(n:Int)(w:World)(h0:0<=n)(h1:n<4294967296):Calls prog 200 #[.int .u32 n] w λe w'=>e= .returned (.string ⟨(zr (BitVec.ofNat 32 n.toNat)).toArray⟩)/\Below w.heap.size w w':=by
 have e:u32 (BitVec.ofNat 32 n.toNat)=n:=by unfold u32;rw[BitVec.toNat_ofNat];omega
 have:=ke (BitVec.ofNat 32 n.toNat) w
 rw[show wv (BitVec.ofNat 32 n.toNat)= .int .u32 n by unfold wv;rw[e]]at this
 exact this
def YB(c:Nat):ByteArray:=⟨(List.replicate c 0).toArray⟩
theorem zeros_size(c:Nat):(YB c).size=c:=by simp[YB,ByteArray.size]
theorem UV(c:Nat):(YB c).data.toList=List.replicate c 0:=by simp[YB]
theorem XE: ∀c,Lib.repeatL [0] c=List.replicate c 0:=by
 intro c
 induction c with
 |zero=>rfl
 |succ c ih=>simp[Lib.repeatL,List.replicate_succ]at ih|-;try exact ih
theorem XD(c:Nat)(w:World)(hc:c<64):
  Calls prog 223 #[.string ⟨#[0]⟩,.int .i64 c] w λe w'=>e= .returned (.string (YB c))/\Below w.heap.size w w':=by
 refine(Any.strings_Repeat zeM extra ⟨#[0]⟩ c w (by omega) (by simp[ByteArray.size];omega)).mono ?_
 rintro e w' ⟨rfl,hb⟩
 refine⟨?_,hb⟩
 rw[XE];rfl
def jm(x:BitVec 32):ByteArray:=⟨(zr x).toArray⟩
theorem yI(x:BitVec 32):(jm x).size=4:=rfl
theorem vq(x:BitVec 32):(jm x).data.toList=zr x:=rfl
theorem jK(n:Int)(w:World)(h0:0<=n)(h1:n<4294967296):Calls prog 200 #[.int .u32 n] w λe w'=>e= .returned (.string (jm (BitVec.ofNat 32 n.toNat)))/\Below w.heap.size w w':=Xs n w h0 h1
theorem Xr(x:BitVec 32)(w:World):Calls prog 200 #[wv x] w λe w'=>e= .returned (.string (jm x))/\Below w.heap.size w w':=ke x w
theorem Yz{T e:TypeId}{B b:Nat}{bs:List Value}{w w':World}(h:Lib.IsBuilder T e B b bs w)(hb:Below w.heap.size w w'):Lib.IsBuilder T e B b bs w':=by
 have hg:w.grownBy w' none:=⟨hb.os,hb.tape,hb.output,hb.size,λk hk _=>hb.block k hk⟩
 have step: ∀p,Lib.BuilderAt T e B b p bs w->Lib.BuilderAt T e B b p bs w':=by
  rintro p ⟨hB,v,hv,ho,hne⟩
  refine⟨hB,v,(hb.block b (lt_of_block hv)).trans hv,ho.kept hg ?_,hne⟩
  cases v.ownBlock<;>simp
 exact h.elim (λx=> .inl (step _ x)) (λx=> .inr (step _ x))
theorem UJ(w:World):Lib.IsBuilder 242 5 w.heap.size w.heap.size (Lib.byteCells []) (w.alloc (.cells #[.pointer none,.slice none 0 0] 242)):=
 .inl ⟨Nat.le_refl _,.slice none 0 0,heap_alloc_new w _,World.ownsRow_nil _ _ _ _,by simp[Value.ownBlock]⟩
theorem Yn(x:BitVec 32):Lib.strCells (jm x)=Lib.byteCells (zr x):=rfl
theorem z6(a b:List UInt8):Lib.byteCells a++Lib.byteCells b=Lib.byteCells (a++b):=by simp[Lib.byteCells]
theorem zbG(S:List UInt8)(X:List UInt8):(S++128::X)++(zr (BitVec.ofNat 32 (S.length*8/4294967296))++zr (BitVec.ofNat 32 (S.length*8%4294967296)))=S++128::X++num (8*S.length) 8:=by
 rw[zaf,Nat.mul_comm 8 S.length]
 rw[show BitVec.ofNat 32 (S.length*8%4294967296)=BitVec.ofNat 32 (S.length*8) by apply BitVec.eq_of_toNat_eq;rw[BitVec.toNat_ofNat,BitVec.toNat_ofNat];omega]
theorem Kj(b:Nat)(S:List UInt8)(w:World)(hb1:b≠2)(hp:Fed b S w)(hsz:S.length<=1000000000000)(hK:KOk w):
  Calls prog 201 #[.pointer (some ⟨b,0,none⟩)] w λe w'=>e= .returned (.string ⟨(sha S).toArray⟩)/\OnlyB b w w':=by
 obtain⟨s,m,h,hh,hp⟩:=hp
 have ht:=(cell_of_row w b 73 _ _ _ hp).trans (VT _ _ _ _)
 have hc:=(cell_of_row w b 72 _ _ _ hp).trans (kE _ _ _ _)
 have hpl:=hh.place
 have h64:(h:Int)<64:=by omega
 have hn:((119:Int)-(h:Int))%64=((119-h)%64:Nat):=by omega
 have HN:=hid hn
 have HP:=hid hpl
 clear hn hpl
 go_enter func201,ntmps201
 go_wp2_with fail
 rw[HN.out]
 have hcc:(119-h)%64<64:=by omega
 have HC:=hid (show(119-h)%64=(119-S.length%64)%64 by rw[HP.out])
 generalize (119-h)%64=c at hcc HC|-
 refine(XD c _ hcc).mono ?_
 rintro e w1 ⟨rfl,hw1⟩
 have hF1:Fed b S w1:=Fed.below ⟨s,m,h,hh,hp⟩ hw1
 have hK1:=hK.below hw1
 have hO1:=(OnlyB.refl b w).of_below hw1
 have hz:=zeros_size c
 generalize hzz:YB c=z at hz|-
 have HZ:=hid (show z.data.toList=List.replicate c 0 by rw[<-hzz,UV])
 have hz1:(z.size:Int)<64:=by omega
 clear hzz hz
 go_wp2_with fail
 refine(jd b S _ _ hb1 hF1 (by rw[ByteArray.size_append];show S.length+(1+z.size)<=_;omega) hK1).mono ?_
 rintro e w2 ⟨rfl,ho2,hF2⟩
 have hK2:=hK1.only ho2 hb1
 have hO2:=hO1.trans ho2
 rw[ByteArray.data_append,Array.toList_append,HZ.out]at hF2
 have hF2':Fed b (S++128::List.replicate c 0) w2:=hF2
 clear hF1 hK1 hO1 ho2 hF2
 go_wp2_with fail
 refine(jK _ _ (by omega) (by omega)).mono ?_
 rintro e w3 ⟨rfl,hw3⟩
 go_wp2_with fail
 refine(jK _ _ (by omega) (by omega)).mono ?_
 rintro e w4 ⟨rfl,hw4⟩
 have hF4:=(hF2'.below hw3).below hw4
 have hK4:=(hK2.below hw3).below hw4
 have hO4:=(hO2.of_below hw3).of_below hw4
 clear hF2' hK2 hO2 hw3 hw4
 have hx1:=yI (BitVec.ofNat 32 ((S.length:Int)*8/4294967296).toNat)
 have hx2:=yI (BitVec.ofNat 32 ((S.length:Int)*8%4294967296).toNat)
 go_wp2_with fail
 refine(jd b _ _ _ hb1 hF4 (by rw[ByteArray.size_append,yI,yI,List.length_append,List.length_cons,List.length_replicate];omega) hK4).mono ?_
 rintro e w5 ⟨rfl,ho5,hF5⟩
 have hO5:=hO4.trans ho5
 rw[ByteArray.data_append,Array.toList_append,vq,vq,HC.out,zbG]at hF5
 obtain⟨s5,m5,h5,hh5,hp5⟩:=hF5
 have hw5:=hh5.words
 have HX:=hid (show sha S=s5.out by rw[hw5];rfl)
 have hb5:b<w5.heap.size:=lt_of_block hp5
 clear hF4 hK4 hO4 ho5 hh5 hw5
 have hcw: ∀j,j<8->w5.cell? ⟨b,j,none⟩=some (wv (s5.get j)):=λj hj=>(cell_of_row w5 b _ _ _ _ hp5).trans (kD _ _ _ _ j hj)
 have c0:=hcw 0 (by omega)
 have c1:=hcw 1 (by omega)
 have c2:=hcw 2 (by omega)
 have c3:=hcw 3 (by omega)
 have c4:=hcw 4 (by omega)
 have c5:=hcw 5 (by omega)
 have c6:=hcw 6 (by omega)
 have c7:=hcw 7 (by omega)
 simp only[St.get]at c0 c1 c2 c3 c4 c5 c6 c7
 clear hcw
 dsimp only
 go_wp2_with fail
 go_loopw [38] (λi wr=> ∃k:Nat,k<=8/\i= .int .i64 k/\Lib.IsBuilder 242 5 w5.heap.size w5.heap.size (Lib.byteCells (s5.outK k)) wr/\Below w5.heap.size w5 wr) (λi _=>8-(intOf i).toNat)
 case atStart=>exact⟨0,by omega,rfl,UJ w5,(Below.refl _ _).alloc (Nat.le_refl _) _⟩
 case round=>
  obtain⟨k,hk,rfl,hB,hW⟩:=hrel
  by_cases hlt:k<8
  ·have hix:=Un s5 k hlt
   have hk0:(k:Int)<8:=by omega
   have hsz:=hW.size
   go_wp2_with fail
   refine(Xr _ _).mono ?_
   rintro e w6 ⟨rfl,hw6⟩
   have hB6:=Yz hB hw6
   have hs6:=hw6.size
   dsimp only
   go_wp2_with fail
   refine(Any.Builder_WriteString lays166 extra w5.heap.size w5.heap.size _ _ _ hB6 (by rw[yI];show(List.map _ _).length+4<=_;rw[List.length_map,uX];omega) (by omega)).mono ?_
   rintro e w7 ⟨rfl,hB7,hw7⟩
   dsimp only
   go_wp2_with fail
   go_roundw
   case rel=>
    refine⟨k+1,by omega,by go_num,.inr ?_,(hW.trans (hw6.mono hsz)).trans hw7⟩
    rw[Yn,z6]at hB7
    exact hB7
   case measure=>simp[intOf];omega
  ·obtain rfl:k=8:=by omega
   rw[ZL]at hB
   have hsz:=hW.size
   clear hlt hk
   go_wp2_with fail
   refine(Any.Builder_String_any lays169 extra w5.heap.size w5.heap.size _ _ hB hsz).mono ?_
   rintro e w6 ⟨rfl,hw6⟩
   dsimp only
   go_wp2_with fail
   go_ret
   exact⟨by rw[HX.out];rfl,hO5.of_below (hW.trans hw6)⟩
def IOk(w:World):Prop:= ∀j,j<8->w.cell? ⟨0,j,none⟩=some (wv (init.get j))
def blank:Array Value:=pc (λ_=>0) (λ_=>0) 0 0
def fresh:Array Value:=pc init.get (λ_=>0) 0 0
theorem zero36: ∀w:World,(zeroValue 263).run prog w= .ok (.agg blank) w:=λ_=>by kernel_rfl
theorem build36: ∀w:World,(Instr.build 263 #[(0,.agg #[wv init.a,wv init.b,wv init.c,wv init.d,wv init.e,wv init.f,wv init.g,wv init.h])]).run prog w= .ok (.agg fresh) w:=λ_=>by kernel_rfl
theorem KD:blank.size=74:=jr _ _ _ _
theorem Z1:fresh.size=74:=jr _ _ _ _
theorem zaK:(fresh.all λx=>x.oneCell')=true:=by kernel_rfl
theorem zeZ(w:World):Fed w.heap.size [] ((w.alloc (.cells blank 263)).setRow w.heap.size fresh):=
 ⟨init,λ_=>0,0,Holds.nil _,setRow_heap _ _ _ _ _ _ (heap_alloc_new w _)⟩
theorem zbg(w:World):Below w.heap.size w ((w.alloc (.cells blank 263)).setRow w.heap.size fresh):=
 below_setRow ((Below.refl _ _).alloc (Nat.le_refl _) _) (Nat.le_refl _) _
structure Strs (a:Option Addr) (len:Nat) (ss:List ByteArray) (w:World):Prop where
 count:len=ss.length
 cell: ∀i,i<len-> ∃b off,a=some ⟨b,off,none⟩/\w.cell? ⟨b,off+i,none⟩=some (.string (ss.getD i ByteArray.empty))
theorem Strs.below{a:Option Addr}{len:Nat}{ss:List ByteArray}{w w':World}(h:Strs a len ss w)(hb:Below w.heap.size w w'):Strs a len ss w':=
 ⟨h.count,λi hi=>by
  obtain⟨b,off,ha,hc⟩:=h.cell i hi
  exact⟨b,off,ha,(hb.cell (p:=⟨b,off+i,none⟩) (block_lt_of_cell hc)).trans hc⟩⟩
def cat(ss:List ByteArray):List UInt8:=ss.flatMap λs=>s.data.toList
theorem jI(ss:List ByteArray)(k:Nat)(h:k<ss.length):cat (ss.take (k+1))=cat (ss.take k)++(ss.getD k ByteArray.empty).data.toList:=by
 rw[List.take_succ_eq_append_getElem h]
 unfold cat
 rw[List.flatMap_append]
 simp[List.getD,List.getElem?_eq_getElem h]
theorem cat_le(ss:List ByteArray)(k:Nat):(cat (ss.take k)).length<=(cat ss).length:=by
 have:cat ss=cat (ss.take k)++cat (ss.drop k):=by rw[cat,cat,cat,<-List.flatMap_append,List.take_append_drop]
 rw[this,List.length_append];omega
attribute [local go_sem 9000] run_bytes1
def zS(ss:List ByteArray):List UInt8:=ss.flatMap λs=>num s.size 4++s.data.toList
theorem xN(ss:List ByteArray)(k:Nat)(h:k<ss.length):zS (ss.take (k+1))=zS (ss.take k)++(num (ss.getD k ByteArray.empty).size 4++(ss.getD k ByteArray.empty).data.toList):=by
 rw[List.take_succ_eq_append_getElem h]
 unfold zS
 rw[List.flatMap_append]
 simp[List.getD,List.getElem?_eq_getElem h]
theorem Y8(ss:List ByteArray)(k:Nat):(zS (ss.take k)).length<=(zS ss).length:=by
 have:zS ss=zS (ss.take k)++zS (ss.drop k):=by rw[zS,zS,zS,<-List.flatMap_append,List.take_append_drop]
 rw[this,List.length_append];omega
theorem join_any(t:UInt8)(a:Option Addr)(len cap:Nat)(ss:List ByteArray)(w:World)(hK:KOk w)(hI:IOk w)(hS:Strs a len ss w)(hsz:1+(zS ss).length<=4294967295)(hlen:len<=1000000000000):
  Calls prog 157 #[bv t,.slice a len cap] w λe w'=>e= .returned (.string ⟨(sha (t::zS ss)).toArray⟩)/\Below w.heap.size w w':=by
 have c0:=hI 0 (by omega)
 have c1:=hI 1 (by omega)
 have c2:=hI 2 (by omega)
 have c3:=hI 3 (by omega)
 have c4:=hI 4 (by omega)
 have c5:=hI 5 (by omega)
 have c6:=hI 6 (by omega)
 have c7:=hI 7 (by omega)
 simp only[St.get]at c0 c1 c2 c3 c4 c5 c6 c7
 have hz:=zero36
 go_enter func157,ntmps157
 go_wp2_with (first
  | (refine wpList_store_row rfl 263 _ _ rfl w.heap.size fresh rfl rfl 263 blank (heap_alloc_new w _) (by rw[Z1];kernel_rfl) (by rw[KD,Z1]) zaK ?_
     change wpList _ _ _ _ _ ((w.alloc (.cells blank 263)).setRow w.heap.size fresh)
     have hF:=zeZ w
     have hW:=zbg w
     generalize World.setRow _ _ _=w2 at hF hW|-)
  |fail)
 refine(jd w.heap.size [] ⟨#[t]⟩ _ (by have:=hK.lt;omega) (hF.below ((Below.refl _ _).alloc (Nat.le_refl _) _)) (by show 0+1<=_;omega) ((hK.below hW).below ((Below.refl _ _).alloc (Nat.le_refl _) _))).mono ?_
 rintro e w3 ⟨rfl,ho,hF3⟩
 have hB1:w.heap.size≠2:=by have:=hK.lt;omega
 have hW3:Below w.heap.size w w3:=(hW.alloc hW.size _).trans (ho.below (Nat.le_refl _) (Nat.le_trans hW.size (by simp)))
 dsimp only
 clear hz c0 c1 c2 c3 c4 c5 c6 c7 hI hF hW ho
 go_wp2_with fail
 go_loopw [16] (λi wr=> ∃k:Nat,k<=len/\i= .int .i64 k/\Fed w.heap.size (t::zS (ss.take k)) wr/\Below w.heap.size w wr) (λi _=>len-(intOf i).toNat)
 case atStart=>exact⟨0,by omega,rfl,hF3,hW3⟩
 case round=>
  clear hF3 hW3
  obtain⟨k,hk,rfl,hF,hW⟩:=hrel
  by_cases hlt:k<len
  ·obtain⟨b,off,rfl,hcell⟩:=hS.cell k hlt
   have hc:wr.cell? ⟨b,off+k,none⟩=some (.string (ss.getD k ByteArray.empty)):=(hW.cell (p:=⟨b,off+k,none⟩) (block_lt_of_cell hcell)).trans hcell
   have hks:k<ss.length:=by rw[<-hS.count];exact hlt
   have hle:=Y8 ss (k+1)
   rw[xN ss k hks,List.length_append,List.length_append,num_length]at hle
   have HC:=hid (xN ss k hks)
   generalize ss.getD k ByteArray.empty=x at hc hle HC
   have hk0:(k:Int)<(len:Int):=by omega
   have hxl:x.data.toList.length=x.size:=Array.length_toList
   have hx:1+(zS (ss.take k)).length+4+x.size<=4294967295:=by omega
   have hx1:(x.size:Int)<4294967296:=by omega
   have hx0:(0:Int)<=(x.size:Int):=by omega
   clear hcell hks hle hxl
   go_wp2_with fail
   refine(jK _ _ (by omega) (by omega)).mono ?_
   rintro e w3 ⟨rfl,hw3⟩
   dsimp only
   go_wp2_with fail
   refine(jd w.heap.size _ _ w3 hB1 (hF.below hw3) (by rw[yI,List.length_cons];omega) ((hK.below hW).below hw3)).mono ?_
   rintro e w4 ⟨rfl,ho4,hF4⟩
   dsimp only
   go_wp2_with fail
   refine(jd w.heap.size _ x w4 hB1 hF4 (by rw[vq,List.length_append,List.length_cons];show _+1+4+_<=_;omega) (((hK.below hW).below hw3).only ho4 hB1)).mono ?_
   rintro e w5 ⟨rfl,ho5,hF5⟩
   dsimp only
   go_wp2_with fail
   go_roundw
   case rel=>
    have hsz3:=Nat.le_trans hW.size hw3.size
    refine⟨k+1,by omega,by go_num, ?_,((hW.trans (hw3.mono hW.size)).trans (ho4.below (Nat.le_refl _) hsz3)).trans (ho5.below (Nat.le_refl _) (Nat.le_trans hsz3 ho4.size))⟩
    rw[HC.out,zeC]
    have e:(t::zS (ss.take k)++(jm (BitVec.ofNat 32 ((x.size:Int)).toNat)).data.toList)++x.data.toList=t::(zS (ss.take k)++(zr (BitVec.ofNat 32 x.size)++x.data.toList)):=by
     rw[vq];simp
    rw[<-e];exact hF5
   case measure=>simp[intOf];omega
  ·obtain rfl:k=len:=by omega
   rw[hS.count,List.take_length]at hF
   go_wp2_with fail
   refine(Kj w.heap.size _ wr hB1 hF (by rw[List.length_cons];omega) (hK.below hW)).mono ?_
   rintro e w3 ⟨rfl,ho⟩
   dsimp only
   go_wp2_with fail
   go_ret
   exact⟨rfl,hW.trans (ho.below (Nat.le_refl _) hW.size)⟩
end Go.Proofs.YtabmamofnhcgbaaGreatDoor.T8
namespace Go.Proofs.YtabmamofnhcgbaaGreatDoor.T8
open Go.RowKit Go.Less Sha
theorem IOk.lt{w:World}(h:IOk w):0<w.heap.size:=by
 have:=h 0 (by omega)
 rcases Nat.lt_or_ge 0 w.heap.size with h1|h1
 ·exact h1
 ·simp[World.cell?,Array.getElem?_eq_none h1]at this
theorem IOk.below{w w':World}(h:IOk w)(hb:Below w.heap.size w w'):IOk w':=λj hj=>(hb.cell (p:=⟨0,j,none⟩) h.lt).trans (h j hj)
structure Dg (w:World):Prop where
 k:KOk w
 i:IOk w
theorem Dg.below{w w':World}(h:Dg w)(hb:Below w.heap.size w w'):Dg w':=⟨h.k.below hb,h.i.below hb⟩
theorem y8(w:World)(cs:Array Value)(t:TypeId)(j:Nat):(w.alloc (.cells cs t)).cell? ⟨w.heap.size,j,none⟩=cs[j]?:=World.cell?_alloc_new w cs t j
theorem jp(d:ByteArray):d.data.toList.length=d.size:=Array.length_toList
theorem zaz(k v a b:ByteArray)(w:World)(g:Nat)(hg:g=w.heap.size)(hD:Dg w)(hk:k.size<=100)(hv:v.size<=10000)(ha:a.size<=32)(hb:b.size<=32):
  Calls prog 157 #[bv 1,.slice (some ⟨g,0,none⟩) 4 4] (w.alloc (.cells #[.string k,.string v,.string a,.string b] 9)) λe w'=>e= .returned (.string (jn k v a b))/\Below w.heap.size w w':=by
 subst hg
 have hB:=below_one w (.cells #[.string k,.string v,.string a,.string b] 9)
 have hS:Strs (some ⟨w.heap.size,0,none⟩) 4 [k,v,a,b] (w.alloc (.cells #[.string k,.string v,.string a,.string b] 9)):=
  ⟨rfl,λi hi=>⟨w.heap.size,0,rfl,by
   rw[Nat.zero_add,y8]
   match i,hi with
   |0,_=>rfl
   |1,_=>rfl
   |2,_=>rfl
   |3,_=>rfl⟩⟩
 refine(join_any 1 (some ⟨w.heap.size,0,none⟩) 4 4 [k,v,a,b] _ (hD.k.below hB) (hD.i.below hB) hS ?_ (by omega)).mono ?_
 ·simp only[zS,List.flatMap_cons,List.flatMap_nil,List.length_append,num_length,jp,List.length_nil];omega
 ·rintro e w' ⟨rfl,h⟩
  exact⟨rfl,hB.trans (h.mono hB.size)⟩
def vl:Tt->ByteArray
 | .leaf=>⟨#[]⟩
 | .node _ _ v _=>v
theorem V9(t:Tt):ld t= .agg #[.string (vl t),.string (nm t),.int .i64 ((Tr.T.len t:Nat):Int)]:=by cases t<;>rfl
theorem zbo(v n0:ByteArray)(c0:Int)(k:ByteArray)(l r:Tt)(w:World)(hD:Dg w)(hk:k.size<=100)(hv:v.size<=10000)(hl:l.len<=1000000)(hr:r.len<=1000000):
  Calls prog 289 #[.agg #[.string v,.string n0,.int .i64 c0],.string k,ld l,ld r] w λe w'=>e= .returned (ld (.node l k v r))/\Below w.heap.size w w':=by
 rw[V9 l,V9 r,V9 (.node l k v r),zeF]
 rw[show vl (.node l k v r)=v from rfl]
 have HN:=hid (show(((Tr.T.node l k v r).len:Nat):Int)=(l.len:Int)+1+(r.len:Int) by simp only[Tr.T.len];omega)
 have HJ:=hid (λW g hg (hD:Dg W)=>zaz k v (nm l) (nm r) W g hg hD hk hv (uz l) (uz r))
 rw[HN.out]
 generalize l.len=cl at*
 generalize r.len=cr at*
 generalize nm l=nl at*
 generalize nm r=nr at*
 generalize vl l=a1 at*
 generalize vl r=a2 at*
 have hz:=Xq
 have HD:=hid hD
 clear hD HN
 generalize jn k v nl nr=nn at*
 go_enter func289,ntmps289
 go_wp2_with fail
 have hB:=(((below_one w (.cells #[.string v,.string n0,.int .i64 c0] 135)).alloc (by simp) (.cells #[.string a1,.string nl,.int .i64 (cl:Int)] 135)).alloc (by simp;omega) (.cells #[.string a2,.string nr,.int .i64 (cr:Int)] 135)).alloc (by simp;omega) (.cells #[.string ⟨#[]⟩,.string ⟨#[]⟩,.int .i64 0] 135)
 refine(HJ.out _ _ (by simp) (HD.out.below hB)).mono ?_
 rintro e w1 ⟨rfl,hw1⟩
 have q:=λb o h=>hw1.cell (p:=⟨b,o,none⟩) h
 have f:=λb o h=>hw1.frozen (p:=⟨b,o,none⟩) h
 have c00:=(q w.heap.size 0 (by simp;omega)).trans (c:=some (.string v)) (by go_simp)
 have c01:=(q w.heap.size 1 (by simp;omega)).trans (c:=some (.string n0)) (by go_simp)
 have c02:=(q w.heap.size 2 (by simp;omega)).trans (c:=some (.int .i64 c0)) (by go_simp)
 have c12:=(q (w.heap.size+1) 2 (by simp)).trans (c:=some (.int .i64 (cl:Int))) (by go_simp)
 have c22:=(q (w.heap.size+1+1) 2 (by simp)).trans (c:=some (.int .i64 (cr:Int))) (by go_simp)
 have c30:=(q (w.heap.size+1+1+1) 0 (by simp)).trans (c:=some (.string ⟨#[]⟩)) (by go_simp)
 have c31:=(q (w.heap.size+1+1+1) 1 (by simp)).trans (c:=some (.string ⟨#[]⟩)) (by go_simp)
 have c32:=(q (w.heap.size+1+1+1) 2 (by simp)).trans (c:=some (.int .i64 0)) (by go_simp)
 have f0:=λo=>(f w.heap.size o (by simp;omega)).trans (c:=false) (by go_simp)
 have f3:=λo=>(f (w.heap.size+1+1+1) o (by simp)).trans (c:=false) (by go_simp)
 clear q f
 dsimp only
 have HB:=hid (hB.trans (hw1.mono hB.size))
 go_wp2_with fail
 refine bodyPost_ret (v:= .agg #[.string v,.string nn,.int .i64 ((cl:Int)+1+(cr:Int))]) (by simp[results,Tryz.results289,go_sem,c30,c31,c32]) rfl ⟨rfl, ?_⟩
 exact((((HB.out.setCell (Nat.le_refl _) _).setCell (Nat.le_refl _) _).setCell (by simp;omega) _).setCell (by simp;omega) _).setCell (by simp;omega) _
end Go.Proofs.YtabmamofnhcgbaaGreatDoor.T8
