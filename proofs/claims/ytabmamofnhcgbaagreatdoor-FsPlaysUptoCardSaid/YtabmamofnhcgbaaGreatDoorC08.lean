/- A part of the proofs. -/
import Derived.Laws.CopyRow
import Derived.Laws.Append
import Derived.Lib.AppendZerosOnto
import Derived.Lib.Overlaps
import Derived.Lib.SliceRun
import Derived.Laws.Externs
import Derived.Test.YtabmamofnhcgbaaGreatDoorC07
set_option maxRecDepth 1000000
set_option maxHeartbeats 16000000
open Go.Lib (hid)
open Go.Proofs.Tryz
namespace Go.Proofs.YtabmamofnhcgbaaGreatDoor
open Go.RowKit Go.Less
attribute [local go_sem 9000] zg zf zz zA zB zC
theorem clone_any(s:ByteArray)(w:World)(hlim:s.size<=281474976710656):
  Calls prog 71 #[.string s] w λe w'=>e= .returned (.string s)/\Below w.heap.size w w':=by
 go_enter func71,ntmps71
 go_wp2_with fail
 refine(Any.stringslite_Clone laysM316 s w hlim).mono ?_
 rintro e w' ⟨rfl,hw⟩
 dsimp only
 go_wp2_with fail
 go_ret
 exact⟨rfl,hw⟩
theorem Vo{ops:Array Oper}{o:Oper}{a:Act}{w:World}{K:Act->World->Prop}{Q:Exit->Act->World->Prop}{E:Prop}(hgd:o.guard=none)(s x:Operand)
  (ho:o.op= .call {callee:= .builtin .append,args:= #[s,x],argTypes:= #[41,41]})
  (base:Nat) (v:Value) (l:List En) (hs:a.eval s=v) (hown:Own base v l w)
  (b:Nat) (u:En) (hx:a.eval x= .slice (some ⟨b,0,none⟩) 1 1) (hc:w.heap[b]?=some (.cells #[.string u.1,.int .i64 u.2] 132 (0,0))) (hn:l.length<=1000000) (hbase:base<=w.heap.size)
  (h: ∀ao' cap' w',Own base (.slice ao' (l.length+1) cap') (l++[u]) w'->w.grownBy w' v.ownBlock->K (a.put o.dst (.slice ao' (l.length+1) cap')) w'):
  if Region.wanted o (yielded ops a.tmps)=true then Oper.wp prog o a w K Q else E:=by
 have hw:Region.wanted o (yielded ops a.tmps)=true:=by simp[Region.wanted,hgd]
 rw[if_pos hw]
 obtain⟨i0,hi,hz0,hz1,hz2⟩:=info_parts Kc
 refine wp_append_own w s x 41 ho base 132 i0 (.agg #[.string ⟨#[]⟩,.int .i64 0]) 2 24 underlying41 hi hz0 hz1 hz2 rfl (by decide) v l.length (zq l) hs hown ⟨b,0,none⟩ 1 1 (zv u) hx rfl ?_ ?_ (by unfold maxLen;omega) (by omega) hbase ?_
 ·intro j y hj
  rw[show(⟨b,0,none⟩:Addr).add j=⟨b,j,none⟩ by unfold Addr.add;split<;>simp_all]
  match j with
  |0=>simp[zv]at hj;subst hj;simp[World.cell?,hc]
  |1=>simp[zv]at hj;subst hj;simp[World.cell?,hc]
  |j+2=>simp[zv]at hj
 ·intro y hy
  simp[zv]at hy
  rcases hy with rfl|rfl<;>rfl
 ·intro v' w' hown' hg _
  obtain⟨ao',cap',rfl⟩:=owns_form hown'
  refine h ao' cap' w' ?_ hg
  unfold Own
  rw[List.length_append,xY]
  simpa[zq,zv] using hown'
theorem ZZ{w wr W:World}{cs:Array Value}{l:List En}{v:Value}(h:Gat w cs l v wr)(hb:Below wr.heap.size wr W):Gat w cs l v W:=
 ⟨owned_below h.own hb,(hb.block _ (lt_of_obj h.box)).trans h.box,(hb.block _ (lt_of_obj h.res)).trans h.res,Nat.le_trans h.big hb.size,h.below.trans (hb.mono h.below.size)⟩
theorem below_drew{w w':World}(h:Below w.drew.heap.size w.drew w'):Below w.heap.size w w':=((Below.refl w.heap.size w).drew).trans h
theorem below_one(w:World)(o:Obj):Below w.heap.size w (w.alloc o):=(Below.refl _ w).alloc (Nat.le_refl _) _
def Owned(x:Nd.Node)(w:World)(e:Ending)(w':World):Prop:=
 ∃ao cap,e= .returned (nv x.kind x.mode x.data x.target ao x.ents.length cap)/\Own w.heap.size (.slice ao x.ents.length cap) x.ents w'/\Below w.heap.size w w'
theorem zcv{b b':Nat}{v:Value}{l:List En}{w:World}(h:Own b v l w)(hb:b'<=b):Own b' v l w:=by
 refine⟨h.1, ?_⟩
 rcases h.2 with h1|⟨g,cap,cur,e,h2,r⟩
 ·exact .inl h1
 ·exact .inr ⟨g,cap,cur,e,Nat.le_trans hb h2,r⟩
theorem zdi{w W:World}{k m:Int}{d t d' t':ByteArray}{u e:Value}{l:List En}{v:Value}(h:Gat w #[.int .i64 k,.int .i64 m,.string d,.string t,u] l v W):
  Gat w #[.int .i64 k,.int .i64 m,.string d',.string t',e] l v (((W.setCell ⟨w.heap.size,2,none⟩ (.string d')).setCell ⟨w.heap.size,3,none⟩ (.string t')).setCell ⟨w.heap.size,4,none⟩ e):=by
 have h2:=heap_setCell_same W w.heap.size 2 _ 43 (.string d') h.box
 have h3:=heap_setCell_same _ w.heap.size 3 _ 43 (.string t') h2
 have h4:=heap_setCell_same _ w.heap.size 4 _ 43 e h3
 refine⟨yp (yp (yp h.own (by omega) 2 _) (by omega) 3 _) (by omega) 4 _,by simpa using h4, ?_, ?_,((h.below.setCell (Nat.le_refl _) _).setCell (Nat.le_refl _) _).setCell (Nat.le_refl _) _⟩
 ·have hne:w.heap.size+1≠w.heap.size:=by omega
  rw[heap_setCell_other _ ⟨w.heap.size,4,none⟩ (w.heap.size+1) _ hne,heap_setCell_other _ ⟨w.heap.size,3,none⟩ (w.heap.size+1) _ hne,heap_setCell_other _ ⟨w.heap.size,2,none⟩ (w.heap.size+1) _ hne]
  exact h.res
 ·have:=h.big
  simpa[World.setCell] using this
theorem VA{fn:Func}{p:Tmp}(h:fn.results= #[.cell p 43])(tmps:Array Value)(w:World)(g:Nat)(k m d t e:Value)
  (hp:tmps.getD p undef= .pointer (some ⟨g,0,none⟩)) (hg:w.heap[g]?=some (.cells #[k,m,d,t,e] 43 (0,0))):
  (results fn tmps).run prog w= .ok (.agg #[k,m,d,t,e]) w:=
 results_cell_row (P:=prog) h _ _ g 43 #[k,m,d,t,e] (0,0) _ hp hg underlying43 rfl Jn
theorem kG(k m:Int)(d t:ByteArray)(a:Option Addr)(n cap:Nat)(l:List En)(w:World)(hE:Ents a n l w)(hn:n<=100000)(hs: ∀j,j<n->(l.getD j z0).1.size<=100000)(hd:d.size<=100000)(ht:t.size<=100000):
  Calls prog 162 #[nv k m d t a n cap] w (Owned ⟨k,m,d,t,l⟩ w):=by
 have HNL:=hid hE.count
 have hni:(n:Int)<=100000:=by omega
 have HE:=hid (λW (hb:Below w.heap.size w W)=>hE.below hb)
 have HS:=hid hs
 have HB0:=hid (show∀x y:Obj,Below w.heap.size w ((w.alloc x).alloc y)from λx y=>((Below.refl _ w).alloc (Nat.le_refl _) _).alloc (by simp) _)
 have HCd:=hid (λW=>clone_any d W (by omega))
 have HCt:=hid (λW=>clone_any t W (by omega))
 clear hE hs hd ht
 go_enter func162,ntmps162
 go_wp2_with fail
 go_loopw [3,9] (λv i wr=> ∃j:Nat,j<=n/\i= .int .i64 j/\Gat w #[.int .i64 k,.int .i64 m,.string d,.string t,.slice a n cap] (l.take j) v wr) (λ_ i _=>n-(intOf i).toNat)
 case atStart=>exact⟨0,Nat.zero_le _,rfl,⟨own_nil _ _,Xw _ _ _,kV _ _ _,two2 _ _ _,HB0.out _ _⟩⟩
 case round=>
  obtain⟨j,hj,rfl,hG⟩:=hrel
  obtain⟨ao,cp,rfl⟩:=owns_form hG.own
  by_cases hlt:j<n
  ·have j0:(j:Int)<(n:Int):=by omega
   have hj0:(0:Int)<=(j:Int):=by omega
   obtain⟨b,off,rfl,c0,c1⟩:=(HE.out _ hG.below).cell j hlt
   have hjl:j<l.length:=by rw[<-HNL.out];exact hlt
   have HT:=hid (yo hjl z0)
   have HLen:=hid (show(l.take j).length<=100000 by rw[List.length_take];omega)
   have hsz:=HS.out j hlt
   generalize l.getD j z0=x at c0 c1 HT hsz
   have HC:=hid (λW=>clone_any x.1 W (by omega))
   have HG:=hid hG
   have HB1:=hid (below_one wr (.cells #[.string x.1,.int .i64 x.2] 132))
   have HX:=hid (heap_alloc_new wr (.cells #[.string x.1,.int .i64 x.2] 132))
   have hlt1:=lt_of_obj HX.out
   clear hG hsz hjl
   generalize l.take j=C at*
   go_wp2_with fail
   go_region_law (first
    |(refine Vo rfl _ _ rfl (w.heap.size+2) _ C (by rfl) HO3.out w1.heap.size x (by rfl) HN3.out (Nat.le_trans HLen.out (by decide)) HZ.out ?_;intro ao4 cap4 w4 hown4 hgrow4;have HG4:=hid (xV HG3.out HO3.out hgrow4 (by simpa[Own] using hown4));clear hown4 hgrow4)
    |(go_simp;(with_reducible refine(HC.out _).mono ?_);rintro e w1 ⟨rfl,hw1d⟩;have hw1:=below_drew hw1d;have ci1:=(hw1.cell (p:=⟨wr.heap.size,1,none⟩) hlt1).trans (cell_obj HX.out 1);have HG3:=hid (ZZ HG.out (HB1.out.trans (hw1.mono HB1.out.size)));have HO3:=hid (owned_below HG3.out.own (below_one w1 (.cells #[.string x.1,.int .i64 x.2] 132)));have HN3:=hid (heap_alloc_new w1 (.cells #[.string x.1,.int .i64 x.2] 132));have HZ:=hid (Nat.le_trans HG3.out.big (below_one w1 (.cells #[.string x.1,.int .i64 x.2] 132)).size);clear hw1d))
   all_goals
    go_wp2_with fail
    go_roundw
    case rel=>exact⟨j+1,by omega,by go_num,by rw[HT.out];exact HG4.out⟩
    case measure=>simp[intOf];omega
  ·obtain rfl:j=n:=by omega
   rw[show l.take j=l by rw[HNL.out,List.take_length]]at hG|-
   have HG:=hid hG
   have hlen:=HNL.out
   clear hG hlt
   have x2:wr.cell? ⟨w.heap.size,2,none⟩=some (.string d):=cell_obj HG.out.box 2
   have x3:wr.cell? ⟨w.heap.size,3,none⟩=some (.string t):=cell_obj HG.out.box 3
   have hbl:=lt_of_obj HG.out.box
   go_wp2_with fail
   go_region_law (first
    |(go_simp;(with_reducible refine(HCd.out _).mono ?_);rintro e w1 ⟨rfl,hw1d⟩;have hw1:=below_drew hw1d;have y3:=(hw1.cell (p:=⟨w.heap.size,3,none⟩) hbl).trans x3;have HG3:=hid (ZZ HG.out hw1);clear hw1d)
    |(go_simp;(with_reducible refine(HCt.out _).mono ?_);rintro e w2 ⟨rfl,hw2⟩;have HG4:=hid (ZZ HG3.out hw2);clear hw2;have hx:=HG4.out.box;have z2:=cell_obj hx 2;have z3:=cell_obj hx 3;have z4:=cell_obj hx 4;have f2:=free_obj hx 2;have f3:=free_obj hx 3;have f4:=free_obj hx 4;clear hx))
   all_goals
    have HG5:=hid (zdi (d':=d) (t':=t) (e:= .slice ao l.length cp) HG4.out)
    clear z2 z3 z4 f2 f3 f4
    generalize (((w2.setCell ⟨w.heap.size,2,none⟩ (.string d)).setCell ⟨w.heap.size,3,none⟩ (.string t)).setCell ⟨w.heap.size,4,none⟩ (.slice ao l.length cp))=W5 at HG5|-
    have hr:=HG5.out.res
    have hx:=HG5.out.box
    have r0:=yl hr
    have q0:=xp hr
    have x0:W5.cell? ⟨w.heap.size,0,none⟩=some (.int .i64 k):=cell_obj hx 0
    have x1:W5.cell? ⟨w.heap.size,1,none⟩=some (.int .i64 m):=cell_obj hx 1
    have x2:W5.cell? ⟨w.heap.size,2,none⟩=some (.string d):=cell_obj hx 2
    have x3:W5.cell? ⟨w.heap.size,3,none⟩=some (.string t):=cell_obj hx 3
    have x4:W5.cell? ⟨w.heap.size,4,none⟩=some (.slice ao l.length cp):=cell_obj hx 4
    clear hr hx
    go_wp2_with fail
    refine bodyPost_ret_by (VA rfl _ _ (w.heap.size+1) _ _ _ _ _ rfl (set5 _ _ _ _ _ HG5.out.res)) rfl ⟨ao,cp,rfl,zcv (yj HG5.out.own (by omega) _ _ _ _ _) (by omega),zI HG5.out.below (Nat.le_succ _) _ _ _ _ _⟩
end Go.Proofs.YtabmamofnhcgbaaGreatDoor
namespace Go.Two
open Go.RowKit
variable {P : Program}
theorem YV(w:World)(dT sT ty elem:TypeId)(g o dLen dCap:Nat)(a:Addr)(sLen sCap k:Nat)(cur:Array Value)(t:TypeId)(cs:List Value)
  (hu:P.underlying dT=some (.slice elem)) (hs:(P.info? elem).map (·.size)=some 2)
  (hg:w.heap[g]?=some (.cells cur t (0,0))) (hk:k=Nat.min sLen dLen) (hn:cs.length=k*2)
  (hsrc: ∀j v,cs[j]?=some v->w.cell? (a.add j)=some v) (hfit:o+cs.length<=cur.size) (h1: ∀v∈cs,v.oneCell'=true):
  (Builtin.copy_ #[dT,sT] ty #[.slice (some ⟨g,o,none⟩) dLen dCap,.slice (some a) sLen sCap]).run P w=
   .ok (goInt k) (w.setRow g (cur.toList.take o++cs++cur.toList.drop (o+cs.length)).toArray):=by
 have hl:=run_firstCells_some (P:=P) w 2 k a sLen sCap cs hn hsrc
 have hst:=run_storeCells_at P g o t cs 0 cur w hg (by simpa using hfit) h1
 cases hq:P.info? elem with
 |none=>simp[hq]at hs
 |some i=>
  have hi:i.size=2:=by simpa[hq] using hs
  simp[Builtin.copy_,run_underlying hu,Builtin.lenOf,sizeOf,typeInfo,hq,hi,<-hk,hl,hst]
theorem grown_setRow(w:World)(g:Nat)(cs:Array Value):w.grownBy (w.setRow g cs) (some g):=
 ⟨rfl,rfl,rfl,by simp[World.setRow],λk _ hne=>setRow_other w g k cs (λe=>hne (by rw[e]))⟩
theorem wpList_copy2{w:World}{ops:Array Oper}{rest:List Oper}{o:Oper}{a:Act}{Q:Exit->Act->World->Prop}(hgd:o.guard=none)(d s:Operand)(dT sT:TypeId)
  (ho:o.op= .call {callee:= .builtin .copy,args:= #[d,s],argTypes:= #[dT,sT]}) (elem:TypeId) (hu:P.underlying dT=some (.slice elem)) (hsz:(P.info? elem).map (·.size)=some 2)
  (g off dLen dCap:Nat) (ad:Addr) (sLen sCap k:Nat) (hd:a.eval d= .slice (some ⟨g,off,none⟩) dLen dCap) (hs:a.eval s= .slice (some ad) sLen sCap)
  (cur:List Value) (t:TypeId) (hg:w.heap[g]?=some (.cells cur.toArray t (0,0))) (cs:List Value) (hk:k=Nat.min sLen dLen) (hn:cs.length=k*2)
  (hsrc: ∀j v,cs[j]?=some v->w.cell? (ad.add j)=some v) (hfit:off+cs.length<=cur.length) (h1: ∀v∈cs,v.oneCell'=true)
  (h: ∀w',Hid (w'.heap[g]?=some (.cells (splice cur off cs).toArray t (0,0)))->w.grownBy w' (some g)->wpList P ops Q rest (a.put o.dst (goInt k)) w'):wpList P ops Q (o::rest) a w:=by
 refine wpList_plain hgd λK hK=> ?_
 have hrun:=YV (P:=P) w dT sT o.type elem g off dLen dCap ad sLen sCap k cur.toArray t cs hu hsz hg hk hn hsrc (by simpa using hfit) h1
 unfold Oper.wp
 simp[execOp,ho,resolve,invoke,builtin,hd,hs,hrun,Result.andThen]
 refine hK _ _ (h _ ?_ (grown_setRow w g _))
 show _=_
 simpa[splice] using setRow_heap w g _ _ t _ hg
theorem step_copy2{w:World}{ops:Array Oper}{o:Oper}{a:Act}{K:Act->World->Prop}{Q:Exit->Act->World->Prop}{E:Prop}(hgd:o.guard=none)(d s:Operand)(dT sT:TypeId)
  (ho:o.op= .call {callee:= .builtin .copy,args:= #[d,s],argTypes:= #[dT,sT]}) (elem:TypeId) (hu:P.underlying dT=some (.slice elem)) (hsz:(P.info? elem).map (·.size)=some 2)
  (g off dLen dCap:Nat) (ad:Addr) (sLen sCap k:Nat) (hd:a.eval d= .slice (some ⟨g,off,none⟩) dLen dCap) (hs:a.eval s= .slice (some ad) sLen sCap)
  (cur:List Value) (t:TypeId) (hg:w.heap[g]?=some (.cells cur.toArray t (0,0))) (cs:List Value) (hk:k=Nat.min sLen dLen) (hn:cs.length=k*2)
  (hsrc: ∀j v,cs[j]?=some v->w.cell? (ad.add j)=some v) (hfit:off+cs.length<=cur.length) (h1: ∀v∈cs,v.oneCell'=true)
  (h: ∀w',Hid (w'.heap[g]?=some (.cells (splice cur off cs).toArray t (0,0)))->w.grownBy w' (some g)->K (a.put o.dst (goInt k)) w'):
  if Region.wanted o (yielded ops a.tmps)=true then Oper.wp P o a w K Q else E:=by
 have hw:Region.wanted o (yielded ops a.tmps)=true:=by simp[Region.wanted,hgd]
 rw[if_pos hw]
 have hrun:=YV (P:=P) w dT sT o.type elem g off dLen dCap ad sLen sCap k cur.toArray t cs hu hsz hg hk hn hsrc (by simpa using hfit) h1
 unfold Oper.wp
 simp[execOp,ho,resolve,invoke,builtin,hd,hs,hrun,Result.andThen]
 refine h _ ?_ (grown_setRow w g _)
 show _=_
 simpa[splice] using setRow_heap w g _ _ t _ hg
theorem step_app2{w:World}{ops:Array Oper}{o:Oper}{a:Act}{K:Act->World->Prop}{Q:Exit->Act->World->Prop}{E:Prop}(hgd:o.guard=none)(s x:Operand)(t:TypeId)
  (ho:o.op= .call {callee:= .builtin .append,args:= #[s,x],argTypes:= #[t,t]}) (e:TypeId) (hu:P.underlying t=some (.slice e)) (hsz:(P.info? e).map (·.size)=some 2)
  (g sLen sCap:Nat) (ad:Addr) (m c:Nat) (hs:a.eval s= .slice (some ⟨g,0,none⟩) sLen sCap) (hx:a.eval x= .slice (some ad) m c)
  (cur:List Value) (hg:w.heap[g]?=some (.cells cur.toArray e (0,0))) (news:List Value) (hn:news.length=m*2) (hnews: ∀j u,news[j]?=some u->w.cell? (ad.add j)=some u) (h1: ∀u∈news,u.oneCell'=true)
  (hroom:sLen+m<=sCap) (hfit:sLen*2+news.length<=cur.length)
  (h: ∀w',Hid (w'.heap[g]?=some (.cells (splice cur (sLen*2) news).toArray e (0,0)))->w.grownBy w' (some g)->K (a.put o.dst (.slice (some ⟨g,0,none⟩) (sLen+m) sCap)) w'):
  if Region.wanted o (yielded ops a.tmps)=true then Oper.wp P o a w K Q else E:=by
 have hw:Region.wanted o (yielded ops a.tmps)=true:=by simp[Region.wanted,hgd]
 rw[if_pos hw]
 cases hq:P.info? e with
 |none=>simp[hq]at hsz
 |some i=>
  have hi:i.size=2:=by simpa[hq] using hsz
  have hrun:=run_append_room (P:=P) w t o.type e i hu hq g sLen sCap cur.toArray hg ad m c news (by rw[hi];exact hn) hnews h1 hroom (by rw[hi];simpa using hfit)
  rw[hi]at hrun
  unfold Oper.wp
  simp[execOp,ho,resolve,invoke,builtin,hs,hx,hrun,Result.andThen]
  refine h _ ?_ (grown_setRow w g _)
  show _=_
  simpa[splice] using setRow_heap w g _ _ e _ hg
theorem run_clear2(w:World)(t e ty:TypeId)(z:Value)(z0 z1:Value)(ht:P.underlying t=some (.slice e))(hv: ∀w,(zeroValue e).run P w= .ok z w)(hz:z.cells= #[z0,z1])(h0:z0.oneCell'=true)(h1:z1.oneCell'=true)(g o c:Nat)(cur:Array Value)(tt:TypeId)
  (hg:w.heap[g]?=some (.cells cur tt (0,0))) (hfit:o+2<=cur.size):
  (Builtin.clear_ #[t] ty #[.slice (some ⟨g,o,none⟩) 1 c]).run P w= .ok (.tuple #[]) (w.setRow g (cur.toList.take o++[z0,z1]++cur.toList.drop (o+2)).toArray):=by
 have hzc:(Builtin.zeroCells z.cells 1).toList=[z0,z1]:=by
  rw[hz]
  simp[Builtin.zeroCells]
  rfl
 have hst:=run_storeCells_at P g o tt [z0,z1] 0 cur w hg (by simpa using hfit) (by intro v hv;simp at hv;rcases hv with rfl|rfl<;>assumption)
 simp only[Nat.add_zero]at hst
 simp only[Builtin.clear_]
 simp[run_underlying ht,hv,hzc,hst]
end Go.Two
namespace Go.Proofs.YtabmamofnhcgbaaGreatDoor
open Go.RowKit Go.Less
abbrev oc(x:En):Obj:= .cells #[.string x.1,.int .i64 x.2] 132
def ka(base:Nat)(v:Value)(l:List En)(w:World)(e:Ending)(w':World):Prop:= ∃ao cap,e= .returned (.slice ao l.length cap)/\Own base (.slice ao l.length cap) l w'/\w.grownBy w' v.ownBlock
theorem zeA(ao:Option Addr)(n c n' c':Nat):(Value.slice ao n c).ownBlock=(Value.slice ao n' c').ownBlock:=by cases ao<;>rfl
theorem kY:(prog.info? 132).map (·.size)=some 2:=by kernel_rfl
theorem zeR(base:Nat)(ao:Option Addr)(cp:Nat)(l:List En)(vb:Nat)(x:En)(w:World)(hO:Own base (.slice ao l.length cp) l w)(hx:w.heap[vb]?=some (oc x))(hl:l.length<=100000)(hb:base<=w.heap.size):
  Calls prog 215 #[.slice ao l.length cp,.int .i64 (l.length:Int),.slice (some ⟨vb,0,none⟩) 1 1] w (ka base (.slice ao l.length cp) (l++[x]) w):=by
 have HO:=hid hO
 have HX:=hid hx
 have HL:=hid hl
 have h0:(0:Int)<=(l.length:Int):=by omega
 clear hO hx hl
 generalize hn:l.length=n at*
 go_enter func215,ntmps215
 go_wp2_with (first|(at_builtin;refine jh rfl _ _ rfl base _ l (by rfl) HO.out vb x (by rfl) HX.out (by rw[hn];exact Nat.le_trans HL.out (by decide)) hb ?_;intro ao4 cap4 w4 hown4 hgrow4)|fail)
 all_goals
  go_ret
  exact⟨ao4,cap4,by rw[List.length_append,hn];rfl,by rw[List.length_append];rw[hn]at hown4|-;exact hown4,by first|exact hgrow4|(rw[zeA ao n n n cp];exact hgrow4)⟩
theorem qv(l:List En)(i:Nat):(zq l).drop (i*2)=zq (l.drop i):=by
 induction l generalizing i with
 |nil=>simp[zq]
 | cons x l ih=>
  cases i with
  |zero=>simp
  |succ i=>
   have e:zq (x::l)=zv x++zq l:=rfl
   rw[e,show(i+1)*2=2+i*2 by omega,<-List.drop_drop,List.drop_left' (show(zv x).length=2 from rfl),ih];rfl
theorem qu(l:List En)(i:Nat):(zq l).take (i*2)=zq (l.take i):=by
 induction l generalizing i with
 |nil=>simp[zq]
 | cons x l ih=>
  cases i with
  |zero=>simp[zq]
  |succ i=>
   have e:zq (x::l)=zv x++zq l:=rfl
   rw[e,show(i+1)*2=2+i*2 by omega,List.take_append,List.take_of_length_le (show(zv x).length<=2+i*2 by show 2<=_;omega),show 2+i*2-(zv x).length=i*2 by show 2+i*2-2=_;omega,ih];rfl
theorem kP(l:List En): ∀v∈zq l,v.oneCell'=true:=by
 intro v hv
 simp only[zq,List.mem_flatMap,zv,List.mem_cons,List.not_mem_nil,or_false]at hv
 obtain⟨x,_,rfl|rfl⟩:=hv<;>rfl
theorem zcP(cur:List Value)(l:List En)(i cap:Nat)(x:En)(hc:cur.length=cap*2)(ht:cur.take (l.length*2)=zq l)(hi:i<=l.length)(hr:l.length+1<=cap):
  (splice (splice cur ((i+1)*2) (zq (l.drop i))) (i*2) (zv x)).take ((l.length+1)*2)=zq (l.take i++x::l.drop i):=by
 have h1:cur.take (i*2)=zq (l.take i):=by
  rw[<-qu,<-ht,List.take_take,Nat.min_eq_left (by omega)]
 have e1:(splice cur ((i+1)*2) (zq (l.drop i))).take (i*2)=zq (l.take i):=by
  unfold splice
  rw[List.take_append_of_le_length (by rw[List.length_take];omega),List.take_take,Nat.min_eq_left (by omega),h1]
 have e2:(splice cur ((i+1)*2) (zq (l.drop i))).drop (i*2+2)=zq (l.drop i)++cur.drop ((i+1)*2+(zq (l.drop i)).length):=by
  unfold splice
  rw[show i*2+2=(cur.take ((i+1)*2)).length by rw[List.length_take];omega,List.drop_left]
 have e3:splice (splice cur ((i+1)*2) (zq (l.drop i))) (i*2) (zv x)=(zq (l.take i)++zv x++zq (l.drop i))++cur.drop ((i+1)*2+(zq (l.drop i)).length):=by
  rw[show∀A:List Value,splice A (i*2) (zv x)=A.take (i*2)++(zv x++A.drop (i*2+(zv x).length))from λ_=>rfl,e1,show(zv x).length=2 from rfl,e2]
  simp only[List.append_assoc]
 have e4:zq (l.take i)++zv x++zq (l.drop i)=zq (l.take i++x::l.drop i):=by
  rw[xY,show zq (x::l.drop i)=zv x++zq (l.drop i)from rfl,List.append_assoc]
 rw[e3,e4,List.take_left']
 rw[zJ,List.length_append,List.length_cons,List.length_take,List.length_drop]
 omega
theorem xl{cur cs:List Value}{o:Nat}(h:o+cs.length<=cur.length):(splice cur o cs).length=cur.length:=length_splice cur o cs h
theorem zeJ:prog.follows .mixedOrders=true:=by kernel_rfl
theorem zc5(base g cap:Nat)(cur:Array Value)(l:List En)(i vb:Nat)(x:En)(w:World)(hg:w.heap[g]?=some (.cells cur 132 (0,0)))(hs:cur.size=cap*2)(ht:cur.toList.take (l.length*2)=zq l)(hx:w.heap[vb]?=some (oc x))(hvg:vb≠g)
  (hi:i<l.length) (hr:l.length+1<=cap) (hm:cap<=maxLen) (hl:l.length<=100000) (hbg:base<=g):
  Calls prog 215 #[.slice (some ⟨g,0,none⟩) l.length cap,.int .i64 (i:Int),.slice (some ⟨vb,0,none⟩) 1 1] w (ka base (.slice (some ⟨g,0,none⟩) l.length cap) (l.take i++x::l.drop i) w):=by
 have mixed:=zeJ
 have HX:=hid hx
 have hov: ∀lb cb,(callFunc 240 #[.slice (some ⟨vb,0,none⟩) 1 1,.slice (some ⟨g,(i+1)*2,none⟩) lb cb]).run prog w= .ok (.value (.bool false)) w:=λlb cb=>by
  rw[run_callFunc_extern func240 (by kernel_rfl) (by kernel_rfl) (by kernel_rfl) (e:=Extern.SlicesOverlaps.overlaps #[41,41] #[4]) (by kernel_rfl),
   Lib.run_overlaps_apart w 41 4 132 underlying41 2 Tryz.sizeOf132 ⟨vb,0,none⟩ ⟨g,(i+1)*2,none⟩ 1 1 lb cb hvg 132 132 2 cur.size (by simp[World.shape?,hx]) (by simp[World.shape?,hg]) (by omega) (free_obj hx 0) (free_obj hx 2)]
  rfl
 generalize hn:l.length=n at*
 have hni:(n:Int)<=100000:=by omega
 have hi0:(0:Int)<=(i:Int):=by omega
 have hr1: ¬ ((cap:Int)<(n:Int)+1):=by omega
 have hb2: ¬ (cap=i+1):=by omega
 have hb3:(i:Int)<=(n:Int)+1:=by omega
 have hb4: ¬ (cap=i):=by omega
 have hw1:IntKind.i64.wrap ((i:Int)+1)=(i:Int)+1:=IntWalk.i64_in _ (by omega)
 have htn:((i:Int)+1).toNat=i+1:=by omega
 have hin:i<=n:=by omega
 have hb1:(0:Int)<=(i:Int)+1:=by omega
 have HGd:=hid (show w.drew.heap[g]?=some (.cells cur.toList.toArray 132 (0,0)) by rw[Array.toArray_toList];exact hg)
 have hdl:(zq (l.drop i)).length=(n-i)*2:=by rw[zJ,List.length_drop,hn]
 have HK:=hid (show n-i=Nat.min (n+1-i) (n-i) by simp only[Nat.min_def];split<;>omega)
 have HN1:=hid hdl
 have HSrc:=hid (show∀j v,(zq (l.drop i))[j]?=some v->w.drew.cell? ((⟨g,i*2,none⟩:Addr).add j)=some v from λj v hj=>by
  rw[Go.WideShapes.add_plain]
  show w.cell? _=_
  rw[cell_obj hg,<-Array.getElem?_toList]
  rw[<-qv,<-ht,List.getElem?_drop,List.getElem?_take]at hj
  split at hj
  ·exact hj
  ·cases hj)
 have HFit:=hid (show(i+1)*2+(zq (l.drop i)).length<=cur.toList.length by rw[hdl,Array.length_toList,hs];omega)
 have HOne:=hid (kP (l.drop i))
 have HLaid:=hid (zcP cur.toList l i cap x (by rw[Array.length_toList,hs]) (by rw[hn];exact ht) (by omega) (by omega))
 have HSl:=hid (show(splice cur.toList ((i+1)*2) (zq (l.drop i))).length=cap*2 from(xl HFit.out).trans (Array.length_toList.trans hs))
 have HK1:=hid (show 1=Nat.min 1 (n+1-i) by simp only[Nat.min_def];split<;>omega)
 have HFit2:=hid (show i*2+(zv x).length<=(splice cur.toList ((i+1)*2) (zq (l.drop i))).length by rw[HSl.out];show i*2+2<=_;omega)
 have HOne2:=hid (show∀v∈zv x,v.oneCell'=true from λv hv=>by simp[zv]at hv;rcases hv with rfl|rfl<;>rfl)
 have HM:=hid hm
 clear hg hx hl hm hs ht hdl
 go_enter func215,ntmps215
 go_wp2_with (simp only[hov])
 go_region_law_o (refine Two.step_copy2 rfl _ _ 41 41 rfl 132 underlying41 kY g ((i+1)*2) (n-i) (cap-(i+1)) ⟨g,i*2,none⟩ (n+1-i) (cap-i) (n-i) (by simp[Act.eval,Act.put]) (by simp[Act.eval,Act.put]) cur.toList 132 HGd.out (zq (l.drop i)) HK.out HN1.out HSrc.out HFit.out HOne.out ?_;intro w4 hg4 hgr4)
 all_goals
  have HX4:=hid (show w4.heap[vb]?=some (oc x)from(hgr4.block vb (lt_of_obj HX.out) (λe=>hvg (by injection e))).trans HX.out)
  have HCk:=hid (show∀j v,(zv x)[j]?=some v->w4.cell? ((⟨vb,0,none⟩:Addr).add j)=some v from λj v hj=>by
   rw[Go.WideShapes.add_plain,Nat.zero_add,cell_obj HX4.out]
   match j with
   |0=>exact hj
   |1=>exact hj
   |j+2=>simp[zv]at hj)
  go_wp2_with (first|((with_reducible refine Two.wpList_copy2 (P:=prog) rfl (.tmp 80) (.tmp 81) 41 41 rfl 132 underlying41 kY g (i*2) (n+1-i) (cap-i) ⟨vb,0,none⟩ 1 1 1 ?_ ?_ (splice cur.toList ((i+1)*2) (zq (l.drop i))) 132 hg4.out (zv x) HK1.out ?_ HCk.out HFit2.out HOne2.out ?_);exact rfl;exact rfl;exact rfl;intro w5 hg5 hgr5)|fail)
  go_ret
  have hlen:(l.take i++x::l.drop i).length=n+1:=by rw[List.length_append,List.length_cons,List.length_take,List.length_drop];omega
  have hgr:w.grownBy w5 (some g):=⟨hgr5.os.trans hgr4.os,hgr5.tape.trans hgr4.tape,hgr5.output.trans hgr4.output,Nat.le_trans hgr4.size hgr5.size,λk hk hne=>(hgr5.block k (Nat.lt_of_lt_of_le hk hgr4.size) hne).trans (hgr4.block k hk hne)⟩
  refine⟨some ⟨g,0,none⟩,cap,by rw[hlen];rfl,⟨by rw[zJ],.inr ⟨g,cap,_,rfl,hbg,hg5.out,by rw[hlen];exact hr,HM.out, ?_, ?_⟩⟩,hgr⟩
  ·rw[List.size_toArray,xl HFit2.out,HSl.out]
  ·have h:=HLaid.out
   rw[hn]at h
   rw[hlen]
   exact h
theorem zcO(R:List Value)(l:List En)(i:Nat)(x:En)(ht:R.take (i*2)=zq (l.take i))(hi:i<=l.length):
  (splice (splice R (i*2) (zv x)) ((i+1)*2) (zq (l.drop i))).take ((l.length+1)*2)=zq (l.take i++x::l.drop i):=by
 have e0:splice R (i*2) (zv x)=(zq (l.take i)++zv x)++R.drop (i*2+2):=by
  rw[show splice R (i*2) (zv x)=R.take (i*2)++(zv x++R.drop (i*2+2))from rfl,ht,List.append_assoc]
 have h1:(zq (l.take i)++zv x).length=(i+1)*2:=by rw[List.length_append,zJ,List.length_take];show _+2=_;omega
 have e1:(splice R (i*2) (zv x)).take ((i+1)*2)=zq (l.take i)++zv x:=by rw[e0,<-h1,List.take_left]
 have e3:splice (splice R (i*2) (zv x)) ((i+1)*2) (zq (l.drop i))=(zq (l.take i)++zv x++zq (l.drop i))++(splice R (i*2) (zv x)).drop ((i+1)*2+(zq (l.drop i)).length):=by
  rw[show∀A:List Value,splice A ((i+1)*2) (zq (l.drop i))=A.take ((i+1)*2)++(zq (l.drop i)++A.drop ((i+1)*2+(zq (l.drop i)).length))from λ_=>rfl,e1]
  simp only[List.append_assoc]
 have e4:zq (l.take i)++zv x++zq (l.drop i)=zq (l.take i++x::l.drop i):=by
  rw[xY,show zq (x::l.drop i)=zv x++zq (l.drop i)from rfl,List.append_assoc]
 rw[e3,e4,List.take_left']
 rw[zJ,List.length_append,List.length_cons,List.length_take,List.length_drop]
 omega
theorem zc6(base g cap:Nat)(cur:Array Value)(l:List En)(i vb:Nat)(x:En)(w:World)(hg:w.heap[g]?=some (.cells cur 132 (0,0)))(hs:cur.size=cap*2)(ht:cur.toList.take (l.length*2)=zq l)(hx:w.heap[vb]?=some (oc x))
  (hi:i<l.length) (hr:cap<l.length+1) (hm:l.length<=cap) (hl:l.length<=100000) (hbw:base<=w.heap.size):
  Calls prog 215 #[.slice (some ⟨g,0,none⟩) l.length cap,.int .i64 (i:Int),.slice (some ⟨vb,0,none⟩) 1 1] w (ka base (.slice (some ⟨g,0,none⟩) l.length cap) (l.take i++x::l.drop i) w):=by
 have mixed:=zeJ
 obtain⟨i0,hi0,hz0,hz1,hz2⟩:=info_parts Kc
 obtain rfl:cap=l.length:=by omega
 have HX:=hid hx
 have hgw:=lt_of_obj hg
 have hvw:=lt_of_obj hx
 have htk:cur.toList.take (i*2)=zq (l.take i):=by rw[<-qu,<-ht,List.take_take,Nat.min_eq_left (by omega)]
 have hol:(zq (l.take i)).length=i*2:=by rw[zJ,List.length_take];omega
 have hold:(Builtin.firstCells i0.size i (.slice (some ⟨g,0,none⟩) i l.length)).run prog w.drew= .ok (zq (l.take i)).toArray w.drew:=by
  rw[hz1]
  exact run_firstCells_some (P:=prog) w.drew 2 i ⟨g,0,none⟩ i l.length (zq (l.take i)) hol (λj v hj=>by
   rw[Go.WideShapes.add_plain,Nat.zero_add]
   show w.cell? _=_
   rw[cell_obj hg,<-Array.getElem?_toList]
   rw[<-htk,List.getElem?_take]at hj
   split at hj
   ·exact hj
   ·cases hj)
 have hrz: ∀ty,(Builtin.append_ #[41,3] ty #[.slice (some ⟨g,0,none⟩) i l.length,.int .i64 ((l.length:Int)+1-(i:Int))]).run prog w=
   .ok (.slice (some ⟨w.heap.size,0,none⟩) (l.length+1) (grownCap w (l.length+1) l.length 132)) (w.drew.alloc (.cells ((zq (l.take i)).toArray++Builtin.zeroCells (Value.agg #[.string ⟨#[]⟩,.int .i64 0]).cells (l.length+1-i)++Builtin.zeroCells (Value.agg #[.string ⟨#[]⟩,.int .i64 0]).cells (grownCap w (l.length+1) l.length 132-(l.length+1))) 132)):=λty=>by
  have h:=Lib.run_append_grow_zeros (P:=prog) w 41 3 ty 132 i0 _ .i64 .i64 underlying41 underlying3 hi0 hz0 (some ⟨g,0,none⟩) i l.length (zq (l.take i)) hold (l.length+1-i) (by omega) (by omega) (by omega) (by omega) (by rw[hz2];omega) (by rw[hz2,show i+(l.length+1-i)=l.length+1 by omega];exact growslice_fits (by omega) (by omega))
  rw[show i+(l.length+1-i)=l.length+1 by omega]at h
  rw[show(l.length:Int)+1-(i:Int)=((l.length+1-i:Nat):Int) by omega]
  exact h
 have hGn:l.length+1<=grownCap w (l.length+1) l.length 132:=grownCap_ge w _ _ _
 have hGm:grownCap w (l.length+1) l.length 132<=maxLen:=grownCap_le_maxLen w _ _ _ (by unfold maxLen;omega)
 generalize grownCap w (l.length+1) l.length 132=G at*
 obtain⟨R,hR⟩: ∃R:List Value,R.toArray=(zq (l.take i)).toArray++Builtin.zeroCells (Value.agg #[.string ⟨#[]⟩,.int .i64 0]).cells (l.length+1-i)++Builtin.zeroCells (Value.agg #[.string ⟨#[]⟩,.int .i64 0]).cells (G-(l.length+1)):=⟨_,Array.toArray_toList⟩
 have hRt:R.take (i*2)=zq (l.take i):=by
  have e:=congrArg Array.toList hR
  simp only[Array.toList_append]at e
  rw[e,List.append_assoc,<-hol,List.take_left]
 have hRl:R.length=G*2:=by
  have e:=congrArg Array.size hR
  simp only[Array.size_append,List.size_toArray,size_zeroCells,hol]at e
  have e2:(Value.agg #[.string ⟨#[]⟩,.int .i64 0]).cells.size=2:=rfl
  rw[e2]at e
  omega
 rw[<-hR]at hrz
 have HRn:=hid (heap_alloc_new w.drew (.cells R.toArray 132))
 have HLaid:=hid (zcO R l i x hRt (by omega))
 have hdl:(zq (l.drop i)).length=(l.length-i)*2:=by rw[zJ,List.length_drop]
 have HN1:=hid hdl
 have HOne:=hid (kP (l.drop i))
 have HOne2:=hid (show∀v∈zv x,v.oneCell'=true from λv hv=>by simp[zv]at hv;rcases hv with rfl|rfl<;>rfl)
 have HFit1:=hid (show i*2+(zv x).length<=R.length by rw[hRl];show i*2+2<=_;omega)
 have HSl:=hid (show(splice R (i*2) (zv x)).length=G*2 from(xl HFit1.out).trans hRl)
 have HFit:=hid (show(i+1)*2+(zq (l.drop i)).length<=(splice R (i*2) (zv x)).length by rw[HSl.out,hdl];omega)
 have HS0:=hid (show∀W:World,W.heap[g]?=w.heap[g]?-> ∀j v,(zq (l.drop i))[j]?=some v->W.cell? ((⟨g,i*2,none⟩:Addr).add j)=some v from λW hW j v hj=>by
  rw[Go.WideShapes.add_plain,cell_obj (hW.trans hg),<-Array.getElem?_toList]
  rw[<-qv,<-ht,List.getElem?_drop,List.getElem?_take]at hj
  split at hj
  ·exact hj
  ·cases hj)
 have HM:=hid hGm
 generalize hn:l.length=n at*
 have HK1:=hid (show 1=Nat.min 1 (n+1-i) by simp only[Nat.min_def];split<;>omega)
 have HK:=hid (show n-i=Nat.min (n-i) (n-i) by simp)
 have hni:(n:Int)<=100000:=by omega
 have hi00:(0:Int)<=(i:Int):=by omega
 have hr1:(n:Int)<(n:Int)+1:=by omega
 have hw1:IntKind.i64.wrap ((i:Int)+1)=(i:Int)+1:=IntWalk.i64_in _ (by omega)
 have htn:((i:Int)+1).toNat=i+1:=by omega
 have hb1:(0:Int)<=(i:Int)+1:=by omega
 have hb3:(i:Int)<=(n:Int):=by omega
 have hGi: ¬ (G=i):=by omega
 have hGim: ¬ (G=i+1):=by omega
 have hci: ¬ (n=i):=by omega
 have HGR:=hid (show w.grownBy (w.drew.alloc (.cells R.toArray 132)) none from⟨rfl,rfl,rfl,by simp,λk hk _=>(below_one w.drew (.cells R.toArray 132)).block k hk⟩)
 have HCk:=hid (show∀j v,(zv x)[j]?=some v->(w.drew.alloc (.cells R.toArray 132)).cell? ((⟨vb,0,none⟩:Addr).add j)=some v from λj v hj=>by
  rw[Go.WideShapes.add_plain,Nat.zero_add,cell_obj (((below_one w.drew (.cells R.toArray 132)).block vb hvw).trans HX.out)]
  match j with
  |0=>exact hj
  |1=>exact hj
  |j+2=>simp[zv]at hj)
 clear hg hx hl hm hs ht hdl hold hR hRt hRl hol htk hi0 hz0 hz1 hz2
 go_enter func215,ntmps215
 go_wp2_with (first
  |(at_builtin;refine Lib.wpList_append_run _ rfl _ _ _ _ rfl _ _ rfl rfl _ _ (hrz _) ?_)
  |((with_reducible refine Two.wpList_copy2 (P:=prog) rfl (.tmp 43) (.tmp 44) 41 41 rfl 132 underlying41 kY w.heap.size (i*2) (n+1-i) (G-i) ⟨vb,0,none⟩ 1 1 1 ?_ ?_ R 132 ?_ (zv x) HK1.out ?_ ?_ HFit1.out HOne2.out ?_);exact rfl;exact rfl;exact HRn.out;exact rfl;exact HCk.out;intro w4 hg4 hgr4)
  |fail)
 have HGR4:=hid (show w.grownBy w4 (some w.heap.size)from⟨hgr4.os,hgr4.tape,hgr4.output,Nat.le_trans HGR.out.size hgr4.size,λk hk hne=>(hgr4.block k (Nat.lt_of_lt_of_le hk HGR.out.size) hne).trans (HGR.out.block k hk (by simp))⟩)
 have HSrc:=hid (HS0.out w4.drew (HGR4.out.block g hgw (λe=>by injection e with e;omega)))
 go_region_law_o (refine Two.step_copy2 rfl _ _ 41 41 rfl 132 underlying41 kY w.heap.size ((i+1)*2) (n-i) (G-(i+1)) ⟨g,i*2,none⟩ (n-i) (n-i) (n-i) (by simp[Act.eval,Act.put]) (by simp[Act.eval,Act.put]) (splice R (i*2) (zv x)) 132 hg4.out (zq (l.drop i)) HK.out HN1.out HSrc.out HFit.out HOne.out ?_;intro w5 hg5 hgr5)
 all_goals
  go_wp2_with fail
  go_ret
  have hlen:(l.take i++x::l.drop i).length=n+1:=by rw[List.length_append,List.length_cons,List.length_take,List.length_drop];omega
  have hgr:w.grownBy w5 (some g):=⟨hgr5.os.trans HGR4.out.os,hgr5.tape.trans HGR4.out.tape,hgr5.output.trans HGR4.out.output,Nat.le_trans HGR4.out.size hgr5.size,λk hk _=>(hgr5.block k (Nat.lt_of_lt_of_le hk HGR4.out.size) (λe=>by injection e with e;omega)).trans (HGR4.out.block k hk (λe=>by injection e with e;omega))⟩
  refine⟨some ⟨w.heap.size,0,none⟩,G,by rw[hlen];rfl,⟨by rw[zJ],.inr ⟨w.heap.size,G,_,rfl,hbw,hg5.out,by rw[hlen];exact hGn,HM.out, ?_, ?_⟩⟩,hgr⟩
  ·rw[List.size_toArray,xl HFit.out,HSl.out]
  ·have h:=HLaid.out
   rw[hlen]
   exact h
theorem ZS(base:Nat)(ao:Option Addr)(cp:Nat)(l:List En)(i vb:Nat)(x:En)(w:World)(hO:Own base (.slice ao l.length cp) l w)(hx:w.heap[vb]?=some (oc x))(hvb:some vb≠(Value.slice ao l.length cp).ownBlock)(hi:i<=l.length)(hl:l.length<=100000)(hb:base<=w.heap.size):
  Calls prog 215 #[.slice ao l.length cp,.int .i64 (i:Int),.slice (some ⟨vb,0,none⟩) 1 1] w (ka base (.slice ao l.length cp) (l.take i++x::l.drop i) w):=by
 rcases Nat.eq_or_lt_of_le hi with h|h
 ·subst h
  rw[List.take_length,List.drop_length]
  exact zeR base ao cp l vb x w hO hx hl hb
 ·obtain⟨hlen,⟨e,h0⟩|⟨g,cap,cur,e,hbg,hg,hn,hm,hs,ht⟩⟩:=hO
  ·omega
  ·injection e with e1 e2 e3
   subst e1 e3
   rcases Nat.lt_or_ge cp (l.length+1)with hr|hr
   ·exact zc6 base g cp cur l i vb x w hg hs ht hx h hr hn hl hb
   ·exact zc5 base g cp cur l i vb x w hg hs ht hx (λe=>hvb (by rw[e];rfl)) h hr hm hl hbg
end Go.Proofs.YtabmamofnhcgbaaGreatDoor
namespace Go.Proofs.YtabmamofnhcgbaaGreatDoor
open Go.RowKit Go.Less Go.Shelf
attribute [local go_sem 9000] zg zf zz zA zB zC
def u8z(n:Int):UInt8:=UInt8.ofNat (n%256).toNat
def shn(n:Int)(k:Nat):Int:=n/2^k
theorem YO(t:TypeId)(n k:Int)(h0:0<=k)(h63:k<64):binOp .shr t (.int .i64 n) (.int .u64 k)=pure (.int .i64 (shn n k.toNat)):=by
 show Op.shift .shr .i64 n .u64 k=_
 rw[shift_shr_any _ _ _ _ h0];unfold shn
 show pure (Value.int .i64 (n/((2^min k.toNat 64:Nat):Int)))=_
 rw[Nat.min_eq_left (by omega)]
 congr 2
theorem zb0(w:World)(n:Int):(convert 3 5 (.int .i64 n)).run prog w= .ok (.int .u8 ((u8z n).toNat:Int)) w:=by
 have h:(convert 3 5 (.int .i64 n)).run prog w= .ok (.int .u8 (IntKind.u8.wrap n)) w:=by rfl
 unfold u8z
 rw[h,IntKind.wrap_u8',UInt8.toNat_ofNat']
 congr 2;omega
theorem Zb(q:Nat):u8z (q:Int)=UInt8.ofNat q:=by
 unfold u8z
 apply UInt8.toNat_inj.1
 rw[UInt8.toNat_ofNat',UInt8.toNat_ofNat']
 omega
theorem Xv(q k:Nat):u8z (shn (q:Int) k)=UInt8.ofNat (q/2^k):=by
 unfold shn
 rw[show(q:Int)/2^k=((q/2^k:Nat):Int) by rw[Int.natCast_ediv,Int.natCast_pow];rfl,Zb]
attribute [local go_sem 9000] YO zb0
abbrev BA(B:Nat)(bs:List Value)(w:World):Prop:=Lib.BuilderAtF 242 5 B B (.pointer (some ⟨B,0,none⟩)) bs w
abbrev IB(B:Nat)(bs:List Value)(w:World):Prop:=Lib.IsBuilderF 242 5 B B bs w
theorem Yg{B:Nat}{p:Value}{bs:List Value}{w:World}(h:Lib.BuilderAtF 242 5 B B p bs w)(o:Obj):Lib.BuilderAtF 242 5 B B p bs (w.alloc o):=by
 obtain⟨hB,v,hbk,hown,hne⟩:=h
 exact⟨hB,v,(below_one w o).block _ (lt_of_obj hbk)|>.trans hbk,hown.alloc o,hne⟩
theorem zdc{B:Nat}{bs:List Value}{w:World}(h:IB B bs w)(o:Obj):IB B bs (w.alloc o):=h.elim (λx=> .inl (Yg x o)) (λx=> .inr (Yg x o))
theorem ib_lt{B:Nat}{bs:List Value}{w:World}(h:IB B bs w):B<w.heap.size:=by
 rcases h with ⟨_,v,h,_⟩|⟨_,v,h,_⟩<;>exact lt_of_obj h
theorem ib_new(w:World):IB w.heap.size [] (w.alloc (.cells #[.pointer none,.slice none 0 0] 242)):=
 .inl ⟨Nat.le_refl _,.slice none 0 0,heap_alloc_new w _,World.ownsRowF_of ⟨rfl,.inl ⟨rfl,rfl⟩⟩,λe=>by cases e⟩
theorem UY(B:Nat)(bs:List Value)(q:Nat)(c0 c1 c2 c3:UInt8)(w:World)(h:BA B bs w)(hq:w.heap[q]?=some (.cells #[.int .u8 (c0.toNat:Int),.int .u8 (c1.toNat:Int),.int .u8 (c2.toNat:Int),.int .u8 (c3.toNat:Int)] 5 (0,0)))(hlen:bs.length+4<=140737488355328)(hBw:B<=w.heap.size):
  Calls prog 182 #[.pointer (some ⟨B,0,none⟩),.slice (some ⟨q,0,none⟩) 4 4] w λe w'=>e= .returned (.tuple #[.int .i64 4,.nilIface])/\BA B (bs++[.int .u8 (c0.toNat:Int),.int .u8 (c1.toNat:Int),.int .u8 (c2.toNat:Int),.int .u8 (c3.toNat:Int)]) w'/\Below B w w':=by
 obtain⟨i0,hi,hz0,hz1,hz2⟩:=info_parts extra.infoByte
 have HCC:=hid (Any.Builder_copyCheck_used {lays166 with} extra.toX72 B w h.cell0)
 obtain⟨hB,v,hbk,hown,hne⟩:=h
 have c0':w.cell? ⟨B,0,none⟩=some (.pointer (some ⟨B,0,none⟩)):=by rw[Lib.cell_of_heap hbk];rfl
 have c1':w.cell? ⟨B,1,none⟩=some v:=by rw[Lib.cell_of_heap hbk];rfl
 have HQ:=hid hq
 have HO:=hid hown
 have HBK:=hid hbk
 clear hq hown hbk
 go_enter func182,ntmps182
 go_wp2_with fail
 refine HCC.out.mono ?_
 rintro e w1 ⟨rfl,rfl⟩
 dsimp only
 go_wp2_with (first|(at_builtin;refine wpList_append_ownF _ rfl _ _ 144 rfl B 5 i0 (.int .u8 0) 1 1 underlying144 hi hz0 hz1 hz2 rfl (by decide) _ _ _ rfl HO.out ⟨q,0,none⟩ 4 4 [.int .u8 (c0.toNat:Int),.int .u8 (c1.toNat:Int),.int .u8 (c2.toNat:Int),.int .u8 (c3.toNat:Int)] rfl rfl ?c1 ?c2 ?c3 ?c4 ?c5 ?_)|fail)
 case c1=>
  intro j u hj
  rw[Go.WideShapes.add_plain,Nat.zero_add,cell_obj HQ.out]
  match j with
  |0=>exact hj
  |1=>exact hj
  |2=>exact hj
  |3=>exact hj
  |j+4=>simp at hj
 case c2=>intro u hu;simp at hu;rcases hu with rfl|rfl|rfl|rfl<;>rfl
 case c3=>unfold maxLen;omega
 case c4=>omega
 case c5=>exact hBw
 intro v' w2 hown' hgrow _
 have hlt:=lt_of_obj HBK.out
 have hb2:w2.heap[B]?=some (.cells #[.pointer (some ⟨B,0,none⟩),v] 242 (0,0)):=by
  rw[hgrow.block B hlt (λe=>hne e.symm)];exact HBK.out
 have d1:w2.cell? ⟨B,1,none⟩=some v:=by rw[Lib.cell_of_heap hb2];rfl
 have f1:w2.frozen? ⟨B,1,none⟩=false:=Lib.frozen_of_heap hb2 1
 obtain⟨ao,n',cap,rfl⟩: ∃ao n' cap,v'= .slice ao n' cap:=by
  rcases hown'.2 with ⟨hv,_⟩|⟨g,cap,cur,fz,hv,_⟩
  ·exact⟨_,_,_,hv⟩
  ·exact⟨_,_,_,hv⟩
 go_wp2_with fail
 go_ret2
 refine⟨rfl, ?_, ?_⟩
 ·exact Lib.BuilderAtF.put (T:=242) (e:=5) hB hb2 (by simpa using hown') extra.neB5
 ·exact((Below.refl B w1).grown hgrow hBw (λk hk=>(HO.out.lt k hk).1)).setCell (p:=⟨B,1,none⟩) hB _
def uJ(l:List En):List UInt8:=(l.map Nd.entText).flatten
theorem Xf(l:List En)(x:En):uJ (l++[x])=uJ l++Nd.entText x:=by unfold uJ;simp
theorem Uu{l:List En}(h: ∀x∈l,x.1.size<=16):(uJ l).length<=21*l.length:=by
 induction l using Nd.snoc_rec with
 |nil=>exact Nat.le_refl _
 | append_singleton l x ih=>
  have h1:=ih (λy hy=>h y (by simp[hy]))
  have h2:=h x (by simp)
  rw[Xf,List.length_append,List.length_append,List.length_singleton]
  have h3:(Nd.entText x).length=x.1.size+5:=by
   unfold Nd.entText
   rw[List.length_cons,List.length_append,Nd.len_bs];rfl
  omega
theorem za5(bs:List Value)(y:ByteArray)(q:Nat):
  ((bs++[.int .u8 ((u8z (y.size:Int)).toNat:Int)])++Lib.strCells y)++[.int .u8 ((u8z (shn (q:Int) 24)).toNat:Int),.int .u8 ((u8z (shn (q:Int) 16)).toNat:Int),.int .u8 ((u8z (shn (q:Int) 8)).toNat:Int),.int .u8 ((u8z (q:Int)).toNat:Int)]=bs++Lib.byteCells (Nd.entText (y,(q:Int))):=by
 rw[Xv,Xv,Xv,Zb,Zb]
 simp only[Nd.entText,Nd.n4,Int.toNat_natCast,Lib.byteCells,Lib.strCells,Nd.bs,List.append_assoc,List.map_cons,List.map_append,List.map_nil,List.cons_append,List.nil_append]
theorem Za(a:Option Addr)(n cap:Nat)(l:List En)(w:World)(hE:Ents a n l w)(hn:n<=64)(hs: ∀x∈l,x.1.size<=16/\0<=x.2/\x.2<=2147483647):
  Calls prog 132 #[.slice a n cap] w λe w'=>e= .returned (.string (lstr (uJ l)))/\Below w.heap.size w w':=by
 have HNL:=hid hE.count
 have hni:(n:Int)<=64:=by omega
 have HE:=hid (λW (hb:Below w.heap.size w W)=>hE.below hb)
 have HS:=hid hs
 clear hE hs
 go_enter func132,ntmps132
 go_wp2_with fail
 go_loopw [8] (λi wr=>(∃j:Nat,j<=n/\i= .int .i64 j/\Hid (IB w.heap.size (Lib.byteCells (uJ (l.take j))) wr))/\Below w.heap.size w wr) (λi _=>n-(intOf i).toNat)
 case atStart=>exact⟨⟨0,Nat.zero_le _,rfl,ib_new w⟩,below_one w _⟩
 case round=>
  obtain⟨⟨j,hj,rfl,HI⟩,hb⟩:=hrel
  have HB:=hid hb
  by_cases hlt:j<n
  ·have j0:(j:Int)<(n:Int):=by omega
   have hj0:(0:Int)<=(j:Int):=by omega
   have hjl:j<l.length:=by rw[<-HNL.out];exact hlt
   obtain⟨b,off,rfl,c0,c1⟩:=(HE.out _ hb).cell j hlt
   have hz:=HS.out (l.getD j z0) (by rw[List.getD,List.getElem?_eq_getElem hjl];exact List.getElem_mem hjl)
   have HT:=hid (yo hjl z0)
   have hfl:(uJ (l.take j)).length<=2000:=by
    have h1:=Uu (l:=l.take j) (λx hx=>(HS.out x (List.mem_of_mem_take hx)).1)
    rw[List.length_take]at h1
    omega
   have hfl2:(Lib.byteCells (uJ (l.take j))).length<=2000:=by rw[Lib.byteCells,List.length_map];exact hfl
   have HFl:=hid hfl2
   have HA:=hid (show Lib.byteCells (uJ (l.take (j+1)))=Lib.byteCells (uJ (l.take j))++Lib.byteCells (Nd.entText (l.getD j z0)) by rw[HT.out,Xf];simp[Lib.byteCells])
   clear hfl hfl2
   generalize l.getD j z0=x at c0 c1 hz HA HT
   obtain⟨y,i⟩:=x
   dsimp only at c0 c1 hz
   obtain⟨q,rfl⟩: ∃q:Nat,i=q:=⟨i.toNat,by omega⟩
   have HC:=hid (za5 (Lib.byteCells (uJ (l.take j))) y q)
   generalize Lib.byteCells (uJ (l.take j))=bs at*
   have hy16:=hz.1
   have hltB:=ib_lt HI.out
   have HIa:=hid (zdc HI.out (oc (y,(q:Int))))
   have HNw:=hid (heap_alloc_new wr (oc (y,(q:Int))))
   have HBA:=hid (show Below w.heap.size w (wr.alloc (oc (y,(q:Int))))from hb.alloc hb.size _)
   clear hz hjl HI
   go_wp2_with fail
   refine(Any.Builder_WriteByte_k zeL extra w.heap.size w.heap.size bs _ _ HIa.out (Nat.le_trans (Nat.succ_le_succ HFl.out) (by decide)) HBA.out.size).mono ?_
   rintro e w2 ⟨rfl,hA2,hb2,hk2⟩
   have HN2:=hid (hk2 _ _ HNw.out (λe=>by injection e with e;omega) (λc fz e=>by cases e))
   have HB2:=hid (HBA.out.trans hb2)
   have HA2:=hid hA2
   have e2:w2.cell? ⟨wr.heap.size,0,none⟩=some (.string y):=cell_obj HN2.out 0
   clear hA2 hb2 hk2
   dsimp only
   go_wp2_with fail
   refine(Any.Builder_WriteString_k lays166 extra w.heap.size w.heap.size _ y _ (.inr HA2.out) (by rw[List.length_append,List.length_singleton];exact Nat.le_trans (Nat.add_le_add (Nat.succ_le_succ HFl.out) hy16) (by decide)) HB2.out.size).mono ?_
   rintro e w3 ⟨rfl,hA3,hb3,hk3⟩
   have HN3:=hid (hk3 _ _ HN2.out (λe=>by injection e with e;omega) (λc fz e=>by cases e))
   have HB3:=hid (HB2.out.trans hb3)
   have HA3:=hid hA3
   have e3:w3.cell? ⟨wr.heap.size,1,none⟩=some (.int .i64 (q:Int)):=cell_obj HN3.out 1
   clear hA3 hb3 hk3 e2
   dsimp only
   go_wp2_with fail
   refine(UY w.heap.size _ w3.heap.size _ _ _ _ _ (Yg HA3.out _) (heap_alloc_new w3 _) (by rw[List.length_append,List.length_append,List.length_singleton,Lib.strCells_length];exact Nat.le_trans (Nat.add_le_add_right (Nat.add_le_add (Nat.succ_le_succ HFl.out) hy16) 4) (by decide)) (Nat.le_trans HB3.out.size (below_one w3 _).size)).mono ?_
   rintro e w4 ⟨rfl,hA4,hb4⟩
   rw[HC.out]at hA4
   have HA4:=hid hA4
   have HB4:=hid ((HB3.out.alloc HB3.out.size (.cells #[.int .u8 ((u8z (shn (q:Int) 24)).toNat:Int),.int .u8 ((u8z (shn (q:Int) 16)).toNat:Int),.int .u8 ((u8z (shn (q:Int) 8)).toNat:Int),.int .u8 ((u8z (q:Int)).toNat:Int)] 5)).trans hb4)
   clear hA4 hb4
   dsimp only
   go_wp2_with fail
   go_roundw
   case rel=>exact⟨⟨j+1,by omega,by go_num,by rw[HA.out];exact .inr HA4.out⟩,HB4.out⟩
   case measure=>simp[intOf];omega
  ·obtain rfl:j=n:=by omega
   have HI2:=hid HI.out
   rw[show l.take j=l by rw[HNL.out,List.take_length]]at HI2
   clear hb HI
   go_wp2_with fail
   refine(Any.Builder_String_any_k lays169 extra w.heap.size w.heap.size (uJ l) _ HI2.out HB.out.size).mono ?_
   rintro e w2 ⟨rfl,_,hb2,_⟩
   have HB2:=hid (HB.out.trans hb2)
   clear hb2
   dsimp only
   go_wp2_with fail
   go_ret
   exact⟨rfl,HB2.out⟩
end Go.Proofs.YtabmamofnhcgbaaGreatDoor
namespace Go.Proofs.YtabmamofnhcgbaaGreatDoor
open Go.RowKit Go.Less
theorem Qj(cur:List Value)(l:List En)(i:Nat)(ht:cur.take (l.length*2)=zq l)(hi:i<l.length):
  (splice cur (i*2) (zq (l.drop (i+1)))).take ((l.length-1)*2)=zq (l.take i++l.drop (i+1)):=by
 have h1:cur.take (i*2)=zq (l.take i):=by
  rw[<-qu,<-ht,List.take_take,Nat.min_eq_left (by omega)]
 rw[show splice cur (i*2) (zq (l.drop (i+1)))=(cur.take (i*2)++zq (l.drop (i+1)))++cur.drop (i*2+(zq (l.drop (i+1))).length)from by unfold splice;rw[List.append_assoc],h1,<-xY,List.take_left']
 rw[zJ,List.length_append,List.length_take,List.length_drop]
 omega
theorem zdt(base g cap:Nat)(cur:Array Value)(l:List En)(i m:Nat)(w:World)(hg:w.heap[g]?=some (.cells cur 132 (0,0)))(hs:cur.size=cap*2)(ht:cur.toList.take (l.length*2)=zq l)
  (hlm:l.length=i+1+m) (hr:l.length<=cap) (hm:cap<=maxLen) (hl:l.length<=100000) (hbg:base<=g) (hcc: ¬ cap=i+1):
  Calls prog 216 #[.slice (some ⟨g,0,none⟩) l.length cap,.int .i64 (i:Int),.int .i64 ((i:Int)+1)] w (ka base (.slice (some ⟨g,0,none⟩) l.length cap) (l.take i++l.drop (i+1)) w):=by
 have mixed:=zeJ
 have hdl:(zq (l.drop (i+1))).length=m*2:=by rw[zJ,List.length_drop];omega
 have HN1:=hid hdl
 have HGd:=hid (show w.drew.heap[g]?=some (.cells cur.toList.toArray 132 (0,0)) by rw[Array.toArray_toList];exact hg)
 have HSrc:=hid (show∀j v,(zq (l.drop (i+1)))[j]?=some v->w.drew.cell? ((⟨g,(i+1)*2,none⟩:Addr).add j)=some v from λj v hj=>by
  skip
  rw[Go.WideShapes.add_plain]
  show w.cell? _=_
  rw[cell_obj hg,<-Array.getElem?_toList]
  rw[<-qv,<-ht,List.getElem?_drop,List.getElem?_take]at hj
  split at hj
  ·exact hj
  ·cases hj)
 have HOne:=hid (kP (l.drop (i+1)))
 have HFit:=hid (show i*2+(zq (l.drop (i+1))).length<=cur.toList.length by rw[hdl,Array.length_toList,hs];omega)
 have HSl:=hid (show(splice cur.toList (i*2) (zq (l.drop (i+1)))).length=cap*2 from(xl HFit.out).trans (Array.length_toList.trans hs))
 have HLaid:=hid (Qj cur.toList l i ht (by omega))
 have HM:=hid hm
 rw[hlm]at hr hl
 generalize hn:l.length=n at*
 subst hlm
 have hni:(i:Int)+1+(m:Int)<=100000:=by omega
 have hi0:(0:Int)<=(i:Int):=by omega
 have hb1:(0:Int)<=(i:Int)+1:=by omega
 have hb2:(i:Int)<=(i:Int)+1:=by omega
 have hb3:(i:Int)+1<=(i:Int)+1+(m:Int):=by omega
 have hb4:(i:Int)+1+(m:Int)<=(cap:Int):=by omega
 have htn:((i:Int)+1).toNat=i+1:=by omega
 have htn2:((i:Int)+1+(m:Int)).toNat=i+1+m:=by omega
 have htn3:((i:Int)+(m:Int)).toNat=i+m:=by omega
 have hic:i<=cap:=by omega
 have hici:(i:Int)<=(cap:Int):=by omega
 have hjm:i+1+m-(i+1)=m:=by omega
 have hq1:i+1+m-(i+m)=1:=by omega
 have hb5:(i:Int)+(m:Int)<=(i:Int)+1+(m:Int):=by omega
 have hb6:(0:Int)<=(i:Int)+(m:Int):=by omega
 have hcm: ¬ (cap=i+m):=by omega
 have hcm2:i+m<=cap:=by omega
 clear hg hl hm hs ht hdl
 go_enter func216,ntmps216
 go_wp2_with fail
 go_region_law_o (refine Two.step_app2 rfl _ _ 41 rfl 132 underlying41 kY g i cap ⟨g,(i+1)*2,none⟩ m (cap-(i+1)) (by simp[Act.eval,Act.put]) (by simp[Act.eval,Act.put]) cur.toList HGd.out (zq (l.drop (i+1))) HN1.out HSrc.out HOne.out hcm2 HFit.out ?_;intro w4 hg4 hgr4)
 all_goals
  have hcl: ∀ty,(Builtin.clear_ #[41] ty #[.slice (some ⟨g,(i+m)*2,none⟩) 1 (cap-(i+m))]).run prog w4= .ok (.tuple #[]) (w4.setRow g ((splice cur.toList (i*2) (zq (l.drop (i+1)))).toArray.toList.take ((i+m)*2)++[Value.string ⟨#[]⟩,Value.int .i64 0]++(splice cur.toList (i*2) (zq (l.drop (i+1)))).toArray.toList.drop ((i+m)*2+2)).toArray):=λty=>
   Two.run_clear2 w4 41 132 ty (.agg #[.string ⟨#[]⟩,.int .i64 0]) _ _ underlying41 Tryz.zeroValue132 rfl rfl rfl g ((i+m)*2) (cap-(i+m)) _ 132 hg4.out (by rw[List.size_toArray,HSl.out];omega)
  have HS5:=hid (setRow_heap w4 g _ ((splice cur.toList (i*2) (zq (l.drop (i+1)))).toArray.toList.take ((i+m)*2)++[Value.string ⟨#[]⟩,Value.int .i64 0]++(splice cur.toList (i*2) (zq (l.drop (i+1)))).toArray.toList.drop ((i+m)*2+2)).toArray 132 _ hg4.out)
  have HR5:=hid (Two.grown_setRow w4 g ((splice cur.toList (i*2) (zq (l.drop (i+1)))).toArray.toList.take ((i+m)*2)++[Value.string ⟨#[]⟩,Value.int .i64 0]++(splice cur.toList (i*2) (zq (l.drop (i+1)))).toArray.toList.drop ((i+m)*2+2)).toArray)
  have HSz:=hid (show((splice cur.toList (i*2) (zq (l.drop (i+1)))).toArray.toList.take ((i+m)*2)++[Value.string ⟨#[]⟩,Value.int .i64 0]++(splice cur.toList (i*2) (zq (l.drop (i+1)))).toArray.toList.drop ((i+m)*2+2)).length=cap*2 by
   simp only[List.length_append,List.length_take,List.length_drop,HSl.out,List.length_cons,List.length_nil];omega)
  have HTk:=hid (show((splice cur.toList (i*2) (zq (l.drop (i+1)))).toArray.toList.take ((i+m)*2)++[Value.string ⟨#[]⟩,Value.int .i64 0]++(splice cur.toList (i*2) (zq (l.drop (i+1)))).toArray.toList.drop ((i+m)*2+2)).take ((i+m)*2)=zq (l.take i++l.drop (i+1)) by
   rw[List.append_assoc,List.take_append_of_le_length (by simp only[List.length_take,HSl.out];omega),List.take_take,Nat.min_self,show i+m=i+1+m-1 by omega];exact HLaid.out)
  generalize (splice cur.toList (i*2) (zq (l.drop (i+1)))).toArray.toList.take ((i+m)*2)++[Value.string ⟨#[]⟩,Value.int .i64 0]++(splice cur.toList (i*2) (zq (l.drop (i+1)))).toArray.toList.drop ((i+m)*2+2)=Z at*
  generalize w4.setRow g Z.toArray=w5 at*
  go_wp2_with fail
  go_ret
  have hlen:(l.take i++l.drop (i+1)).length=i+m:=by rw[List.length_append,List.length_take,List.length_drop];omega
  have hgr:w.grownBy w5 (some g):=⟨HR5.out.os.trans hgr4.os,HR5.out.tape.trans hgr4.tape,HR5.out.output.trans hgr4.output,Nat.le_trans hgr4.size HR5.out.size,λk hk hne=>(HR5.out.block k (Nat.lt_of_lt_of_le hk hgr4.size) hne).trans (hgr4.block k hk hne)⟩
  refine⟨some ⟨g,0,none⟩,cap,by rw[hlen];rfl,⟨by rw[zJ],.inr ⟨g,cap,_,rfl,hbg,HS5.out,by rw[hlen];exact hcm2,HM.out, ?_, ?_⟩⟩,hgr⟩
  ·rw[List.size_toArray,HSz.out]
  ·rw[hlen];exact HTk.out
theorem zdu(base g cap:Nat)(cur:Array Value)(l:List En)(i m:Nat)(w:World)(hg:w.heap[g]?=some (.cells cur 132 (0,0)))(hs:cur.size=cap*2)(ht:cur.toList.take (l.length*2)=zq l)
  (hlm:l.length=i+1+m) (hr:l.length<=cap) (hm:cap<=maxLen) (hl:l.length<=100000) (hbg:base<=g) (hcc:cap=i+1):
  Calls prog 216 #[.slice (some ⟨g,0,none⟩) l.length cap,.int .i64 (i:Int),.int .i64 ((i:Int)+1)] w (ka base (.slice (some ⟨g,0,none⟩) l.length cap) (l.take i++l.drop (i+1)) w):=by
 have mixed:=zeJ
 have hc63:cap<=9223372036854775807:=by unfold maxLen at hm;exact hm
 have hdl:(zq (l.drop (i+1))).length=m*2:=by rw[zJ,List.length_drop];omega
 have HN1:=hid hdl
 have HGd:=hid (show w.drew.heap[g]?=some (.cells cur.toList.toArray 132 (0,0)) by rw[Array.toArray_toList];exact hg)
 have HSrc:=hid (show∀j v,(zq (l.drop (i+1)))[j]?=some v->w.drew.cell? ((⟨g,0,none⟩:Addr).add j)=some v from λj v hj=>by
  exfalso
  have h0:(zq (l.drop (i+1))).length=0:=by rw[hdl];omega
  rw[List.eq_nil_of_length_eq_zero h0]at hj
  simp at hj)
 have HOne:=hid (kP (l.drop (i+1)))
 have HFit:=hid (show i*2+(zq (l.drop (i+1))).length<=cur.toList.length by rw[hdl,Array.length_toList,hs];omega)
 have HSl:=hid (show(splice cur.toList (i*2) (zq (l.drop (i+1)))).length=cap*2 from(xl HFit.out).trans (Array.length_toList.trans hs))
 have HLaid:=hid (Qj cur.toList l i ht (by omega))
 have HM:=hid hm
 rw[hlm]at hr hl
 generalize hn:l.length=n at*
 subst hlm
 have hni:(i:Int)+1+(m:Int)<=100000:=by omega
 have hi0:(0:Int)<=(i:Int):=by omega
 have hb1:(0:Int)<=(i:Int)+1:=by omega
 have hb2:(i:Int)<=(i:Int)+1:=by omega
 have hb3:(i:Int)+1<=(i:Int)+1+(m:Int):=by omega
 have htn:((i:Int)+1).toNat=i+1:=by omega
 have htn2:((i:Int)+1+(m:Int)).toNat=i+1+m:=by omega
 have htn3:((i:Int)+(m:Int)).toNat=i+m:=by omega
 have hjm:i+1+m-(i+1)=m:=by omega
 have hq1:i+1+m-(i+m)=1:=by omega
 have hb5:(i:Int)+(m:Int)<=(i:Int)+1+(m:Int):=by omega
 have hb6:(0:Int)<=(i:Int)+(m:Int):=by omega
 have hcm2:i+m<=cap:=by omega
 have hcm6:i+m<=i+1:=by omega
 clear hg hl hm hs ht hdl
 go_enter func216,ntmps216
 go_wp2_with fail
 go_region_law_o (refine Two.step_app2 rfl _ _ 41 rfl 132 underlying41 kY g i (i+1) ⟨g,0,none⟩ m 0 (by simp[Act.eval,Act.put]) (by simp[Act.eval,Act.put]) cur.toList HGd.out (zq (l.drop (i+1))) HN1.out HSrc.out HOne.out hcm6 HFit.out ?_;intro w4 hg4 hgr4)
 all_goals
  have hcl: ∀ty,(Builtin.clear_ #[41] ty #[.slice (some ⟨g,(i+m)*2,none⟩) 1 (i+1-(i+m))]).run prog w4= .ok (.tuple #[]) (w4.setRow g ((splice cur.toList (i*2) (zq (l.drop (i+1)))).toArray.toList.take ((i+m)*2)++[Value.string ⟨#[]⟩,Value.int .i64 0]++(splice cur.toList (i*2) (zq (l.drop (i+1)))).toArray.toList.drop ((i+m)*2+2)).toArray):=λty=>
   Two.run_clear2 w4 41 132 ty (.agg #[.string ⟨#[]⟩,.int .i64 0]) _ _ underlying41 Tryz.zeroValue132 rfl rfl rfl g ((i+m)*2) (i+1-(i+m)) _ 132 hg4.out (by rw[List.size_toArray,HSl.out];omega)
  have HS5:=hid (setRow_heap w4 g _ ((splice cur.toList (i*2) (zq (l.drop (i+1)))).toArray.toList.take ((i+m)*2)++[Value.string ⟨#[]⟩,Value.int .i64 0]++(splice cur.toList (i*2) (zq (l.drop (i+1)))).toArray.toList.drop ((i+m)*2+2)).toArray 132 _ hg4.out)
  have HR5:=hid (Two.grown_setRow w4 g ((splice cur.toList (i*2) (zq (l.drop (i+1)))).toArray.toList.take ((i+m)*2)++[Value.string ⟨#[]⟩,Value.int .i64 0]++(splice cur.toList (i*2) (zq (l.drop (i+1)))).toArray.toList.drop ((i+m)*2+2)).toArray)
  have HSz:=hid (show((splice cur.toList (i*2) (zq (l.drop (i+1)))).toArray.toList.take ((i+m)*2)++[Value.string ⟨#[]⟩,Value.int .i64 0]++(splice cur.toList (i*2) (zq (l.drop (i+1)))).toArray.toList.drop ((i+m)*2+2)).length=cap*2 by
   simp only[List.length_append,List.length_take,List.length_drop,HSl.out,List.length_cons,List.length_nil];omega)
  have HTk:=hid (show((splice cur.toList (i*2) (zq (l.drop (i+1)))).toArray.toList.take ((i+m)*2)++[Value.string ⟨#[]⟩,Value.int .i64 0]++(splice cur.toList (i*2) (zq (l.drop (i+1)))).toArray.toList.drop ((i+m)*2+2)).take ((i+m)*2)=zq (l.take i++l.drop (i+1)) by
   rw[List.append_assoc,List.take_append_of_le_length (by simp only[List.length_take,HSl.out];omega),List.take_take,Nat.min_self,show i+m=i+1+m-1 by omega];exact HLaid.out)
  generalize (splice cur.toList (i*2) (zq (l.drop (i+1)))).toArray.toList.take ((i+m)*2)++[Value.string ⟨#[]⟩,Value.int .i64 0]++(splice cur.toList (i*2) (zq (l.drop (i+1)))).toArray.toList.drop ((i+m)*2+2)=Z at*
  generalize w4.setRow g Z.toArray=w5 at*
  go_wp2_with fail
  go_ret
  have hlen:(l.take i++l.drop (i+1)).length=i+m:=by rw[List.length_append,List.length_take,List.length_drop];omega
  have hgr:w.grownBy w5 (some g):=⟨HR5.out.os.trans hgr4.os,HR5.out.tape.trans hgr4.tape,HR5.out.output.trans hgr4.output,Nat.le_trans hgr4.size HR5.out.size,λk hk hne=>(HR5.out.block k (Nat.lt_of_lt_of_le hk hgr4.size) hne).trans (hgr4.block k hk hne)⟩
  refine⟨some ⟨g,0,none⟩,cap,by rw[hlen,hcc];rfl,⟨by rw[zJ],.inr ⟨g,cap,_,rfl,hbg,HS5.out,by rw[hlen];exact hcm2,HM.out, ?_, ?_⟩⟩,hgr⟩
  ·rw[List.size_toArray,HSz.out]
  ·rw[hlen];exact HTk.out
theorem Ku(base:Nat)(ao:Option Addr)(cp:Nat)(l:List En)(i:Nat)(w:World)(hO:Own base (.slice ao l.length cp) l w)(hi:i<l.length)(hl:l.length<=100000):
  Calls prog 216 #[.slice ao l.length cp,.int .i64 (i:Int),.int .i64 ((i:Int)+1)] w (ka base (.slice ao l.length cp) (l.take i++l.drop (i+1)) w):=by
 obtain⟨m,hlm⟩: ∃m,l.length=i+1+m:=⟨l.length-(i+1),by omega⟩
 obtain⟨hlen,⟨e,h0⟩|⟨g,cap,cur,e,hbg,hg,hn,hm,hs,ht⟩⟩:=hO
 ·omega
 ·injection e with e1 e2 e3
  subst e1 e3
  by_cases hcc:cp=i+1
  ·exact zdu base g cp cur l i m w hg hs ht hlm hn hm hl hbg hcc
  ·exact zdt base g cp cur l i m w hg hs ht hlm hn hm hl hbg hcc
end Go.Proofs.YtabmamofnhcgbaaGreatDoor
namespace Nd
def place(p:En->Bool):List En->Nat
 |[]=>0
 |x::l=>if p x=true then 0 else place p l+1
section
variable {p : En -> Bool}
theorem place_le(l:List En):place p l<=l.length:=by
 induction l with
 |nil=>exact Nat.le_refl _
 |cons x l ih=>unfold place;split<;>simp only[List.length_cons]<;>omega
theorem kC(a b:List En):place p (a++b)=if place p a<a.length then place p a else a.length+place p b:=by
 induction a with
 |nil=>simp[place]
 | cons x a ih=>
  rw[List.cons_append,place,place,ih]
  by_cases h:p x=true
  ·rw[if_pos h,if_pos h,if_pos (by simp)]
  ·rw[if_neg h,if_neg h,List.length_cons]
   by_cases h2:place p a<a.length
   ·rw[if_pos h2,if_pos (by omega)]
   ·rw[if_neg h2,if_neg (by omega)];omega
theorem VR{l:List En}{k:Nat}(h:k<l.length)(z:En):l=l.take k++(l.getD k z::l.drop (k+1)):=by
 conv=>lhs;rw[<-List.take_append_drop k l]
 rw[List.drop_eq_getElem_cons h]
 simp[List.getD,List.getElem?_eq_getElem h]
theorem place_more{l:List En}{k:Nat}{z:En}(h:place p (l.take k)=k)(hk:k<l.length)(hp:p (l.getD k z)=false):place p (l.take (k+1))=k+1:=by
 have e:l.take (k+1)=l.take k++[l.getD k z]:=by
  rw[List.take_succ_eq_append_getElem hk];simp[List.getD,List.getElem?_eq_getElem hk]
 have hl:(l.take k).length=k:=by rw[List.length_take];omega
 rw[e,kC,if_neg (by omega),hl,place,hp];rfl
theorem place_hit{l:List En}{k:Nat}{z:En}(h:place p (l.take k)=k)(hk:k<l.length)(hp:p (l.getD k z)=true):place p l=k:=by
 have hl:(l.take k).length=k:=by rw[List.length_take];omega
 rw[VR hk z,kC,if_neg (by omega),hl,place,hp];rfl
theorem place_end{l:List En}(h:place p (l.take l.length)=l.length):place p l=l.length:=by rwa [List.take_length]at h
end
theorem find_place(l:List En)(k:ByteArray)(z:En):find l k=if place (λx=>decide (x.1=k)) l<l.length then some (l.getD (place (λx=>decide (x.1=k)) l) z).2 else none:=by
 induction l with
 |nil=>rfl
 | cons x l ih=>
  by_cases h:x.1=k
  ·have e:place (λx=>decide (x.1=k)) (x::l)=0:=by rw[place,if_pos (decide_eq_true h)]
   rw[find,if_pos h,e,if_pos (by simp)];rfl
  ·have e:place (λx=>decide (x.1=k)) (x::l)=place (λx=>decide (x.1=k)) l+1:=by rw[place,if_neg (by simpa using h)]
   rw[find,if_neg h,ih,e,List.length_cons]
   by_cases h2:place (λx=>decide (x.1=k)) l<l.length
   ·rw[if_pos h2,if_pos (by omega)];rfl
   ·rw[if_neg h2,if_neg (by omega)]
theorem find_is(l:List En)(k:ByteArray):(find l k).isSome=decide (place (λx=>decide (x.1=k)) l<l.length):=by
 rw[find_place l k (k,0)]
 by_cases h:place (λx=>decide (x.1=k)) l<l.length
 ·rw[if_pos h,decide_eq_true h];rfl
 ·rw[if_neg h,decide_eq_false h];rfl
theorem cut_place(l:List En)(k:ByteArray):cut l k=l.take (place (λx=>decide (x.1=k)) l)++l.drop (place (λx=>decide (x.1=k)) l+1):=by
 induction l with
 |nil=>rfl
 |cons x l ih=>
  rw[cut,place]
  by_cases h:x.1=k
  ·rw[if_pos h,if_pos (by simpa using h)];rfl
  ·rw[if_neg h,if_neg (by simpa using h),ih];rfl
theorem ins_place(lt:ByteArray->ByteArray->Bool)(l:List En)(k:ByteArray)(i:Int):ins lt l k i=l.take (place (λx=> !lt x.1 k) l)++(k,i)::l.drop (place (λx=> !lt x.1 k) l):=by
 induction l with
 |nil=>rfl
 |cons x l ih=>
  rw[ins,place]
  by_cases h:lt x.1 k=true
  ·rw[if_pos h,if_neg (by simp[h]),ih];rfl
  ·rw[if_neg h,if_pos (by simpa using h)];rfl
end Nd
