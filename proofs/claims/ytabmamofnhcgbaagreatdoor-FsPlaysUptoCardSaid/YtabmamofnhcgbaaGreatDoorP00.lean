/- A part of the proofs. -/
import Derived.Laws.AppendOwnNone
import Derived.Test.YtabmamofnhcgbaaGreatDoorC21
set_option maxRecDepth 1000000
set_option maxHeartbeats 16000000
open Go.Lib (hid)
open Go.Proofs.Tryz
namespace Go.Proofs.YtabmamofnhcgbaaGreatDoor.T8
open Go.RowKit Go.Less
def uU(x:Pr):List Value:=[.string x.1,.string x.2]
def qk(l:List Pr):List Value:=l.flatMap uU
theorem VM(l:List Pr):(qk l).length=l.length*2:=by
 induction l with
 |nil=>rfl
 |cons x l ih=>simp[qk,uU]at ih|-;omega
theorem VO(a b:List Pr):qk (a++b)=qk a++qk b:=by simp[qk]
abbrev z0:Pr:=(⟨#[]⟩,⟨#[]⟩)
theorem VN(l:List Pr)(i j:Nat)(hi:i<l.length)(hj:j<2):(qk l)[i*2+j]?=(uU (l.getD i z0))[j]?:=by
 induction l generalizing i with
 |nil=>cases hi
 | cons x l ih=>
  have e:qk (x::l)=uU x++qk l:=rfl
  rw[e]
  have hl:(uU x).length=2:=rfl
  cases i with
  |zero=>
   rw[List.getElem?_append_left (by rw[hl];omega)]
   simp[List.getD]
  |succ i=>
   rw[List.getElem?_append_right (by rw[hl];omega),hl,show(i+1)*2+j-2=i*2+j by omega,ih i (by simpa using hi)]
   simp[List.getD]
structure Prs (a:Option Addr) (n:Nat) (l:List Pr) (w:World):Prop where
 count:n=l.length
 cell: ∀i,i<n-> ∃b off,a=some ⟨b,off,none⟩/\w.cell? ⟨b,off+i*2,none⟩=some (.string (l.getD i z0).1)/\w.cell? ⟨b,off+i*2+1,none⟩=some (.string (l.getD i z0).2)
theorem Prs.below{a:Option Addr}{n:Nat}{l:List Pr}{w w':World}(h:Prs a n l w)(hb:Below w.heap.size w w'):Prs a n l w':=
 ⟨h.count,λi hi=>by
  obtain⟨b,off,rfl,h0,h1⟩:=h.cell i hi
  have hl:=block_lt_of_cell h0
  exact⟨b,off,rfl,(hb.cell (p:=⟨b,off+i*2,none⟩) hl).trans h0,(hb.cell (p:=⟨b,off+i*2+1,none⟩) hl).trans h1⟩⟩
abbrev Own(base:Nat)(v:Value)(l:List Pr)(w:World):Prop:=w.ownsRow base 129 2 v l.length (qk l)
theorem K0{base:Nat}{a:Option Addr}{n cap:Nat}{l:List Pr}{w:World}(h:w.ownsRow base 129 2 (.slice a n cap) n (qk l)):Prs a n l w:=by
 have hn:n=l.length:=by have:=h.1;rw[VM]at this;omega
 refine⟨hn,λi hi=> ?_⟩
 have h2:=h
 obtain⟨hl,⟨e,h0⟩|⟨g,cap',cur,e,_⟩⟩:=h
 ·omega
 ·injection e with e1 e2 e3
  subst e1
  subst e3
  refine⟨g,0,rfl, ?_, ?_⟩
  ·rw[Nat.zero_add,World.ownsRow.cellAt h2 (i*2) (by omega)]
   have:=VN l i 0 (by omega) (by omega)
   rw[Nat.add_zero]at this
   rw[this];rfl
  ·rw[Nat.zero_add,World.ownsRow.cellAt h2 (i*2+1) (by omega),VN l i 1 (by omega) (by omega)];rfl
theorem info61:(prog.info? 129).map (λi=>(i.zero,i.size,i.bytes))=some (some (.agg #[.string ⟨#[]⟩,.string ⟨#[]⟩]),2,32):=by kernel_rfl
theorem jB{ops:Array Oper}{rest:List Oper}{o:Oper}{a:Act}{Q:Exit->Act->World->Prop}{w:World}(hgd:o.guard=none)(s x:Operand)
  (ho:o.op= .call {callee:= .builtin .append,args:= #[s,x],argTypes:= #[55,55]})
  (base:Nat) (v:Value) (l:List Pr) (hs:a.eval s=v) (hown:Own base v l w)
  (b:Nat) (u:Pr) (hx:a.eval x= .slice (some ⟨b,0,none⟩) 1 1) (hc:w.heap[b]?=some (.cells #[.string u.1,.string u.2] 129 (0,0))) (hn:l.length<=1000000) (hbase:base<=w.heap.size)
  (h: ∀ao' cap' w',Own base (.slice ao' (l.length+1) cap') (l++[u]) w'->w.grownBy w' v.ownBlock->wpList prog ops Q rest (a.put o.dst (.slice ao' (l.length+1) cap')) w'):
  wpList prog ops Q (o::rest) a w:=by
 obtain⟨i0,hi,hz0,hz1,hz2⟩:=info_parts info61
 refine wpList_append_own w hgd s x 55 ho base 129 i0 (.agg #[.string ⟨#[]⟩,.string ⟨#[]⟩]) 2 32 underlying55 hi hz0 hz1 hz2 rfl (by decide) v l.length (qk l) hs hown ⟨b,0,none⟩ 1 1 (uU u) hx rfl ?_ ?_ (by unfold maxLen;omega) (by omega) hbase ?_
 ·intro j y hj
  rw[show(⟨b,0,none⟩:Addr).add j=⟨b,j,none⟩ by unfold Addr.add;split<;>simp_all]
  match j with
  |0=>simp[uU]at hj;subst hj;simp[World.cell?,hc]
  |1=>simp[uU]at hj;subst hj;simp[World.cell?,hc]
  |j+2=>simp[uU]at hj
 ·intro y hy
  simp[uU]at hy
  rcases hy with rfl|rfl<;>rfl
 ·intro v' w' hown' hg _
  obtain⟨ao',cap',rfl⟩:=owns_form hown'
  refine h ao' cap' w' ?_ hg
  unfold Own
  rw[List.length_append,VO]
  simpa[qk,uU] using hown'
end Go.Proofs.YtabmamofnhcgbaaGreatDoor.T8
namespace Go.Proofs.YtabmamofnhcgbaaGreatDoor.T8
open Go.RowKit Go.Less
attribute [local go_sem 9000] zg zf zz zA zB zC
abbrev del(l:List Pr)(k:ByteArray):List Pr:=Tr.del l k
theorem Kv(l:List Pr)(k:ByteArray):(del l k).length<=l.length:=List.length_filter_le _ _
def Gave(l:List Pr)(w:World)(e:Ending)(w':World):Prop:= ∃ao cap,e= .returned (.slice ao l.length cap)/\Own w.heap.size (.slice ao l.length cap) l w'/\Below w.heap.size w w'
theorem own_nil(w:World)(base:Nat):Own base (.slice none 0 0) [] w:=⟨rfl,.inl ⟨rfl,rfl⟩⟩
theorem qj{base:Nat}{v:Value}{l:List Pr}{w:World}(h:Own base v l w): ∀k,v.ownBlock=some k->base<=k:=λk hk=>(World.ownsRow.lt h k hk).1
abbrev put(l:List Pr)(k v:ByteArray):List Pr:=Tr.put less l k v
theorem put_length(l:List Pr)(k v:ByteArray):(put l k v).length<=l.length+1:=by
 induction l with
 |nil=>simp[Tr.put]
 |cons x l ih=>
  simp only[put,Tr.put]
  split
  ·simp only[List.length_cons];exact Nat.succ_le_succ ih
  ·simp only[List.length_cons];exact Nat.succ_le_succ (Kv (x::l) k)
def vU(d:Bool)(l:List Pr)(k v:ByteArray):List Pr:=if d then del l k else put l k v
theorem zdv(x:Pr)(l:List Pr)(k:ByteArray):del (x::l) k=(if alike x.1 k then[]else[x])++del l k:=by
 show List.filter _ _=_++List.filter _ _
 unfold alike
 by_cases e:x.1=k<;>simp[e]
theorem qz(x:Pr)(l:List Pr)(k v:ByteArray):vU true (x::l) k v=(if alike x.1 k then[]else[x])++vU true l k v:=zdv x l k
theorem za1{x:Pr}{k:ByteArray}(h:less x.1 k=true)(l:List Pr)(v:ByteArray):vU false (x::l) k v=[x]++vU false l k v:=by
 unfold vU;simp[Tr.put,h]
theorem za2{x:Pr}{k:ByteArray}(h:less x.1 k=false)(l:List Pr)(v:ByteArray):vU false (x::l) k v=[(k,v)]++((if alike x.1 k then[]else[x])++vU true l k v):=by
 rw[<-qz]
 unfold vU;simp[Tr.put,h]
theorem ZO{a b:ByteArray}(h:less a b=true):alike a b=false:=by
 unfold alike
 simp only[decide_eq_false_iff_not]
 intro e;subst e;rw[rising.irr]at h;cases h
theorem build61(k v:ByteArray)(w:World):(Instr.build 129 #[(0,.string k),(1,.string v)]).run prog w= .ok (.agg #[.string k,.string v]) w:=by kernel_rfl
theorem Vy(a:Option Addr)(n cap:Nat)(l:List Pr)(k v:ByteArray)(w:World)(hP:Prs a n l w)(hn:n<=100000):Calls prog 70 #[.slice a n cap,.string k,.string v] w (Gave (put l k v) w):=by
 have HC:=hid hP.count
 have hpl:=put_length l k v
 have HPL:=hid (show(put l k v).length<=100001 by have:=HC.out;omega)
 clear hpl
 go_enter func70,ntmps70
 go_wp2_with fail
 go_loopw [7,8,9] (λo dv i wr=> ∃(j:Nat) (ys:List Pr) (d:Bool),j<=n/\i= .int .i64 j/\dv= .bool d/\put l k v=ys++vU d (l.drop j) k v/\Own w.heap.size o ys wr/\Below w.heap.size w wr) (λ_ _ i _=>n-(intOf i).toNat)
 case atStart=>exact⟨0,[],false,by omega,rfl,rfl,rfl,own_nil _ _,Below.refl _ _⟩
 case round=>
  obtain⟨j,ys,d,hj,rfl,rfl,hyz,hO,hB⟩:=hrel
  obtain⟨ao,cp,rfl⟩:=owns_form hO
  have HL:=hid (show ys.length<=100001 by have:=HPL.out;rw[hyz,List.length_append]at this;omega)
  by_cases hlt:j<n
  ·obtain⟨b,off,rfl,h0,h1⟩:=hP.cell j hlt
   have c0:=(hB.cell (p:=⟨b,off+j*2,none⟩) (block_lt_of_cell h0)).trans h0
   have c1:=(hB.cell (p:=⟨b,off+j*2+1,none⟩) (block_lt_of_cell h1)).trans h1
   have hjl:j<l.length:=by have:=HC.out;omega
   rw[List.drop_eq_getElem_cons hjl]at hyz
   have HG:Hid (l[j]=l.getD j z0):=by simp[Hid,List.getD,List.getElem?_eq_getElem hjl]
   rw[HG.out]at hyz
   have HY:=hid hyz
   have hj0:(j:Int)<(n:Int):=by omega
   have H0:=hid h0
   have H1:=hid h1
   have hbw:=block_lt_of_cell h0
   clear h0 h1 hjl hyz HG
   generalize l.getD j z0=x at c0 c1 HY H0 H1
   have hA:=(Below.refl wr.heap.size wr).alloc (Nat.le_refl _) (.cells #[.string x.1,.string x.2] 129)
   have HOx:=hid (owned_below hO hA)
   have HBx:=hid (hB.trans (hA.mono hB.size))
   have HNx:=hid (heap_alloc_new wr (.cells #[.string x.1,.string x.2] 129))
   have hA2:=(Below.refl wr.heap.size wr).alloc (Nat.le_refl _) (.cells #[.string k,.string v] 129)
   have HOk:=hid (owned_below hO hA2)
   have HBk:=hid (hB.trans (hA2.mono hB.size))
   have HNk:=hid (heap_alloc_new wr (.cells #[.string k,.string v] 129))
   have HO:=hid hO
   have HB:=hid hB
   clear hA hA2 hO hB
   cases d
   ·cases hl:less x.1 k
    ·
     have HZ:=hid (HY.out.trans (congrArg (ys++ ·) (za2 hl _ v)))
     cases hx:alike x.1 k
     ·rw[hx]at HZ
      go_wp2_with (first|(at_builtin;refine jB rfl _ _ rfl w.heap.size _ ys (by rfl) HOk.out wr.heap.size (k,v) (by rfl) HNk.out (Nat.le_trans HL.out (by decide)) HBk.out.size ?_;intro ao4 cap4 w4 hown4 hgrow4;have HB4:=hid (HBk.out.grown hgrow4 HBk.out.size (qj HOk.out));have e0:=(HB4.out.cell (p:=⟨b,off+j*2,none⟩) hbw).trans H0.out;have e1:=(HB4.out.cell (p:=⟨b,off+j*2+1,none⟩) hbw).trans H1.out;have hA5:=(Below.refl w4.heap.size w4).alloc (Nat.le_refl _) (.cells #[.string x.1,.string x.2] 129);have HO5:Hid (Own w.heap.size (.slice ao4 (ys.length+1) cap4) (ys++[(k,v)]) (w4.alloc (.cells #[.string x.1,.string x.2] 129))):=owned_below hown4 hA5;have HB5:=hid (HB4.out.trans (hA5.mono HB4.out.size));have HN5:=hid (heap_alloc_new w4 (.cells #[.string x.1,.string x.2] 129));clear hown4 hgrow4 hA5)|(at_builtin;refine jB rfl _ _ rfl w.heap.size _ (ys++[(k,v)]) (by rfl) HO5.out w4.heap.size x (by rfl) HN5.out (by have:=HL.out;simp;omega) HB5.out.size ?_;intro ao6 cap6 w6 hown6 hgrow6;have HB6:=hid (HB5.out.grown hgrow6 HB5.out.size (qj HO5.out));have HO6:=hid hown6;clear hown6 hgrow6)|fail)
      go_roundw
      case rel=>exact⟨j+1,ys++[(k,v)]++[x],true,by omega,by go_num,rfl,by rw[HZ.out];simp,by simpa[Own] using HO6.out,HB6.out⟩
      case measure=>simp[intOf];omega
     ·rw[hx]at HZ
      go_wp2_with (first|(at_builtin;refine jB rfl _ _ rfl w.heap.size _ ys (by rfl) HOk.out wr.heap.size (k,v) (by rfl) HNk.out (Nat.le_trans HL.out (by decide)) HBk.out.size ?_;intro ao4 cap4 w4 hown4 hgrow4;have HB4:=hid (HBk.out.grown hgrow4 HBk.out.size (qj HOk.out));have e0:=(HB4.out.cell (p:=⟨b,off+j*2,none⟩) hbw).trans H0.out;have HO4:Hid (Own w.heap.size (.slice ao4 (ys.length+1) cap4) (ys++[(k,v)]) w4):=hown4;clear hown4 hgrow4)|fail)
      go_roundw
      case rel=>exact⟨j+1,ys++[(k,v)],true,by omega,by go_num,rfl,by rw[HZ.out];simp,by simpa[Own] using HO4.out,HB4.out⟩
      case measure=>simp[intOf];omega
    ·have hx:=ZO hl
     have HZ:=hid (HY.out.trans (congrArg (ys++ ·) (za1 hl _ v)))
     go_wp2_with (first|(at_builtin;refine jB rfl _ _ rfl w.heap.size _ ys (by rfl) HOx.out wr.heap.size x (by rfl) HNx.out (Nat.le_trans HL.out (by decide)) HBx.out.size ?_;intro ao4 cap4 w4 hown4 hgrow4;have HB4:=hid (HBx.out.grown hgrow4 HBx.out.size (qj HOx.out));have HO4:=hid hown4;clear hown4 hgrow4)|fail)
     go_roundw
     case rel=>exact⟨j+1,ys++[x],false,by omega,by go_num,rfl,by rw[HZ.out];simp,by simpa[Own] using HO4.out,HB4.out⟩
     case measure=>simp[intOf];omega
   ·cases hx:alike x.1 k
    ·have HZ:=hid (HY.out.trans (congrArg (ys++ ·) (qz x _ k v)))
     rw[hx]at HZ
     go_wp2_with (first|(at_builtin;refine jB rfl _ _ rfl w.heap.size _ ys (by rfl) HOx.out wr.heap.size x (by rfl) HNx.out (Nat.le_trans HL.out (by decide)) HBx.out.size ?_;intro ao4 cap4 w4 hown4 hgrow4;have HB4:=hid (HBx.out.grown hgrow4 HBx.out.size (qj HOx.out));have HO4:=hid hown4;clear hown4 hgrow4)|fail)
     go_roundw
     case rel=>exact⟨j+1,ys++[x],true,by omega,by go_num,rfl,by rw[HZ.out];simp,by simpa[Own] using HO4.out,HB4.out⟩
     case measure=>simp[intOf];omega
    ·have HZ:=hid (HY.out.trans (congrArg (ys++ ·) (qz x _ k v)))
     rw[hx]at HZ
     go_wp2_with fail
     go_roundw
     case rel=>exact⟨j+1,ys,true,by omega,by go_num,rfl,by rw[HZ.out];simp,HO.out,HB.out⟩
     case measure=>simp[intOf];omega
  ·obtain rfl:j=n:=by omega
   rw[show l.drop j=[] by rw[HC.out,List.drop_length]]at hyz
   have hA2:=(Below.refl wr.heap.size wr).alloc (Nat.le_refl _) (.cells #[.string k,.string v] 129)
   have HOk:=hid (owned_below hO hA2)
   have HBk:=hid (hB.trans (hA2.mono hB.size))
   have HNk:=hid (heap_alloc_new wr (.cells #[.string k,.string v] 129))
   have HO:=hid hO
   have HB:=hid hB
   have HY:=hid hyz
   clear hA2 hO hB hyz
   cases d
   ·go_wp2_with (first|(at_builtin;refine jB rfl _ _ rfl w.heap.size _ ys (by rfl) HOk.out wr.heap.size (k,v) (by rfl) HNk.out (Nat.le_trans HL.out (by decide)) HBk.out.size ?_;intro ao4 cap4 w4 hown4 hgrow4;have HB4:=hid (HBk.out.grown hgrow4 HBk.out.size (qj HOk.out));have HO4:=hid hown4;clear hown4 hgrow4)|fail)
    go_ret
    have e:put l k v=ys++[(k,v)]:=HY.out
    rw[e]
    exact⟨ao4,cap4,by simp,by simpa[Own] using HO4.out,HB4.out⟩
   ·go_wp2_with fail
    go_ret
    have e:put l k v=ys:=by rw[HY.out];simp[vU,Tr.del]
    rw[e]
    exact⟨ao,cp,rfl,HO.out,HB.out⟩
end Go.Proofs.YtabmamofnhcgbaaGreatDoor.T8
namespace Go.Proofs.YtabmamofnhcgbaaGreatDoor.T8
open Go.RowKit Go.Less Sha
attribute [local go_sem 9000] zg zf zz zA zB zC
theorem btr{w W W':World}(hb:Below W.heap.size W W')(h:Below w.heap.size w W):Below w.heap.size w W':=h.trans (hb.mono h.size)
theorem UH{la lb:List Pr}{k v:ByteArray}(ha: ∀x∈la,less (rk x.1) (rk k)=true)(hb: ∀x∈lb,less (rk k) (rk x.1)=false):cn (la++(k,v)::lb)= .node (cn la) k v (cn lb):=by
 have h:(Tr.T.node (cn la) k v (cn lb)).Heap less rk:=⟨by rw[xC];exact ha,by rw[xC];exact hb,Tr.canon_heap rising la,Tr.canon_heap rising lb⟩
 have:=Tr.canon_of_heap h
 unfold cn at this|-
 rw[<-this]
 show Tr.canon less rk (la++(k,v)::lb)=Tr.canon less rk ((Tr.canon less rk la).rows++(k,v)::(Tr.canon less rk lb).rows)
 rw[Tr.canon_rows rising,Tr.canon_rows rising]
def dn(l:List Pr):List ByteArray:=(cn l).names ⟨#[]⟩ jn
theorem zds{la lb:List Pr}{k v:ByteArray}(ha: ∀x∈la,less (rk x.1) (rk k)=true)(hb: ∀x∈lb,less (rk k) (rk x.1)=false):dn (la++(k,v)::lb)=dn la++dn lb++[jn k v (nm (cn la)) (nm (cn lb))]:=by
 unfold dn;rw[UH ha hb];rfl
def YH(l:List Pr):Option (Nat×ByteArray):=Tr.topFrom less rk 0 none l
theorem QE:YH []=none:=rfl
theorem jM(l:List Pr)(x:Pr):YH (l++[x])=Tr.topStep less rk l.length x.1 (YH l):=by
 unfold YH;rw[Tr.topFrom_append];simp[Tr.topFrom]
theorem QK{ad:Addr}{len:Nat}{ss:List ByteArray}{w:World}(h:Strs (some ad) len ss w): ∀(j:Nat) u,(ss.map Value.string)[j]?=some u->w.cell? (ad.add j)=some u:=by
 intro j u hj
 have hl:j<ss.length:=by
  rcases Nat.lt_or_ge j ss.length with h1|h1
  ·exact h1
  ·rw[List.getElem?_eq_none (by simpa using h1)]at hj;cases hj
 obtain⟨b,off,e,hc⟩:=h.cell j (by rw[h.count];exact hl)
 injection e with e
 subst e
 rw[Go.WideShapes.add_plain,hc]
 rw[List.getElem?_map,List.getElem?_eq_getElem hl]at hj
 simpa[List.getD,List.getElem?_eq_getElem hl] using hj
theorem vt{ops:Array Oper}{rest:List Oper}{o:Oper}{a:Act}{Q:Exit->Act->World->Prop}{w:World}(hgd:o.guard=none)(s x:Operand)
  (ho:o.op= .call {callee:= .builtin .append,args:= #[s,x],argTypes:= #[52,52]}) (base:Nat) (v:Value) (n:Nat) (xs:List ByteArray) (hs:a.eval s=v) (hown:w.ownsRow base 9 1 v n (xs.map Value.string))
  (ao:Option Addr) (len cap:Nat) (ss:List ByteArray) (hx:a.eval x= .slice ao len cap) (hS:Strs ao len ss w) (hnil:ao=none->len=0/\cap=0) (hlen:n+len<=1000000) (hbase:base<=w.heap.size)
  (h: ∀ao' cap' w',w'.ownsRow base 9 1 (.slice ao' (n+len) cap') (n+len) ((xs++ss).map Value.string)->w.grownBy w' v.ownBlock->wpList prog ops Q rest (a.put o.dst (.slice ao' (n+len) cap')) w'):
  wpList prog ops Q (o::rest) a w:=by
 obtain⟨i0,hi,hz0,hz1,hz2⟩:=info_parts j1
 cases ao with
 |none=>
  obtain⟨rfl,rfl⟩:=hnil rfl
  have hss:ss=[]:=List.eq_nil_of_length_eq_zero hS.count.symm
  subst hss
  refine wpList_append_own_none hgd s x 52 ho base 9 i0 1 underlying52 hi v n (xs.map Value.string) hs hown hx ?_
  obtain⟨a',c',rfl⟩:=owns_form hown
  exact h a' c' w (by rw[List.append_nil];exact hown) (World.grownBy.refl _ _)
 |some ad=>
  refine wpList_append_own w hgd s x 52 ho base 9 i0 (.string ⟨#[]⟩) 1 16 underlying52 hi hz0 hz1 hz2 rfl (by decide) v n (xs.map Value.string) hs hown ad len cap (ss.map .string) hx (by rw[List.length_map,<-hS.count,Nat.mul_one]) (QK hS) (by intro u hu;obtain⟨x,_,rfl⟩:=List.mem_map.1 hu;rfl) (by unfold maxLen;omega) (by omega) hbase ?_
  intro v' w' hown' hg _
  obtain⟨ao',cap',rfl⟩:=owns_form hown'
  exact h ao' cap' w' (by rw[List.map_append];exact hown') hg
theorem V0(w:World):(w.alloc (.cells #[] 9)).ownsRow w.heap.size 9 1 (.slice (some ⟨w.heap.size,0,none⟩) 0 0) 0 (([]:List ByteArray).map Value.string):=
 ⟨rfl,.inr ⟨w.heap.size,0,#[],rfl,Nat.le_refl _,heap_alloc_new w _,Nat.le_refl _,by decide,rfl,rfl⟩⟩
theorem ux{w:World}{base:Nat}{a:Option Addr}{n cap:Nat}{ss:List ByteArray}(h:w.ownsRow base 9 1 (.slice a n cap) n (ss.map Value.string)):Strs a n ss w/\(a=none->n=0/\cap=0):=by
 have hn:n=ss.length:=by have:=h.1;rw[List.length_map,Nat.mul_one]at this;exact this.symm
 obtain⟨a',c',e,hS⟩:=strs_owned h hn
 injection e with e1 e2 e3
 subst e1;subst e3
 refine⟨hS,λha=> ?_⟩
 obtain⟨_,⟨e,h0⟩|⟨g,cap',cur,e,_⟩⟩:=h
 ·injection e with _ e2 e3;exact⟨e2,e3⟩
 ·injection e with e1 _ _;rw[ha]at e1;cases e1
theorem qL{w:World}{base base':Nat}{e:TypeId}{size:Nat}{v:Value}{n:Nat}{xs:List Value}(h:w.ownsRow base e size v n xs)(hb:base'<=base):w.ownsRow base' e size v n xs:=by
 refine⟨h.1, ?_⟩
 rcases h.2 with hn|⟨g,cap,cur,hv,h1,rest⟩
 ·exact .inl hn
 ·exact .inr ⟨g,cap,cur,hv,Nat.le_trans hb h1,rest⟩
theorem qb(k:ByteArray)(w:World)(g:Nat)(hc:w.cell? ⟨g,0,none⟩=some (.string k))(hk:k.size<=100):
  Calls prog 69 #[.int .u8 2,.slice (some ⟨g,0,none⟩) 1 1] w λe w'=>e= .returned (.string (rk k))/\Below w.heap.size w w':=by
 have hS:Strs (some ⟨g,0,none⟩) 1 [k] w:=⟨rfl,λi hi=>⟨g,0,rfl,by match i,hi with|0,_=>rw[Nat.zero_add];exact hc⟩⟩
 refine(qG 2 (some ⟨g,0,none⟩) 1 1 [k] _ hS ?_ (by omega)).mono ?_
 ·simp only[zS,List.flatMap_cons,List.flatMap_nil,List.length_append,Sha.num_length,jp,List.length_nil];omega
 ·rintro e w' ⟨rfl,h⟩
  exact⟨rfl,h⟩
theorem Zy(k v a b:ByteArray)(w:World)(g:Nat)(c0:w.cell? ⟨g,0,none⟩=some (.string k))(c1:w.cell? ⟨g,1,none⟩=some (.string v))(c2:w.cell? ⟨g,2,none⟩=some (.string a))(c3:w.cell? ⟨g,3,none⟩=some (.string b))(hk:k.size<=100)(hv:v.size<=10000)(ha:a.size<=32)(hb:b.size<=32):
  Calls prog 69 #[.int .u8 1,.slice (some ⟨g,0,none⟩) 4 4] w λe w'=>e= .returned (.string (jn k v a b))/\Below w.heap.size w w':=by
 have hS:Strs (some ⟨g,0,none⟩) 4 [k,v,a,b] w:=⟨rfl,λi hi=>⟨g,0,rfl,by
  rw[Nat.zero_add]
  match i,hi with
  |0,_=>exact c0
  |1,_=>exact c1
  |2,_=>exact c2
  |3,_=>exact c3⟩⟩
 refine(qG 1 (some ⟨g,0,none⟩) 4 4 [k,v,a,b] _ hS ?_ (by omega)).mono ?_
 ·simp only[zS,List.flatMap_cons,List.flatMap_nil,List.length_append,Sha.num_length,jp,List.length_nil];omega
 ·rintro e w' ⟨rfl,h⟩
  exact⟨rfl,h⟩
end Go.Proofs.YtabmamofnhcgbaaGreatDoor.T8
namespace Go.Proofs.YtabmamofnhcgbaaGreatDoor.T8
open Go.RowKit Go.Less Sha
attribute [local go_sem 9000] zg zf zz zA zB zC
def Named(l:List Pr)(w:World)(e:Ending)(w':World):Prop:= ∃ao cap,e= .returned (.tuple #[.string (nm (cn l)),.slice ao l.length cap])/\w'.ownsRow w.heap.size 9 1 (.slice ao l.length cap) l.length ((dn l).map Value.string)/\Below w.heap.size w w'
def Short(l:List Pr):Prop:= ∀x∈l,x.1.size<=100/\x.2.size<=10000
theorem zcj{a:Option Addr}{n:Nat}{l:List Pr}{w:World}(h:Prs a n l w){t:Nat}(ht:t<=n):Prs a t (l.take t) w:=by
 have hc:=h.count
 refine⟨by rw[List.length_take];omega,λi hi=> ?_⟩
 obtain⟨b,off,e,h0,h1⟩:=h.cell i (by omega)
 refine⟨b,off,e, ?_, ?_⟩
 ·rw[h0];simp[List.getD,hi]
 ·rw[h1];simp[List.getD,hi]
theorem zck{b off n:Nat}{l:List Pr}{w:World}(h:Prs (some ⟨b,off,none⟩) n l w){t:Nat}(ht:t<=n):Prs (some ⟨b,off+t*2,none⟩) (n-t) (l.drop t) w:=by
 have hc:=h.count
 refine⟨by rw[List.length_drop];omega,λi hi=> ?_⟩
 obtain⟨b',off',e,h0,h1⟩:=h.cell (t+i) (by omega)
 injection e with e
 injection e with e1 e2
 subst e1;subst e2
 have hx:off+(t+i)*2=off+t*2+i*2:=by omega
 rw[hx]at h0 h1
 refine⟨_,_,rfl, ?_, ?_⟩
 ·rw[h0];simp[List.getD,List.getElem?_drop]
 ·rw[h1];simp[List.getD,List.getElem?_drop]
theorem zet(a:Option Addr)(w:World):Prs a 0 [] w:=⟨rfl,λi hi=>by omega⟩
def qD(l:List Pr)(j tp:Nat)(bs:ByteArray):Prop:=(j=0/\tp=0/\bs=⟨#[]⟩)\/(0<j/\YH (l.take j)=some (tp,bs))
theorem Zm{l:List Pr}{j:Nat}(h:j<l.length):l.take (j+1)=l.take j++[l.getD j z0]:=by
 rw[List.take_succ_eq_append_getElem h];simp[List.getD,List.getElem?_eq_getElem h]
theorem Xy{l:List Pr}(h:0<l.length):qD l 1 0 (rk (l.getD 0 z0).1):=by
 refine .inr ⟨by decide, ?_⟩
 rw[Zm h,List.take_zero,jM,QE];rfl
theorem Vj{l:List Pr}{j tp:Nat}{bs:ByteArray}(h:j<l.length)(hj:0<j)(hT:qD l j tp bs)(hb:less bs (rk (l.getD j z0).1)=true):qD l (j+1) j (rk (l.getD j z0).1):=by
 rcases hT with ⟨h0,_⟩|⟨_,hT⟩
 ·omega
 ·refine .inr ⟨by omega, ?_⟩
  rw[Zm h,jM,hT,List.length_take,Nat.min_eq_left (by omega)]
  show(if less bs (rk (l.getD j z0).1)=true then _ else _)=_
  rw[if_pos hb]
theorem Vk{l:List Pr}{j tp:Nat}{bs:ByteArray}(h:j<l.length)(hj:0<j)(hT:qD l j tp bs)(hb:less bs (rk (l.getD j z0).1)=false):qD l (j+1) tp bs:=by
 rcases hT with ⟨h0,_⟩|⟨_,hT⟩
 ·omega
 ·refine .inr ⟨by omega, ?_⟩
  rw[Zm h,jM,hT,List.length_take,Nat.min_eq_left (by omega)]
  show(if less bs (rk (l.getD j z0).1)=true then _ else _)=_
  rw[if_neg (by rw[hb];decide)]
theorem rname_any: ∀(N:Nat) (l:List Pr) (a:Option Addr) (m cap:Nat) (w:World),l.length<=N->N<=500->Prs a m l w->m<=cap->Short l->Calls prog 20 #[.slice a m cap] w (Named l w):=by
 intro N
 induction N with
 |zero=>
  intro l a m cap w hl hN hP hc hS
  have hl0:l=[]:=List.length_eq_zero_iff.1 (by omega)
  subst hl0
  obtain rfl:m=0:=hP.count
  clear hP hS hl hN hc
  go_enter func20,ntmps20
  go_wp2_with fail
  go_ret2
  exact⟨none,0,rfl,⟨rfl,.inl ⟨rfl,rfl⟩⟩,Below.refl _ _⟩
 | succ N ih=>
  intro l a m cap w hl hN hP hc hS
  by_cases h0:l=[]
  ·subst h0
   obtain rfl:m=0:=hP.count
   clear hP hS hl hN hc ih
   go_enter func20,ntmps20
   go_wp2_with fail
   go_ret2
   exact⟨none,0,rfl,⟨rfl,.inl ⟨rfl,rfl⟩⟩,Below.refl _ _⟩
  ·obtain⟨la,k,v,lb,rfl,ha,hb⟩:=Tr.top_some (rl:=less) (rank:=rk) rising l h0
   have hcount:=hP.count
   have hlen:(la++(k,v)::lb).length=la.length+1+lb.length:=by simp;omega
   rw[hlen]at hcount hl
   obtain⟨bl,off,rfl,_⟩:=hP.cell 0 (by omega)
   have HT:=hid (show YH (la++(k,v)::lb)=some (la.length,rk k)from Tr.top_middle (rl:=less) (rank:=rk) la k v lb ha hb)
   have HCN:=hid (show nm (cn (la++(k,v)::lb))=jn k v (nm (cn la)) (nm (cn lb))from by rw[UH ha hb];rfl)
   have HDN:=hid (zds (la:=la) (lb:=lb) (k:=k) (v:=v) ha hb)
   have hSk:=hS (k,v) (by simp)
   have HSK:=hid hSk
   have hka: ∀j,j<m->((la++(k,v)::lb).getD j z0).1.size<=100:=λj hj=>(hS _ (by rw[List.getD,List.getElem?_eq_getElem (by omega)];exact List.getElem_mem _)).1
   have HKA:=hid hka
   have HI:=hid (λW (hW:Below w.heap.size w W)=>ih la (some ⟨bl,off,none⟩) la.length cap W (by omega) (by omega) ((by have:=zcj hP (t:=la.length) (by omega);rwa [List.take_left]at this:Prs (some ⟨bl,off,none⟩) la.length la w).below hW) (by omega) (λx hx=>hS x (List.mem_append_left _ hx)))
   have HJ:=hid (λa' n' c' W (hn':n'=lb.length) (hP':Prs a' lb.length lb W) (hc':lb.length<=c')=>hn'▸ih lb a' lb.length c' W (by omega) (by omega) hP' hc' (λx hx=>hS x (List.mem_append_right _ (List.mem_cons_of_mem _ hx))))
   have HPB:=hid (show∀W,Below w.heap.size w W->Prs (some ⟨bl,off+(la.length+1)*2,none⟩) lb.length lb W from λW hW=>by
    have:=zck hP (t:=la.length+1) (by omega)
    rw[show m-(la.length+1)=lb.length by omega,show(la++(k,v)::lb).drop (la.length+1)=lb from by rw[show la++(k,v)::lb=(la++[(k,v)])++lb by simp];exact List.drop_left' (by simp)]at this
    exact this.below hW)
   have hcl:=hP.cell
   obtain⟨b',off',e',hk0,hk1⟩:=hcl la.length (by omega)
   injection e' with e'
   injection e' with e1 e2
   subst e1;subst e2
   rw[show((la++(k,v)::lb).getD la.length z0)=(k,v)from by simp[List.getD]]at hk0 hk1
   have hbl:=block_lt_of_cell hk0
   have HKV:=hid (show∀W,Below w.heap.size w W->W.cell? ⟨bl,off+la.length*2,none⟩=some (.string k)/\W.cell? ⟨bl,off+la.length*2+1,none⟩=some (.string v)from λW hb=>⟨(hb.cell (p:=⟨bl,off+la.length*2,none⟩) hbl).trans hk0,(hb.cell (p:=⟨bl,off+la.length*2+1,none⟩) hbl).trans hk1⟩)
   have HP:=hid hP
   have hm:0<m:=by omega
   have hmI:(m:Int)<=500:=by omega
   have HLen:=hid hlen
   have HM:=hid hcount
   have HC:=hid hc
   clear hP hS hl ih h0 ha hb hSk hka hcl hk0 hk1 hcount hlen hc
   go_enter func20,ntmps20
   go_wp2_with fail
   go_loopw [4,5,6] (λt b i wr=> ∃(j tp:Nat) (bs:ByteArray),j<=m/\i= .int .i64 (j:Int)/\t= .int .i64 (tp:Int)/\b= .string bs/\qD (la++(k,v)::lb) j tp bs/\Below w.heap.size w wr) (λ_ _ i _=>m-(intOf i).toNat)
   case atStart=>exact⟨0,0,⟨#[]⟩,Nat.zero_le _,rfl,rfl,rfl,.inl ⟨rfl,rfl,rfl⟩,Below.refl _ _⟩
   case round=>
    obtain⟨j,tp,bs,hj,rfl,rfl,rfl,hTp,hb⟩:=hrel
    have HB:=hid hb
    have HTp:=hid hTp
    clear hb hTp
    by_cases hlt:j<m
    ·by_cases hj00:j=0
     ·subst hj00
      obtain⟨bl1,off1,e1,hq0,hq1⟩:=HP.out.cell 0 hlt
      injection e1 with e1
      injection e1 with e1 e2
      subst e1;subst e2
      rw[Nat.zero_mul,Nat.add_zero]at hq0
      have q0:=(HB.out.cell (p:=⟨bl,off,none⟩) (block_lt_of_cell hq0)).trans hq0
      have hjl:0<(la++(k,v)::lb).length:=by have:=HP.out.count;omega
      have HJL:=hid hjl
      have HX:=hid (HKA.out 0 hlt)
      clear hq0 hq1 hjl
      have HTn:=hid (Xy HJL.out)
      generalize (la++(k,v)::lb).getD 0 z0=x at q0 HX HTn
      have HR:=hid (λW g hc=>qb x.1 W g hc HX.out)
      clear HX
      go_wp2_with fail
      refine(HR.out (wr.alloc (.cells #[.string x.1] 9)) wr.heap.size (y8 _ _ _ 0)).mono ?_
      rintro e w1 ⟨rfl,hw1⟩
      have hb1:=btr hw1 (HB.out.trans ((below_one wr (.cells #[.string x.1] 9)).mono HB.out.size))
      have HB1:=hid hb1
      clear hw1 hb1
      dsimp only
      go_wp2_with fail
      go_roundw
      case rel=>exact⟨1,0,rk x.1,by omega,by go_num,by go_num,rfl,HTn.out,HB1.out⟩
      case measure=>simp[intOf];omega
     ·have hjp:0<j:=by omega
      have hjp0:((j:Int)==0)=false:=by rw[beq_eq_false_iff_ne];omega
      obtain⟨bl1,off1,e1,hq0,hq1⟩:=HP.out.cell j hlt
      injection e1 with e1
      injection e1 with e1 e2
      subst e1;subst e2
      have q0:=(HB.out.cell (p:=⟨bl,off+j*2,none⟩) (block_lt_of_cell hq0)).trans hq0
      have hjl:j<(la++(k,v)::lb).length:=by have:=HP.out.count;omega
      have HJL:=hid hjl
      have HX:=hid (HKA.out j hlt)
      have hj0:(j:Int)<(m:Int):=by omega
      clear hq0 hq1 hjl
      cases hls:less bs (rk ((la++(k,v)::lb).getD j z0).1)
      ·have HTn:=hid (Vk HJL.out hjp HTp.out hls)
       generalize (la++(k,v)::lb).getD j z0=x at q0 HX HTn hls
       have HR:=hid (λW g hc=>qb x.1 W g hc HX.out)
       clear HX
       go_wp2_with fail
       refine(HR.out (wr.alloc (.cells #[.string x.1] 9)) wr.heap.size (y8 _ _ _ 0)).mono ?_
       rintro e w1 ⟨rfl,hw1⟩
       have hb1:=btr hw1 (HB.out.trans ((below_one wr (.cells #[.string x.1] 9)).mono HB.out.size))
       have HB1:=hid hb1
       clear hw1 hb1
       dsimp only
       go_wp2_with fail
       go_roundw
       case rel=>exact⟨j+1,tp,bs,by omega,by go_num,rfl,rfl,HTn.out,HB1.out⟩
       case measure=>simp[intOf];omega
      ·have HTn:=hid (Vj HJL.out hjp HTp.out hls)
       generalize (la++(k,v)::lb).getD j z0=x at q0 HX HTn hls
       have HR:=hid (λW g hc=>qb x.1 W g hc HX.out)
       clear HX
       go_wp2_with fail
       refine(HR.out (wr.alloc (.cells #[.string x.1] 9)) wr.heap.size (y8 _ _ _ 0)).mono ?_
       rintro e w1 ⟨rfl,hw1⟩
       have hb1:=btr hw1 (HB.out.trans ((below_one wr (.cells #[.string x.1] 9)).mono HB.out.size))
       have HB1:=hid hb1
       clear hw1 hb1
       dsimp only
       go_wp2_with fail
       go_roundw
       case rel=>exact⟨j+1,j,rk x.1,by omega,by go_num,rfl,rfl,HTn.out,HB1.out⟩
       case measure=>simp[intOf];omega
    ·obtain rfl:j=m:=by omega
     have htp:tp=la.length:=by
      rcases HTp.out with ⟨h0,_⟩|⟨_,h1⟩
      ·omega
      ·rw[HP.out.count,List.take_length,HT.out]at h1
       injection h1 with h1
       injection h1 with h1 _
       exact h1.symm
     subst htp
     have hla1:la.length+1<=j:=by have:=HM.out;omega
     have hli:(la.length:Int)<(j:Int):=by omega
     have hli0:(0:Int)<=(la.length:Int):=by omega
     have hlac:la.length<=cap:=by have:=HC.out;omega
     have hjc:j<=cap:=HC.out
     have HE:=hid (show j-(la.length+1)=lb.length by have:=HM.out;omega)
     have HE2:=hid (show lb.length<=cap-(la.length+1) by have:=HM.out;omega)
     clear hlt HT HKA HTp
     by_cases hcp:la.length+1=cap
     ·have hll:lb=[]:=List.length_eq_zero_iff.1 (by have:=HM.out;omega)
      have HZ:=hid (show Prs (some ⟨bl,off,none⟩) lb.length lb w from by rw[hll];exact zet _ _)
      have HE0:=hid (show 0=lb.length by rw[hll];rfl)
      have HE3:=hid (show lb.length<=0 by rw[hll];exact Nat.le_refl _)
      clear hll
      go_wp2_with fail
      refine(HI.out _ HB.out).mono ?_
      rintro e w1 ⟨ax,cx,rfl,hx,hw1⟩
      have HX:=hid hx
      have HW1:=hid (btr hw1 HB.out)
      clear hx hw1
      dsimp only
      go_wp2_with fail
      refine(HJ.out _ _ _ _ HE0.out (HZ.out.below HW1.out) HE3.out).mono ?_
      rintro e w2 ⟨ay,cy,rfl,hy,hw2⟩
      have hb2:=btr hw2 HW1.out
      have hxs:=owned_below HX.out hw2
      obtain⟨sx,nx⟩:=ux hxs
      obtain⟨sy,ny⟩:=ux hy
      have HSX:=hid sx
      have HNX:=hid nx
      have HSY:=hid sy
      have HNY:=hid ny
      have HB2:=hid hb2
      have hbd:=hb2.drew
      clear hy hw2 hxs sx nx sy ny hb2
      dsimp only
      have HRF:=hid (λW g c0 c1 c2 c3=>Zy k v (nm (cn la)) (nm (cn lb)) W g c0 c1 c2 c3 HSK.out.1 HSK.out.2 (uz _) (uz _))
      generalize jn k v (nm (cn la)) (nm (cn lb))=z at HRF HCN HDN
      generalize nm (cn la)=n1 at*
      generalize nm (cn lb)=n2 at*
      have hwa:=(below_one w2 (.cells #[.string k,.string v,.string n1,.string n2] 9)).drew
      have HWA:=hid hwa
      clear hwa
      go_wp2_with fail
      go_region_held3 (λW=>W.cell? ⟨bl,off+la.length*2,none⟩=some (.string k)/\W.cell? ⟨bl,off+la.length*2+1,none⟩=some (.string v))
       (first|exact HKV.out _ hbd|exact HKV.out _ (btr HWA.out HB2.out)|exact HKV.out _ hb3|assumption)
       ((go_at_call 69;(with_reducible refine(HRF.out _ _ (by go_simp) (by go_simp) (by go_simp) (by go_simp)).mono ?_);rintro e w3 ⟨rfl,hw3⟩;have hb3:=btr hw3 (btr HWA.out HB2.out)))
      all_goals
       have HB3:=hid hb3
       have HO4:=hid (V0 w3)
       have HK4:=hid (below_one w3 (.cells #[] 9))
       have HSX3:=hid ((HSX.out.below HWA.out).below hw3)
       have HSY3:=hid ((HSY.out.below HWA.out).below hw3)
       have HSX4:=hid (HSX3.out.below HK4.out)
       have HLA:=hid (show 0+la.length<=1000000 by omega)
       have HLB:=hid (show la.length+lb.length<=1000000 by have:=HM.out;omega)
       clear hb3 hw3 hbd
       go_wp2_with (first
        |(at_builtin;refine vt rfl _ _ rfl w3.heap.size _ 0 [] (by rfl) HO4.out ax la.length cx (dn la) (by rfl) HSX4.out HNX.out HLA.out HK4.out.size ?_;intro ao5 cap5 w5 hown5 hgrow5;simp only[Nat.zero_add,List.nil_append]at hown5|-;have HK5:=hid (HK4.out.grown hgrow5 HK4.out.size (λj hj=>(owns_lt HO4.out j hj).1));have HO5:=hid hown5;have HSY5:=hid (HSY3.out.below HK5.out);clear hown5 hgrow5)
        |(at_builtin;refine vt rfl _ _ rfl w3.heap.size _ la.length (dn la) (by rfl) HO5.out ay lb.length cy (dn lb) (by rfl) HSY5.out HNY.out HLB.out HK5.out.size ?_;intro ao6 cap6 w6 hown6 hgrow6;have HK6:=hid (HK5.out.grown hgrow6 HK5.out.size (λj hj=>(owns_lt HO5.out j hj).1));have HK7:=hid (HK6.out.alloc HK6.out.size (.cells #[.string z] 9));have HO7:=hid (owned_below hown6 (below_one w6 (.cells #[.string z] 9)));clear hown6 hgrow6)
        |(at_builtin;refine at_app1 rfl _ _ rfl w3.heap.size _ (la.length+lb.length) ((dn la++dn lb).map Value.string) (by rfl) HO7.out w6.heap.size (.string z) (by rfl) (by simp) rfl HLB.out HK7.out.size ?_;intro ao8 cap8 w8 hown8 hgrow8;have HK8:=hid (HK7.out.grown hgrow8 HK7.out.size (λj hj=>(owns_lt HO7.out j hj).1));have HO8:=hid hown8;clear hown8 hgrow8)
        |fail)
       go_ret2
       have hfin:(la++(k,v)::lb).length=la.length+lb.length+1:=by rw[HLen.out];omega
       refine⟨ao8,cap8,by rw[HCN.out,hfin];rfl, ?_,btr HK8.out HB3.out⟩
       rw[hfin,HDN.out,List.map_append]
       exact qL HO8.out HB3.out.size
     ·go_wp2_with fail
      refine(HI.out _ HB.out).mono ?_
      rintro e w1 ⟨ax,cx,rfl,hx,hw1⟩
      have HX:=hid hx
      have HW1:=hid (btr hw1 HB.out)
      clear hx hw1
      dsimp only
      go_wp2_with fail
      refine(HJ.out _ _ _ _ HE.out (HPB.out _ HW1.out) HE2.out).mono ?_
      rintro e w2 ⟨ay,cy,rfl,hy,hw2⟩
      have hb2:=btr hw2 HW1.out
      have hxs:=owned_below HX.out hw2
      obtain⟨sx,nx⟩:=ux hxs
      obtain⟨sy,ny⟩:=ux hy
      have HSX:=hid sx
      have HNX:=hid nx
      have HSY:=hid sy
      have HNY:=hid ny
      have HB2:=hid hb2
      have hbd:=hb2.drew
      clear hy hw2 hxs sx nx sy ny hb2
      dsimp only
      have HRF:=hid (λW g c0 c1 c2 c3=>Zy k v (nm (cn la)) (nm (cn lb)) W g c0 c1 c2 c3 HSK.out.1 HSK.out.2 (uz _) (uz _))
      generalize jn k v (nm (cn la)) (nm (cn lb))=z at HRF HCN HDN
      generalize nm (cn la)=n1 at*
      generalize nm (cn lb)=n2 at*
      have hwa:=(below_one w2 (.cells #[.string k,.string v,.string n1,.string n2] 9)).drew
      have HWA:=hid hwa
      clear hwa
      go_wp2_with fail
      go_region_held3 (λW=>W.cell? ⟨bl,off+la.length*2,none⟩=some (.string k)/\W.cell? ⟨bl,off+la.length*2+1,none⟩=some (.string v))
       (first|exact HKV.out _ hbd|exact HKV.out _ (btr HWA.out HB2.out)|exact HKV.out _ hb3|assumption)
       ((go_at_call 69;(with_reducible refine(HRF.out _ _ (by go_simp) (by go_simp) (by go_simp) (by go_simp)).mono ?_);rintro e w3 ⟨rfl,hw3⟩;have hb3:=btr hw3 (btr HWA.out HB2.out)))
      all_goals
       have HB3:=hid hb3
       have HO4:=hid (V0 w3)
       have HK4:=hid (below_one w3 (.cells #[] 9))
       have HSX3:=hid ((HSX.out.below HWA.out).below hw3)
       have HSY3:=hid ((HSY.out.below HWA.out).below hw3)
       have HSX4:=hid (HSX3.out.below HK4.out)
       have HLA:=hid (show 0+la.length<=1000000 by omega)
       have HLB:=hid (show la.length+lb.length<=1000000 by have:=HM.out;omega)
       clear hb3 hw3 hbd
       go_wp2_with (first
        |(at_builtin;refine vt rfl _ _ rfl w3.heap.size _ 0 [] (by rfl) HO4.out ax la.length cx (dn la) (by rfl) HSX4.out HNX.out HLA.out HK4.out.size ?_;intro ao5 cap5 w5 hown5 hgrow5;simp only[Nat.zero_add,List.nil_append]at hown5|-;have HK5:=hid (HK4.out.grown hgrow5 HK4.out.size (λj hj=>(owns_lt HO4.out j hj).1));have HO5:=hid hown5;have HSY5:=hid (HSY3.out.below HK5.out);clear hown5 hgrow5)
        |(at_builtin;refine vt rfl _ _ rfl w3.heap.size _ la.length (dn la) (by rfl) HO5.out ay lb.length cy (dn lb) (by rfl) HSY5.out HNY.out HLB.out HK5.out.size ?_;intro ao6 cap6 w6 hown6 hgrow6;have HK6:=hid (HK5.out.grown hgrow6 HK5.out.size (λj hj=>(owns_lt HO5.out j hj).1));have HK7:=hid (HK6.out.alloc HK6.out.size (.cells #[.string z] 9));have HO7:=hid (owned_below hown6 (below_one w6 (.cells #[.string z] 9)));clear hown6 hgrow6)
        |(at_builtin;refine at_app1 rfl _ _ rfl w3.heap.size _ (la.length+lb.length) ((dn la++dn lb).map Value.string) (by rfl) HO7.out w6.heap.size (.string z) (by rfl) (by simp) rfl HLB.out HK7.out.size ?_;intro ao8 cap8 w8 hown8 hgrow8;have HK8:=hid (HK7.out.grown hgrow8 HK7.out.size (λj hj=>(owns_lt HO7.out j hj).1));have HO8:=hid hown8;clear hown8 hgrow8)
        |fail)
       go_ret2
       have hfin:(la++(k,v)::lb).length=la.length+lb.length+1:=by rw[HLen.out];omega
       refine⟨ao8,cap8,by rw[HCN.out,hfin];rfl, ?_,btr HK8.out HB3.out⟩
       rw[hfin,HDN.out,List.map_append]
       exact qL HO8.out HB3.out.size
end Go.Proofs.YtabmamofnhcgbaaGreatDoor.T8
namespace Go.Proofs.YtabmamofnhcgbaaGreatDoor
open Go.RowKit Go.Less
open T8 (pv Rp Dg vW vI vJ yx vA yq cn Zg)
attribute [local go_sem 9000] zg zf zz zA zB zC
def T85(a:Option Addr)(w:World):Prop:= ∀b off s,a=some ⟨b,off,s⟩-> ∃cs fr,w.heap[b]?=some (.cells cs 132 fr)
theorem vY(w:World):T85 none w:=λ_ _ _ h=>by cases h
theorem zec{base n c:Nat}{a:Option Addr}{xs:List Value}{w:World}(h:w.ownsRow base 132 2 (.slice a n c) n xs):T85 a w:=by
 obtain⟨_,⟨e,_⟩|⟨g,cap,cur,e,_,hg,_⟩⟩:=h
 ·injection e with e;subst e;exact vY w
 ·injection e with e;subst e;intro b off s hb;injection hb with hb;injection hb with hb;subst hb;exact⟨_,_,hg⟩
theorem T85.below{a:Option Addr}{w W:World}(h:T85 a w)(hb:Below w.heap.size w W):T85 a W:=λb off s e=>by
 obtain⟨cs,fr,hc⟩:=h b off s e
 exact⟨cs,fr,(hb.block _ (lt_of_obj hc)).trans hc⟩
theorem Kept.t85{p:Nat}{T:TypeId}{W W':World}(hk:Kept p T W W')(hT:T≠132){a:Option Addr}(h:T85 a W):T85 a W':=λb off s e=>by
 obtain⟨cs,fr,hc⟩:=h b off s e
 exact⟨cs,fr,hk.block hc hT⟩
def zd3(r:Nd.Node×Int)(w:World)(e:Ending)(w':World):Prop:=
 ∃a cap,e= .returned (.tuple #[nv r.1.kind r.1.mode r.1.data r.1.target a r.1.ents.length cap,.int .i64 r.2])/\Ents a r.1.ents.length r.1.ents w'/\Below w.heap.size w w'/\T85 a w'
theorem JO(s:ByteArray)(w:World)(hs:s.size<=100000):Calls prog 121 #[.string s] w (zd3 (zO s.data.toList) w):=by
 have HRd:=hid (λW=>VF s W hs)
 have HB0:=hid (show∀x:Obj,Below w.heap.size w (w.alloc x)from λx=>(Below.refl _ w).alloc (Nat.le_refl _) _)
 go_enter func121,ntmps121
 go_wp2_with fail
 refine(HRd.out _).mono ?_
 rintro e w1 ⟨k,m,d,t,a,n,cp,l,ok,rfl,hb1,hE,hn,hd,ht,hls,hyes,hno⟩
 have HZ1:=hid ((hb1.block w.heap.size (by simp)).trans (heap_alloc_new w _))
 have HB1:=hid ((HB0.out _).trans (hb1.mono (HB0.out _).size))
 clear hb1 HRd
 have hr1:=HZ1.out
 have r0:=yl hr1
 have q0:=xp hr1
 have hwl:=lt_of_obj hr1
 clear hr1
 cases ok with
 |false=>
  have HR:=hid (hno rfl)
  clear hyes hno hE hls
  dsimp only
  go_wp2_with fail
  refine bodyPost_ret_by (zl rfl _ _ w.heap.size _ _ _ _ _ rfl (KZ HZ1.out _ _ _ _ _ _)) rfl ⟨none,0,by rw[HR.out];rfl,by rw[HR.out];exact zs _,VQ HB1.out _ _ _ _ _ _,vY _⟩
 | true=>
  have HR:=hid (hyes rfl)
  have HA:=hid (zcl w w1 #[.int .i64 k,.int .i64 m,.string d,.string t,.slice a n cp] _ rfl HZ1.out)
  have HN:=hid (uY k m d t a n cp l (w1.alloc (.cells #[.int .i64 k,.int .i64 m,.string d,.string t,.slice a n cp] 43)) (hE.below (below_one w1 _)) (by omega) hls)
  have HOw:=hid (λW (hb:Below w1.heap.size w1 W)=>kG k m d t a n cp l W (hE.below hb) hn hls hd ht)
  unfold xE at HN
  have HBA:=hid (show∀o:Obj,Below w.heap.size w (w1.alloc o)from λo=>HB1.out.alloc HB1.out.size _)
  clear hyes hno hE hls r0 q0
  cases hrt:ndr k m d t l
  ·rw[hrt]at HN
   have HR2:=hid (show zO s.data.toList=(Nd.none0,2) by rw[HR.out,if_neg];intro h;unfold ndr at hrt;rw[hrt]at h;cases h)
   clear HR hrt
   dsimp only
   go_wp2_with fail
   refine HN.out.mono ?_
   rintro e w2 ⟨rfl,hw2⟩
   have HZ2:=hid ((hw2.block _ (lt_of_obj HA.out.2)).trans HA.out.2)
   have HB2:=hid ((HBA.out _).trans (hw2.mono (HBA.out _).size))
   have hr1:=HZ2.out
   have r0:=yl hr1
   have q0:=xp hr1
   clear hr1 hw2
   dsimp only
   go_wp2_with fail
   refine bodyPost_ret_by (zl rfl _ _ w.heap.size _ _ _ _ _ rfl (set5 _ _ _ _ _ HZ2.out)) rfl ⟨none,0,by rw[HR2.out];rfl,by rw[HR2.out];exact zs _,zI HB2.out (Nat.le_refl _) _ _ _ _ _,vY _⟩
  ·rw[hrt]at HN
   have HR2:=hid (show zO s.data.toList=(⟨k,m,d,t,l⟩,0) by rw[HR.out,if_pos (show Nd.right less Nm.right _=true from hrt)])
   clear HR hrt
   dsimp only
   go_wp2_with fail
   refine HN.out.mono ?_
   rintro e w2 ⟨rfl,hw2⟩
   have HZ2:=hid ((hw2.block _ (lt_of_obj HA.out.2)).trans HA.out.2)
   have HX2:=hid ((hw2.block _ (lt_of_obj HA.out.1)).trans HA.out.1)
   have HB2:=hid ((HBA.out _).trans (hw2.mono (HBA.out _).size))
   have HW2:=hid ((below_one w1 _).trans (hw2.mono (below_one w1 _).size))
   have hx:=HX2.out
   have x0:=yl hx
   clear hx hw2
   dsimp only
   go_wp2_with fail
   refine(HOw.out _ HW2.out).mono ?_
   rintro e w3 ⟨ao,cp3,rfl,hown,hw3⟩
   have HZ3:=hid ((hw3.block _ (lt_of_obj HZ2.out)).trans HZ2.out)
   have HB3:=hid (HB2.out.trans (hw3.mono HB2.out.size))
   have HO3:=hid hown
   have hlt2:=lt_of_obj HZ2.out
   have hr1:=HZ3.out
   have r0:=yl hr1
   have q0:=xp hr1
   clear hr1 hw3 hown x0
   dsimp only
   go_wp2_with fail
   refine bodyPost_ret_by (zl rfl _ _ w.heap.size _ _ _ _ _ rfl (set5 _ _ _ _ _ HZ3.out)) rfl ⟨ao,cp3,by rw[HR2.out];rfl,by rw[HR2.out];exact xy (yj HO3.out hlt2 _ _ _ _ _),zI HB3.out (Nat.le_refl _) _ _ _ _ _,zec (yj HO3.out hlt2 _ _ _ _ _)⟩
def Va(l:List Fs.Item)(k:Int)(w:World)(e:Ending)(w':World):Prop:=
 ∃ea ec,(e= .returned (.tuple #[nv (Fs.nodeD l k).kind (Fs.nodeD l k).mode (Fs.nodeD l k).data (Fs.nodeD l k).target ea (Fs.nodeD l k).ents.length ec,.bool (Fs.node l k).isSome])/\Ents ea (Fs.nodeD l k).ents.length (Fs.nodeD l k).ents w')/\Below w.heap.size w w'/\T85 ea w'
theorem uy{l:List Fs.Item}{k:Int}{W:World}(h:Fs.node l k=none):Ending.returned (.tuple #[.agg #[.int .i64 0,.int .i64 0,.string ⟨#[]⟩,.string ⟨#[]⟩,.slice none 0 0],.bool false])=Ending.returned (.tuple #[nv (Fs.nodeD l k).kind (Fs.nodeD l k).mode (Fs.nodeD l k).data (Fs.nodeD l k).target none (Fs.nodeD l k).ents.length 0,.bool (Fs.node l k).isSome])/\Ents none (Fs.nodeD l k).ents.length (Fs.nodeD l k).ents W:=by
 rw[show Fs.nodeD l k=Nd.none0 from by unfold Fs.nodeD;rw[h];rfl,h]
 exact⟨rfl,zs _⟩
theorem XT{l:List Fs.Item}{k:Int}{x:Nd.Node}{W:World}(h:Fs.node l k=some x){a:Option Addr}{c:Nat}(hE:Ents a x.ents.length x.ents W):Ending.returned (.tuple #[nv x.kind x.mode x.data x.target a x.ents.length c,.bool true])=Ending.returned (.tuple #[nv (Fs.nodeD l k).kind (Fs.nodeD l k).mode (Fs.nodeD l k).data (Fs.nodeD l k).target a (Fs.nodeD l k).ents.length c,.bool (Fs.node l k).isSome])/\Ents a (Fs.nodeD l k).ents.length (Fs.nodeD l k).ents W:=by
 rw[show Fs.nodeD l k=x from Fs.nodeD_of h,h]
 exact⟨rfl,hE⟩
theorem JV(m:Option Nat)(nx:Int)(l:List Fs.Item)(k:Int)(w:World)(h:Sv w m l):Calls prog 109 #[stv m nx,.int .i64 k] w (Va l k w):=by
 have HB:=hid (Bxs.two w #[pv m,.int .i64 nx] 98 #[.int .i64 0,.int .i64 0,.string ⟨#[]⟩,.string ⟨#[]⟩,.slice none 0 0] 43)
 have HZ:=hid (KW w (pv m) (.int .i64 nx) (.int .i64 0) (.int .i64 0) (.string ⟨#[]⟩) (.string ⟨#[]⟩) (.slice none 0 0))
 by_cases hk:k<1
 ·have HR:=hid (h.ok.out (.inl hk))
  clear h
  go_enter func109,ntmps109
  go_wp2_with fail
  refine bodyPost_ret_by (zl rfl _ _ (w.heap.size+1) _ _ _ _ _ rfl HZ.out) rfl ?_
  exact⟨none,0,(uy HR.out),HB.out.below,vY _⟩
 by_cases hk2:2147483647<k
 ·have HR:=hid (h.ok.out (.inr hk2))
  clear h
  go_enter func109,ntmps109
  go_wp2_with fail
  refine bodyPost_ret_by (zl rfl _ _ (w.heap.size+1) _ _ _ _ _ rfl HZ.out) rfl ?_
  exact⟨none,0,(uy HR.out),HB.out.below,vY _⟩
 have HK:=hid (λW=>jv k W (by omega) (by omega))
 have hg:=Uo h (i:=k) (by omega)
 cases hn:Fs.node l k with
 | none=>
  rw[hn]at hg
  have HG:=hid (λW (hb:Below w.heap.size w W)=>K6 (h.rp.below hb) (Fs.key k) hg)
  have HR:=hid hn
  clear hn hg h HZ
  go_enter func109,ntmps109
  go_wp2_with fail
  generalize (w.alloc (.cells #[pv m,.int .i64 nx] 98)).alloc (.cells #[.int .i64 0,.int .i64 0,.string ⟨#[]⟩,.string ⟨#[]⟩,.slice none 0 0] 43)=W0 at HB|-
  have HSx:=hid (show∀W,Below W0.heap.size W0 W->W.cell? ⟨w.heap.size,0,none⟩=some (pv m)/\Below W0.heap.size W0 W from λW hb=>⟨(HB.out.kept hb).cell 0 rfl 0,hb⟩)
  have HWt:=hid (show∀W,Below W0.heap.size W0 W->Below w.heap.size w W from λW hb=>HB.out.below.trans (hb.mono HB.out.below.size))
  have hBd:=(Below.refl W0.heap.size W0).drew
  go_wp2_with fail
  go_region_held3 (λW=>W.cell? ⟨w.heap.size,0,none⟩=some (pv m)/\Below W0.heap.size W0 W)
   (first|exact HSx.out _ (by assumption))
   (first
   |(go_at_call 90;(with_reducible refine(HK.out _).mono ?_);rintro e w2 ⟨rfl,hw2⟩;have hb2:=T8.btrans hw2 (by assumption))
   |(go_at_call 120;(with_reducible refine(HG.out _ (HWt.out _ (by assumption))).mono ?_);rintro e w3 ⟨rfl,hw3⟩;have hb3:=T8.btrans hw3 (by assumption)))
  have HB:=hid (HB.out.kept hb3)
  clear hb3 hb2 hw2 hw3 hBd
  go_wp2_with (first|(refine zb HB.out 1 rfl 43 _ _ rfl rfl #[.int .i64 0,.int .i64 0,.string ⟨#[]⟩,.string ⟨#[]⟩,.slice none 0 0] rfl rfl (by kernel_rfl) rfl rfl (by decide) (by decide) ?_;intro w9 hS hK9 hbS hsS;have HBS:=hid hS;clear hS hK9 hbS hsS)|fail)
  refine bodyPost_ret_by (zl rfl _ _ (w.heap.size+1) _ _ _ _ _ rfl (HBS.out.obj 1 rfl)) rfl ?_
  exact⟨none,0,(uy HR.out),HBS.out.below,vY _⟩
 | some x=>
  rw[hn]at hg
  have hx:=h.ok.node hn
  have hts:=uM hx.1
  have HG:=hid (λW (hb:Below w.heap.size w W)=>yq (h.rp.below hb) (Fs.key k) (Fs.txt x) hg)
  have HPa:=hid (show∀W,Calls prog 121 #[.string (Fs.txt x)] W (zd3 (x,0) W)from λW=>js hx.1▸JO (Fs.txt x) W (by omega))
  have HR:=hid hn
  clear hn hg h HZ hx hts
  generalize Fs.txt x=tx at*
  obtain⟨q,mo,d,u,es⟩:=x
  go_enter func109,ntmps109
  go_wp2_with fail
  generalize (w.alloc (.cells #[pv m,.int .i64 nx] 98)).alloc (.cells #[.int .i64 0,.int .i64 0,.string ⟨#[]⟩,.string ⟨#[]⟩,.slice none 0 0] 43)=W0 at HB|-
  have HSx:=hid (show∀W,Below W0.heap.size W0 W->W.cell? ⟨w.heap.size,0,none⟩=some (pv m)/\Below W0.heap.size W0 W from λW hb=>⟨(HB.out.kept hb).cell 0 rfl 0,hb⟩)
  have HWt:=hid (show∀W,Below W0.heap.size W0 W->Below w.heap.size w W from λW hb=>HB.out.below.trans (hb.mono HB.out.below.size))
  have hBd:=(Below.refl W0.heap.size W0).drew
  go_wp2_with fail
  go_region_held3 (λW=>W.cell? ⟨w.heap.size,0,none⟩=some (pv m)/\Below W0.heap.size W0 W)
   (first|exact HSx.out _ (by assumption))
   (first
   |(go_at_call 90;(with_reducible refine(HK.out _).mono ?_);rintro e w2 ⟨rfl,hw2⟩;have hb2:=T8.btrans hw2 (by assumption))
   |(go_at_call 120;(with_reducible refine(HG.out _ (HWt.out _ (by assumption))).mono ?_);rintro e w3 ⟨rfl,hw3⟩;have hb3:=T8.btrans hw3 (by assumption)))
  have HB:=hid (HB.out.kept hb3)
  clear hb3 hb2 hw2 hw3 hBd
  go_wp2_with fail
  refine(HPa.out _).mono ?_
  rintro e w4 ⟨a,c,rfl,hE,hb,hT⟩
  have HB:=hid (show Bxs w _ (w4.alloc (.cells #[.int .i64 q,.int .i64 mo,.string d,.string u,.slice a es.length c] 43))from(HB.out.kept hb).more _ _ rfl)
  have HT:=hid (hT.below (below_one w4 (.cells #[.int .i64 q,.int .i64 mo,.string d,.string u,.slice a es.length c] 43)))
  have HE:=hid (hE.below (below_one w4 (.cells #[.int .i64 q,.int .i64 mo,.string d,.string u,.slice a es.length c] 43)))
  clear hE hb hT
  dsimp only
  go_wp2_with (first|(refine zb HB.out 1 rfl 43 _ _ rfl rfl #[.int .i64 q,.int .i64 mo,.string d,.string u,.slice a es.length c] rfl rfl (by kernel_rfl) rfl rfl (by decide) (by decide) ?_;intro w9 hS hK9 hbS hsS;have HBS:=hid hS;have HK9:=hid hK9;clear hS hK9 hbS hsS)|fail)
  have HEn:=hid (HK9.out.ents (HB.out.obj 1 rfl) (jt _ _ _ _ _ _ _) HE.out)
  refine bodyPost_ret_by (zl rfl _ _ (w.heap.size+1) _ _ _ _ _ rfl (HBS.out.obj 1 rfl)) rfl ?_
  exact⟨a,c,XT HR.out HEn.out,HBS.out.below,HK9.out.t85 (by decide) HT.out⟩
theorem JG{g:Nat}{f:Fs.FS}{w:World}(h:Fo w g f)(k0:Int):Calls prog 61 #[ptg g,.int .i64 k0] w (Va f.l k0 w):=by
 obtain⟨m,hg,hS⟩:=h
 obtain⟨l,nx⟩:=f
 dsimp only at hg hS|-
 have HG:=hid hg
 have HF:=hid (λW (hb:Below w.heap.size w W)=>JV m nx l k0 W (hS.below hb))
 clear hg hS
 unfold Va at HF|-
 generalize (Fs.node l k0).isSome=there at*
 generalize Fs.nodeD l k0=x at*
 obtain⟨k,mo,d,t,es⟩:=x
 dsimp only at HF|-
 have HB:=hid (show Bxs w [(w.heap.size,#[.int .i64 0,.int .i64 0,.string ⟨#[]⟩,.string ⟨#[]⟩,.slice none 0 0],43)] (w.alloc (.cells #[.int .i64 0,.int .i64 0,.string ⟨#[]⟩,.string ⟨#[]⟩,.slice none 0 0] 43))from Bxs.one w _ _)
 have hgW:=(HB.out.below.block _ (lt_of_obj HG.out)).trans HG.out
 have g0:=zn hgW
 clear hgW
 go_enter func61,ntmps61
 go_wp2_with fail
 clear g0
 generalize w.alloc (.cells #[.int .i64 0,.int .i64 0,.string ⟨#[]⟩,.string ⟨#[]⟩,.slice none 0 0] 43)=W0 at HB|-
 refine(HF.out W0 HB.out.below).mono ?_
 rintro e w1 ⟨a,c,⟨rfl,hE⟩,hb,hT⟩
 have hbk:=hb
 have HEn:=hid hE
 have HT:=hid hT
 clear hE hT
 have HB:=hid (HB.out.kept hbk)
 clear hbk
 dsimp only
 go_wp2_with (first|(refine zb HB.out 0 rfl 43 _ _ rfl rfl #[.int .i64 k,.int .i64 mo,.string d,.string t,.slice a es.length c] rfl rfl (by kernel_rfl) rfl rfl (by decide) (by decide) ?_;intro w2 hS hK hbS hsS;have HBS:=hid hS;have HEn:=hid (hK.ents (HB.out.obj 0 rfl) (jt _ _ _ _ _ _ _) HEn.out);have HT:=hid (hK.t85 (by decide) HT.out);clear hS hK hbS hsS;have HB:=HBS;clear HBS)|fail)
 refine bodyPost_ret_by (zl rfl _ _ w.heap.size _ _ _ _ _ rfl (HB.out.obj 0 rfl)) rfl ?_
 exact⟨a,c,⟨rfl,HEn.out⟩,HB.out.below,HT.out⟩
end Go.Proofs.YtabmamofnhcgbaaGreatDoor
namespace Go.Proofs.YtabmamofnhcgbaaGreatDoor
open Go.RowKit Go.Less Go.Maps
open T8 (pv Dg)
attribute [local go_sem 9000] zg zf
structure Lb (w:World) (nx:Int) (L:List MI) (u v:Value) (W:World):Prop where
 res:W.heap[w.heap.size]?=some (.cells #[.slice none 0 0,.int .i64 0] 29 (0,0))
 out:W.heap[w.heap.size+1]?=some (.cells #[u,.int .i64 nx] 29 (0,0))
 own:vm (w.heap.size+2) v L W
 big:w.heap.size+2<=W.heap.size
 below:Below w.heap.size w W
section
variable {w : World} {nx : Int} {L : List MI} {u v : Value} {W : World}
theorem zcN(w:World)(nx:Int):Lb w nx [] (.slice none 0 0) (.slice none 0 0) ((w.alloc (.cells #[.slice none 0 0,.int .i64 0] 29)).alloc (.cells #[.slice none 0 0,.int .i64 nx] 29)):=by
 have b0:=below_one w (.cells #[.slice none 0 0,.int .i64 0] 29)
 have b1:=below_one (w.alloc (.cells #[.slice none 0 0,.int .i64 0] 29)) (.cells #[.slice none 0 0,.int .i64 nx] 29)
 have z1:(w.alloc (.cells #[.slice none 0 0,.int .i64 0] 29)).heap.size=w.heap.size+1:=yw _ _
 have k0:=heap_alloc_new w (.cells #[.slice none 0 0,.int .i64 0] 29)
 have k1:=heap_alloc_new (w.alloc (.cells #[.slice none 0 0,.int .i64 0] 29)) (.cells #[.slice none 0 0,.int .i64 nx] 29)
 rw[z1]at k1
 exact⟨(b1.block _ (lt_of_obj k0)).trans k0,k1,ZK _ _,by rw[yw,z1];exact Nat.le_refl _,b0.trans (b1.mono (by rw[z1];omega))⟩
theorem Lb.kept(h:Lb w nx L u v W){W':World}(hb:Below W.heap.size W W'):Lb w nx L u v W':=
 ⟨(hb.block _ (lt_of_obj h.res)).trans h.res,(hb.block _ (lt_of_obj h.out)).trans h.out,vH h.own hb,Nat.le_trans h.big hb.size,h.below.trans (hb.mono h.below.size)⟩
theorem Lb.more(h:Lb w nx L u v W){W4:World}{v4:Value}{x:MI}(hg:W.grownBy W4 v.ownBlock)(hown:vm (w.heap.size+2) v4 (L++[x]) W4):Lb w nx (L++[x]) u v4 W4:=by
 have big:=h.big
 have hne: ∀y,y<w.heap.size+2->some y≠v.ownBlock:=λy hy e=>by have:=owns_lt h.own y e.symm;omega
 have hs:W.heap.size<=W4.heap.size:=hg.size
 have keep: ∀{b:Nat} {q:Obj},W.heap[b]?=some q->b<w.heap.size+2->W4.heap[b]?=some q:=λhb hl=>grown_obj hg hb (hne _ hl)
 exact⟨keep h.res (by omega),keep h.out (by omega),hown,by omega,h.below.grown hg h.below.size (λj hj=>by have:=owns_lt h.own j hj;omega)⟩
theorem Lb.store(h:Lb w nx L u v W):Lb w nx L v v (W.setCell ⟨w.heap.size+1,0,none⟩ v):=by
 have hs:=heap_setCell_same W (w.heap.size+1) 0 _ 29 v h.out
 refine⟨(heap_setCell_other W ⟨w.heap.size+1,0,none⟩ _ _ (by show w.heap.size≠w.heap.size+1;omega)).trans h.res,by simpa using hs,xz h.own (by omega) 0 v, ?_,h.below.setCell (by show w.heap.size<=w.heap.size+1;omega) v⟩
 have:=h.big
 simpa[World.setCell] using this
theorem Zf(a:Option Addr)(n c:Nat)(nx:Int):Xp #[.slice a n c,.int .i64 nx]:=λj s i h0 h1=>by
 match j with
 |0=>cases h0
 |1=>cases h0
 |j+2=>simp at h0
theorem Z7{g:Nat}{a:Option Addr}{n c:Nat}{m:Int}(hg:W.heap[g]?=some (.cells #[.slice a n c,.int .i64 m] 29 (0,0)))(k:Nat)(y:Value){b:Option Addr}{q:Nat}{es:List En}(hE:Ents b q es W):Ents b q es (W.setCell ⟨g,k,none⟩ y):=
 (Kept.cell hg (by decide) (by decide) k y).ents hg (Zf _ _ _ _) hE
theorem Lb.fin{M:List MI}{l:List Fs.Item}{ao:Option Addr}{cp q:Nat}(h:Lb w nx M u (.slice ao q cp) W)(hq:q=M.length)(hl:its M=l)(hE: ∀y∈M,Ents y.ea y.x.ents.length y.x.ents W):
  FsR l nx w (.returned (.agg #[.slice ao q cp,.int .i64 nx])) ((W.setCell ⟨w.heap.size,0,none⟩ (.slice ao q cp)).setCell ⟨w.heap.size,1,none⟩ (.int .i64 nx)):=by
 subst hq
 have hb:=(h.below.setCell (p:=⟨w.heap.size,0,none⟩) (Nat.le_refl _) (.slice ao M.length cp)).setCell (p:=⟨w.heap.size,1,none⟩) (Nat.le_refl _) (.int .i64 nx)
 have h1:=heap_setCell_same W w.heap.size 0 _ 29 (.slice ao M.length cp) h.res
 exact⟨ao,cp,M,hl,rfl,jV (xz (xz h.own (by omega) 0 _) (by omega) 1 _) (λy hy=>Z7 (by simpa using h1) 1 _ (Z7 h.res 0 _ (hE y hy))),hb⟩
theorem Jr{b1 b2 s1 s2 n1 n2:Nat}{e1 e2:TypeId}{v1 v2:Value}{x1 x2:List Value}(h1:W.ownsRow b1 e1 s1 v1 n1 x1)(h2:W.ownsRow b2 e2 s2 v2 n2 x2)(hne:e1≠e2):v1.ownBlock=none\/v1.ownBlock≠v2.ownBlock:=by
 obtain⟨_,⟨rfl,_⟩|⟨g,cap,cur,rfl,_,hg,_⟩⟩:=h1
 ·exact .inl rfl
 ·obtain⟨_,⟨rfl,_⟩|⟨g2,cap2,cur2,rfl,_,hg2,_⟩⟩:=h2
  ·exact .inr (λe=>by cases e)
  ·refine .inr (λe=> ?_)
   injection e with e
   have e:g=g2:=e
   subst e
   rw[hg]at hg2
   injection hg2 with hg2
   injection hg2 with _ h _
   exact hne h
theorem Z6{W4:World}{base n1 s1:Nat}{e1:TypeId}{x1:List Value}(hown:W.ownsRow base e1 s1 v n1 x1)(h85:e1≠132)(hg:W.grownBy W4 v.ownBlock){a:Option Addr}{n:Nat}{es:List En}(hE:Ents a n es W)(hT:T85 a W):Ents a n es W4/\T85 a W4:=by
 have key: ∀b off s,a=some ⟨b,off,s⟩->W4.heap[b]?=W.heap[b]?:=λb off s e=>by
  obtain⟨cs,fr,hc⟩:=hT b off s e
  refine hg.block b (lt_of_obj hc) (λe2=> ?_)
  obtain⟨_,⟨rfl,_⟩|⟨g,cap,cur,rfl,_,hgc,_⟩⟩:=hown
  ·cases e2
  ·injection e2 with e2
   have e2:b=g:=e2
   subst e2
   rw[hc]at hgc
   injection hgc with hgc
   injection hgc with _ h _
   exact h85 h.symm
 refine⟨⟨hE.count,λi hi=> ?_⟩,λb off s e=> ?_⟩
 ·obtain⟨b,off,rfl,h0,h1⟩:=hE.cell i hi
  have hk:=key b off none rfl
  refine⟨b,off,rfl, ?_, ?_⟩
  ·rw[<-h0];simp only[World.cell?,hk]
  ·rw[<-h1];simp only[World.cell?,hk]
 ·obtain⟨cs,fr,hc⟩:=hT b off s e
  exact⟨cs,fr,(key b off s e).trans hc⟩
structure Oz (w:World) (nx:Int) (ib:Nat) (iv:Value) (il:List Int) (M:List MI) (u v:Value) (W:World):Prop where
 lb:Lb w nx M u v W
 ir:kT ib iv il W
 ilo:w.heap.size+2<=ib
 en: ∀y∈M,Ents y.ea y.x.ents.length y.x.ents W/\T85 y.ea W
variable {ib : Nat} {iv : Value} {il : List Int} {M : List MI}
theorem Oz.kept(h:Oz w nx ib iv il M u v W){W':World}(hb:Below W.heap.size W W'):Oz w nx ib iv il M u v W':=
 ⟨h.lb.kept hb,owned_below h.ir hb,h.ilo,λy hy=>⟨(h.en y hy).1.below hb,(h.en y hy).2.below hb⟩⟩
theorem Oz.more(h:Oz w nx ib iv il M u v W){W4:World}{v4:Value}{x:MI}(hx:Ents x.ea x.x.ents.length x.x.ents W/\T85 x.ea W)(hg:W.grownBy W4 v.ownBlock)(hown:vm (w.heap.size+2) v4 (M++[x]) W4):Oz w nx ib iv il (M++[x]) u v4 W4:=
 ⟨h.lb.more hg hown,World.ownsRow.kept h.ir hg (Jr h.ir h.lb.own (by decide)),h.ilo,λy hy=>by
  rcases List.mem_append.1 hy with hy|hy
  ·exact Z6 h.lb.own (by decide) hg (h.en y hy).1 (h.en y hy).2
  ·rw[List.mem_singleton.1 hy];exact Z6 h.lb.own (by decide) hg hx.1 hx.2⟩
theorem Oz.store(h:Oz w nx ib iv il M u v W){a:Option Addr}{n c:Nat}(hu:u= .slice a n c):Oz w nx ib iv il M v v (W.setCell ⟨w.heap.size+1,0,none⟩ v):=by
 subst hu
 have hk:=Kept.cell h.lb.out (by decide) (by decide) 0 v
 refine⟨h.lb.store, ?_,h.ilo,λy hy=>⟨Z7 h.lb.out 0 v (h.en y hy).1,hk.t85 (by decide) (h.en y hy).2⟩⟩
 refine World.ownsRow.kept h.ir (⟨rfl,rfl,rfl,by simp[World.setCell],λj hj hne=>heap_setCell_other W ⟨w.heap.size+1,0,none⟩ j _ (λe=>hne (by rw[e]))⟩:W.grownBy (W.setCell ⟨w.heap.size+1,0,none⟩ v) (some (w.heap.size+1))) (.inr λe=> ?_)
 have:=owns_lt h.ir _ e
 have:=h.ilo
 omega
end
theorem zau{g:Nat}{f:Fs.FS}{w:World}(h:Fo w g f):Calls prog 14 #[ptg g] w (FsR f.l f.next w):=by
 have hok:Okl f.l:=by obtain⟨m,_,hS⟩:=h;exact hS.ok
 have HIn:=hid (λW (hb:Below w.heap.size w W)=>qg (h.below hb))
 have HNx:=hid (λW (hb:Below w.heap.size w W)=>jq (h.below hb))
 have HNd:=hid (λW y (hy:y∈f.l) (hb:Below w.heap.size w W)=>(show Calls prog 61 #[ptg g,.int .i64 y.1] W (λe w'=> ∃ea ec,e= .returned (.tuple #[nv y.2.kind y.2.mode y.2.data y.2.target ea y.2.ents.length ec,.bool true])/\Ents ea y.2.ents.length y.2.ents w'/\T85 ea w'/\Below W.heap.size W w')from
  (JG (h.below hb) y.1).mono λe w' h=>by
   have hn:=Fs.node_at hok.inos (show(y.1,y.2)∈f.l from hy)
   obtain⟨ea,ec,⟨h1,h2⟩,h3,h4⟩:=h
   rw[hn,Fs.nodeD_of hn]at h1
   rw[Fs.nodeD_of hn]at h2
   exact⟨ea,ec,h1,h2,h4,h3⟩))
 have hlen:(zx f.l).length=f.l.length:=by unfold zx;rw[List.length_map]
 have hfew:=hok.few
 obtain⟨l,nx⟩:=f
 dsimp only at HIn HNx HNd hlen hfew|-
 obtain⟨n,hn⟩: ∃n,n=(zx l).length:=⟨_,rfl⟩
 have HN:=hid (hn.trans hlen)
 have hn3:n<=1000:=by omega
 have hni:(n:Int)<=1000:=by omega
 have HAt:=hid (λ(j:Nat) (y:Fs.Item) (hy:l[j]?=some y)=>(show(zx l).getD j 0=y.1 by unfold zx;rw[List.getD,List.getElem?_map,hy];rfl))
 have HIl:=hid (show(zx l).length=n from hn.symm)
 unfold Yl at HIn
 rw[<-hn]at HIn
 generalize zx l=il at*
 have HL:=hid (zcN w nx)
 have HB1:=hid (below_one w (.cells #[.slice none 0 0,.int .i64 0] 29))
 clear h hok hlen hfew hn
 go_enter func14,ntmps14
 go_wp2_with fail
 refine(HNx.out _ HB1.out).mono ?_
 rintro e w1 ⟨rfl,rfl⟩
 dsimp only
 go_wp2_with fail
 refine(HIn.out _ HL.out.below).mono ?_
 rintro e w2 ⟨ao,cap,rfl,hI,hb⟩
 have HZ:=hid (show Oz w nx _ (.slice ao n cap) il [] (.slice none 0 0) (.slice none 0 0) w2 from⟨HL.out.kept hb,hI,HL.out.big,λy hy=>by cases hy⟩)
 clear hI hb
 dsimp only
 go_wp2_with fail
 go_loopw [5] (λx5 wr=> ∃(j:Nat) (M:List MI) (v:Value),j<=n/\x5= .int .i64 j/\its M=l.take j/\Oz w nx (((w.alloc (.cells #[.slice none 0 0,.int .i64 0] 29)).alloc (.cells #[.slice none 0 0,.int .i64 nx] 29)).heap.size) (.slice ao n cap) il M v v wr) (λx5 _=>n-(intOf x5).toNat)
 case atStart=>exact⟨0,[],_,Nat.zero_le _,rfl,rfl,HZ.out⟩
 case round=>
  clear HZ HL HB1 HIn HNx
  obtain⟨j,M,v,hj,rfl,hM,hZ⟩:=hrel
  have HMl:=hid hM
  have HZ:=hid hZ
  obtain⟨a0,c0,rfl⟩:=owns_form hZ.lb.own
  clear hM hZ
  by_cases hlt:j<n
  ·have j0:(j:Int)<(n:Int):=by omega
   have hj0:(0:Int)<=(j:Int):=by omega
   obtain⟨y,hy⟩: ∃y,l[j]?=some y:=⟨_,List.getElem?_eq_getElem (by rw[<-HN.out];exact hlt)⟩
   have hI:=jw HZ.out.ir HIl.out.symm
   obtain⟨b,off,rfl,hc⟩:=hI.cell j hlt
   rw[HAt.out j y hy]at hc
   have HC:=hid (HNd.out wr y (List.mem_of_getElem? hy) HZ.out.lb.below)
   have HT:=hid (zw hy)
   have HAy:=hid (HAt.out j y hy)
   obtain⟨yi,⟨yk,ym,yd,yt,ye⟩⟩:=y
   dsimp only at hc HC HAy
   clear hI hy
   go_wp2_with fail
   refine HC.out.mono ?_
   rintro e w3 ⟨ea,ec,rfl,hE,hT,hb⟩
   have hbx:=below_one w3 (.cells #[.int .i64 yk,.int .i64 ym,.string yd,.string yt,.slice ea ye.length ec] 43)
   have HZ:=hid (HZ.out.kept (hb.trans (hbx.mono hb.size)))
   have HEn:=hid (show Ents ea ye.length ye _/\T85 ea _ from⟨hE.below hbx,hT.below hbx⟩)
   have HX:=hid (show(w3.alloc (.cells #[.int .i64 yk,.int .i64 ym,.string yd,.string yt,.slice ea ye.length ec] 43)).heap[w3.heap.size]?=some (.cells #[.int .i64 yk,.int .i64 ym,.string yd,.string yt,.slice ea ye.length ec] 43 (0,0))from heap_alloc_new _ _)
   clear hb hbx hE hT hc
   dsimp only
   go_wp2_with fail
   generalize w3.alloc (.cells #[.int .i64 yk,.int .i64 ym,.string yd,.string yt,.slice ea ye.length ec] 43)=W1 at HZ HEn HX|-
   obtain⟨X,hX⟩: ∃X:MI,X=⟨(yi,⟨yk,ym,yd,yt,ye⟩),ea,ec⟩:=⟨_,rfl⟩
   have hA:=below_one W1 (.cells #[.int .i64 yi,.int .i64 yk,.int .i64 ym,.string yd,.string yt,.slice ea ye.length ec] 70)
   have HZ2:=hid (HZ.out.kept hA.drew)
   have HEx:=hid (show Ents X.ea X.x.ents.length X.x.ents (W1.alloc (.cells #[.int .i64 yi,.int .i64 yk,.int .i64 ym,.string yd,.string yt,.slice ea ye.length ec] 70)).drew/\T85 X.ea (W1.alloc (.cells #[.int .i64 yi,.int .i64 yk,.int .i64 ym,.string yd,.string yt,.slice ea ye.length ec] 70)).drew by rw[hX];exact⟨HEn.out.1.below hA.drew,HEn.out.2.below hA.drew⟩)
   have HN2:=hid (show(W1.alloc (.cells #[.int .i64 yi,.int .i64 yk,.int .i64 ym,.string yd,.string yt,.slice ea ye.length ec] 70)).drew.heap[W1.heap.size]?=some (.cells (yG X).toArray 70 (0,0)) by rw[hX];exact heap_alloc_new W1 _)
   have HLn:=hid (show M.length<=1000000 by have:=congrArg List.length HMl.out;simp only[its,List.length_map,List.length_take]at this;omega)
   have HSz:=hid (Nat.le_trans HZ.out.lb.big hA.size)
   have HXi:=hid (show its (M++[X])=l.take (j+1) by rw[HT.out,<-HMl.out,hX];simp[its])
   have hf: ∀W,Below W1.heap.size W1 W->W.cell? ⟨w.heap.size+1,0,none⟩=some (.slice a0 M.length c0)/\W.cell? ⟨b,off+j,none⟩=some (.int .i64 yi):=λW hb=>by
    refine⟨cell_obj (HZ.out.kept hb).lb.out 0, ?_⟩
    obtain⟨b2,o2,e2,hc⟩:=(jw (HZ.out.kept hb).ir HIl.out.symm).cell j hlt
    injection e2 with e2
    injection e2 with e2 e3 _
    subst e2 e3
    rw[hc,HAy.out]
   have o0:=hf _ (Below.refl _ _)
   have o3:=hf _ hA
   have x0:=cell_obj HX.out 0
   have x1:=cell_obj HX.out 1
   have x2:=cell_obj HX.out 2
   have x3:=cell_obj HX.out 3
   have x4:=cell_obj HX.out 4
   clear hX hA hf HZ HEn HX
   go_region_law (first|(refine kW rfl _ _ rfl (w.heap.size+2) _ M (by rfl) HZ2.out.lb.own W1.heap.size X (by rfl) HN2.out HLn.out HSz.out ?_;intro ao4 cap4 w4 hown4 hgrow4;have HG4:=hid (HZ2.out.more HEx.out hgrow4 (by simpa[vm] using hown4));clear hown4 hgrow4;have o1:=cell_obj HG4.out.lb.out 0;have o2:=free_obj HG4.out.lb.out 0)|fail)
   all_goals
    go_wp2_with fail
    go_roundw
    case rel=>exact⟨j+1,M++[X],.slice ao4 (M.length+1) cap4,by omega,by go_num,HXi.out,HG4.out.store rfl⟩
    case measure=>simp[intOf];omega
  ·obtain rfl:j=n:=by omega
   have hge: ¬ ((j:Int)<(j:Int)):=by omega
   have o0:=cell_obj HZ.out.lb.out 0
   have o1:=cell_obj HZ.out.lb.out 1
   have r0:=cell_obj HZ.out.lb.res 0
   have r1:=cell_obj HZ.out.lb.res 1
   have q0:=zH HZ.out.lb.res
   have hT:l.take j=l:=by rw[HN.out,List.take_length]
   have HMl:=hid (HMl.out.trans hT)
   clear hT
   go_wp2_with fail
   refine bodyPost_ret_by (yX rfl _ _ w.heap.size _ _ rfl (set2 _ _ HZ.out.lb.res)) rfl ?_
   exact HZ.out.lb.fin rfl HMl.out (λy hy=>(HZ.out.en y hy).1)
end Go.Proofs.YtabmamofnhcgbaaGreatDoor
