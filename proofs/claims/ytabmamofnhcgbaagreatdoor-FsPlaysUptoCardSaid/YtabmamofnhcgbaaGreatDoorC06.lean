/- A part of the proofs. -/
import Derived.Lib.Strings
import Derived.Laws.StructEq
import Derived.Laws.ResultCell
import Derived.Laws.Rows
import Derived.Test.YtabmamofnhcgbaaGreatDoorC05
set_option maxRecDepth 1000000
set_option maxHeartbeats 16000000
open Go.Lib (hid)
open Go.Proofs.Tryz
namespace Go.Proofs.YtabmamofnhcgbaaGreatDoor
open Go.RowKit Go.Less
attribute [local go_sem 9000] zg zf zz zA zB zC
abbrev En:=Nd.En
def zv(x:En):List Value:=[.string x.1,.int .i64 x.2]
def zq(l:List En):List Value:=l.flatMap zv
theorem zJ(l:List En):(zq l).length=l.length*2:=by
 induction l with
 |nil=>rfl
 |cons x l ih=>simp[zq,zv]at ih|-;omega
theorem xY(a b:List En):zq (a++b)=zq a++zq b:=by simp[zq]
abbrev z0:En:=(⟨#[]⟩,0)
theorem Uw(l:List En)(i j:Nat)(hi:i<l.length)(hj:j<2):(zq l)[i*2+j]?=(zv (l.getD i z0))[j]?:=by
 induction l generalizing i with
 |nil=>cases hi
 | cons x l ih=>
  have e:zq (x::l)=zv x++zq l:=rfl
  rw[e]
  have hl:(zv x).length=2:=rfl
  cases i with
  |zero=>
   rw[List.getElem?_append_left (by rw[hl];omega)]
   simp[List.getD]
  |succ i=>
   rw[List.getElem?_append_right (by rw[hl];omega),hl,show(i+1)*2+j-2=i*2+j by omega,ih i (by simpa using hi)]
   simp[List.getD]
structure Ents (a:Option Addr) (n:Nat) (l:List En) (w:World):Prop where
 count:n=l.length
 cell: ∀i,i<n-> ∃b off,a=some ⟨b,off,none⟩/\w.cell? ⟨b,off+i*2,none⟩=some (.string (l.getD i z0).1)/\w.cell? ⟨b,off+i*2+1,none⟩=some (.int .i64 (l.getD i z0).2)
theorem Ents.below{a:Option Addr}{n:Nat}{l:List En}{w w':World}(h:Ents a n l w)(hb:Below w.heap.size w w'):Ents a n l w':=
 ⟨h.count,λi hi=>by
  obtain⟨b,off,rfl,h0,h1⟩:=h.cell i hi
  have hl:=block_lt_of_cell h0
  exact⟨b,off,rfl,(hb.cell (p:=⟨b,off+i*2,none⟩) hl).trans h0,(hb.cell (p:=⟨b,off+i*2+1,none⟩) hl).trans h1⟩⟩
theorem xy{base:Nat}{a:Option Addr}{n cap:Nat}{l:List En}{w:World}(h:w.ownsRow base 132 2 (.slice a n cap) n (zq l)):Ents a n l w:=by
 have hn:n=l.length:=by have:=h.1;rw[zJ]at this;omega
 refine⟨hn,λi hi=> ?_⟩
 have h2:=h
 obtain⟨hl,⟨e,h0⟩|⟨g,cap',cur,e,_⟩⟩:=h
 ·omega
 ·injection e with e1 e2 e3
  subst e1
  subst e3
  refine⟨g,0,rfl, ?_, ?_⟩
  ·rw[Nat.zero_add,World.ownsRow.cellAt h2 (i*2) (by omega)]
   have:=Uw l i 0 (by omega) (by omega)
   rw[Nat.add_zero]at this
   rw[this];rfl
  ·rw[Nat.zero_add,World.ownsRow.cellAt h2 (i*2+1) (by omega),Uw l i 1 (by omega) (by omega)];rfl
abbrev nv(k m:Int)(d t:ByteArray)(a:Option Addr)(n cap:Nat):Value:= .agg #[.int .i64 k,.int .i64 m,.string d,.string t,.slice a n cap]
theorem yo{α:Type}{l:List α}{i:Nat}(h:i<l.length)(z:α):l.take (i+1)=l.take i++[l.getD i z]:=by
 rw[List.take_succ_eq_append_getElem h];simp[List.getD,List.getElem?_eq_getElem h]
theorem q8{pre:List En}{x:En}{k:ByteArray}(h:Nd.find pre k=none)(hx:x.1≠k)(post:List En):Nd.find (pre++x::post) k=Nd.find post k:=by
 induction pre with
 |nil=>rw[List.nil_append,Nd.find,if_neg hx]
 |cons y pre ih=>
  have hy:y.1≠k:=Nd.find_none.1 h y List.mem_cons_self
  have hp:Nd.find pre k=none:=by unfold Nd.find at h;rwa [if_neg hy]at h
  rw[List.cons_append,Nd.find,if_neg hy,ih hp]
theorem Z3{pre:List En}{x:En}{k:ByteArray}(h:Nd.find pre k=none)(hx:x.1=k)(post:List En):Nd.find (pre++x::post) k=some x.2:=by
 induction pre with
 |nil=>rw[List.nil_append,Nd.find,if_pos hx]
 |cons y pre ih=>
  have hy:y.1≠k:=Nd.find_none.1 h y List.mem_cons_self
  have hp:Nd.find pre k=none:=by unfold Nd.find at h;rwa [if_neg hy]at h
  rw[List.cons_append,Nd.find,if_neg hy,ih hp]
theorem U6{l:List En}{i:Nat}(h:i<l.length):l=l.take i++l.getD i z0::l.drop (i+1):=by
 conv=>lhs;rw[<-List.take_append_drop i l]
 rw[List.drop_eq_getElem_cons h]
 simp[List.getD,List.getElem?_eq_getElem h]
def vS(l:List En)(k:ByteArray)(w:World)(e:Ending)(w':World):Prop:=e= .returned (.tuple #[.int .i64 ((Nd.find l k).getD 0),.bool (Nd.find l k).isSome])/\Below w.heap.size w w'
theorem uS(k m:Int)(d t:ByteArray)(a:Option Addr)(n cap:Nat)(l:List En)(nm:ByteArray)(w:World)(hE:Ents a n l w)(hn:n<=1000000):
  Calls prog 91 #[nv k m d t a n cap,.string nm] w (vS l nm w):=by
 have hnl:=hE.count
 have hni:(n:Int)<=1000000:=by omega
 have HE:=hid (λW (hb:Below w.heap.size w W)=>hE.below hb)
 have HNL:=hid hnl
 clear hE hnl
 go_enter func91,ntmps91
 go_wp2_with fail
 go_loopw [6] (λi wr=>(∃j:Nat,j<=n/\i= .int .i64 j/\Nd.find (l.take j) nm=none)/\wr.cell? ⟨w.heap.size,4,none⟩=some (.slice a n cap)/\Below w.heap.size w wr) (λi _=>n-(intOf i).toNat)
 case atStart=>exact⟨⟨0,Nat.zero_le _,rfl,rfl⟩,by simp,(Below.refl _ w).alloc (Nat.le_refl _) _⟩
 case round=>
  obtain⟨⟨j,hj,rfl,hf⟩,hc,hb⟩:=hrel
  by_cases hlt:j<n
  ·have j0:(j:Int)<(n:Int):=by omega
   have hj0:(0:Int)<=(j:Int):=by omega
   obtain⟨b,off,rfl,c0,c1⟩:=(HE.out _ hb).cell j hlt
   have hsp:=U6 (l:=l) (i:=j) (by rw[<-HNL.out];exact hlt)
   obtain⟨x,hxe⟩: ∃x,x=l.getD j z0:=⟨_,rfl⟩
   have HT:=hid (show l.take (j+1)=l.take j++[x] by rw[yo (by rw[<-HNL.out];exact hlt) z0,<-hxe])
   rw[<-hxe]at c0 c1 hsp
   clear hxe
   cases hx:alike x.1 nm
   ·have HR:=hid (show Nd.find (l.take (j+1)) nm=none by
     rw[HT.out,q8 hf (λe=>by rw[alike_eq.2 e]at hx;cases hx) []]
     rfl)
    have HB:=hid hb
    clear hf hsp hb
    go_wp2_with fail
    exact⟨⟨⟨j+1,by omega,by go_num,HR.out⟩,hc,HB.out⟩,by simp[intOf];omega⟩
   ·have HR:=hid (show Nd.find l nm=some x.2 from(congrArg (Nd.find · nm) hsp).trans (Z3 hf (alike_eq.1 hx) _))
    have HB:=hid hb
    clear hf hsp hb
    go_wp2_with fail
    go_ret2
    show vS l nm w _ _
    unfold vS
    rw[HR.out]
    exact⟨rfl,HB.out⟩
  ·obtain rfl:j=n:=by omega
   have HR:=hid (show Nd.find l nm=none by rw[HNL.out,List.take_length]at hf;exact hf)
   have HB:=hid hb
   clear hf hb
   go_wp2_with fail
   go_ret2
   show vS l nm w _ _
   unfold vS
   rw[HR.out]
   exact⟨rfl,HB.out⟩
def Vw(x y:En):Bool:=decide (x=y)
theorem zbV(a b:ByteArray)(p q:Int):Vw (a,p) (b,q)=(alike a b&&(p==q)):=by
 unfold Vw alike
 rw[Bool.eq_iff_iff]
 simp[Prod.ext_iff]
theorem zdn : (prog.fieldsOf 132).toList.map (λf => (f.type, f.offset, decide (f.name ≠ "_"))) = [(9, 0, true), (3, 1, true)] := by kernel_rfl
theorem zco(W:World)(a:ByteArray)(p:Int):(part 9 #[.string a,.int .i64 p] 0).run prog W= .ok (.string a) W:=by
 simp[part,Tryz.isAgg9,Tryz.sizeOf9]
theorem zcp(W:World)(a:ByteArray)(p:Int):(part 3 #[.string a,.int .i64 p] 1).run prog W= .ok (.int .i64 p) W:=by
 simp[part,Tryz.isAgg3,Tryz.sizeOf3]
theorem fld {P : Program} (d : Nat) (xs ys : Array Value) (f : Field) (fs : List Field) (hn : f.name ≠ "_") {a b : Value} {r : Bool} (W : World) (ha : (part f.type xs f.offset).run P W = .ok a W) (hb : (part f.type ys f.offset).run P W = .ok b W)
  (hr:(Op.equalIn d f.type a b).run P W= .ok r W):(Op.eqFields d xs ys (f::fs)).run P W=if r then(Op.eqFields d xs ys fs).run P W else .ok false W:=by
 conv=>lhs;rw[Op.eqFields]
 rw[if_pos hn]
 simp only[Sem.run_bind,ha,hb,hr,Result.andThen_ok]
 cases r<;>simp
theorem zaS (W : World) (fs : List Field) (h : fs.map (λf => (f.type, f.offset, decide (f.name ≠ "_"))) = [(9, 0, true), (3, 1, true)]) (a b : ByteArray) (p q : Int) :
  (Op.eqFields 9999 #[.string a,.int .i64 p] #[.string b,.int .i64 q] fs).run prog W= .ok (Vw (a,p) (b,q)) W:=by
 obtain⟨f0,fs,rfl,h0,h⟩:=List.map_eq_cons_iff.1 h
 obtain⟨f1,fs,rfl,h1,h⟩:=List.map_eq_cons_iff.1 h
 obtain rfl:=List.map_eq_nil_iff.1 h
 simp only[Prod.mk.injEq,decide_eq_true_eq]at h0 h1
 obtain⟨t0,o0,n0⟩:=h0
 obtain⟨t1,o1,n1⟩:=h1
 rw[fld _ _ _ _ _ n0 W (by rw[t0,o0];exact zco W a p) (by rw[t0,o0];exact zco W b q) (by rw[t0];exact run_equalIn_string W 9998 9 _ _ underlying9),ji]
 rw[fld _ _ _ _ _ n1 W (by rw[t1,o1];exact zcp W a p) (by rw[t1,o1];exact zcp W b q) (by rw[t1];exact run_equalIn_int W 9998 3 .i64 .i64 _ _ underlying3)]
 rw[zbV]
 cases alike a b<;>cases (p==q)<;>simp[Op.eqFields]
theorem eq46(W:World)(a b:ByteArray)(p q:Int):(Op.equalIn 10000 132 (.agg #[.string a,.int .i64 p]) (.agg #[.string b,.int .i64 q])).run prog W= .ok (Vw (a,p) (b,q)) W:=by
 rw[show(10000:Nat)=9999+1 from rfl,run_equalIn_struct W 9999 132 _ _ (by kernel_rfl) (by kernel_rfl)]
 exact zaS W _ zdn a b p q
theorem zeG(W:World)(a b:ByteArray)(p q:Int):(binOp .neq 132 (.agg #[.string a,.int .i64 p]) (.agg #[.string b,.int .i64 q])).run prog W= .ok (.bool (!Vw (a,p) (b,q))) W:=by
 rw[run_neq_struct,eq46 W a b p q];rfl
def ua(k m:Int)(d t:ByteArray)(l:List En)(k' m':Int)(d' t':ByteArray)(l':List En):Bool:=(k==k')&&(m==m')&&alike d d'&&alike t t'&&decide (l=l')
def xE(b:Bool)(w:World)(e:Ending)(w':World):Prop:=e= .returned (.bool b)/\Below w.heap.size w w'
theorem bdn{B:Nat}{w w1:World}(h:Below B w w1)(n:Nat):Below B w (w1.drewN n):=by
 induction n with
 |zero=>exact h
 |succ n ih=>exact ih.drew
theorem zbF{l l':List En}(hl:l.length=l'.length){i:Nat}(h:l.take i=l'.take i)(hi:i<l.length)(hx:l.getD i z0=l'.getD i z0):l.take (i+1)=l'.take (i+1):=by
 rw[yo hi z0,yo (by omega) z0,h,hx]
attribute [local go_sem 9000] zeG
theorem VD(k m:Int)(d t:ByteArray)(a:Option Addr)(n cap:Nat)(l:List En)(k' m':Int)(d' t':ByteArray)(a':Option Addr)(n' cap':Nat)(l':List En)(w:World)(hE:Ents a n l w)(hE':Ents a' n' l' w)(hn:n<=1000000)(hn':n'<=1000000):
  Calls prog 22 #[nv k m d t a n cap,nv k' m' d' t' a' n' cap'] w (xE (ua k m d t l k' m' d' t' l') w):=by
 have HNL:=hid hE.count
 have HNL':=hid hE'.count
 have hni:(n:Int)<=1000000:=by omega
 have HE:=hid (λW (hb:Below w.heap.size w W)=>hE.below hb)
 have HE':=hid (λW (hb:Below w.heap.size w W)=>hE'.below hb)
 have HB0:=hid (show∀x y:Obj,Below w.heap.size w ((w.alloc x).alloc y)from λx y=>((Below.refl _ w).alloc (Nat.le_refl _) _).alloc (by simp) _)
 have HF:=hid (show∀b,ua k m d t l k' m' d' t' l'=b->xE (ua k m d t l k' m' d' t' l') w (.returned (.bool b)) ((w.alloc (.cells #[.int .i64 k,.int .i64 m,.string d,.string t,.slice a n cap] 43)).alloc (.cells #[.int .i64 k',.int .i64 m',.string d',.string t',.slice a' n' cap'] 43))from λb hb=>by rw[hb];exact⟨rfl,HB0.out _ _⟩)
 clear hE hE'
 by_cases e1: ¬ k=k'
 ·have b1:(k==k')=false:=by rw[beq_eq_false_iff_ne];exact e1
  have HR:=hid (HF.out false (by unfold ua;rw[b1];rfl))
  go_enter func22,ntmps22
  go_wp2_with fail
  go_ret
  exact HR.out
 obtain rfl:=Decidable.not_not.1 e1
 clear e1
 by_cases e2: ¬ m=m'
 ·have b1:(m==m')=false:=by rw[beq_eq_false_iff_ne];exact e2
  have HR:=hid (HF.out false (by unfold ua;rw[b1];simp))
  go_enter func22,ntmps22
  go_wp2_with fail
  go_ret
  exact HR.out
 obtain rfl:=Decidable.not_not.1 e2
 clear e2
 cases e3:alike d d'
 ·have HR:=hid (HF.out false (by unfold ua;rw[e3];simp))
  go_enter func22,ntmps22
  go_wp2_with fail
  go_ret
  exact HR.out
 cases e4:alike t t'
 ·have HR:=hid (HF.out false (by unfold ua;rw[e4];simp))
  go_enter func22,ntmps22
  go_wp2_with fail
  go_ret
  exact HR.out
 by_cases e5: ¬ n=n'
 ·have b1:((n:Int)==(n':Int))=false:=by rw[beq_eq_false_iff_ne];omega
  have HR:=hid (HF.out false (by unfold ua;rw[decide_eq_false (λe=>e5 (by rw[HNL.out,HNL'.out,e]))];simp))
  go_enter func22,ntmps22
  go_wp2_with fail
  go_ret
  exact HR.out
 obtain rfl:=Decidable.not_not.1 e5
 clear e5
 have HL:=hid (show ua k m d t l k m d' t' l'=decide (l=l') by unfold ua;rw[e3,e4];simp)
 clear HF
 go_enter func22,ntmps22
 go_wp2_with fail
 go_loopw [5] (λi wr=>(∃j:Nat,j<=n/\i= .int .i64 j/\l.take j=l'.take j)/\wr.cell? ⟨w.heap.size,4,none⟩=some (.slice a n cap)/\wr.cell? ⟨w.heap.size+1,4,none⟩=some (.slice a' n cap')/\Below w.heap.size w wr) (λi _=>n-(intOf i).toNat)
 case atStart=>exact⟨⟨0,Nat.zero_le _,rfl,rfl⟩,by simp,by simp,HB0.out _ _⟩
 case round=>
  obtain⟨⟨j,hj,rfl,hf⟩,hc,hc',hb⟩:=hrel
  by_cases hlt:j<n
  ·have j0:(j:Int)<(n:Int):=by omega
   have hj0:(0:Int)<=(j:Int):=by omega
   obtain⟨b,off,rfl,c0,c1⟩:=(HE.out _ hb).cell j hlt
   obtain⟨b',off',rfl,c0',c1'⟩:=(HE'.out _ hb).cell j hlt
   have HT:=hid (λh=>zbF (l:=l) (l':=l') (by rw[<-HNL.out,<-HNL'.out]) hf (by rw[<-HNL.out];exact hlt) h)
   obtain⟨x,hxe⟩: ∃x,x=l.getD j z0:=⟨_,rfl⟩
   obtain⟨x',hxe'⟩: ∃x,x=l'.getD j z0:=⟨_,rfl⟩
   have HN:=hid (show x≠x'->l≠l' from λh e=>h (by rw[hxe,hxe',e]))
   rw[<-hxe]at c0 c1 HT
   rw[<-hxe']at c0' c1' HT
   clear hxe hxe' hf
   obtain⟨x1,x2⟩:=x
   obtain⟨y1,y2⟩:=x'
   have HB:=hid hb
   clear hb
   cases hx:Vw (x1,x2) (y1,y2)
   ·have HR:=hid (HN.out (of_decide_eq_false hx))
    clear HN HT
    go_wp2_with fail
    go_quiet (fail)
    go_wp2_with fail
    go_ret
    show xE _ w _ _
    rw[HL.out,decide_eq_false HR.out]
    exact⟨rfl,bdn HB.out _⟩
   ·have HR:=hid (HT.out (of_decide_eq_true hx))
    clear HN HT
    go_wp2_with fail
    go_quiet (fail)
    go_wp2_with fail
    exact⟨⟨⟨j+1,by omega,by go_num,HR.out⟩,by simpa using hc,by simpa using hc',bdn HB.out _⟩,by simp[intOf];omega⟩
  ·obtain rfl:j=n:=by omega
   have HR:=hid (show l=l' by rw[HNL.out,List.take_length,<-HNL.out,HNL'.out,List.take_length]at hf;exact hf)
   have HB:=hid hb
   clear hf hb
   go_wp2_with fail
   go_ret
   show xE _ w _ _
   rw[HL.out,decide_eq_true HR.out]
   exact⟨rfl,HB.out⟩
end Go.Proofs.YtabmamofnhcgbaaGreatDoor
namespace Go.Proofs.YtabmamofnhcgbaaGreatDoor
open Go.RowKit Go.Less
theorem owns_form{w:World}{base:Nat}{e:TypeId}{size:Nat}{v:Value}{n:Nat}{xs:List Value}(h:w.ownsRow base e size v n xs): ∃a c,v= .slice a n c:=by
 obtain⟨_,⟨rfl,rfl⟩|⟨g,cap,_,rfl,_⟩⟩:=h
 ·exact⟨_,_,rfl⟩
 ·exact⟨_,_,rfl⟩
theorem owns_lt{w:World}{base:Nat}{e:TypeId}{size:Nat}{v:Value}{n:Nat}{xs:List Value}(h:w.ownsRow base e size v n xs): ∀k,v.ownBlock=some k->base<=k:=λk hk=>(World.ownsRow.lt h k hk).1
theorem owned_below{w w':World}{base:Nat}{e:TypeId}{size:Nat}{v:Value}{n:Nat}{xs:List Value}(h:w.ownsRow base e size v n xs)(hb:Below w.heap.size w w'):w'.ownsRow base e size v n xs:=
 World.ownsRow.kept h (⟨hb.os,hb.tape,hb.output,hb.size,λk hk _=>hb.block k hk⟩:w.grownBy w' none) (by cases v.ownBlock<;>simp)
abbrev Own(base:Nat)(v:Value)(l:List En)(w:World):Prop:=w.ownsRow base 132 2 v l.length (zq l)
theorem own_nil(w:World)(base:Nat):Own base (.slice none 0 0) [] w:=⟨rfl,.inl ⟨rfl,rfl⟩⟩
theorem Kc:(prog.info? 132).map (λi=>(i.zero,i.size,i.bytes))=some (some (.agg #[.string ⟨#[]⟩,.int .i64 0]),2,24):=by kernel_rfl
theorem jh{ops:Array Oper}{rest:List Oper}{o:Oper}{a:Act}{Q:Exit->Act->World->Prop}{w:World}(hgd:o.guard=none)(s x:Operand)
  (ho:o.op= .call {callee:= .builtin .append,args:= #[s,x],argTypes:= #[41,41]})
  (base:Nat) (v:Value) (l:List En) (hs:a.eval s=v) (hown:Own base v l w)
  (b:Nat) (u:En) (hx:a.eval x= .slice (some ⟨b,0,none⟩) 1 1) (hc:w.heap[b]?=some (.cells #[.string u.1,.int .i64 u.2] 132 (0,0))) (hn:l.length<=1000000) (hbase:base<=w.heap.size)
  (h: ∀ao' cap' w',Own base (.slice ao' (l.length+1) cap') (l++[u]) w'->w.grownBy w' v.ownBlock->wpList prog ops Q rest (a.put o.dst (.slice ao' (l.length+1) cap')) w'):
  wpList prog ops Q (o::rest) a w:=by
 obtain⟨i0,hi,hz0,hz1,hz2⟩:=info_parts Kc
 refine wpList_append_own w hgd s x 41 ho base 132 i0 (.agg #[.string ⟨#[]⟩,.int .i64 0]) 2 24 underlying41 hi hz0 hz1 hz2 rfl (by decide) v l.length (zq l) hs hown ⟨b,0,none⟩ 1 1 (zv u) hx rfl ?_ ?_ (by unfold maxLen;omega) (by omega) hbase ?_
 ·intro j y hj
  rw[show(⟨b,0,none⟩:Addr).add j=⟨b,j,none⟩ by unfold Addr.add;split<;>simp_all]
  match j with
  |0=>simp[zv]at hj;subst hj;simp[World.cell?,hc]
  |1=>simp[zv]at hj;subst hj;simp[World.cell?,hc]
  |j+2=>simp[zv]at hj
 ·intro y hy
  simp[zv]at hy
  rcases hy with rfl|rfl<;>rfl
 ·intro v' w' hown' hg _
  obtain⟨ao',cap',rfl⟩:=owns_form hown'
  refine h ao' cap' w' ?_ hg
  unfold Own
  rw[List.length_append,xY]
  simpa[zq,zv] using hown'
theorem Jn:(prog.info? 43).map (·.size)=some 5:=by kernel_rfl
theorem zl{fn:Func}{p u:Tmp}(h:fn.results= #[.cell p 43,.tmp u])(tmps:Array Value)(w:World)(g:Nat)(k m d t e:Value)
  (hp:tmps.getD p undef= .pointer (some ⟨g,0,none⟩)) (hg:w.heap[g]?=some (.cells #[k,m,d,t,e] 43 (0,0))):
  (results fn tmps).run prog w= .ok (.tuple #[.agg #[k,m,d,t,e],tmps.getD u undef]) w:=by
 rw[results_cell_tmp h,hp]
 simp[asAddr,Result.andThen,run_loadVar_row (P:=prog) w g 43 43 #[k,m,d,t,e] (0,0) _ hg underlying43 rfl Jn]
theorem cell_obj{w:World}{b:Nat}{cs:Array Value}{t:TypeId}{fr:Nat×Nat}(h:w.heap[b]?=some (.cells cs t fr))(k:Nat):w.cell? ⟨b,k,none⟩=cs[k]?:=by
 simp[World.cell?,h]
theorem free_obj{w:World}{b:Nat}{cs:Array Value}{t:TypeId}(h:w.heap[b]?=some (.cells cs t (0,0)))(k:Nat):w.frozen? ⟨b,k,none⟩=false:=by
 simp[World.frozen?,h]
theorem lt_of_obj{w:World}{b:Nat}{o:Obj}(h:w.heap[b]?=some o):b<w.heap.size:=(Array.getElem?_eq_some_iff.1 h).1
theorem grown_obj{w w':World}{row:Option Nat}{b:Nat}{o:Obj}(hg:w.grownBy w' row)(h:w.heap[b]?=some o)(hne:some b≠row):w'.heap[b]?=some o:=(hg.block b (lt_of_obj h) hne).trans h
theorem cut_none{l:List En}{k:ByteArray}(h:Nd.find l k=none):Nd.cut l k=l:=by
 induction l with
 |nil=>rfl
 |cons x l ih=>
  have hx:x.1≠k:=Nd.find_none.1 h x List.mem_cons_self
  have hl:Nd.find l k=none:=by unfold Nd.find at h;rwa [if_neg hx]at h
  unfold Nd.cut;rw[if_neg hx,ih hl]
theorem zdB(l:List En)(x:En)(k:ByteArray):Nd.cut (l++[x]) k=if((Nd.find l k).isSome|| !alike x.1 k)=true then Nd.cut l k++[x]else Nd.cut l k:=by
 induction l with
 |nil=>
  by_cases hx:x.1=k
  ·simp[Nd.cut,Nd.find,hx,alike]
  ·simp[Nd.cut,Nd.find,hx,alike]
 | cons y l ih=>
  by_cases hy:y.1=k
  ·simp[Nd.cut,Nd.find,hy]
  ·rw[List.cons_append,Nd.cut,if_neg hy,ih,Nd.cut,if_neg hy,Nd.find,if_neg hy]
   split<;>rfl
theorem zaM(l:List En)(x:En)(k:ByteArray):(Nd.find (l++[x]) k).isSome=((Nd.find l k).isSome||alike x.1 k):=by
 induction l with
 |nil=>
  by_cases hx:x.1=k
  ·simp[Nd.find,hx,alike]
  ·simp[Nd.find,hx,alike]
 |cons y l ih=>
  by_cases hy:y.1=k
  ·simp[Nd.find,hy]
  ·rw[List.cons_append,Nd.find,if_neg hy,ih,Nd.find,if_neg hy]
theorem ze7(l:List En)(k:ByteArray):(Nd.cut l k).length<=l.length:=(Nd.cut_sub l k).length_le
def vp(r:Nd.Node×Int)(w:World)(e:Ending)(w':World):Prop:=
 ∃a cap,e= .returned (.tuple #[nv r.1.kind r.1.mode r.1.data r.1.target a r.1.ents.length cap,.int .i64 r.2])/\Ents a r.1.ents.length r.1.ents w'/\Below w.heap.size w w'
end Go.Proofs.YtabmamofnhcgbaaGreatDoor
namespace Go.Proofs.YtabmamofnhcgbaaGreatDoor
section
variable {w : World} {b : Nat} {a0 a1 a2 a3 a4 a5 a6 : Value} {t : TypeId} {fr : Nat × Nat}
theorem zn(h:w.heap[b]?=some (.cells #[a0,a1] t fr)):w.cell? ⟨b,0,none⟩=some a0/\w.cell? ⟨b,1,none⟩=some a1:=⟨cell_obj h 0,cell_obj h 1⟩
theorem yl(h:w.heap[b]?=some (.cells #[a0,a1,a2,a3,a4] t fr)):w.cell? ⟨b,0,none⟩=some a0/\w.cell? ⟨b,1,none⟩=some a1/\w.cell? ⟨b,2,none⟩=some a2/\w.cell? ⟨b,3,none⟩=some a3/\w.cell? ⟨b,4,none⟩=some a4:=⟨cell_obj h 0,cell_obj h 1,cell_obj h 2,cell_obj h 3,cell_obj h 4⟩
theorem zW(h:w.heap[b]?=some (.cells #[a0,a1,a2,a3,a4,a5,a6] t fr)):w.cell? ⟨b,0,none⟩=some a0/\w.cell? ⟨b,1,none⟩=some a1/\w.cell? ⟨b,2,none⟩=some a2/\w.cell? ⟨b,3,none⟩=some a3/\w.cell? ⟨b,4,none⟩=some a4/\w.cell? ⟨b,5,none⟩=some a5/\w.cell? ⟨b,6,none⟩=some a6:=⟨cell_obj h 0,cell_obj h 1,cell_obj h 2,cell_obj h 3,cell_obj h 4,cell_obj h 5,cell_obj h 6⟩
end
section
variable {w : World} {b : Nat} {cs : Array Value} {t : TypeId}
theorem zH(h:w.heap[b]?=some (.cells cs t (0,0))):w.frozen? ⟨b,0,none⟩=false/\w.frozen? ⟨b,1,none⟩=false:=⟨free_obj h 0,free_obj h 1⟩
theorem xp(h:w.heap[b]?=some (.cells cs t (0,0))):w.frozen? ⟨b,0,none⟩=false/\w.frozen? ⟨b,1,none⟩=false/\w.frozen? ⟨b,2,none⟩=false/\w.frozen? ⟨b,3,none⟩=false/\w.frozen? ⟨b,4,none⟩=false:=⟨free_obj h 0,free_obj h 1,free_obj h 2,free_obj h 3,free_obj h 4⟩
end
end Go.Proofs.YtabmamofnhcgbaaGreatDoor
namespace Gr
abbrev Step:=Int->ByteArray->Option Int
def go(s:Step):Int->List ByteArray->Option Int
 |i,[]=>some i
 |i,n::ns=>match s i n with
  |none=>none
  |some c=>go s c ns
theorem go_cons{s:Step}{i:Int}{n:ByteArray}{ns:List ByteArray}{j:Int}:go s i (n::ns)=some j↔ ∃c,s i n=some c/\go s c ns=some j:=by
 cases h:s i n with
 |none=>simp[go,h]
 |some c=>simp[go,h]
theorem zaH(s:Step)(i:Int)(a b:List ByteArray):go s i (a++b)=(go s i a).bind λj=>go s j b:=by
 induction a generalizing i with
 |nil=>rfl
 |cons n a ih=>
  rw[List.cons_append,go,go]
  cases s i n with
  |none=>rfl
  |some c=>exact ih c
theorem go_append_iff{s:Step}{i j:Int}{a b:List ByteArray}:go s i (a++b)=some j↔ ∃k,go s i a=some k/\go s k b=some j:=by
 rw[zaH,Option.bind_eq_some_iff]
theorem go_snoc{s:Step}{i j:Int}{a:List ByteArray}{n:ByteArray}:go s i (a++[n])=some j↔ ∃k,go s i a=some k/\s k n=some j:=by
 rw[go_append_iff]
 constructor
 ·rintro ⟨k,h1,h2⟩
  obtain⟨c,h3,h4⟩:=go_cons.1 h2
  injection h4 with h4
  exact⟨k,h1,h4▸h3⟩
 ·rintro ⟨k,h1,h2⟩
  exact⟨k,h1,go_cons.2 ⟨j,h2,rfl⟩⟩
theorem snoc_cases{α:Type}(l:List α):l=[]\/ ∃m x,l=m++[x]:=by
 cases h:l.reverse with
 |nil=>exact .inl (by simpa using h)
 |cons x m=>exact .inr ⟨m.reverse,x,by have:=congrArg List.reverse h;simpa using this⟩
theorem go_less{s t:Step}(h: ∀i n c,t i n=some c->s i n=some c){i j:Int}{ns:List ByteArray}(hg:go t i ns=some j):go s i ns=some j:=by
 induction ns generalizing i with
 |nil=>exact hg
 |cons n ns ih=>
  obtain⟨c,h1,h2⟩:=go_cons.1 hg
  exact go_cons.2 ⟨c,h i n c h1,ih h2⟩
def upd(s:Step)(d:Int)(n:ByteArray)(v:Option Int):Step:=λi m=>if i=d/\m=n then v else s i m
theorem upd_same(s:Step)(d:Int)(n:ByteArray)(v:Option Int):upd s d n v d n=v:=if_pos ⟨rfl,rfl⟩
theorem kU{s:Step}{d:Int}{n:ByteArray}{v:Option Int}{i:Int}{m:ByteArray}(h: ¬ (i=d/\m=n)):upd s d n v i m=s i m:=if_neg h
theorem upd_less{s:Step}{d:Int}{n:ByteArray}: ∀i m c,upd s d n none i m=some c->s i m=some c:=λi m c h=>by
 unfold upd at h
 split at h
 ·cases h
 ·exact h
theorem upd_more{s:Step}{d:Int}{n:ByteArray}{v:Option Int}(hn:s d n=none): ∀i m c,s i m=some c->upd s d n v i m=some c:=λi m c h=>by
 rw[kU]
 ·exact h
 ·rintro ⟨rfl,rfl⟩;rw[hn]at h;cases h
theorem zbA{s:Step}{d:Int}{n:ByteArray}{v:Option Int}(w:Option Int):upd (upd s d n w) d n v=upd s d n v:=by
 funext i m
 unfold upd
 split<;>rfl
theorem zbz{s:Step}{d:Int}{n:ByteArray}{v:Option Int}(h:s d n=v):upd s d n v=s:=by
 funext i m
 unfold upd
 split
 ·rename_i e;rw[e.1,e.2];exact h.symm
 ·rfl
theorem Kh{s:Step}{d c:Int}{n:ByteArray}{i j:Int}{ns:List ByteArray}(hg:go (upd s d n (some c)) i ns=some j):
  go s i ns=some j\/ ∃ps qs,ns=ps++n::qs/\go s i ps=some d/\go (upd s d n (some c)) c qs=some j:=by
 induction ns generalizing i with
 |nil=>exact .inl hg
 | cons m ns ih=>
  obtain⟨k,h1,h2⟩:=go_cons.1 hg
  by_cases e:i=d/\m=n
  ·obtain⟨rfl,rfl⟩:=e
   rw[upd_same]at h1
   injection h1 with h1
   subst h1
   exact .inr ⟨[],ns,rfl,rfl,h2⟩
  ·rw[kU e]at h1
   rcases ih h2 with h|⟨ps,qs,rfl,h3,h4⟩
   ·exact .inl (go_cons.2 ⟨k,h1,h⟩)
   ·exact .inr ⟨m::ps,qs,rfl,go_cons.2 ⟨k,h1,h3⟩,h4⟩
theorem zeV{s:Step}{d c:Int}{n:ByteArray}{i j:Int}{ns:List ByteArray}(hout: ∀qs,go s i qs≠some d)(hg:go (upd s d n (some c)) i ns=some j):go s i ns=some j:=by
 rcases Kh hg with h|⟨ps,qs,_,h,_⟩
 ·exact h
 ·exact absurd h (hout ps)
structure Tree (s:Step) (dir:Int->Prop) (r:Int):Prop where
 leaf: ∀{i n c},s i n=some c->dir i
 root: ∀i n,s i n≠some r
 one: ∀{c i n i' n'},dir c->s i n=some c->s i' n'=some c->i=i'/\n=n'
 deep: ∀{ns j},go s r ns=some j->ns.length<=8
section
variable {s t : Step} {dir dir' : Int -> Prop} {r : Int}
theorem Tree.sub(T:Tree s dir r)(h: ∀i n c,t i n=some c->s i n=some c):Tree t dir r:=
 ⟨λe=>T.leaf (h _ _ _ e),λi n e=>T.root i n (h _ _ _ e),λhd e e'=>T.one hd (h _ _ _ e) (h _ _ _ e'),λe=>T.deep (go_less h e)⟩
theorem Tree.turn(T:Tree s dir r)(h: ∀c,dir' c->dir c\/ ∀i m,s i m≠some c)(h': ∀i n c,s i n=some c->dir i->dir' i):Tree s dir' r:=
 ⟨λe=>h' _ _ _ e (T.leaf e),T.root,(λ{c} _ _ _ _ hd e e'=>by
  rcases h c hd with h|h
  ·exact T.one h e e'
  ·exact absurd e (h _ _)),T.deep⟩
theorem Tree.path_one(T:Tree s dir r): ∀(k:Nat) {a b:List ByteArray} {d:Int},a.length<=k->dir d->go s r a=some d->go s r b=some d->a=b:=by
 intro k
 induction k with
 | zero=>
  intro a b d hk hd h1 h2
  obtain rfl:a=[]:=List.length_eq_zero_iff.1 (by omega)
  injection h1 with h1
  subst h1
  rcases snoc_cases b with rfl|⟨b',n,rfl⟩
  ·rfl
  ·obtain⟨i,_,h3⟩:=go_snoc.1 h2
   exact absurd h3 (T.root i n)
 | succ k ih=>
  intro a b d hk hd h1 h2
  rcases snoc_cases a with rfl|⟨a',n,rfl⟩
  ·injection h1 with h1
   subst h1
   rcases snoc_cases b with rfl|⟨b',m,rfl⟩
   ·rfl
   ·obtain⟨i,_,h3⟩:=go_snoc.1 h2
    exact absurd h3 (T.root i m)
  ·obtain⟨i,h3,h4⟩:=go_snoc.1 h1
   rcases snoc_cases b with rfl|⟨b',m,rfl⟩
   ·injection h2 with h2
    subst h2
    exact absurd h4 (T.root i n)
   ·obtain⟨i',h5,h6⟩:=go_snoc.1 h2
    obtain⟨rfl,rfl⟩:=T.one hd h4 h6
    rw[ih (by simp at hk;omega) (T.leaf h4) h3 h5]
theorem Tree.path(T:Tree s dir r){a b:List ByteArray}{d:Int}(hd:dir d)(h1:go s r a=some d)(h2:go s r b=some d):a=b:=T.path_one a.length (Nat.le_refl _) hd h1 h2
theorem Tree.no_loop(T:Tree s dir r){a b:List ByteArray}{d:Int}(hd:dir d)(h1:go s r a=some d)(h2:go s d b=some d):b=[]:=by
 have:=T.path hd h1 (go_append_iff.2 ⟨d,h1,h2⟩)
 simpa using this
theorem Tree.ahead(T:Tree s dir r){a qs:List ByteArray}{d c:Int}{n:ByteArray}(h1:go s r a=some d)(h2:s d n=some c):go s c qs≠some d:=λh=>by
 have:=T.no_loop (T.leaf h2) h1 (go_cons.2 ⟨c,h2,h⟩)
 cases this
theorem Tree.add(T:Tree s dir r){d c:Int}{n:ByteArray}{ps:List ByteArray}(hd:dir d)(hp:go s r ps=some d)(hc:c≠r)(hone:dir c-> ∀i m,s i m≠some c)(hout: ∀qs,go s c qs≠some d)
  (hdeep: ∀qs j,go s c qs=some j->ps.length+1+qs.length<=8):Tree (upd s d n (some c)) dir r:=by
 have hs: ∀i m k,upd s d n (some c) i m=some k->(i=d/\m=n/\k=c)\/s i m=some k:=λi m k h=>by
  by_cases e:i=d/\m=n
  ·rw[e.1,e.2,upd_same]at h
   injection h with h
   exact .inl ⟨e.1,e.2,h.symm⟩
  ·rw[kU e]at h
   exact .inr h
 refine⟨λ{i m k} h=> ?_,λi m h=> ?_,λ{k i m i' m'} hk h h'=> ?_,λ{ns j} h=> ?_⟩
 ·rcases hs _ _ _ h with ⟨rfl,_,_⟩|h
  ·exact hd
  ·exact T.leaf h
 ·rcases hs _ _ _ h with ⟨_,_,e⟩|h
  ·exact hc e.symm
  ·exact T.root _ _ h
 ·rcases hs _ _ _ h with ⟨rfl,rfl,rfl⟩|h1
  ·rcases hs _ _ _ h' with ⟨rfl,rfl,_⟩|h2
   ·exact⟨rfl,rfl⟩
   ·exact absurd h2 (hone hk _ _)
  ·rcases hs _ _ _ h' with ⟨rfl,rfl,rfl⟩|h2
   ·exact absurd h1 (hone hk _ _)
   ·exact T.one hk h1 h2
 ·rcases Kh h with h|⟨az,qs,rfl,h1,h2⟩
  ·exact T.deep h
  ·have e:=T.path hd h1 hp
   have h3:=hdeep qs j (zeV hout h2)
   rw[e,List.length_append,List.length_cons]
   omega
theorem go_cut{d c:Int}{n:ByteArray}{i j:Int}{ns:List ByteArray}(hg:go s i ns=some j)(hsn:s d n=some c):
  go (upd s d n none) i ns=some j\/ ∃ps qs,ns=ps++n::qs/\go (upd s d n none) i ps=some d/\go s c qs=some j:=by
 have e:s=upd (upd s d n none) d n (some c):=by rw[zbA,zbz hsn]
 rw[e]at hg
 rcases Kh hg with h|⟨ps,qs,h1,h2,h3⟩
 ·exact .inl h
 ·rw[<-e]at h3
  exact .inr ⟨ps,qs,h1,h2,h3⟩
theorem go_leaf{c j:Int}{qs:List ByteArray}(h: ∀n,s c n=none)(hg:go s c qs=some j):qs=[]/\j=c:=by
 cases qs with
 |nil=>injection hg with hg;exact⟨rfl,hg.symm⟩
 |cons n qs=>
  obtain⟨k,h1,_⟩:=go_cons.1 hg
  rw[h n]at h1;cases h1
end
end Gr
namespace Fs
open Nd (En Node none0)
abbrev Item:=Int×Node
structure FS where
 l:List Item
 next:Int
structure Op where
 kind:Int
 a:ByteArray
 b:ByteArray
 off:Int
 from_:Int
 n:Int
 data:ByteArray
structure Env where
 lt:ByteArray->ByteArray->Bool
 nm:List UInt8->Bool
 sp:ByteArray->Option (List ByteArray)
 put:ByteArray->Int->ByteArray->ByteArray×Int
 trunc:ByteArray->Int->ByteArray×Int
 copy:ByteArray->Int->ByteArray->Int->Int->ByteArray×Int
 get:ByteArray->Int->Int->ByteArray×Int
def node:List Item->Int->Option Node
 |[],_=>none
 |x::l,i=>if x.1=i then some x.2 else node l i
def nodeD(l:List Item)(i:Int):Node:=(node l i).getD none0
def setL(l:List Item)(i:Int)(x:Node):List Item:=l.map (λy=>if y.1=i then(i,x)else y)++if(node l i).isSome=true then[]else[(i,x)]
def dropL(l:List Item)(i:Int):List Item:=l.filter λy=>decide (y.1≠i)
def step(l:List Item):Gr.Step:=λi n=>(node l i).bind λx=>Nd.find x.ents n
def isDir(l:List Item)(i:Int):Prop:= ∃x,node l i=some x/\x.kind=2
def new:FS:=⟨[(1,⟨2,493,ByteArray.empty,ByteArray.empty,[]⟩)],2⟩
def walk(l:List Item):Int->List ByteArray->Except Int Int
 |i,[]=> .ok i
 |i,n::ns=>if(nodeD l i).kind≠2 then .error 10 else match Nd.find (nodeD l i).ents n with
  |none=> .error 4
  |some c=>walk l c ns
def place(l:List Item)(ns:List ByteArray):Except Int (Int×ByteArray):=
 match ns.getLast? with
 |none=> .error 5
 |some n=>match walk l 1 ns.dropLast with
  | .error e=> .error e
  | .ok d=>if(nodeD l d).kind≠2 then .error 10 else .ok (d,n)
def fresh(l:List Item)(ns:List ByteArray):Except Int (Int×ByteArray):=
 match place l ns with
 | .error e=> .error e
 | .ok (d,n)=>if(Nd.find (nodeD l d).ents n).isSome=true then .error 5 else .ok (d,n)
section
variable (E : Env)
def enter(l:List Item)(d:Int)(n:ByteArray)(i:Int):List Item:=setL l d (Nd.withE E.lt E.nm (nodeD l d) n i).1
def leave(l:List Item)(d:Int)(n:ByteArray):List Item:=setL l d (Nd.withoutE (nodeD l d) n).1
def links(l:List Item)(i:Int):Nat:=(l.map λy=>y.2.ents.countP λe=>decide (e.2=i)).sum
def deep(l:List Item):Nat->Int->Nat
 |0,_=>0
 |k+1,i=>(nodeD l i).ents.foldl (λn e=>max n (1+deep l k e.2)) 0
def file(l:List Item)(ns:List ByteArray):Except Int (Int×Node):=
 match walk l 1 ns with
 | .error e=> .error e
 | .ok i=>if(nodeD l i).kind=2 then .error 11 else if(nodeD l i).kind=3 then .error 16 else .ok (i,nodeD l i)
def madeNode(o:Op):Node:=if o.kind=3 then⟨3,511,ByteArray.empty,o.data,[]⟩else⟨o.kind,o.n,ByteArray.empty,ByteArray.empty,[]⟩
def create(f:FS)(o:Op)(az:List ByteArray):Except Int FS:=
 match fresh f.l az with
 | .error e=> .error e
 | .ok (d,n)=>if Nd.right E.lt E.nm (madeNode o)=false then .error 1 else if 64<=(nodeD f.l d).ents.length then .error 3 else if 256<=f.l.length then .error 6 else .ok ⟨enter E (setL f.l f.next (madeNode o)) d n f.next,f.next+1⟩
def link(f:FS)(az bs:List ByteArray):Except Int FS:=
 match walk f.l 1 az with
 | .error e=> .error e
 | .ok i=>if(nodeD f.l i).kind=2 then .error 11 else match fresh f.l bs with
  | .error e=> .error e
  | .ok (d,n)=>if 64<=(nodeD f.l d).ents.length then .error 3 else .ok ⟨enter E f.l d n i,f.next⟩
def unlink(f:FS)(az:List ByteArray):Except Int FS:=
 match walk f.l 1 az with
 | .error e=> .error e
 | .ok i=>if(nodeD f.l i).kind=2 then .error 11 else match place f.l az with
  | .error e=> .error e
  | .ok (d,n)=> .ok ⟨if links (leave f.l d n) i=0 then dropL (leave f.l d n) i else leave f.l d n,f.next⟩
def rmdir(f:FS)(az:List ByteArray):Except Int FS:=
 match walk f.l 1 az with
 | .error e=> .error e
 | .ok i=>if(nodeD f.l i).kind≠2 then .error 10 else if i=1 then .error 17 else if(nodeD f.l i).ents≠[]then .error 12 else match place f.l az with
  | .error e=> .error e
  | .ok (d,n)=> .ok ⟨dropL (leave f.l d n) i,f.next⟩
def rename(f:FS)(az bs:List ByteArray):Except Int FS:=
 match walk f.l 1 az with
 | .error e=> .error e
 | .ok i=>if i=1 then .error 17 else if(nodeD f.l i).kind=2/\bs.take az.length=az then .error 15 else match fresh f.l bs with
  | .error e=> .error e
  | .ok (d,n)=>match place f.l az with
   | .error e=> .error e
   | .ok (c,m)=>if(64<=(nodeD f.l d).ents.length/\c≠d)\/8<bs.length+deep f.l 9 i then .error 3 else .ok ⟨enter E (leave f.l c m) d n i,f.next⟩
def edit(f:FS)(az:List ByteArray)(g:Node->Except Int ByteArray):Except Int FS:=
 match file f.l az with
 | .error e=> .error e
 | .ok (i,x)=>match g x with
  | .error e=> .error e
  | .ok s=> .ok ⟨setL f.l i {x with data:=s},f.next⟩
def asked(r:ByteArray×Int):Except Int ByteArray:=if r.2≠0 then .error r.2 else .ok r.1
def bytes(f:FS)(o:Op)(az bs:List ByteArray):Except Int FS:=
 edit f az λx=>
  if o.kind=8 then asked (E.put x.data o.off o.data)
  else if o.kind=9 then asked (E.trunc x.data o.n)
  else match file f.l bs with
   | .error e=> .error e
   | .ok (_,y)=>asked (E.copy x.data o.off y.data o.from_ o.n)
def chmod(f:FS)(o:Op)(az:List ByteArray):Except Int FS:=
 match walk f.l 1 az with
 | .error e=> .error e
 | .ok i=>if o.n<0\/511<o.n then .error 1 else .ok ⟨setL f.l i {nodeD f.l i with mode:=o.n},f.next⟩
def act(f:FS)(o:Op):Except Int FS:=
 if o.kind<1\/11<o.kind then .error 16
 else match E.sp o.a with
  |none=> .error 14
  |some az=>
   if(o.kind=4\/o.kind=7\/o.kind=10)/\E.sp o.b=none then .error 14
   else if o.kind<=3 then create E f o az
   else if 8<=o.kind/\o.kind<=10 then bytes E f o az ((E.sp o.b).getD [])
   else if o.kind=4 then link E f az ((E.sp o.b).getD [])
   else if o.kind=5 then unlink f az
   else if o.kind=6 then rmdir f az
   else if o.kind=7 then rename E f az ((E.sp o.b).getD [])
   else chmod f o az
def doE(f:FS)(o:Op):FS×Int:=match act E f o with
 | .error e=>(f,e)
 | .ok g=>(g,0)
end
theorem node_mem{l:List Item}{i:Int}{x:Node}(h:node l i=some x):(i,x)∈l:=by
 induction l with
 |nil=>cases h
 |cons y l ih=>
  unfold node at h
  by_cases e:y.1=i
  ·rw[if_pos e]at h;injection h with h;subst h;subst e;exact List.mem_cons_self
  ·rw[if_neg e]at h;exact List.mem_cons_of_mem _ (ih h)
abbrev Rising(l:List Item):Prop:=l.Pairwise λx y=>x.1<y.1
theorem node_at{l:List Item}(hl:Rising l){i:Int}{x:Node}(h:(i,x)∈l):node l i=some x:=by
 induction l with
 |nil=>cases h
 |cons y l ih=>
  obtain⟨h1,h2⟩:=List.pairwise_cons.1 hl
  unfold node
  rcases List.mem_cons.1 h with rfl|h
  ·rw[if_pos rfl]
  ·rw[if_neg (λe=>by have:=h1 _ h;simp only at this;omega),ih h2 h]
theorem node_none{l:List Item}{i:Int}:node l i=none↔ ∀y∈l,y.1≠i:=by
 induction l with
 |nil=>simp[node]
 |cons y l ih=>
  unfold node
  by_cases e:y.1=i
  ·rw[if_pos e];simp[e]
  ·rw[if_neg e,ih];simp[e]
theorem nodeD_of{l:List Item}{i:Int}{x:Node}(h:node l i=some x):nodeD l i=x:=by unfold nodeD;rw[h];rfl
theorem node_append(l m:List Item)(i:Int):node (l++m) i=(node l i).or (node m i):=by
 induction l with
 |nil=>rfl
 |cons y l ih=>
  rw[List.cons_append,node,node]
  split
  ·rfl
  ·exact ih
theorem zcG(l:List Item)(i k:Int)(x:Node):node (l.map λy=>if y.1=i then(i,x)else y) k=if k=i then(node l i).map λ_=>x else node l k:=by
 induction l with
 |nil=>simp[node]
 | cons y l ih=>
  rw[List.map_cons,node,ih]
  by_cases hy:y.1=i
  ·rw[if_pos hy]
   by_cases hk:k=i
   ·subst hk;simp[node,hy]
   ·have h1: ¬ i=k:=λe=>hk e.symm
    have h2: ¬ y.1=k:=λe=>hk (e.symm.trans hy)
    simp[node,hk,h1,h2]
  ·rw[if_neg hy]
   by_cases hk:k=i
   ·subst hk;simp[node,hy]
   ·simp[node,hk]
theorem zN(l:List Item)(i k:Int)(x:Node):node (setL l i x) k=if k=i then some x else node l k:=by
 unfold setL
 rw[node_append,zcG]
 by_cases hk:k=i
 ·subst hk
  rw[if_pos rfl,if_pos rfl]
  cases h:node l k with
  |none=>simp[node]
  |some y=>simp
 ·rw[if_neg hk,if_neg hk]
  split
  ·simp[node]
  ·simp[node,Ne.symm hk]
theorem xK(l:List Item)(i k:Int):node (dropL l i) k=if k=i then none else node l k:=by
 unfold dropL
 induction l with
 |nil=>simp[node]
 | cons y l ih=>
  rw[List.filter_cons]
  by_cases hy:y.1=i
  ·rw[if_neg (by simp[hy]),ih,node]
   by_cases hk:k=i
   ·rw[if_pos hk,if_pos hk]
   ·rw[if_neg hk,if_neg hk,if_neg (λe=>hk (e.symm.trans hy))]
  ·rw[if_pos (by simp[hy]),node,ih,node]
   by_cases hk:k=i
   ·rw[if_pos hk,if_neg (λe=>hy (e.trans hk)),if_pos hk]
   ·rw[if_neg hk,if_neg hk]
theorem len_set{l:List Item}{i:Int}{x:Node}:(setL l i x).length=l.length+if(node l i).isSome=true then 0 else 1:=by
 unfold setL
 rw[List.length_append,List.length_map]
 split<;>rfl
theorem len_drop(l:List Item)(i:Int):(dropL l i).length<=l.length:=List.length_filter_le _ _
theorem mem_set{l:List Item}{i:Int}{x:Node}{y:Item}(h:y∈setL l i x):y=(i,x)\/(y∈l/\y.1≠i):=by
 unfold setL at h
 rcases List.mem_append.1 h with h|h
 ·obtain⟨z,hz,e⟩:=List.mem_map.1 h
  by_cases hi:z.1=i
  ·rw[if_pos hi]at e;exact .inl e.symm
  ·rw[if_neg hi]at e;subst e;exact .inr ⟨hz,hi⟩
 ·split at h
  ·cases h
  ·exact .inl (List.mem_singleton.1 h)
theorem zap{l:List Item}{i:Int}{x:Node}:(l.map λy=>if y.1=i then(i,x)else y).map (·.1)=l.map (·.1):=by
 rw[List.map_map]
 refine List.map_congr_left λy _=> ?_
 show(if y.1=i then(i,x)else y).1=y.1
 split
 ·rename_i h;exact h.symm
 ·rfl
theorem rising_iff{l:List Item}:Rising l↔(l.map (·.1)).Pairwise (· < ·):=by rw[List.pairwise_map]
theorem rising_set{l:List Item}(h:Rising l){i:Int}{x:Node}(hi:(node l i).isSome=true\/ ∀y∈l,y.1<i):Rising (setL l i x):=by
 unfold setL
 refine List.pairwise_append.2 ⟨rising_iff.2 (by rw[zap];exact rising_iff.1 h), ?_,λy hy z hz=> ?_⟩
 ·split
  ·exact List.Pairwise.nil
  ·exact List.pairwise_singleton _ _
 ·split at hz
  ·cases hz
  ·rename_i hn
   rw[List.mem_singleton.1 hz]
   rcases hi with hi|hi
   ·exact absurd hi hn
   ·obtain⟨u,hu,e⟩:=List.mem_map.1 hy
    have:=hi u hu
    rw[<-e]
    split
    ·rename_i e;omega
    ·exact this
theorem rising_drop{l:List Item}(h:Rising l)(i:Int):Rising (dropL l i):=h.filter _
end Fs
namespace Fs
open Nd (Node)
open Go.Less (less ju)
def key(i:Int):ByteArray:=Nd.mk (Nd.n4 i.toNat)
def txt(x:Node):ByteArray:=Nd.mk (Nd.text x)
def kv(l:List Item):List (ByteArray×ByteArray):=l.map λy=>(key y.1,txt y.2)
abbrev Ub(l:List Item):Prop:= ∀y∈l,0<=y.1/\y.1<4294967296
theorem lex4(a b c d a' b' c' d':UInt8):[a,b,c,d]<[a',b',c',d']↔Nd.v4 [a,b,c,d]<Nd.v4 [a',b',c',d']:=by
 simp only[List.cons_lt_cons_iff,List.lt_irrefl,and_false,or_false,Nd.v4,UInt8.lt_iff_toNat_lt,<-UInt8.toNat_inj]
 have:=b.toNat_lt;have:=c.toNat_lt;have:=d.toNat_lt
 have:=b'.toNat_lt;have:=c'.toNat_lt;have:=d'.toNat_lt
 omega
theorem Ue(i:Int):(key i).toList=Nd.n4 i.toNat:=by rw[Go.ByteArray.toList_eq];rfl
theorem zcU{i j:Int}(hi:0<=i/\i<4294967296)(hj:0<=j/\j<4294967296):less (key i) (key j)=decide (i<j):=by
 rw[ju,Ue,Ue]
 refine decide_eq_decide.2 ?_
 have h:=lex4 (UInt8.ofNat (i.toNat/16777216)) (UInt8.ofNat (i.toNat/65536)) (UInt8.ofNat (i.toNat/256)) (UInt8.ofNat i.toNat) (UInt8.ofNat (j.toNat/16777216)) (UInt8.ofNat (j.toNat/65536)) (UInt8.ofNat (j.toNat/256)) (UInt8.ofNat j.toNat)
 have h1:Nd.v4 (Nd.n4 i.toNat)=i.toNat:=Nd.v4_n4 (by omega)
 have h2:Nd.v4 (Nd.n4 j.toNat)=j.toNat:=Nd.v4_n4 (by omega)
 unfold Nd.n4 at h1 h2|-
 rw[h,h1,h2]
 omega
theorem K8{i j:Int}(hi:0<=i/\i<4294967296)(hj:0<=j/\j<4294967296)(h:key i=key j):i=j:=by
 have e:=congrArg (λb:ByteArray=>Nd.v4 (Nd.bs b)) h
 have h1:Nd.v4 (Nd.n4 i.toNat)=i.toNat:=Nd.v4_n4 (by omega)
 have h2:Nd.v4 (Nd.n4 j.toNat)=j.toNat:=Nd.v4_n4 (by omega)
 have e:Nd.v4 (Nd.n4 i.toNat)=Nd.v4 (Nd.n4 j.toNat):=e
 omega
theorem key_size(i:Int):(key i).size=4:=rfl
theorem get_kv{l:List Item}(hl:Ub l){i:Int}(hi:0<=i/\i<4294967296):Tr.get (kv l) (key i)=(node l i).map txt:=by
 induction l with
 |nil=>rfl
 | cons y l ih=>
  show(if key y.1=key i then some (txt y.2)else Tr.get (kv l) (key i))=_
  unfold node
  by_cases e:y.1=i
  ·rw[if_pos (by rw[e]),if_pos e];rfl
  ·rw[if_neg (λh=>e (K8 (hl y List.mem_cons_self) hi h)),if_neg e]
   exact ih λz hz=>hl z (List.mem_cons_of_mem _ hz)
theorem del_kv{l:List Item}(hl:Ub l){i:Int}(hi:0<=i/\i<4294967296):Tr.del (kv l) (key i)=kv (dropL l i):=by
 unfold Tr.del kv dropL
 rw[List.filter_map]
 congr 1
 refine List.filter_congr λy hy=> ?_
 show decide (key y.1≠key i)=decide (y.1≠i)
 refine decide_eq_decide.2 (not_congr ⟨λh=>K8 (hl y hy) hi h,λh=>by rw[h]⟩)
theorem Ks{l:List Item}{i:Int}(h: ∀y∈l,y.1≠i):dropL l i=l:=List.filter_eq_self.2 λy hy=>by simpa using h y hy
theorem QU{y:Item}{l:List Item}{i:Int}{x:Node}(h:y.1≠i):setL (y::l) i x=y::setL l i x:=by
 unfold setL
 rw[List.map_cons,if_neg h,node,if_neg h,List.cons_append]
theorem setL_no{l:List Item}{i:Int}{x:Node}(h: ∀y∈l,y.1≠i):(l.map λy=>if y.1=i then(i,x)else y)=l:=by
 conv=>rhs;rw[<-List.map_id l]
 exact List.map_congr_left λy hy=>if_neg (h y hy)
theorem put_kv{l:List Item}(hl:Ub l)(h:Rising l){i:Int}(hi:0<=i/\i<4294967296)(x:Node)(hx:(node l i).isSome=true\/ ∀y∈l,y.1<i):Tr.put less (kv l) (key i) (txt x)=kv (setL l i x):=by
 induction l with
 |nil=>rfl
 | cons y l ih=>
  have hy:=hl y List.mem_cons_self
  have hl':Ub l:=λz hz=>hl z (List.mem_cons_of_mem _ hz)
  obtain⟨h1,h2⟩:=List.pairwise_cons.1 h
  show(if less (key y.1) (key i)=true then(key y.1,txt y.2)::Tr.put less (kv l) (key i) (txt x)else(key i,txt x)::Tr.del (kv (y::l)) (key i))=_
  rw[zcU hy hi]
  by_cases e:y.1<i
  ·rw[if_pos (decide_eq_true e),QU (Int.ne_of_lt e),ih hl' h2 ?_]
   ·rfl
   ·rcases hx with hx|hx
    ·unfold node at hx
     rw[if_neg (Int.ne_of_lt e)]at hx
     exact .inl hx
    ·exact .inr λz hz=>hx z (List.mem_cons_of_mem _ hz)
  ·rw [if_neg (by simpa using e),del_kv hl hi]
   rcases hx with hx|hx
   ·by_cases e2:y.1=i
    ·have hn: ∀z∈l,z.1≠i:=λz hz=>by have:=h1 z hz;omega
     have hd:dropL (y::l) i=l:=by
      unfold dropL
      rw[List.filter_cons,if_neg (by simp[e2])]
      exact Ks hn
     have hs:setL (y::l) i x=(i,x)::l:=by
      unfold setL
      rw[List.map_cons,if_pos e2,setL_no hn,node,if_pos e2]
      simp
     rw[hd,hs];rfl
    ·have:node l i=none:=node_none.2 λz hz=>by have:=h1 z hz;omega
     unfold node at hx
     rw[if_neg e2,this]at hx
     cases hx
   ·exact absurd (hx y List.mem_cons_self) e
theorem kv_len(l:List Item):(kv l).length=l.length:=List.length_map _
theorem kv_keys(l:List Item):(kv l).map (·.1)=l.map λy=>key y.1:=by unfold kv;rw[List.map_map];rfl
end Fs
namespace Go.Proofs.YtabmamofnhcgbaaGreatDoor
open Go.RowKit Go.Less
attribute [local go_sem 9000] zg zf zz zA zB zC
abbrev zc:Array Value:= #[.int .i64 0,.int .i64 0,.string ⟨#[]⟩,.string ⟨#[]⟩,.slice none 0 0]
theorem zs(w:World):Ents none 0 [] w:=⟨rfl,λi hi=>by omega⟩
structure Gat (w:World) (cs:Array Value) (l:List En) (v:Value) (wr:World):Prop where
 own:Own (w.heap.size+2) v l wr
 box:wr.heap[w.heap.size]?=some (.cells cs 43 (0,0))
 res:wr.heap[w.heap.size+1]?=some (.cells zc 43 (0,0))
 big:w.heap.size+2<=wr.heap.size
 below:Below w.heap.size w wr
theorem xV{w wr w4:World}{cs:Array Value}{l:List En}{v v4:Value}{x:En}{o:Obj}(h:Gat w cs l v wr)(hO:Own (w.heap.size+2) v l (wr.alloc o))(hg:(wr.alloc o).grownBy w4 v.ownBlock)
  (hown:Own (w.heap.size+2) v4 (l++[x]) w4):Gat w cs (l++[x]) v4 w4:=by
 have hA:=(Below.refl wr.heap.size wr).alloc (Nat.le_refl _) o
 have big:=h.big
 have hne: ∀y,y<w.heap.size+2->some y≠v.ownBlock:=λy hy e=>by have:=owns_lt hO y e.symm;omega
 have hbig:wr.heap.size<=(wr.alloc o).heap.size:=hA.size
 have hs:(wr.alloc o).heap.size<=w4.heap.size:=hg.size
 refine⟨hown,grown_obj hg ((hA.block _ (lt_of_obj h.box)).trans h.box) (hne _ (by omega)),grown_obj hg ((hA.block _ (lt_of_obj h.res)).trans h.res) (hne _ (by omega)),by omega, ?_⟩
 exact(h.below.trans (hA.mono h.below.size)).grown hg (Nat.le_trans h.below.size hbig) (λj hj=>by have:=owns_lt hO j hj;omega)
theorem set5{w:World}{g:Nat}{x0 x1 x2 x3 x4:Value}(v0 v1 v2 v3 v4:Value)(h:w.heap[g]?=some (.cells #[x0,x1,x2,x3,x4] 43 (0,0))):
  (((((w.setCell ⟨g,0,none⟩ v0).setCell ⟨g,1,none⟩ v1).setCell ⟨g,2,none⟩ v2).setCell ⟨g,3,none⟩ v3).setCell ⟨g,4,none⟩ v4).heap[g]?=some (.cells #[v0,v1,v2,v3,v4] 43 (0,0)):=by
 have h0:=heap_setCell_same w g 0 _ 43 v0 h
 have h1:=heap_setCell_same _ g 1 _ 43 v1 h0
 have h2:=heap_setCell_same _ g 2 _ 43 v2 h1
 have h3:=heap_setCell_same _ g 3 _ 43 v3 h2
 have h4:=heap_setCell_same _ g 4 _ 43 v4 h3
 simpa using h4
theorem zI{n0:Nat}{w W:World}{g:Nat}(h:Below n0 w W)(hg:n0<=g)(v0 v1 v2 v3 v4:Value):
  Below n0 w (((((W.setCell ⟨g,0,none⟩ v0).setCell ⟨g,1,none⟩ v1).setCell ⟨g,2,none⟩ v2).setCell ⟨g,3,none⟩ v3).setCell ⟨g,4,none⟩ v4):=
 ((((h.setCell hg v0).setCell hg v1).setCell hg v2).setCell hg v3).setCell hg v4
theorem yp{base:Nat}{v:Value}{l:List En}{w:World}(h:Own base v l w){g:Nat}(hg:g<base)(k:Nat)(y:Value):Own base v l (w.setCell ⟨g,k,none⟩ y):=by
 refine World.ownsRow.kept h (?_:w.grownBy _ (some g)) (.inr λe=> ?_)
 ·exact⟨rfl,rfl,rfl,by simp[World.setCell],λj hj hne=>heap_setCell_other w ⟨g,k,none⟩ j _ (λe=>hne (by rw[e]))⟩
 ·have:=owns_lt h g e;omega
theorem yj{base:Nat}{v:Value}{l:List En}{w:World}(h:Own base v l w){g:Nat}(hg:g<base)(v0 v1 v2 v3 v4:Value):
  Own base v l (((((w.setCell ⟨g,0,none⟩ v0).setCell ⟨g,1,none⟩ v1).setCell ⟨g,2,none⟩ v2).setCell ⟨g,3,none⟩ v3).setCell ⟨g,4,none⟩ v4):=
 yp (yp (yp (yp (yp h hg 0 v0) hg 1 v1) hg 2 v2) hg 3 v3) hg 4 v4
theorem yw(w:World)(x:Obj):(w.alloc x).heap.size=w.heap.size+1:=by simp
theorem Xw(w:World)(x y:Obj):((w.alloc x).alloc y).heap[w.heap.size]?=some x:=by
 have h:=heap_alloc_new w x
 have hb:=(Below.refl (w.alloc x).heap.size (w.alloc x)).alloc (Nat.le_refl _) y
 exact(hb.block _ (lt_of_obj h)).trans h
theorem kV(w:World)(x y:Obj):((w.alloc x).alloc y).heap[w.heap.size+1]?=some y:=by rw[<-yw w x];exact heap_alloc_new _ _
theorem two2(w:World)(x y:Obj):w.heap.size+2<=((w.alloc x).alloc y).heap.size:=by rw[yw,yw];exact Nat.le_refl _
theorem ZB(k m:Int)(d t:ByteArray)(a:Option Addr)(n cap:Nat)(l:List En)(nm:ByteArray)(w:World)(hE:Ents a n l w)(hn:n<=100000):
  Calls prog 96 #[nv k m d t a n cap,.string nm] w (vp (Nd.withoutE ⟨k,m,d,t,l⟩ nm) w):=by
 have HNL:=hid hE.count
 have hni:(n:Int)<=100000:=by omega
 have HE:=hid (λW (hb:Below w.heap.size w W)=>hE.below hb)
 have HB0:=hid (show∀x y:Obj,Below w.heap.size w ((w.alloc x).alloc y)from λx y=>((Below.refl _ w).alloc (Nat.le_refl _) _).alloc (by simp) _)
 clear hE
 by_cases e1: ¬ k=2
 ·have HR:=hid (show Nd.withoutE ⟨k,m,d,t,l⟩ nm=(Nd.none0,10) by unfold Nd.withoutE;rw[if_pos e1])
  go_enter func96,ntmps96
  go_wp2_with fail
  refine bodyPost_ret_by (zl rfl _ _ (w.heap.size+1) _ _ _ _ _ rfl (kV _ _ _)) rfl ⟨none,0,by rw[HR.out];rfl,by rw[HR.out];exact zs _,HB0.out _ _⟩
 ·obtain rfl:=Decidable.not_not.1 e1
  clear e1
  go_enter func96,ntmps96
  go_wp2_with fail
  go_loopw [6,7,8] (λv g i wr=> ∃j:Nat,j<=n/\i= .int .i64 j/\g= .bool (Nd.find (l.take j) nm).isSome/\Gat w #[.int .i64 2,.int .i64 m,.string d,.string t,.slice a n cap] (Nd.cut (l.take j) nm) v wr) (λ_ _ i _=>n-(intOf i).toNat)
  case atStart=>exact⟨0,Nat.zero_le _,rfl,rfl,⟨own_nil _ _,Xw _ _ _,kV _ _ _,two2 _ _ _,HB0.out _ _⟩⟩
  case round=>
   obtain⟨j,hj,rfl,rfl,hG⟩:=hrel
   obtain⟨ao,cp,rfl⟩:=owns_form hG.own
   have cb:=cell_obj hG.box 4
   have cb':wr.cell? ⟨w.heap.size,4,none⟩=some (.slice a n cap):=cb
   clear cb
   by_cases hlt:j<n
   ·have j0:(j:Int)<(n:Int):=by omega
    have hj0:(0:Int)<=(j:Int):=by omega
    obtain⟨b,off,rfl,c0,c1⟩:=(HE.out _ hG.below).cell j hlt
    have hjl:j<l.length:=by rw[<-HNL.out];exact hlt
    have hT:=yo hjl z0
    have HC:=hid (zdB (l.take j) (l.getD j z0) nm)
    have HF:=hid (zaM (l.take j) (l.getD j z0) nm)
    rw[<-hT]at HC HF
    have hcl:=ze7 (l.take j) nm
    rw[List.length_take]at hcl
    have HL:=hid (show(Nd.cut (l.take j) nm).length<=100000 by omega)
    clear hcl hjl hT
    have HG:=hid hG
    clear hG
    generalize l.getD j z0=x at c0 c1 HC HF
    generalize hf:(Nd.find (l.take j) nm).isSome=f at*
    generalize Nd.cut (l.take j) nm=C at*
    cases hx:(!f&&alike x.1 nm)
    ·have HC2:=hid (show Nd.cut (l.take (j+1)) nm=C++[x] by rw[HC.out,if_pos (by revert hx;cases f<;>cases alike x.1 nm<;>simp)])
     have HF2:=hid (show(Nd.find (l.take (j+1)) nm).isSome=f by rw[HF.out];revert hx;cases f<;>cases alike x.1 nm<;>simp)
     have hA:=(Below.refl wr.heap.size wr).alloc (Nat.le_refl _) (.cells #[.string x.1,.int .i64 x.2] 132)
     have HO:=hid (owned_below HG.out.own hA)
     have HN:=hid (heap_alloc_new wr (.cells #[.string x.1,.int .i64 x.2] 132))
     have HS:=hid (Nat.le_trans HG.out.big hA.size)
     clear hA hf
     cases f
     ·have hx2:alike x.1 nm=false:=by simpa using hx
      clear hx
      go_wp2_with (first|(at_builtin;refine jh rfl _ _ rfl (w.heap.size+2) _ C (by rfl) HO.out wr.heap.size x (by rfl) HN.out (Nat.le_trans HL.out (by decide)) HS.out ?_;intro ao4 cap4 w4 hown4 hgrow4;have HG4:=hid (xV HG.out HO.out hgrow4 (by simpa[Own] using hown4));clear hown4 hgrow4)|fail)
      go_roundw
      case rel=>exact⟨j+1,by omega,by go_num,by rw[HF2.out],by rw[HC2.out];exact HG4.out⟩
      case measure=>simp[intOf];omega
     ·clear hx
      go_wp2_with (first|(at_builtin;refine jh rfl _ _ rfl (w.heap.size+2) _ C (by rfl) HO.out wr.heap.size x (by rfl) HN.out (Nat.le_trans HL.out (by decide)) HS.out ?_;intro ao4 cap4 w4 hown4 hgrow4;have HG4:=hid (xV HG.out HO.out hgrow4 (by simpa[Own] using hown4));clear hown4 hgrow4)|fail)
      go_roundw
      case rel=>exact⟨j+1,by omega,by go_num,by rw[HF2.out],by rw[HC2.out];exact HG4.out⟩
      case measure=>simp[intOf];omega
    ·obtain⟨rfl,hx2⟩:f=false/\alike x.1 nm=true:=by revert hx;cases f<;>cases alike x.1 nm<;>simp
     have HC2:=hid (show Nd.cut (l.take (j+1)) nm=C by rw[HC.out,hx2];rfl)
     have HF2:=hid (show(Nd.find (l.take (j+1)) nm).isSome=true by rw[HF.out,hx2];rfl)
     clear hx hf
     go_wp2_with fail
     go_roundw
     case rel=>exact⟨j+1,by omega,by go_num,by rw[HF2.out],by rw[HC2.out];exact HG.out⟩
     case measure=>simp[intOf];omega
   ·obtain rfl:j=n:=by omega
    rw[show l.take j=l by rw[HNL.out,List.take_length]]at hG|-
    have HG:=hid hG
    clear hG
    cases hf:(Nd.find l nm).isSome
    ·have HR:=hid (show Nd.withoutE ⟨2,m,d,t,l⟩ nm=(Nd.none0,4) by unfold Nd.withoutE;rw[if_neg (by simp),if_pos hf])
     have hr:=HG.out.res
     have r0:=yl hr
     have q0:=xp hr
     clear hr
     go_wp2_with fail
     refine bodyPost_ret_by (zl rfl _ _ (w.heap.size+1) _ _ _ _ _ rfl (set5 _ _ _ _ _ HG.out.res)) rfl ⟨none,0,by rw[HR.out];rfl,by rw[HR.out];exact zs _,zI HG.out.below (Nat.le_succ _) _ _ _ _ _⟩
    ·have HR:=hid (show Nd.withoutE ⟨2,m,d,t,l⟩ nm=(⟨2,m,d,t,Nd.cut l nm⟩,0) by unfold Nd.withoutE;rw[if_neg (by simp),if_neg (by rw[hf];simp)])
     have hr:=HG.out.res
     have hx:=HG.out.box
     have r0:=yl hr
     have q0:=xp hr
     have x0:wr.cell? ⟨w.heap.size,0,none⟩=some (.int .i64 2):=cell_obj hx 0
     have x1:wr.cell? ⟨w.heap.size,1,none⟩=some (.int .i64 m):=cell_obj hx 1
     have x2:wr.cell? ⟨w.heap.size,2,none⟩=some (.string d):=cell_obj hx 2
     have x3:wr.cell? ⟨w.heap.size,3,none⟩=some (.string t):=cell_obj hx 3
     have x4:=free_obj hx 4
     clear hr hx
     go_wp2_with fail
     have hr':(wr.setCell ⟨w.heap.size,4,none⟩ (.slice ao (Nd.cut l nm).length cp)).heap[w.heap.size+1]?=some (.cells zc 43 (0,0)):=
      (heap_setCell_other wr ⟨w.heap.size,4,none⟩ (w.heap.size+1) _ (by show w.heap.size+1≠w.heap.size;omega)).trans HG.out.res
     refine bodyPost_ret_by (zl rfl _ _ (w.heap.size+1) _ _ _ _ _ rfl (set5 _ _ _ _ _ hr')) rfl ⟨ao,cp,by rw[HR.out];rfl, ?_,zI (HG.out.below.setCell (Nat.le_refl _) _) (Nat.le_succ _) _ _ _ _ _⟩
     rw[HR.out]
     exact xy (yj (yp HG.out.own (by omega) 4 _) (by omega) _ _ _ _ _)
end Go.Proofs.YtabmamofnhcgbaaGreatDoor
namespace Go.Proofs.YtabmamofnhcgbaaGreatDoor
open Go.RowKit
structure Strs (a:Option Addr) (len:Nat) (ss:List ByteArray) (w:World):Prop where
 count:len=ss.length
 cell: ∀i,i<len-> ∃b off,a=some ⟨b,off,none⟩/\w.cell? ⟨b,off+i,none⟩=some (.string (ss.getD i ByteArray.empty))
theorem Strs.below{a:Option Addr}{len:Nat}{ss:List ByteArray}{w w':World}(h:Strs a len ss w)(hb:Below w.heap.size w w'):Strs a len ss w':=
 ⟨h.count,λi hi=>by
  obtain⟨b,off,ha,hc⟩:=h.cell i hi
  exact⟨b,off,ha,(hb.cell (p:=⟨b,off+i,none⟩) (block_lt_of_cell hc)).trans hc⟩⟩
def lstr(l:List UInt8):ByteArray:=⟨l.toArray⟩
theorem lstr_size(l:List UInt8):(lstr l).size=l.length:=by show l.toArray.size=_;rw[List.size_toArray]
theorem lstr_append(a b:List UInt8):lstr a++lstr b=lstr (a++b):=by
 apply ByteArray.ext
 rw[ByteArray.data_append]
 apply Array.ext'
 rw[Array.toList_append];rfl
theorem lstr_data(l:List UInt8):(lstr l).data.toList=l:=rfl
theorem str_empty{d:ByteArray}(h:d.size=0):d=⟨#[]⟩:=Go.WideShapes.bytes_inj (List.eq_nil_of_length_eq_zero (Array.length_toList.trans h))
theorem cut_text(x:ByteArray)(a n:Nat)(_:a+n<=x.size):x.extract a (a+n)=lstr ((x.data.toList.drop a).take n):=by
 apply Go.WideShapes.bytes_inj
 rw[ByteArray.data_extract,Array.toList_extract,List.extract_eq_take_drop,Nat.add_sub_cancel_left]
 rfl
def vi(base:Nat)(v:Value)(ls:List (List UInt8))(w:World):Prop:=w.ownsRow base 9 1 v ls.length (ls.map λl=> .string (lstr l))
theorem vC{base:Nat}{v:Value}{ls:List (List UInt8)}{w w':World}(h:vi base v ls w)(hb:Below w.heap.size w w'):vi base v ls w':=
 World.ownsRow.kept h (⟨hb.os,hb.tape,hb.output,hb.size,λk hk _=>hb.block k hk⟩:w.grownBy w' none) (by cases v.ownBlock<;>simp)
theorem YF{base:Nat}{v:Value}{ls:List (List UInt8)}{w:World}(h:vi base v ls w): ∃a c,v= .slice a ls.length c:=by
 obtain⟨_,⟨rfl,h0⟩|⟨g,cap,_,rfl,_⟩⟩:=h
 ·exact⟨none,0,by rw[h0]⟩
 ·exact⟨_,_,rfl⟩
theorem um{base:Nat}{v:Value}{ls:List (List UInt8)}{w:World}(h:vi base v ls w): ∀k,v.ownBlock=some k->base<=k:=λk hk=>(World.ownsRow.lt h k hk).1
theorem yA{base n:Nat}{a:Option Addr}{c:Nat}{ls:List (List UInt8)}{w:World}(h:vi base (.slice a n c) ls w)(hn:n=ls.length):Strs a n (ls.map lstr) w:=by
 subst hn
 have h2:=h
 refine⟨(List.length_map _).symm,λi hi=> ?_⟩
 obtain⟨_,⟨e,h0⟩|⟨g,cap,cur,e,_⟩⟩:=h
 ·omega
 ·injection e with e1 e2 e3
  subst e1
  subst e3
  refine⟨g,0,rfl, ?_⟩
  rw[Nat.zero_add,World.ownsRow.cellAt h2 i (by omega),List.getElem?_map,List.getElem?_eq_getElem hi]
  simp[List.getD,List.getElem?_eq_getElem hi]
theorem zc8:(prog.info? 9).map (λi=>(i.zero,i.size,i.bytes))=some (some (.string ⟨#[]⟩),1,16):=by kernel_rfl
theorem str_eq{x y:ByteArray}(h:x=y):(x.toList==y.toList)=true:=by rw[h,beq_iff_eq]
theorem str_ne{x y:ByteArray}(h:x≠y):(x.toList==y.toList)=false:=by
 rw[beq_eq_false_iff_ne]
 intro e
 rw[ByteArray.toList_eq,ByteArray.toList_eq]at e
 exact h (Go.WideShapes.bytes_inj e)
def yb(x y:ByteArray):Bool:=decide (x=y)
theorem YI(x y:ByteArray):(x.toList==y.toList)=yb x y:=by
 unfold yb
 by_cases h:x=y
 ·rw[str_eq h,decide_eq_true h]
 ·rw[str_ne h,decide_eq_false h]
theorem xq(t:TypeId)(x y:ByteArray):binOp .eql t (.string x) (.string y)=pure (.bool (yb x y)):=by rw[binOp_string_eql,YI]
theorem vD(t:TypeId)(x y:ByteArray):binOp .neq t (.string x) (.string y)=pure (.bool (!yb x y)):=by rw[binOp_string_neq,YI]
attribute [local go_sem 9000] xq vD
end Go.Proofs.YtabmamofnhcgbaaGreatDoor
namespace Go.Proofs.YtabmamofnhcgbaaGreatDoor
open Go.RowKit
theorem b_at(s:ByteArray){i:Nat}(h:i<s.size):s[i]=s.data.toList.getD i 0:=by
 rw[List.getD,List.getElem?_eq_getElem (by rw[Array.length_toList];exact h)];rfl
theorem zdV{l:List UInt8}{p:UInt8->Bool}{k:Nat}(h:k<l.length)(ha:(l.take k).all p=true)(hk:p (l.getD k 0)=true):(l.take (k+1)).all p=true:=by
 rw[List.take_succ_eq_append_getElem h,List.all_append,ha]
 rw[List.getD,List.getElem?_eq_getElem h]at hk
 simpa using hk
theorem zeD{l:List UInt8}{p:UInt8->Bool}{k:Nat}(h:k<l.length)(hk:p (l.getD k 0)=false):l.all p=false:=by
 rw[List.all_eq_false]
 refine⟨l[k],List.getElem_mem h, ?_⟩
 rw[List.getD,List.getElem?_eq_getElem h]at hk
 simpa using hk
theorem zb7{l:List UInt8}{k:Nat}(h:k<l.length)(hk:l.getD k 0=47\/l.getD k 0=0):Nm.right l=false:=by
 unfold Nm.right
 rw[zeD h (by rcases hk with e|e<;>rw[e]<;>rfl)];simp
def yR(s:ByteArray)(w:World)(e:Ending)(w':World):Prop:=e= .returned (.bool (Nm.right s.data.toList))/\w=w'
theorem xu(s:ByteArray)(w:World)(hs:s.size<=140737488355328):Calls prog 35 #[.string s] w (yR s w):=by
 have HL:=hid (show s.data.toList.length=s.size from Array.length_toList)
 go_enter func35,ntmps35
 go_wp2_with fail
 go_loop [3] (λi=> ∃k:Nat,k<=s.size/\i= .int .i64 k/\(s.data.toList.take k).all (λx=>x !=47&&x !=0)=true) (λi=>s.size-(intOf i).toNat)
 case atStart=>exact⟨0,Nat.zero_le _,rfl,rfl⟩
 case round=>
  obtain⟨k,hk,rfl,hb⟩:=hrel
  by_cases hlt:k<s.size
  ·have k0:(k:Int)<(s.size:Int):=by omega
   have hk0:(0:Int)<=(k:Int):=by omega
   have hko:k<s.data.size:=hlt
   have hat:=b_at s hlt
   have HA:=hid (λh=>zdV (l:=s.data.toList) (k:=k) (by rw[HL.out];exact hlt) hb h)
   have HN:=hid (λh=>zb7 (l:=s.data.toList) (k:=k) (by rw[HL.out];exact hlt) h)
   rw[<-hat]at HA HN
   clear hb hat
   by_cases h47:s[k]=47
   ·have hz:s[k].toNat=47:=by rw[h47];rfl
    have HR:=hid (HN.out (.inl h47))
    clear h47 HA HN
    go_wp2_with fail
    go_ret
    show yR s w _ _
    unfold yR
    rw[HR.out]
    exact⟨rfl,rfl⟩
   ·by_cases h0:s[k]=0
    ·have hz:s[k].toNat=0:=by rw[h0];rfl
     have HR:=hid (HN.out (.inr h0))
     clear h47 h0 HA HN
     go_wp2_with fail
     go_ret
     show yR s w _ _
     unfold yR
     rw[HR.out]
     exact⟨rfl,rfl⟩
    ·have hz1: ¬ s[k].toNat=47:=λe=>h47 (UInt8.toNat_inj.1 e)
     have hz0: ¬ s[k].toNat=0:=λe=>h0 (UInt8.toNat_inj.1 e)
     have hb1:((s[k].toNat:Int)==47)=false:=by rw[beq_eq_false_iff_ne];omega
     have hb0:((s[k].toNat:Int)==0)=false:=by rw[beq_eq_false_iff_ne];omega
     have HR:=hid (HA.out (by simp[h47,h0]))
     clear h47 h0 HA HN
     go_wp2_with fail
     go_round
     case rel=>exact⟨k+1,by omega,by go_num,HR.out⟩
     case measure=>simp[intOf];omega
  ·obtain rfl:k=s.size:=by omega
   have hall:s.data.toList.all (λx=>x !=47&&x !=0)=true:=by rw[<-HL.out,List.take_length]at hb;exact hb
   have HR:=hid (show Nm.right s.data.toList=(decide (1<=s.size)&&decide (s.size<=16)&&(s.data.toList !=[46])&&(s.data.toList !=[46,46]))from by unfold Nm.right;rw[hall,HL.out];simp)
   clear hb hall
   have fin: ∀(b:Bool),(decide (1<=s.size)&&decide (s.size<=16)&&(s.data.toList !=[46])&&(s.data.toList !=[46,46]))=b->yR s w (.returned (.bool b)) w:=λb hb=>by
    unfold yR
    rw[HR.out,hb]
    exact⟨rfl,rfl⟩
   have HF:=hid fin
   clear fin HR
   have ht:s.toList=s.data.toList:=Lib.toList_data s
   rcases Nat.lt_or_ge s.size 1 with a1|a1
   ·have b1:(s.size:Int)<1:=by omega
    have HB:=hid (HF.out false (by rw[decide_eq_false (by omega)];rfl))
    clear a1 ht
    go_wp2_with fail
    go_ret
    exact HB.out
   have b1:(1:Int)<=(s.size:Int):=by omega
   rcases Nat.lt_or_ge 16 s.size with a2|a2
   ·have b2:(16:Int)<(s.size:Int):=by omega
    have HB:=hid (HF.out false (by rw[decide_eq_false (p:=s.size<=16) (by omega)];simp))
    clear a1 a2 ht
    go_wp2_with fail
    go_ret
    exact HB.out
   have b2:(s.size:Int)<=16:=by omega
   have hd1:decide (1<=s.size)=true:=by simp;exact a1
   have hd2:decide (s.size<=16)=true:=by simp;exact a2
   by_cases e1:s.data.toList=[46]
   ·have c1:(s.toList==[46])=true:=by rw[ht,e1];rfl
    have HB:=hid (HF.out false (by rw[e1];simp))
    clear a1 a2 ht e1 hd1 hd2
    go_wp2_with fail
    go_ret
    exact HB.out
   have c1:(s.toList==[46])=false:=by rw[ht,beq_eq_false_iff_ne];exact e1
   by_cases e2:s.data.toList=[46,46]
   ·have c2:(s.toList==[46,46])=true:=by rw[ht,e2];rfl
    have HB:=hid (HF.out false (by rw[e2];simp))
    clear a1 a2 ht e1 e2 hd1 hd2
    go_wp2_with fail
    go_ret
    exact HB.out
   ·have c2:(s.toList==[46,46])=false:=by rw[ht,beq_eq_false_iff_ne];exact e2
    have HB:=hid (HF.out true (by
     rw[hd1,hd2,show(s.data.toList !=[46])=true from by rw[bne_iff_ne];exact e1,show(s.data.toList !=[46,46])=true from by rw[bne_iff_ne];exact e2];rfl))
    clear a1 a2 ht e1 e2 hd1 hd2
    go_wp2_with fail
    go_ret
    exact HB.out
end Go.Proofs.YtabmamofnhcgbaaGreatDoor
