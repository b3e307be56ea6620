/- A part of the proofs. -/
import Derived.Deep.RegionLaw
import Derived.Deep.AppendLies
import Derived.Laws.OwnMore
import Derived.OwnWalk
import Derived.Laws.MakeOwn
import Derived.Lib.ConvBytes
import Derived.Laws.IdiomStrings
import Derived.Laws.AppendOwn
import Derived.Laws.BytesArg
import Derived.Test.YtabmamofnhcgbaaGreatDoorC03
set_option maxRecDepth 1000000
set_option maxHeartbeats 16000000
open Go.Lib (hid)
open Go.Proofs.Tryz
namespace Go.Proofs.YtabmamofnhcgbaaGreatDoor.T8
open Go.RowKit Sha
attribute [local go_sem 9000] run_bytes1
theorem j1:(prog.info? 9).map (λi=>(i.zero,i.size,i.bytes))=some (some (.string ⟨#[]⟩),1,16):=by kernel_rfl
def Texts(base:Nat)(v:Value)(l:List ByteArray)(w:World):Prop:=w.ownsRow base 9 1 v l.length (l.map Value.string)
theorem Texts.below{base:Nat}{v:Value}{l:List ByteArray}{w w':World}(h:Texts base v l w)(hb:Below w.heap.size w w'):Texts base v l w':=
 World.ownsRow.kept h (⟨hb.os,hb.tape,hb.output,hb.size,λk hk _=>hb.block k hk⟩:w.grownBy w' none) (by cases v.ownBlock<;>simp)
theorem Vp{ops:Array Oper}{o:Oper}{a:Act}{w:World}{K:Act->World->Prop}{Q:Exit->Act->World->Prop}{E:Prop}(hgd:o.guard=none)(s x:Operand)
  (ho:o.op= .call {callee:= .builtin .append,args:= #[s,x],argTypes:= #[52,52]}) (base:Nat) (l:List ByteArray) (v:Value) (hs:a.eval s=v) (hown:Texts base v l w)
  (b:Nat) (y:ByteArray) (hx:a.eval x= .slice (some ⟨b,0,none⟩) 1 1) (hc:w.cell? ⟨b,0,none⟩=some (.string y)) (hl:l.length<=100000) (hbase:base<=w.heap.size)
  (h: ∀v' w',Texts base v' (l++[y]) w'->w.grownBy w' v.ownBlock->K (a.put o.dst v') w'):
  if Region.wanted o (yielded ops a.tmps)=true then Oper.wp prog o a w K Q else E:=by
 have hw:Region.wanted o (yielded ops a.tmps)=true:=by simp[Region.wanted,hgd]
 rw[if_pos hw]
 obtain⟨i0,hi,hz0,hz1,hz2⟩:=info_parts j1
 refine wp_append_own w s x 52 ho base 9 i0 (.string ⟨#[]⟩) 1 16 underlying52 hi hz0 hz1 hz2 rfl (by decide) v l.length (l.map Value.string) hs hown ⟨b,0,none⟩ 1 1 [.string y] hx rfl ?_ ?_ (by unfold maxLen;omega) (by omega) hbase ?_
 ·intro j u hj
  match j with
  |0=>simp at hj;subst hj;simpa[Addr.add] using hc
  |j+1=>simp at hj
 ·intro u hu;simp at hu;subst hu;rfl
 ·intro v' w' hown' hg _
  refine h v' w' ?_ hg
  unfold Texts
  rw[List.length_append,List.map_append]
  exact hown'
def uc(t:UInt8)(ss:List ByteArray):List ByteArray:=⟨#[t]⟩::ss.flatMap λs=>[numStr s.size 4,s]
theorem qY(t:UInt8)(ss:List ByteArray)(k:Nat)(h:k<ss.length):uc t (ss.take (k+1))=(uc t (ss.take k)++[numStr (ss.getD k ByteArray.empty).size 4])++[ss.getD k ByteArray.empty]:=by
 rw[List.take_succ_eq_append_getElem h]
 unfold uc
 rw[List.flatMap_append]
 simp[List.getD,List.getElem?_eq_getElem h]
theorem kq(t:UInt8)(ss:List ByteArray):(uc t ss).length=1+2*ss.length:=by
 unfold uc
 rw[List.length_cons]
 induction ss with
 |nil=>rfl
 |cons x ss ih=>rw[List.flatMap_cons,List.length_append,List.length_cons];simp at ih|-;omega
theorem za8(ss:List ByteArray):cat (ss.flatMap λs=>[numStr s.size 4,s])=zS ss:=by
 induction ss with
 |nil=>rfl
 |cons x ss ih=>
  have e1:(x::ss).flatMap (λs=>[numStr s.size 4,s])=numStr x.size 4::x::ss.flatMap (λs=>[numStr s.size 4,s]):=rfl
  have e2: ∀(y:ByteArray) l,cat (y::l)=y.data.toList++cat l:=λ_ _=>rfl
  have e3:zS (x::ss)=(num x.size 4++x.data.toList)++zS ss:=rfl
  rw[e1,e2,e2,ih,e3,numStr_data,List.append_assoc]
theorem za7(t:UInt8)(ss:List ByteArray):cat (uc t ss)=t::zS ss:=by
 rw[<-za8];rfl
theorem UI(w:World)(A:Obj)(c:Array Value)(t:TypeId)(i:Nat):((w.alloc A).alloc (.cells c t)).cell? ⟨w.heap.size+1,i,none⟩=c[i]?:=by
 have:=World.cell?_alloc_new (w.alloc A) c t i
 rwa [World.size_alloc]at this
theorem jX{w w3:World}{row:Option Nat}{b:Nat}{y:ByteArray}(hg:w.grownBy w3 row)(hc:w.cell? ⟨b,0,none⟩=some (.string y))(hne:some b≠row):w3.cell? ⟨b,0,none⟩=some (.string y):=hg.cell hc hne
theorem ZJ{w:World}{base:Nat}{e:TypeId}{size:Nat}{v:Value}{n:Nat}{xs:List Value}(h:w.ownsRow base e size v n xs): ∃a c,v= .slice a n c:=by
 obtain⟨_,⟨rfl,rfl⟩|⟨g,cap,cur,rfl,_⟩⟩:=h
 ·exact⟨none,0,rfl⟩
 ·exact⟨_,cap,rfl⟩
theorem strs_owned{base:Nat}{v:Value}{n:Nat}{ss:List ByteArray}{w:World}(h:w.ownsRow base 9 1 v n (ss.map Value.string))(hn:n=ss.length): ∃a c,v= .slice a n c/\Strs a n ss w:=by
 obtain⟨a,c,rfl⟩:=ZJ h
 refine⟨a,c,rfl,hn,λi hi=> ?_⟩
 have h2:=h
 obtain⟨_,⟨e,h0⟩|⟨g,cap,cur,e,_⟩⟩:=h
 ·omega
 ·injection e with e1 e2 e3
  subst e1
  refine⟨g,0,rfl, ?_⟩
  rw[Nat.zero_add,World.ownsRow.cellAt h2 i (by omega),List.getElem?_map,List.getElem?_eq_getElem (by omega)]
  simp[List.getD,List.getElem?_eq_getElem (show i<ss.length by omega)]
theorem Vl(w:World)(t:UInt8):Texts w.heap.size (.slice (some ⟨w.heap.size+1,0,none⟩) 1 1) (uc t []) ((w.alloc (.cells #[bv t] 5)).alloc (.cells #[.string ⟨#[t]⟩] 9)):=by
 refine⟨rfl,.inr ⟨w.heap.size+1,1,#[.string ⟨#[t]⟩],rfl,Nat.le_succ _,heap_alloc2_new w _ _,Nat.le_refl _,by decide,rfl,rfl⟩⟩
theorem qG(t:UInt8)(a0:Option Addr)(len cap0:Nat)(ss:List ByteArray)(w:World)(hS:Strs a0 len ss w)(hsz:1+(zS ss).length<=1000000)(hlen:len<=1000):
  Calls prog 69 #[bv t,.slice a0 len cap0] w λe w'=>e= .returned (.string (lstr (sha (t::zS ss))))/\Below w.heap.size w w':=by
 go_enter func69,ntmps69
 go_wp2_with fail
 go_loopw [5,6] (λv i wr=> ∃k:Nat,k<=len/\i= .int .i64 k/\Texts w.heap.size v (uc t (ss.take k)) wr/\Below w.heap.size w wr) (λ_ i _=>len-(intOf i).toNat)
 case atStart=>exact⟨0,by omega,rfl,Vl w t,((Below.refl _ _).alloc (Nat.le_refl _) _).alloc (by simp) _⟩
 case round=>
  obtain⟨k,hk,rfl,hO,hW⟩:=hrel
  by_cases hlt:k<len
  ·obtain ⟨b,off,rfl,hcell⟩:=hS.cell k hlt
   have hc:wr.cell? ⟨b,off+k,none⟩=some (.string (ss.getD k ByteArray.empty)):=(hW.cell (p:=⟨b,off+k,none⟩) (block_lt_of_cell hcell)).trans hcell
   have hbl:=block_lt_of_cell hc
   have hks:k<ss.length:=by rw[<-hS.count];exact hlt
   have hle:=Y8 ss (k+1)
   rw[xN ss k hks,List.length_append,List.length_append,num_length]at hle
   have HC:=hid (qY t ss k hks)
   generalize ss.getD k ByteArray.empty=x at hc hle HC
   have hxl:x.data.toList.length=x.size:=Array.length_toList
   have hx:x.size<=1000000:=by omega
   have hk0:(k:Int)<(len:Int):=by omega
   have hll:=kq t (ss.take k)
   rw[List.length_take]at hll
   have hll2:(uc t (ss.take k)).length<=3000:=by omega
   clear hle hxl hll
   have hbw:b<w.heap.size:=block_lt_of_cell hcell
   clear hcell
   generalize uc t (ss.take k)=l at hO HC hll2|-
   go_wp2_with fail
   have hne: ∀bx,wr.heap.size<=bx->some bx≠u5.ownBlock:=by
    intro bx hbx e
    have:=(World.ownsRow.lt hO bx e.symm).2
    omega
   have hbne:some b≠u5.ownBlock:=by
    intro e
    have:=(World.ownsRow.lt hO b e.symm).1
    omega
   have HBN:=hid hbne
   have HNE:=hid hne
   clear hbne
   clear hne
   have c1: ∀o,(wr.alloc o).cell? ⟨b,off+k,none⟩=some (.string x):=λo=>(World.cell?_alloc_lt _ _ _ hbl).trans hc
   go_region_law (first
    | (go_simp;go_at_call 111;refine(number_any x.size _ _ _ rfl (by omega) (by omega) (by omega)).mono ?_;rintro e wn ⟨rfl,hwn⟩
       have hsz:wr.heap.size<=wn.heap.size:=Nat.le_trans (by simp) hwn.size
       have hsz2:=hwn.size
       try simp only[World.size_alloc,World.size_drew]at hsz2
       have n0:wn.cell? ⟨b,off+k,none⟩=some (.string x):=(hwn.cell (p:=⟨b,off+k,none⟩) (by simp;omega)).trans (by first|exact hc|exact c1 _)
       have n1: ∀o,(wn.alloc o).cell? ⟨b,off+k,none⟩=some (.string x):=λo=>(World.cell?_alloc_lt _ _ _ (block_lt_of_cell n0)).trans n0
       have n2: ∀o1 o2,((wn.alloc o1).alloc o2).cell? ⟨b,off+k,none⟩=some (.string x):=λo1 o2=>(World.cell?_alloc_lt _ _ _ (block_lt_of_cell (n1 o1))).trans (n1 o1)
       have hBn:Below wr.heap.size wr wn:=by
         first
           |exact(Below.refl _ _).drew.trans hwn
           |exact((Below.refl _ _).drew.alloc (Nat.le_refl _) _).trans (hwn.mono (by simp))
           |exact(((Below.refl _ _).alloc (Nat.le_refl _) _).drew).trans (hwn.mono (by simp)))
    | (refine Vp rfl (.tmp 17) (.tmp 24) rfl w.heap.size l _ rfl (hO.below (by
         first
           |exact hBn.alloc hsz _
           |exact(hBn.alloc hsz _).alloc (Nat.le_trans hsz (by simp)) _)) _ (numStr x.size 4) rfl (by
         first
           |(simp;done)
           |(rw[World.cell?_alloc_lt _ _ _ (by simp)];simp;done)) (by omega) (by simp;have:=hW.size;omega) ?_
       intro v2 w3 hT hg
       have p0:w3.cell? ⟨b,off+k,none⟩=some (.string x):=hg.cell (by first|exact n1 _|exact n2 _ _) HBN.out
       have hB3:Below w.heap.size w w3:=by
         first
           |exact(hW.trans ((hBn.alloc hsz _).mono hW.size)).grown hg (by simp;have:=hW.size;omega) (λq hq=>(World.ownsRow.lt hO q hq).1)
           |exact(hW.trans (((hBn.alloc hsz _).alloc (Nat.le_trans hsz (by simp)) _).mono hW.size)).grown hg (by simp;have:=hW.size;omega) (λq hq=>(World.ownsRow.lt hO q hq).1))
    | (refine Vp rfl (.tmp 25) (.tmp 30) rfl w.heap.size (l++[numStr x.size 4]) _ rfl (by
         first
           |exact hT
           |exact hT.below ((Below.refl _ _).alloc (Nat.le_refl _) _)) _ x rfl (by
         first
           |(simp;done)
           |exact jX hg (UI _ _ _ _ _) (HNE.out _ (by omega))
           |exact jX hg ((World.cell?_alloc_lt _ _ _ (by simp)).trans (by simp)) (HNE.out _ (by omega))
           |exact jX hg ((World.cell?_alloc_lt _ _ _ (by simp;omega)).trans ((hwn.cell (by simp)).trans (by simp))) (HNE.out _ (by omega))) (by rw[List.length_append];simp;omega) (by first|exact hB3.size|(simp;have:=hB3.size;omega)) ?_
       intro v4 w4 hT2 hg2
       have hB4:Below w.heap.size w w4:=by
         first
           |exact hB3.grown hg2 hB3.size (λq hq=>(World.ownsRow.lt hT q hq).1)
           |exact(hB3.alloc hB3.size _).grown hg2 (by simp;have:=hB3.size;omega) (λq hq=>(World.ownsRow.lt hT q hq).1))
    )
   all_goals
    go_wp2_with fail
    go_roundw
    case rel=>exact⟨k+1,by omega,by go_num,by rw[HC.out];exact hT2,hB4⟩
    case measure=>simp[intOf];omega
  ·obtain rfl:k=len:=by omega
   have hcount:=hS.count
   rw[show ss.take k=ss by rw[hcount,List.take_length]]at hO
   obtain⟨a,c,rfl,hT⟩:=strs_owned hO rfl
   have hlr:=kq t ss
   have hlr2:(uc t ss).length<=3000:=by omega
   clear hlr hcount
   have HE:=hid (za7 t ss)
   have hcat:(cat (uc t ss)).length<=1000001:=by rw[HE.out,List.length_cons];omega
   generalize uc t ss=l at hT hlr2 hcat HE|-
   clear hO
   go_wp2_with fail
   refine(Jz a l.length c l _ hT (by omega) (by omega)).mono ?_
   rintro e w4 ⟨rfl,hw4⟩
   rw[HE.out]
   dsimp only
   go_wp2_with fail
   go_ret
   exact⟨rfl,hW.trans (hw4.mono hW.size)⟩
end Go.Proofs.YtabmamofnhcgbaaGreatDoor.T8
namespace Go.Proofs.YtabmamofnhcgbaaGreatDoor.T8
open Go.RowKit
theorem owns_form{w:World}{base:Nat}{e:TypeId}{size:Nat}{v:Value}{n:Nat}{xs:List Value}(h:w.ownsRow base e size v n xs): ∃a c,v= .slice a n c:=by
 obtain⟨_,⟨rfl,rfl⟩|⟨g,cap,_,rfl,_⟩⟩:=h
 ·exact⟨_,_,rfl⟩
 ·exact⟨_,_,rfl⟩
theorem owns_lt{w:World}{base:Nat}{e:TypeId}{size:Nat}{v:Value}{n:Nat}{xs:List Value}(h:w.ownsRow base e size v n xs): ∀k,v.ownBlock=some k->base<=k/\k<w.heap.size:=by
 intro k hk
 obtain⟨_,⟨rfl,rfl⟩|⟨g,cap,cur,rfl,h1,h2,_⟩⟩:=h
 ·cases hk
 ·injection hk with hk
  subst hk
  refine⟨h1, ?_⟩
  rcases Nat.lt_or_ge g w.heap.size with h3|h3
  ·exact h3
  ·rw[Array.getElem?_eq_none h3]at h2;cases h2
theorem owned_below{w w':World}{base:Nat}{e:TypeId}{size:Nat}{v:Value}{n:Nat}{xs:List Value}(h:w.ownsRow base e size v n xs)(hb:Below w.heap.size w w'):w'.ownsRow base e size v n xs:=
 World.ownsRow.kept h (⟨hb.os,hb.tape,hb.output,hb.size,λk hk _=>hb.block k hk⟩:w.grownBy w' none) (by cases v.ownBlock<;>simp)
theorem at_app1{ops:Array Oper}{rest:List Oper}{o:Oper}{a:Act}{Q:Exit->Act->World->Prop}{w:World}(hgd:o.guard=none)(s x:Operand)
  (ho:o.op= .call {callee:= .builtin .append,args:= #[s,x],argTypes:= #[52,52]})
  (base:Nat) (v:Value) (n:Nat) (xs:List Value) (hs:a.eval s=v) (hown:w.ownsRow base 9 1 v n xs)
  (b:Nat) (u:Value) (hx:a.eval x= .slice (some ⟨b,0,none⟩) 1 1) (hc:w.cell? ⟨b,0,none⟩=some u) (hu:u.oneCell'=true) (hn:n<=1000000) (hbase:base<=w.heap.size)
  (h: ∀ao' cap' w',w'.ownsRow base 9 1 (.slice ao' (n+1) cap') (n+1) (xs++[u])->w.grownBy w' v.ownBlock->wpList prog ops Q rest (a.put o.dst (.slice ao' (n+1) cap')) w'):
  wpList prog ops Q (o::rest) a w:=by
 obtain⟨i0,hi,hz0,hz1,hz2⟩:=info_parts j1
 refine wpList_append_own w hgd s x 52 ho base 9 i0 (.string ⟨#[]⟩) 1 16 underlying52 hi hz0 hz1 hz2 rfl (by decide) v n xs hs hown ⟨b,0,none⟩ 1 1 [u] hx rfl ?_ ?_ (by unfold maxLen;omega) (by omega) hbase ?_
 ·intro j y hj
  match j with
  |0=>simp at hj;subst hj;simpa[Addr.add] using hc
  |j+1=>simp at hj
 ·intro y hy;simp at hy;subst hy;exact hu
 ·intro v' w' hown' hg _
  obtain⟨ao',cap',rfl⟩:=owns_form hown'
  exact h ao' cap' w' hown' hg
theorem QO{ops:Array Oper}{o:Oper}{a:Act}{w:World}{K:Act->World->Prop}{Q:Exit->Act->World->Prop}{E:Prop}(hgd:o.guard=none)(s x:Operand)
  (ho:o.op= .call {callee:= .builtin .append,args:= #[s,x],argTypes:= #[52,52]})
  (base:Nat) (v:Value) (n:Nat) (xs:List Value) (hs:a.eval s=v) (hown:w.ownsRow base 9 1 v n xs)
  (b:Nat) (u:Value) (hx:a.eval x= .slice (some ⟨b,0,none⟩) 1 1) (hc:w.cell? ⟨b,0,none⟩=some u) (hu:u.oneCell'=true) (hn:n<=1000000) (hbase:base<=w.heap.size)
  (h: ∀ao' cap' w',w'.ownsRow base 9 1 (.slice ao' (n+1) cap') (n+1) (xs++[u])->w.grownBy w' v.ownBlock->K (a.put o.dst (.slice ao' (n+1) cap')) w'):
  if Region.wanted o (yielded ops a.tmps)=true then Oper.wp prog o a w K Q else E:=by
 have hw:Region.wanted o (yielded ops a.tmps)=true:=by simp[Region.wanted,hgd]
 rw[if_pos hw]
 obtain⟨i0,hi,hz0,hz1,hz2⟩:=info_parts j1
 refine wp_append_own w s x 52 ho base 9 i0 (.string ⟨#[]⟩) 1 16 underlying52 hi hz0 hz1 hz2 rfl (by decide) v n xs hs hown ⟨b,0,none⟩ 1 1 [u] hx rfl ?_ ?_ (by unfold maxLen;omega) (by omega) hbase ?_
 ·intro j y hj
  match j with
  |0=>simp at hj;subst hj;simpa[Addr.add] using hc
  |j+1=>simp at hj
 ·intro y hy;simp at hy;subst hy;exact hu
 ·intro v' w' hown' hg _
  obtain⟨ao',cap',rfl⟩:=owns_form hown'
  exact h ao' cap' w' hown' hg
end Go.Proofs.YtabmamofnhcgbaaGreatDoor.T8
namespace Go.Proofs.YtabmamofnhcgbaaGreatDoor.T8
open Go.RowKit Go.Less
def Tells(gk:Nat)(lb:Array Value)(m:Nat)(w0:World)(P:List Tt->World->Prop):Prop:= ∀(pre:List Tt) (b:Nat) (l:Tt) (k v:ByteArray) (r:Tt) (pl pr:Option Nat) (W:World),pre.length<m->P pre W->Node w0 b l k v r pl pr->
 Calls prog gk (#[.pointer (some ⟨b,0,none⟩)]++lb) W λe W'=>e= .returned (.tuple #[])/\P (pre++[.node l k v r]) W'
def Told(P:List Tt->World->Prop)(x:List Tt)(e:Ending)(w':World):Prop:=e= .returned (.tuple #[])/\P x w'
theorem walk_any(gk:Nat)(lb:Array Value)(eg: ∀args w,(callFunc gk args).run prog w= .ok (.enter gk args) w)(w0:World)(m:Nat)(P:List Tt->World->Prop)(hP:Tells gk lb m w0 P)(hB: ∀pre W,P pre W->Below w0.heap.size w0 W):
  ∀(t:Tt) (p:Option Nat) (pre:List Tt) (W:World),Tree w0 p t->P pre W->pre.length+t.len<=m->Calls prog 158 #[pv p,.func (.func gk) #[] lb] W (Told P (pre++t.subs)):=by
 have HP:=hid hP
 have HB:=hid hB
 clear hP hB
 intro t
 induction t with
 |leaf=>
  intro p pre W hT hp hn
  obtain rfl:p=none:=hT
  have HQ:=hid hp
  have hm:pre++Tr.T.subs (.leaf:Tt)=pre:=List.append_nil _
  rw[hm]
  clear hp hn hm
  show Calls prog 158 #[.pointer none,.func (.func gk) #[] lb] W _
  go_enter func158,ntmps158
  go_wp2_with fail
  go_end0
  exact⟨rfl,HQ.out⟩
 |node l k v r ihl ihr=>
  intro p pre W hT hp hn
  obtain⟨b,pl,pr,rfl,hN⟩:=yf hT
  simp only[Tr.T.len]at hn
  have hb0:=HB.out pre W hp
  have c5:=(hN.below hb0).c5
  have hll:=Tr.T.subs_len l
  have HI:=hid (ihl pl pre W hN.left hp (by omega))
  have HF:=hid (λW1 (h1:P (pre++l.subs) W1)=>HP.out (pre++l.subs) b l k v r pl pr W1 (by rw[List.length_append,hll];omega) h1 hN)
  have HJ:=hid (λW2 (h2:P (pre++l.subs++[.node l k v r]) W2)=>ihr pr (pre++l.subs++[.node l k v r]) W2 hN.right h2 (by simp only[List.length_append,List.length_singleton,hll];omega))
  have HN:=hid hN
  have hm:pre++Tr.T.subs (.node l k v r)=pre++l.subs++[.node l k v r]++r.subs:=by simp[Tr.T.subs]
  rw[hm]
  clear hT hp hn hN hb0 hll ihl ihr hm
  show Calls prog 158 #[.pointer (some ⟨b,0,none⟩),.func (.func gk) #[] lb] W _
  go_enter func158,ntmps158
  go_wp2_with fail
  refine HI.out.mono ?_
  rintro e W1 ⟨rfl,h1⟩
  have HH1:=hid h1
  clear h1
  dsimp only
  go_wp2_with fail
  refine(HF.out _ HH1.out).mono ?_
  rintro e W2 ⟨rfl,h2⟩
  have c6:=(HN.out.below (HB.out _ _ h2)).c6
  have HH2:=hid h2
  clear h2
  dsimp only
  go_wp2_with fail
  refine(HJ.out _ HH2.out).mono ?_
  rintro e W3 ⟨rfl,h3⟩
  have HH3:=hid h3
  clear h3
  dsimp only
  go_wp2_with fail
  go_end0
  exact⟨rfl,HH3.out⟩
end Go.Proofs.YtabmamofnhcgbaaGreatDoor.T8
namespace Go.Proofs.YtabmamofnhcgbaaGreatDoor.T8
open Go.RowKit Go.Less
attribute [local go_sem 9000] zg zf zz zA zB zC
def vF(l:List Tt):List Pr:=l.filterMap Tr.T.pair?
theorem JR(pre:List Tt)(l:Tt)(k v:ByteArray)(r:Tt):vF (pre++[.node l k v r])=vF pre++[(k,v)]:=by simp[vF,Tr.T.pair?]
theorem zac(l:List Tt):(vF l).length<=l.length:=List.length_filterMap_le _ _
theorem JQ(t:Tt):vF t.subs=t.rows:=Tr.T.subs_rows t
theorem cell_obj{w:World}{b:Nat}{cs:Array Value}{t:TypeId}{fr:Nat×Nat}(h:w.heap[b]?=some (.cells cs t fr))(k:Nat):w.cell? ⟨b,k,none⟩=cs[k]?:=by
 simp[World.cell?,h]
theorem free_obj{w:World}{b:Nat}{cs:Array Value}{t:TypeId}(h:w.heap[b]?=some (.cells cs t (0,0)))(k:Nat):w.frozen? ⟨b,k,none⟩=false:=by
 simp[World.frozen?,h]
theorem grown_obj{w w':World}{row:Option Nat}{b:Nat}{o:Obj}(hg:w.grownBy w' row)(h:w.heap[b]?=some o)(hne:some b≠row):w'.heap[b]?=some o:=(hg.block b (lt_of_obj h) hne).trans h
theorem set_obj{w:World}{b:Nat}{x y:Value}{t:TypeId}(h:w.heap[b]?=some (.cells #[x] t (0,0))):(w.setCell ⟨b,0,none⟩ y).heap[b]?=some (.cells #[y] t (0,0)):=by
 have:=heap_setCell_same w b 0 #[x] t y h
 simpa using this
theorem below_drew{w w':World}(h:Below w.drew.heap.size w.drew w'):Below w.heap.size w w':=((Below.refl w.heap.size w).drew).trans h
def zd1(w:World)(t:Tt)(W:World)(e:Ending)(W':World):Prop:= ∃p,e= .returned (pv p)/\Tree w p t/\W=W'
theorem QD{w W:World}{m:Option Nat}{t:Tt}(h:IsMap w m t)(hb:Below w.heap.size w W):Calls prog 73 #[pv m] W (zd1 w t W):=by
 cases m with
 |none=>
  clear hb
  show Calls prog 73 #[.pointer none] W _
  go_enter func73,ntmps73
  go_wp2_with fail
  go_ret
  exact⟨none,rfl,h.symm▸rfl,rfl⟩
 |some b=>
  obtain⟨p,h1,h2⟩:=h
  have c0:W.cell? ⟨b,0,none⟩=some (pv p):=cell_obj ((hb.block b (lt_of_obj h1)).trans h1) 0
  have H:=hid h2
  clear h1 h2 hb
  show Calls prog 73 #[.pointer (some ⟨b,0,none⟩)] W _
  go_enter func73,ntmps73
  go_wp2_with fail
  go_ret
  exact⟨p,rfl,H.out,rfl⟩
theorem JZ{w:World}{base base':Nat}{e:TypeId}{size:Nat}{v:Value}{n:Nat}{xs:List Value}(h:w.ownsRow base e size v n xs)(hb:base'<=base):w.ownsRow base' e size v n xs:=by
 refine⟨h.1, ?_⟩
 rcases h.2 with hn|⟨g,cap,cur,hv,h1,rest⟩
 ·exact .inl hn
 ·exact .inr ⟨g,cap,cur,hv,Nat.le_trans hb h1,rest⟩
end Go.Proofs.YtabmamofnhcgbaaGreatDoor.T8
namespace Go.Proofs.YtabmamofnhcgbaaGreatDoor.T8
open Go.RowKit Go.Less
attribute [local go_sem 9000] zg zf
theorem zcu{W:World}{base:Nat}{v:Value}{n:Nat}{xs:List Value}{gk:Nat}{cs:Array Value}{fr:Nat×Nat}(h:W.ownsRow base 9 1 v n xs)(hk:W.heap[gk]?=some (.cells cs 52 fr)):v.ownBlock≠some gk:=by
 intro e
 obtain⟨_,⟨rfl,rfl⟩|⟨g,cap,cur,rfl,h1,h2,_⟩⟩:=h
 ·cases e
 ·injection e with e
  subst e
  rw[hk]at h2
  injection h2 with h2
  injection h2 with _ h2 _
  cases h2
structure Kz (w:World) (gk:Nat) (l:List ByteArray) (W:World):Prop where
 keys: ∃ao cap,W.heap[gk]?=some (.cells #[.slice ao l.length cap] 52 (0,0))/\W.ownsRow w.heap.size 9 1 (.slice ao l.length cap) l.length (l.map Value.string)
 lo:w.heap.size<=gk
 below:Below w.heap.size w W
theorem Kz.kept{w W W':World}{gk:Nat}{l:List ByteArray}(h:Kz w gk l W)(hb:Below W.heap.size W W'):Kz w gk l W':=by
 obtain⟨ao,cap,h1,h2⟩:=h.keys
 exact⟨⟨ao,cap,(hb.block _ (lt_of_obj h1)).trans h1,owned_below h2 hb⟩,h.lo,h.below.trans (hb.mono h.below.size)⟩
theorem zeN{w W5 w1 w4:World}{gk:Nat}{l:List ByteArray}{k:ByteArray}{ao ao4:Option Addr}{cap cap4:Nat}(h:Kz w gk l W5)(hw:Below W5.heap.size W5 w1)
  (hO:(w1.alloc (.cells #[.string k] 9)).ownsRow w.heap.size 9 1 (.slice ao l.length cap) l.length (l.map Value.string))
  (hO4:w4.ownsRow w.heap.size 9 1 (.slice ao4 (l.length+1) cap4) (l.length+1) (l.map Value.string++[.string k]))
  (hg:(w1.alloc (.cells #[.string k] 9)).grownBy w4 (Value.slice ao l.length cap).ownBlock):
  (∃v,w4.heap[gk]?=some (.cells #[v] 52 (0,0)))/\Kz w gk (l++[k]) (w4.setCell ⟨gk,0,none⟩ (.slice ao4 (l.length+1) cap4)):=by
 have h3:=(h.kept hw).kept (below_one w1 (.cells #[.string k] 9))
 obtain⟨a0,c0,hk,_⟩:=h3.keys
 have hk4:=grown_obj hg hk (zcu hO hk).symm
 have lo:=h.lo
 have hl:(l++[k]).length=l.length+1:=by simp
 refine⟨⟨_,hk4⟩,⟨ao4,cap4, ?_, ?_⟩,lo, ?_⟩
 ·rw[hl];exact set_obj hk4
 ·rw[hl,List.map_append]
  refine World.ownsRow.kept hO4 (?_:w4.grownBy _ (some gk)) (.inr (zcu hO4 hk4))
  exact⟨rfl,rfl,rfl,by simp[World.setCell],λj hj hne=>heap_setCell_other w4 ⟨gk,0,none⟩ j _ (λe=>hne (by rw[e]))⟩
 ·refine Below.setCell ?_ lo _
  exact h3.below.grown hg h3.below.size (λj hj=>(owns_lt hO j hj).1)
def keysOf(l:List Pr):List ByteArray:=l.map (·.1)
theorem zcT(w:World)(gk:Nat)(m:Nat)(hm:m<=100000):
  Tells 159 #[.pointer (some ⟨gk,0,none⟩)] m w (λpre W=>Kz w gk (keysOf (vF pre)) W):=by
 intro pre b l k v r pl pr W hp hK hN
 have hK:Kz w gk (keysOf (vF pre)) W:=hK
 show Calls prog 159 #[.pointer (some ⟨b,0,none⟩),.pointer (some ⟨gk,0,none⟩)] W (λe W'=>e= .returned (.tuple #[])/\Kz w gk (keysOf (vF (pre++[.node l k v r]))) W')
 have hlen:(keysOf (vF pre)).length<=200000:=by unfold keysOf;rw[List.length_map];have:=zac pre;omega
 have HE:=hid (show keysOf (vF (pre++[.node l k v r]))=keysOf (vF pre)++[k] by rw[JR];unfold keysOf;rw[List.map_append];rfl)
 have HLen:=hid hlen
 generalize keysOf (vF (pre++[.node l k v r]))=YL at*
 generalize keysOf (vF pre)=XL at*
 have HC:=hid (λW1=>clone_any k W1 (Nat.le_trans hN.key (by decide)))
 have hNW:=hN.below hK.below
 obtain⟨ao,cap,hk1,hk2⟩:=hK.keys
 have ckb:=hNW.c0
 have ck5:W.cell? ⟨gk,0,none⟩=some (.slice ao XL.length cap):=cell_obj hk1 0
 have hgk:=lt_of_obj hk1
 have HO5:=hid hk2
 have HK5:=hid hK
 have HZ0:=hid hK.below.size
 clear hp hK hN hlen hNW hk1 hk2
 go_enter func159,ntmps159
 go_wp2_with fail
 go_region_law (first
   |(refine QO rfl _ _ rfl w.heap.size _ XL.length (XL.map Value.string) (by rfl) HO3.out w1.heap.size (.string k) (by rfl) (by simp) rfl (Nat.le_trans HLen.out (by decide)) HZ.out ?_;intro ao4 cap4 w4 hown4 hgrow4;have hmid:=zeN HK5.out hw1 HO3.out hown4 hgrow4;have HK4:=hid hmid.2;obtain⟨v4,hk4⟩:=hmid.1;have ck4:=cell_obj hk4 0;have fk4:=free_obj hk4 0;clear hown4 hgrow4 hk4 hmid)
   |(go_simp;(with_reducible refine(HC.out _).mono ?_);rintro e w1 ⟨rfl,hw1d⟩;have hw1:=below_drew hw1d;have ck1:=(hw1.cell (p:=⟨gk,0,none⟩) hgk).trans ck5;have ck2:(w1.alloc (.cells #[.string k] 9)).cell? ⟨gk,0,none⟩=some (.slice ao XL.length cap):=((below_one w1 (.cells #[.string k] 9)).cell (p:=⟨gk,0,none⟩) (Nat.lt_of_lt_of_le hgk hw1.size)).trans ck1;have HO3:=hid (owned_below (owned_below HO5.out hw1) (below_one w1 (.cells #[.string k] 9)));have HZ:=hid (Nat.le_trans (Nat.le_trans HZ0.out hw1.size) (below_one w1 (.cells #[.string k] 9)).size)))
 all_goals
  go_wp2_with fail
  go_end0
  exact⟨rfl,by rw[HE.out];exact HK4.out⟩
theorem run_make52(n:Nat)(hn:n<=1000000)(w:World):(Instr.makeSlice 52 (.int .i64 0) (.int .i64 (n:Int))).run prog w= .ok (.slice (some ⟨w.heap.size,0,none⟩) 0 n) (w.alloc (.cells (madeCells #[.string ⟨#[]⟩] n) 9)):=by
 obtain⟨i0,hi,hz0,hz1,hz2⟩:=info_parts j1
 have h:=run_make (P:=prog) w 52 9 i0 _ underlying52 hi hz0 .i64 .i64 0 (n:Int) (by omega) (by omega) (by rw[hz2];omega) (by omega)
 rw[hz1,Nat.mul_one,Int.toNat_natCast]at h
 exact h
theorem zcR(w w1:World)(n:Nat)(hb:Below w.heap.size w w1)(hn:n<=1000000):Kz w (w1.heap.size+1) [] ((w1.alloc (.cells (madeCells #[.string ⟨#[]⟩] n) 9)).alloc (.cells #[.slice (some ⟨w1.heap.size,0,none⟩) 0 n] 52)):=by
 have h0:=heap_alloc_new (w1.alloc (.cells (madeCells #[.string ⟨#[]⟩] n) 9)) (.cells #[.slice (some ⟨w1.heap.size,0,none⟩) 0 n] 52)
 rw[show(w1.alloc (.cells (madeCells #[.string ⟨#[]⟩] n) 9)).heap.size=w1.heap.size+1 from by simp]at h0
 have hr:(w1.alloc (.cells (madeCells #[.string ⟨#[]⟩] n) 9)).ownsRow w1.heap.size 9 1 (.slice (some ⟨w1.heap.size,0,none⟩) 0 n) 0 []:=World.ownsRow_made (e:=9) (size:=1) (base:=w1.heap.size) w1 (madeCells #[.string ⟨#[]⟩] n) n (by simp) (by unfold maxLen;omega) (by rw[size_madeCells];omega)
 have hs:=hb.size
 exact⟨⟨_,n,h0,(owned_below (JZ hr hs) (below_one _ _))⟩,by omega,vk _ (vk _ hb)⟩
def Qr(l:List ByteArray)(w:World)(e:Ending)(w':World):Prop:= ∃ao cap,e= .returned (.slice ao l.length cap)/\w'.ownsRow w.heap.size 9 1 (.slice ao l.length cap) l.length (l.map Value.string)/\Below w.heap.size w w'
theorem uh{w:World}{m:Option Nat}{l:List Pr}(h:Rp w m l)(hn:l.length<=5000):Calls prog 118 #[pv m] w (Qr (keysOf l) w):=by
 have HL:=hid (yx h)
 have HT:=hid (λW (hb:Below w.heap.size w W)=>QD h.map hb)
 have HK0:=hid (λw1 (hb:Below w.heap.size w w1)=>zcR w w1 l.length hb (by omega))
 have hmk:=run_make52 l.length (by omega)
 have hcl:(cn l).len<=5000:=by rw[X6];exact hn
 have HCL:=hid hcl
 have HRow:=hid (show keysOf (vF (cn l).subs)=keysOf l by rw[JQ,xC])
 clear h hcl
 generalize l.length=n at*
 go_enter func118,ntmps118
 go_wp2_with fail
 refine HL.out.mono ?_
 rintro e w1 ⟨rfl,hw1⟩
 have HK1:=hid (HK0.out w1 hw1)
 clear HK0 HL hw1
 dsimp only
 go_wp2_with fail
 generalize ((w1.alloc (.cells (madeCells #[.string ⟨#[]⟩] n) 9)).alloc (.cells #[.slice (some ⟨w1.heap.size,0,none⟩) 0 n] 52))=W0 at HK1|-
 generalize w1.heap.size+1=gk at HK1|-
 refine(HT.out _ HK1.out.below).mono ?_
 rintro e w' ⟨p,rfl,hp,rfl⟩
 have HP:=hid hp
 clear hp
 dsimp only
 go_wp2_with fail
 refine(walk_any 159 _ (enters_of func159 (by kernel_rfl) rfl) w 5000 (λpre W=>Kz w gk (keysOf (vF pre)) W) (zcT w gk 5000 (by decide)) (λ_ _ h=>h.below) (cn l) p [] W0 HP.out HK1.out (by rw[List.length_nil,Nat.zero_add];exact HCL.out)).mono ?_
 rintro e W1 ⟨rfl,h1⟩
 rw[List.nil_append,HRow.out]at h1
 obtain⟨ao,cap,hk,ho⟩:=h1.keys
 have c2:=cell_obj hk 0
 have HO:=hid ho
 have HB:=hid h1.below
 clear hk ho h1
 dsimp only
 go_wp2_with fail
 go_ret
 exact⟨ao,cap,rfl,HO.out,HB.out⟩
end Go.Proofs.YtabmamofnhcgbaaGreatDoor.T8
namespace Chk
def b(l:List UInt8)(i:Nat):UInt8:=l.getD i 0
theorem ext{l m:List UInt8}(hl:l.length=m.length)(h: ∀i,i<l.length->b l i=b m i):l=m:=by
 apply List.ext_getElem hl
 intro i h1 h2
 have:=h i h1
 unfold b at this
 rwa [List.getD,List.getD,List.getElem?_eq_getElem h1,List.getElem?_eq_getElem h2]at this
def rule(n:Nat)(f:Nat->UInt8):List UInt8:=(List.range n).map f
theorem rule_length(n:Nat)(f:Nat->UInt8):(rule n f).length=n:=by unfold rule;rw[List.length_map,List.length_range]
theorem rule_b{n i:Nat}(f:Nat->UInt8)(h:i<n):b (rule n f) i=f i:=by
 unfold b rule
 rw[List.getD,List.getElem?_map,List.getElem?_range h];rfl
theorem rule_is{l:List UInt8}{n:Nat}{f:Nat->UInt8}(hl:l.length=n)(h: ∀i,i<n->b l i=f i):l=rule n f:=
 ext (by rw[rule_length];exact hl) λi hi=>by rw[h i (by omega),rule_b f (by omega)]
theorem rule_succ(n:Nat)(f:Nat->UInt8):rule (n+1) f=rule n f++[f n]:=by unfold rule;rw[List.range_succ,List.map_append];rfl
theorem b_over{l:List UInt8}{i:Nat}(h:l.length<=i):b l i=0:=by unfold b;rw[List.getD,List.getElem?_eq_none h];rfl
theorem b_append_left{l m:List UInt8}{i:Nat}(h:i<l.length):b (l++m) i=b l i:=by unfold b;rw[List.getD,List.getD,List.getElem?_append_left h]
theorem b_append_right{l m:List UInt8}{i:Nat}(h:l.length<=i):b (l++m) i=b m (i-l.length):=by unfold b;rw[List.getD,List.getD,List.getElem?_append_right h]
theorem b_set{l:List UInt8}{k i:Nat}{v:UInt8}(h:k<l.length):b (l.set k v) i=if i=k then v else b l i:=by
 unfold b
 by_cases hi:i=k
 ·subst hi;rw[if_pos rfl,List.getD,List.getElem?_set_self h];rfl
 ·rw[if_neg hi,List.getD,List.getD,List.getElem?_set_ne (by omega)]
theorem b_drop(l:List UInt8)(k i:Nat):b (l.drop k) i=b l (k+i):=by unfold b;rw[List.getD,List.getD,List.getElem?_drop]
theorem b_take{l:List UInt8}{k i:Nat}(h:i<k):b (l.take k) i=b l i:=by unfold b;rw[List.getD,List.getD,List.getElem?_take,if_pos h]
def trunc(l:List UInt8)(n:Nat):List UInt8:=rule n (b l)
def put(l:List UInt8)(off:Nat)(d:List UInt8):List UInt8:=if d=[]then l else rule (max l.length (off+d.length)) λi=>if off<=i/\i<off+d.length then b d (i-off)else b l i
def get(l:List UInt8)(off n:Nat):List UInt8:=rule (min n (l.length-off)) λi=>b l (off+i)
theorem get_take(l:List UInt8)(off n:Nat):get l off n=(l.drop off).take n:=
 (rule_is (by rw[List.length_take,List.length_drop]) λi hi=>by rw[b_take (by omega),b_drop]).symm
theorem put_nil(l:List UInt8)(off:Nat):put l off []=l:=by unfold put;rw[if_pos rfl]
theorem put_is{l d:List UInt8}{off:Nat}(h:d≠[]):put l off d=rule (max l.length (off+d.length)) λi=>if off<=i/\i<off+d.length then b d (i-off)else b l i:=by unfold put;rw[if_neg h]
theorem put_length{l d:List UInt8}{off:Nat}(h:d≠[]):(put l off d).length=max l.length (off+d.length):=by rw[put_is h,rule_length]
theorem put_b{l d:List UInt8}{off i:Nat}(h:d≠[])(hi:i<max l.length (off+d.length)):b (put l off d) i=if off<=i/\i<off+d.length then b d (i-off)else b l i:=by
 rw[put_is h,rule_b _ hi]
theorem trunc_length(l:List UInt8)(n:Nat):(trunc l n).length=n:=rule_length _ _
theorem trunc_b{l:List UInt8}{n i:Nat}(h:i<n):b (trunc l n) i=b l i:=rule_b _ h
theorem trunc_same(l:List UInt8):trunc l l.length=l:=(rule_is rfl λ_ _=>rfl).symm
theorem get_length(l:List UInt8)(off n:Nat):(get l off n).length=min n (l.length-off):=rule_length _ _
theorem get_b{l:List UInt8}{off n i:Nat}(h:i<min n (l.length-off)):b (get l off n) i=b l (off+i):=rule_b _ h
theorem get_put(l d:List UInt8)(off:Nat)(ho:d=[]->True):get (put l off d) off d.length=d:=by
 by_cases hd:d=[]
 ·subst hd
  exact ext (by rw[get_length];simp) λi hi=>by rw[get_length]at hi;simp at hi
 ·have hp:=put_length (l:=l) (off:=off) hd
  refine ext (by rw[get_length,hp];omega) λi hi=> ?_
  rw[get_length,hp]at hi
  rw[get_b (by rw[hp];exact hi),put_b hd (by omega),if_pos (by omega),show off+i-off=i from by omega]
def puts(l:List UInt8)(off:Nat)(d:List UInt8)(k:Nat):List UInt8:=rule (max l.length (off+d.length)) λi=>if off<=i/\i<off+k then b d (i-off)else b l i
theorem puts_length(l d:List UInt8)(off k:Nat):(puts l off d k).length=max l.length (off+d.length):=rule_length _ _
theorem puts_zero(l d:List UInt8)(off:Nat):puts l off d 0=trunc l (max l.length (off+d.length)):=by
 unfold puts trunc
 exact congrArg _ (funext λi=>by rw[if_neg (by omega)])
theorem puts_step(l d:List UInt8)(off:Nat){k:Nat}(hk:k<d.length):puts l off d (k+1)=(puts l off d k).set (off+k) (b d k):=by
 refine(rule_is (by rw[List.length_set,puts_length]) λi hi=> ?_).symm
 rw[b_set (by rw[puts_length];omega)]
 by_cases h:i=off+k
 ·subst h;rw[if_pos rfl,if_pos (by omega),show off+k-off=k from by omega]
 ·rw[if_neg h]
  unfold puts
  rw[rule_b _ hi]
  by_cases h2:off<=i/\i<off+k
  ·rw[if_pos h2,if_pos (by omega)]
  ·rw[if_neg h2,if_neg (by omega)]
theorem puts_all{l d:List UInt8}{off:Nat}(h:d≠[]):puts l off d d.length=put l off d:=by rw[put_is h];rfl
theorem trunc_succ(l:List UInt8){n:Nat}(h:l.length<=n):trunc l (n+1)=trunc l n++[0]:=by
 unfold trunc;rw[rule_succ,b_over h]
def cut(l:List UInt8):List (List UInt8):=match l with
 |[]=>[]
 |x::l=>(x::l).take 16::cut ((x::l).drop 16)
 termination_by l.length
 decreasing_by rw[List.length_drop,List.length_cons];omega
def blank(l:List UInt8):Bool:=l.all (· ==0)
end Chk
namespace Go.Proofs.YtabmamofnhcgbaaGreatDoor.T6
open T8
open Go.RowKit Sha
theorem Kb:(prog.info? 5).map (λi=>(i.zero,i.size,i.bytes))=some (some (.int .u8 0),1,1):=by kernel_rfl
structure Bown (base g cap:Nat) (l:List UInt8) (w:World):Prop where
 base:base<=g
 lt:g<w.heap.size
 fit:l.length<=cap
 cell: ∀i,i<l.length->w.cell? ⟨g,i,none⟩=some (bv (Chk.b l i))
 any: ∀i,i<cap-> ∃u,w.cell? ⟨g,i,none⟩=some u
 free: ∀i,i<cap->w.frozen? ⟨g,i,none⟩=false
theorem Bown.below{base g cap:Nat}{l:List UInt8}{w w':World}(h:Bown base g cap l w)(hb:Below w.heap.size w w'):Bown base g cap l w':=
 ⟨h.base,Nat.lt_of_lt_of_le h.lt hb.size,h.fit,λi hi=>(hb.cell (p:=⟨g,i,none⟩) h.lt).trans (h.cell i hi),λi hi=>by obtain⟨u,hu⟩:=h.any i hi;exact⟨u,(hb.cell (p:=⟨g,i,none⟩) h.lt).trans hu⟩,λi hi=>(hb.frozen (p:=⟨g,i,none⟩) h.lt).trans (h.free i hi)⟩
theorem Bown.same{base g cap:Nat}{l m:List UInt8}{w:World}(h:Bown base g cap l w)(e:l=m):Bown base g cap m w:=e▸h
theorem zff(y:ByteArray)(w:World): ∃cap w',(convert 9 144 (.string y)).run prog w= .ok (.slice (some ⟨w.heap.size,0,none⟩) y.size cap) w'/\Bown w.heap.size w.heap.size cap y.data.toList w'/\Below w.heap.size w w':=by
 have hl:y.data.toList.length=y.size:=Array.length_toList
 have hs:(Lib.bytesCells w 5 y).size=grownCap w y.size 0 5:=by
  have:=grownCap_ge w y.size 0 5
  unfold Lib.bytesCells
  rw[Array.size_append,Array.size_map,Array.size_replicate]
  show y.size+_=_
  omega
 have hn:=Lib.bytesWorld_at_new w 5 y
 refine⟨_,_,Lib.run_convert_string_bytes (P:=prog) w 9 144 5 y underlying9 underlying144 underlying5,⟨Nat.le_refl _,by rw[Lib.bytesWorld_size];omega,by rw[hl];exact grownCap_ge w y.size 0 5,λi hi=>Lib.bytesWorld_cell w 5 y i (by omega),λi hi=> ?_,λi hi=> ?_⟩,⟨rfl,rfl,rfl,by rw[Lib.bytesWorld_size];omega,λk hk=>Lib.bytesWorld_at_old w 5 y k hk⟩⟩
 ·unfold World.cell?
  rw[hn]
  exact⟨(Lib.bytesCells w 5 y)[i]'(by rw[hs];exact hi),by simp[hs,hi]⟩
 ·unfold World.frozen?
  rw[hn]
  simp
  omega
theorem Xk{base g cap:Nat}{l:List UInt8}{w:World}(h:Bown base g cap l w)(n:Nat)(hn:n=l.length)(c:Nat):(convert 144 9 (.slice (some ⟨g,0,none⟩) n c)).run prog w= .ok (.string (lstr l)) w:=by
 subst hn
 refine run_convert_bytes_back (P:=prog) w 144 9 5 ⟨g,0,none⟩ c l underlying144 underlying5 underlying9 (λj hj=> ?_)
 rw[Go.WideShapes.add_plain,Nat.zero_add,h.cell j hj]
 simp[Chk.b,List.getD,List.getElem?_eq_getElem hj]
theorem Bown.set{base g cap:Nat}{l:List UInt8}{w:World}(h:Bown base g cap l w){k:Nat}(hk:k<l.length)(v:UInt8):Bown base g cap (l.set k v) (w.setCell ⟨g,k,none⟩ (bv v)):=by
 have key: ∀i,(w.setCell ⟨g,k,none⟩ (bv v)).cell? ⟨g,i,none⟩=if i=k then some (bv v)else w.cell? ⟨g,i,none⟩:=by
  intro i
  by_cases he:i=k
  ·subst he;rw[if_pos rfl];exact World.cell?_setCell_same _ _ _ (h.cell i hk)
  ·rw[if_neg he]
   have hne:(⟨g,k,none⟩:Addr)≠⟨g,i,none⟩:=by
    intro e
    injection e with e1 e2
    exact he e2.symm
   exact World.cell?_setCell_other w (a:=⟨g,k,none⟩) (b:=⟨g,i,none⟩) (v:=bv v) hne
 refine⟨h.base,by rw[World.size_setCell];exact h.lt,by rw[List.length_set];exact h.fit,λi hi=> ?_,λi hi=> ?_,λi hi=> ?_⟩
 ·rw[List.length_set]at hi
  rw[key,Chk.b_set hk]
  by_cases he:i=k
  ·rw[if_pos he,if_pos he]
  ·rw[if_neg he,if_neg he];exact h.cell i hi
 ·rw[key]
  by_cases he:i=k
  ·rw[if_pos he];exact⟨_,rfl⟩
  ·rw[if_neg he];exact h.any i hi
 ·rw[World.frozen?_setCell];exact h.free i hi
theorem Bown.push{base g cap:Nat}{l:List UInt8}{w:World}(h:Bown base g cap l w)(hr:l.length<cap)(v:UInt8):Bown base g cap (l++[v]) (w.setCell ⟨g,l.length,none⟩ (bv v)):=by
 obtain⟨u,hu⟩:=h.any l.length hr
 have key: ∀i,(w.setCell ⟨g,l.length,none⟩ (bv v)).cell? ⟨g,i,none⟩=if i=l.length then some (bv v)else w.cell? ⟨g,i,none⟩:=by
  intro i
  by_cases he:i=l.length
  ·subst he;rw[if_pos rfl];exact World.cell?_setCell_same _ _ _ hu
  ·rw[if_neg he]
   have hne:(⟨g,l.length,none⟩:Addr)≠⟨g,i,none⟩:=by
    intro e
    injection e with e1 e2
    exact he e2.symm
   exact World.cell?_setCell_other w (a:=⟨g,l.length,none⟩) (b:=⟨g,i,none⟩) (v:=bv v) hne
 refine⟨h.base,by rw[World.size_setCell];exact h.lt,by rw[List.length_append];exact hr,λi hi=> ?_,λi hi=> ?_,λi hi=> ?_⟩
 ·rw[key]
  by_cases he:i=l.length
  ·subst he
   rw[if_pos rfl,Chk.b_append_right (Nat.le_refl _),Nat.sub_self];rfl
  ·have hi':i<l.length:=by rw[List.length_append]at hi;simp at hi;omega
   rw[if_neg he,Chk.b_append_left hi'];exact h.cell i hi'
 ·rw[key]
  by_cases he:i=l.length
  ·rw[if_pos he];exact⟨_,rfl⟩
  ·rw[if_neg he];exact h.any i hi
 ·rw[World.frozen?_setCell];exact h.free i hi
theorem zbd(n:Nat)(w:World):Bown w.heap.size w.heap.size n (List.replicate n 0) (w.alloc (.cells (madeCells #[.int .u8 0] n) 5)):=by
 have hc: ∀i,i<n->(w.alloc (.cells (madeCells #[.int .u8 0] n) 5)).cell? ⟨w.heap.size,i,none⟩=some (.int .u8 0):=by
  intro i hi
  rw[World.cell?_alloc_new]
  have:=toList_madeCells_one (.int .u8 0) n
  rw[<-Array.getElem?_toList,this,List.getElem?_replicate,if_pos hi]
 refine⟨Nat.le_refl _,by simp,by rw[List.length_replicate];exact Nat.le_refl _,λi hi=> ?_,λi hi=>⟨_,hc i hi⟩,λi hi=> ?_⟩
 ·rw[List.length_replicate]at hi
  rw[hc i hi]
  simp[Chk.b,List.getD,hi]
 ·unfold World.frozen?
  rw[show(w.alloc (.cells (madeCells #[.int .u8 0] n) 5)).heap[(⟨w.heap.size,i,none⟩:Addr).block]?=some (.cells (madeCells #[.int .u8 0] n) 5)from heap_alloc_new w _]
  simp
theorem YT(n:Nat)(hn:n<=1000000)(w:World):(Instr.makeSlice 144 (.int .i64 (n:Int)) (.int .i64 (n:Int))).run prog w= .ok (.slice (some ⟨w.heap.size,0,none⟩) n n) (w.alloc (.cells (madeCells #[.int .u8 0] n) 5)):=by
 obtain⟨i0,hi,hz0,hz1,hz2⟩:=info_parts Kb
 have h:=run_make (P:=prog) w 144 5 i0 _ underlying144 hi hz0 .i64 .i64 (n:Int) (n:Int) (by omega) (Int.le_refl _) (by rw[hz2];omega) (by omega)
 rw[hz1,Nat.mul_one,Int.toNat_natCast]at h
 exact h
theorem zb1{base g cap:Nat}{l:List UInt8}{w:World}(h:Bown base g cap l w)(ty:TypeId)(bb:Nat)(v:UInt8)(hv:w.cell? ⟨bb,0,none⟩=some (bv v))(hl:l.length<=1000000)(hb:base<=w.heap.size):
  ∃g' cap' w',(Builtin.append_ #[144,144] ty #[.slice (some ⟨g,0,none⟩) l.length cap,.slice (some ⟨bb,0,none⟩) 1 1]).run prog w= .ok (.slice (some ⟨g',0,none⟩) (l.length+1) cap') w'/\Bown base g' cap' (l++[v]) w'/\w.grownBy w' (some g):=by
 obtain⟨i0,hi,hz0,hz1,hz2⟩:=info_parts Kb
 have hnews: ∀(j:Nat) u,[bv v][j]?=some u->w.cell? ((⟨bb,0,none⟩:Addr).add j)=some u:=by
  intro j u hj
  match j with
  |0=>simp at hj;subst hj;simpa[Addr.add] using hv
  |j+1=>simp at hj
 by_cases hr:l.length<cap
 ·obtain⟨u,hu⟩:=h.any l.length hr
  have hf:=h.free l.length hr
  refine⟨g,cap,w.setCell ⟨g,l.length,none⟩ (bv v), ?_,h.push hr v,⟨rfl,rfl,rfl,by simp,λk _ hk=>heap_setCell_other w ⟨g,l.length,none⟩ k (bv v) (λe=>hk (by simp[e]))⟩⟩
  have hfc:=run_firstCells_some (P:=prog) w i0.size 1 ⟨bb,0,none⟩ 1 1 [bv v] (by rw[hz1];rfl) hnews
  rw[hz1]at hfc
  have hst:(storeCells ⟨g,l.length,none⟩ [bv v]).run prog w= .ok () (w.setCell ⟨g,l.length,none⟩ (bv v)):=by
   have ha:(⟨g,l.length,none⟩:Addr).add 0=⟨g,l.length,none⟩:=by simp[Addr.add]
   unfold storeCells
   simp[run_store_int,stored,hu,hf,storeCells,ha]
  simp[Builtin.append_,run_underlying underlying144,sizeOf,typeInfo,hi,hz1,Builtin.lenOf,show l.length+1<=cap from hr,hfc,Addr.add_lit,hst]
 ·have hcap:cap=l.length:=by have:=h.fit;omega
  subst hcap
  have holds: ∀(j:Nat) u,(l.map λx=>bv x)[j]?=some u->w.cell? ((⟨g,0,none⟩:Addr).add j)=some u:=by
   intro j u hj
   have hjl:j<l.length:=by
    have:=(List.getElem?_eq_some_iff.1 hj).1
    simpa using this
   rw[Go.WideShapes.add_plain,Nat.zero_add,h.cell j hjl]
   rw[List.getElem?_map,List.getElem?_eq_getElem hjl]at hj
   simpa[Chk.b,List.getD,List.getElem?_eq_getElem hjl] using hj
  have hrun:=run_append_grow (P:=prog) w 144 ty 5 i0 _ underlying144 hi hz0 ⟨g,0,none⟩ l.length l.length (l.map λx=>bv x) (by rw[hz1];simp) holds ⟨bb,0,none⟩ 1 1 [bv v] (by rw[hz1];rfl) hnews (by omega) (by omega) (growslice_fits (by omega) (by rw[hz2];omega))
  have hge:=grownCap_ge w (l.length+1) l.length 5
  refine⟨_,_,_,hrun, ?_, ?_⟩
  ·have hcells: ∀i,(w.drew.alloc (.cells ((l.map λx=>bv x).toArray++[bv v].toArray++Builtin.zeroCells (Value.int .u8 0).cells (grownCap w (l.length+1) l.length 5-(l.length+1))) 5)).cell? ⟨w.heap.size,i,none⟩=((l.map λx=>bv x).toArray++[bv v].toArray++Builtin.zeroCells (Value.int .u8 0).cells (grownCap w (l.length+1) l.length 5-(l.length+1)))[i]?:=by
    intro i
    exact World.cell?_alloc_new w.drew _ 5 i
   have hsz:((l.map λx=>bv x).toArray++[bv v].toArray++Builtin.zeroCells (Value.int .u8 0).cells (grownCap w (l.length+1) l.length 5-(l.length+1))).size=grownCap w (l.length+1) l.length 5:=by
    rw[Array.size_append,Array.size_append,size_zeroCells]
    simp[Value.cells]
    omega
   refine⟨hb,by simp,by rw[List.length_append];exact hge,λi hi=> ?_,λi hi=> ?_,λi hi=> ?_⟩
   ·rw[hcells]
    rw[List.length_append]at hi
    simp only[List.length_cons,List.length_nil]at hi
    rw[Array.getElem?_append_left (by simp;omega)]
    rw[<-Array.getElem?_toList,Array.toList_append]
    show((l.map λx=>bv x)++[bv v])[i]?=_
    by_cases he:i<l.length
    ·rw[List.getElem?_append_left (by simpa using he),Chk.b_append_left he,List.getElem?_map,List.getElem?_eq_getElem he]
     simp[Chk.b,List.getD,List.getElem?_eq_getElem he]
    ·obtain rfl:i=l.length:=by omega
     rw[List.getElem?_append_right (by simp),Chk.b_append_right (Nat.le_refl _),Nat.sub_self]
     simp[Chk.b]
   ·rw[hcells]
    exact⟨_,Array.getElem?_eq_getElem (by rw[hsz];exact hi)⟩
   ·unfold World.frozen?
    rw[show(w.drew.alloc (.cells ((l.map λx=>bv x).toArray++[bv v].toArray++Builtin.zeroCells (Value.int .u8 0).cells (grownCap w (l.length+1) l.length 5-(l.length+1))) 5)).heap[(⟨w.heap.size,i,none⟩:Addr).block]?=some (.cells ((l.map λx=>bv x).toArray++[bv v].toArray++Builtin.zeroCells (Value.int .u8 0).cells (grownCap w (l.length+1) l.length 5-(l.length+1))) 5)from heap_alloc_new w.drew _]
    simp
  ·have h2:=World.grownBy_alloc w.drew (.cells ((l.map λx=>bv x).toArray++[bv v].toArray++Builtin.zeroCells (Value.int .u8 0).cells (grownCap w (l.length+1) l.length 5-(l.length+1))) 5) (some g)
   exact⟨h2.os,h2.tape,h2.output,h2.size,h2.block⟩
end Go.Proofs.YtabmamofnhcgbaaGreatDoor.T6
