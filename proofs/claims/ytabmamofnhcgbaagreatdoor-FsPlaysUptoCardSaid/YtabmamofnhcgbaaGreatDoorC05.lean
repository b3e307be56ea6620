/- A part of the proofs. -/
import Derived.Test.YtabmamofnhcgbaaGreatDoorC04
set_option maxRecDepth 1000000
set_option maxHeartbeats 16000000
open Go.Lib (hid)
open Go.Proofs.Tryz
namespace Go.Proofs.YtabmamofnhcgbaaGreatDoor.T6
open T8
open Go.RowKit Sha
def z8(s:List UInt8)(off:Int)(d:List UInt8):List UInt8×Int:=
 if off<0 then([],1)else if 4096<off+d.length then([],3)else(Chk.put s off.toNat d,0)
def zD(s:List UInt8)(n:Int):List UInt8×Int:=if n<0 then([],1)else if 4096<n then([],3)else(Chk.trunc s n.toNat,0)
def vK(s:List UInt8)(off n:Int):List UInt8×Int:=if off<0\/n<0 then([],1)else(Chk.get s off.toNat n.toNat,0)
def yD(s:List UInt8)(off:Int)(src:List UInt8)(f n:Int):List UInt8×Int:=
 if f<0\/n<0\/(src.length:Int)<f+n then([],1)else z8 s off ((src.drop f.toNat).take n.toNat)
def Both(r:List UInt8×Int)(w:World)(e:Ending)(w':World):Prop:=e= .returned (.tuple #[.string (lstr r.1),.int .i64 r.2])/\Below w.heap.size w w'
theorem b_at(s:ByteArray){i:Nat}(h:i<s.size):s[i]=Chk.b s.data.toList i:=by
 unfold Chk.b
 rw[List.getD,List.getElem?_eq_getElem (by rw[Array.length_toList];exact h)];rfl
theorem XF(s:ByteArray)(n:Int)(w:World)(hs:s.size<=140737488355328):
  Calls prog 94 #[.string s,.int .i64 n] w (Both (zD s.data.toList n) w):=by
 by_cases h1:n<0
 ·have HR:=hid (show zD s.data.toList n=([],1)from by unfold zD;rw[if_pos h1])
  go_enter func94,ntmps94
  go_wp2_with fail
  go_ret2
  show Both (zD s.data.toList n) w _ _
  rw[HR.out]
  exact⟨rfl,Below.refl _ _⟩
 ·by_cases h2:4096<n
  ·have HR:=hid (show zD s.data.toList n=([],3)from by unfold zD;rw[if_neg h1,if_pos h2])
   go_enter func94,ntmps94
   go_wp2_with fail
   go_ret2
   show Both (zD s.data.toList n) w _ _
   rw[HR.out]
   exact⟨rfl,Below.refl _ _⟩
  ·obtain⟨m,rfl⟩: ∃m:Nat,n=(m:Int):=⟨n.toNat,by omega⟩
   have HR:=hid (show zD s.data.toList (m:Int)=(Chk.trunc s.data.toList m,0)from by unfold zD;rw[if_neg h1,if_neg h2];rfl)
   have hm:=YT m (by omega)
   have hm1:(m:Int)<=4096:=by omega
   have HB:=hid ((zbd m w).same (show List.replicate m 0=Chk.rule m (λi=>if i<0 then Chk.b s.data.toList i else 0)from(Chk.rule_is (by rw[List.length_replicate]) λi hi=>by simp[Chk.b,List.getD,hi])))
   have HW:=hid ((Below.refl w.heap.size w).alloc (Nat.le_refl _) (.cells (madeCells #[.int .u8 0] m) 5))
   clear h1 h2
   go_enter func94,ntmps94
   go_wp2_with fail
   go_loopw [7] (λi wr=> ∃k:Nat,k<=m/\i= .int .i64 k/\Bown w.heap.size w.heap.size m (Chk.rule m (λi=>if i<k then Chk.b s.data.toList i else 0)) wr/\Below w.heap.size w wr) (λi _=>m-(intOf i).toNat)
   case atStart=>exact⟨0,Nat.zero_le _,rfl,HB.out,HW.out⟩
   case round=>
    clear HB HW hm
    obtain⟨k,hk,rfl,hB,hW⟩:=hrel
    by_cases hlt:k<m/\k<s.size
    ·obtain⟨hlt,hks⟩:=hlt
     have k0:(k:Int)<(m:Int):=by omega
     have k1:(k:Int)<(s.size:Int):=by omega
     have hat:=b_at s hks
     have hset:=hB.set (k:=k) (by rw[Chk.rule_length];exact hlt) (s[k])
     have hc:=hB.cell k (by rw[Chk.rule_length];exact hlt)
     have hf:=hB.free k hlt
     have HN:=hid (hset.same (m:=Chk.rule m (λi=>if i<k+1 then Chk.b s.data.toList i else 0)) (Chk.rule_is (by rw[List.length_set,Chk.rule_length]) λi hi=>by
      rw[Chk.b_set (by rw[Chk.rule_length];exact hlt),Chk.rule_b _ hi]
      by_cases he:i=k
      ·subst he;rw[if_pos rfl,if_pos (by omega),hat]
      ·rw[if_neg he]
       by_cases hl:i<k
       ·rw[if_pos hl,if_pos (by omega)]
       ·rw[if_neg hl,if_neg (by omega)]))
     have HW:=hid (hW.setCell (p:=⟨w.heap.size,k,none⟩) (Nat.le_refl _) (bv s[k]))
     clear hset hB hW hat
     go_wp2_with fail
     go_roundw
     case rel=>exact⟨k+1,by omega,by go_num,HN.out,HW.out⟩
     case measure=>simp[intOf];omega
    ·have HE:=hid (hB.same (m:=Chk.trunc s.data.toList m) (Chk.rule_is (Chk.rule_length _ _) λi hi=>by
      rw[Chk.rule_b _ hi]
      by_cases hl:i<k
      ·rw[if_pos hl]
      ·rw[if_neg hl,Chk.b_over (by rw[Array.length_toList];show s.size<=i;omega)]))
     have hconv:=Xk HE.out m (Chk.trunc_length _ _).symm m
     have HW:=hid hW
     clear hB hW
     by_cases hkm:k<m
     ·have k0:(k:Int)<(m:Int):=by omega
      have k1: ¬ (k:Int)<(s.size:Int):=by omega
      clear hlt
      go_wp2_with fail
      go_ret2
      show Both (zD s.data.toList (m:Int)) w _ _
      rw[HR.out]
      exact⟨rfl,HW.out⟩
     ·have k0: ¬ (k:Int)<(m:Int):=by omega
      clear hlt
      go_wp2_with fail
      go_ret2
      show Both (zD s.data.toList (m:Int)) w _ _
      rw[HR.out]
      exact⟨rfl,HW.out⟩
theorem UL{B:Nat}{a w w':World}{g:Nat}(h:Below B a w)(hg:w.grownBy w' (some g))(hB:B<=w.heap.size)(hgb:B<=g):Below B a w':=h.grown hg hB (λj hj=>by injection hj with hj;omega)
theorem zfh{ops:Array Oper}{rest:List Oper}{o:Oper}{a:Act}{Q:Exit->Act->World->Prop}{w:World}(hgd:o.guard=none)(s x:Operand)(ho:o.op= .call {callee:= .builtin .append,args:= #[s,x],argTypes:= #[144,144]})
  {base g cap:Nat} {l:List UInt8} (hB:Bown base g cap l w) (n:Nat) (hn:n=l.length) (hs:a.eval s= .slice (some ⟨g,0,none⟩) n cap) (bb:Nat) (v:UInt8) (hx:a.eval x= .slice (some ⟨bb,0,none⟩) 1 1) (hv:w.cell? ⟨bb,0,none⟩=some (bv v)) (hl:l.length<=1000000) (hb:base<=w.heap.size)
  (h: ∀g' cap' w',Bown base g' cap' (l++[v]) w'->w.grownBy w' (some g)->wpList prog ops Q rest (a.put o.dst (.slice (some ⟨g',0,none⟩) (l.length+1) cap')) w'):wpList prog ops Q (o::rest) a w:=by
 subst hn
 obtain⟨g',cap',w',h1,h2,h3⟩:=zb1 hB o.type bb v hv hl hb
 refine wpList_plain hgd λK hK=> ?_
 unfold Oper.wp execOp
 simp only[ho,resolve,invoke,builtin,Sem.run_bind,Sem.run_pure,Result.andThen_ok,List.map_toArray,List.map_cons,List.map_nil,hs,hx,h1]
 exact hK _ _ (h g' cap' w' h2 h3)
def lenOf:Value->Nat
 | .slice _ n _=>n
 |_=>0
theorem str_empty{d:ByteArray}(h:d.size=0):d=⟨#[]⟩:=Go.WideShapes.bytes_inj (List.eq_nil_of_length_eq_zero (Array.length_toList.trans h))
theorem ZC(s:ByteArray)(off:Int)(d:ByteArray)(w:World)(_:s.size<=1000000)(hd:d.size<=140737488355328)(ho:off<=9223372036854775807):
  Calls prog 93 #[.string s,.int .i64 off,.string d] w (Both (z8 s.data.toList off d.data.toList) w):=by
 have hdi:(d.size:Int)<=140737488355328:=by omega
 have hsl:s.data.toList.length=s.size:=Array.length_toList
 have hdl:d.data.toList.length=d.size:=Array.length_toList
 by_cases h1:off<0
 ·have HR:=hid (show z8 s.data.toList off d.data.toList=([],1)from by unfold z8;rw[if_pos h1])
  clear hsl hdl
  go_enter func93,ntmps93
  go_wp2_with fail
  go_ret2
  show Both (z8 s.data.toList off d.data.toList) w _ _
  rw[HR.out]
  exact⟨rfl,Below.refl _ _⟩
 ·obtain⟨f,rfl⟩: ∃f:Nat,off=(f:Int):=⟨off.toNat,by omega⟩
  by_cases h2:4096<f+d.size
  ·have HR:=hid (show z8 s.data.toList f d.data.toList=([],3)from by unfold z8;rw[if_neg h1,if_pos (by rw[hdl];omega)])
   clear hsl hdl h1
   by_cases h3:4096<f
   ·have h3':(4096:Int)<(f:Int):=by omega
    clear h2
    go_enter func93,ntmps93
    go_wp2_with fail
    go_ret2
    show Both (z8 s.data.toList f d.data.toList) w _ _
    rw[HR.out]
    exact⟨rfl,Below.refl _ _⟩
   ·have h3':(f:Int)<=4096:=by omega
    have h2':(4096:Int)<(f:Int)+(d.size:Int):=by omega
    clear h2 h3
    go_enter func93,ntmps93
    go_wp2_with fail
    go_ret2
    show Both (z8 s.data.toList f d.data.toList) w _ _
    rw[HR.out]
    exact⟨rfl,Below.refl _ _⟩
  ·have HR:=hid (show z8 s.data.toList f d.data.toList=(Chk.put s.data.toList f d.data.toList,0)from by unfold z8;rw[if_neg h1,if_neg (by rw[hdl];omega)];rfl)
   have h3':(f:Int)<=4096:=by omega
   have h2':(f:Int)+(d.size:Int)<=4096:=by omega
   by_cases h4:d.size=0
   ·have HN:=hid (show z8 s.data.toList f d.data.toList=(s.data.toList,0)from by rw[HR.out,List.eq_nil_of_length_eq_zero (hdl.trans h4),Chk.put_nil])
    have hde:=str_empty h4
    subst hde
    clear h1 h2 hsl hdl h4 HR
    go_enter func93,ntmps93
    go_wp2_with fail
    go_ret2
    show Both (z8 s.data.toList f (⟨#[]⟩:ByteArray).data.toList) w _ _
    rw[HN.out]
    exact⟨rfl,Below.refl _ _⟩
   ·have hne:d.toList.isEmpty=false:=by
     rw[ByteArray.toList_eq]
     cases hx:d.data.toList with
     |nil=>rw[hx]at hdl;exact absurd hdl.symm h4
     |cons _ _=>rfl
    have hdn:d.data.toList≠[]:=by intro e;rw[e]at hdl;exact h4 hdl.symm
    obtain⟨cap0,w1,hconv,hB,hW⟩:=zff s w
    have HB:=hid hB
    have HW:=hid hW
    have HSL:=hid hsl
    have HDL:=hid hdl
    have HDN:=hid hdn
    clear h1 h2 hsl hdl hB hW hdn
    have hd0:(0:Int)<(d.size:Int):=by omega
    go_enter func93,ntmps93
    go_wp2_with fail
    go_loopw [8] (λx wr=> ∃(g cap:Nat) (l:List UInt8),x= .slice (some ⟨g,0,none⟩) l.length cap/\Bown w.heap.size g cap l wr/\l=Chk.trunc s.data.toList l.length/\s.size<=l.length/\l.length<=max s.size (f+d.size)/\Below w.heap.size w wr) (λx _=>f+d.size-lenOf x)
    case atStart=>exact⟨w.heap.size,cap0,s.data.toList,by rw[HSL.out],HB.out,(Chk.trunc_same _).symm,by rw[HSL.out];exact Nat.le_refl _,by rw[HSL.out];omega,HW.out⟩
    case round=>
     clear HB HW hconv
     obtain⟨g,cap,l,rfl,hB,htr,hl1,hl2,hW⟩:=hrel
     by_cases hlt:l.length<f+d.size
     ·have k0:(l.length:Int)<(f:Int)+(d.size:Int):=by omega
      have hll:l.length<=1000000:=by omega
      have HT:=hid (show l++[0]=Chk.trunc s.data.toList (l.length+1)from by rw[Chk.trunc_succ _ (by rw[HSL.out];exact hl1),<-htr])
      have hal:=(Below.refl wr.heap.size wr).alloc (Nat.le_refl _) (.cells #[.int .u8 0] 5)
      have HB1:=hid (hB.below hal)
      have HW1:=hid (hW.alloc hW.size (.cells #[.int .u8 0] 5))
      clear hB hW htr hal
      go_wp2_with (at_builtin;refine zfh rfl _ _ rfl HB1.out l.length rfl (by rfl) wr.heap.size 0 (by rfl) (by simp) hll HW1.out.size ?_;intro g4 cap4 w4 hB4 hgrow4;have HB4:=hid hB4;have HW4:=hid (UL HW1.out hgrow4 HW1.out.size HB1.out.base);clear hB4 hgrow4)
      go_roundw
      case rel=>exact⟨g4,cap4,l++[0],by rw[List.length_append];rfl,HB4.out,by rw[List.length_append];exact HT.out,by rw[List.length_append];simp;omega,by rw[List.length_append];simp;omega,HW4.out⟩
      case measure=>simp[lenOf];omega
     ·have hlen:l.length=max s.size (f+d.size):=by omega
      have HL:=hid hlen
      have HP:=hid (show l=Chk.puts s.data.toList f d.data.toList 0 from by rw[Chk.puts_zero,HSL.out,HDL.out,<-hlen];exact htr)
      have HB:=hid hB
      have HW:=hid hW
      have k0: ¬ (l.length:Int)<(f:Int)+(d.size:Int):=by omega
      clear hB hW htr hlen hlt
      go_wp2_with fail
      go_loopw [9] (λi wr=> ∃k:Nat,k<=d.size/\i= .int .i64 k/\Bown w.heap.size g cap (Chk.puts s.data.toList f d.data.toList k) wr/\Below w.heap.size w wr) (λi _=>d.size-(intOf i).toNat)
      case atStart=>exact⟨0,Nat.zero_le _,rfl,HB.out.same HP.out,HW.out⟩
      case round=>
       clear HB HW HP
       obtain⟨k,hk,rfl,hB,hW⟩:=hrel
       by_cases hlt:k<d.size
       ·have k1:(k:Int)<(d.size:Int):=by omega
        have hat:=b_at d hlt
        have hko:k<d.data.size:=hlt
        have hpl:f+k<l.length:=by have:=HL.out;omega
        have hin:f+k<(Chk.puts s.data.toList f d.data.toList k).length:=by rw[Chk.puts_length,HSL.out,HDL.out];omega
        have hc:=hB.cell (f+k) hin
        have hf:=hB.free (f+k) (Nat.lt_of_lt_of_le hin hB.fit)
        have HN:=hid ((hB.set hin d[k]).same (show _=Chk.puts s.data.toList f d.data.toList (k+1)from by rw[Chk.puts_step _ _ _ (by rw[HDL.out];exact hlt),hat]))
        have HW:=hid (hW.setCell (p:=⟨g,f+k,none⟩) hB.base (bv d[k]))
        have hft:((f:Int)+(k:Int)).toNat=f+k:=by omega
        clear hB hW hat hin
        go_wp2_with fail
        go_roundw
        case rel=>exact⟨k+1,by omega,by go_num,HN.out,HW.out⟩
        case measure=>simp[intOf];omega
       ·obtain rfl:k=d.size:=by omega
        have HE:=hid (hB.same (show _=Chk.put s.data.toList f d.data.toList from by rw[<-HDL.out];exact Chk.puts_all HDN.out))
        have hconv:=Xk HE.out l.length (by rw[HL.out,Chk.put_length HDN.out,HSL.out,HDL.out]) cap
        have HW:=hid hW
        clear hB hW
        go_wp2_with fail
        go_ret2
        show Both (z8 s.data.toList f d.data.toList) w _ _
        rw[HR.out]
        exact⟨rfl,HW.out⟩
theorem cut_text(x:ByteArray)(a n:Nat)(_:a+n<=x.size):x.extract a (a+n)=lstr ((x.data.toList.drop a).take n):=by
 apply Go.WideShapes.bytes_inj
 rw[ByteArray.data_extract,Array.toList_extract,List.extract_eq_take_drop,Nat.add_sub_cancel_left]
 rfl
theorem lstr_data(l:List UInt8):(lstr l).data.toList=l:=rfl
theorem VE(s:ByteArray)(off:Int)(src:ByteArray)(f n:Int)(w:World)(hs:s.size<=1000000)(hd:src.size<=140737488355328)(ho:off<=9223372036854775807)(hf:f<=9223372036854775807)(hn:n<=9223372036854775807):
  Calls prog 95 #[.string s,.int .i64 off,.string src,.int .i64 f,.int .i64 n] w (Both (yD s.data.toList off src.data.toList f n) w):=by
 have hdl:src.data.toList.length=src.size:=Array.length_toList
 by_cases h1:f<0\/n<0\/(src.size:Int)<f+n
 ·have HR:=hid (show yD s.data.toList off src.data.toList f n=([],1)from by unfold yD;rw[if_pos (by rw[hdl];exact h1)])
  clear hdl
  have key: ∀e w',e=Ending.returned (.tuple #[.string ⟨#[]⟩,.int .i64 1])/\w=w'->Both (yD s.data.toList off src.data.toList f n) w e w':=by
   rintro e w' ⟨rfl,rfl⟩
   rw[HR.out]
   exact⟨rfl,Below.refl _ _⟩
  refine Calls.mono ?_ key
  clear key
  by_cases a1:f<0
  ·go_enter func95,ntmps95
   go_wp2_with fail
   go_ret2
   exact⟨rfl,rfl⟩
  ·by_cases a2:n<0
   ·go_enter func95,ntmps95
    go_wp2_with fail
    go_ret2
    exact⟨rfl,rfl⟩
   ·by_cases a3:(src.size:Int)<f
    ·clear h1
     go_enter func95,ntmps95
     go_wp2_with fail
     go_ret2
     exact⟨rfl,rfl⟩
    ·have a4:(src.size:Int)-f<n:=by omega
     clear h1
     go_enter func95,ntmps95
     go_wp2_with fail
     go_ret2
     exact⟨rfl,rfl⟩
 ·have hf0:0<=f:=by omega
  have hn0:0<=n:=by omega
  have hfn:f+n<=(src.size:Int):=by omega
  obtain⟨a,rfl⟩: ∃a:Nat,f=(a:Int):=⟨f.toNat,by omega⟩
  obtain⟨m,rfl⟩: ∃m:Nat,n=(m:Int):=⟨n.toNat,by omega⟩
  have HR:=hid (show yD s.data.toList off src.data.toList (a:Int) (m:Int)=z8 s.data.toList off ((src.data.toList.drop a).take m)from by unfold yD;rw[if_neg (by rw[hdl];exact h1)];rfl)
  have hcut:=cut_text src a m (by omega)
  have HX:=hid (ZC s off (lstr ((src.data.toList.drop a).take m)) w hs (by rw[lstr_size,List.length_take,List.length_drop,hdl];omega) ho)
  rw[lstr_data]at HX
  have HC:=hid hcut
  have h3:(a:Int)<=(src.size:Int):=by omega
  have ht:((a:Int)+(m:Int)).toNat=a+m:=by omega
  clear h1 hdl hcut
  go_enter func95,ntmps95
  go_wp2_with fail
  rw[HC.out]
  refine HX.out.mono ?_
  rintro e w1 ⟨rfl,hw1⟩
  have HW:=hid hw1
  clear hw1
  dsimp only
  go_wp2_with fail
  go_ret2
  show Both (yD s.data.toList off src.data.toList (a:Int) (m:Int)) w _ _
  rw[HR.out]
  exact⟨rfl,HW.out⟩
def YA(base:Nat)(v:Value)(l:List UInt8)(w:World):Prop:=w.ownsRow base 5 1 v l.length (l.map λx=>bv x)
theorem KC{base:Nat}{v:Value}{l:List UInt8}{w w':World}(h:YA base v l w)(hb:Below w.heap.size w w'):YA base v l w':=
 World.ownsRow.kept h (⟨hb.os,hb.tape,hb.output,hb.size,λk hk _=>hb.block k hk⟩:w.grownBy w' none) (by cases v.ownBlock<;>simp)
theorem zfb{base:Nat}{v:Value}{l:List UInt8}{w:World}(h:YA base v l w): ∀k,v.ownBlock=some k->base<=k:=λk hk=>(World.ownsRow.lt h k hk).1
theorem zba{base:Nat}{v:Value}{l:List UInt8}{w:World}(h:YA base v l w):(convert 144 9 v).run prog w= .ok (.string (lstr l)) w:=by
 have h0:=h
 obtain⟨hl,⟨rfl,hz⟩|⟨g,cap,cur,rfl,_⟩⟩:=h
 ·rw[List.eq_nil_of_length_eq_zero hz]
  exact run_convert_bytes_nil (P:=prog) w 144 5 underlying144 underlying5 0 0 9 underlying9
 ·refine run_convert_bytes_back (P:=prog) w 144 9 5 ⟨g,0,none⟩ cap l underlying144 underlying5 underlying9 (λj hj=> ?_)
  rw[Go.WideShapes.add_plain,Nat.zero_add,World.ownsRow.cellAt h0 j (by omega),List.getElem?_map,List.getElem?_eq_getElem hj];rfl
theorem zbb{base:Nat}{v:Value}{l:List UInt8}{w:World}(h:YA base v l w): ∃a c,v= .slice a l.length c:=by
 obtain⟨_,⟨rfl,h0⟩|⟨g,cap,_,rfl,_⟩⟩:=h
 ·exact⟨none,0,by rw[h0]⟩
 ·exact⟨_,_,rfl⟩
theorem zfg{ops:Array Oper}{rest:List Oper}{o:Oper}{a:Act}{Q:Exit->Act->World->Prop}{w:World}(hgd:o.guard=none)(s x:Operand)(ho:o.op= .call {callee:= .builtin .append,args:= #[s,x],argTypes:= #[144,144]})
  {base:Nat} {v:Value} {l:List UInt8} (hB:YA base v l w) (hs:a.eval s=v) (bb:Nat) (c:UInt8) (hx:a.eval x= .slice (some ⟨bb,0,none⟩) 1 1) (hc:w.cell? ⟨bb,0,none⟩=some (bv c)) (hl:l.length<=1000000) (hb:base<=w.heap.size)
  (h: ∀ao cap' w',YA base (.slice ao (l.length+1) cap') (l++[c]) w'->w.grownBy w' v.ownBlock->wpList prog ops Q rest (a.put o.dst (.slice ao (l.length+1) cap')) w'):wpList prog ops Q (o::rest) a w:=by
 obtain⟨i0,hi,hz0,hz1,hz2⟩:=info_parts Kb
 refine wpList_append_own w hgd s x 144 ho base 5 i0 (.int .u8 0) 1 1 underlying144 hi hz0 hz1 hz2 rfl (by decide) v l.length (l.map λx=>bv x) hs hB ⟨bb,0,none⟩ 1 1 [bv c] hx rfl ?_ ?_ (by unfold maxLen;omega) (by omega) hb ?_
 ·intro j u hj
  match j with
  |0=>simp at hj;subst hj;simpa[Addr.add] using hc
  |j+1=>simp at hj
 ·intro u hu;simp at hu;subst hu;rfl
 ·intro v' w' hown hg _
  have hB':YA base v' (l++[c]) w':=by
   unfold YA
   rw[List.length_append,List.map_append]
   exact hown
  obtain⟨ao,cap',rfl⟩:=zbb hB'
  rw[List.length_append]at hB'|-
  exact h ao cap' w' hB' hg
theorem JA(s:ByteArray)(off n:Int)(w:World)(hs:s.size<=1000000)(ho:off<=9223372036854775807)(hn:n<=9223372036854775807):
  Calls prog 68 #[.string s,.int .i64 off,.int .i64 n] w (Both (vK s.data.toList off n) w):=by
 have hsl:s.data.toList.length=s.size:=Array.length_toList
 by_cases h1:off<0\/n<0
 ·have HR:=hid (show vK s.data.toList off n=([],1)from by unfold vK;rw[if_pos h1])
  by_cases a1:off<0
  ·clear hsl h1
   go_enter func68,ntmps68
   go_wp2_with fail
   go_ret2
   show Both (vK s.data.toList off n) w _ _
   rw[HR.out]
   exact⟨rfl,Below.refl _ _⟩
  ·have a2:n<0:=by omega
   clear hsl h1
   go_enter func68,ntmps68
   go_wp2_with fail
   go_ret2
   show Both (vK s.data.toList off n) w _ _
   rw[HR.out]
   exact⟨rfl,Below.refl _ _⟩
 ·obtain⟨a,rfl⟩: ∃a:Nat,off=(a:Int):=⟨off.toNat,by omega⟩
  obtain⟨m,rfl⟩: ∃m:Nat,n=(m:Int):=⟨n.toNat,by omega⟩
  have HR:=hid (show vK s.data.toList (a:Int) (m:Int)=(Chk.get s.data.toList a m,0)from by unfold vK;rw[if_neg h1];rfl)
  have HSL:=hid hsl
  clear h1 hsl
  go_enter func68,ntmps68
  go_wp2_with fail
  go_loopw [8,9] (λx i wr=> ∃(k:Nat) (ao:Option Addr) (c:Nat),x= .slice ao k c/\i= .int .i64 ((a:Int)+(k:Int))/\k<=m/\(k=0\/a+k<=s.size)/\YA w.heap.size (.slice ao k c) (Chk.rule k λi=>Chk.b s.data.toList (a+i)) wr/\Below w.heap.size w wr) (λ_ i _=>s.size-(intOf i).toNat)
  case atStart=>exact⟨0,none,0,rfl,by simp,Nat.zero_le _,.inl rfl,World.ownsRow_nil _ _ _ _,Below.refl _ _⟩
  case round=>
   obtain⟨k,ao,c,rfl,rfl,hkm,hks,hB,hW⟩:=hrel
   by_cases hlt:a+k<s.size/\k<m
   ·obtain⟨h1,h2⟩:=hlt
    have k0:(a:Int)+(k:Int)<(s.size:Int):=by omega
    have k1:(k:Int)<(m:Int):=by omega
    have hat:=b_at s h1
    have hko:a+k<s.data.size:=h1
    have ht:((a:Int)+(k:Int)).toNat=a+k:=by omega
    have hsub:(a:Int)+(k:Int)-(a:Int)=(k:Int):=by omega
    have hka:(k:Int)<=1000000:=by omega
    have HN:=hid (show(Chk.rule k λi=>Chk.b s.data.toList (a+i))++[s[a+k]]=Chk.rule (k+1) λi=>Chk.b s.data.toList (a+i)from by rw[Chk.rule_succ,hat])
    have HRL:=hid (Chk.rule_length k λi=>Chk.b s.data.toList (a+i))
    generalize (Chk.rule k λi=>Chk.b s.data.toList (a+i))=l at hB HN HRL
    have hlk:l.length=k:=HRL.out
    subst hlk
    have hal:=(Below.refl wr.heap.size wr).alloc (Nat.le_refl _) (.cells #[bv s[a+l.length]] 5)
    have HB1:=hid (KC hB hal)
    have HW1:=hid (hW.alloc hW.size (.cells #[bv s[a+l.length]] 5))
    clear hB hW hat hal
    go_wp2_with (at_builtin;refine zfg rfl _ _ rfl HB1.out (by rfl) wr.heap.size s[a+l.length] (by rfl) (by simp) (by omega) HW1.out.size ?_;intro ao4 cap4 w4 hB4 hgrow4;have HB4:=hid hB4;have HW4:=hid (HW1.out.grown hgrow4 HW1.out.size (λj hj=>zfb HB1.out j hj));clear hB4 hgrow4)
    go_roundw
    case rel=>exact⟨l.length+1,ao4,cap4,rfl,by go_num,by omega,.inr (by omega),by rw[<-HN.out];exact HB4.out,HW4.out⟩
    case measure=>simp[intOf];omega
   ·have HE:=hid (show(Chk.rule k λi=>Chk.b s.data.toList (a+i))=Chk.get s.data.toList a m from by
     unfold Chk.get
     rw[HSL.out,show min m (s.size-a)=k from by omega])
    rw[HE.out]at hB
    have hconv:=zba hB
    have HW:=hid hW
    clear hB hW
    by_cases h1:a+k<s.size
    ·have k0:(a:Int)+(k:Int)<(s.size:Int):=by omega
     have k1: ¬ (k:Int)<(m:Int):=by omega
     have hsub:(a:Int)+(k:Int)-(a:Int)=(k:Int):=by omega
     have hka:(k:Int)<=1000000:=by omega
     clear hlt
     go_wp2_with fail
     go_ret2
     show Both (vK s.data.toList (a:Int) (m:Int)) w _ _
     rw[HR.out]
     exact⟨rfl,HW.out⟩
    ·have k0: ¬ (a:Int)+(k:Int)<(s.size:Int):=by omega
     clear hlt
     go_wp2_with fail
     go_ret2
     show Both (vK s.data.toList (a:Int) (m:Int)) w _ _
     rw[HR.out]
     exact⟨rfl,HW.out⟩
def Bfile(g:Nat)(l:List UInt8)(w:World):Prop:=w.heap[g]?=some (.cells (l.map bv).toArray 5 (0,0))
theorem Bfile.cell{g:Nat}{l:List UInt8}{w:World}(h:Bfile g l w)(i:Nat)(hi:i<l.length):w.cell? ⟨g,i,none⟩=some (bv (Chk.b l i)):=by
 unfold World.cell?
 rw[show w.heap[(⟨g,i,none⟩:Addr).block]?=_ from h]
 simp[Chk.b,List.getD,hi]
theorem Bfile.text{g:Nat}{l:List UInt8}{w:World}(h:Bfile g l w)(n:Nat)(hn:n=l.length)(c:Nat):(convert 144 9 (.slice (some ⟨g,0,none⟩) n c)).run prog w= .ok (.string (lstr l)) w:=by
 subst hn
 refine run_convert_bytes_back (P:=prog) w 144 9 5 ⟨g,0,none⟩ c l underlying144 underlying5 underlying9 (λj hj=> ?_)
 rw[Go.WideShapes.add_plain,Nat.zero_add,h.cell j hj]
 simp[Chk.b,List.getD,List.getElem?_eq_getElem hj]
theorem Xl(n:Nat)(w:World):Bfile w.heap.size (List.replicate n 0) (w.alloc (.cells (madeCells #[.int .u8 0] n) 5)):=by
 unfold Bfile
 rw[heap_alloc_new,List.map_replicate]
 have:=toList_madeCells_one (.int .u8 0) n
 rw[show madeCells #[Value.int .u8 0] n=(List.replicate n (.int .u8 0)).toArray from by rw[<-this,Array.toArray_toList]]
 rfl
def laid(l:List UInt8)(o:Nat)(xs:List UInt8):List UInt8:=l.take o++xs++l.drop (o+xs.length)
theorem qN{l xs:List UInt8}{o:Nat}(h:o+xs.length<=l.length):(laid l o xs).length=l.length:=by
 unfold laid;rw[List.length_append,List.length_append,List.length_take,List.length_drop];omega
theorem zcQ{l xs:List UInt8}{o i:Nat}(h:o+xs.length<=l.length):Chk.b (laid l o xs) i=if o<=i/\i<o+xs.length then Chk.b xs (i-o)else Chk.b l i:=by
 have ht:(l.take o).length=o:=by rw[List.length_take];omega
 unfold laid
 by_cases h1:i<o
 ·rw[if_neg (by omega),Chk.b_append_left (by rw[List.length_append,ht];omega),Chk.b_append_left (by rw[ht];exact h1),Chk.b_take h1]
 ·by_cases h2:i<o+xs.length
  ·rw[if_pos (by omega),Chk.b_append_left (by rw[List.length_append,ht];exact h2),Chk.b_append_right (by rw[ht];omega),ht]
  ·rw[if_neg (by omega),Chk.b_append_right (by rw[List.length_append,ht];omega),List.length_append,ht,Chk.b_drop,show o+xs.length+(i-(o+xs.length))=i from by omega]
theorem YU(w:World)(g o len cap n:Nat)(ty:TypeId)(l:List UInt8)(r:ByteArray)(hf:Bfile g l w)(hn:n=min r.size len)(hfit:o+len<=l.length):
  (Builtin.copy_ #[144,9] ty #[.slice (some ⟨g,o,none⟩) len cap,.string r]).run prog w= .ok (goInt n) (w.setRow g ((laid l o (r.data.toList.take n)).map bv).toArray):=by
 have hrs:r.data.toList.length=r.size:=by rw[Array.length_toList];rfl
 have hst:=run_storeCells_at prog g o 5 ((r.data.toList.take n).map (λb=>bv b)) 0 _ w hf (by rw[List.size_toArray,List.length_map,List.length_map,List.length_take];omega) (by intro v hv;obtain⟨x,_,rfl⟩:=List.mem_map.1 hv;rfl)
 have hz:(sizeOf 5).run prog w= .ok 1 w:=by kernel_rfl
 have hmin:Nat.min r.size len=n:=hn.symm
 have h:=kp w 144 9 ty 5 underlying144 hz (some ⟨g,o,none⟩) len cap r n hmin _ _ rfl (by rw[<-List.map_take];exact hst)
 rw[h]
 congr 3
 unfold laid
 simp only[List.map_append,List.map_take,List.map_drop,List.length_map,List.length_take,Nat.add_zero]
theorem Ye{w:World}{g o:Nat}{l:List UInt8}(xs:List UInt8)(hf:Bfile g l w):Bfile g (laid l o xs) (w.setRow g ((laid l o xs).map bv).toArray):=setRow_heap w g _ _ 5 _ hf
theorem U4(l:List UInt8)(n:Nat):laid (List.replicate n 0) 0 (l.take (min l.length n))=Chk.trunc l n:=by
 have hl:(l.take (min l.length n)).length=min l.length n:=by rw[List.length_take];omega
 refine Chk.rule_is (by rw[qN (by rw[hl,List.length_replicate];omega),List.length_replicate]) λi hi=> ?_
 rw[zcQ (by rw[hl,List.length_replicate];omega),hl]
 by_cases h:i<l.length
 ·rw[if_pos (by omega),Nat.sub_zero,Chk.b_take (by omega)]
 ·rw[if_neg (by omega),Chk.b_over (l:=l) (by omega)]
  simp[Chk.b,List.getD,hi]
theorem VK{l d:List UInt8}{off:Nat}(hd:d≠[]):laid (Chk.trunc l (max l.length (off+d.length))) off d=Chk.put l off d:=by
 rw[Chk.put_is hd]
 refine Chk.rule_is (by rw[qN (by rw[Chk.trunc_length];omega),Chk.trunc_length]) λi hi=> ?_
 rw[zcQ (by rw[Chk.trunc_length];omega)]
 split
 ·rfl
 ·exact Chk.trunc_b hi
def Sized(l:List UInt8)(n:Nat)(w:World)(e:Ending)(w':World):Prop:= ∃g,w.heap.size<=g/\e= .returned (.slice (some ⟨g,0,none⟩) n n)/\Bfile g (Chk.trunc l n) w'/\Below w.heap.size w w'
theorem YN(s:ByteArray)(n:Nat)(w:World)(hn:n<=1000000):Calls prog 195 #[.string s,.int .i64 (n:Int)] w (Sized s.data.toList n w):=by
 have hmk:=YT n hn
 have hcp:=YU (w.alloc (.cells (madeCells #[.int .u8 0] n) 5)) w.heap.size 0 n n (min s.size n) 3 (List.replicate n 0) s (Xl n w) rfl (by rw[List.length_replicate];omega)
 have hf:=Ye (o:=0) (s.data.toList.take (min s.size n)) (Xl n w)
 have ht:=U4 s.data.toList n
 rw[show s.data.toList.length=s.size from Array.length_toList]at ht
 rw[ht]at hf hcp
 have hB:Below w.heap.size w ((w.alloc (.cells (madeCells #[.int .u8 0] n) 5)).setRow w.heap.size ((Chk.trunc s.data.toList n).map bv).toArray):=below_setRow ((Below.refl w.heap.size w).alloc (Nat.le_refl _) _) (Nat.le_refl _) _
 generalize hw2:(w.alloc (.cells (madeCells #[.int .u8 0] n) 5)).setRow w.heap.size ((Chk.trunc s.data.toList n).map bv).toArray=w2 at hcp hf hB
 have HF:=hid hf
 clear hf ht hw2
 go_enter func195,ntmps195
 go_wp2_with fail
 go_ret
 exact⟨_,Nat.le_refl _,rfl,HF.out,hB⟩
theorem Vn{d:ByteArray}(h:0<d.size):d.toList.isEmpty=false:=by
 rw[Lib.toList_data]
 cases hd:d.data.toList with
 | nil => have:d.data.toList.length=d.size:=Array.length_toList
          rw[hd]at this;simp at this;omega
 |cons _ _=>rfl
theorem XC{d:ByteArray}(h:d.size=0):d.toList.isEmpty=true:=by
 rw[str_empty h,Lib.toList_data];rfl
def zd0(s d:List UInt8)(o M:Nat)(w:World):Prop:= ∀(w1:World) (g:Nat),w.heap.size<=g->Bfile g (Chk.trunc s M) w1->Below w.heap.size w w1-> ∃w2,(Builtin.copy_ #[144,9] 3 #[.slice (some ⟨g,o,none⟩) (M-o) (M-o),.string (lstr d)]).run prog w1= .ok (goInt d.length) w2/\(convert 144 9 (.slice (some ⟨g,0,none⟩) M M)).run prog w2= .ok (.string (lstr (Chk.put s o d))) w2/\Below w.heap.size w w2
theorem zes{s d:List UInt8}{o M:Nat}(w:World)(hd:d≠[])(hM:max s.length (o+d.length)=M):zd0 s d o M w:=by
 intro w1 g hg hf hw
 have hl:(lstr d).size=d.length:=lstr_size d
 have hoM:o+d.length<=M:=by omega
 have hcp:=YU w1 g o (M-o) (M-o) d.length 3 _ (lstr d) hf (by rw[hl];omega) (by rw[Chk.trunc_length];omega)
 rw[lstr_data,List.take_length,show laid (Chk.trunc s M) o d=Chk.put s o d from by rw[<-hM];exact VK hd]at hcp
 have hf2:=Ye (o:=o) d hf
 rw[show laid (Chk.trunc s M) o d=Chk.put s o d from by rw[<-hM];exact VK hd]at hf2
 exact⟨_,hcp,hf2.text M (by rw[Chk.put_length hd,hM]) M,below_setRow hw hg _⟩
theorem zcg(s:ByteArray)(o:Nat)(d:ByteArray)(w:World)(hs:s.size<=1000000)(h3:0<d.size)(hos:o+d.size<=4096)(HR:Hid (z8 s.data.toList (o:Int) d.data.toList=(Chk.put s.data.toList o d.data.toList,0))):
  Calls prog 146 #[.string s,.int .i64 (o:Int),.string d] w (Both (z8 s.data.toList (o:Int) d.data.toList) w):=by
 have hdl:d.data.toList.length=d.size:=Array.length_toList
 have hsl:s.data.toList.length=s.size:=Array.length_toList
 have hne:d.toList.isEmpty=false:=Vn h3
 have hdne:d.data.toList≠[]:=λe=>by
  have h:=congrArg List.length e
  rw[hdl]at h
  exact absurd h (by show¬ d.size=0;omega)
 obtain⟨M,hM⟩: ∃M,max s.size (o+d.size)=M:=⟨_,rfl⟩
 have HX:=hid (YN s M w (by omega))
 have HE:=hid (zes (s:=s.data.toList) (d:=d.data.toList) (o:=o) (M:=M) w hdne (by rw[hsl,hdl];exact hM))
 unfold zd0 at HE
 rw[show lstr d.data.toList=d from rfl,hdl]at HE
 have hoM:(o:Int)<=(M:Int):=by omega
 have hoM1: ¬ o=M:=by omega
 have hoM2: ¬ (o:Int)=(M:Int):=by omega
 have hoM3:o<M:=by omega
 have hos1:(o:Int)<=4096-(d.size:Int):=by omega
 have hos0:(0:Int)<=(o:Int):=by omega
 have hds:(d.size:Int)<=4096:=by omega
 have hM1:max (s.size:Int) ((o:Int)+(d.size:Int))=(M:Int):=by omega
 clear hsl hdl hdne hM hos h3 hs
 go_enter func146,ntmps146
 go_wp2_with fail
 refine HX.out.mono ?_
 rintro e w1 ⟨g,hg,rfl,hf,hw⟩
 obtain⟨w2,hcp,hcv,hB⟩:=HE.out w1 g hg hf hw
 have HB:=hid hB
 clear hf hw hB HE HX hM1
 generalize Chk.put s.data.toList o d.data.toList=l at hcv HR
 dsimp only
 go_wp2_with fail
 go_ret2
 show Both (z8 s.data.toList (o:Int) d.data.toList) w _ _
 rw[HR.out]
 exact⟨rfl,HB.out⟩
theorem QB(s:ByteArray)(n:Int)(w:World):
  Calls prog 148 #[.string s,.int .i64 n] w (Both (zD s.data.toList n) w):=by
 by_cases h1:n<0
 ·have HR:=hid (show zD s.data.toList n=([],1)from by unfold zD;rw[if_pos h1])
  go_enter func148,ntmps148
  go_wp2_with fail
  go_ret2
  show Both (zD s.data.toList n) w _ _
  rw[HR.out]
  exact⟨rfl,Below.refl _ _⟩
 ·have h1':0<=n:=by omega
  by_cases h2:4096<n
  ·have HR:=hid (show zD s.data.toList n=([],3)from by unfold zD;rw[if_neg h1,if_pos h2])
   go_enter func148,ntmps148
   go_wp2_with fail
   go_ret2
   show Both (zD s.data.toList n) w _ _
   rw[HR.out]
   exact⟨rfl,Below.refl _ _⟩
  ·obtain⟨m,rfl⟩: ∃m:Nat,n=(m:Int):=⟨n.toNat,by omega⟩
   have h2':(m:Int)<=4096:=by omega
   have HR:=hid (show zD s.data.toList (m:Int)=(Chk.trunc s.data.toList m,0)from by unfold zD;rw[if_neg h1,if_neg h2];rfl)
   have HX:=hid (YN s m w (by omega))
   clear h1 h2
   go_enter func148,ntmps148
   go_wp2_with fail
   refine HX.out.mono ?_
   rintro e w1 ⟨g,hg,rfl,hf,hw⟩
   have hcv:=hf.text m (by rw[Chk.trunc_length]) m
   have HW:=hid hw
   clear hf hw
   generalize Chk.trunc s.data.toList m=l at hcv HR
   dsimp only
   go_wp2_with fail
   go_ret2
   show Both (zD s.data.toList (m:Int)) w _ _
   rw[HR.out]
   exact⟨rfl,HW.out⟩
theorem put_any(s:ByteArray)(off:Int)(d:ByteArray)(w:World)(hs:s.size<=1000000)(hd:d.size<=140737488355328)(ho:off<=9223372036854775807):
  Calls prog 146 #[.string s,.int .i64 off,.string d] w (Both (z8 s.data.toList off d.data.toList) w):=by
 have hdl:d.data.toList.length=d.size:=Array.length_toList
 have hsl:s.data.toList.length=s.size:=Array.length_toList
 by_cases h1:off<0
 ·have HR:=hid (show z8 s.data.toList off d.data.toList=([],1)from by unfold z8;rw[if_pos h1])
  clear hdl hsl
  go_enter func146,ntmps146
  go_wp2_with fail
  go_ret2
  show Both (z8 s.data.toList off d.data.toList) w _ _
  rw[HR.out]
  exact⟨rfl,Below.refl _ _⟩
 ·have h1':0<=off:=by omega
  by_cases h2:4096<off+(d.size:Int)
  ·have HR:=hid (show z8 s.data.toList off d.data.toList=([],3)from by unfold z8;rw[if_neg h1,if_pos (by rw[hdl];exact h2)])
   have h2':4096-(d.size:Int)<off:=by omega
   clear hdl hsl h2
   go_enter func146,ntmps146
   go_wp2_with fail
   go_ret2
   show Both (z8 s.data.toList off d.data.toList) w _ _
   rw[HR.out]
   exact⟨rfl,Below.refl _ _⟩
  ·have h2':off<=4096-(d.size:Int):=by omega
   have HR:=hid (show z8 s.data.toList off d.data.toList=(Chk.put s.data.toList off.toNat d.data.toList,0)from by unfold z8;rw[if_neg h1,if_neg (by rw[hdl];exact h2)])
   by_cases h3:d.size=0
   ·have hde:d.toList.isEmpty=true:=XC h3
    have HX:=hid (clone_any s w (by omega))
    have HP:=hid (show lstr (Chk.put s.data.toList off.toNat d.data.toList)=s from by rw[show d.data.toList=[]from by rw[str_empty h3],Chk.put_nil];rfl)
    clear hdl hsl h2 h3
    go_enter func146,ntmps146
    go_wp2_with fail
    refine HX.out.mono ?_
    rintro e w1 ⟨rfl,hw⟩
    dsimp only
    go_wp2_with fail
    go_ret2
    show Both (z8 s.data.toList off d.data.toList) w _ _
    rw[HR.out]
    refine⟨?_,hw⟩
    show _=Ending.returned (.tuple #[.string (lstr (Chk.put s.data.toList off.toNat d.data.toList)),.int .i64 0])
    rw[HP.out]
    rfl
   ·obtain⟨o,rfl⟩: ∃o:Nat,off=(o:Int):=⟨off.toNat,by omega⟩
    rw[Int.toNat_natCast]at HR
    exact zcg s o d w hs (by omega) (by omega) HR
theorem zde(s:ByteArray)(o n:Nat)(ho:o<=s.size):(s.extract o s.size).extract 0 (min n (s.size-o))=lstr (Chk.get s.data.toList o n):=by
 have hl:s.data.toList.length=s.size:=Array.length_toList
 have h1:s.extract o s.size=lstr (s.data.toList.drop o):=by
  have h:=cut_text s o (s.size-o) (by omega)
  rw[show o+(s.size-o)=s.size from by omega]at h
  rw[h,List.take_of_length_le (by rw[List.length_drop,hl];omega)]
 have h2:=cut_text (lstr (s.data.toList.drop o)) 0 (min n (s.size-o)) (by rw[lstr_size,List.length_drop,hl];omega)
 rw[Nat.zero_add,lstr_data,List.drop_zero]at h2
 rw[h1,h2,Chk.get_take]
 congr 1
 by_cases hn:n<=s.size-o
 ·rw[Nat.min_eq_left hn]
 ·rw[Nat.min_eq_right (by omega),List.take_of_length_le (by rw[List.length_drop,hl];omega),List.take_of_length_le (by rw[List.length_drop,hl];omega)]
theorem zdf(s:List UInt8)(o n:Nat)(ho:s.length<=o):Chk.get s o n=Chk.get s s.length n:=by
 rw[Chk.get_take,Chk.get_take,List.drop_eq_nil_of_le ho,List.drop_eq_nil_of_le (Nat.le_refl _)]
theorem zeW(s:ByteArray)(off n:Int)(w:World)(hs:s.size<=1000000)(ho:off<=9223372036854775807)(hn:n<=9223372036854775807):
  Calls prog 66 #[.string s,.int .i64 off,.int .i64 n] w (Both (vK s.data.toList off n) w):=by
 have hsl:s.data.toList.length=s.size:=Array.length_toList
 by_cases h1:off<0\/n<0
 ·have HR:=hid (show vK s.data.toList off n=([],1)from by unfold vK;rw[if_pos h1])
  have key: ∀e w',e=Ending.returned (.tuple #[.string ⟨#[]⟩,.int .i64 1])/\w=w'->Both (vK s.data.toList off n) w e w':=by
   rintro e w' ⟨rfl,rfl⟩
   rw[HR.out]
   exact⟨rfl,Below.refl _ _⟩
  refine Calls.mono ?_ key
  clear key hsl
  by_cases a1:off<0
  ·go_enter func66,ntmps66
   go_wp2_with fail
   go_ret2
   exact⟨rfl,rfl⟩
  ·have a2:n<0:=by omega
   clear h1
   go_enter func66,ntmps66
   go_wp2_with fail
   go_ret2
   exact⟨rfl,rfl⟩
 ·have h2:0<=off:=by omega
  have h3:0<=n:=by omega
  obtain⟨o,rfl⟩: ∃o:Nat,off=(o:Int):=⟨off.toNat,by omega⟩
  obtain⟨m,rfl⟩: ∃m:Nat,n=(m:Int):=⟨n.toNat,by omega⟩
  have HR:=hid (show vK s.data.toList (o:Int) (m:Int)=(Chk.get s.data.toList o m,0)from by unfold vK;rw[if_neg h1];rfl)
  obtain⟨p,hp⟩: ∃p,min o s.size=p:=⟨_,rfl⟩
  have hp1:min (o:Int) (s.size:Int)=(p:Int):=by omega
  have hps:p<=s.size:=by omega
  have hpsi:(p:Int)<=(s.size:Int):=by omega
  have hEq:Chk.get s.data.toList o m=Chk.get s.data.toList p m:=by
   by_cases hos:o<=s.size
   ·rw[show p=o from by omega]
   ·rw[zdf _ o m (by rw[hsl];omega),hsl,show s.size=p from by omega]
  have hT:=zde s p m hps
  rw[<-hEq]at hT
  have hxs:(s.extract p s.size).size=s.size-p:=by rw[ByteArray.size_extract];omega
  obtain⟨q,hq⟩: ∃q,min m (s.size-p)=q:=⟨_,rfl⟩
  have hq1:min (m:Int) ((s.size-p:Nat):Int)=(q:Int):=by omega
  have hq2:(q:Int)<=((s.size-p:Nat):Int):=by omega
  rw[hq]at hT
  have HX:=hid (clone_any (lstr (Chk.get s.data.toList o m)) w (by rw[lstr_size,Chk.get_length];omega))
  have HT:=hid hT
  clear h1 hsl hEq hp hq hT
  generalize Chk.get s.data.toList o m=l at HR HT HX
  go_enter func66,ntmps66
  go_wp2_with fail
  rw[HT.out]
  refine HX.out.mono ?_
  rintro e w1 ⟨rfl,hw⟩
  have HW:=hid hw
  clear hw
  dsimp only
  go_wp2_with fail
  go_ret2
  show Both (vK s.data.toList (o:Int) (m:Int)) w _ _
  rw[HR.out]
  exact⟨rfl,HW.out⟩
theorem zdD(s:ByteArray)(off:Int)(src:ByteArray)(f n:Int)(w:World)(hs:s.size<=1000000)(hd:src.size<=140737488355328)(ho:off<=9223372036854775807)(hf:f<=9223372036854775807)(hn:n<=9223372036854775807):
  Calls prog 150 #[.string s,.int .i64 off,.string src,.int .i64 f,.int .i64 n] w (Both (yD s.data.toList off src.data.toList f n) w):=by
 have hdl:src.data.toList.length=src.size:=Array.length_toList
 by_cases h1:f<0\/n<0\/(src.size:Int)<f+n
 ·have HR:=hid (show yD s.data.toList off src.data.toList f n=([],1)from by unfold yD;rw[if_pos (by rw[hdl];exact h1)])
  clear hdl
  have key: ∀e w',e=Ending.returned (.tuple #[.string ⟨#[]⟩,.int .i64 1])/\w=w'->Both (yD s.data.toList off src.data.toList f n) w e w':=by
   rintro e w' ⟨rfl,rfl⟩
   rw[HR.out]
   exact⟨rfl,Below.refl _ _⟩
  refine Calls.mono ?_ key
  clear key
  by_cases a1:f<0
  ·go_enter func150,ntmps150
   go_wp2_with fail
   go_ret2
   exact⟨rfl,rfl⟩
  ·by_cases a2:n<0
   ·go_enter func150,ntmps150
    go_wp2_with fail
    go_ret2
    exact⟨rfl,rfl⟩
   ·by_cases a3:(src.size:Int)<f
    ·clear h1
     go_enter func150,ntmps150
     go_wp2_with fail
     go_ret2
     exact⟨rfl,rfl⟩
    ·have a4:(src.size:Int)-f<n:=by omega
     clear h1
     go_enter func150,ntmps150
     go_wp2_with fail
     go_ret2
     exact⟨rfl,rfl⟩
 ·have hf0:0<=f:=by omega
  have hn0:0<=n:=by omega
  have hfn:f+n<=(src.size:Int):=by omega
  obtain⟨a,rfl⟩: ∃a:Nat,f=(a:Int):=⟨f.toNat,by omega⟩
  obtain⟨m,rfl⟩: ∃m:Nat,n=(m:Int):=⟨n.toNat,by omega⟩
  have HR:=hid (show yD s.data.toList off src.data.toList (a:Int) (m:Int)=z8 s.data.toList off ((src.data.toList.drop a).take m)from by unfold yD;rw[if_neg (by rw[hdl];exact h1)];rfl)
  have hcut:=cut_text src a m (by omega)
  have HX:=hid (put_any s off (lstr ((src.data.toList.drop a).take m)) w hs (by rw[lstr_size,List.length_take,List.length_drop,hdl];omega) ho)
  rw[lstr_data]at HX
  have HC:=hid hcut
  have h3:(a:Int)<=(src.size:Int):=by omega
  have ht:((a:Int)+(m:Int)).toNat=a+m:=by omega
  clear h1 hdl hcut
  go_enter func150,ntmps150
  go_wp2_with fail
  rw[HC.out]
  refine HX.out.mono ?_
  rintro e w1 ⟨rfl,hw1⟩
  have HW:=hid hw1
  clear hw1
  dsimp only
  go_wp2_with fail
  go_ret2
  show Both (yD s.data.toList off src.data.toList (a:Int) (m:Int)) w _ _
  rw[HR.out]
  exact⟨rfl,HW.out⟩
end Go.Proofs.YtabmamofnhcgbaaGreatDoor.T6
namespace Nd
abbrev En:=ByteArray×Int
def bs(b:ByteArray):List UInt8:=b.data.toList
def mk(l:List UInt8):ByteArray:=⟨l.toArray⟩
theorem zcJ(b:ByteArray):mk (bs b)=b:=rfl
theorem Ql(l:List UInt8):bs (mk l)=l:=rfl
structure Node where
 kind:Int
 mode:Int
 data:ByteArray
 target:ByteArray
 ents:List En
 deriving DecidableEq
section
variable (lt : ByteArray -> ByteArray -> Bool) (nm : List UInt8 -> Bool)
def rises:List En->Bool
 |[]=>true
 |[_]=>true
 |x::y::l=>lt x.1 y.1&&rises (y::l)
def entOk(x:En):Bool:=nm (bs x.1)&&decide (1<=x.2)&&decide (x.2<=2147483647)
def right(x:Node):Bool:=
 decide (0<=x.mode)&&decide (x.mode<=511)&&decide (x.ents.length<=64)&&x.ents.all (entOk nm)&&rises lt x.ents&&
 (if x.kind=1 then decide (x.target=ByteArray.empty)&&decide (x.ents.length=0)&&decide (x.data.size<=4096)
  else if x.kind=2 then decide (x.target=ByteArray.empty)&&decide (x.data=ByteArray.empty)
  else decide (x.kind=3)&&decide (x.data=ByteArray.empty)&&decide (x.ents.length=0)&&decide (1<=x.target.size)&&decide (x.target.size<=64))
end
def n4(n:Nat):List UInt8:=[UInt8.ofNat (n/16777216),UInt8.ofNat (n/65536),UInt8.ofNat (n/256),UInt8.ofNat n]
def v4:List UInt8->Nat
 |[a,b,c,d]=>((a.toNat*256+b.toNat)*256+c.toNat)*256+d.toNat
 |_=>0
theorem v4_n4{n:Nat}(h:n<4294967296):v4 (n4 n)=n:=by
 simp only[v4,n4,UInt8.toNat_ofNat'];omega
theorem n4_v4(l:List UInt8)(h:l.length=4):n4 (v4 l)=l:=by
 match l,h with
 |[a,b,c,d],_=>
  have ha:=a.toNat_lt;have hb:=b.toNat_lt;have hc:=c.toNat_lt;have hd:=d.toNat_lt
  simp only[v4,n4,List.cons.injEq,and_true]
  refine⟨?_, ?_, ?_, ?_⟩<;>apply UInt8.toNat_inj.1<;>rw[UInt8.toNat_ofNat']<;>omega
def entText(x:En):List UInt8:=UInt8.ofNat x.1.size::(bs x.1++n4 x.2.toNat)
def text(x:Node):List UInt8:=
 UInt8.ofNat x.kind.toNat::UInt8.ofNat (x.mode.toNat/256)::UInt8.ofNat x.mode.toNat::(bs x.data++bs x.target++(x.ents.map entText).flatten)
def ents(l:List UInt8):Option (List En):=
 match l with
 |[]=>some []
 |n::t=>if n.toNat+4<=t.length then(ents (t.drop (n.toNat+4))).map λes=>(mk (t.take n.toNat),(v4 ((t.drop n.toNat).take 4):Int))::es else none
 termination_by l.length
 decreasing_by simp;omega
theorem len_bs(b:ByteArray):(bs b).length=b.size:=Array.length_toList
theorem size_mk(l:List UInt8):(mk l).size=l.length:=by rw[<-len_bs,Ql]
theorem Kn: ∀es:List En,(∀x∈es,x.1.size<256/\0<=x.2/\x.2<4294967296)->ents (es.map entText).flatten=some es:=by
 intro es
 induction es with
 |nil=>intro _;simp[ents]
 | cons x es ih=>
  intro h
  obtain⟨h1,h2,h3⟩:=h x List.mem_cons_self
  rw[List.map_cons,List.flatten_cons]
  show ents (UInt8.ofNat x.1.size::((bs x.1++n4 x.2.toNat)++(es.map entText).flatten))=_
  rw[ents]
  have hn:(UInt8.ofNat x.1.size).toNat=x.1.size:=by rw[UInt8.toNat_ofNat'];omega
  have hl:(n4 x.2.toNat).length=4:=rfl
  rw[hn,if_pos (by simp[len_bs,hl]),List.append_assoc]
  have e1:(bs x.1++(n4 x.2.toNat++(es.map entText).flatten)).drop (x.1.size+4)=(es.map entText).flatten:=by
   rw[<-List.append_assoc]
   exact List.drop_left' (by rw[List.length_append,len_bs,hl])
  have e2:(bs x.1++(n4 x.2.toNat++(es.map entText).flatten)).take x.1.size=bs x.1:=List.take_left' (len_bs _)
  have e3:((bs x.1++(n4 x.2.toNat++(es.map entText).flatten)).drop x.1.size).take 4=n4 x.2.toNat:=by
   rw[List.drop_left' (len_bs _)];exact List.take_left' hl
  rw[e1,e2,e3,ih (λy hy=>h y (List.mem_cons_of_mem _ hy)),v4_n4 (by omega),zcJ]
  simp only[Option.map_some]
  rw[Int.toNat_of_nonneg h2]
theorem U5(k:Nat): ∀(l:List UInt8) (es:List En),l.length<=k->ents l=some es->(es.map entText).flatten=l/\ ∀x∈es,0<=x.2:=by
 induction k with
 |zero=>
  intro l es hk h
  have:l=[]:=List.length_eq_zero_iff.1 (by omega)
  subst this
  rw[ents]at h;injection h with h;subst h;exact⟨rfl,λx hx=>by cases hx⟩
 | succ k ih=>
  intro l es hk h
  match l,hk,h with
  |[],_,h=>rw[ents]at h;injection h with h;subst h;exact⟨rfl,λx hx=>by cases hx⟩
  | n ::t,hk,h=>
   rw[ents]at h
   split at h
   ·rename_i hlen
    cases he:ents (t.drop (n.toNat+4))with
    |none=>rw[he]at h;cases h
    | some es'=>
     rw[he]at h
     simp only[Option.map_some,Option.some.injEq]at h
     subst h
     have:=ih _ es' (by simp only[List.length_cons]at hk;rw[List.length_drop];omega) he
     obtain⟨h1,h2⟩:=this
     refine⟨?_,λx hx=> ?_⟩
     ·rw[List.map_cons,List.flatten_cons,h1]
      show UInt8.ofNat (mk (t.take n.toNat)).size::((bs (mk (t.take n.toNat))++n4 (v4 ((t.drop n.toNat).take 4)))++t.drop (n.toNat+4))=n::t
      have hs:(mk (t.take n.toNat)).size=n.toNat:=by rw[size_mk,List.length_take];omega
      rw[hs,Ql,n4_v4 _ (by rw[List.length_take,List.length_drop];omega),UInt8.ofNat_toNat,List.append_assoc,<-List.drop_drop,List.take_append_drop,List.take_append_drop]
     ·rcases List.mem_cons.1 hx with rfl|hx
      ·exact Int.natCast_nonneg _
      ·exact h2 x hx
   ·cases h
def nodeOf(a b c:UInt8)(r:List UInt8)(es:List En):Node:=⟨a.toNat,b.toNat*256+c.toNat,if a.toNat=1 then mk r else ByteArray.empty,if a.toNat=3 then mk r else ByteArray.empty,es⟩
def parse(lt:ByteArray->ByteArray->Bool)(nm:List UInt8->Bool)(s:List UInt8):Option Node:=
 match s with
 |a::b::c::r=>
  match (if a.toNat=2 then ents r else some [])with
  |none=>none
  |some es=>if right lt nm (nodeOf a b c r es)=true then some (nodeOf a b c r es)else none
 |_=>none
section
variable {lt : ByteArray -> ByteArray -> Bool} {nm : List UInt8 -> Bool}
structure Right (lt:ByteArray->ByteArray->Bool) (nm:List UInt8->Bool) (x:Node):Prop where
 m0:0<=x.mode
 m1:x.mode<=511
 len:x.ents.length<=64
 ok: ∀e∈x.ents,nm (bs e.1)=true/\1<=e.2/\e.2<=2147483647
 rise:rises lt x.ents=true
 kinds:(x.kind=1/\x.target=ByteArray.empty/\x.ents=[]/\x.data.size<=4096)\/(x.kind=2/\x.target=ByteArray.empty/\x.data=ByteArray.empty)\/(x.kind=3/\x.data=ByteArray.empty/\x.ents=[]/\1<=x.target.size/\x.target.size<=64)
theorem right_iff(x:Node):right lt nm x=true↔Right lt nm x:=by
 constructor
 ·intro h
  unfold right at h
  simp only[Bool.and_eq_true,decide_eq_true_eq,List.all_eq_true,entOk]at h
  obtain⟨⟨⟨⟨⟨h1,h2⟩,h3⟩,h4⟩,h5⟩,h6⟩:=h
  refine⟨h1,h2,h3,λe he=>⟨(h4 e he).1.1,(h4 e he).1.2,(h4 e he).2⟩,h5, ?_⟩
  split at h6
  ·rename_i hk
   simp only[Bool.and_eq_true,decide_eq_true_eq]at h6
   exact .inl ⟨hk,h6.1.1,List.length_eq_zero_iff.1 h6.1.2,h6.2⟩
  ·split at h6
   ·rename_i hk
    simp only[Bool.and_eq_true,decide_eq_true_eq]at h6
    exact .inr (.inl ⟨hk,h6.1,h6.2⟩)
   ·simp only[Bool.and_eq_true,decide_eq_true_eq]at h6
    exact .inr (.inr ⟨h6.1.1.1.1,h6.1.1.1.2,List.length_eq_zero_iff.1 h6.1.1.2,h6.1.2,h6.2⟩)
 ·rintro ⟨h1,h2,h3,h4,h5,h6⟩
  unfold right
  simp only[Bool.and_eq_true,decide_eq_true_eq,List.all_eq_true,entOk]
  refine⟨⟨⟨⟨⟨h1,h2⟩,h3⟩,λe he=>⟨⟨(h4 e he).1,(h4 e he).2.1⟩,(h4 e he).2.2⟩⟩,h5⟩, ?_⟩
  rcases h6 with ⟨hk,h7,h8,h9⟩|⟨hk,h7,h8⟩|⟨hk,h7,h8,h9,h10⟩
  ·rw[if_pos hk,h7,h8];simp[h9]
  ·rw[if_neg (by omega),if_pos hk,h7,h8];simp
  ·rw[if_neg (by omega),if_neg (by omega),hk,h7,h8];simp[h9,h10]
theorem ul:bs ByteArray.empty=[]:=rfl
theorem parse_text{x:Node}(hn: ∀l,nm l=true->l.length<256)(h:Right lt nm x):parse lt nm (text x)=some x:=by
 have hr:=(right_iff x).2 h
 obtain⟨kind,mode,data,target,es⟩:=x
 obtain⟨h1,h2,h3,h4,h5,h6⟩:=h
 simp only at h1 h2 h3 h4 h5 h6
 have hes:ents (es.map entText).flatten=some es:=Kn es λx hx=>⟨by rw[<-len_bs];exact hn _ (h4 x hx).1,by have:=(h4 x hx).2.1;omega,by have:=(h4 x hx).2.2;omega⟩
 have hm:((UInt8.ofNat (mode.toNat/256)).toNat*256+(UInt8.ofNat mode.toNat).toNat:Int)=mode:=by
  rw[UInt8.toNat_ofNat',UInt8.toNat_ofNat'];omega
 unfold text parse
 simp only[nodeOf]
 rcases h6 with ⟨rfl,rfl,rfl,h9⟩|⟨rfl,rfl,rfl⟩|⟨rfl,rfl,rfl,h9,h10⟩
 ·simp only[List.map_nil,List.flatten_nil,ul,List.append_nil,zcJ,hm]
  simpa using hr
 ·simp only[ul,List.append_nil,List.nil_append,hm]
  simp only[show(UInt8.ofNat (Int.toNat 2)).toNat=2 from rfl,if_true,hes]
  simpa using hr
 ·simp only[List.map_nil,List.flatten_nil,ul,List.append_nil,List.nil_append,zcJ,hm]
  simpa using hr
theorem text_parse{s:List UInt8}{x:Node}(h:parse lt nm s=some x):text x=s/\Right lt nm x:=by
 match s,h with
 |[],h=>cases h
 |[_],h=>cases h
 |[_,_],h=>cases h
 | a ::b::c::r,h=>
  have hb:=b.toNat_lt;have hc:=c.toNat_lt;unfold parse at h
  cases hes:(if a.toNat=2 then ents r else some [])with
  |none=>simp only[hes]at h;cases h
  | some es=>
   simp only[hes]at h
   by_cases hr:right lt nm (nodeOf a b c r es)=true
   ·rw[if_pos hr]at h
    injection h with h
    subst h
    have hR:=(right_iff _).1 hr
    refine⟨?_,hR⟩
    have e0:UInt8.ofNat (Int.toNat (a.toNat:Int))=a:=by rw[Int.toNat_natCast,UInt8.ofNat_toNat]
    have e1:UInt8.ofNat ((b.toNat*256+c.toNat:Int).toNat/256)=b:=by apply UInt8.toNat_inj.1;rw[UInt8.toNat_ofNat'];omega
    have e2:UInt8.ofNat (b.toNat*256+c.toNat:Int).toNat=c:=by apply UInt8.toNat_inj.1;rw[UInt8.toNat_ofNat'];omega
    unfold text
    simp only[nodeOf,e0,e1,e2]
    have hK:=hR.kinds
    simp only[nodeOf]at hK
    congr 3
    rcases hK with ⟨hk,h7,h8,h9⟩|⟨hk,h7,h8⟩|⟨hk,h7,h8,h9,h10⟩
    ·have:a.toNat=1:=by omega
     rw[h8,this];simp[Ql,ul]
    ·have:a.toNat=2:=by omega
     rw[this,if_pos rfl]at hes
     rw[this];simp[ul,(U5 _ r es (Nat.le_refl _) hes).1]
    ·have:a.toNat=3:=by omega
     rw[h8,this];simp[Ql,ul]
   ·rw[if_neg hr]at h;cases h
end
def find:List En->ByteArray->Option Int
 |[],_=>none
 |x::l,k=>if x.1=k then some x.2 else find l k
def ins(lt:ByteArray->ByteArray->Bool):List En->ByteArray->Int->List En
 |[],k,i=>[(k,i)]
 |x::l,k,i=>if lt x.1 k=true then x::ins lt l k i else(k,i)::x::l
def cut:List En->ByteArray->List En
 |[],_=>[]
 |x::l,k=>if x.1=k then l else x::cut l k
def none0:Node:=⟨0,0,ByteArray.empty,ByteArray.empty,[]⟩
def withE(lt:ByteArray->ByteArray->Bool)(nm:List UInt8->Bool)(x:Node)(k:ByteArray)(i:Int):Node×Int:=
 if x.kind≠2 then(none0,10)else if nm (bs k)=false then(none0,14)else if(find x.ents k).isSome=true then(none0,5)else if 64<=x.ents.length then(none0,3)else({x with ents:=ins lt x.ents k i},0)
def withoutE(x:Node)(k:ByteArray):Node×Int:=
 if x.kind≠2 then(none0,10)else if(find x.ents k).isSome=false then(none0,4)else({x with ents:=cut x.ents k},0)
theorem find_none{l:List En}{k:ByteArray}:find l k=none↔ ∀x∈l,x.1≠k:=by
 induction l with
 |nil=>simp[find]
 |cons x l ih=>
  unfold find
  by_cases h:x.1=k
  ·rw[if_pos h];simp[h]
  ·rw[if_neg h,ih];simp[h]
theorem find_mem{l:List En}{k:ByteArray}{i:Int}(h:find l k=some i):(k,i)∈l:=by
 induction l with
 |nil=>cases h
 |cons x l ih=>
  unfold find at h
  by_cases hx:x.1=k
  ·rw[if_pos hx]at h;injection h with h;subst h;subst hx;exact List.mem_cons_self
  ·rw[if_neg hx]at h;exact List.mem_cons_of_mem _ (ih h)
section
variable {lt : ByteArray -> ByteArray -> Bool}
theorem len_ins(l:List En)(k:ByteArray)(i:Int):(ins lt l k i).length=l.length+1:=by
 induction l with
 |nil=>rfl
 |cons x l ih=>
  unfold ins
  split
  ·simp[ih]
  ·rfl
theorem mem_ins{l:List En}{k:ByteArray}{i:Int}{x:En}:x∈ins lt l k i↔x=(k,i)\/x∈l:=by
 induction l with
 |nil=>simp[ins]
 | cons y l ih=>
  unfold ins
  split
  ·simp only[List.mem_cons,ih]
   constructor
   ·rintro (h|h|h)<;>simp[h]
   ·rintro (h|h|h)<;>simp[h]
  ·simp only[List.mem_cons]
theorem find_ins_same{l:List En}{k:ByteArray}{i:Int}(h:find l k=none):find (ins lt l k i) k=some i:=by
 induction l with
 |nil=>simp[ins,find]
 |cons x l ih=>
  have hx:x.1≠k:=find_none.1 h x List.mem_cons_self
  have hl:find l k=none:=by unfold find at h;rwa [if_neg hx]at h
  unfold ins
  split
  ·unfold find;rw[if_neg hx];exact ih hl
  ·unfold find;rw[if_pos rfl]
theorem find_ins_other{l:List En}{k c:ByteArray}{i:Int}(h:c≠k):find (ins lt l k i) c=find l c:=by
 induction l with
 |nil=>simp[ins,find,Ne.symm h]
 |cons x l ih=>
  unfold ins
  split
  ·unfold find;rw[ih]
  ·rw[find,if_neg (Ne.symm h)]
theorem rises_iff(R:Tr.Rising lt)(l:List En):rises lt l=true↔Tr.Sorted lt l:=by
 induction l with
 |nil=>simp[rises,Tr.Sorted]
 | cons x l ih=>
  cases l with
  |nil=>simp[rises,Tr.Sorted]
  | cons y l=>
   rw[rises,Bool.and_eq_true,ih]
   constructor
   ·rintro ⟨h1,h2⟩
    refine List.pairwise_cons.2 ⟨λz hz=> ?_,h2⟩
    rcases List.mem_cons.1 hz with rfl|hz
    ·exact h1
    ·exact R.tra _ _ _ h1 ((List.pairwise_cons.1 h2).1 z hz)
   ·intro h
    obtain⟨h1,h2⟩:=List.pairwise_cons.1 h
    exact⟨h1 y List.mem_cons_self,h2⟩
theorem Ji(R:Tr.Rising lt){l:List En}{k:ByteArray}{i:Int}(hs:Tr.Sorted lt l)(h:find l k=none):Tr.Sorted lt (ins lt l k i):=by
 induction l with
 |nil=>exact List.pairwise_singleton _ _
 | cons x l ih=>
  have hx:x.1≠k:=find_none.1 h x List.mem_cons_self
  have hl:find l k=none:=by unfold find at h;rwa [if_neg hx]at h
  obtain⟨h1,h2⟩:=List.pairwise_cons.1 hs
  unfold ins
  by_cases hlt:lt x.1 k=true
  ·rw[if_pos hlt]
   refine List.pairwise_cons.2 ⟨λz hz=> ?_,ih h2 hl⟩
   rcases mem_ins.1 hz with rfl|hz
   ·exact hlt
   ·exact h1 z hz
  ·rw[if_neg hlt]
   have hk:lt k x.1=true:=by
    cases hkx:lt k x.1
    ·exact absurd (R.tot _ _ (by simpa using hlt) hkx) hx
    ·rfl
   refine List.pairwise_cons.2 ⟨λz hz=> ?_,hs⟩
   rcases List.mem_cons.1 hz with rfl|hz
   ·exact hk
   ·exact R.tra _ _ _ hk (h1 z hz)
theorem cut_sub(l:List En)(k:ByteArray):(cut l k).Sublist l:=by
 induction l with
 |nil=>exact List.Sublist.slnil
 |cons x l ih=>
  unfold cut
  split
  ·exact List.sublist_cons_self _ _
  ·exact ih.cons_cons x
theorem cut_none(R:Tr.Rising lt){l:List En}{k:ByteArray}(hs:Tr.Sorted lt l):find (cut l k) k=none:=by
 induction l with
 |nil=>rfl
 | cons x l ih=>
  obtain⟨h1,h2⟩:=List.pairwise_cons.1 hs
  unfold cut
  split
  ·rename_i hx
   refine find_none.2 λz hz e=> ?_
   have:=h1 z hz
   rw[e,hx,R.irr]at this;cases this
  ·rename_i hx
   unfold find;rw[if_neg hx];exact ih h2
theorem find_at(R:Tr.Rising lt){l:List En}{x:En}(hs:Tr.Sorted lt l)(h:x∈l):find l x.1=some x.2:=by
 induction l with
 |nil=>cases h
 |cons y l ih=>
  obtain⟨h1,h2⟩:=List.pairwise_cons.1 hs
  unfold find
  rcases List.mem_cons.1 h with rfl|h
  ·rw[if_pos rfl]
  ·rw[if_neg (λe=>by have:=h1 x h;rw[e,R.irr]at this;cases this),ih h2 h]
variable {nm : List UInt8 -> Bool}
theorem right_ins(R:Tr.Rising lt){x:Node}{k:ByteArray}{i:Int}(h:Right lt nm x)(hk:x.kind=2)(hn:nm (bs k)=true)(hf:find x.ents k=none)(hl:x.ents.length<64)(h1:1<=i)(h2:i<=2147483647):
  Right lt nm {x with ents:=ins lt x.ents k i}:=by
 refine⟨h.m0,h.m1, ?_,λe he=> ?_, ?_, ?_⟩
 ·show(ins lt x.ents k i).length<=64;rw[len_ins];omega
 ·rcases mem_ins.1 he with rfl|he
  ·exact⟨hn,h1,h2⟩
  ·exact h.ok e he
 ·exact(rises_iff R _).2 (Ji R ((rises_iff R _).1 h.rise) hf)
 ·rcases h.kinds with ⟨e,_⟩|h|⟨e,_⟩
  ·omega
  ·exact .inr (.inl h)
  ·omega
theorem snoc_rec{α:Type}{P:List α->Prop}(nil:P [])(append_singleton: ∀l x,P l->P (l++[x]))(l:List α):P l:=by
 have h: ∀m:List α,P m.reverse:=by
  intro m
  induction m with
  |nil=>exact nil
  |cons x m ih=>rw[List.reverse_cons];exact append_singleton _ _ ih
 have:=h l.reverse
 rwa [List.reverse_reverse]at this
end
end Nd
namespace Nm
def right(l:List UInt8):Bool:=l.all (λx=>x !=47&&x !=0)&&decide (1<=l.length)&&decide (l.length<=16)&&(l !=[46])&&(l !=[46,46])
def pieces:List UInt8->List (List UInt8)
 |[]=>[[]]
 |x::l=>if x=47 then[]::pieces l else match pieces l with
  |[]=>[[x]]
  |c::cs=>(x::c)::cs
theorem pieces_ne(l:List UInt8):pieces l≠[]:=by
 cases l with
 |nil=>simp[pieces]
 |cons x l=>
  unfold pieces
  split
  ·simp
  ·split<;>simp
theorem qJ{c:List UInt8}(h: ∀x∈c,x≠47):pieces c=[c]:=by
 induction c with
 |nil=>rfl
 |cons x c ih=>
  rw[pieces,if_neg (h x (by simp)),ih (λy hy=>h y (by simp[hy]))]
theorem ZG{c l:List UInt8}(h: ∀x∈c,x≠47):pieces (c++47::l)=c::pieces l:=by
 induction c with
 |nil=>rw[List.nil_append,pieces,if_pos rfl]
 |cons x c ih=>
  rw[List.cons_append,pieces,if_neg (h x (by simp)),ih (λy hy=>h y (by simp[hy]))]
def split(p:List UInt8):Option (List (List UInt8)):=
 if p=[47]then some []else match p with
 |[]=>none
 |x::l=>if x=47/\(pieces l).all right=true/\(pieces l).length<=8 then some (pieces l)else none
def pathOf(ns:List (List UInt8)):List UInt8:=if ns=[]then[47]else(ns.map (47:: ·)).flatten
def join(ns:List (List UInt8)):Option (List UInt8):=if ns.length<=8/\ns.all right=true then some (pathOf ns)else none
theorem right_none{c:List UInt8}(h:right c=true): ∀x∈c,x≠47:=by
 intro x hx e
 unfold right at h
 simp only[Bool.and_eq_true,List.all_eq_true]at h
 have:=h.1.1.1.1 x hx
 subst e;simp at this
theorem zb8{c:List UInt8}(h:right c=true):c≠[]:=by
 rintro rfl;simp[right]at h
theorem VS{n:List UInt8}{ns:List (List UInt8)}(h: ∀c∈n::ns,right c=true):pieces (n++(ns.map (47:: ·)).flatten)=n::ns:=by
 induction ns generalizing n with
 |nil=>rw[List.map_nil,List.flatten_nil,List.append_nil];exact qJ (right_none (h n (by simp)))
 |cons m ns ih=>
  rw[List.map_cons,List.flatten_cons,List.cons_append,ZG (right_none (h n (by simp))),ih (λc hc=>h c (by simp[List.mem_cons]at hc|-;exact .inr hc))]
theorem Ut(l:List UInt8):47::l=((pieces l).map (47:: ·)).flatten:=by
 induction l with
 |nil=>rfl
 | cons x l ih=>
  unfold pieces
  split
  ·rename_i hx
   subst hx
   rw[List.map_cons,List.flatten_cons,<-ih];rfl
  ·cases hp:pieces l with
   |nil=>exact absurd hp (pieces_ne l)
   |cons c cs=>
    rw[hp]at ih
    simp only[List.map_cons,List.flatten_cons,List.cons_append,List.cons.injEq,true_and]at ih|-
    exact ih
theorem join_split{p:List UInt8}{ns:List (List UInt8)}(h:split p=some ns):join ns=some p:=by
 unfold split at h
 split at h
 ·rename_i hp
  cases h;subst hp;rfl
 ·split at h
  ·cases h
  ·rename_i x l _
   split at h
   ·rename_i hx
    obtain⟨rfl,hr,hl⟩:=hx
    cases h
    unfold join pathOf
    rw[if_pos ⟨hl,hr⟩,if_neg (pieces_ne l),<-Ut]
   ·cases h
theorem Je{ns:List (List UInt8)}{p:List UInt8}(h:join ns=some p):split p=some ns:=by
 unfold join at h
 split at h
 ·rename_i hx
  obtain⟨hl,hr⟩:=hx
  cases h
  cases ns with
  |nil=>rfl
  | cons n ns=>
   have hr': ∀c∈n::ns,right c=true:=List.all_eq_true.1 hr
   have e:pathOf (n::ns)=47::(n++(ns.map (47:: ·)).flatten):=by
    unfold pathOf;rw[if_neg (by simp),List.map_cons,List.flatten_cons];rfl
   rw[e]
   unfold split
   rw[if_neg (by
    intro h2
    have h3:=congrArg List.tail h2
    simp only[List.tail_cons]at h3
    exact zb8 (hr' n (by simp)) (List.append_eq_nil_iff.1 h3).1)]
   show(if _ then _ else _)=_
   rw[VS hr',if_pos ⟨rfl,hr,hl⟩]
 ·cases h
theorem split_top:split [47]=some []:=by unfold split;rw[if_pos rfl]
def within(a b:List UInt8):Bool:=match split a,split b with
 |some x,some y=>x.isPrefixOf y
 |_,_=>false
def seg(p:List UInt8)(f i:Nat):List UInt8:=(p.drop f).take (i-f)
theorem Vv{p:List UInt8}{f i:Nat}(h: ∀j,f<=j->j<i->p.getD j 0≠47): ∀x∈seg p f i,x≠47:=by
 intro x hx
 unfold seg at hx
 obtain⟨k,hk,rfl⟩:=List.getElem_of_mem hx
 rw[List.length_take,List.length_drop]at hk
 have:=h (f+k) (by omega) (by omega)
 rw[List.getD,List.getElem?_eq_getElem (by omega)]at this
 simpa using this
theorem zek{p:List UInt8}{f i:Nat}(hf:f<=i)(hi:i<p.length)(hp:p.getD i 0=47):p.drop f=seg p f i++47::p.drop (i+1):=by
 unfold seg
 have h1:p.drop i=47::p.drop (i+1):=by
  rw[List.drop_eq_getElem_cons hi]
  rw[List.getD,List.getElem?_eq_getElem hi]at hp
  simp only[Option.getD_some]at hp
  rw[hp]
 rw[<-h1,show i=f+(i-f)from by omega,<-List.drop_drop,show f+(i-f)-f=i-f from by omega,List.take_append_drop]
theorem zej{p:List UInt8}{f:Nat}:p.drop f=seg p f p.length:=by
 unfold seg
 rw[List.take_of_length_le (by rw[List.length_drop];omega)]
structure At (p:List UInt8) (f i:Nat) (out:List (List UInt8)):Prop where
 one:1<=f
 le:f<=i
 len:i<=p.length
 none: ∀j,f<=j->j<i->p.getD j 0≠47
 all:pieces (p.drop 1)=out++pieces (p.drop f)
theorem At.start{p:List UInt8}(h:1<=p.length):At p 1 1 []:=⟨Nat.le_refl _,Nat.le_refl _,h,λj h1 h2=>by omega,rfl⟩
theorem At.more{p:List UInt8}{f i:Nat}{out:List (List UInt8)}(h:At p f i out)(hi:i<p.length)(hp:p.getD i 0≠47):At p f (i+1) out:=
 ⟨h.one,by have:=h.le;omega,hi,λj h1 h2=>by
  rcases Nat.eq_or_lt_of_le (Nat.le_of_lt_succ h2)with e|e
  ·rw[e];exact hp
  ·exact h.none j h1 e,h.all⟩
theorem At.cut{p:List UInt8}{f i:Nat}{out:List (List UInt8)}(h:At p f i out)(hi:i<p.length)(hp:p.getD i 0=47):At p (i+1) (i+1) (out++[seg p f i]):=
 ⟨by omega,Nat.le_refl _,hi,λj h1 h2=>by omega,by
  rw[h.all,zek h.le hi hp,ZG (Vv h.none),List.append_assoc];rfl⟩
theorem At.last{p:List UInt8}{f:Nat}{out:List (List UInt8)}(h:At p f p.length out):pieces (p.drop 1)=out++[seg p f p.length]:=by
 rw[h.all,zej,qJ (Vv h.none)]
theorem At.mem{p:List UInt8}{f i:Nat}{out:List (List UInt8)}(h:At p f i out)(hi:i=p.length\/p.getD i 0=47):seg p f i∈pieces (p.drop 1):=by
 by_cases h2:i<p.length
 ·have hp:p.getD i 0=47:=by rcases hi with e|e;omega;exact e
  rw[(h.cut h2 hp).all];simp
 ·obtain rfl:i=p.length:=by have:=h.len;omega
  rw[h.last];simp
theorem split_is{p:List UInt8}(h0:p.getD 0 0=47)(hl:1<=p.length)(h1:p≠[47]):split p=if(pieces (p.drop 1)).all right=true/\(pieces (p.drop 1)).length<=8 then some (pieces (p.drop 1))else none:=by
 cases p with
 |nil=>simp at hl
 |cons x l=>
  simp only[List.getD_cons_zero]at h0
  subst h0
  unfold split
  rw[if_neg h1]
  simp
theorem split_no{p:List UInt8}(h1:p≠[47])(h:p.length=0\/p.getD 0 0≠47):split p=none:=by
 unfold split
 rw[if_neg h1]
 cases p with
 |nil=>rfl
 |cons x l=>
  simp only[List.getD_cons_zero,List.length_cons]at h
  show(if _ then _ else _)=_
  rw[if_neg (by rintro ⟨e,_⟩;rcases h with h|h;omega;exact h e)]
end Nm
