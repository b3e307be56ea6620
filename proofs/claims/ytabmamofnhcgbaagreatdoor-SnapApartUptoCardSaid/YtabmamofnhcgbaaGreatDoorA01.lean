/- A part of the proofs. -/
import Derived.Laws.AppendOwnNone
import Derived.Test.YtabmamofnhcgbaaGreatDoorA00
set_option maxRecDepth 1000000
set_option maxHeartbeats 16000000
open Go.Lib (hid)
open Go.Proofs.Tryz
namespace Go.Proofs.YtabmamofnhcgbaaGreatDoor
open Go.RowKit Go.Less
abbrev q6(l:List Fs.Op):List Value:=l.flatMap λo=>(ocs o).toList
abbrev zbq(base:Nat)(v:Value)(l:List Fs.Op)(w:World):Prop:=w.ownsRow base 35 7 v l.length (q6 l)
theorem zcx(l:List Fs.Op):(q6 l).length=l.length*7:=by
 induction l with
 |nil=>rfl
 |cons o l ih=>rw[q6,List.flatMap_cons,List.length_append,ih,List.length_cons];show 7+l.length*7=(l.length+1)*7;omega
theorem zcy{l:List Fs.Op}{j:Nat}{u:Value}(h:(q6 l)[j]?=some u): ∃i k,i<l.length/\j=i*7+k/\(ocs (l.getD i op0))[k]?=some u:=by
 induction l generalizing j with
 |nil=>cases h
 | cons o l ih=>
  rw[q6,List.flatMap_cons]at h
  by_cases hj:j<7
  ·rw[List.getElem?_append_left (by exact hj)]at h
   exact⟨0,j,Nat.succ_pos _,by omega,by simpa using h⟩
  ·rw[List.getElem?_append_right (by exact Nat.le_of_not_lt hj)]at h
   obtain⟨i,k,hi,hk,hu⟩:=ih (j:=j-7) h
   exact⟨i+1,k,by rw[List.length_cons];omega,by omega,by simpa using hu⟩
theorem zeB{l:List Fs.Op}{i k:Nat}{u:Value}(hi:i<l.length)(h:(ocs (l.getD i op0))[k]?=some u):(q6 l)[i*7+k]?=some u:=by
 induction l generalizing i with
 |nil=>exact absurd hi (Nat.not_lt_zero _)
 | cons o l ih=>
  rw[q6,List.flatMap_cons]
  have hk:k<7:=by
   have:=(Array.getElem?_eq_some_iff.1 h).1
   exact this
  cases i with
  |zero=>rw[List.getElem?_append_left (by show 0*7+k<7;omega)];simpa using h
  |succ i=>
   rw[List.getElem?_append_right (by show 7<=(i+1)*7+k;omega)]
   rw[show(i+1)*7+k-(ocs o).toList.length=i*7+k from by show(i+1)*7+k-7=_;omega]
   rw[List.length_cons]at hi
   exact ih (by omega) (by simpa using h)
theorem zcw(l:List Fs.Op): ∀u∈q6 l,u.oneCell'=true:=by
 intro u hu
 obtain⟨o,_,hu⟩:=List.mem_flatMap.1 hu
 simp only[List.mem_cons,List.not_mem_nil,or_false]at hu
 rcases hu with rfl|rfl|rfl|rfl|rfl|rfl|rfl<;>rfl
theorem info35:(prog.info? 35).map (λi=>(i.zero,i.size,i.bytes))=some (some (.agg #[.int .i64 0,.string ⟨#[]⟩,.string ⟨#[]⟩,.int .i64 0,.int .i64 0,.int .i64 0,.string ⟨#[]⟩]),7,80):=by kernel_rfl
theorem zcC(w:World):zbq w.heap.size (.slice (some ⟨w.heap.size,0,none⟩) 0 0) [] (w.alloc (.cells #[] 35)):=
 ⟨rfl,.inr ⟨w.heap.size,0,#[],rfl,Nat.le_refl _,heap_alloc_new w _,Nat.le_refl _,by decide,rfl,rfl⟩⟩
theorem zdS{ops:Array Oper}{rest:List Oper}{o:Oper}{a:Act}{Q:Exit->Act->World->Prop}{w:World}(hgd:o.guard=none)(s x:Operand)
  (ho:o.op= .call {callee:= .builtin .append,args:= #[s,x],argTypes:= #[22,22]}) (base:Nat) (v:Value) (m:Nat) (l:List Fs.Op) (hm:m=l.length) (hs:a.eval s=v) (hown:zbq base v l w)
  (ao:Option Addr) (len cap:Nat) (l2:List Fs.Op) (hx:a.eval x= .slice ao len cap) (hS:Opr ao len l2 w) (hnil:ao=none->cap=0) (hlen:m+len<=1048576) (hbase:base<=w.heap.size)
  (h: ∀ao' cap' w',zbq base (.slice ao' (m+len) cap') (l++l2) w'->w.grownBy w' v.ownBlock->wpList prog ops Q rest (a.put o.dst (.slice ao' (m+len) cap')) w'):
  wpList prog ops Q (o::rest) a w:=by
 obtain⟨i0,hi,hz0,hz1,hz2⟩:=info_parts info35
 have hc:=hS.count
 subst hc
 subst hm
 cases ao with
 | none=>
  have hl2:l2=[]:=by
   cases l2 with
   |nil=>rfl
   |cons y t=>obtain⟨b,off,e,_⟩:=hS.cell 0 (Nat.succ_pos _);cases e
  subst hl2
  rw[hnil rfl]at hx
  refine wpList_append_own_none hgd s x 22 ho base 35 i0 7 underlying22 hi v l.length (q6 l) hs hown hx ?_
  obtain⟨a',c',rfl⟩:=owns_form hown
  exact h a' c' w (by rw[List.append_nil];exact hown) (World.grownBy.refl _ _)
 | some ad=>
  refine wpList_append_own w hgd s x 22 ho base 35 i0 _ 7 80 underlying22 hi hz0 hz1 hz2 rfl (by decide) v l.length (q6 l) hs hown ad l2.length cap (q6 l2) hx (zcx l2) ?_ (zcw l2) (by unfold maxLen;omega) (by omega) hbase ?_
  ·intro j u hj
   obtain⟨i,k,hi2,rfl,hu⟩:=zcy hj
   obtain⟨b,off,e,hc⟩:=hS.cell i hi2
   injection e with e
   subst e
   rw[Go.WideShapes.add_plain,<-Nat.add_assoc]
   exact hc k u hu
  ·intro v' w' hown' hg _
   obtain⟨ao',cap',rfl⟩:=owns_form hown'
   refine h ao' cap' w' ?_ hg
   unfold zbq
   rw[List.length_append,q6,List.flatMap_append]
   exact hown'
theorem zcB{base:Nat}{a:Option Addr}{n c:Nat}{l:List Fs.Op}{w:World}(h:zbq base (.slice a n c) l w)(hn:n=l.length)(hok: ∀o∈l,OpOk o):Opr a n l w:=by
 subst hn
 refine⟨rfl,λi hi=> ?_,hok⟩
 have h2:=h
 obtain⟨_,⟨e,h0⟩|⟨g,cap,cur,e,_⟩⟩:=h
 ·omega
 ·injection e with e1 e2 e3
  subst e1
  subst e3
  refine⟨g,0,rfl,λj u hu=> ?_⟩
  have hj:j<7:=(Array.getElem?_eq_some_iff.1 hu).1
  rw[Nat.zero_add,World.ownsRow.cellAt h2 (i*7+j) (by omega)]
  exact zeB hi hu
end Go.Proofs.YtabmamofnhcgbaaGreatDoor
namespace Go.Proofs.YtabmamofnhcgbaaGreatDoor
open Go.RowKit Go.Less Go.Maps
open T8 (pv Dg)
attribute [local go_sem 9000] zg zf
theorem QI{a:ByteArray}(h:Nm.right a.data.toList=true):jE [] a=0:=by unfold jE;rw[if_neg (by rw[h];decide),if_neg (by simp[Go.Shots.get]),if_neg (by decide)]
theorem QH{a b:ByteArray}{f:Fs.FS}(h:Nm.right b.data.toList=true)(hne:alike a b=false):jE [(a,f)] b=0:=by
 unfold jE
 have hg:Go.Shots.get [(a,f)] b=none:=by rw[Go.Shots.get_cons,if_neg (λe=>by rw[alike_eq.2 e]at hne;cases hne)];rfl
 rw[if_neg (by rw[h];decide),hg,if_neg (by decide),if_neg (by rw[List.length_singleton];decide)]
theorem zaY(f:Fs.FS)(l:List Fs.Op){k:Nat}(h:k<l.length):(Fs.doE env (yz f (l.take k)) (l.getD k op0)).1=yz f (l.take (k+1)):=(j8 h).symm
theorem Kt{f:Fs.FS}(G:Fs.Good env f)(hn:f.next<=2000){l:List Fs.Op}(hl:l.length<=120)(k:Nat):Fs.Good env (yz f (l.take k))/\(yz f (l.take k)).next<=4000:=by
 have h1:(l.take k).length<=120:=by rw[List.length_take];omega
 have:=Z9 G (l.take k) (by omega)
 exact⟨this.1,by omega⟩
theorem Qz{g p:Nat}{w0 W W':World}(h:Turn g w0 W)(h2:Turn p W W')(hp:w0.heap.size<=p):Turn g w0 W':=
 ⟨h2.os.trans h.os,h2.tape.trans h.tape,h2.output.trans h.output,Nat.le_trans h.size h2.size,λk hk hn=>(h2.block k (Nat.lt_of_lt_of_le hk h.size) (by omega)).trans (h.block k hk hn)⟩
section
variable {na nb : ByteArray} {f g : Fs.FS}
theorem Zc(hne:alike na nb=false):Go.Shots.get (Go.Shots.put [(na,f)] nb g) na=some f/\Go.Shots.get (Go.Shots.put [(na,f)] nb g) nb=some g:=by
 have hg:Go.Shots.get [(na,f)] nb=none:=by rw[Go.Shots.get_cons,if_neg (λe=>by rw[alike_eq.2 e]at hne;cases hne)];rfl
 have ha:na≠nb:=λe=>by rw[alike_eq.2 e]at hne;cases hne
 refine⟨?_,by rw[Go.Shots.get_put g hg,if_pos rfl]⟩
 rw[Go.Shots.get_put g hg,if_neg ha,Go.Shots.get_cons,if_pos rfl]
theorem zea(hne:alike na nb=false):(na,f)∈Go.Shots.put [(na,f)] nb g/\(nb,g)∈Go.Shots.put [(na,f)] nb g:=
 ⟨Go.Shots.get_mem (Zc hne).1,Go.Shots.get_mem (Zc hne).2⟩
theorem zeb(hne:alike na nb=false):Go.Shots.del (Go.Shots.put [(na,f)] nb g) nb=[(na,f)]:=by
 have ha:na≠nb:=λe=>by rw[alike_eq.2 e]at hne;cases hne
 show Go.Shots.del (if less nb na=true then(nb,g)::(na,f)::[]else[(na,f),(nb,g)]) nb=_
 split<;>simp[Go.Shots.del,ha]
end
theorem Yo(a:Option Addr)(n cap:Nat)(l:List Fs.Op)(a2:Option Addr)(n2 cap2:Nat)(l2:List Fs.Op)(na nb:ByteArray)(w:World)(hS:Opr a n l w)(hS2:Opr a2 n2 l2 w)(hz:a=none->cap=0)(hz2:a2=none->cap2=0)(hn:n+n2<=1048576)(ha:na.size<=140737488355328)(hb:nb.size<=140737488355328)(hD:Dg w):
  Calls prog 6 #[.slice a n cap,.slice a2 n2 cap2,.string na,.string nb] w λe w'=>e= .returned (.bool true)/\Below w.heap.size w w':=by
 have HAw:=hid (UN w hD)
 have HSr:=hid (λW (hb:Below w.heap.size w W)=>hS.below hb)
 have HSq:=hid (λW (hb:Below w.heap.size w W)=>hS2.below hb)
 have HDg:=hid (λW (hb:Below w.heap.size w W)=>hD.below hb)
 have HN:=hid hS.count
 have HN2:=hid hS2.count
 have HCl:=hid hS2.cell
 have HOk:=hid hS2.ok
 have HOk1:=hid hS.ok
 have HZ:=hid (And.intro hz hz2)
 have HLe:=hid hn
 have HFw:=hid (λW b ao c (h:zbq b (.slice ao (n+n2) c) (l++l2) W)=>Qe ao (n+n2) c (l++l2) W (zcB h (by rw[List.length_append,<-HN.out,<-HN2.out]) (λo ho=>(List.mem_append.1 ho).elim (HOk1.out o) (HOk.out o))) (by omega))
 have HRa:=hid (λW=>xu na W ha)
 have HRb:=hid (λW=>xu nb W hb)
 clear hS hS2 hD hz hz2 hn
 go_enter func6,ntmps6
 go_wp2_with fail
 refine HAw.out.mono ?_
 rintro e w1 ⟨rfl,hb⟩
 have HB:=hid hb
 have HB1:=hid hb.size
 have HO0:=hid (zcC w1)
 have HS1:=hid (HSr.out _ (HB.out.trans ((below_one w1 (.cells #[] 35)).mono HB.out.size)))
 have HB:=hid (HB.out.trans ((below_one w1 (.cells #[] 35)).mono HB.out.size))
 clear hb HAw
 dsimp only
 go_wp2_with (first
  |(at_builtin;refine zdS rfl _ _ rfl w1.heap.size _ 0 [] rfl (by rfl) HO0.out a n cap l (by rfl) HS1.out HZ.out.1 (by have:=HLe.out;omega) (by simp) ?_;intro ao2 cap3 w2 hO2 hg2;rw[List.nil_append,Nat.zero_add]at hO2;try rw[Nat.zero_add];have HO2:=hid hO2;have HSz2:=hid (show w1.heap.size<=w2.heap.size from Nat.le_trans (by simp) hg2.size);have HB2:=hid (HB.out.grown hg2 HB.out.size (λk hk=>Nat.le_trans HB1.out (World.ownsRow.lt HO0.out k hk).1)))
  |(at_builtin;refine zdS rfl _ _ rfl w1.heap.size _ n l HN.out (by rfl) HO2.out a2 n2 cap2 l2 (by rfl) (HSq.out _ HB2.out) HZ.out.2 HLe.out HSz2.out ?_;intro ao3 cap4 w3 hO3 hg3;have HO3:=hid hO3;have HB3:=hid (HB2.out.grown hg3 HB2.out.size (λk hk=>Nat.le_trans HB1.out (World.ownsRow.lt HO2.out k hk).1)))
  |fail)
 refine(HFw.out w3 _ _ _ HO3.out).mono ?_
 rintro e w4 ⟨rfl,hb⟩
 have HB:=hid (HB3.out.trans (hb.mono HB3.out.size))
 clear hb HO3 HO2 HO0 HS1 HB2 HB3 HB1 HSz2 HFw
 dsimp only
 cases hfew:kO (l++l2)with
 |false=>
  go_wp2_with fail
  go_ret
  exact⟨rfl,HB.out⟩
 | true=>
  go_wp2_with fail
  refine(HRa.out _).mono ?_
  rintro e w5 ⟨rfl,rfl⟩
  dsimp only
  cases hra:Nm.right na.data.toList with
  |false=>
   go_wp2_with fail
   go_ret
   exact⟨rfl,HB.out⟩
  | true=>
   go_wp2_with fail
   refine(HRb.out _).mono ?_
   rintro e w6 ⟨rfl,rfl⟩
   dsimp only
   cases hrb:Nm.right nb.data.toList with
   |false=>
    go_wp2_with fail
    go_ret
    exact⟨rfl,HB.out⟩
   | true=>
    cases hal:alike na nb with
    |true=>
     go_wp2_with fail
     go_ret
     exact⟨rfl,HB.out⟩
    | false=>
     have hl0:=Qd hfew
     rw[List.length_append]at hl0
     obtain⟨G,hnx⟩:=UC (l:=l) (by omega)
     have HDn:=hid (λW (hb:Below w.heap.size w W)=>zdr a n cap l W (HSr.out W hb) (by have:=HN.out;omega) (HDg.out W hb))
     generalize yz Fs.new l=f0 at*
     have HG:=hid (λk=>Kt G (by omega) (show l2.length<=120 by omega) k)
     have HMp:=hid (λg f W (h:Fo W g f)=>uT h)
     have HNm:=hid (λm f W (h:Sv W m f)=>vy h)
     have HSw:=hid (λW=>Vx W)
     have HT1:=hid (λW g mb lo q (h:Snp W g mb lo []) (hF:Fo W q f0) (hl:lo<=W.heap.size)=>(show Calls prog 36 #[ptg g,.string na,ptg q] W (λe w'=>e= .returned (.int .i64 0)/\Snp w' g mb lo [(na,f0)]/\Turn mb W w')from XA h ha hF hl (QI hra)))
     have HG1:=hid (λW g mb lo (h:Snp W g mb lo [(na,f0)])=>ZX h ha (F:=f0) (by rw[Go.Shots.get_cons,if_pos rfl]))
     have HT2:=hid (λW g mb lo q f1 (h:Snp W g mb lo [(na,f0)]) (hF:Fo W q f1) (hl:lo<=W.heap.size)=>XA h hb hF hl (QH hrb hal))
     have HG2:=hid (λW g mb lo f1 (h:Snp W g mb lo (Go.Shots.put [(na,f0)] nb f1))=>ZX h ha (Zc hal).1)
     have HD2:=hid (λW g mb lo f1 (h:Snp W g mb lo (Go.Shots.put [(na,f0)] nb f1))=>(show Calls prog 37 #[ptg g,.string nb] W (λe w'=>e= .returned (.int .i64 0)/\Snp w' g mb lo [(na,f0)]/\Turn mb W w')from zeb (f:=f0) (g:=f1) hal▸Qf h hb (by rw[(Zc hal).2];rfl)))
     have HNs:=hid (λW g mb lo (h:Snp W g mb lo [(na,f0)])=>(show Calls prog 40 #[ptg g] W (λe w'=> ∃ao cap,e= .returned (.slice ao 1 cap)/\Below W.heap.size W w')from(jQ h).mono λe w' h=>by obtain⟨ao,cap,e1,_,hb⟩:=h;exact⟨ao,cap,e1,hb⟩))
     have HMe:=hid (λf1=>zea (f:=f0) (g:=f1) hal)
     have HAl:=hid (λf=>vN (nmf f))
     have hal0:=HAl.out f0.l
     have hn2:n2<=120:=by have:=HN2.out;omega
     have hni:(n2:Int)<=120:=by omega
     clear hfew hra hrb hl0 hnx G HRa HRb HSr HDg HOk1 HZ HLe HN
     go_wp2_with fail
     refine(HDn.out _ HB.out).mono ?_
     rintro e w7 ⟨gf,rfl,hF,hg,hb⟩
     have HGf:=hid (Nat.le_trans HB.out.size hg)
     have HB:=hid (HB.out.trans (hb.mono HB.out.size))
     have HFf:=hid hF
     clear hF hg hb HDn
     dsimp only
     go_wp2_with fail
     refine(HSw.out _).mono ?_
     rintro e w8 ⟨gs,mb,rfl,hS,hm,-,hb⟩
     have HGm:=hid (Nat.le_trans HB.out.size hm)
     have HB:=hid (HB.out.trans (hb.mono HB.out.size))
     have HFf:=hid (HFf.out.below hb)
     have HSn:=hid (hS (gf+1))
     clear hS hm hb HSw
     dsimp only
     go_wp2_with fail
     refine(HT1.out _ _ _ _ _ HSn.out HFf.out HFf.out.lt).mono ?_
     rintro e w9 ⟨rfl,hS,hT⟩
     have HB:=hid (zy HB.out hT HGm.out)
     have HFf:=hid (HFf.out.turnM hT HSn.out.mp)
     have HSn:=hid hS
     clear hT hS
     dsimp only
     go_wp2_with fail
     refine(HMp.out _ _ _ HFf.out).mono ?_
     rintro e w10 ⟨m10,rfl,hSv,rfl⟩
     have HSv:=hid hSv
     clear hSv
     dsimp only
     go_wp2_with fail
     refine(HNm.out m10 _ _ HSv.out).mono ?_
     rintro e w11 ⟨rfl,hb⟩
     have HB:=hid (HB.out.trans (hb.mono HB.out.size))
     have HFf:=hid (HFf.out.below hb)
     have HSn:=hid (HSn.out.below hb)
     clear hb HSv
     dsimp only
     go_wp2_with fail
     have HSg:=hid HSn.out
     have HFo:=hid HFf.out
     refine(HG1.out _ _ _ _ HSn.out).mono ?_
     rintro e w12 ⟨gg,rfl,hF,hg,hb⟩
     have HGgg:=hid (Nat.le_trans HB.out.size hg)
     have HNgggf:=hid (show gg≠gf from λe=>by have:=HFf.out.lt;omega)
     have HB:=hid (HB.out.trans (hb.mono HB.out.size))
     have HFf:=hid (HFf.out.below hb)
     have HFg:=hid hF
     have HTn:=hid (Turn.of_below (g:=gf) hb)
     have HGx:=hid hg
     clear hF hg hb
     dsimp only
     go_wp2_with fail
     go_loopw [14] (λx14 wr=> ∃k:Nat,k<=n2/\x14= .int .i64 k/\Fo wr gf (yz f0 (l2.take k))/\Fo wr gg (yz f0 (l2.take k))/\Turn gf w11 wr/\Below w.heap.size w wr) (λx14 _=>n2-(intOf x14).toNat)
     case atStart=>exact⟨0,Nat.zero_le _,rfl,HFf.out,HFg.out,HTn.out,HB.out⟩
     case round=>
      clear HFf HFg HB HTn
      obtain⟨k,hk,rfl,hFf,hFg,hT,hB⟩:=hrel
      have HFf:=hid hFf
      have HFg:=hid hFg
      have HTn:=hid hT
      have HB:=hid hB
      clear hFf hFg hT hB
      by_cases hlt:k<n2
      ·have k0:(k:Int)<(n2:Int):=by omega
       have hk0:(0:Int)<=(k:Int):=by omega
       have hkl:k<l2.length:=by rw[<-HN2.out];exact hlt
       obtain⟨b,off,rfl,hc⟩:=HCl.out k hlt
       have HC:=hid (λW (hb:Below w.heap.size w W)=>ZN (zcA hc (W:=W) hb))
       have HM:=hid (zaY f0 l2 hkl)
       have hok:=HOk.out (l2.getD k op0) (by rw[List.getD,List.getElem?_eq_getElem hkl];exact List.getElem_mem hkl)
       have hGk:=HG.out k
       generalize yz f0 (l2.take k)=f1 at*
       have HDc:=hid (λg W (h:Fo W g f1)=>Zd h hGk.1 (by omega) hok)
       unfold zbr at HDc
       generalize l2.getD k op0=op at*
       obtain⟨⟨f2,z⟩,hd⟩: ∃r,Fs.doE env f1 op=r:=⟨_,rfl⟩
       rw[hd]at HDc HM
       clear hc hok hGk hd
       obtain⟨okd,oa,ob,oo,og,on,od⟩:=op
       obtain⟨c0,c1,c2,c3,c4,c5,c6⟩:=HC.out _ HB.out
       dsimp only at c0 c1 c2 c3 c4 c5 c6 HDc HM
       go_wp2_with fail
       refine(HDc.out gf _ HFf.out).mono ?_
       rintro e w20 ⟨rfl,hF,hT,-⟩
       have HFg:=hid (Fo.turn hT HFf.out HFg.out HNgggf.out)
       have HTn:=hid (HTn.out.trans hT)
       have HB:=hid (zy HB.out hT HGf.out)
       have HFf:=hid hF
       clear hF hT c0 c1 c2 c3 c4 c5 c6
       obtain⟨c0,c1,c2,c3,c4,c5,c6⟩:=HC.out _ HB.out
       dsimp only at c0 c1 c2 c3 c4 c5 c6|-
       go_wp2_with fail
       refine(HDc.out gg _ HFg.out).mono ?_
       rintro e w21 ⟨rfl,hF,hT,-⟩
       have HFf:=hid (Fo.turn hT HFg.out HFf.out (Ne.symm HNgggf.out))
       have HTn:=hid (Qz HTn.out hT HGx.out)
       have HB:=hid (zy HB.out hT HGgg.out)
       have HFg:=hid hF
       clear hF hT c0 c1 c2 c3 c4 c5 c6
       dsimp only
       go_wp2_with fail
       go_roundw
       case rel=>exact⟨k+1,by omega,by go_num,by rw[<-HM.out];exact HFf.out,by rw[<-HM.out];exact HFg.out,HTn.out,HB.out⟩
       case measure=>simp[intOf];omega
      ·obtain rfl:k=n2:=by omega
       have hge: ¬ ((k:Int)<(k:Int)):=by omega
       have HSn:=hid (HSg.out.turn HTn.out HFo.out (Nat.lt_succ_self gf))
       clear HCl HOk HG HSq HTn HSg HFo HN2
       generalize yz f0 (l2.take k)=f1 at*
       have hal1:=HAl.out f1.l
       obtain⟨p0,hp0,hq0⟩:=Zw (HMe.out f1).1
       obtain⟨p1,hp1,hq1⟩:=Zw (HMe.out f1).2
       have HR0:=hid (λW g mb lo (h:Snp W g mb lo (Go.Shots.put [(na,f0)] nb f1))=>kZ h hp0)
       have HR1:=hid (λW g mb lo (h:Snp W g mb lo (Go.Shots.put [(na,f0)] nb f1))=>kZ h hp1)
       have HN0:=hid (λm W (h:Sv W m p0.2.l)=>(show Calls prog 24 #[pv m] W (λe w'=>e= .returned (.string (nmf f0.l))/\Below W.heap.size W w')from hq0▸vy h))
       have HN1:=hid (λm W (h:Sv W m p1.2.l)=>(show Calls prog 24 #[pv m] W (λe w'=>e= .returned (.string (nmf f1.l))/\Below W.heap.size W w')from hq1▸vy h))
       clear hp0 hq0 hp1 hq1 HMe
       dsimp only at HR0 HR1
       go_wp2_with fail
       refine(HT2.out _ _ _ _ _ f1 HSn.out HFf.out HFf.out.lt).mono ?_
       rintro e w31 ⟨rfl,hS,hT⟩
       have HB:=hid (zy HB.out hT HGm.out)
       have HFf:=hid (HFf.out.turnM hT HSn.out.mp)
       have HFg:=hid (HFg.out.turnM hT HSn.out.mp)
       have HSn:=hid hS
       clear hT hS
       dsimp only
       go_wp2_with fail
       refine(HMp.out _ _ _ HFg.out).mono ?_
       rintro e w32 ⟨m32,rfl,hSv,rfl⟩
       have HSv:=hid hSv
       clear hSv
       dsimp only
       go_wp2_with fail
       refine(HNm.out m32 _ _ HSv.out).mono ?_
       rintro e w33 ⟨rfl,hb⟩
       have HB:=hid (HB.out.trans (hb.mono HB.out.size))
       have HFf:=hid (HFf.out.below hb)
       have HFg:=hid (HFg.out.below hb)
       have HSn:=hid (HSn.out.below hb)
       clear hb HSv
       dsimp only
       go_wp2_with fail
       refine(HMp.out _ _ _ HFf.out).mono ?_
       rintro e w34 ⟨m34,rfl,hSv,rfl⟩
       have HSv:=hid hSv
       clear hSv
       dsimp only
       go_wp2_with fail
       refine(HNm.out m34 _ _ HSv.out).mono ?_
       rintro e w35 ⟨rfl,hb⟩
       have HB:=hid (HB.out.trans (hb.mono HB.out.size))
       have HFf:=hid (HFf.out.below hb)
       have HFg:=hid (HFg.out.below hb)
       have HSn:=hid (HSn.out.below hb)
       clear hb HSv
       dsimp only
       go_wp2_with fail
       refine(HG2.out _ _ _ _ f1 HSn.out).mono ?_
       rintro e w36 ⟨gh,rfl,hF,hg,hb⟩
       have HB:=hid (HB.out.trans (hb.mono HB.out.size))
       have HFf:=hid (HFf.out.below hb)
       have HFg:=hid (HFg.out.below hb)
       have HSn:=hid (HSn.out.below hb)
       have HFh:=hid hF
       clear hF hg hb
       dsimp only
       go_wp2_with fail
       refine(HR0.out _ _ _ _ HSn.out).mono ?_
       rintro e w37 ⟨gk,rfl,hF,hg,hb⟩
       have HB:=hid (HB.out.trans (hb.mono HB.out.size))
       have HFf:=hid (HFf.out.below hb)
       have HFg:=hid (HFg.out.below hb)
       have HFh:=hid (HFh.out.below hb)
       have HSn:=hid (HSn.out.below hb)
       have HFk:=hid hF
       clear hF hg hb
       dsimp only
       go_wp2_with fail
       refine(HMp.out _ _ _ HFf.out).mono ?_
       rintro e w38 ⟨m38,rfl,hSv,rfl⟩
       have HSv:=hid hSv
       clear hSv
       dsimp only
       go_wp2_with fail
       refine(HNm.out m38 _ _ HSv.out).mono ?_
       rintro e w39 ⟨rfl,hb⟩
       have HB:=hid (HB.out.trans (hb.mono HB.out.size))
       have HFf:=hid (HFf.out.below hb)
       have HFg:=hid (HFg.out.below hb)
       have HFh:=hid (HFh.out.below hb)
       have HFk:=hid (HFk.out.below hb)
       have HSn:=hid (HSn.out.below hb)
       clear hb HSv
       dsimp only
       go_wp2_with fail
       refine(HR1.out _ _ _ _ HSn.out).mono ?_
       rintro e w40 ⟨gl,rfl,hF,hg,hb⟩
       have HB:=hid (HB.out.trans (hb.mono HB.out.size))
       have HFf:=hid (HFf.out.below hb)
       have HFg:=hid (HFg.out.below hb)
       have HFh:=hid (HFh.out.below hb)
       have HFk:=hid (HFk.out.below hb)
       have HSn:=hid (HSn.out.below hb)
       have HFl:=hid hF
       clear hF hg hb
       dsimp only
       go_wp2_with fail
       refine(HMp.out _ _ _ HFh.out).mono ?_
       rintro e w41 ⟨m41,rfl,hSv,rfl⟩
       have HSv:=hid hSv
       clear hSv
       dsimp only
       go_wp2_with fail
       refine(HNm.out m41 _ _ HSv.out).mono ?_
       rintro e w42 ⟨rfl,hb⟩
       have HB:=hid (HB.out.trans (hb.mono HB.out.size))
       have HFf:=hid (HFf.out.below hb)
       have HFg:=hid (HFg.out.below hb)
       have HFh:=hid (HFh.out.below hb)
       have HFk:=hid (HFk.out.below hb)
       have HFl:=hid (HFl.out.below hb)
       have HSn:=hid (HSn.out.below hb)
       clear hb HSv
       dsimp only
       go_wp2_with fail
       refine(HMp.out _ _ _ HFk.out).mono ?_
       rintro e w43 ⟨m43,rfl,hSv,rfl⟩
       have HSv:=hid hSv
       clear hSv
       dsimp only
       go_wp2_with fail
       refine(HN0.out m43 _ HSv.out).mono ?_
       rintro e w44 ⟨rfl,hb⟩
       have HB:=hid (HB.out.trans (hb.mono HB.out.size))
       have HFf:=hid (HFf.out.below hb)
       have HFg:=hid (HFg.out.below hb)
       have HFh:=hid (HFh.out.below hb)
       have HFk:=hid (HFk.out.below hb)
       have HFl:=hid (HFl.out.below hb)
       have HSn:=hid (HSn.out.below hb)
       clear hb HSv
       dsimp only
       go_wp2_with fail
       refine(HMp.out _ _ _ HFl.out).mono ?_
       rintro e w45 ⟨m45,rfl,hSv,rfl⟩
       have HSv:=hid hSv
       clear hSv
       dsimp only
       go_wp2_with fail
       refine(HN1.out m45 _ HSv.out).mono ?_
       rintro e w46 ⟨rfl,hb⟩
       have HB:=hid (HB.out.trans (hb.mono HB.out.size))
       have HFf:=hid (HFf.out.below hb)
       have HFg:=hid (HFg.out.below hb)
       have HFh:=hid (HFh.out.below hb)
       have HFk:=hid (HFk.out.below hb)
       have HFl:=hid (HFl.out.below hb)
       have HSn:=hid (HSn.out.below hb)
       clear hb HSv
       dsimp only
       go_wp2_with fail
       refine(HMp.out _ _ _ HFf.out).mono ?_
       rintro e w47 ⟨m47,rfl,hSv,rfl⟩
       have HSv:=hid hSv
       clear hSv
       dsimp only
       go_wp2_with fail
       refine(HNm.out m47 _ _ HSv.out).mono ?_
       rintro e w48 ⟨rfl,hb⟩
       have HB:=hid (HB.out.trans (hb.mono HB.out.size))
       have HFf:=hid (HFf.out.below hb)
       have HFg:=hid (HFg.out.below hb)
       have HFh:=hid (HFh.out.below hb)
       have HFk:=hid (HFk.out.below hb)
       have HFl:=hid (HFl.out.below hb)
       have HSn:=hid (HSn.out.below hb)
       clear hb HSv
       dsimp only
       go_wp2_with fail
       refine(HD2.out _ _ _ _ f1 HSn.out).mono ?_
       rintro e w49 ⟨rfl,hS,hT⟩
       have HB:=hid (zy HB.out hT HGm.out)
       have HFf:=hid (HFf.out.turnM hT HSn.out.mp)
       have HFg:=hid (HFg.out.turnM hT HSn.out.mp)
       have HFh:=hid (HFh.out.turnM hT HSn.out.mp)
       have HFk:=hid (HFk.out.turnM hT HSn.out.mp)
       have HFl:=hid (HFl.out.turnM hT HSn.out.mp)
       have HSn:=hid hS
       clear hT hS
       dsimp only
       go_wp2_with fail
       refine(HG1.out _ _ _ _ HSn.out).mono ?_
       rintro e w50 ⟨gm,rfl,hF,hg,hb⟩
       have HB:=hid (HB.out.trans (hb.mono HB.out.size))
       have HFf:=hid (HFf.out.below hb)
       have HFg:=hid (HFg.out.below hb)
       have HFh:=hid (HFh.out.below hb)
       have HFk:=hid (HFk.out.below hb)
       have HFl:=hid (HFl.out.below hb)
       have HSn:=hid (HSn.out.below hb)
       have HFm:=hid hF
       clear hF hg hb
       dsimp only
       go_wp2_with fail
       refine(HMp.out _ _ _ HFm.out).mono ?_
       rintro e w51 ⟨m51,rfl,hSv,rfl⟩
       have HSv:=hid hSv
       clear hSv
       dsimp only
       go_wp2_with fail
       refine(HNm.out m51 _ _ HSv.out).mono ?_
       rintro e w52 ⟨rfl,hb⟩
       have HB:=hid (HB.out.trans (hb.mono HB.out.size))
       have HSn:=hid (HSn.out.below hb)
       clear hb HSv
       dsimp only
       go_wp2_with fail
       refine(HNs.out _ _ _ _ HSn.out).mono ?_
       rintro e w53 ⟨ai,ci,rfl,hb⟩
       have HB:=hid (HB.out.trans (hb.mono HB.out.size))
       clear hb
       dsimp only
       go_wp2_with fail
       go_ret
       exact⟨rfl,HB.out⟩
end Go.Proofs.YtabmamofnhcgbaaGreatDoor
namespace Go.Proofs.YtabmamofnhcgbaaGreatDoor
open Go.ChangeShapes Go.WideShapes Go.ChangeAt Go.WideMaps Go.WideElems Go.RowKit Go.Joins Go.Deep
theorem zdO{H:Type}(d:DataW H):1<=Rows.uptoBulk d:=by
 match d with
 | .lit (.string _)| .lit (.int ..)| .lit (.float ..)| .lit (.bool _)| .lit .nil| .nil| .ptr _| .slice .. | .agg _| .iface .. | .map _| .held _=>simp[Rows.uptoBulk]
theorem zdP{H:Type}(l:List (DataW H)):l.length<=Rows.uptoBulkAll l:=by
 induction l with
 |nil=>exact Nat.zero_le _
 |cons x r ih=>have:=zdO x;simp only[Rows.uptoBulkAll,List.length_cons];omega
theorem Y5{H:Type}{enc:TypeId×Value->H}{w:World}{base:Nat}{sp:Nat->Bool}{held:Bool}{fuel:Nat}{a:Option Addr}{n c:Nat}{y:DataW H×List MemPlace}(h:DataW.trod enc prog w base sp held fuel 22 [.slice a n c]=some y):n<=Rows.uptoBulk y.1/\(a=none->c=0):=by
 rcases YW underlying22 underlying35 (by kernel_rfl) (by kernel_rfl) h with ⟨hcs,hx⟩|⟨a',n',c',m,D,hcs,hl,hm,hx,hi⟩
 ·injection hcs with hcs _
  injection hcs with e1 e2 e3
  subst e1 e2 e3
  exact⟨Nat.zero_le _,λ_=>rfl⟩
 ·injection hcs with hcs _
  injection hcs with e1 e2 e3
  subst e1 e2 e3
  refine⟨?_,λe=>by cases e⟩
  rw[hx]
  have:=zdP ((List.range n).map D)
  rw[List.length_map,List.length_range]at this
  simp only[Rows.uptoBulk]
  omega
end Go.Proofs.YtabmamofnhcgbaaGreatDoor
