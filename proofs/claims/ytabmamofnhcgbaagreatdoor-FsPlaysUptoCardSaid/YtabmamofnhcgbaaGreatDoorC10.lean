/- A part of the proofs. -/
import Derived.Test.YtabmamofnhcgbaaGreatDoorC09
set_option maxRecDepth 1000000
set_option maxHeartbeats 16000000
open Go.Lib (hid)
open Go.Proofs.Tryz
namespace Go.Proofs.YtabmamofnhcgbaaGreatDoor
open Go.RowKit Go.Less
attribute [local go_sem 9000] zg zf zz zA zB zC
theorem zK{P:Program}{a:Act}{w:World}{Q:Exit->Act->World->Prop}{c rest:Code}(l:Nat)(hf:findLabel c l=some (Code.skip.seq rest))
  (first:c.wp P (Exit.jump l (λa' w'=>rest.wp P (Exit.jump l (λ_ _=>False) Q) a' w') Q) a w):(Code.scope c).wp P Q a w:=
 wp_scope_jumps l (λa' w'=>rest.wp P (Exit.jump l (λ_ _=>False) Q) a' w') (λ_ _=>0) hf first
  (λa w hj=>wp_seq (wp_skip (Code.wp_mono (λe a w h=>by cases e<;>first|exact h|exact h.2.elim) hj)))
theorem zfr(k m:Int)(d t:ByteArray)(l:List En):ndr k m d t l=(decide (0<=m)&&decide (m<=511)&&
  (if k=1 then decide (d.size<=4096)&&isE t&&decide (l.length=0)else if k=2 then isE d&&isE t&&rte l else decide (k=3)&&isE d&& !isE t&&decide (t.size<=64)&&decide (l.length=0))):=Nd.right_P _
theorem XU{k m:Int}{d t:ByteArray}{l:List En}(h:m<0\/511<m):ndr k m d t l=false:=by
 rw[zfr]
 rcases h with h|h
 ·rw[decide_eq_false (by omega)];rfl
 ·rw[decide_eq_false (p:=m<=511) (by omega)];simp
theorem ndr_in{k m:Int}{d t:ByteArray}{l:List En}(h0: ¬ m<0)(h1: ¬ 511<m):ndr k m d t l=(if k=1 then decide (d.size<=4096)&&isE t&&decide (l.length=0)else if k=2 then isE d&&isE t&&rte l else decide (k=3)&&isE d&& !isE t&&decide (t.size<=64)&&decide (l.length=0)):=by
 rw[zfr,decide_eq_true (show 0<=m by omega),decide_eq_true (show m<=511 by omega)];rfl
theorem uY(k m:Int)(d t:ByteArray)(a:Option Addr)(n cap:Nat)(l:List En)(w:World)(hE:Ents a n l w)(hn:n<=1000000)(hs: ∀j,j<n->(l.getD j z0).1.size<=100000):
  Calls prog 131 #[nv k m d t a n cap] w (xE (ndr k m d t l) w):=by
 have HNL:=hid hE.count
 have HB0:=hid (show∀x:Obj,Below w.heap.size w (w.alloc x)from λx=>(Below.refl _ w).alloc (Nat.le_refl _) _)
 have HF:=hid (show∀b W,ndr k m d t l=b->Below w.heap.size w W->xE (ndr k m d t l) w (.returned (.bool b)) W from λb W h hb=>by rw[h];exact⟨rfl,hb⟩)
 have HRe:=hid (show∀W,Below w.heap.size w W->Calls prog 179 #[.slice a n cap] W (xE (rte l) W)from λW hb=>qd a n cap l W (hE.below hb) hn hs)
 have HZ:=hid (show decide (l.length=0)=decide (n=0) by rw[<-HNL.out])
 have HT:=hid (show alike t ⟨#[]⟩=isE t from rfl)
 have HD:=hid (show alike d ⟨#[]⟩=isE d from rfl)
 clear hE hs
 by_cases e1:m<0
 ·have HR:=hid (XU (k:=k) (d:=d) (t:=t) (l:=l) (.inl e1))
  go_enter func131,ntmps131
  go_wp2_with fail
  refine zK 0 rfl ?_
  go_wp2_with fail
  simp only[Exit.jump]
  go_ret
  exact HF.out _ _ HR.out (HB0.out _)
 by_cases e2:511<m
 ·have HR:=hid (XU (k:=k) (d:=d) (t:=t) (l:=l) (.inr e2))
  go_enter func131,ntmps131
  go_wp2_with fail
  refine zK 0 rfl ?_
  go_wp2_with fail
  simp only[Exit.jump]
  go_ret
  exact HF.out _ _ HR.out (HB0.out _)
 have HI:=hid (ndr_in (k:=k) (d:=d) (t:=t) (l:=l) e1 e2)
 by_cases k1:k=1
 ·subst k1
  rw[if_pos rfl]at HI
  rcases Nat.lt_or_ge 4096 d.size with hd|hd
  ·have hdi:(4096:Int)<(d.size:Int):=by omega
   have HR:=hid (HI.out.trans (show _=false by rw[decide_eq_false (p:=d.size<=4096) (by omega)];rfl))
   clear hd
   go_enter func131,ntmps131
   go_wp2_with fail
   refine zK 0 rfl ?_
   go_wp2_with fail
   refine wp_goto ?_
   refine⟨rfl, ?_⟩
   go_wp2_with fail
   simp only[Exit.jump]
   go_ret
   exact HF.out _ _ HR.out (HB0.out _)
  have hdi:(d.size:Int)<=4096:=by omega
  cases tE:alike t ⟨#[]⟩
  ·have HR:=hid (HI.out.trans (show _=false by rw[<-HT.out,tE];simp))
   clear hd
   go_enter func131,ntmps131
   go_wp2_with fail
   refine zK 0 rfl ?_
   go_wp2_with fail
   refine wp_goto ?_
   refine⟨rfl, ?_⟩
   go_wp2_with fail
   simp only[Exit.jump]
   go_ret
   exact HF.out _ _ HR.out (HB0.out _)
  have HR:=hid (show ndr 1 m d t l=decide ((n:Int)=0) by rw[HI.out,decide_eq_true hd,<-HT.out,tE,HZ.out];simp)
  clear hd
  go_enter func131,ntmps131
  go_wp2_with fail
  refine zK 0 rfl ?_
  go_wp2_with fail
  refine wp_goto ?_
  refine⟨rfl, ?_⟩
  go_wp2_with fail
  simp only[Exit.jump]
  go_ret
  exact HF.out _ _ HR.out (HB0.out _)
 by_cases k2:k=2
 ·subst k2
  rw[if_neg (by omega),if_pos rfl]at HI
  cases dE:alike d ⟨#[]⟩
  ·have HR:=hid (HI.out.trans (show _=false by rw[<-HD.out,dE];simp))
   go_enter func131,ntmps131
   go_wp2_with fail
   refine zK 1 rfl ?_
   go_wp2_with fail
   refine wp_goto ?_
   refine⟨rfl, ?_⟩
   go_wp2_with fail
   simp only[Exit.jump]
   go_ret
   exact HF.out _ _ HR.out (HB0.out _)
  cases tE:alike t ⟨#[]⟩
  ·have HR:=hid (HI.out.trans (show _=false by rw[<-HT.out,tE];simp))
   go_enter func131,ntmps131
   go_wp2_with fail
   refine zK 1 rfl ?_
   go_wp2_with fail
   refine wp_goto ?_
   refine⟨rfl, ?_⟩
   go_wp2_with fail
   simp only[Exit.jump]
   go_ret
   exact HF.out _ _ HR.out (HB0.out _)
  have HR:=hid (show ndr 2 m d t l=rte l by rw[HI.out,<-HD.out,dE,<-HT.out,tE];rfl)
  go_enter func131,ntmps131
  go_wp2_with fail
  refine zK 1 rfl ?_
  go_wp2_with fail
  refine wp_goto ?_
  refine⟨rfl, ?_⟩
  go_wp2_with fail
  refine(HRe.out _ (HB0.out _)).mono ?_
  rintro e w1 ⟨rfl,hw1⟩
  have HB1:=hid ((HB0.out _).trans (hw1.mono (HB0.out _).size))
  clear hw1
  dsimp only
  go_wp2_with fail
  simp only[Exit.jump]
  go_ret
  exact HF.out _ _ HR.out HB1.out
 by_cases k3:k=3
 ·subst k3
  rw[if_neg (by omega),if_neg (by omega),decide_eq_true rfl,Bool.true_and]at HI
  cases dE:alike d ⟨#[]⟩
  ·have HR:=hid (HI.out.trans (show _=false by rw[<-HD.out,dE];simp))
   go_enter func131,ntmps131
   go_wp2_with fail
   refine zK 2 rfl ?_
   go_wp2_with fail
   refine wp_goto ?_
   refine⟨rfl, ?_⟩
   go_wp2_with fail
   simp only[Exit.jump]
   go_ret
   exact HF.out _ _ HR.out (HB0.out _)
  cases tE:alike t ⟨#[]⟩
  case true=>
   have HR:=hid (HI.out.trans (show _=false by rw[<-HT.out,tE];simp))
   go_enter func131,ntmps131
   go_wp2_with fail
   refine zK 2 rfl ?_
   go_wp2_with fail
   refine wp_goto ?_
   refine⟨rfl, ?_⟩
   go_wp2_with fail
   simp only[Exit.jump]
   go_ret
   exact HF.out _ _ HR.out (HB0.out _)
  rcases Nat.lt_or_ge 64 t.size with h2|h2
  ·have h2i:(64:Int)<(t.size:Int):=by omega
   have HR:=hid (HI.out.trans (show _=false by rw[decide_eq_false (p:=t.size<=64) (by omega)];simp))
   clear h2
   go_enter func131,ntmps131
   go_wp2_with fail
   refine zK 2 rfl ?_
   go_wp2_with fail
   refine wp_goto ?_
   refine⟨rfl, ?_⟩
   go_wp2_with fail
   simp only[Exit.jump]
   go_ret
   exact HF.out _ _ HR.out (HB0.out _)
  have h2i:(t.size:Int)<=64:=by omega
  have HR:=hid (show ndr 3 m d t l=decide ((n:Int)=0) by rw[HI.out,<-HD.out,dE,<-HT.out,tE,decide_eq_true h2,HZ.out];simp)
  clear h2
  go_enter func131,ntmps131
  go_wp2_with fail
  refine zK 2 rfl ?_
  go_wp2_with fail
  refine wp_goto ?_
  refine⟨rfl, ?_⟩
  go_wp2_with fail
  simp only[Exit.jump]
  go_ret
  exact HF.out _ _ HR.out (HB0.out _)
 have HR:=hid (HI.out.trans (show _=false by rw[if_neg k1,if_neg k2,decide_eq_false k3];rfl))
 go_enter func131,ntmps131
 go_wp2_with fail
 refine zK 0 rfl ?_
 go_wp2_with fail
 simp only[Exit.jump]
 go_ret
 exact HF.out _ _ HR.out (HB0.out _)
end Go.Proofs.YtabmamofnhcgbaaGreatDoor
namespace Go.Proofs.YtabmamofnhcgbaaGreatDoor
open Go.RowKit Go.Less
attribute [local go_sem 9000] zg zf zz zA zB zC YO zb0
theorem Jq(w:World)(a b c:UInt8):(convert 144 9 (.slice (some ⟨w.heap.size,0,none⟩) 3 3)).run prog (w.alloc (.cells #[.int .u8 (a.toNat:Int),.int .u8 (b.toNat:Int),.int .u8 (c.toNat:Int)] 5))= .ok (.string ⟨#[a,b,c]⟩) (w.alloc (.cells #[.int .u8 (a.toNat:Int),.int .u8 (b.toNat:Int),.int .u8 (c.toNat:Int)] 5)):=by
 rw[run_convert_bytes_arg (P:=prog) (w.alloc (.cells #[.int .u8 (a.toNat:Int),.int .u8 (b.toNat:Int),.int .u8 (c.toNat:Int)] 5)) 144 5 underlying144 underlying5 w.heap.size 0 3 3 [(a.toNat:Int),b.toNat,c.toNat] rfl ?_ 9 underlying9]
 ·simp[strOfNums]
 ·intro i hi
  rw[Nat.zero_add,World.cell?_alloc_new]
  match i,hi with
  |0,_=>rfl
  |1,_=>rfl
  |2,_=>rfl
attribute [local go_sem 9000] Jq
theorem zeT(k m:Nat)(d t:ByteArray)(l:List En):(⟨#[u8z (k:Int),u8z (shn (m:Int) 8),u8z (m:Int)]⟩:ByteArray)++d++t++lstr (uJ l)=acc k m d t l:=by
 unfold acc hdr uJ
 apply ByteArray.ext
 apply Array.ext'
 simp only[ByteArray.data_append,Array.toList_append,numStr_data,XR,K3,lstr_data,Xv,Zb,Int.toNat_natCast,List.append_assoc,List.cons_append,List.nil_append]
theorem zdg{w:World}{cs:Array Value}{u v x:Value}{W:World}(h:W.cell? ⟨w.heap.size,2,none⟩=some u/\W.cell? ⟨w.heap.size,3,none⟩=some v/\W.cell? ⟨w.heap.size,4,none⟩=some x/\PF w cs W):PF w cs W:=h.2.2.2
theorem PF.all3{w:World}{v0 v1 v2 v3 v4:Value}{W:World}(h:PF w #[v0,v1,v2,v3,v4] W):W.cell? ⟨w.heap.size,2,none⟩=some v2/\W.cell? ⟨w.heap.size,3,none⟩=some v3/\W.cell? ⟨w.heap.size,4,none⟩=some v4/\PF w #[v0,v1,v2,v3,v4] W:=
 ⟨cell_obj h.box 2,cell_obj h.box 3,cell_obj h.box 4,h⟩
theorem Q9(k m:Int)(d t:ByteArray)(a:Option Addr)(n cap:Nat)(l:List En)(w:World)(hE:Ents a n l w)(hn:n<=1000000)(hs: ∀j,j<n->(l.getD j z0).1.size<=100000):
  Calls prog 89 #[nv k m d t a n cap] w (yU ⟨k,m,d,t,l⟩ w):=by
 have HNL:=hid hE.count
 have HB0:=hid (show∀x:Obj,Below w.heap.size w (w.alloc x)from λx=>(Below.refl _ w).alloc (Nat.le_refl _) _)
 have HN:=hid (uY k m d t a n cap l (w.alloc (.cells #[.int .i64 k,.int .i64 m,.string d,.string t,.slice a n cap] 43)) (hE.below ((Below.refl _ w).alloc (Nat.le_refl _) _)) hn hs)
 unfold xE at HN
 have HBX:=hid (heap_alloc_new w (.cells #[.int .i64 k,.int .i64 m,.string d,.string t,.slice a n cap] 43))
 have HE:=hid (λW (hb:Below w.heap.size w W)=>hE.below hb)
 clear hE hs
 cases hr:ndr k m d t l
 ·rw[hr]at HN
  have HR:=hid (show prt ⟨k,m,d,t,l⟩=(⟨#[]⟩,2) by unfold prt;rw[if_neg];intro h;unfold ndr at hr;rw[hr]at h;cases h)
  clear hr
  go_enter func89,ntmps89
  go_wp2_with fail
  refine HN.out.mono ?_
  rintro e w1 ⟨rfl,hb1⟩
  have HB:=hid ((HB0.out _).trans (hb1.mono (HB0.out _).size))
  clear hb1
  dsimp only
  go_wp2_with fail
  go_ret2
  show yU _ w _ _
  unfold yU
  rw[HR.out]
  exact⟨rfl,HB.out⟩
 ·rw[hr]at HN
  have hR:=(Nd.right_iff _).1 hr
  have HR:=hid (show prt ⟨k,m,d,t,l⟩=(acc k m d t l,0) by unfold prt;rw[if_pos (show Nd.right less Nm.right _=true from hr),US])
  have HSZ:=hid (esz hR)
  have hk:=kpos hR
  have hd:=dsz hR
  have hm0:=hR.m0
  have hl64:=hR.len
  dsimp only at hk hd hm0 hl64 HSZ
  obtain⟨kn,rfl⟩: ∃kn:Nat,k=kn:=⟨k.toNat,by omega⟩
  obtain⟨mn,rfl⟩: ∃mn:Nat,m=mn:=⟨m.toNat,by omega⟩
  have HH:=hid (zeT kn mn d t l)
  have hln:n<=64:=by have:=HNL.out;omega
  have HT:=hid (λW (hb:Below w.heap.size w W)=>Za a n cap l W (HE.out W hb) hln HSZ.out)
  have hfl:(lstr (uJ l)).size<=2000:=by
   have h1:=Uu (l:=l) (λx hx=>(HSZ.out x hx).1)
   rw[lstr_size];omega
  generalize lstr (uJ l)=FL at HH HT hfl
  have s1: ¬ 9223372036854775807<3+d.size:=by omega
  have s2: ¬ 9223372036854775807<3+d.size+t.size:=by omega
  have s3: ¬ 9223372036854775807<3+d.size+t.size+FL.size:=by omega
  clear hr hR hm0 hl64
  go_enter func89,ntmps89
  go_wp2_with fail
  refine HN.out.mono ?_
  rintro e w1 ⟨rfl,hb1⟩
  have HX1:=hid ((hb1.block _ (lt_of_obj HBX.out)).trans HBX.out)
  have HB1:=hid ((HB0.out _).trans (hb1.mono (HB0.out _).size))
  have x0:w1.cell? ⟨w.heap.size,0,none⟩=some (.int .i64 (kn:Int)):=cell_obj HX1.out 0
  have x1:w1.cell? ⟨w.heap.size,1,none⟩=some (.int .i64 (mn:Int)):=cell_obj HX1.out 1
  clear hb1 HN HBX
  dsimp only
  go_wp2_with fail
  have h3:(⟨#[u8z (kn:Int),u8z (shn (mn:Int) 8),u8z (mn:Int)]⟩:ByteArray).size=3:=rfl
  have HP:=hid (show PF w #[.int .i64 (kn:Int),.int .i64 (mn:Int),.string d,.string t,.slice a n cap] ((w1.alloc (.cells #[.int .u8 ((u8z (kn:Int)).toNat:Int),.int .u8 ((u8z (shn (mn:Int) 8)).toNat:Int),.int .u8 ((u8z (mn:Int)).toNat:Int)] 5)).drew)from
   PF.kept (w:=w) ⟨HX1.out,HB1.out⟩ ((below_one w1 _).drew))
  generalize (⟨#[u8z (kn:Int),u8z (shn (mn:Int) 8),u8z (mn:Int)]⟩:ByteArray)=H at HH h3|-
  clear x0 x1
  go_region_held3 (λW=>W.cell? ⟨w.heap.size,2,none⟩=some (.string d)/\W.cell? ⟨w.heap.size,3,none⟩=some (.string t)/\W.cell? ⟨w.heap.size,4,none⟩=some (.slice a n cap)/\PF w #[.int .i64 (kn:Int),.int .i64 (mn:Int),.string d,.string t,.slice a n cap] W)
   (first|exact HP.out.all3|exact pA.out.all3|assumption)
   (first
    |(go_at_call 132;(with_reducible refine(HT.out _ (PF.below (zdg (by assumption)))).mono ?_);rintro e wA ⟨rfl,hA⟩;have pA:=hid (PF.kept (zdg (by assumption)) hA);clear hA))
  go_wp2_with fail
  go_ret2
  show yU _ w _ _
  unfold yU
  rw[HR.out,<-HH.out]
  exact⟨rfl,pA.out.below⟩
end Go.Proofs.YtabmamofnhcgbaaGreatDoor
namespace Nd
def val(l:List UInt8):Nat:=l.foldl (λa c=>a*256+c.toNat) 0
theorem val_snoc(l:List UInt8)(c:UInt8):val (l++[c])=val l*256+c.toNat:=by unfold val;rw[List.foldl_append];rfl
theorem val_lt(l:List UInt8):val l<256^l.length:=by
 induction l using snoc_rec with
 |nil=>decide
 |append_singleton l c ih=>
  have:=c.toNat_lt
  rw[val_snoc,List.length_append,List.length_singleton,Nat.pow_succ]
  omega
theorem v4_val{l:List UInt8}(h:l.length=4):v4 l=val l:=by
 match l,h with
 |[a,b,c,d],_=>simp[v4,val]
structure EAt (r:List UInt8) (i:Nat) (es:List En):Prop where
 le:i<=r.length
 all:ents r=(ents (r.drop i)).map (es++ ·)
theorem EAt.start(r:List UInt8):EAt r 0 []:=⟨Nat.zero_le _,by rw[List.drop_zero];cases ents r<;>simp⟩
theorem EAt.stop{r:List UInt8}{i:Nat}{es:List En}(h:EAt r i es)(hi:i<r.length)(hb:r.length<i+1+(r.getD i 0).toNat+4):ents r=none:=by
 rw[h.all,List.drop_eq_getElem_cons hi,ents]
 rw[List.getD,List.getElem?_eq_getElem hi,Option.getD_some]at hb
 rw[if_neg (by rw[List.length_drop];omega)];rfl
theorem EAt.more{r:List UInt8}{i:Nat}{es:List En}(h:EAt r i es)(hi:i<r.length)(hb:i+1+(r.getD i 0).toNat+4<=r.length):
  EAt r (i+(r.getD i 0).toNat+5) (es++[(Nd.mk ((r.drop (i+1)).take (r.getD i 0).toNat),(val ((r.drop (i+1+(r.getD i 0).toNat)).take 4):Int))]):=by
 refine⟨by omega, ?_⟩
 have hall:=h.all
 rw[List.drop_eq_getElem_cons hi,ents]at hall
 have e:r[i]=r.getD i 0:=by rw[List.getD,List.getElem?_eq_getElem hi];rfl
 rw[e,if_pos (by rw[List.length_drop];omega),List.drop_drop,List.drop_drop]at hall
 rw[hall,v4_val (by rw[List.length_take,List.length_drop];omega),show i+1+((r.getD i 0).toNat+4)=i+(r.getD i 0).toNat+5 by omega]
 cases ents (r.drop (i+(r.getD i 0).toNat+5))<;>simp
theorem EAt.done{r:List UInt8}{i:Nat}{es:List En}(h:EAt r i es)(hi:i=r.length):ents r=some es:=by
 rw[h.all,hi,List.drop_length,ents];simp
theorem EAt.long{r:List UInt8}{i:Nat}{es es':List En}(h:EAt r i es)(hi:i<r.length)(hs:ents r=some es'):es.length<es'.length:=by
 rw[h.all,List.drop_eq_getElem_cons hi,ents]at hs
 split at hs
 ·cases hd:ents ((r.drop (i+1)).drop (r[i].toNat+4))with
  |none=>rw[hd]at hs;cases hs
  |some z=>rw[hd]at hs;simp at hs;rw[<-hs];simp
 ·cases hs
section
variable {lt : ByteArray -> ByteArray -> Bool} {nm : List UInt8 -> Bool}
theorem parse_short{l:List UInt8}(h:l.length<3):parse lt nm l=none:=by
 match l,h with
 |[],_=>rfl
 |[_],_=>rfl
 |[_,_],_=>rfl
theorem VV{l:List UInt8}(h:3<=l.length):parse lt nm l=
  match (if(l.getD 0 0).toNat=2 then ents (l.drop 3)else some [])with
  |none=>none
  |some es=>if right lt nm (nodeOf (l.getD 0 0) (l.getD 1 0) (l.getD 2 0) (l.drop 3) es)=true then some (nodeOf (l.getD 0 0) (l.getD 1 0) (l.getD 2 0) (l.drop 3) es)else none:=by
 match l,h with
 |a::b::c::r,_=>rfl
theorem parse_no{l:List UInt8}(h:3<=l.length)(hk:(l.getD 0 0).toNat=2)(he:ents (l.drop 3)=none):parse lt nm l=none:=by
 rw[VV h,if_pos hk,he]
theorem parse_yes{l:List UInt8}(h:3<=l.length){es:List En}(he:(if(l.getD 0 0).toNat=2 then ents (l.drop 3)else some [])=some es):
  parse lt nm l=if right lt nm (nodeOf (l.getD 0 0) (l.getD 1 0) (l.getD 2 0) (l.drop 3) es)=true then some (nodeOf (l.getD 0 0) (l.getD 1 0) (l.getD 2 0) (l.drop 3) es)else none:=by
 rw[VV h,he]
end
end Nd
namespace Go.Proofs.YtabmamofnhcgbaaGreatDoor
open Go.RowKit Go.Less
attribute [local go_sem 9000] zg zf zz zA zB zC
def zO(s:List UInt8):Nd.Node×Int:=match Nd.parse less Nm.right s with
 |none=>(Nd.none0,2)
 |some x=>(x,0)
def Yv(s:List UInt8)(es:List En):Nd.Node:=Nd.nodeOf (s.getD 0 0) (s.getD 1 0) (s.getD 2 0) (s.drop 3) es
theorem qK{s:List UInt8}(h:Nd.parse less Nm.right s=none):zO s=(Nd.none0,2):=by unfold zO;rw[h]
theorem JP{s:List UInt8}(h:3<=s.length){es:List En}(he:(if(s.getD 0 0).toNat=2 then Nd.ents (s.drop 3)else some [])=some es):zO s=if Nd.right less Nm.right (Yv s es)=true then(Yv s es,0)else(Nd.none0,2):=by
 unfold zO
 rw[Nd.parse_yes h he]
 unfold Yv
 by_cases h2:Nd.right less Nm.right (Nd.nodeOf (s.getD 0 0) (s.getD 1 0) (s.getD 2 0) (List.drop 3 s) es)=true
 ·rw[if_pos h2,if_pos h2]
 ·rw[if_neg h2,if_neg h2]
def vl(l:List UInt8):Int:=(Nd.val l:Int)
theorem zby(l:List UInt8):0<=vl l:=Int.natCast_nonneg _
theorem zd8{l:List UInt8}{z:Nat}(h:z<l.length){c:UInt8}(hc:c=l.getD z 0):vl (l.take (z+1))=vl (l.take z)*256+(c.toNat:Int):=by
 subst hc
 unfold vl
 rw[List.take_succ_eq_append_getElem h,Nd.val_snoc,List.getD,List.getElem?_eq_getElem h]
 simp
theorem zfm{l:List UInt8}{z:Nat}(h:z<4):vl (l.take z)<16777216:=by
 unfold vl
 have h1:=Nd.val_lt (l.take z)
 have h2:256^(l.take z).length<=256^3:=Nat.pow_le_pow_right (by decide) (by rw[List.length_take];omega)
 omega
theorem zel(x:ByteArray)(h:3<=x.size):x.extract 3 x.size=lstr (x.data.toList.drop 3):=by
 have e:=cut_text x 3 (x.size-3) (by omega)
 rw[show 3+(x.size-3)=x.size by omega]at e
 rw[e,List.take_of_length_le (by rw[List.length_drop];exact Nat.le_of_eq (congrArg (· -3) Array.length_toList))]
theorem c_of(w:World)(c:UInt8):(convert 5 3 (.int .u8 (c.toNat:Int))).run prog w= .ok (.int .i64 (c.toNat:Int)) w:=by
 have h:(convert 5 3 (.int .u8 (c.toNat:Int))).run prog w= .ok (.int .i64 (IntKind.i64.wrap (c.toNat:Int))) w:=by rfl
 have:=c.toNat_lt
 rw[h,IntWalk.i64_in _ (by omega)]
attribute [local go_sem 9000] c_of
end Go.Proofs.YtabmamofnhcgbaaGreatDoor
namespace Go.Proofs.YtabmamofnhcgbaaGreatDoor
open Go.RowKit Go.Less
def sv(l:List UInt8)(z:Nat):Int:=vl (l.take z)
def sv8(l:List UInt8)(z:Nat):Int:=vl (l.take z)*256
theorem YP(t:TypeId)(l:List UInt8)(z:Nat)(hz:z<4):binOp .shl t (.int .u32 (sv l z)) (.int .u64 8)=pure (.int .u32 (sv8 l z)):=by
 show Op.shift .shl .u32 (sv l z) .u64 8=_
 rw[shift_shl_any _ _ _ _ (by omega)];unfold sv sv8
 have h0:=zby (l.take z)
 have h1:=zfm (l:=l) hz
 show pure (Value.int .u32 (IntKind.u32.wrap (vl (l.take z)*((2^min (8:Int).toNat 32:Nat):Int))))=_
 rw[IntKind.wrap_u32',show(2^min (8:Int).toNat 32:Nat)=256 from rfl]
 congr 2
 omega
theorem zcz(a c:Nat)(hc:c<256):a*256|||c=a*256+c:=by
 rw[Nat.mul_comm,show 256=2^8 from rfl,Nat.two_pow_add_eq_or_of_lt hc]
theorem zfo(l:List UInt8)(z:Nat)(hz:z<4)(c:UInt8)(hl:z<l.length)(hc:c=l.getD z 0):Go.bits .or .u32 (sv8 l z) (c.toNat:Int)=sv l (z+1):=by
 have h1:=zfm (l:=l) hz
 have hc8:=c.toNat_lt
 unfold sv8 sv
 rw[zd8 hl hc]
 unfold vl at*
 rw[show(Nd.val (l.take z):Int)*256=((Nd.val (l.take z)*256:Nat):Int) by omega,u32_or_nat _ _ (by omega) (by omega),zcz _ _ hc8]
 omega
theorem KV(w:World)(c:UInt8):(convert 5 214 (.int .u8 (c.toNat:Int))).run prog w= .ok (.int .u32 (c.toNat:Int)) w:=by
 have h:(convert 5 214 (.int .u8 (c.toNat:Int))).run prog w= .ok (.int .u32 (IntKind.u32.wrap (c.toNat:Int))) w:=by rfl
 have:=c.toNat_lt
 rw[h,IntKind.wrap_u32']
 congr 2;omega
theorem KU(w:World)(V:Int)(h0:0<=V)(h1:V<4294967296):(convert 214 3 (.int .u32 V)).run prog w= .ok (.int .i64 V) w:=by
 have h:(convert 214 3 (.int .u32 V)).run prog w= .ok (.int .i64 (IntKind.i64.wrap V)) w:=by rfl
 rw[h,IntWalk.i64_in _ (by omega)]
attribute [local go_sem 9000] YP KV KU
theorem zbH{l:List UInt8}(h:l.length=4):sv l 4<4294967296:=by
 unfold sv vl
 have h1:=Nd.val_lt (l.take 4)
 rw[List.length_take,h]at h1
 have h3:(256:Nat)^(min 4 4)=4294967296:=by decide
 omega
theorem zeS(s:ByteArray)(w:World)(h4:s.size=4):Calls prog 224 #[.string s] w λe w'=>e= .returned (.int .i64 (vl s.data.toList))/\w'=w:=by
 have HL:=hid (show s.data.toList.length=4 from Array.length_toList.trans h4)
 have hsz:s.size=4:=h4
 clear h4
 go_enter func224,ntmps224
 go_wp2_with fail
 go_loopw [3,7] (λv i wr=>(∃z:Nat,z<=4/\i= .int .i64 z/\v= .int .u32 (sv s.data.toList z))/\wr=w) (λ_ i _=>4-(intOf i).toNat)
 case atStart=>exact⟨⟨0,Nat.zero_le _,rfl,rfl⟩,rfl⟩
 case round=>
  obtain⟨⟨z,hz,rfl,rfl⟩,rfl⟩:=hrel
  have z0i:(0:Int)<=(z:Int):=by omega
  by_cases hz4:z<4
  ·have hz4i:(z:Int)<4:=by omega
   have hzs:z<s.size:=by omega
   have hor:=zfo s.data.toList z hz4 s[z] (by rw[HL.out];exact hz4) (b_at s hzs)
   go_wp2_with fail
   go_roundw
   case rel=>exact⟨⟨z+1,by omega,by go_num,by first|rfl|rw[hor]⟩,by first|rfl|trivial⟩
   case measure=>simp[intOf];omega
  ·obtain rfl:z=4:=by omega
   have h0:0<=sv s.data.toList 4:=zby _
   have h1:=zbH HL.out
   have HV:=hid (show sv s.data.toList 4=vl s.data.toList by unfold sv;rw[List.take_of_length_le (by rw[HL.out];exact Nat.le_refl _)])
   generalize sv s.data.toList 4=V at*
   go_wp2_with fail
   go_ret
   rw[<-HV.out]
   exact⟨rfl,rfl⟩
end Go.Proofs.YtabmamofnhcgbaaGreatDoor
namespace Go.Proofs.YtabmamofnhcgbaaGreatDoor
open Go.RowKit Go.Less
attribute [local go_sem 9000] zg zf zz zA zB zC c_of
theorem scope_jumps2{P:Program}{a:Act}{w:World}{Q:Exit->Act->World->Prop}{c rest:Code}(l:Nat)(J:Act->World->Prop)(μ:Act->World->Nat)(hf:findLabel c l=some (Code.skip.seq rest))
  (pass: ∀a w,J a w->rest.wp P (Exit.jump l (λa' w'=>J a' w'/\μ a' w'<μ a w) Q) a w)
  (first:(∀a w,J a w->rest.wp P (Exit.jump l J Q) a w)->c.wp P (Exit.jump l J Q) a w):(Code.scope c).wp P Q a w:=
 wp_scope_jumps l J μ hf (first λa w hj=>Code.wp_mono (λe a w h=>by cases e<;>first|exact h|exact⟨h.1,h.2.1⟩) (pass a w hj))
  (λa w hj=>wp_seq (wp_skip (pass a w hj)))
def suf(s:ByteArray)(p:Nat):ByteArray:=lstr (s.data.toList.drop p)
theorem vZ(s:ByteArray)(p:Nat):(suf s p).size=s.size-p:=by
 unfold suf
 rw[lstr_size,List.length_drop];exact congrArg (· -p) Array.length_toList
theorem Vm(s:ByteArray)(p:Nat):(suf s p).data.toList=s.data.toList.drop p:=rfl
theorem XB(s:ByteArray)(p a n:Nat)(h:p+a+n<=s.size):(suf s p).extract a (a+n)=lstr ((s.data.toList.drop (p+a)).take n):=by
 rw[cut_text _ _ _ (by rw[vZ];omega),Vm,List.drop_drop]
theorem zbJ(s:ByteArray)(p a:Nat)(h:p+a<=s.size):(suf s p).extract a (suf s p).size=suf s (p+a):=by
 have e:=XB s p a (s.size-p-a) (by omega)
 rw[show a+(s.size-p-a)=(suf s p).size by rw[vZ];omega]at e
 rw[e]
 unfold suf
 rw[List.take_of_length_le (by rw[List.length_drop];have:s.data.toList.length=s.size:=Array.length_toList;omega)]
theorem zef{s:ByteArray}{p:Nat}(h:p=s.size):Less.alike (suf s p) ⟨#[]⟩=true:=by
 unfold Less.alike
 refine decide_eq_true (str_empty ?_)
 rw[vZ];omega
theorem zbK{s:ByteArray}{p:Nat}(h:p<s.size):Less.alike (suf s p) ⟨#[]⟩=false:=by
 unfold Less.alike
 refine decide_eq_false (λe=> ?_)
 have:=congrArg ByteArray.size e
 rw[vZ]at this
 have h0:(⟨#[]⟩:ByteArray).size=0:=rfl
 omega
def ReadE(r:List UInt8)(w:World)(e:Ending)(w':World):Prop:=
 Below w.heap.size w w'/\((∃es ao cp,Nd.ents r=some es/\es.length<=64/\(∀x∈es,x.1.size<=300)/\e= .returned (.tuple #[.slice ao es.length cp,.bool true])/\Own w.heap.size (.slice ao es.length cp) es w')\/
  ((∀es,Nd.ents r=some es->64<es.length)/\e= .returned (.tuple #[.slice none 0 0,.bool false])))
structure Us where
 v1:Value
 v5:Value
 v6:Value
 v7:Value
 v8:Value
 v9:Value
 v10:Value
 v11:Value
 v12:Value
 v13:Value
 v14:Value
 v15:Value
 v16:Value
 v17:Value
 v18:Value
 v19:Value
 v20:Value
 v21:Value
 v22:Value
 v23:Value
 v24:Value
 v25:Value
 v26:Value
 v27:Value
 v28:Value
 v29:Value
 v30:Value
 v31:Value
 v32:Value
 v33:Value
 v34:Value
 v35:Value
 v36:Value
 v37:Value
 v38:Value
 v39:Value
def strLen:Value->Nat
 | .string b=>b.size
 |_=>0
def Jread(s:ByteArray)(w:World)(a':Act)(wr:World):Prop:=
 ∃(p:Nat) (es:List En) (v:Value) (u:Us),p<=s.size/\Hid (Nd.EAt s.data.toList p es/\ ∀x∈es,x.1.size<=300)/\es.length<=64/\Own w.heap.size v es wr/\Below w.heap.size w wr/\
  a'={tmps:= #[.string (suf s p),u.v1,.slice none 0 0,.bool false,v,u.v5,u.v6,u.v7,u.v8,u.v9,u.v10,u.v11,u.v12,u.v13,u.v14,u.v15,u.v16,u.v17,u.v18,u.v19,u.v20,u.v21,u.v22,u.v23,u.v24,u.v25,u.v26,u.v27,u.v28,u.v29,u.v30,u.v31,u.v32,u.v33,u.v34,u.v35,u.v36,u.v37,u.v38,u.v39],defers:=[]}
theorem qZ(s:ByteArray)(w:World)(hs:s.size<=100000):Calls prog 202 #[.string s] w (ReadE s.data.toList w):=by
 have HL:=hid (show s.data.toList.length=s.size from Array.length_toList)
 go_enter func202,ntmps202
 go_wp2_with fail
 refine scope_jumps2 0 (Jread s w) (λa' _=>strLen (a'.tmps.getD 0 undef)) rfl ?_ ?_
 ·rintro a' wr ⟨p,es,v,u,hps,HE,h64,hown,hb,rfl⟩
  obtain⟨ao,cp,rfl⟩:=owns_form hown
  have HB:=hid hb
  have HO:=hid hown
  clear hb hown
  by_cases hlt:p<s.size
  ·have hal:=zbK hlt
   have hsz:=vZ s p
   have hT0:0<(suf s p).size:=by omega
   have HC:=hid (show(suf s p)[0]=s.data.toList.getD p 0 by rw[b_at (suf s p) hT0,Vm,List.getD,List.getD,List.getElem?_drop,Nat.add_zero])
   have hq8:=(suf s p)[0].toNat_lt
   have HQ:(s.data.toList.getD p 0).toNat=(suf s p)[0].toNat:=by rw[HC.out]
   have HStop:=hid (λh=>HE.out.1.stop (by rw[HL.out];exact hlt) h)
   have HMore:=hid (λh=>HE.out.1.more (by rw[HL.out];exact hlt) h)
   have HLong:=hid (λes' h=>HE.out.1.long (es':=es') (by rw[HL.out];exact hlt) h)
   rw[HQ,HL.out]at HStop HMore
   have HN1:=hid (λq (h:p+1+q<=s.size)=>XB s p 1 q h)
   have HN2:=hid (λq (h:p+(1+q)+4<=s.size)=>XB s p (1+q) 4 h)
   have HN3:=hid (λa (h:p+a<=s.size)=>zbJ s p a h)
   have hzd:0<(suf s p).data.size:=hT0
   have hsl:((suf s p).size:Int)<=100000:=by omega
   generalize suf s p=T at*
   have hw1:IntKind.i64.wrap (1+(T[0].toNat:Int))=1+(T[0].toNat:Int):=IntWalk.i64_in _ (by omega)
   have hw2:IntKind.i64.wrap (1+(T[0].toNat:Int)+4)=1+(T[0].toNat:Int)+4:=IntWalk.i64_in _ (by omega)
   generalize hqe:T[0].toNat=q at*
   clear HC HQ
   by_cases hov:T.size<1+q+4
   ·have hovi:(T.size:Int)<1+(q:Int)+4:=by omega
    have HR:=hid (HStop.out (by omega))
    clear hov HMore HStop HLong hsz
    go_wp2_with fail
    simp only[Exit.jump]
    go_ret2
    exact⟨HB.out,.inr ⟨λes h=>(by rw[HR.out]at h;cases h),rfl⟩⟩
   have hovi: ¬ (T.size:Int)<1+(q:Int)+4:=by omega
   by_cases h64e:es.length=64
   ·clear hov HMore HStop hsz
    go_wp2_with fail
    simp only[Exit.jump]
    go_ret2
    exact⟨HB.out,.inr ⟨λes' h=>(by have:=HLong.out es' h;omega),rfl⟩⟩
   ·have h6i: ¬ (es.length:Int)=64:=by omega
    have hm:=HMore.out (by omega)
    have e1:=HN1.out q (by omega)
    have e2:=HN2.out q (by omega)
    have e3:=HN3.out (1+q+4) (by omega)
    rw[show p+(1+q)=p+1+q by omega]at e2
    have HI:=hid (λW=>zeS (T.extract (1+q) (1+q+4)) W (by rw[e2,lstr_size,List.length_take,List.length_drop,HL.out];omega))
    have HV:=hid (show vl (T.extract (1+q) (1+q+4)).data.toList=(Nd.val ((s.data.toList.drop (p+1+q)).take 4):Int) by rw[e2];rfl)
    have HM:=hid hm
    have H1:=hid e1
    have H3:=hid e3
    have hb1:(0:Int)<=1+(q:Int):=by omega
    have hb2:(1:Int)<=1+(q:Int):=by omega
    have hb3:1+(q:Int)<=(T.size:Int):=by omega
    have hb4:1+(q:Int)<=1+(q:Int)+4:=by omega
    have hb5:1+(q:Int)+4<=(T.size:Int):=by omega
    have hb6:(0:Int)<=1+(q:Int)+4:=by omega
    have htn1:(1+(q:Int)).toNat=1+q:=by omega
    have htn2:(1+(q:Int)+4).toNat=1+q+4:=by omega
    generalize vl (T.extract (1+q) (1+q+4)).data.toList=V at HI HV
    generalize hz:T.extract (1+q) (1+q+4)=Z at*
    generalize hy:T.extract 1 (1+q)=y at*
    generalize hr:T.extract (1+q+4) T.size=R at*
    have HO3:=hid (owned_below HO.out ((Below.refl wr.heap.size wr).drew.trans (below_one wr.drew (oc (y,V)))))
    have HLen:=hid (show es.length<=64 from h64)
    have HZ:=hid (show w.heap.size<=(wr.drew.alloc (oc (y,V))).heap.size from Nat.le_trans HB.out.size (below_one wr.drew (oc (y,V))).size)
    have HBd:=hid (show Below w.heap.size w (wr.drew.alloc (oc (y,V)))from(HB.out.drew).alloc HB.out.size _)
    have HSz:=hid hsz
    clear hm e1 e2 e3 HMore HStop HLong HN1 HN2 HN3 hov hsz
    go_wp2_with fail
    go_region_law (first
     |(refine Vo rfl _ _ rfl w.heap.size _ es (by rfl) HO3.out wr.heap.size (y,V) (by rfl) (heap_alloc_new wr.drew (oc (y,V))) (Nat.le_trans HLen.out (by decide)) HZ.out ?_;intro ao4 cap4 w4 hown4 hgrow4;have HO4:=hid hown4;have HB4:=hid (HBd.out.grown hgrow4 HZ.out (λj hj=>owns_lt HO3.out j hj));clear hown4 hgrow4)
     |(go_simp;(with_reducible refine(HI.out _).mono ?_);rintro e w3 ⟨rfl,rfl⟩))
    all_goals
     go_wp2_with fail
     go_step3
     have hm:=HM.out
     rw[show Nd.mk ((s.data.toList.drop (p+1)).take q)=y from H1.out.symm,<-HV.out]at hm
     have h3:R=suf s (p+q+5):=by rw[H3.out];exact congrArg (suf s) (by omega)
     have hsz:=HSz.out
     subst h3
     refine⟨rfl,⟨p+q+5,es++[(y,V)],.slice ao4 (es.length+1) cap4,⟨u.v1,.int .i64 (1+(q:Int)),.int .i64 (1+(q:Int)+4),.string T,.bool false,u.v9,.string T,.int .u8 (q:Int),.int .i64 (q:Int),.int .i64 (1+(q:Int)),.int .i64 (1+(q:Int)),.int .i64 (1+(q:Int)+4),.string T,.int .i64 (T.size:Int),.int .i64 (1+(q:Int)+4),.bool false,.bool false,.slice ao es.length cp,.int .i64 (es.length:Int),.bool false,.bool false,.slice ao es.length cp,.string T,.int .i64 (1+(q:Int)),.string y,.string T,.int .i64 (1+(q:Int)),.int .i64 (1+(q:Int)+4),.string Z,.int .i64 V,.agg #[.string y,.int .i64 V],.slice (some ⟨wr.heap.size,0,none⟩) 1 1,.slice ao4 (es.length+1) cap4,.string T,.int .i64 (1+(q:Int)+4),.string (suf s (p+q+5))⟩,by omega,⟨hm,λx hx=> ?_⟩,by rw[List.length_append,List.length_singleton];omega,by simpa[Own] using HO4.out,HB4.out,rfl⟩, ?_⟩
     ·rcases List.mem_append.1 hx with h|h
      ·exact HE.out.2 x h
      ·rw[List.mem_singleton.1 h]
       show y.size<=300
       rw[H1.out,lstr_size,List.length_take];omega
     ·simp[strLen,vZ];omega
  ·have hpe:p=s.size:=by omega
   have hal:=zef hpe
   have HR:=hid (HE.out.1.done (by rw[HL.out];exact hpe))
   generalize suf s p=T at*
   go_wp2_with fail
   simp only[Exit.jump]
   go_ret2
   exact⟨HB.out,.inl ⟨es,ao,cp,HR.out,h64,HE.out.2,rfl,HO.out⟩⟩
 ·intro hpass
  go_wp2_with fail
  go_step3
  rename_i Kf hKf
  exact hKf _ _ (hpass _ _ ⟨0,[],_,⟨_,_,_,_,_,_,_,_,_,_,_,_,_,_,_,_,_,_,_,_,_,_,_,_,_,_,_,_,_,_,_,_,_,_,_,_⟩,Nat.zero_le _,⟨Nd.EAt.start _,λx hx=>by cases hx⟩,Nat.zero_le _,own_nil _ _,Below.refl _ _,rfl⟩)
def zei(n:Int):Int:=n*256
theorem QV(t:TypeId)(n:Int)(h0:0<=n)(h1:n<256):binOp .shl t (.int .i64 n) (.int .u64 8)=pure (.int .i64 (zei n)):=by
 show Op.shift .shl .i64 n .u64 8=_
 rw[shift_shl_any _ _ _ _ (by omega)];unfold zei
 show pure (Value.int .i64 (IntKind.i64.wrap (n*((2^min (8:Int).toNat 64:Nat):Int))))=_
 rw[show(2^min (8:Int).toNat 64:Nat)=256 from rfl,IntWalk.i64_in _ (by omega)]
 rfl
attribute [local go_sem 9000] QV
theorem V2(a:Nat)(ha:a<18446744073709551616):(BitVec.ofInt 64 (a:Int)).toNat=a:=by
 rw[BitVec.ofInt_natCast,BitVec.toNat_ofNat];exact Nat.mod_eq_of_lt (by omega)
theorem Kd(a b:Nat)(ha:a<65536)(hb:b<65536):Go.bits .or .i64 (a:Int) (b:Int)=((a|||b:Nat):Int):=by
 have hx:a|||b<2^16:=Nat.or_lt_two_pow (by omega) (by omega)
 show IntKind.i64.wrap ((BitVec.ofInt 64 (a:Int)|||BitVec.ofInt 64 (b:Int)).toNat:Int)=_
 rw[BitVec.toNat_or,V2 a (by omega),V2 b (by omega),IntWalk.i64_in _ (by omega)]
theorem or_two(b c:UInt8):Go.bits .or .i64 (zei (b.toNat:Int)) (c.toNat:Int)=(b.toNat:Int)*256+(c.toNat:Int):=by
 have hb:=b.toNat_lt;have hc:=c.toNat_lt
 unfold zei
 rw[show(b.toNat:Int)*256=((b.toNat*256:Nat):Int) by omega,Kd _ _ (by omega) (by omega),zcz _ _ hc]
 omega
def zdZ(s:ByteArray)(w:World)(e:Ending)(w':World):Prop:=
 ∃(k m:Int) (d t:ByteArray) (a:Option Addr) (n cp:Nat) (l:List En) (ok:Bool),e= .returned (.tuple #[nv k m d t a n cp,.bool ok])/\Below w.heap.size w w'/\Ents a n l w'/\n<=100000/\d.size<=100000/\t.size<=100000/\(∀j,j<n->(l.getD j z0).1.size<=100000)/\
  (ok=true->zO s.data.toList=if Nd.right less Nm.right ⟨k,m,d,t,l⟩=true then(⟨k,m,d,t,l⟩,0)else(Nd.none0,2))/\(ok=false->zO s.data.toList=(Nd.none0,2))
theorem ZD{s:ByteArray}{w W:World}{k m:Int}{d t:ByteArray}(h:zO s.data.toList=(Nd.none0,2))(hd:d.size<=100000)(ht:t.size<=100000)(hb:Below w.heap.size w W):zdZ s w (.returned (.tuple #[nv k m d t none 0 0,.bool false])) W:=
 ⟨k,m,d,t,none,0,0,[],false,rfl,hb,zs _,Nat.zero_le _,hd,ht,λj hj=>by omega,λe=>(by cases e),λ_=>h⟩
theorem YY{s:ByteArray}{w W:World}{k m:Int}{d t:ByteArray}(h:zO s.data.toList=if Nd.right less Nm.right ⟨k,m,d,t,[]⟩=true then(⟨k,m,d,t,[]⟩,0)else(Nd.none0,2))(hd:d.size<=100000)(ht:t.size<=100000)(hb:Below w.heap.size w W):zdZ s w (.returned (.tuple #[nv k m d t none 0 0,.bool true])) W:=
 ⟨k,m,d,t,none,0,0,[],true,rfl,hb,zs _,Nat.zero_le _,hd,ht,λj hj=>by omega,λ_=>h,λe=>(by cases e)⟩
theorem VF(s:ByteArray)(w:World)(hs:s.size<=100000):Calls prog 161 #[.string s] w (zdZ s w):=by
 have HL:=hid (show s.data.toList.length=s.size from Array.length_toList)
 have HB0:=hid (show∀x:Obj,Below w.heap.size w (w.alloc x)from λx=>(Below.refl _ w).alloc (Nat.le_refl _) _)
 rcases Nat.lt_or_ge s.size 3 with h3|h3
 ·have h3i:(s.size:Int)<3:=by omega
  have HR:=hid (qK (s:=s.data.toList) (Nd.parse_short (by rw[HL.out];exact h3)))
  clear h3
  go_enter func161,ntmps161
  go_wp2_with fail
  refine zK 0 rfl ?_
  go_wp2_with fail
  simp only[Exit.jump]
  refine bodyPost_ret_by (zl rfl _ _ w.heap.size _ _ _ _ _ rfl (heap_alloc_new _ _)) rfl ?_
  exact ZD HR.out (Nat.zero_le _) (Nat.zero_le _) (HB0.out _)
 have h3i: ¬ (s.size:Int)<3:=by omega
 have h0:0<s.size:=by omega
 have h1:1<s.size:=by omega
 have h2:2<s.size:=by omega
 have HA0:=hid (b_at s h0)
 have HA1:=hid (b_at s h1)
 have HA2:=hid (b_at s h2)
 have HY:=hid (λes he=>JP (s:=s.data.toList) (by rw[HL.out];exact h3) (es:=es) he)
 have HNo:=hid (λhk he=>qK (Nd.parse_no (lt:=less) (nm:=Nm.right) (l:=s.data.toList) (by rw[HL.out];exact h3) hk he))
 have HRst:=hid (zel s h3)
 have hrs:(s.extract 3 s.size).size<=100000:=by rw[HRst.out,lstr_size,List.length_drop,HL.out];omega
 have HRs:=hid hrs
 have hz1:=s[1].toNat_lt
 have hz1i:(s[1].toNat:Int)<256:=by omega
 have hor:=or_two s[1] s[2]
 have i1:(1:Int)<(s.size:Int):=by omega
 have i2:(2:Int)<(s.size:Int):=by omega
 clear hrs
 by_cases k1:s[0].toNat=1
 ·have HV:=hid (show zO s.data.toList=if Nd.right less Nm.right ⟨1,((s[1].toNat:Int)*256+(s[2].toNat:Int)),s.extract 3 s.size,⟨#[]⟩,[]⟩=true then(⟨1,((s[1].toNat:Int)*256+(s[2].toNat:Int)),s.extract 3 s.size,⟨#[]⟩,[]⟩,0)else(Nd.none0,2) by
   have hnd:Yv s.data.toList []=⟨1,((s[1].toNat:Int)*256+(s[2].toNat:Int)),s.extract 3 s.size,⟨#[]⟩,[]⟩:=by
    rw[HRst.out];unfold Yv Nd.nodeOf;rw[<-HA0.out,<-HA1.out,<-HA2.out,k1,if_pos rfl,if_neg (by omega)];rfl
   rw[<-hnd];exact HY.out [] (by rw[if_neg (by rw[<-HA0.out];omega)]))
  clear HNo HY HA0 HA1 HA2 HRst
  go_enter func161,ntmps161
  go_wp2_with fail
  refine zK 0 rfl ?_
  go_wp2_with fail
  go_region
  go_wp2_with fail
  refine wp_goto ?_
  refine⟨rfl, ?_⟩
  go_wp2_with fail
  simp only[Exit.jump]
  refine bodyPost_ret_by (zl rfl _ _ w.heap.size _ _ _ _ _ rfl (heap_alloc_new _ _)) rfl ?_
  exact YY HV.out HRs.out (Nat.zero_le _) ((HB0.out _).drew)
 by_cases k3:s[0].toNat=3
 ·have HV:=hid (show zO s.data.toList=if Nd.right less Nm.right ⟨3,((s[1].toNat:Int)*256+(s[2].toNat:Int)),⟨#[]⟩,s.extract 3 s.size,[]⟩=true then(⟨3,((s[1].toNat:Int)*256+(s[2].toNat:Int)),⟨#[]⟩,s.extract 3 s.size,[]⟩,0)else(Nd.none0,2) by
   have hnd:Yv s.data.toList []=⟨3,((s[1].toNat:Int)*256+(s[2].toNat:Int)),⟨#[]⟩,s.extract 3 s.size,[]⟩:=by
    rw[HRst.out];unfold Yv Nd.nodeOf;rw[<-HA0.out,<-HA1.out,<-HA2.out,k3,if_neg (by omega),if_pos rfl];rfl
   rw[<-hnd];exact HY.out [] (by rw[if_neg (by rw[<-HA0.out];omega)]))
  clear HNo HY HA0 HA1 HA2 HRst
  go_enter func161,ntmps161
  go_wp2_with fail
  refine zK 2 rfl ?_
  go_wp2_with fail
  go_region
  go_wp2_with fail
  refine wp_goto ?_
  refine⟨rfl, ?_⟩
  go_wp2_with fail
  simp only[Exit.jump]
  refine bodyPost_ret_by (zl rfl _ _ w.heap.size _ _ _ _ _ rfl (heap_alloc_new _ _)) rfl ?_
  exact YY HV.out (Nat.zero_le _) HRs.out ((HB0.out _).drew)
 by_cases k2:s[0].toNat=2
 ·have HVA:=hid (show∀es,Nd.ents (s.data.toList.drop 3)=some es->zO s.data.toList=if Nd.right less Nm.right ⟨2,((s[1].toNat:Int)*256+(s[2].toNat:Int)),⟨#[]⟩,⟨#[]⟩,es⟩=true then(⟨2,((s[1].toNat:Int)*256+(s[2].toNat:Int)),⟨#[]⟩,⟨#[]⟩,es⟩,0)else(Nd.none0,2)from λes he=>by
   have hnd:Yv s.data.toList es=⟨2,((s[1].toNat:Int)*256+(s[2].toNat:Int)),⟨#[]⟩,⟨#[]⟩,es⟩:=by
    unfold Yv Nd.nodeOf;rw[<-HA0.out,<-HA1.out,<-HA2.out,k2,if_neg (by omega),if_neg (by omega)];rfl
   rw[<-hnd];exact HY.out es (by rw[if_pos (by rw[<-HA0.out];exact k2),he]))
  have HVN:=hid (show(∀es,Nd.ents (s.data.toList.drop 3)=some es->64<es.length)->zO s.data.toList=(Nd.none0,2)from λhl=>by
   cases he:Nd.ents (s.data.toList.drop 3)with
   |none=>exact HNo.out (by rw[<-HA0.out];exact k2) he
   |some es=>
    rw[HVA.out es he,if_neg]
    intro h
    have:=((Nd.right_iff _).1 h).len
    have:=hl es he
    dsimp only at*
    omega)
  have HRe:=hid (λW=>qZ (s.extract 3 s.size) W HRs.out)
  have hsd:(s.extract 3 s.size).data.toList=s.data.toList.drop 3:=by rw[HRst.out];rfl
  rw[hsd]at HRe
  clear HNo HY HA0 HA1 HA2 HRst hsd
  go_enter func161,ntmps161
  go_wp2_with fail
  refine zK 1 rfl ?_
  go_wp2_with fail
  go_region
  go_wp2_with fail
  refine wp_goto ?_
  refine⟨rfl, ?_⟩
  go_wp2_with fail
  refine(HRe.out _).mono ?_
  rintro e w2 ⟨hb2,hcase⟩
  have HX2:=hid ((hb2.block w.heap.size (by simp)).trans (show _=some (.cells #[.int .i64 2,.int .i64 ((s[1].toNat:Int)*256+(s[2].toNat:Int)),.string ⟨#[]⟩,.string ⟨#[]⟩,.slice none 0 0] 43 (0,0))from heap_alloc_new w _))
  have HB2:=hid (((HB0.out _).drew).trans (hb2.mono (HB0.out _).size))
  have hx:=HX2.out
  have x0:=yl hx
  have f0:=xp hx
  clear hx hb2
  rcases hcase with ⟨es,ao,cp,he,hl64,hes,rfl,hown⟩|⟨hno,rfl⟩
  ·have HV:=hid (HVA.out es he)
   have HO:=hid hown
   have HES:=hid hes
   have HL64:=hid hl64
   clear HVA HVN he hown hes hl64
   dsimp only
   go_wp2_with fail
   simp only[Exit.jump]
   have h4:(w2.setCell ⟨w.heap.size,4,none⟩ (.slice ao es.length cp)).heap[w.heap.size]?=some (.cells #[.int .i64 2,.int .i64 ((s[1].toNat:Int)*256+(s[2].toNat:Int)),.string ⟨#[]⟩,.string ⟨#[]⟩,.slice ao es.length cp] 43 (0,0)):=by simpa using heap_setCell_same w2 w.heap.size 4 _ 43 (.slice ao es.length cp) HX2.out
   refine bodyPost_ret_by (zl rfl _ _ w.heap.size _ _ _ _ _ rfl (set5 _ _ _ _ _ h4)) rfl ?_
   exact⟨2,((s[1].toNat:Int)*256+(s[2].toNat:Int)),⟨#[]⟩,⟨#[]⟩,ao,es.length,cp,es,true,rfl,zI (HB2.out.setCell (Nat.le_refl _) _) (Nat.le_refl _) _ _ _ _ _,xy (yj (yp HO.out (by simp) 4 _) (by simp) _ _ _ _ _),Nat.le_trans HL64.out (by decide),Nat.zero_le _,Nat.zero_le _,λj hj=>by rw[List.getD,List.getElem?_eq_getElem hj];exact Nat.le_trans (HES.out _ (List.getElem_mem hj)) (by decide),λ_=>HV.out,λe=>(by cases e)⟩
  ·have HV:=hid (HVN.out hno)
   clear HVA HVN hno
   dsimp only
   go_wp2_with fail
   simp only[Exit.jump]
   have h4:(w2.setCell ⟨w.heap.size,4,none⟩ (.slice none 0 0)).heap[w.heap.size]?=some (.cells #[.int .i64 2,.int .i64 ((s[1].toNat:Int)*256+(s[2].toNat:Int)),.string ⟨#[]⟩,.string ⟨#[]⟩,.slice none 0 0] 43 (0,0)):=by simpa using heap_setCell_same w2 w.heap.size 4 _ 43 (.slice none 0 0) HX2.out
   refine bodyPost_ret_by (zl rfl _ _ w.heap.size _ _ _ _ _ rfl (set5 _ _ _ _ _ h4)) rfl ?_
   exact ZD HV.out (Nat.zero_le _) (Nat.zero_le _) (zI (HB2.out.setCell (Nat.le_refl _) _) (Nat.le_refl _) _ _ _ _ _)
 ·have HV:=hid (show zO s.data.toList=(Nd.none0,2) by
   rw[HY.out [] (by rw[if_neg (by rw[<-HA0.out];omega)]),if_neg]
   intro h
   have hk:=((Nd.right_iff _).1 h).kinds
   have e:(Yv s.data.toList []).kind=(s[0].toNat:Int):=by rw[HA0.out];rfl
   rw[e]at hk
   omega)
  have k1i: ¬ (s[0].toNat:Int)=1:=by omega
  have k2i: ¬ (s[0].toNat:Int)=2:=by omega
  have k3i: ¬ (s[0].toNat:Int)=3:=by omega
  clear HNo HY HA0 HA1 HA2 HRst
  go_enter func161,ntmps161
  go_wp2_with fail
  refine zK 0 rfl ?_
  go_wp2_with fail
  go_region
  go_wp2_with fail
  simp only[Exit.jump]
  refine bodyPost_ret_by (zl rfl _ _ w.heap.size _ _ _ _ _ rfl (heap_alloc_new _ _)) rfl ?_
  exact ZD HV.out (Nat.zero_le _) (Nat.zero_le _) ((HB0.out _).drew)
end Go.Proofs.YtabmamofnhcgbaaGreatDoor
namespace Go.Proofs.YtabmamofnhcgbaaGreatDoor
open Go.RowKit Go.Less
attribute [local go_sem 9000] zg zf zz zA zB zC
theorem zcl(w w1:World)(cs:Array Value)(o:Obj)(ho:o= .cells cs 43 (0,0))(h:w1.heap[w.heap.size]?=some (.cells zc 43 (0,0))):(w1.alloc o).heap[w1.heap.size]?=some (.cells cs 43 (0,0))/\(w1.alloc o).heap[w.heap.size]?=some (.cells zc 43 (0,0)):=by
 subst ho
 exact⟨heap_alloc_new w1 _,((below_one w1 _).block _ (lt_of_obj h)).trans h⟩
theorem KZ{p:Nat}{w1:World}{x0 x1 x2 x3 x4:Value}(h:w1.heap[p]?=some (.cells #[x0,x1,x2,x3,x4] 43 (0,0)))(v0 v1 v2 v3 v4:Value)(o:Obj):
  ((((((w1.setCell ⟨p,0,none⟩ v0).setCell ⟨p,1,none⟩ v1).setCell ⟨p,2,none⟩ v2).setCell ⟨p,3,none⟩ v3).setCell ⟨p,4,none⟩ v4).alloc o).heap[p]?=some (.cells #[v0,v1,v2,v3,v4] 43 (0,0)):=
 ((below_one _ o).block _ (lt_of_obj (set5 v0 v1 v2 v3 v4 h))).trans (set5 v0 v1 v2 v3 v4 h)
theorem VQ{w w1:World}(h:Below w.heap.size w w1)(v0 v1 v2 v3 v4:Value)(o:Obj):
  Below w.heap.size w ((((((w1.setCell ⟨w.heap.size,0,none⟩ v0).setCell ⟨w.heap.size,1,none⟩ v1).setCell ⟨w.heap.size,2,none⟩ v2).setCell ⟨w.heap.size,3,none⟩ v3).setCell ⟨w.heap.size,4,none⟩ v4).alloc o):=
 (zI h (Nat.le_refl _) v0 v1 v2 v3 v4).alloc (zI h (Nat.le_refl _) v0 v1 v2 v3 v4).size _
theorem Y4(s:ByteArray)(w:World)(hs:s.size<=100000):Calls prog 121 #[.string s] w (vp (zO s.data.toList) w):=by
 have HRd:=hid (λW=>VF s W hs)
 have HB0:=hid (show∀x:Obj,Below w.heap.size w (w.alloc x)from λx=>(Below.refl _ w).alloc (Nat.le_refl _) _)
 go_enter func121,ntmps121
 go_wp2_with fail
 refine(HRd.out _).mono ?_
 rintro e w1 ⟨k,m,d,t,a,n,cp,l,ok,rfl,hb1,hE,hn,hd,ht,hls,hyes,hno⟩
 have HZ1:=hid ((hb1.block w.heap.size (by simp)).trans (heap_alloc_new w _))
 have HB1:=hid ((HB0.out _).trans (hb1.mono (HB0.out _).size))
 clear hb1 HRd
 have hr1:=HZ1.out
 have r0:=yl hr1
 have q0:=xp hr1
 have hwl:=lt_of_obj hr1
 clear hr1
 cases ok with
 |false=>
  have HR:=hid (hno rfl)
  clear hyes hno hE hls
  dsimp only
  go_wp2_with fail
  refine bodyPost_ret_by (zl rfl _ _ w.heap.size _ _ _ _ _ rfl (KZ HZ1.out _ _ _ _ _ _)) rfl ⟨none,0,by rw[HR.out];rfl,by rw[HR.out];exact zs _,VQ HB1.out _ _ _ _ _ _⟩
 | true=>
  have HR:=hid (hyes rfl)
  have HA:=hid (zcl w w1 #[.int .i64 k,.int .i64 m,.string d,.string t,.slice a n cp] _ rfl HZ1.out)
  have HN:=hid (uY k m d t a n cp l (w1.alloc (.cells #[.int .i64 k,.int .i64 m,.string d,.string t,.slice a n cp] 43)) (hE.below (below_one w1 _)) (by omega) hls)
  have HOw:=hid (λW (hb:Below w1.heap.size w1 W)=>kG k m d t a n cp l W (hE.below hb) hn hls hd ht)
  unfold xE at HN
  have HBA:=hid (show∀o:Obj,Below w.heap.size w (w1.alloc o)from λo=>HB1.out.alloc HB1.out.size _)
  clear hyes hno hE hls r0 q0
  cases hrt:ndr k m d t l
  ·rw[hrt]at HN
   have HR2:=hid (show zO s.data.toList=(Nd.none0,2) by rw[HR.out,if_neg];intro h;unfold ndr at hrt;rw[hrt]at h;cases h)
   clear HR hrt
   dsimp only
   go_wp2_with fail
   refine HN.out.mono ?_
   rintro e w2 ⟨rfl,hw2⟩
   have HZ2:=hid ((hw2.block _ (lt_of_obj HA.out.2)).trans HA.out.2)
   have HB2:=hid ((HBA.out _).trans (hw2.mono (HBA.out _).size))
   have hr1:=HZ2.out
   have r0:=yl hr1
   have q0:=xp hr1
   clear hr1 hw2
   dsimp only
   go_wp2_with fail
   refine bodyPost_ret_by (zl rfl _ _ w.heap.size _ _ _ _ _ rfl (set5 _ _ _ _ _ HZ2.out)) rfl ⟨none,0,by rw[HR2.out];rfl,by rw[HR2.out];exact zs _,zI HB2.out (Nat.le_refl _) _ _ _ _ _⟩
  ·rw[hrt]at HN
   have HR2:=hid (show zO s.data.toList=(⟨k,m,d,t,l⟩,0) by rw[HR.out,if_pos (show Nd.right less Nm.right _=true from hrt)])
   clear HR hrt
   dsimp only
   go_wp2_with fail
   refine HN.out.mono ?_
   rintro e w2 ⟨rfl,hw2⟩
   have HZ2:=hid ((hw2.block _ (lt_of_obj HA.out.2)).trans HA.out.2)
   have HX2:=hid ((hw2.block _ (lt_of_obj HA.out.1)).trans HA.out.1)
   have HB2:=hid ((HBA.out _).trans (hw2.mono (HBA.out _).size))
   have HW2:=hid ((below_one w1 _).trans (hw2.mono (below_one w1 _).size))
   have hx:=HX2.out
   have x0:w2.cell? ⟨w1.heap.size,0,none⟩=some (.int .i64 k):=cell_obj hx 0
   have x1:w2.cell? ⟨w1.heap.size,1,none⟩=some (.int .i64 m):=cell_obj hx 1
   have x2:w2.cell? ⟨w1.heap.size,2,none⟩=some (.string d):=cell_obj hx 2
   have x3:w2.cell? ⟨w1.heap.size,3,none⟩=some (.string t):=cell_obj hx 3
   have x4:w2.cell? ⟨w1.heap.size,4,none⟩=some (.slice a n cp):=cell_obj hx 4
   clear hx hw2
   dsimp only
   go_wp2_with fail
   refine(HOw.out _ HW2.out).mono ?_
   rintro e w3 ⟨ao,cp3,rfl,hown,hw3⟩
   have HZ3:=hid ((hw3.block _ (lt_of_obj HZ2.out)).trans HZ2.out)
   have HB3:=hid (HB2.out.trans (hw3.mono HB2.out.size))
   have HO3:=hid hown
   have hlt2:=lt_of_obj HZ2.out
   have hr1:=HZ3.out
   have r0:=yl hr1
   have q0:=xp hr1
   clear hr1 hw3 hown x0 x1 x2 x3 x4
   dsimp only
   go_wp2_with fail
   refine bodyPost_ret_by (zl rfl _ _ w.heap.size _ _ _ _ _ rfl (set5 _ _ _ _ _ HZ3.out)) rfl ⟨ao,cp3,by rw[HR2.out];rfl,by rw[HR2.out];exact xy (yj HO3.out hlt2 _ _ _ _ _),zI HB3.out (Nat.le_refl _) _ _ _ _ _⟩
end Go.Proofs.YtabmamofnhcgbaaGreatDoor
namespace Go.Proofs.YtabmamofnhcgbaaGreatDoor
open Go.RowKit Go.Less
structure Small (d t:ByteArray) (n:Nat) (l:List En):Prop where
 n80:n<=80
 names: ∀x∈l,x.1.size<=100
 d5:d.size<=5000
 t5:t.size<=500
theorem Small.at{d t:ByteArray}{n:Nat}{l:List En}(h:Small d t n l)(hn:n=l.length): ∀j,j<n->(l.getD j z0).1.size<=100000:=λj hj=>by
 rw[List.getD,List.getElem?_eq_getElem (by omega)]
 exact Nat.le_trans (h.names _ (List.getElem_mem (by omega))) (by decide)
end Go.Proofs.YtabmamofnhcgbaaGreatDoor
namespace Go.Proofs.YtabmamofnhcgbaaGreatDoor
open Go.RowKit Go.Less
open T8 (Rp Dg pv vW vI vJ yx vA yq cn)
structure Okl (l:List Fs.Item):Prop where
 inos:Fs.Rising l
 pos: ∀y∈l,1<=y.1/\y.1<=2147483647
 right: ∀y∈l,Nd.Right less Nm.right y.2
 few:l.length<=1000
theorem Okl.ub{l:List Fs.Item}(h:Okl l):Fs.Ub l:=λy hy=>by have:=h.pos y hy;omega
theorem Okl.node{l:List Fs.Item}(h:Okl l){i:Int}{x:Nd.Node}(hx:Fs.node l i=some x):Nd.Right less Nm.right x/\1<=i/\i<=2147483647:=
 ⟨h.right _ (Fs.node_mem hx),h.pos _ (Fs.node_mem hx)⟩
structure Sv (w:World) (m:Option Nat) (l:List Fs.Item):Prop where
 rp:Rp w m (Fs.kv l)
 ok:Okl l
 dg:Dg w
theorem Sv.below{w w':World}{m:Option Nat}{l:List Fs.Item}(h:Sv w m l)(hb:Below w.heap.size w w'):Sv w' m l:=⟨h.rp.below hb,h.ok,h.dg.below hb⟩
abbrev stv(m:Option Nat)(nx:Int):Value:= .agg #[pv m,.int .i64 nx]
theorem Yx(es:List En)(h: ∀e∈es,Nm.right (Nd.bs e.1)=true):((es.map Nd.entText).flatten).length<=21*es.length:=by
 induction es with
 |nil=>simp
 |cons x es ih=>
  have h1:=u7 (h x List.mem_cons_self)
  have h2:=ih λe he=>h e (List.mem_cons_of_mem _ he)
  simp only[List.map_cons,List.flatten_cons,List.length_append,List.length_cons,Nd.entText,Nd.n4,List.length_nil]
  omega
theorem uM{x:Nd.Node}(h:Nd.Right less Nm.right x):(Fs.txt x).size<=10000:=by
 unfold Fs.txt
 rw[Nd.size_mk]
 have h1:=Yx x.ents λe he=>(h.ok e he).1
 have h2:=h.len
 have hd:(Nd.bs x.data).length<=4096:=by
  rw[Nd.len_bs]
  rcases h.kinds with ⟨_,_,_,e⟩|⟨_,_,e⟩|⟨_,e,_⟩
  ·exact e
  ·rw[e];decide
  ·rw[e];decide
 have ht:(Nd.bs x.target).length<=64:=by
  rw[Nd.len_bs]
  rcases h.kinds with ⟨_,e,_⟩|⟨_,e,_⟩|⟨_,_,_,_,e⟩
  ·rw[e];decide
  ·rw[e];decide
  ·exact e
 simp only[Nd.text,List.length_cons,List.length_append]
 omega
theorem nm256: ∀l,Nm.right l=true->l.length<256:=λl h=>Nat.lt_of_le_of_lt (u7 h) (by decide)
theorem js{x:Nd.Node}(h:Nd.Right less Nm.right x):zO (Fs.txt x).data.toList=(x,0):=by
 show zO (Nd.text x)=_
 unfold zO
 rw[Nd.parse_text nm256 h]
theorem KY{x:Nd.Node}(h:Nd.Right less Nm.right x):prt x=(Fs.txt x,0):=by
 unfold prt
 rw[if_pos ((Nd.right_iff x).2 h)];rfl
theorem Uo{w:World}{m:Option Nat}{l:List Fs.Item}(h:Sv w m l){i:Int}(hi:0<=i/\i<4294967296):Tr.get (Fs.kv l) (Fs.key i)=(Fs.node l i).map Fs.txt:=Fs.get_kv h.ok.ub hi
theorem Okl.set{l:List Fs.Item}(h:Okl l){i:Int}{x:Nd.Node}(h1:1<=i/\i<=2147483647)(hR:Nd.Right less Nm.right x)(hi:(Fs.node l i).isSome=true\/ ∀y∈l,y.1<i)(hf:l.length<=999):Okl (Fs.setL l i x):=by
 refine⟨Fs.rising_set h.inos hi,λy hy=> ?_,λy hy=> ?_, ?_⟩
 ·rcases Fs.mem_set hy with rfl|⟨hy,_⟩
  ·exact h1
  ·exact h.pos y hy
 ·rcases Fs.mem_set hy with rfl|⟨hy,_⟩
  ·exact hR
  ·exact h.right y hy
 ·rw[Fs.len_set];split<;>omega
theorem Okl.drop{l:List Fs.Item}(h:Okl l)(i:Int):Okl (Fs.dropL l i):=
 ⟨Fs.rising_drop h.inos i,λy hy=>h.pos y (List.mem_filter.1 hy).1,λy hy=>h.right y (List.mem_filter.1 hy).1,Nat.le_trans (Fs.len_drop l i) h.few⟩
end Go.Proofs.YtabmamofnhcgbaaGreatDoor
namespace Go.Proofs.YtabmamofnhcgbaaGreatDoor
open Go.RowKit Go.Less
attribute [local go_sem 9000] zg zf
structure Fb (w:World) (a:Option Addr) (n c:Nat) (nx:Int) (W:World):Prop where
 box:W.heap[w.heap.size]?=some (.cells #[.slice a n c,.int .i64 nx] 29 (0,0))
 res:W.heap[w.heap.size+1]?=some (.cells zc 43 (0,0))
 below:Below w.heap.size w W
theorem Z5(w:World)(a:Option Addr)(n c:Nat)(nx:Int):Fb w a n c nx ((w.alloc (.cells #[.slice a n c,.int .i64 nx] 29)).alloc (.cells zc 43)):=
 ⟨Xw _ _ _,kV _ _ _,((Below.refl _ w).alloc (Nat.le_refl _) _).alloc (by simp) _⟩
theorem xI(a:Option Addr)(n c:Nat)(nx:Int)(L:List MI)(k:Int)(w:World)(hI:Items a n L w)(hn:n<=140737488355328):Calls prog 64 #[fv a n c nx,.int .i64 k] w (xF (its L) k w):=by
 have hni:(n:Int)<=140737488355328:=by omega
 have HI:=hid (λW (hb:Below w.heap.size w W)=>hI.below hb)
 have HNL:=hid hI.count
 have HB:=hid (Z5 w a n c nx)
 clear hI
 go_enter func64,ntmps64
 go_wp2_with fail
 generalize (w.alloc (.cells #[.slice a n c,.int .i64 nx] 29)).alloc (.cells #[.int .i64 0,.int .i64 0,.string ⟨#[]⟩,.string ⟨#[]⟩,.slice none 0 0] 43)=W0 at HB|-
 go_loopw [6] (λi wr=>(∃j:Nat,j<=n/\i= .int .i64 j/\Fs.node (its (L.take j)) k=none)/\wr=W0) (λi _=>n-(intOf i).toNat)
 case atStart=>exact⟨⟨0,Nat.zero_le _,rfl,rfl⟩,rfl⟩
 case round=>
  obtain⟨⟨j,hj,rfl,hf⟩,rfl⟩:=hrel
  have hb0:=cell_obj HB.out.box 0
  have cb:wr.cell? ⟨w.heap.size,0,none⟩=some (.slice a n c):=hb0
  clear hb0
  by_cases hlt:j<n
  ·have j0:(j:Int)<(n:Int):=by omega
   have hj0:(0:Int)<=(j:Int):=by omega
   obtain⟨b,off,x,rfl,hx,h6⟩:=(HI.out _ HB.out.below).six hlt
   obtain⟨c0,c1,c2,c3,c4,c5⟩:=h6
   by_cases hk:x.it.1=k
   ·have HN:=hid (Yu hx hf hk)
    have HE:=hid (λW (hb:Below w.heap.size w W)=>(HI.out W hb).ents x (List.mem_of_getElem? hx))
    clear hf hx
    have hr:=HB.out.res
    have r0:=yl hr
    have q0:=xp hr
    clear hr
    subst hk
    go_wp2_with fail
    refine bodyPost_ret_by (zl rfl _ _ (w.heap.size+1) _ _ _ _ _ rfl (set5 _ _ _ _ _ HB.out.res)) rfl ?_
    refine⟨x.ea,x.ec, ?_, ?_,zI HB.out.below (Nat.le_succ _) _ _ _ _ _⟩
    ·rw[Fs.nodeD_of HN.out,HN.out];rfl
    ·rw[Fs.nodeD_of HN.out]
     exact HE.out _ (zI HB.out.below (Nat.le_succ _) _ _ _ _ _)
   ·have HN:=hid ((Y6 hx hf).trans (if_neg hk))
    clear hf hx
    go_wp2_with fail
    go_roundw
    case rel=>exact⟨⟨j+1,by omega,by go_num,HN.out⟩,trivial⟩
    case measure=>simp[intOf];omega
  ·obtain rfl:j=n:=by omega
   have HN:=hid (show Fs.node (its L) k=none by rw[HNL.out,List.take_length]at hf;exact hf)
   clear hf
   have hr:=HB.out.res
   have r0:=yl hr
   have q0:=xp hr
   clear hr
   go_wp2_with fail
   refine bodyPost_ret_by (zl rfl _ _ (w.heap.size+1) _ _ _ _ _ rfl (set5 _ _ _ _ _ HB.out.res)) rfl ?_
   have hD:Fs.nodeD (its L) k=Nd.none0:=by unfold Fs.nodeD;rw[HN.out];rfl
   refine⟨none,0, ?_, ?_,zI HB.out.below (Nat.le_succ _) _ _ _ _ _⟩
   ·rw[hD,HN.out];rfl
   ·rw[hD];exact zs _
end Go.Proofs.YtabmamofnhcgbaaGreatDoor
namespace Go.Proofs.YtabmamofnhcgbaaGreatDoor
open Go.RowKit Go.Less
abbrev vm(base:Nat)(v:Value)(L:List MI)(w:World):Prop:=w.ownsRow base 70 6 v L.length (u9 L)
theorem ZK(w:World)(base:Nat):vm base (.slice none 0 0) [] w:=⟨rfl,.inl ⟨rfl,rfl⟩⟩
abbrev zbs:Value:= .agg #[.int .i64 0,.int .i64 0,.int .i64 0,.string ⟨#[]⟩,.string ⟨#[]⟩,.slice none 0 0]
theorem zc9:(prog.info? 70).map (λi=>(i.zero,i.size,i.bytes))=some (some zbs,6,80):=by kernel_rfl
theorem ZR{b:Nat}{u:MI}{w:World}(hc:w.heap[b]?=some (.cells (yG u).toArray 70 (0,0))): ∀(j:Nat) (y:Value),(yG u)[j]?=some y->w.cell? ((⟨b,0,none⟩:Addr).add j)=some y:=by
 intro j y hj
 rw[show(⟨b,0,none⟩:Addr).add j=⟨b,j,none⟩ by unfold Addr.add;split<;>simp_all]
 simp only[World.cell?,hc]
 simpa using hj
theorem Qm{ops:Array Oper}{rest:List Oper}{o:Oper}{a:Act}{Q:Exit->Act->World->Prop}{w:World}(hgd:o.guard=none)(s x:Operand)
  (ho:o.op= .call {callee:= .builtin .append,args:= #[s,x],argTypes:= #[27,27]})
  (base:Nat) (v:Value) (L:List MI) (hs:a.eval s=v) (hown:vm base v L w)
  (b:Nat) (u:MI) (hx:a.eval x= .slice (some ⟨b,0,none⟩) 1 1) (hc:w.heap[b]?=some (.cells (yG u).toArray 70 (0,0))) (hn:L.length<=1000000) (hbase:base<=w.heap.size)
  (h: ∀ao' cap' w',vm base (.slice ao' (L.length+1) cap') (L++[u]) w'->w.grownBy w' v.ownBlock->wpList prog ops Q rest (a.put o.dst (.slice ao' (L.length+1) cap')) w'):
  wpList prog ops Q (o::rest) a w:=by
 obtain⟨i0,hi,hz0,hz1,hz2⟩:=info_parts zc9
 refine wpList_append_own w hgd s x 27 ho base 70 i0 zbs 6 80 underlying27 hi hz0 hz1 hz2 rfl (by decide) v L.length (u9 L) hs hown ⟨b,0,none⟩ 1 1 (yG u) hx rfl (ZR hc) ?_ (by unfold maxLen;omega) (by omega) hbase ?_
 ·intro y hy
  simp[yG]at hy
  rcases hy with rfl|rfl|rfl|rfl|rfl|rfl<;>rfl
 ·intro v' w' hown' hg _
  obtain⟨ao',cap',rfl⟩:=owns_form hown'
  refine h ao' cap' w' ?_ hg
  unfold vm
  rw[List.length_append,qP]
  simpa[u9] using hown'
theorem kW{ops:Array Oper}{o:Oper}{a:Act}{w:World}{K:Act->World->Prop}{Q:Exit->Act->World->Prop}{E:Prop}(hgd:o.guard=none)(s x:Operand)
  (ho:o.op= .call {callee:= .builtin .append,args:= #[s,x],argTypes:= #[27,27]})
  (base:Nat) (v:Value) (L:List MI) (hs:a.eval s=v) (hown:vm base v L w)
  (b:Nat) (u:MI) (hx:a.eval x= .slice (some ⟨b,0,none⟩) 1 1) (hc:w.heap[b]?=some (.cells (yG u).toArray 70 (0,0))) (hn:L.length<=1000000) (hbase:base<=w.heap.size)
  (h: ∀ao' cap' w',vm base (.slice ao' (L.length+1) cap') (L++[u]) w'->w.grownBy w' v.ownBlock->K (a.put o.dst (.slice ao' (L.length+1) cap')) w'):
  if Region.wanted o (yielded ops a.tmps)=true then Oper.wp prog o a w K Q else E:=by
 have hw:Region.wanted o (yielded ops a.tmps)=true:=by simp[Region.wanted,hgd]
 rw[if_pos hw]
 obtain⟨i0,hi,hz0,hz1,hz2⟩:=info_parts zc9
 refine wp_append_own w s x 27 ho base 70 i0 zbs 6 80 underlying27 hi hz0 hz1 hz2 rfl (by decide) v L.length (u9 L) hs hown ⟨b,0,none⟩ 1 1 (yG u) hx rfl (ZR hc) ?_ (by unfold maxLen;omega) (by omega) hbase ?_
 ·intro y hy
  simp[yG]at hy
  rcases hy with rfl|rfl|rfl|rfl|rfl|rfl<;>rfl
 ·intro v' w' hown' hg _
  obtain⟨ao',cap',rfl⟩:=owns_form hown'
  refine h ao' cap' w' ?_ hg
  unfold vm
  rw[List.length_append,qP]
  simpa[u9] using hown'
theorem jV{base:Nat}{a:Option Addr}{n c:Nat}{L:List MI}{w:World}(h:w.ownsRow base 70 6 (.slice a n c) n (u9 L))(hE: ∀x∈L,Ents x.ea x.x.ents.length x.x.ents w):Items a n L w:=by
 have hn:n=L.length:=by have:=h.1;rw[Ui]at this;omega
 refine⟨hn,λi x hx=> ?_,hE⟩
 have h2:=h
 obtain⟨hi,_⟩:=List.getElem?_eq_some_iff.1 hx
 obtain⟨hl,⟨e,h0⟩|⟨g,cap',cur,e,_⟩⟩:=h
 ·omega
 ·injection e with e1 e2 e3
  subst e1
  subst e3
  refine⟨g,0,rfl,λj v hj=> ?_⟩
  have h6:j<6:=by
   obtain⟨h,_⟩:=List.getElem?_eq_some_iff.1 hj
   exact h
  rw[show 0+i*6+j=i*6+j by omega,World.ownsRow.cellAt h2 (i*6+j) (by omega),Uj L i j x hx h6,hj]
theorem vH{w w':World}{base:Nat}{v:Value}{L:List MI}(h:vm base v L w)(hb:Below w.heap.size w w'):vm base v L w':=owned_below h hb
theorem xz{base:Nat}{v:Value}{L:List MI}{w:World}(h:vm base v L w){g:Nat}(hg:g<base)(k:Nat)(y:Value):vm base v L (w.setCell ⟨g,k,none⟩ y):=by
 refine World.ownsRow.kept h (?_:w.grownBy _ (some g)) (.inr λe=> ?_)
 ·exact⟨rfl,rfl,rfl,by simp[World.setCell],λj hj hne=>heap_setCell_other w ⟨g,k,none⟩ j _ (λe=>hne (by rw[e]))⟩
 ·have:=owns_lt h g e;omega
def FsR(l:List Fs.Item)(nx:Int)(w:World)(e:Ending)(w':World):Prop:=
 ∃a c L,its L=l/\e= .returned (fv a L.length c nx)/\Items a L.length L w'/\Below w.heap.size w w'
theorem zbQ:(prog.info? 29).map (·.size)=some 2:=by kernel_rfl
theorem yX{fn:Func}{p:Tmp}(h:fn.results= #[.cell p 29])(tmps:Array Value)(w:World)(g:Nat)(k m:Value)
  (hp:tmps.getD p undef= .pointer (some ⟨g,0,none⟩)) (hg:w.heap[g]?=some (.cells #[k,m] 29 (0,0))):
  (results fn tmps).run prog w= .ok (.agg #[k,m]) w:=
 results_cell_row (P:=prog) h _ _ g 29 #[k,m] (0,0) _ hp hg underlying29 rfl zbQ
end Go.Proofs.YtabmamofnhcgbaaGreatDoor
