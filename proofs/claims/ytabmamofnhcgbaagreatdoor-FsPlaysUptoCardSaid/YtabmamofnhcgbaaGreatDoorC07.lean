/- A part of the proofs. -/
import Derived.Shelf.Strings.AsciiSet
import Derived.Test.YtabmamofnhcgbaaGreatDoorC06
set_option maxRecDepth 1000000
set_option maxHeartbeats 16000000
open Go.Lib (hid)
open Go.Proofs.Tryz
namespace Go.Proofs.YtabmamofnhcgbaaGreatDoor
open Go.RowKit Go.Less
attribute [local go_sem 9000] zg zf zz zA zB zC
def dn(l:List En)(k:ByteArray):Bool:=l.any λx=> !less x.1 k
def rows(l:List En)(k:ByteArray)(i:Int):List En:=if dn l k=true then Nd.ins less l k i else l
theorem Qi(l:List En)(x:En)(k:ByteArray):dn (l++[x]) k=(dn l k|| !less x.1 k):=by simp[dn]
theorem Ul{l:List En}{k:ByteArray}(i:Int)(h:dn l k=false)(post:List En):Nd.ins less (l++post) k i=l++Nd.ins less post k i:=by
 induction l with
 |nil=>rfl
 |cons y l ih=>
  simp only[dn,List.any_cons,Bool.or_eq_false_iff]at h
  rw[List.cons_append,Nd.ins,if_pos (by simpa using h.1),ih h.2];rfl
theorem zaD{l:List En}{k:ByteArray}(i:Int)(h:dn l k=true)(x:En):Nd.ins less (l++[x]) k i=Nd.ins less l k i++[x]:=by
 induction l with
 |nil=>cases h
 |cons y l ih=>
  rw[List.cons_append,Nd.ins,Nd.ins]
  by_cases hy:less y.1 k=true
  ·rw[if_pos hy,if_pos hy,ih (by simpa[dn,hy] using h)];rfl
  ·rw[if_neg hy,if_neg hy];rfl
theorem QZ(l:List En)(x:En)(k:ByteArray)(i:Int):rows (l++[x]) k i=if dn l k=true then rows l k i++[x]else if less x.1 k=true then rows l k i++[x]else(rows l k i++[(k,i)])++[x]:=by
 unfold rows
 rw[Qi]
 cases hd:dn l k
 ·cases hx:less x.1 k
  ·simp[Ul i hd,Nd.ins,hx]
  ·simp
 ·simp[zaD i hd]
theorem zb2{l:List En}{k:ByteArray}{i:Int}:Nd.ins less l k i=if dn l k=true then rows l k i else rows l k i++[(k,i)]:=by
 unfold rows
 cases hd:dn l k
 ·have:=Ul i hd []
  rw[List.append_nil]at this
  simp[this,Nd.ins]
 ·simp
theorem Vz(l:List En)(k:ByteArray)(i:Int):(rows l k i).length<=l.length+1:=by
 unfold rows;split
 ·rw[Nd.len_ins];exact Nat.le_refl _
 ·omega
theorem zaI{w W:World}{cs:Array Value}(x y:Obj)(hx:x= .cells cs 43 (0,0))(hy:y= .cells zc 43 (0,0))(h:Below ((w.alloc x).alloc y).heap.size ((w.alloc x).alloc y) W):Gat w cs [] (.slice none 0 0) W:=by
 subst hx hy
 have hb:=((Below.refl _ w).alloc (Nat.le_refl _) (.cells cs 43 (0,0))).alloc (by simp) (.cells zc 43 (0,0))
 exact⟨own_nil _ _,(h.block _ (lt_of_obj (Xw _ _ _))).trans (Xw _ _ _),(h.block _ (lt_of_obj (kV _ _ _))).trans (kV _ _ _),Nat.le_trans (two2 _ _ _) h.size,hb.trans (h.mono hb.size)⟩
theorem VC(k m:Int)(d t:ByteArray)(a:Option Addr)(n cap:Nat)(l:List En)(nm:ByteArray)(i:Int)(w:World)(hE:Ents a n l w)(hn:n<=100000)(hs:nm.size<=140737488355328):
  Calls prog 92 #[nv k m d t a n cap,.string nm,.int .i64 i] w (vp (Nd.withE less Nm.right ⟨k,m,d,t,l⟩ nm i) w):=by
 have HNL:=hid hE.count
 have HB0:=hid (show∀x y:Obj,Below w.heap.size w ((w.alloc x).alloc y)from λx y=>((Below.refl _ w).alloc (Nat.le_refl _) _).alloc (by simp) _)
 have HE:=hid (λW (hb:Below w.heap.size w W)=>hE.below hb)
 have HFi:=hid (λW (hb:Below w.heap.size w W)=>uS k m d t a n cap l nm W (hE.below hb) (Nat.le_trans hn (by decide)))
 have HRi:=hid (λW=>xu nm W hs)
 clear hE
 by_cases e1: ¬ k=2
 ·have HR:=hid (show Nd.withE less Nm.right ⟨k,m,d,t,l⟩ nm i=(Nd.none0,10) by unfold Nd.withE;rw[if_pos e1])
  go_enter func92,ntmps92
  go_wp2_with fail
  refine bodyPost_ret_by (zl rfl _ _ (w.heap.size+1) _ _ _ _ _ rfl (kV _ _ _)) rfl ⟨none,0,by rw[HR.out];rfl,by rw[HR.out];exact zs _,HB0.out _ _⟩
 obtain rfl:=Decidable.not_not.1 e1
 clear e1
 cases e2:Nm.right nm.data.toList
 ·have HR:=hid (show Nd.withE less Nm.right ⟨2,m,d,t,l⟩ nm i=(Nd.none0,14) by unfold Nd.withE;rw[if_neg (by simp),if_pos (show Nm.right (Nd.bs nm)=false from e2)])
  go_enter func92,ntmps92
  go_wp2_with fail
  refine(HRi.out _).mono ?_
  rintro e w' ⟨rfl,rfl⟩
  rw[e2]
  dsimp only
  go_wp2_with fail
  refine bodyPost_ret_by (zl rfl _ _ (w.heap.size+1) _ _ _ _ _ rfl (kV _ _ _)) rfl ⟨none,0,by rw[HR.out];rfl,by rw[HR.out];exact zs _,HB0.out _ _⟩
 go_enter func92,ntmps92
 go_wp2_with fail
 refine(HRi.out _).mono ?_
 rintro e w' ⟨rfl,rfl⟩
 rw[e2]
 dsimp only
 go_wp2_with fail
 refine(HFi.out _ (HB0.out _ _)).mono ?_
 rintro e wr ⟨rfl,hw⟩
 have HG:=hid (zaI _ _ rfl rfl hw)
 clear hw
 dsimp only
 cases hf:(Nd.find l nm).isSome
 case true=>
  have HR:=hid (show Nd.withE less Nm.right ⟨2,m,d,t,l⟩ nm i=(Nd.none0,5) by unfold Nd.withE;rw[if_neg (by simp),if_neg (by rw[show Nm.right (Nd.bs nm)=true from e2];simp),if_pos hf])
  have hr:=HG.out.res
  have r0:wr.cell? ⟨w.heap.size+1,0,none⟩=some (.int .i64 0):=cell_obj hr 0
  have r1:wr.cell? ⟨w.heap.size+1,1,none⟩=some (.int .i64 0):=cell_obj hr 1
  have r2:wr.cell? ⟨w.heap.size+1,2,none⟩=some (.string ⟨#[]⟩):=cell_obj hr 2
  have r3:wr.cell? ⟨w.heap.size+1,3,none⟩=some (.string ⟨#[]⟩):=cell_obj hr 3
  have r4:wr.cell? ⟨w.heap.size+1,4,none⟩=some (.slice none 0 0):=cell_obj hr 4
  have q0:=free_obj hr 0
  have q1:=free_obj hr 1
  have q2:=free_obj hr 2
  have q3:=free_obj hr 3
  have q4:=free_obj hr 4
  clear hr
  go_wp2_with fail
  refine bodyPost_ret_by (zl rfl _ _ (w.heap.size+1) _ _ _ _ _ rfl (set5 _ _ _ _ _ HG.out.res)) rfl ⟨none,0,by rw[HR.out];rfl,by rw[HR.out];exact zs _,zI HG.out.below (Nat.le_succ _) _ _ _ _ _⟩
 case false=>
  have HW:=hid (show Nd.withE less Nm.right ⟨2,m,d,t,l⟩ nm i=if 64<=l.length then(Nd.none0,3)else(⟨2,m,d,t,Nd.ins less l nm i⟩,0) by unfold Nd.withE;rw[if_neg (by simp),if_neg (by rw[show Nm.right (Nd.bs nm)=true from e2];simp),if_neg (by rw[hf];simp)])
  by_cases h64:64<=n
  ·have h64i:(64:Int)<=(n:Int):=by omega
   have HR:=hid (HW.out.trans (if_pos (by rw[<-HNL.out];exact h64)))
   have hb0:=cell_obj HG.out.box 4
   have cb:wr.cell? ⟨w.heap.size,4,none⟩=some (.slice a n cap):=hb0
   clear hb0
   have hr:=HG.out.res
   have r0:wr.cell? ⟨w.heap.size+1,0,none⟩=some (.int .i64 0):=cell_obj hr 0
   have r1:wr.cell? ⟨w.heap.size+1,1,none⟩=some (.int .i64 0):=cell_obj hr 1
   have r2:wr.cell? ⟨w.heap.size+1,2,none⟩=some (.string ⟨#[]⟩):=cell_obj hr 2
   have r3:wr.cell? ⟨w.heap.size+1,3,none⟩=some (.string ⟨#[]⟩):=cell_obj hr 3
   have r4:wr.cell? ⟨w.heap.size+1,4,none⟩=some (.slice none 0 0):=cell_obj hr 4
   have q0:=free_obj hr 0
   have q1:=free_obj hr 1
   have q2:=free_obj hr 2
   have q3:=free_obj hr 3
   have q4:=free_obj hr 4
   clear hr
   go_wp2_with fail
   refine bodyPost_ret_by (zl rfl _ _ (w.heap.size+1) _ _ _ _ _ rfl (set5 _ _ _ _ _ HG.out.res)) rfl ⟨none,0,by rw[HR.out];rfl,by rw[HR.out];exact zs _,zI HG.out.below (Nat.le_succ _) _ _ _ _ _⟩
  ·have HR:=hid (HW.out.trans (if_neg (by rw[<-HNL.out];exact h64)))
   have h64i:(n:Int)<64:=by omega
   have hb0:=cell_obj HG.out.box 4
   have cb:wr.cell? ⟨w.heap.size,4,none⟩=some (.slice a n cap):=hb0
   clear hb0 HW
   go_wp2_with fail
   go_loopw [10,11,12] (λv g x wr=> ∃j:Nat,j<=n/\x= .int .i64 j/\g= .bool (dn (l.take j) nm)/\Gat w #[.int .i64 2,.int .i64 m,.string d,.string t,.slice a n cap] (rows (l.take j) nm i) v wr) (λ_ _ x _=>n-(intOf x).toNat)
   case atStart=>exact⟨0,Nat.zero_le _,rfl,rfl,HG.out⟩
   case round=>
    clear cb HG
    rename_i wr
    obtain⟨j,hj,rfl,rfl,hG⟩:=hrel
    obtain⟨ao,cp,rfl⟩:=owns_form hG.own
    have cb:wr.cell? ⟨w.heap.size,4,none⟩=some (.slice a n cap):=cell_obj hG.box 4
    by_cases hlt:j<n
    ·have j0:(j:Int)<(n:Int):=by omega
     have hj0:(0:Int)<=(j:Int):=by omega
     obtain⟨b,off,rfl,c0,c1⟩:=(HE.out _ hG.below).cell j hlt
     have HCe:=hid (show∀W,Below w.heap.size w W->W.cell? ⟨b,off+j*2,none⟩=some (.string (l.getD j z0).1)/\W.cell? ⟨b,off+j*2+1,none⟩=some (.int .i64 (l.getD j z0).2)from λW hb=>by
      obtain⟨b',off',e,h0,h1⟩:=(HE.out W hb).cell j hlt
      injection e with e
      injection e with e1 e2 _
      subst e1 e2
      exact⟨h0,h1⟩)
     have hjl:j<l.length:=by rw[<-HNL.out];exact hlt
     have hT:=yo hjl z0
     have HC:=hid (QZ (l.take j) (l.getD j z0) nm i)
     have HD:=hid (Qi (l.take j) (l.getD j z0) nm)
     rw[<-hT]at HC HD
     have hcl:=Vz (l.take j) nm i
     rw[List.length_take]at hcl
     have HL:=hid (show(rows (l.take j) nm i).length<=100001 by omega)
     clear hcl hjl hT
     have HG:=hid hG
     clear hG
     generalize l.getD j z0=x at c0 c1 HC HD HCe
     generalize hdn:dn (l.take j) nm=f at*
     generalize rows (l.take j) nm i=C at*
     clear hdn
     cases f
     ·cases hx:less x.1 nm
      ·have HC2:=hid (show rows (l.take (j+1)) nm i=(C++[(nm,i)])++[x] by rw[HC.out,if_neg (by simp),if_neg (by rw[hx];simp)])
       have HD2:=hid (show dn (l.take (j+1)) nm=true by rw[HD.out,hx];rfl)
       have hA:=(Below.refl wr.heap.size wr).alloc (Nat.le_refl _) (.cells #[.string nm,.int .i64 i] 132)
       have HO:=hid (owned_below HG.out.own hA)
       have HN:=hid (heap_alloc_new wr (.cells #[.string nm,.int .i64 i] 132))
       have HS:=hid (Nat.le_trans HG.out.big hA.size)
       clear hA
       go_wp2_with (first|(at_builtin;refine jh rfl _ _ rfl (w.heap.size+2) _ C (by rfl) HO.out wr.heap.size (nm,i) (by rfl) HN.out (Nat.le_trans HL.out (by decide)) HS.out ?_;intro ao4 cap4 w4 hown4 hgrow4;have HG4:=hid (xV HG.out HO.out hgrow4 (by simpa[Own] using hown4));have cb4:w4.cell? ⟨w.heap.size,4,none⟩=some (.slice (some ⟨b,off,none⟩) n cap):=cell_obj HG4.out.box 4;obtain⟨c04,c14⟩:=HCe.out w4 HG4.out.below;clear hown4 hgrow4)|(at_builtin;refine jh rfl _ _ rfl (w.heap.size+2) _ (C++[(nm,i)]) (by rfl) (owned_below HG4.out.own ((Below.refl w4.heap.size w4).alloc (Nat.le_refl _) (.cells #[.string x.1,.int .i64 x.2] 132))) w4.heap.size x (by rfl) (heap_alloc_new _ _) (by rw[List.length_append];exact Nat.le_trans (Nat.succ_le_succ HL.out) (by decide)) (Nat.le_trans HG4.out.big ((Below.refl w4.heap.size w4).alloc (Nat.le_refl _) (.cells #[.string x.1,.int .i64 x.2] 132)).size) ?_;intro ao5 cap5 w5 hown5 hgrow5;have HG5:=hid (xV HG4.out (owned_below HG4.out.own ((Below.refl w4.heap.size w4).alloc (Nat.le_refl _) (.cells #[.string x.1,.int .i64 x.2] 132))) hgrow5 (by simpa[Own] using hown5));clear hown5 hgrow5)|fail)
       exact⟨⟨j+1,by omega,by go_num,by rw[HD2.out],by rw[HC2.out];exact HG5.out⟩,by simp[intOf];omega⟩
      ·have HC2:=hid (show rows (l.take (j+1)) nm i=C++[x] by rw[HC.out,if_neg (by simp),if_pos hx])
       have HD2:=hid (show dn (l.take (j+1)) nm=false by rw[HD.out,hx];rfl)
       have hA:=(Below.refl wr.heap.size wr).alloc (Nat.le_refl _) (.cells #[.string x.1,.int .i64 x.2] 132)
       have HO:=hid (owned_below HG.out.own hA)
       have HN:=hid (heap_alloc_new wr (.cells #[.string x.1,.int .i64 x.2] 132))
       have HS:=hid (Nat.le_trans HG.out.big hA.size)
       clear hA
       go_wp2_with (first|(at_builtin;refine jh rfl _ _ rfl (w.heap.size+2) _ C (by rfl) HO.out wr.heap.size x (by rfl) HN.out (Nat.le_trans HL.out (by decide)) HS.out ?_;intro ao4 cap4 w4 hown4 hgrow4;have HG4:=hid (xV HG.out HO.out hgrow4 (by simpa[Own] using hown4));clear hown4 hgrow4)|fail)
       exact⟨⟨j+1,by omega,by go_num,by rw[HD2.out],by rw[HC2.out];exact HG4.out⟩,by simp[intOf];omega⟩
     ·have HC2:=hid (show rows (l.take (j+1)) nm i=C++[x] by rw[HC.out,if_pos rfl])
      have HD2:=hid (show dn (l.take (j+1)) nm=true by rw[HD.out];rfl)
      have hA:=(Below.refl wr.heap.size wr).alloc (Nat.le_refl _) (.cells #[.string x.1,.int .i64 x.2] 132)
      have HO:=hid (owned_below HG.out.own hA)
      have HN:=hid (heap_alloc_new wr (.cells #[.string x.1,.int .i64 x.2] 132))
      have HS:=hid (Nat.le_trans HG.out.big hA.size)
      clear hA
      go_wp2_with (first|(at_builtin;refine jh rfl _ _ rfl (w.heap.size+2) _ C (by rfl) HO.out wr.heap.size x (by rfl) HN.out (Nat.le_trans HL.out (by decide)) HS.out ?_;intro ao4 cap4 w4 hown4 hgrow4;have HG4:=hid (xV HG.out HO.out hgrow4 (by simpa[Own] using hown4));clear hown4 hgrow4)|fail)
      exact⟨⟨j+1,by omega,by go_num,by rw[HD2.out],by rw[HC2.out];exact HG4.out⟩,by simp[intOf];omega⟩
    ·obtain rfl:j=n:=by omega
     rw[show l.take j=l by rw[HNL.out,List.take_length]]at hG|-
     have HE2:=hid (zb2 (l:=l) (k:=nm) (i:=i))
     have hcl:=Vz l nm i
     have HL:=hid (show(rows l nm i).length<=100001 by have:=HNL.out;omega)
     have HG:=hid hG
     clear hG hcl
     generalize hdn:dn l nm=f at*
     generalize rows l nm i=C at*
     clear hdn
     cases f
     ·rw[if_neg (by simp)]at HE2
      rw[HE2.out]at HR
      have hA:=(Below.refl wr.heap.size wr).alloc (Nat.le_refl _) (.cells #[.string nm,.int .i64 i] 132)
      have HO:=hid (owned_below HG.out.own hA)
      have HN:=hid (heap_alloc_new wr (.cells #[.string nm,.int .i64 i] 132))
      have HS:=hid (Nat.le_trans HG.out.big hA.size)
      clear hA
      go_wp2_with (first|(at_builtin;refine jh rfl _ _ rfl (w.heap.size+2) _ C (by rfl) HO.out wr.heap.size (nm,i) (by rfl) HN.out (Nat.le_trans HL.out (by decide)) HS.out ?_;intro ao4 cap4 w4 hown4 hgrow4;have HG4:=hid (xV HG.out HO.out hgrow4 (by simpa[Own] using hown4));have cb4:w4.cell? ⟨w.heap.size,4,none⟩=some (.slice a _ cap):=cell_obj HG4.out.box 4;have hr:=HG4.out.res;have r0:w4.cell? ⟨w.heap.size+1,0,none⟩=some (.int .i64 0):=cell_obj hr 0;have r1:w4.cell? ⟨w.heap.size+1,1,none⟩=some (.int .i64 0):=cell_obj hr 1;have r2:w4.cell? ⟨w.heap.size+1,2,none⟩=some (.string ⟨#[]⟩):=cell_obj hr 2;have r3:w4.cell? ⟨w.heap.size+1,3,none⟩=some (.string ⟨#[]⟩):=cell_obj hr 3;have r4:w4.cell? ⟨w.heap.size+1,4,none⟩=some (.slice none 0 0):=cell_obj hr 4;have q0:=free_obj hr 0;have q1:=free_obj hr 1;have q2:=free_obj hr 2;have q3:=free_obj hr 3;have q4:=free_obj hr 4;clear hr;have hx:=HG4.out.box;have x0:w4.cell? ⟨w.heap.size,0,none⟩=some (.int .i64 2):=cell_obj hx 0;have x1:w4.cell? ⟨w.heap.size,1,none⟩=some (.int .i64 m):=cell_obj hx 1;have x2:w4.cell? ⟨w.heap.size,2,none⟩=some (.string d):=cell_obj hx 2;have x3:w4.cell? ⟨w.heap.size,3,none⟩=some (.string t):=cell_obj hx 3;have x4:=free_obj hx 4;clear hx;clear hown4 hgrow4)|fail)
      have hlen:(C++[(nm,i)]).length=C.length+1:=by simp
      have hown:Own (w.heap.size+2) (.slice ao4 (C++[(nm,i)]).length cap4) (C++[(nm,i)]) w4:=by rw[hlen];exact HG4.out.own
      have hr':(w4.setCell ⟨w.heap.size,4,none⟩ (.slice ao4 (C.length+1) cap4)).heap[w.heap.size+1]?=some (.cells zc 43 (0,0)):=
       (heap_setCell_other w4 ⟨w.heap.size,4,none⟩ (w.heap.size+1) _ (by show w.heap.size+1≠w.heap.size;omega)).trans HG4.out.res
      refine bodyPost_ret_by (zl rfl _ _ (w.heap.size+1) _ _ _ _ _ rfl (set5 _ _ _ _ _ hr')) rfl ?_
      unfold vp
      rw[HR.out]
      refine⟨ao4,cap4, ?_,xy (yj (yp hown (by omega) 4 _) (by omega) _ _ _ _ _),zI (HG4.out.below.setCell (Nat.le_refl _) _) (Nat.le_succ _) _ _ _ _ _⟩
      show Ending.returned (.tuple #[nv 2 m d t ao4 (C.length+1) cap4,.int .i64 0])=Ending.returned (.tuple #[nv 2 m d t ao4 (C++[(nm,i)]).length cap4,.int .i64 0])
      rw[hlen]
     ·rw[if_pos rfl]at HE2
      rw[HE2.out]at HR
      have hr:=HG.out.res
      have r0:wr.cell? ⟨w.heap.size+1,0,none⟩=some (.int .i64 0):=cell_obj hr 0
      have r1:wr.cell? ⟨w.heap.size+1,1,none⟩=some (.int .i64 0):=cell_obj hr 1
      have r2:wr.cell? ⟨w.heap.size+1,2,none⟩=some (.string ⟨#[]⟩):=cell_obj hr 2
      have r3:wr.cell? ⟨w.heap.size+1,3,none⟩=some (.string ⟨#[]⟩):=cell_obj hr 3
      have r4:wr.cell? ⟨w.heap.size+1,4,none⟩=some (.slice none 0 0):=cell_obj hr 4
      have q0:=free_obj hr 0
      have q1:=free_obj hr 1
      have q2:=free_obj hr 2
      have q3:=free_obj hr 3
      have q4:=free_obj hr 4
      clear hr
      have hx:=HG.out.box
      have x0:wr.cell? ⟨w.heap.size,0,none⟩=some (.int .i64 2):=cell_obj hx 0
      have x1:wr.cell? ⟨w.heap.size,1,none⟩=some (.int .i64 m):=cell_obj hx 1
      have x2:wr.cell? ⟨w.heap.size,2,none⟩=some (.string d):=cell_obj hx 2
      have x3:wr.cell? ⟨w.heap.size,3,none⟩=some (.string t):=cell_obj hx 3
      have x4:=free_obj hx 4
      clear hx
      go_wp2_with fail
      have hown:Own (w.heap.size+2) (.slice ao C.length cp) C wr:=HG.out.own
      have hr':(wr.setCell ⟨w.heap.size,4,none⟩ (.slice ao C.length cp)).heap[w.heap.size+1]?=some (.cells zc 43 (0,0)):=
       (heap_setCell_other wr ⟨w.heap.size,4,none⟩ (w.heap.size+1) _ (by show w.heap.size+1≠w.heap.size;omega)).trans HG.out.res
      refine bodyPost_ret_by (zl rfl _ _ (w.heap.size+1) _ _ _ _ _ rfl (set5 _ _ _ _ _ hr')) rfl ?_
      unfold vp
      rw[HR.out]
      refine⟨ao,cp, ?_,xy (yj (yp hown (by omega) 4 _) (by omega) _ _ _ _ _),zI (HG.out.below.setCell (Nat.le_refl _) _) (Nat.le_succ _) _ _ _ _ _⟩
      show Ending.returned (.tuple #[nv 2 m d t ao (C.length) cp,.int .i64 0])=Ending.returned (.tuple #[nv 2 m d t ao C.length cp,.int .i64 0])
      rfl
end Go.Proofs.YtabmamofnhcgbaaGreatDoor
namespace Go.Proofs.YtabmamofnhcgbaaGreatDoor
open Go.RowKit Go.Less
attribute [local go_sem 9000] zg zf
structure MI where
 it:Fs.Item
 ea:Option Addr
 ec:Nat
abbrev MI.x(m:MI):Nd.Node:=m.it.2
def its(L:List MI):List Fs.Item:=L.map (·.it)
def yG(m:MI):List Value:=[.int .i64 m.it.1,.int .i64 m.x.kind,.int .i64 m.x.mode,.string m.x.data,.string m.x.target,.slice m.ea m.x.ents.length m.ec]
def u9(L:List MI):List Value:=L.flatMap yG
theorem Ui(L:List MI):(u9 L).length=L.length*6:=by
 induction L with
 |nil=>rfl
 |cons x L ih=>simp[u9,yG]at ih|-;omega
theorem qP(a b:List MI):u9 (a++b)=u9 a++u9 b:=by simp[u9]
theorem Uj: ∀(L:List MI) (i j:Nat) (x:MI),L[i]?=some x->j<6->(u9 L)[i*6+j]?=(yG x)[j]?
 |[],i,j,x,h,_=>by simp at h
 |y::L,0,j,x,h,hj=>by
  simp at h;subst h
  have e:u9 (y::L)=yG y++u9 L:=rfl
  have hl:(yG y).length=6:=rfl
  rw[e,List.getElem?_append_left (by rw[hl];omega)]
  simp
 |y::L,i+1,j,x,h,hj=>by
  simp at h
  have e:u9 (y::L)=yG y++u9 L:=rfl
  have hl:(yG y).length=6:=rfl
  rw[e,List.getElem?_append_right (by rw[hl];omega),hl,show(i+1)*6+j-6=i*6+j by omega]
  exact Uj L i j x h hj
structure Items (a:Option Addr) (n:Nat) (L:List MI) (w:World):Prop where
 count:n=L.length
 cell: ∀i x,L[i]?=some x-> ∃b off,a=some ⟨b,off,none⟩/\ ∀j v,(yG x)[j]?=some v->w.cell? ⟨b,off+i*6+j,none⟩=some v
 ents: ∀x∈L,Ents x.ea x.x.ents.length x.x.ents w
theorem Items.below{a:Option Addr}{n:Nat}{L:List MI}{w w':World}(h:Items a n L w)(hb:Below w.heap.size w w'):Items a n L w':=
 ⟨h.count,λi x hx=>by
  obtain⟨b,off,rfl,hc⟩:=h.cell i x hx
  exact⟨b,off,rfl,λj v hj=>(hb.cell (p:=⟨b,off+i*6+j,none⟩) (block_lt_of_cell (hc j v hj))).trans (hc j v hj)⟩,λx hx=>(h.ents x hx).below hb⟩
abbrev fv(a:Option Addr)(n c:Nat)(nx:Int):Value:= .agg #[.slice a n c,.int .i64 nx]
structure Six (b off:Nat) (i:Nat) (x:MI) (W:World):Prop where
 c0:W.cell? ⟨b,off+i*6,none⟩=some (.int .i64 x.it.1)
 c1:W.cell? ⟨b,off+i*6+1,none⟩=some (.int .i64 x.x.kind)
 c2:W.cell? ⟨b,off+i*6+2,none⟩=some (.int .i64 x.x.mode)
 c3:W.cell? ⟨b,off+i*6+3,none⟩=some (.string x.x.data)
 c4:W.cell? ⟨b,off+i*6+4,none⟩=some (.string x.x.target)
 c5:W.cell? ⟨b,off+i*6+5,none⟩=some (.slice x.ea x.x.ents.length x.ec)
theorem Items.six{a:Option Addr}{n:Nat}{L:List MI}{w:World}(h:Items a n L w){i:Nat}(hi:i<n): ∃b off x,a=some ⟨b,off,none⟩/\L[i]?=some x/\Six b off i x w:=by
 have hl:i<L.length:=by rw[<-h.count];exact hi
 obtain⟨b,off,e,hc⟩:=h.cell i L[i] (List.getElem?_eq_getElem hl)
 exact⟨b,off,L[i],e,List.getElem?_eq_getElem hl,hc 0 _ rfl,hc 1 _ rfl,hc 2 _ rfl,hc 3 _ rfl,hc 4 _ rfl,hc 5 _ rfl⟩
theorem zw{α:Type}{l:List α}{i:Nat}{x:α}(h:l[i]?=some x):l.take (i+1)=l.take i++[x]:=by
 obtain⟨hi,e⟩:=List.getElem?_eq_some_iff.1 h
 rw[List.take_succ_eq_append_getElem hi,e]
theorem Y6{L:List MI}{i:Nat}{x:MI}{k:Int}(h:L[i]?=some x)(hn:Fs.node (its (L.take i)) k=none):Fs.node (its (L.take (i+1))) k=if x.it.1=k then some x.x else none:=by
 unfold its at hn|-
 rw[zw h,List.map_append,Fs.node_append,hn]
 simp[Fs.node]
theorem Yu{L:List MI}{i:Nat}{x:MI}{k:Int}(h:L[i]?=some x)(hn:Fs.node (its (L.take i)) k=none)(hx:x.it.1=k):Fs.node (its L) k=some x.x:=by
 have e:=Y6 h hn
 rw[if_pos hx]at e
 have:its L=its (L.take (i+1))++its (L.drop (i+1)):=by unfold its;rw[<-List.map_append,List.take_append_drop]
 rw[this,Fs.node_append,e];rfl
def xF(l:List Fs.Item)(k:Int)(w:World)(e:Ending)(w':World):Prop:=
 ∃ea ec,e= .returned (.tuple #[nv (Fs.nodeD l k).kind (Fs.nodeD l k).mode (Fs.nodeD l k).data (Fs.nodeD l k).target ea (Fs.nodeD l k).ents.length ec,.bool (Fs.node l k).isSome])/\Ents ea (Fs.nodeD l k).ents.length (Fs.nodeD l k).ents w'/\Below w.heap.size w w'
end Go.Proofs.YtabmamofnhcgbaaGreatDoor
namespace Nd
def good(lt:ByteArray->ByteArray->Bool)(nm:List UInt8->Bool)(l:List En):Bool:=l.all (entOk nm)&&rises lt l
def after(lt:ByteArray->ByteArray->Bool)(l:List En)(x:En):Bool:=match l.getLast? with
 |none=>true
 |some y=>lt y.1 x.1
def kindOk(x:Node):Bool:=
 if x.kind=1 then decide (x.target=ByteArray.empty)&&decide (x.ents.length=0)&&decide (x.data.size<=4096)
 else if x.kind=2 then decide (x.target=ByteArray.empty)&&decide (x.data=ByteArray.empty)
 else decide (x.kind=3)&&decide (x.data=ByteArray.empty)&&decide (x.ents.length=0)&&decide (1<=x.target.size)&&decide (x.target.size<=64)
section
variable {lt : ByteArray -> ByteArray -> Bool} {nm : List UInt8 -> Bool}
theorem Jv(l:List En)(x:En):rises lt (l++[x])=(rises lt l&&after lt l x):=by
 induction l with
 |nil=>rfl
 | cons y l ih=>
  cases l with
  |nil=>simp[rises,after]
  |cons z l=>
   rw[List.cons_append,List.cons_append,rises,<-List.cons_append,ih,rises,Bool.and_assoc]
   congr 2
theorem good_snoc(l:List En)(x:En):good lt nm (l++[x])=(good lt nm l&&(entOk nm x&&after lt l x)):=by
 unfold good
 rw[List.all_append,Jv]
 simp only[List.all_cons,List.all_nil,Bool.and_true]
 cases l.all (entOk nm)<;>cases rises lt l<;>cases entOk nm x<;>cases after lt l x<;>rfl
theorem Kg(a b:List En)(h:good lt nm a=false):good lt nm (a++b)=false:=by
 induction b using snoc_rec with
 |nil=>rw[List.append_nil];exact h
 |append_singleton b x ih=>rw[<-List.append_assoc,good_snoc,ih];rfl
theorem good_take{l:List En}{j:Nat}(h:good lt nm (l.take j)=false):good lt nm l=false:=by
 rw[<-List.take_append_drop j l];exact Kg _ _ h
theorem right_is(x:Node):right lt nm x=(decide (0<=x.mode)&&decide (x.mode<=511)&&decide (x.ents.length<=64)&&good lt nm x.ents&&kindOk x):=by
 unfold right good kindOk
 simp only[Bool.and_assoc]
theorem after_last{l:List En}{x z:En}{j:Nat}(hj:l.length=j+1):after lt l x=lt (l.getD j z).1 x.1:=by
 unfold after
 rw[List.getLast?_eq_getElem?,hj,Nat.add_sub_cancel,List.getElem?_eq_getElem (by omega),List.getD,List.getElem?_eq_getElem (by omega)]
 rfl
def zb9(lt:ByteArray->ByteArray->Bool)(nm:List UInt8->Bool)(x:Node):Bool:=
 decide (0<=x.mode)&&decide (x.mode<=511)&&
 (if x.kind=1 then decide (x.data.size<=4096)&&decide (x.target=ByteArray.empty)&&decide (x.ents.length=0)
  else if x.kind=2 then decide (x.data=ByteArray.empty)&&decide (x.target=ByteArray.empty)&&(decide (x.ents.length<=64)&&good lt nm x.ents)
  else decide (x.kind=3)&&decide (x.data=ByteArray.empty)&& !decide (x.target=ByteArray.empty)&&decide (x.target.size<=64)&&decide (x.ents.length=0))
theorem zbO(t:ByteArray):decide (1<=t.size)= !decide (t=ByteArray.empty):=by
 by_cases h:t=ByteArray.empty
 ·subst h;rfl
 ·rw[decide_eq_false h,decide_eq_true];rfl
  rcases Nat.eq_zero_or_pos t.size with h0|h0
  ·exact absurd (ByteArray.ext (Array.eq_empty_of_size_eq_zero h0)) h
  ·exact h0
theorem right_P(x:Node):right lt nm x=zb9 lt nm x:=by
 rw[right_is]
 unfold zb9 kindOk
 rw[zbO]
 by_cases h0:x.ents.length=0
 ·have e:x.ents=[]:=List.length_eq_zero_iff.1 h0
  rw[e]
  rw[show good lt nm []=true from rfl]
  simp only[List.length_nil,decide_true,Nat.zero_le,Bool.and_true]
  cases decide (0<=x.mode)<;>cases decide (x.mode<=511)<;>split<;>try split
  all_goals cases decide (x.target=ByteArray.empty)<;>cases decide (x.data.size<=4096)<;>cases decide (x.data=ByteArray.empty)<;>cases decide (x.kind=3)<;>cases decide (x.target.size<=64)<;>rfl
 ·rw[decide_eq_false h0]
  cases decide (0<=x.mode)<;>cases decide (x.mode<=511)<;>split<;>try split
  all_goals cases decide (x.target=ByteArray.empty)<;>cases decide (x.data.size<=4096)<;>cases decide (x.data=ByteArray.empty)<;>cases decide (x.kind=3)<;>cases decide (x.target.size<=64)<;>cases decide (x.ents.length<=64)<;>cases good lt nm x.ents<;>rfl
end
end Nd
namespace Go.Proofs.YtabmamofnhcgbaaGreatDoor
open Go.RowKit Go.Less
attribute [local go_sem 9000] zg zf zz zA zB zC
def ndr(k m:Int)(d t:ByteArray)(l:List En):Bool:=Nd.right less Nm.right ⟨k,m,d,t,l⟩
def ndk(k:Int)(d t:ByteArray)(l:List En):Bool:=Nd.kindOk ⟨k,0,d,t,l⟩
def ndg(l:List En):Bool:=Nd.good less Nm.right l
theorem ndr_is(k m:Int)(d t:ByteArray)(l:List En):ndr k m d t l=(decide (0<=m)&&decide (m<=511)&&decide (l.length<=64)&&ndg l&&ndk k d t l):=Nd.right_is _
def isE(t:ByteArray):Bool:=alike t ⟨#[]⟩
theorem zeI(d t:ByteArray)(l:List En):ndk 1 d t l=(isE t&&decide (l.length=0)&&decide (d.size<=4096)):=rfl
theorem zeH(d t:ByteArray)(l:List En):ndk 2 d t l=(isE t&&isE d):=rfl
theorem zak(d t:ByteArray)(l:List En):ndk 3 d t l=(isE d&&decide (l.length=0)&&decide (1<=t.size)&&decide (t.size<=64)):=by
 show(decide ((3:Int)=3)&&isE d&&decide (l.length=0)&&decide (1<=t.size)&&decide (t.size<=64))=_
 rw[decide_eq_true rfl,Bool.true_and]
theorem zcI{k:Int}(d t:ByteArray)(l:List En)(h1:k≠1)(h2:k≠2)(h3:k≠3):ndk k d t l=false:=by
 unfold ndk Nd.kindOk
 dsimp only
 rw[if_neg h1,if_neg h2,decide_eq_false h3];rfl
theorem zfp(x:En):Nd.entOk Nm.right x=(Nm.right x.1.data.toList&&decide (1<=x.2)&&decide (x.2<=2147483647)):=rfl
theorem V6{l:List En}{j:Nat}(hj:j<l.length)(hg:ndg (l.take j)=true){x:En}(hx:x=l.getD j z0)(ho:Nd.entOk Nm.right x=true)(ha:Nd.after less (l.take j) x=true):ndg (l.take (j+1))=true:=by
 subst hx
 rw[yo hj z0];unfold ndg at*;rw[Nd.good_snoc,hg,ho,ha];rfl
theorem K5{l:List En}{j:Nat}(hj:j<l.length){x:En}(hx:x=l.getD j z0)(ho:Nd.entOk Nm.right x=false):ndg l=false:=by
 subst hx
 refine Nd.good_take (j:=j+1) ?_
 rw[yo hj z0,Nd.good_snoc,ho];simp
theorem K4{l:List En}{j:Nat}(hj:j<l.length){x:En}(hx:x=l.getD j z0)(ha:Nd.after less (l.take j) x=false):ndg l=false:=by
 subst hx
 refine Nd.good_take (j:=j+1) ?_
 rw[yo hj z0,Nd.good_snoc,ha];simp
theorem Yi(l:List En)(x:En):Nd.after less (l.take 0) x=true:=rfl
theorem Yj{l:List En}{j:Nat}(hj:j<l.length)(h0:1<=j)(x:En):Nd.after less (l.take j) x=less (l.getD (j-1) z0).1 x.1:=by
 obtain⟨i,rfl⟩: ∃i,j=i+1:=⟨j-1,by omega⟩
 rw[Nd.after_last (z:=z0) (j:=i) (by rw[List.length_take];omega)]
 simp[List.getD]
theorem vP(k m:Int)(d t:ByteArray)(a:Option Addr)(n cap:Nat)(l:List En)(w:World)(hE:Ents a n l w)(hn:n<=1000000)(hs: ∀j,j<n->(l.getD j z0).1.size<=100000):
  Calls prog 48 #[nv k m d t a n cap] w (xE (ndr k m d t l) w):=by
 have HNL:=hid hE.count
 have hni:(n:Int)<=1000000:=by omega
 have HE:=hid (λW (hb:Below w.heap.size w W)=>hE.below hb)
 have HS:=hid hs
 have HB0:=hid (show∀x:Obj,Below w.heap.size w (w.alloc x)from λx=>(Below.refl _ w).alloc (Nat.le_refl _) _)
 have HF:=hid (show∀b W,ndr k m d t l=b->Below w.heap.size w W->xE (ndr k m d t l) w (.returned (.bool b)) W from λb W h hb=>by rw[h];exact⟨rfl,hb⟩)
 have HP:=hid (ndr_is k m d t l)
 clear hE hs
 by_cases e1:m<0
 ·have HR:=hid (show ndr k m d t l=false by rw[HP.out,decide_eq_false (by omega)];rfl)
  clear HP
  go_enter func48,ntmps48
  go_wp2_with fail
  go_ret
  exact HF.out _ _ HR.out (HB0.out _)
 by_cases e2:511<m
 ·have HR:=hid (show ndr k m d t l=false by rw[HP.out,decide_eq_false (p:=m<=511) (by omega)];simp)
  clear HP
  go_enter func48,ntmps48
  go_wp2_with fail
  go_ret
  exact HF.out _ _ HR.out (HB0.out _)
 by_cases e3:64<n
 ·have HR:=hid (show ndr k m d t l=false by rw[HP.out,decide_eq_false (p:=l.length<=64) (by have:=HNL.out;omega)];simp)
  have e3i:(64:Int)<(n:Int):=by omega
  clear HP e3
  go_enter func48,ntmps48
  go_wp2_with fail
  go_ret
  exact HF.out _ _ HR.out (HB0.out _)
 have HP2:=hid (show ndr k m d t l=(ndg l&&ndk k d t l) by rw[HP.out,decide_eq_true (by omega),decide_eq_true (by omega),decide_eq_true (by have:=HNL.out;omega)];rfl)
 have e3i:(n:Int)<=64:=by omega
 clear HP e3
 go_enter func48,ntmps48
 go_wp2_with fail
 go_loopw [3] (λi wr=>(∃j:Nat,j<=n/\i= .int .i64 j/\ndg (l.take j)=true)/\wr.heap[w.heap.size]?=some (.cells #[.int .i64 k,.int .i64 m,.string d,.string t,.slice a n cap] 43 (0,0))/\Below w.heap.size w wr) (λi _=>n-(intOf i).toNat)
 case atStart=>exact⟨⟨0,Nat.zero_le _,rfl,rfl⟩,heap_alloc_new w _,HB0.out _⟩
 case round=>
  obtain⟨⟨j,hj,rfl,hg⟩,hbx,hb⟩:=hrel
  have HX:=hid hbx
  have b4:wr.cell? ⟨w.heap.size,4,none⟩=some (.slice a n cap):=cell_obj hbx 4
  have HB:=hid hb
  clear hbx
  by_cases hlt:j<n
  ·have j0:(j:Int)<(n:Int):=by omega
   have hj0:(0:Int)<=(j:Int):=by omega
   have hjl:j<l.length:=by rw[<-HNL.out];exact hlt
   obtain⟨b,off,rfl,c0,c1⟩:=(HE.out _ hb).cell j hlt
   have hsz:=HS.out j hlt
   obtain⟨x,hxe⟩: ∃x,x=l.getD j z0:=⟨_,rfl⟩
   rw[<-hxe]at c0 c1 hsz
   have HM:=hid (λho ha=>V6 hjl hg hxe ho ha)
   have HBad:=hid (λho=>K5 hjl hxe ho)
   have HLow:=hid (λha=>K4 hjl hxe ha)
   have HAft:=hid (λh0=>Yj hjl h0 x)
   have HRx:=hid (λW=>xu x.1 W (by omega))
   unfold yR at HRx
   have HO:=hid (zfp x)
   clear hxe hg hsz
   have HBA:=hid (show∀y:Obj,Below w.heap.size w (wr.alloc y)from λy=>hb.alloc hb.size _)
   have hbl:w.heap.size<wr.heap.size:=lt_of_obj HX.out
   cases hr:Nm.right x.1.data.toList
   ·rw[hr]at HRx HO
    have HR:=hid (show ndr k m d t l=false by rw[HP2.out,HBad.out (by rw[HO.out];rfl)];rfl)
    clear HM HBad HLow HAft HO HP2 hr
    go_wp2_with fail
    go_quiet (first|(go_at_call 35;refine(HRx.out _).mono ?_;rintro e w2 ⟨rfl,rfl⟩;exact⟨rfl,_,rfl⟩))
    go_wp2_with fail
    go_ret
    exact HF.out _ _ HR.out (bdn (HBA.out _) _)
   rw[hr]at HRx HO
   clear hr
   by_cases i1:x.2<1
   ·have HR:=hid (show ndr k m d t l=false by rw[HP2.out,HBad.out (by rw[HO.out,decide_eq_false (p:=1<=x.2) (by omega)];rfl)];rfl)
    clear HM HBad HLow HAft HO HP2
    go_wp2_with fail
    go_quiet (first|(go_at_call 35;refine(HRx.out _).mono ?_;rintro e w2 ⟨rfl,rfl⟩;exact⟨rfl,_,rfl⟩))
    go_wp2_with fail
    go_ret
    exact HF.out _ _ HR.out (bdn (HBA.out _) _)
   have d1:decide (x.2<1)=false:=decide_eq_false i1
   by_cases i2:2147483647<x.2
   ·have HR:=hid (show ndr k m d t l=false by rw[HP2.out,HBad.out (by rw[HO.out,decide_eq_false (p:=x.2<=2147483647) (by omega)];simp)];rfl)
    clear HM HBad HLow HAft HO HP2
    go_wp2_with fail
    go_quiet (first|(go_at_call 35;refine(HRx.out _).mono ?_;rintro e w2 ⟨rfl,rfl⟩;exact⟨rfl,_,rfl⟩))
    go_wp2_with fail
    go_ret
    exact HF.out _ _ HR.out (bdn (HBA.out _) _)
   have HK:=hid (show Nd.entOk Nm.right x=true by rw[HO.out,decide_eq_true (p:=1<=x.2) (by omega),decide_eq_true (p:=x.2<=2147483647) (by omega)];rfl)
   have d2:decide (2147483647<x.2)=false:=decide_eq_false i2
   clear HO HBad
   by_cases hj1:j=0
   ·have hjb:decide (0<j)=false:=decide_eq_false (by omega)
    have HG:=hid (HM.out HK.out (by rw[hj1];exact Yi l x))
    clear HM HLow HAft HK hj1
    go_wp2_with fail
    go_quiet (first|(go_at_call 35;refine(HRx.out _).mono ?_;rintro e w2 ⟨rfl,rfl⟩;exact⟨rfl,_,rfl⟩))
    go_wp2_with fail
    exact⟨⟨⟨j+1,by omega,by go_num,HG.out⟩,((bdn ((Below.refl _ wr).alloc (Nat.le_refl _) _) _).block _ hbl).trans HX.out,bdn (HBA.out _) _⟩,by simp[intOf];omega⟩
   obtain⟨i,rfl⟩: ∃i,j=i+1:=⟨j-1,by omega⟩
   obtain⟨b',off',eb,p0,p1⟩:=(HE.out _ hb).cell i (by omega)
   obtain⟨rfl,rfl⟩:b'=b/\off'=off:=by cases eb;exact⟨rfl,rfl⟩
   have HA2:=hid (HAft.out (by omega))
   rw[show i+1-1=i from rfl]at HA2
   obtain⟨y,hye⟩: ∃y,y=l.getD i z0:=⟨_,rfl⟩
   rw[<-hye]at p0 p1 HA2
   clear hye HAft eb hj1
   have q0:(wr.alloc (.cells #[.string x.1,.int .i64 x.2] 132)).cell? ⟨b',off'+i*2,none⟩=some (.string y.1):=(((Below.refl _ wr).alloc (Nat.le_refl _) _).cell (p:=⟨b',off'+i*2,none⟩) (block_lt_of_cell p0)).trans p0
   have hi0:(0:Int)<=(i:Int):=by omega
   have hin:(i:Int)<(n:Int):=by omega
   have hwr:IntKind.i64.wrap (i:Int)=(i:Int):=IntWalk.i64_in _ (by omega)
   cases hly:less y.1 x.1
   ·rw[hly]at HA2
    have HR:=hid (show ndr k m d t l=false by rw[HP2.out,HLow.out HA2.out];rfl)
    clear HM HLow HP2 HK HA2
    go_wp2_with fail
    go_quiet (first|(go_at_call 35;refine(HRx.out _).mono ?_;rintro e w2 ⟨rfl,rfl⟩;exact⟨rfl,_,rfl⟩))
    go_wp2_with fail
    go_ret
    exact HF.out _ _ HR.out (bdn (HBA.out _) _)
   ·rw[hly]at HA2
    have HG:=hid (HM.out HK.out HA2.out)
    clear HM HLow HK HA2
    go_wp2_with fail
    go_quiet (first|(go_at_call 35;refine(HRx.out _).mono ?_;rintro e w2 ⟨rfl,rfl⟩;exact⟨rfl,_,rfl⟩))
    go_wp2_with fail
    exact⟨⟨⟨i+1+1,by omega,by go_num,HG.out⟩,((bdn ((Below.refl _ wr).alloc (Nat.le_refl _) _) _).block _ hbl).trans HX.out,bdn (HBA.out _) _⟩,by simp[intOf];omega⟩
  ·obtain rfl:j=n:=by omega
   have HG:=hid (show ndr k m d t l=ndk k d t l by rw[HP2.out];rw[HNL.out,List.take_length]at hg;rw[hg];rfl)
   have b0:wr.cell? ⟨w.heap.size,0,none⟩=some (.int .i64 k):=cell_obj HX.out 0
   have b2:wr.cell? ⟨w.heap.size,2,none⟩=some (.string d):=cell_obj HX.out 2
   have b3:wr.cell? ⟨w.heap.size,3,none⟩=some (.string t):=cell_obj HX.out 3
   have HZ:=hid (show decide (l.length=0)=decide (j=0) by rw[<-HNL.out])
   have HT:=hid (show alike t ⟨#[]⟩=isE t from rfl)
   have HD:=hid (show alike d ⟨#[]⟩=isE d from rfl)
   have fin: ∀b,ndk k d t l=b->xE (ndr k m d t l) w (.returned (.bool b)) wr:=λb h=>HF.out b wr (HG.out.trans h) HB.out
   have HFin:=hid fin
   clear hg fin hb HG HP2
   by_cases k1:k=1
   ·subst k1
    rw[zeI]at HFin
    cases tE:alike t ⟨#[]⟩
    ·have HR:=hid (HFin.out false (by rw[<-HT.out,tE];rfl))
     go_wp2_with fail
     go_ret
     exact HR.out
    ·by_cases z:j=0
     ·subst z
      have HR:=hid (HFin.out (decide ((d.size:Int)<=4096)) (by rw[<-HT.out,tE,HZ.out];simp;omega))
      go_wp2_with fail
      go_ret
      exact HR.out
     ·have HR:=hid (HFin.out false (by rw[HZ.out,decide_eq_false z];simp))
      go_wp2_with fail
      go_ret
      exact HR.out
   by_cases k2:k=2
   ·subst k2
    rw[zeH]at HFin
    cases tE:alike t ⟨#[]⟩
    ·have HR:=hid (HFin.out false (by rw[<-HT.out,tE];rfl))
     go_wp2_with fail
     go_ret
     exact HR.out
    ·cases dE:alike d ⟨#[]⟩
     ·have HR:=hid (HFin.out false (by rw[<-HD.out,dE];simp))
      go_wp2_with fail
      go_ret
      exact HR.out
     ·have HR:=hid (HFin.out true (by rw[<-HD.out,dE,<-HT.out,tE];rfl))
      go_wp2_with fail
      go_ret
      exact HR.out
   by_cases k3:k=3
   ·subst k3
    rw[zak]at HFin
    cases dE:alike d ⟨#[]⟩
    ·have HR:=hid (HFin.out false (by rw[<-HD.out,dE];rfl))
     go_wp2_with fail
     go_ret
     exact HR.out
    by_cases z:j=0
    ·subst z
     rcases Nat.lt_or_ge t.size 1 with h1|h1
     ·have h1i:(t.size:Int)<1:=by omega
      have HR:=hid (HFin.out false (by rw[decide_eq_false (p:=1<=t.size) (by omega)];simp))
      clear h1
      go_wp2_with fail
      go_ret
      exact HR.out
     have h1i:(1:Int)<=(t.size:Int):=by omega
     have HR:=hid (HFin.out (decide ((t.size:Int)<=64)) (by rw[<-HD.out,dE,HZ.out,decide_eq_true h1];simp;omega))
     clear h1
     go_wp2_with fail
     go_ret
     exact HR.out
    ·have HR:=hid (HFin.out false (by rw[HZ.out,decide_eq_false z];simp))
     go_wp2_with fail
     go_ret
     exact HR.out
   have HR:=hid (HFin.out false (zcI d t l k1 k2 k3))
   go_wp2_with fail
   go_ret
   exact HR.out
end Go.Proofs.YtabmamofnhcgbaaGreatDoor
namespace Go.Proofs.YtabmamofnhcgbaaGreatDoor
open Go.RowKit
def bv(c:UInt8):Value:= .int .u8 (c.toNat:Int)
def byteOf(q:Nat):UInt8:=UInt8.ofNat q
theorem byteOf_eq(q:Nat):(q:Int)%256=((byteOf q).toNat:Int):=by unfold byteOf;rw[UInt8.toNat_ofNat'];rfl
def num(v:Nat):Nat->List UInt8
 |0=>[]
 |k+1=>UInt8.ofNat (v/256^k)::num v k
theorem num_length(v:Nat): ∀k,(num v k).length=k
 |0=>rfl
 |k+1=>by simp[num,num_length v k]
theorem zcE(v:Nat):num v 4=Nd.n4 v:=by simp[num,Nd.n4]
theorem K3(v:Nat):num v 2=[UInt8.ofNat (v/256),UInt8.ofNat v]:=by simp[num]
theorem XR(v:Nat):num v 1=[UInt8.ofNat v]:=by simp[num]
def numStr(n k:Nat):ByteArray:=⟨(num n k).toArray⟩
theorem numStr_size(n k:Nat):(numStr n k).size=k:=by show(num n k).toArray.size=k;rw[List.size_toArray,num_length]
theorem numStr_data(n k:Nat):(numStr n k).data.toList=num n k:=rfl
theorem numStr_succ(n k:Nat):(⟨#[byteOf (n/256^k)]⟩:ByteArray)++numStr n k=numStr n (k+1):=by
 apply ByteArray.ext
 rw[ByteArray.data_append]
 apply Array.ext'
 rw[Array.toList_append];rfl
theorem run_bytes1(w:World)(a:UInt8):(convert 144 9 (.slice (some ⟨w.heap.size,0,none⟩) 1 1)).run prog (w.alloc (.cells #[.int .u8 (a.toNat:Int)] 5))= .ok (.string ⟨#[a]⟩) (w.alloc (.cells #[.int .u8 (a.toNat:Int)] 5)):=by
 rw[run_convert_bytes_arg (P:=prog) (w.alloc (.cells #[.int .u8 (a.toNat:Int)] 5)) 144 5 underlying144 underlying5 w.heap.size 0 1 1 [(a.toNat:Int)] rfl ?_ 9 underlying9]
 ·simp[strOfNums]
 ·intro i hi
  rw[Nat.zero_add,World.cell?_alloc_new]
  match i,hi with
  |0,_=>rfl
attribute [local go_sem 9000] run_bytes1
theorem number_any(n:Nat)(v sz:Int)(w:World)(hv:v=n)(hn:n<=1000000000000000)(h0:0<=sz)(h1:sz<=8):
  Calls prog 74 #[.int .i64 v,.int .i64 sz] w λe w'=>e= .returned (.string (numStr n sz.toNat))/\Below w.heap.size w w':=by
 subst hv
 obtain⟨k0,rfl⟩: ∃k0:Nat,sz=k0:=⟨sz.toNat,by omega⟩
 rw[Int.toNat_natCast]
 go_enter func74,ntmps74
 go_wp2
 go_loopw [0,5,6] (λq s i wr=> ∃j:Nat,j<=k0/\i= .int .i64 j/\q= .int .i64 ((n/256^j:Nat):Int)/\s= .string (numStr n j)/\Below w.heap.size w wr) (λ_ _ i _=>k0-(intOf i).toNat)
 case atStart=>exact⟨0,by omega,rfl,by simp,rfl,Below.refl _ _⟩
 case round=>
  obtain⟨j,hj,rfl,rfl,rfl,hW⟩:=hrel
  by_cases hlt:j<k0
  ·have hq:=byteOf_eq (n/256^j)
   have hle:n/256^j<=n:=Nat.div_le_self _ _
   have hS:=numStr_size n j
   have HS:=hid (numStr_succ n j)
   have HD:=hid (show n/256^j/256=n/256^(j+1) by rw[Nat.div_div_eq_div_mul];rfl)
   generalize numStr n j=s at hS HS
   generalize n/256^j=q at hq hle HS HD
   have hs0:(s.size:Int)<=8:=by omega
   have hq1:(q:Int)<=1000000000000000:=by omega
   have hj0:(j:Int)<(k0:Int):=by omega
   clear hS hle
   go_wp2
   go_roundw
   case rel=>exact⟨j+1,by omega,by go_num,by rw[<-HD.out];rfl,by rw[HS.out],hW.alloc hW.size _⟩
   case measure=>simp[intOf];omega
  ·obtain rfl:j=k0:=by omega
   go_wp2
   go_ret
   exact⟨rfl,hW⟩
end Go.Proofs.YtabmamofnhcgbaaGreatDoor
namespace Go.Proofs.YtabmamofnhcgbaaGreatDoor
open Go.RowKit Go.Less
attribute [local go_sem 9000] zg zf zz zA zB zC
def prt(x:Nd.Node):ByteArray×Int:=if Nd.right less Nm.right x=true then(lstr (Nd.text x),0)else(⟨#[]⟩,2)
def yU(x:Nd.Node)(w:World)(e:Ending)(w':World):Prop:=e= .returned (.tuple #[.string (prt x).1,.int .i64 (prt x).2])/\Below w.heap.size w w'
theorem u7{l:List UInt8}(h:Nm.right l=true):l.length<=16:=by
 unfold Nm.right at h
 simp only[Bool.and_eq_true,decide_eq_true_eq]at h
 omega
def hdr(k m:Int)(d t:ByteArray):ByteArray:=numStr k.toNat 1++numStr m.toNat 2++d++t
def acc(k m:Int)(d t:ByteArray)(l:List En):ByteArray:=hdr k m d t++lstr (l.map Nd.entText).flatten
theorem Qp(k m:Int)(d t:ByteArray):acc k m d t []=hdr k m d t:=by
 unfold acc
 rw[List.map_nil,List.flatten_nil]
 apply ByteArray.ext
 rw[ByteArray.data_append]
 show _++ #[]=_
 simp
theorem UT(k m:Int)(d t:ByteArray)(l:List En)(x:En):acc k m d t (l++[x])=acc k m d t l++numStr x.1.size 1++x.1++numStr x.2.toNat 4:=by
 unfold acc
 apply ByteArray.ext
 apply Array.ext'
 simp only[ByteArray.data_append,Array.toList_append,numStr_data,XR,zcE,lstr_data,List.map_append,List.flatten_append,List.map_cons,List.map_nil,List.flatten_cons,List.flatten_nil,Nd.entText,Nd.bs,List.append_nil,List.append_assoc,List.cons_append,List.nil_append]
theorem US(k m:Int)(d t:ByteArray)(l:List En):acc k m d t l=lstr (Nd.text ⟨k,m,d,t,l⟩):=by
 unfold acc hdr
 apply ByteArray.ext
 apply Array.ext'
 simp only[ByteArray.data_append,Array.toList_append,numStr_data,XR,K3,lstr_data,Nd.text,Nd.bs,List.append_assoc,List.cons_append,List.nil_append]
theorem yQ(a b:ByteArray):(a++b).size=a.size+b.size:=ByteArray.size_append
theorem zdd(k m:Int)(d t:ByteArray):(hdr k m d t).size=3+d.size+t.size:=by
 unfold hdr
 rw[yQ,yQ,yQ,numStr_size,numStr_size]
theorem zdW{k m:Int}{d t:ByteArray}{l:List En}(h: ∀x∈l,x.1.size<=16/\0<=x.2):(acc k m d t l).size<=3+d.size+t.size+21*l.length:=by
 induction l using Nd.snoc_rec with
 |nil=>rw[Qp,zdd];simp
 |append_singleton l x ih=>
  have hx:=h x (by simp)
  have:=ih (λy hy=>h y (by simp[hy]))
  rw[UT,yQ,yQ,yQ,numStr_size,numStr_size,List.length_append,List.length_singleton]
  omega
structure PB (w w1:World) (k m:Int) (d t:ByteArray) (W:World):Prop where
 c0:W.cell? ⟨w.heap.size,0,none⟩=some (.int .i64 k)
 c1:W.cell? ⟨w.heap.size,1,none⟩=some (.int .i64 m)
 c2:W.cell? ⟨w.heap.size,2,none⟩=some (.string d)
 c3:W.cell? ⟨w.heap.size,3,none⟩=some (.string t)
 below:Below w1.heap.size w1 W
theorem PB.kept{w w1:World}{k m:Int}{d t:ByteArray}{W W':World}(h:PB w w1 k m d t W)(hb:Below W.heap.size W W'):PB w w1 k m d t W':=
 ⟨(hb.cell (block_lt_of_cell h.c0)).trans h.c0,(hb.cell (block_lt_of_cell h.c1)).trans h.c1,(hb.cell (block_lt_of_cell h.c2)).trans h.c2,(hb.cell (block_lt_of_cell h.c3)).trans h.c3,h.below.trans (hb.mono h.below.size)⟩
theorem zfv{w w1:World}{k m:Int}{d t:ByteArray}{W:World}(h:W.cell? ⟨w.heap.size,0,none⟩=some (.int .i64 k)/\W.cell? ⟨w.heap.size,1,none⟩=some (.int .i64 m)/\W.cell? ⟨w.heap.size,2,none⟩=some (.string d)/\W.cell? ⟨w.heap.size,3,none⟩=some (.string t)/\PB w w1 k m d t W):PB w w1 k m d t W:=h.2.2.2.2
theorem PB.all{w w1:World}{k m:Int}{d t:ByteArray}{W:World}(h:PB w w1 k m d t W):W.cell? ⟨w.heap.size,0,none⟩=some (.int .i64 k)/\W.cell? ⟨w.heap.size,1,none⟩=some (.int .i64 m)/\W.cell? ⟨w.heap.size,2,none⟩=some (.string d)/\W.cell? ⟨w.heap.size,3,none⟩=some (.string t)/\PB w w1 k m d t W:=⟨h.c0,h.c1,h.c2,h.c3,h⟩
theorem kpos{x:Nd.Node}(h:Nd.Right less Nm.right x):0<=x.kind/\x.kind<=3:=by
 rcases h.kinds with ⟨h,_⟩|⟨h,_⟩|⟨h,_⟩<;>omega
theorem dsz{x:Nd.Node}(h:Nd.Right less Nm.right x):x.data.size<=4096/\x.target.size<=64:=by
 rcases h.kinds with ⟨_,h1,_,h2⟩|⟨_,h1,h2⟩|⟨_,h1,_,_,h2⟩
 ·rw[h1];exact⟨h2,Nat.zero_le _⟩
 ·rw[h1,h2];exact⟨Nat.zero_le _,Nat.zero_le _⟩
 ·rw[h1];exact⟨Nat.zero_le _,h2⟩
theorem esz{x:Nd.Node}(h:Nd.Right less Nm.right x): ∀e∈x.ents,e.1.size<=16/\0<=e.2/\e.2<=2147483647:=λe he=>by
 have h1:=h.ok e he
 have h2:=u7 h1.1
 rw[Nd.len_bs]at h2
 exact⟨h2,by omega,h1.2.2⟩
structure PE (w w1:World) (a:Option Addr) (n cap b o:Nat) (y:ByteArray) (i:Int) (W:World):Prop where
 c4:W.cell? ⟨w.heap.size,4,none⟩=some (.slice a n cap)
 ce:W.cell? ⟨b,o,none⟩=some (.string y)
 ci:W.cell? ⟨b,o+1,none⟩=some (.int .i64 i)
 below:Below w1.heap.size w1 W
theorem PE.kept{w w1:World}{a:Option Addr}{n cap b o:Nat}{y:ByteArray}{i:Int}{W W':World}(h:PE w w1 a n cap b o y i W)(hb:Below W.heap.size W W'):PE w w1 a n cap b o y i W':=
 ⟨(hb.cell (block_lt_of_cell h.c4)).trans h.c4,(hb.cell (block_lt_of_cell h.ce)).trans h.ce,(hb.cell (block_lt_of_cell h.ci)).trans h.ci,h.below.trans (hb.mono h.below.size)⟩
theorem zfu{w w1:World}{a:Option Addr}{n cap b o:Nat}{y:ByteArray}{i:Int}{W:World}(h:W.cell? ⟨w.heap.size,4,none⟩=some (.slice a n cap)/\W.cell? ⟨b,o,none⟩=some (.string y)/\W.cell? ⟨b,o+1,none⟩=some (.int .i64 i)/\PE w w1 a n cap b o y i W):PE w w1 a n cap b o y i W:=h.2.2.2
theorem PE.all{w w1:World}{a:Option Addr}{n cap b o:Nat}{y:ByteArray}{i:Int}{W:World}(h:PE w w1 a n cap b o y i W):W.cell? ⟨w.heap.size,4,none⟩=some (.slice a n cap)/\W.cell? ⟨b,o,none⟩=some (.string y)/\W.cell? ⟨b,o+1,none⟩=some (.int .i64 i)/\PE w w1 a n cap b o y i W:=⟨h.c4,h.ce,h.ci,h⟩
theorem XG(k m:Int)(d t:ByteArray)(a:Option Addr)(n cap:Nat)(l:List En)(w:World)(hE:Ents a n l w)(hn:n<=1000000)(hs: ∀j,j<n->(l.getD j z0).1.size<=100000):
  Calls prog 25 #[nv k m d t a n cap] w (yU ⟨k,m,d,t,l⟩ w):=by
 have HNL:=hid hE.count
 have HE:=hid (λW (hb:Below w.heap.size w W)=>hE.below hb)
 have HB0:=hid (show∀x:Obj,Below w.heap.size w (w.alloc x)from λx=>(Below.refl _ w).alloc (Nat.le_refl _) _)
 have HN:=hid (vP k m d t a n cap l (w.alloc (.cells #[.int .i64 k,.int .i64 m,.string d,.string t,.slice a n cap] 43)) (hE.below ((Below.refl _ w).alloc (Nat.le_refl _) _)) hn hs)
 unfold xE at HN
 have HBX:=hid (heap_alloc_new w (.cells #[.int .i64 k,.int .i64 m,.string d,.string t,.slice a n cap] 43))
 clear hE hs
 cases hr:ndr k m d t l
 ·rw[hr]at HN
  have HR:=hid (show prt ⟨k,m,d,t,l⟩=(⟨#[]⟩,2) by unfold prt;rw[if_neg];intro h;unfold ndr at hr;rw[hr]at h;cases h)
  clear hr
  go_enter func25,ntmps25
  go_wp2_with fail
  refine HN.out.mono ?_
  rintro e w1 ⟨rfl,hb1⟩
  have HB:=hid ((HB0.out _).trans (hb1.mono (HB0.out _).size))
  clear hb1
  dsimp only
  go_wp2_with fail
  go_ret2
  show yU _ w _ _
  unfold yU
  rw[HR.out]
  exact⟨rfl,HB.out⟩
 ·rw [hr]at HN
  have hR:=(Nd.right_iff _).1 hr
  have HR:=hid (show prt ⟨k,m,d,t,l⟩=(acc k m d t l,0) by unfold prt;rw[if_pos (show Nd.right less Nm.right _=true from hr),US])
  have HSZ:=hid (esz hR)
  have HD:=hid (dsz hR)
  have hk:=kpos hR
  have hd:=dsz hR
  have hm0:=hR.m0
  have hm1:=hR.m1
  have hl64:=hR.len
  dsimp only at hk hd hm0 hm1 hl64 HSZ HD
  obtain⟨kn,rfl⟩: ∃kn:Nat,k=kn:=⟨k.toNat,by omega⟩
  obtain⟨mn,rfl⟩: ∃mn:Nat,m=mn:=⟨m.toNat,by omega⟩
  have HN1:=hid (λW=>number_any kn (kn:Int) 1 W rfl (by omega) (by omega) (by omega))
  have HN2:=hid (λW=>number_any mn (mn:Int) 2 W rfl (by omega) (by omega) (by omega))
  have HH:=hid (show numStr kn 1++numStr mn 2++d++t=acc (kn:Int) (mn:Int) d t (l.take 0) by rw[List.take_zero,Qp];rfl)
  rw[show(1:Int).toNat=1 from rfl]at HN1
  rw[show(2:Int).toNat=2 from rfl]at HN2
  have z1:=numStr_size kn 1
  have z2:=numStr_size mn 2
  generalize numStr kn 1=N1 at HN1 HH z1
  generalize numStr mn 2=N2 at HN2 HH z2
  have s1: ¬ 9223372036854775807<N1.size+N2.size:=by omega
  have s2: ¬ 9223372036854775807<N1.size+N2.size+d.size:=by omega
  have s3: ¬ 9223372036854775807<N1.size+N2.size+d.size+t.size:=by omega
  have hln:n<=64:=by have:=HNL.out;omega
  clear hr hR z1 z2 hm0 hm1 hl64
  go_enter func25,ntmps25
  go_wp2_with fail
  refine HN.out.mono ?_
  rintro e w1 ⟨rfl,hb1⟩
  have HX1:=hid ((hb1.block _ (lt_of_obj HBX.out)).trans HBX.out)
  have HB1:=hid ((HB0.out _).trans (hb1.mono (HB0.out _).size))
  clear hb1
  have hP:PB w w1 kn mn d t w1.drew:=⟨cell_obj HX1.out 0,cell_obj HX1.out 1,cell_obj HX1.out 2,cell_obj HX1.out 3,(Below.refl _ _).drew⟩
  have HP:=hid hP
  clear hP
  dsimp only
  go_wp2_with fail
  go_region_held3 (λW=>W.cell? ⟨w.heap.size,0,none⟩=some (.int .i64 (kn:Int))/\W.cell? ⟨w.heap.size,1,none⟩=some (.int .i64 (mn:Int))/\W.cell? ⟨w.heap.size,2,none⟩=some (.string d)/\W.cell? ⟨w.heap.size,3,none⟩=some (.string t)/\PB w w1 kn mn d t W)
   (first|exact HP.out.all|exact pB.out.all|exact pA.out.all|assumption)
   (first
    |(go_at_call 74;(with_reducible refine(HN1.out _).mono ?_);rintro e wA ⟨rfl,hA⟩;have pA:=hid (PB.kept (zfv (by assumption)) hA);clear hA)
    |(go_at_call 74;(with_reducible refine(HN2.out _).mono ?_);rintro e wB ⟨rfl,hB⟩;have pB:=hid (PB.kept (zfv (by assumption)) hB);clear hB))
  have HB3:=hid pB.out.below
  have HC4:=hid (show∀W,Below w1.heap.size w1 W->W.cell? ⟨w.heap.size,4,none⟩=some (.slice a n cap)from λW hb=>(hb.cell (p:=⟨w.heap.size,4,none⟩) (lt_of_obj HX1.out)).trans (cell_obj HX1.out 4))
  clear HP pA pB HN HN1 HN2 HBX hd hk
  go_wp2_with fail
  go_loopw [4,5] (λsv i wr=>(∃j:Nat,j<=n/\i= .int .i64 j/\sv= .string (acc kn mn d t (l.take j)))/\wr.cell? ⟨w.heap.size,4,none⟩=some (.slice a n cap)/\Below w1.heap.size w1 wr) (λ_ i _=>n-(intOf i).toNat)
  case atStart=>exact⟨⟨0,Nat.zero_le _,rfl,by rw[<-HH.out]⟩,HC4.out _ HB3.out,HB3.out⟩
  case round=>
   obtain⟨⟨j,hj,rfl,rfl⟩,c4,hb⟩:=hrel
   by_cases hlt:j<n
   ·have j0:(j:Int)<(n:Int):=by omega
    have hj0:(0:Int)<=(j:Int):=by omega
    have hjl:j<l.length:=by rw[<-HNL.out];exact hlt
    obtain⟨b,off,rfl,ce,ci⟩:=(HE.out _ (HB1.out.trans (hb.mono HB1.out.size))).cell j hlt
    have hz:=HSZ.out (l.getD j z0) (by rw[List.getD,List.getElem?_eq_getElem hjl];exact List.getElem_mem hjl)
    have HT:=hid (yo hjl z0)
    have HA:=hid (UT kn mn d t (l.take j) (l.getD j z0))
    rw[<-HT.out]at HA
    have hsz:(acc kn mn d t (l.take j)).size<=10000:=by
     have h1:=zdW (k:=kn) (m:=mn) (d:=d) (t:=t) (l:=l.take j) (λx hx=>⟨(HSZ.out x (List.mem_of_mem_take hx)).1,(HSZ.out x (List.mem_of_mem_take hx)).2.1⟩)
     rw[List.length_take]at h1
     have h2:=HD.out
     omega
    generalize l.getD j z0=x at ce ci hz HA
    obtain⟨y,i⟩:=x
    dsimp only at ce ci hz HA
    obtain⟨q,rfl⟩: ∃q:Nat,i=q:=⟨i.toNat,by omega⟩
    rw[Int.toNat_natCast]at HA
    have HM1:=hid (λW=>number_any y.size (y.size:Int) 1 W rfl (by omega) (by omega) (by omega))
    have HM2:=hid (λW=>number_any q (q:Int) 4 W rfl (by omega) (by omega) (by omega))
    rw[show(1:Int).toNat=1 from rfl]at HM1
    rw[show(4:Int).toNat=4 from rfl]at HM2
    have z1:=numStr_size y.size 1
    have z2:=numStr_size q 4
    generalize numStr y.size 1=M1 at HM1 HA z1
    generalize numStr q 4=M2 at HM2 HA z2
    generalize acc kn mn d t (l.take j)=A at*
    have t1: ¬ 9223372036854775807<A.size+M1.size:=by omega
    have t2: ¬ 9223372036854775807<A.size+M1.size+y.size:=by omega
    have t3: ¬ 9223372036854775807<A.size+M1.size+y.size+M2.size:=by omega
    have hP:PE w w1 (some ⟨b,off,none⟩) n cap b (off+j*2) y q wr.drew:=⟨c4,ce,ci,hb.drew⟩
    have HP:=hid hP
    clear hP hz hsz z1 z2 hjl
    go_wp2_with fail
    go_region_held3 (λW=>W.cell? ⟨w.heap.size,4,none⟩=some (.slice (some ⟨b,off,none⟩) n cap)/\W.cell? ⟨b,off+j*2,none⟩=some (.string y)/\W.cell? ⟨b,off+j*2+1,none⟩=some (.int .i64 (q:Int))/\PE w w1 (some ⟨b,off,none⟩) n cap b (off+j*2) y q W)
     (first|exact HP.out.all|exact pB.out.all|exact pA.out.all|assumption)
     (first
      |(go_at_call 74;(with_reducible refine(HM1.out _).mono ?_);rintro e wA ⟨rfl,hA⟩;have pA:=hid (PE.kept (zfu (by assumption)) hA);clear hA)
      |(go_at_call 74;(with_reducible refine(HM2.out _).mono ?_);rintro e wB ⟨rfl,hB⟩;have pB:=hid (PE.kept (zfu (by assumption)) hB);clear hB))
    go_wp2_with fail
    go_roundw
    case rel=>exact⟨⟨j+1,by omega,by go_num,by rw[HA.out]⟩,pB.out.c4,pB.out.below⟩
    case measure=>simp[intOf];omega
   ·obtain rfl:j=n:=by omega
    have HR2:=hid (show acc kn mn d t (l.take j)=acc kn mn d t l by rw[HNL.out,List.take_length])
    have HB:=hid (HB1.out.trans (hb.mono HB1.out.size))
    clear hb
    go_wp2_with fail
    go_ret2
    show yU _ w _ _
    unfold yU
    rw[HR.out,<-HR2.out]
    exact⟨rfl,HB.out⟩
end Go.Proofs.YtabmamofnhcgbaaGreatDoor
namespace Go.Proofs.YtabmamofnhcgbaaGreatDoor
open Go.Shelf
def ren:Go.Shelf.Ren:=⟨fun|166=>181|167=>180|169=>183|227=>236|228=>237|240=>213|276=>239|316=>113|n=>n,fun|0=>0|3=>3|4=>4|5=>5|9=>9|20=>20|37=>144|70=>240|72=>242|75=>244|80=>60|116=>288|124=>308|127=>219|164=>294|n=>n,fun|n=>n⟩
theorem lays166:Go.Proofs.Lays.n166 prog ren:={
 mixed:=by kernel_rfl
 f166:=func181.trans (congrArg some (by kernel_rfl))
 f240:=func213.trans (congrArg some (by kernel_rfl))
 f276:=func239.trans (congrArg some (by kernel_rfl))
 t0:=underlying0
 a0:=Tryz.isAgg0
 z0:=Tryz.sizeOf0
 v0:=Tryz.zeroValue0
 t3:=underlying3
 a3:=Tryz.isAgg3
 z3:=Tryz.sizeOf3
 v3:=Tryz.zeroValue3
 t4:=underlying4
 a4:=Tryz.isAgg4
 z4:=Tryz.sizeOf4
 v4:=Tryz.zeroValue4
 t9:=underlying9
 a9:=Tryz.isAgg9
 z9:=Tryz.sizeOf9
 v9:=Tryz.zeroValue9
 t20:=underlying20
 a20:=Tryz.isAgg20
 z20:=Tryz.sizeOf20
 v20:=Tryz.zeroValue20
 t37:=underlying144
 a37:=Tryz.isAgg144
 z37:=Tryz.sizeOf144
 v37:=Tryz.zeroValue144
 t70:=underlying240
 a70:=Tryz.isAgg240
 z70:=Tryz.sizeOf240
 v70:=Tryz.zeroValue240
 t72:=underlying242
 a72:=Tryz.isAgg242
 z72:=Tryz.sizeOf242
 v72:=Tryz.zeroValue242
 t75:=underlying244
 a75:=Tryz.isAgg244
 z75:=Tryz.sizeOf244
 v75:=Tryz.zeroValue244
 t164:=underlying294
 a164:=Tryz.isAgg294
 z164:=Tryz.sizeOf294
 v164:=Tryz.zeroValue294}
theorem zeL:Go.Proofs.Lays.n167 prog ren:={
 mixed:=by kernel_rfl
 f167:=func180.trans (congrArg some (by kernel_rfl))
 f240:=func213.trans (congrArg some (by kernel_rfl))
 f276:=func239.trans (congrArg some (by kernel_rfl))
 t0:=underlying0
 a0:=Tryz.isAgg0
 z0:=Tryz.sizeOf0
 v0:=Tryz.zeroValue0
 t4:=underlying4
 a4:=Tryz.isAgg4
 z4:=Tryz.sizeOf4
 v4:=Tryz.zeroValue4
 t5:=underlying5
 a5:=Tryz.isAgg5
 z5:=Tryz.sizeOf5
 v5:=Tryz.zeroValue5
 t9:=underlying9
 a9:=Tryz.isAgg9
 z9:=Tryz.sizeOf9
 v9:=Tryz.zeroValue9
 t20:=underlying20
 a20:=Tryz.isAgg20
 z20:=Tryz.sizeOf20
 v20:=Tryz.zeroValue20
 t37:=underlying144
 a37:=Tryz.isAgg144
 z37:=Tryz.sizeOf144
 v37:=Tryz.zeroValue144
 t70:=underlying240
 a70:=Tryz.isAgg240
 z70:=Tryz.sizeOf240
 v70:=Tryz.zeroValue240
 t72:=underlying242
 a72:=Tryz.isAgg242
 z72:=Tryz.sizeOf242
 v72:=Tryz.zeroValue242
 t75:=underlying244
 a75:=Tryz.isAgg244
 z75:=Tryz.sizeOf244
 v75:=Tryz.zeroValue244
 t164:=underlying294
 a164:=Tryz.isAgg294
 z164:=Tryz.sizeOf294
 v164:=Tryz.zeroValue294}
theorem lays169:Go.Proofs.Lays.n169 prog ren:={
 mixed:=by kernel_rfl
 f169:=func183.trans (congrArg some (by kernel_rfl))
 t0:=underlying0
 a0:=Tryz.isAgg0
 z0:=Tryz.sizeOf0
 v0:=Tryz.zeroValue0
 t3:=underlying3
 a3:=Tryz.isAgg3
 z3:=Tryz.sizeOf3
 v3:=Tryz.zeroValue3
 t9:=underlying9
 a9:=Tryz.isAgg9
 z9:=Tryz.sizeOf9
 v9:=Tryz.zeroValue9
 t37:=underlying144
 a37:=Tryz.isAgg144
 z37:=Tryz.sizeOf144
 v37:=Tryz.zeroValue144
 t70:=underlying240
 a70:=Tryz.isAgg240
 z70:=Tryz.sizeOf240
 v70:=Tryz.zeroValue240
 t72:=underlying242
 a72:=Tryz.isAgg242
 z72:=Tryz.sizeOf242
 v72:=Tryz.zeroValue242
 t127:=underlying219
 a127:=Tryz.isAgg219
 z127:=Tryz.sizeOf219
 v127:=Tryz.zeroValue219}
theorem lays227:Go.Proofs.Lays.n227 prog ren:={
 mixed:=by kernel_rfl
 f227:=func236.trans (congrArg some (by kernel_rfl))
 t0:=underlying0
 a0:=Tryz.isAgg0
 z0:=Tryz.sizeOf0
 v0:=Tryz.zeroValue0
 t3:=underlying3
 a3:=Tryz.isAgg3
 z3:=Tryz.sizeOf3
 v3:=Tryz.zeroValue3
 t4:=underlying4
 a4:=Tryz.isAgg4
 z4:=Tryz.sizeOf4
 v4:=Tryz.zeroValue4
 t5:=underlying5
 a5:=Tryz.isAgg5
 z5:=Tryz.sizeOf5
 v5:=Tryz.zeroValue5
 t9:=underlying9
 a9:=Tryz.isAgg9
 z9:=Tryz.sizeOf9
 v9:=Tryz.zeroValue9
 t116:=underlying288
 a116:=Tryz.isAgg288
 z116:=Tryz.sizeOf288}
theorem lays228:Go.Proofs.Lays.n228 prog ren:={
 mixed:=by kernel_rfl
 f228:=func237.trans (congrArg some (by kernel_rfl))
 t0:=underlying0
 a0:=Tryz.isAgg0
 z0:=Tryz.sizeOf0
 v0:=Tryz.zeroValue0
 t4:=underlying4
 a4:=Tryz.isAgg4
 z4:=Tryz.sizeOf4
 v4:=Tryz.zeroValue4
 t5:=underlying5
 a5:=Tryz.isAgg5
 z5:=Tryz.sizeOf5
 v5:=Tryz.zeroValue5
 t116:=underlying288
 a116:=Tryz.isAgg288
 z116:=Tryz.sizeOf288
 t124:=underlying308
 a124:=Tryz.isAgg308
 z124:=Tryz.sizeOf308
 v124:=Tryz.zeroValue308}
theorem laysM316:Go.Proofs.LaysM.n316 prog ren:={
 mixed:=by kernel_rfl
 f316:=func113.trans (congrArg some (by kernel_rfl))
 t0:=underlying0
 a0:=Tryz.isAgg0
 z0:=Tryz.sizeOf0
 v0:=Tryz.zeroValue0
 t3:=underlying3
 a3:=Tryz.isAgg3
 z3:=Tryz.sizeOf3
 v3:=Tryz.zeroValue3
 t4:=underlying4
 a4:=Tryz.isAgg4
 z4:=Tryz.sizeOf4
 v4:=Tryz.zeroValue4
 t9:=underlying9
 a9:=Tryz.isAgg9
 z9:=Tryz.sizeOf9
 v9:=Tryz.zeroValue9
 t37:=underlying144
 a37:=Tryz.isAgg144
 z37:=Tryz.sizeOf144
 v37:=Tryz.zeroValue144
 t127:=underlying219
 a127:=Tryz.isAgg219
 z127:=Tryz.sizeOf219
 v127:=Tryz.zeroValue219
 t5:=underlying5
 a5:=Tryz.isAgg5
 z5:=Tryz.sizeOf5
 v5:=Tryz.zeroValue5
 i0:=by kernel_rfl
 i3:=by kernel_rfl
 i4:=by kernel_rfl
 i5:=by kernel_rfl
 i9:=by kernel_rfl
 i37:=by kernel_rfl
 i127:=by kernel_rfl}
theorem extra:Builder.Extra prog ren:={
 sizeBuilder:=by kernel_rfl
 liesBuilder:=by kernel_rfl
 t5:=underlying5
 a5:=Tryz.isAgg5
 z5:=Tryz.sizeOf5
 v5:=Tryz.zeroValue5
 infoByte:=by kernel_rfl
 cellsByte:=by kernel_rfl
 sizeByte:=by kernel_rfl
 neB5:=by decide}
theorem info68:(prog.info? 288).map (λi=>(i.zero,i.size))=some (some (.agg (Array.replicate 256 (.bool false))),256):=by kernel_rfl
end Go.Proofs.YtabmamofnhcgbaaGreatDoor
