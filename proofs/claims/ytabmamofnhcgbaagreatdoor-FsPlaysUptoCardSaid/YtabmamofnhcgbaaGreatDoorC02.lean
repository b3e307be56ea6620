/- A part of the proofs. -/
import Derived.LaidEqlPtr
import Derived.Shelf.LaysM
import Derived.Shelf.Strconv.Clone
import Derived.Test.YtabmamofnhcgbaaGreatDoorC01
set_option maxRecDepth 1000000
set_option maxHeartbeats 16000000
open Go.Lib (hid)
open Go.Proofs.Tryz
namespace Go.Proofs.YtabmamofnhcgbaaGreatDoor.T8
open Go.RowKit Go.Less Sha
def uE(a b:Option Nat):Bool:=decide (a=b)
theorem samep_eq{a b:Option Nat}:uE a b=true↔a=b:=by unfold uE;exact decide_eq_true_iff
theorem Km(t:TypeId)(x y:Operand)(a b:Option Nat):eqGuard .eql t x y (pv a) (pv b)=pure ():=rfl
attribute [local go_sem 9000] Km
theorem info56:(prog.info? 170).map (λi=>i.size)=some 7:=by kernel_rfl
theorem Ux{w:World}{a b:Option Nat}{t u:Tt}(ha:Tree w a t)(hb:Tree w b u):(binOp .eql 137 (pv a) (pv b)).run prog w= .ok (.bool (uE a b)) w:=by
 obtain⟨j,hj,hz⟩: ∃j,prog.info? 170=some j/\j.size=7:=by
  have:=info56
  cases h:prog.info? 170 with
  |none=>rw[h]at this;cases this
  |some j=>rw[h]at this;exact⟨j,rfl,by injection this⟩
 have hu:prog.underlying 137=some (.pointer 170):=underlying137
 cases a with
 | none=>
  cases b with
  |none=>exact run_eql_pointer_nil w 137 none (by kernel_rfl)
  | some y=>
   show(binOp .eql 137 (.pointer none) (.pointer (some ⟨y,0,none⟩))).run prog w=_
   have h: ∀d:Nat,(Op.equalIn (d+1) 137 (.pointer none) (.pointer (some ⟨y,0,none⟩))).run prog w= .ok false w:=λd=>by
    simp[Op.equalIn,run_underlying hu]
   simp only[binOp]
   simp[Op.equal,Op.maxDepth,h 9999]
   rfl
 | some x=>
  cases b with
  |none=>exact run_eql_pointer_nil w 137 (some ⟨x,0,none⟩) (by kernel_rfl)
  | some y=>
   show(binOp .eql 137 (.pointer (some ⟨x,0,none⟩)) (.pointer (some ⟨y,0,none⟩))).run prog w=_
   by_cases e:x=y
   ·subst e
    rw[run_eql_ptr_same w _ hu hj,samep_eq.2 rfl]
   ·obtain⟨_,_,_,_,_,_,_,hA⟩:=YG ha
    obtain⟨_,_,_,_,_,_,_,hB⟩:=YG hb
    rw[run_eql_ptr_other w hu hj (by rw[hz];decide) (λh=>e (by injection h)) hA.obj hB.obj]
    rw[show uE (some x) (some y)=false from by unfold uE;simp[e]]
structure Giv (b:Nat) (l0:Tt) (k v:ByteArray) (r0:Tt) (pl0 pr0 pl pr:Option Nat) (l r:Tt) (W:World):Prop where
 node:Node W b l0 k v r0 pl0 pr0
 left:Tree W pl l
 right:Tree W pr r
 dg:Dg W
section
variable {w : World} {b : Nat} {l0 : Tt} {k v : ByteArray} {r0 : Tt} {pl0 pr0 pl pr : Option Nat} {l r : Tt} {W : World}
theorem Giv.kept(h:Giv b l0 k v r0 pl0 pr0 pl pr l r w)(hb:Below w.heap.size w W):Giv b l0 k v r0 pl0 pr0 pl pr l r W:=⟨h.node.below hb,h.left.below hb,h.right.below hb,h.dg.below hb⟩
theorem Giv.all(h:Giv b l0 k v r0 pl0 pr0 pl pr l r w)(hb:Below w.heap.size w W):W.cell? ⟨b,0,none⟩=some (.string k)/\W.cell? ⟨b,1,none⟩=some (.string (rk k))/\W.cell? ⟨b,2,none⟩=some (.string v)/\W.cell? ⟨b,3,none⟩=some (.string (nm (.node l0 k v r0)))/\W.cell? ⟨b,4,none⟩=some (.int .i64 ((Tr.T.len (.node l0 k v r0):Nat):Int))/\Below w.heap.size w W:=
 ⟨(h.kept hb).node.c0,(h.kept hb).node.c1,(h.kept hb).node.c2,(h.kept hb).node.c3,(h.kept hb).node.c4,hb⟩
end
theorem kM{A B C D E F:Prop}(h:A/\B/\C/\D/\E/\F):F:=h.2.2.2.2.2
theorem btrans{w W W':World}(hb:Below W.heap.size W W')(h:Below w.heap.size w W):Below w.heap.size w W':=h.trans (hb.mono h.size)
theorem vk{w W:World}(o:Obj)(h:Below w.heap.size w W):Below w.heap.size w (W.alloc o):=h.alloc h.size o
abbrev z51:Array Value:= #[.string ⟨#[]⟩,.string ⟨#[]⟩,.int .i64 0]
structure Zed (w:World) (g:Nat) (W:World):Prop where
 new:w.heap.size<=g
 obj:W.heap[g]?=some (.cells z51 135 (0,0))
theorem jl{w wx W:World}(hb:Below (wx.alloc (.cells z51 135)).heap.size (wx.alloc (.cells z51 135)) W)(h:Below w.heap.size w wx):Zed w wx.heap.size W:=
 ⟨h.size,(hb.block _ (by simp)).trans (heap_alloc_new wx _)⟩
theorem vX{w wx W:World}(hb:Below (wx.alloc (.cells z51 135)).drew.heap.size (wx.alloc (.cells z51 135)).drew W)(h:Below w.heap.size w wx):Zed w wx.heap.size W:=
 ⟨h.size,(hb.block wx.heap.size (by rw[heap_drew];simp)).trans ((congrArg (·[wx.heap.size]?) (heap_drew _)).trans (heap_alloc_new wx _))⟩
theorem jk{w wx W:World}{g:Nat}(hb:Below wx.heap.size wx W)(h:Zed w g wx):Zed w g W:=⟨h.new,(hb.block _ (lt_of_obj h.obj)).trans h.obj⟩
theorem Zed.facts{w:World}{g:Nat}{W:World}(h:Zed w g W):w.heap.size<=g/\W.cell? ⟨g,0,none⟩=some (.string ⟨#[]⟩)/\W.cell? ⟨g,1,none⟩=some (.string ⟨#[]⟩)/\W.cell? ⟨g,2,none⟩=some (.int .i64 0)/\W.frozen? ⟨g,0,none⟩=false/\W.frozen? ⟨g,1,none⟩=false/\W.frozen? ⟨g,2,none⟩=false:=by
 refine⟨h.new, ?_, ?_, ?_, ?_, ?_, ?_⟩<;>simp[World.cell?,World.frozen?,h.obj]
theorem bset{w W:World}{g:Nat}(hg:w.heap.size<=g)(x y z:Value)(h:Below w.heap.size w W):Below w.heap.size w (((W.setCell ⟨g,0,none⟩ x).setCell ⟨g,1,none⟩ y).setCell ⟨g,2,none⟩ z):=
 ((h.setCell hg x).setCell hg y).setCell hg z
def Qs(t:Tt)(w:World)(e:Ending)(w':World):Prop:= ∃b,e= .returned (.pointer (some ⟨b,0,none⟩))/\Tree w' (some b) t/\Below w.heap.size w w'
theorem kI (a b : ByteArray) (n : Int) (w : World) : (method 430 135 (.agg #[.string a, .string b, .int .i64 n]) "snapferry/treap.above").run prog w = .ok (289, .agg #[.string a, .string b, .int .i64 n]) w := by kernel_rfl
theorem qC(v n0:ByteArray)(c0:Int)(k:ByteArray)(l r:Tt)(w:World)(hD:Dg w)(hk:k.size<=100)(hv:v.size<=10000)(hl:l.len<=1000000)(hr:r.len<=1000000):
  Calls prog 289 #[.agg #[.string v,.string n0,.int .i64 c0],.string k,ld l,ld r] w λe w'=>e= .returned (.agg #[.string v,.string (nm (.node l k v r)),.int .i64 ((Tr.T.len (.node l k v r):Nat):Int)])/\Below w.heap.size w w':=zbo v n0 c0 k l r w hD hk hv hl hr
structure Late (w:World) (b:Nat) (k v n:ByteArray) (c:Int) (g:Nat) (W:World):Prop where
 bel:Below w.heap.size w W
 c0:W.cell? ⟨b,0,none⟩=some (.string k)
 c1:W.cell? ⟨b,1,none⟩=some (.string (rk k))
 d0:W.cell? ⟨g,0,none⟩=some (.string v)
 d1:W.cell? ⟨g,1,none⟩=some (.string n)
 d2:W.cell? ⟨g,2,none⟩=some (.int .i64 c)
section
variable {w : World} {b : Nat} {l0 : Tt} {k v : ByteArray} {r0 : Tt} {pl0 pr0 pl pr : Option Nat} {l r : Tt} {W : World} {n : ByteArray} {c : Int}
theorem Uc(h:Giv b l0 k v r0 pl0 pr0 pl pr l r w)(hb:Below w.heap.size w W):Late w b k v n c W.heap.size (W.alloc (.cells #[.string v,.string n,.int .i64 c] 135)):=
 ⟨vk _ hb,(h.kept (vk _ hb)).node.c0,(h.kept (vk _ hb)).node.c1,y8 _ _ _ 0,y8 _ _ _ 1,y8 _ _ _ 2⟩
theorem Ua{g:Nat}(h:Giv b l0 k v r0 pl0 pr0 pl pr l r w)(hz:Zed w g W)(hb:Below w.heap.size w W):Late w b k v n c g (((W.setCell ⟨g,0,none⟩ (.string v)).setCell ⟨g,1,none⟩ (.string n)).setCell ⟨g,2,none⟩ (.int .i64 c)):=by
 have hb':=bset hz.new (.string v) (.string n) (.int .i64 c) hb
 obtain⟨_,z0,z1,z2,_⟩:=hz.facts
 exact⟨hb',(h.kept hb').node.c0,(h.kept hb').node.c1,by go_simp,by go_simp,by go_simp⟩
end
theorem kK{w:World}{b:Nat}{k v n:ByteArray}{c:Int}{g:Nat}{W:World}{P:Program}{C:Code}{Q:Exit->Act->World->Prop}{a:Act}(h:Late w b k v n c g W)(hp: ∀w5,Late w b k v n c g w5->C.wp P Q a w5):C.wp P Q a W:=hp W h
theorem Xd{w W:World}{b:Nat}{l0:Tt}{k v:ByteArray}{r0:Tt}{pl0 pr0 pl pr:Option Nat}{l r:Tt}(h:Giv b l0 k v r0 pl0 pr0 pl pr l r w)(hk:k.size<=100)(hv:v.size<=10000)(hb:Below w.heap.size w W):
  Qs (.node l k v r) w (.returned (.pointer (some ⟨W.heap.size,0,none⟩))) (W.alloc (.cells #[.string k,.string (rk k),.string v,.string (nm (.node l k v r)),.int .i64 ((Tr.T.len (.node l k v r):Nat):Int),pv pl,pv pr] 170)).drew:=
 have h1:=(vk (.cells #[.string k,.string (rk k),.string v,.string (nm (.node l k v r)),.int .i64 ((Tr.T.len (.node l k v r):Nat):Int),pv pl,pv pr] 170) hb).drew
 ⟨W.heap.size,rfl,⟨W.heap.size,pl,pr,rfl,(congrArg (·[W.heap.size]?) (heap_drew _)).trans (heap_alloc_new W _),hk,hv,h.left.below h1,h.right.below h1⟩,h1⟩
theorem yT{w:World}{b:Nat}{l0:Tt}{k v:ByteArray}{r0:Tt}{pl0 pr0 pl pr:Option Nat}{l r:Tt}(h:Giv b l0 k v r0 pl0 pr0 pl pr l r w)(hl:l.len<=1000000)(hr:r.len<=1000000):
  Calls prog 116 #[.pointer (some ⟨b,0,none⟩),pv pl,pv pr] w (Qs (.node l k v r) w):=by
 have HG:=hid h
 have HN:=hid h.node
 have c5:=h.node.c5
 have c6:=h.node.c6
 have e5:=Ux h.left h.node.left
 have e6:=Ux h.right h.node.right
 by_cases hs:uE pl pl0=true/\uE pr pr0=true
 ·obtain⟨h1,h2⟩:=hs
  obtain rfl:=samep_eq.1 h1
  obtain rfl:=samep_eq.1 h2
  obtain rfl:=h.left.inj h.node.left
  obtain rfl:=h.right.inj h.node.right
  clear h
  go_enter func116,ntmps116
  go_wp2_with fail
  go_ret
  exact⟨b,rfl,HG.out.node.tree,Below.refl _ _⟩
 ·have HR:uE pl pl0=false\/(uE pl pl0=true/\uE pr pr0=false):=by
   cases x:uE pl pl0
   ·exact .inl rfl
   ·cases y:uE pr pr0
    ·exact .inr ⟨rfl,rfl⟩
    ·exact absurd ⟨x,y⟩ hs
  have hgd:=(Below.refl w.heap.size w).drew
  clear h hs
  have hz:=Xq
  have hm:=kI
  go_enter func116,ntmps116
  rcases HR with h1|⟨h1,h2⟩
  ·go_wp2_with fail
   go_region_held3 (λW=>W.cell? ⟨b,0,none⟩=some (.string k)/\W.cell? ⟨b,1,none⟩=some (.string (rk k))/\W.cell? ⟨b,2,none⟩=some (.string v)/\W.cell? ⟨b,3,none⟩=some (.string (nm (.node l0 k v r0)))/\W.cell? ⟨b,4,none⟩=some (.int .i64 ((Tr.T.len (.node l0 k v r0):Nat):Int))/\Below w.heap.size w W)
    (first|exact Giv.all HG.out (by assumption)|exact Giv.all HG.out (vk _ (by assumption))|exact Giv.all HG.out (vk _ (kM (by assumption)))|exact Giv.all HG.out (bset hzg _ _ _ (by assumption)))
    (first
    |(go_at_call 72;(with_reducible refine(xM (Giv.left (HG.out.kept (kM (by assumption))))).mono ?_);rintro e w1 ⟨rfl,hw1⟩;have hb1:=btrans hw1 (kM (by assumption));(first|(have zed:=vX hw1 (Below.refl _ _))|(have zed:=jl hw1 (by assumption);obtain⟨hzg,zc0,zc1,zc2,zf0,zf1,zf2⟩:=zed.facts)|(have zed:=jk hw1 (by assumption);obtain⟨hzg,zc0,zc1,zc2,zf0,zf1,zf2⟩:=zed.facts)|skip))
    |(go_at_call 72;(with_reducible refine(xM (Giv.right (HG.out.kept (kM (by assumption))))).mono ?_);rintro e w1 ⟨rfl,hw1⟩;have hb1:=btrans hw1 (kM (by assumption));(first|(have zed:=vX hw1 (Below.refl _ _);obtain⟨hzg,zc0,zc1,zc2,zf0,zf1,zf2⟩:=zed.facts)|(have zed:=jl hw1 (by assumption))|(have zed:=jk hw1 (by assumption))|skip))
    |(go_at_call 289;(with_reducible refine(qC v _ _ k l r _ (Giv.dg (HG.out.kept (kM (by assumption)))) HN.out.key HN.out.val hl hr).mono ?_);rintro e w3 ⟨rfl,hw3⟩;have hb3:=btrans hw3 (kM (by assumption));(first|(have zed:=vX hw3 (Below.refl _ _);obtain⟨hzg,zc0,zc1,zc2,zf0,zf1,zf2⟩:=zed.facts)|(have zed:=jl hw3 (by assumption);obtain⟨hzg,zc0,zc1,zc2,zf0,zf1,zf2⟩:=zed.facts)|(have zed:=jk hw3 (by assumption);obtain⟨hzg,zc0,zc1,zc2,zf0,zf1,zf2⟩:=zed.facts)|skip)))
   all_goals go_wp2_with fail
   all_goals (first|refine kK (Uc (n:=nm (.node l k v r)) (c:=((Tr.T.len (.node l k v r):Nat):Int)) HG.out (by assumption)) ?_|refine kK (Ua (n:=nm (.node l k v r)) (c:=((Tr.T.len (.node l k v r):Nat):Int)) HG.out (by assumption) (by assumption)) ?_)
   all_goals
    intro w5 hL
    have d0:=hL.c0
    have d1:=hL.c1
    have d2:=hL.d0
    have d3:=hL.d1
    have d4:=hL.d2
    have HL:=hid hL.bel
    clear hL
    go_still_tail 12,(by kernel_rfl)
    go_wp2_with fail
    go_ret
    exact Xd HG.out HN.out.key HN.out.val HL.out
  ·go_wp2_with fail
   go_region_held3 (λW=>W.cell? ⟨b,0,none⟩=some (.string k)/\W.cell? ⟨b,1,none⟩=some (.string (rk k))/\W.cell? ⟨b,2,none⟩=some (.string v)/\W.cell? ⟨b,3,none⟩=some (.string (nm (.node l0 k v r0)))/\W.cell? ⟨b,4,none⟩=some (.int .i64 ((Tr.T.len (.node l0 k v r0):Nat):Int))/\Below w.heap.size w W)
    (first|exact Giv.all HG.out (by assumption)|exact Giv.all HG.out (vk _ (by assumption))|exact Giv.all HG.out (vk _ (kM (by assumption)))|exact Giv.all HG.out (bset hzg _ _ _ (by assumption)))
    (first
    |(go_at_call 72;(with_reducible refine(xM (Giv.left (HG.out.kept (kM (by assumption))))).mono ?_);rintro e w1 ⟨rfl,hw1⟩;have hb1:=btrans hw1 (kM (by assumption));(first|(have zed:=vX hw1 (Below.refl _ _))|(have zed:=jl hw1 (by assumption);obtain⟨hzg,zc0,zc1,zc2,zf0,zf1,zf2⟩:=zed.facts)|(have zed:=jk hw1 (by assumption);obtain⟨hzg,zc0,zc1,zc2,zf0,zf1,zf2⟩:=zed.facts)|skip))
    |(go_at_call 72;(with_reducible refine(xM (Giv.right (HG.out.kept (kM (by assumption))))).mono ?_);rintro e w1 ⟨rfl,hw1⟩;have hb1:=btrans hw1 (kM (by assumption));(first|(have zed:=vX hw1 (Below.refl _ _);obtain⟨hzg,zc0,zc1,zc2,zf0,zf1,zf2⟩:=zed.facts)|(have zed:=jl hw1 (by assumption))|(have zed:=jk hw1 (by assumption))|skip))
    |(go_at_call 289;(with_reducible refine(qC v _ _ k l r _ (Giv.dg (HG.out.kept (kM (by assumption)))) HN.out.key HN.out.val hl hr).mono ?_);rintro e w3 ⟨rfl,hw3⟩;have hb3:=btrans hw3 (kM (by assumption));(first|(have zed:=vX hw3 (Below.refl _ _);obtain⟨hzg,zc0,zc1,zc2,zf0,zf1,zf2⟩:=zed.facts)|(have zed:=jl hw3 (by assumption);obtain⟨hzg,zc0,zc1,zc2,zf0,zf1,zf2⟩:=zed.facts)|(have zed:=jk hw3 (by assumption);obtain⟨hzg,zc0,zc1,zc2,zf0,zf1,zf2⟩:=zed.facts)|skip)))
   all_goals go_wp2_with fail
   all_goals (first|refine kK (Uc (n:=nm (.node l k v r)) (c:=((Tr.T.len (.node l k v r):Nat):Int)) HG.out (by assumption)) ?_|refine kK (Ua (n:=nm (.node l k v r)) (c:=((Tr.T.len (.node l k v r):Nat):Int)) HG.out (by assumption) (by assumption)) ?_)
   all_goals
    intro w5 hL
    have d0:=hL.c0
    have d1:=hL.c1
    have d2:=hL.d0
    have d3:=hL.d1
    have d4:=hL.d2
    have HL:=hid hL.bel
    clear hL
    go_still_tail 12,(by kernel_rfl)
    go_wp2_with fail
    go_ret
    exact Xd HG.out HN.out.key HN.out.val HL.out
end Go.Proofs.YtabmamofnhcgbaaGreatDoor.T8
namespace Go.Proofs.YtabmamofnhcgbaaGreatDoor.T8
open Go.RowKit Go.Less Sha
attribute [local go_sem 9000] zg zf zz zA zB zC
def KL(x:Tt×Tt)(w:World)(e:Ending)(w':World):Prop:= ∃pa pb,e= .returned (.tuple #[pv pa,pv pb])/\Tree w' pa x.1/\Tree w' pb x.2/\Below w.heap.size w w'
def kS(t:Tt)(w:World)(e:Ending)(w':World):Prop:= ∃p,e= .returned (pv p)/\Tree w' p t/\Below w.heap.size w w'
theorem two{w:World}{b:Nat}{l:Tt}{k v:ByteArray}{r:Tt}{pl pr:Option Nat}{W:World}(h:Node w b l k v r pl pr)(hb:Below w.heap.size w W):W.cell? ⟨b,5,none⟩=some (pv pl)/\W.cell? ⟨b,6,none⟩=some (pv pr)/\Below w.heap.size w W:=⟨(h.below hb).c5,(h.below hb).c6,hb⟩
theorem Jc{l r:Tt}{k v x:ByteArray}(h:less k x=true):(Tr.T.node l k v r).split less x=(.node l k v (r.split less x).1,(r.split less x).2):=by
 conv=>lhs;unfold Tr.T.split
 rw[if_pos h]
theorem Jd{l r:Tt}{k v x:ByteArray}(h:less k x=false):(Tr.T.node l k v r).split less x=((l.split less x).1,.node (l.split less x).2 k v r):=by
 conv=>lhs;unfold Tr.T.split
 rw[if_neg (by simp[h])]
theorem split_any(x:ByteArray): ∀(t:Tt) (p:Option Nat) (w:World),Tree w p t->Dg w->t.len<=100000->Calls prog 115 #[pv p,.string x] w (KL (t.split less x) w):=by
 intro t
 induction t with
 |leaf=>
  intro p w hT hD hn
  obtain rfl:p=none:=hT
  clear hD hn
  show Calls prog 115 #[.pointer none,.string x] w _
  go_enter func115,ntmps115
  go_wp2_with fail
  go_ret2
  exact⟨none,none,rfl,rfl,rfl,Below.refl _ _⟩
 | node l k v r ihl ihr=>
  intro p w hT hD hn
  obtain⟨b,pl,pr,rfl,hN⟩:=yf hT
  simp only[Tr.T.len]at hn
  have HI:=hid (ihl pl w hN.left hD (by omega))
  have HJ:=hid (ihr pr w hN.right hD (by omega))
  have HN:=hid hN
  have HD:=hid hD
  have hs1:=Tr.split_len (lt:=less) l x
  have hs2:=Tr.split_len (lt:=less) r x
  have HS:=hid (show(l.split less x).2.len<=1000000/\(r.split less x).1.len<=1000000/\l.len<=1000000/\r.len<=1000000 from⟨by omega,by omega,by omega,by omega⟩)
  have c0:=hN.c0
  have c5:=hN.c5
  have c6:=hN.c6
  have hb:=hN.lt
  clear hT hD hN ihl ihr hs1 hs2 hn
  show Calls prog 115 #[.pointer (some ⟨b,0,none⟩),.string x] w _
  cases hx:less k x
  ·rw[Jd hx]
   go_enter func115,ntmps115
   go_wp2_with fail
   refine HI.out.mono ?_
   rintro e w1 ⟨pa,pb,rfl,ha,hp,hw1⟩
   have c6':=(hw1.cell (p:=⟨b,6,none⟩) hb).trans c6
   have HA:=hid ha
   have HP:=hid hp
   have HW:=hid hw1
   clear ha hp hw1
   dsimp only
   go_wp2_with fail
   refine(yT ⟨HN.out.below HW.out,HP.out,HN.out.right.below HW.out,HD.out.below HW.out⟩ HS.out.1 HS.out.2.2.2).mono ?_
   rintro e w2 ⟨b2,rfl,hg,hw2⟩
   have HG:=hid hg
   have HW2:=hid hw2
   clear hg hw2
   dsimp only
   go_wp2_with fail
   go_ret2
   exact⟨pa,some b2,rfl,HA.out.below HW2.out,HG.out,btrans HW2.out HW.out⟩
  ·rw[Jc hx]
   go_enter func115,ntmps115
   go_wp2_with fail
   refine HJ.out.mono ?_
   rintro e w1 ⟨pa,pb,rfl,ha,hp,hw1⟩
   have c5':=(hw1.cell (p:=⟨b,5,none⟩) hb).trans c5
   have HA:=hid ha
   have HP:=hid hp
   have HW:=hid hw1
   clear ha hp hw1
   dsimp only
   go_wp2_with fail
   refine(yT ⟨HN.out.below HW.out,HN.out.left.below HW.out,HA.out,HD.out.below HW.out⟩ HS.out.2.2.1 HS.out.2.1).mono ?_
   rintro e w2 ⟨b2,rfl,hg,hw2⟩
   have HG:=hid hg
   have HW2:=hid hw2
   clear hg hw2
   dsimp only
   go_wp2_with fail
   go_ret2
   exact⟨some b2,pb,rfl,HG.out,HP.out.below HW2.out,btrans HW2.out HW.out⟩
abbrev mrg(a b:Tt):Tt:=Tr.T.merge less less rk a b
theorem zan: ∀(n:Nat) (t u:Tt) (p q:Option Nat) (w:World),t.len+u.len<=n->n<=100000->Tree w p t->Tree w q u->Dg w->Calls prog 242 #[pv p,pv q] w (kS (mrg t u) w):=by
 intro n
 induction n with
 | zero=>
  intro t u p q w hn _ hT hU _
  cases t with
  |node l k v r=>simp only[Tr.T.len]at hn;omega
  |leaf=>
   obtain rfl:p=none:=hT
   have HU:=hid hU
   have hm:mrg .leaf u=u:=Tr.T.merge_leaf ..
   rw[hm]
   clear hn hU hm
   show Calls prog 242 #[.pointer none,pv q] w _
   go_enter func242,ntmps242
   go_wp2_with fail
   go_ret
   exact⟨q,rfl,HU.out,Below.refl _ _⟩
 | succ n ih=>
  intro t u p q w hn hle hT hU hD
  cases t with
  |leaf=>
   obtain rfl:p=none:=hT
   have HU:=hid hU
   have hm:mrg .leaf u=u:=Tr.T.merge_leaf ..
   rw[hm]
   clear hn hU hm ih hle hD
   show Calls prog 242 #[.pointer none,pv q] w _
   go_enter func242,ntmps242
   go_wp2_with fail
   go_ret
   exact⟨q,rfl,HU.out,Below.refl _ _⟩
  | node l k v r=>
   cases u with
   |leaf=>
    obtain⟨b,pl,pr,rfl,hN⟩:=yf hT
    obtain rfl:q=none:=hU
    have HT:=hid hT
    have hm:mrg (.node l k v r) .leaf= .node l k v r:=Tr.T.merge_node_leaf ..
    rw[hm]
    clear hn hT hm ih hle hD hN
    show Calls prog 242 #[.pointer (some ⟨b,0,none⟩),.pointer none] w _
    go_enter func242,ntmps242
    go_wp2_with fail
    go_ret
    exact⟨some b,rfl,HT.out,Below.refl _ _⟩
   | node l' k' v' r'=>
    obtain⟨b,pl,pr,rfl,hN⟩:=yf hT
    obtain⟨b',pl',pr',rfl,hN'⟩:=yf hU
    simp only[Tr.T.len]at hn
    have HA:=hid (Xm hN hN')
    have HN:=hid hN
    have HN':=hid hN'
    have HD:=hid hD
    have HT:=hid hT
    have HU:=hid hU
    cases ha:ahd k k'
    ·have hm:mrg (.node l k v r) (.node l' k' v' r')= .node (mrg (.node l k v r) l') k' v' r':=Tr.T.merge_behind less less rk ha ..
     rw[hm]
     have hml:(mrg (.node l k v r) l').len=l.len+1+r.len+l'.len:=Tr.merge_len ..
     have HI:=hid (show∀W,Below w.heap.size w W->Calls prog 242 #[.pointer (some ⟨b,0,none⟩),pv pl'] W (kS (mrg (.node l k v r) l') W)from λW (hb:Below w.heap.size w W)=>ih (.node l k v r) l' (some b) pl' W (by simp only[Tr.T.len];omega) (by omega) (HT.out.below hb) (HN'.out.left.below hb) (HD.out.below hb))
     have HG:=hid (λW p1 (hb:Below w.heap.size w W) (h:Tree W p1 (mrg (.node l k v r) l'))=>yT (w:=W) (l:=mrg (.node l k v r) l') ⟨HN'.out.below hb,h,HN'.out.right.below hb,HD.out.below hb⟩ (by omega) (by omega))
     generalize mrg (.node l k v r) l'=m at*
     clear hn hle ih hT hU hD hN hN' hm hml
     show Calls prog 242 #[.pointer (some ⟨b,0,none⟩),.pointer (some ⟨b',0,none⟩)] w _
     go_enter func242,ntmps242
     go_wp2_with fail
     refine HA.out.mono ?_
     rintro e w1 ⟨rfl,hw1⟩
     rw[ha]
     have hB:=hw1.drew
     dsimp only
     go_wp2_with fail
     go_region_held3 (λW=>W.cell? ⟨b',5,none⟩=some (pv pl')/\W.cell? ⟨b',6,none⟩=some (pv pr')/\Below w.heap.size w W)
      (first|exact two HN'.out (by assumption))
      (first
      |(go_at_call 242;(with_reducible refine(HI.out _ (by assumption)).mono ?_);rintro e w2 ⟨p2,rfl,hm2,hw2⟩;have hb2:=btrans hw2 (by assumption))
      |(go_at_call 116;(with_reducible refine(HG.out _ _ (by assumption) hm2).mono ?_);rintro e w3 ⟨b3,rfl,hm3,hw3⟩;have hb3:=btrans hw3 (by assumption)))
     go_wp2_with fail
     go_ret
     exact⟨some b3,rfl,hm3,by assumption⟩
    ·have hm:mrg (.node l k v r) (.node l' k' v' r')= .node l k v (mrg r (.node l' k' v' r')):=Tr.T.merge_ahead less less rk ha ..
     rw[hm]
     have hml:(mrg r (.node l' k' v' r')).len=r.len+(l'.len+1+r'.len):=Tr.merge_len ..
     have HI:=hid (show∀W,Below w.heap.size w W->Calls prog 242 #[pv pr,.pointer (some ⟨b',0,none⟩)] W (kS (mrg r (.node l' k' v' r')) W)from λW (hb:Below w.heap.size w W)=>ih r (.node l' k' v' r') pr (some b') W (by simp only[Tr.T.len];omega) (by omega) (HN.out.right.below hb) (HU.out.below hb) (HD.out.below hb))
     have HG:=hid (λW p1 (hb:Below w.heap.size w W) (h:Tree W p1 (mrg r (.node l' k' v' r')))=>yT (w:=W) (r:=mrg r (.node l' k' v' r')) ⟨HN.out.below hb,HN.out.left.below hb,h,HD.out.below hb⟩ (by omega) (by omega))
     generalize mrg r (.node l' k' v' r')=m at*
     clear hn hle ih hT hU hD hN hN' hm hml
     show Calls prog 242 #[.pointer (some ⟨b,0,none⟩),.pointer (some ⟨b',0,none⟩)] w _
     go_enter func242,ntmps242
     go_wp2_with fail
     refine HA.out.mono ?_
     rintro e w1 ⟨rfl,hw1⟩
     rw[ha]
     have hB:=hw1.drew
     dsimp only
     go_wp2_with fail
     go_region_held3 (λW=>W.cell? ⟨b,5,none⟩=some (pv pl)/\W.cell? ⟨b,6,none⟩=some (pv pr)/\Below w.heap.size w W)
      (first|exact two HN.out (by assumption))
      (first
      |(go_at_call 242;(with_reducible refine(HI.out _ (by assumption)).mono ?_);rintro e w2 ⟨p2,rfl,hm2,hw2⟩;have hb2:=btrans hw2 (by assumption))
      |(go_at_call 116;(with_reducible refine(HG.out _ _ (by assumption) hm2).mono ?_);rintro e w3 ⟨b3,rfl,hm3,hw3⟩;have hb3:=btrans hw3 (by assumption)))
     go_wp2_with fail
     go_ret
     exact⟨some b3,rfl,hm3,by assumption⟩
end Go.Proofs.YtabmamofnhcgbaaGreatDoor.T8
namespace Go.Proofs.YtabmamofnhcgbaaGreatDoor.T8
open Go.RowKit Go.Less Sha
attribute [local go_sem 9000] zg zf zz zA zB zC
abbrev vO(t:Tt)(x y:ByteArray):Tt:=t.put less less rk x y
abbrev xg(t:Tt)(x:ByteArray):Tt:=t.drop less less rk x
section
variable {l r : Tt} {k v x y : ByteArray}
theorem Q8(h:ahd x k=true):vO (.node l k v r) x y= .node ((Tr.T.node l k v r).split less x).1 x y ((Tr.T.node l k v r).split less x).2:=by
 conv=>lhs;unfold vO Tr.T.put
 rw[if_pos (show Tr.ahead less less rk x k=true from h)]
theorem JI(h:ahd x k=false)(h2:less x k=true):vO (.node l k v r) x y= .node (vO l x y) k v r:=by
 conv=>lhs;unfold vO Tr.T.put
 rw[if_neg (λe=>by rw[show ahd x k=true from e]at h;cases h),if_pos h2]
theorem VL(h:ahd x k=false)(h2:less x k=false)(h3:less k x=true):vO (.node l k v r) x y= .node l k v (vO r x y):=by
 conv=>lhs;unfold vO Tr.T.put
 rw[if_neg (λe=>by rw[show ahd x k=true from e]at h;cases h),if_neg (by simp[h2]),if_pos h3]
theorem zch(h:ahd x k=false)(h2:less x k=false)(h3:less k x=false):vO (.node l k v r) x y= .node l x y r:=by
 conv=>lhs;unfold vO Tr.T.put
 rw[if_neg (λe=>by rw[show ahd x k=true from e]at h;cases h),if_neg (by simp[h2]),if_neg (by simp[h3])]
theorem UB(h2:less x k=true):xg (.node l k v r) x= .node (xg l x) k v r:=by
 conv=>lhs;unfold xg Tr.T.drop
 rw[if_pos h2]
theorem X3(h2:less x k=false)(h3:less k x=true):xg (.node l k v r) x= .node l k v (xg r x):=by
 conv=>lhs;unfold xg Tr.T.drop
 rw[if_neg (by simp[h2]),if_pos h3]
theorem zaV(h2:less x k=false)(h3:less k x=false):xg (.node l k v r) x=mrg l r:=by
 conv=>lhs;unfold xg Tr.T.drop
 rw[if_neg (by simp[h2]),if_neg (by simp[h3])]
end
theorem put_any(x y:ByteArray)(bw:Nat): ∀(t:Tt) (p:Option Nat) (w:World),Tree w p t->Node w bw .leaf x y .leaf none none->Dg w->t.len<=10000->Calls prog 76 #[pv p,.pointer (some ⟨bw,0,none⟩)] w (kS (vO t x y) w):=by
 intro t
 induction t with
 |leaf=>
  intro p w hT hW hD hn
  obtain rfl:p=none:=hT
  have HW:=hid hW
  have hm:vO .leaf x y= .node .leaf x y .leaf:=rfl
  rw[hm]
  clear hW hD hn hm
  show Calls prog 76 #[.pointer none,.pointer (some ⟨bw,0,none⟩)] w _
  go_enter func76,ntmps76
  go_wp2_with fail
  go_ret
  exact⟨some bw,rfl,HW.out.tree,Below.refl _ _⟩
 | node l k v r ihl ihr=>
  intro p w hT hW hD hn
  obtain⟨b,pl,pr,rfl,hN⟩:=yf hT
  simp only[Tr.T.len]at hn
  have HA:=hid (Xm hW hN)
  have hlt:=hN.lt
  have hltw:=hW.lt
  have c0:=hN.c0
  have d0:=hW.c0
  have HN:=hid hN
  have HW:=hid hW
  have HD:=hid hD
  have HT:=hid hT
  cases ha:ahd x k
  ·cases h2:less x k
   ·cases h3:less k x
    ·
     rw[zch ha h2 h3]
     have HG:=hid (λW (hb:Below w.heap.size w W)=>yT (w:=W) (l:=l) (r:=r) ⟨HW.out.below hb,HN.out.left.below hb,HN.out.right.below hb,HD.out.below hb⟩ (by omega) (by omega))
     clear hn ihl ihr hT hD hN hW
     show Calls prog 76 #[.pointer (some ⟨b,0,none⟩),.pointer (some ⟨bw,0,none⟩)] w _
     go_enter func76,ntmps76
     go_wp2_with fail
     refine HA.out.mono ?_
     rintro e w1 ⟨rfl,hw1⟩
     rw[ha]
     have c0':=(hw1.cell (p:=⟨b,0,none⟩) hlt).trans c0
     have d0':=(hw1.cell (p:=⟨bw,0,none⟩) hltw).trans d0
     dsimp only
     go_wp2_with fail
     go_quiet (fail)
     go_wp2_with fail
     go_quiet (fail)
     go_wp2_with fail
     have hB: ∀n,Below w.heap.size w (w1.drewN n):=bdn hw1
     have hBd: ∀n,Below w.heap.size w (w1.drewN n).drew:=λn=>(bdn hw1 n).drew
     have hBdd: ∀n m,Below w.heap.size w ((w1.drewN n).drewN m).drew:=λn m=>(bdn (bdn hw1 n) m).drew
     go_region_held3 (λW=>W.cell? ⟨b,5,none⟩=some (pv pl)/\W.cell? ⟨b,6,none⟩=some (pv pr)/\Below w.heap.size w W)
      (first|exact two HN.out (by assumption)|exact two HN.out (hB _)|exact two HN.out (hBd _)|exact two HN.out (hBdd _ _))
      ((go_at_call 116;(with_reducible refine(HG.out _ (by first|assumption|exact hB _)).mono ?_);rintro e w3 ⟨b3,rfl,hm3,hw3⟩;have hb3:=btrans hw3 (by first|assumption|exact hB _)))
     go_wp2_with fail
     go_ret
     exact⟨some b3,rfl,hm3,by assumption⟩
    ·rw[VL ha h2 h3]
     have hml:(vO r x y).len<=r.len+1:=Tr.tput_len r x y
     have HI:=hid (show∀W,Below w.heap.size w W->Calls prog 76 #[pv pr,.pointer (some ⟨bw,0,none⟩)] W (kS (vO r x y) W)from λW hb=>ihr pr W (HN.out.right.below hb) (HW.out.below hb) (HD.out.below hb) (by omega))
     have HG:=hid (λW p1 (hb:Below w.heap.size w W) (h:Tree W p1 (vO r x y))=>yT (w:=W) (l:=l) (r:=vO r x y) ⟨HN.out.below hb,HN.out.left.below hb,h,HD.out.below hb⟩ (by omega) (by omega))
     generalize vO r x y=m at*
     clear hml
     clear hn ihl ihr hT hD hN hW
     show Calls prog 76 #[.pointer (some ⟨b,0,none⟩),.pointer (some ⟨bw,0,none⟩)] w _
     go_enter func76,ntmps76
     go_wp2_with fail
     refine HA.out.mono ?_
     rintro e w1 ⟨rfl,hw1⟩
     rw[ha]
     have c0':=(hw1.cell (p:=⟨b,0,none⟩) hlt).trans c0
     have d0':=(hw1.cell (p:=⟨bw,0,none⟩) hltw).trans d0
     dsimp only
     go_wp2_with fail
     go_quiet (fail)
     go_wp2_with fail
     go_quiet (fail)
     go_wp2_with fail
     have hB: ∀n,Below w.heap.size w (w1.drewN n):=bdn hw1
     have hBd: ∀n,Below w.heap.size w (w1.drewN n).drew:=λn=>(bdn hw1 n).drew
     have hBdd: ∀n m,Below w.heap.size w ((w1.drewN n).drewN m).drew:=λn m=>(bdn (bdn hw1 n) m).drew
     go_region_held3 (λW=>W.cell? ⟨b,5,none⟩=some (pv pl)/\W.cell? ⟨b,6,none⟩=some (pv pr)/\Below w.heap.size w W)
      (first|exact two HN.out (by assumption)|exact two HN.out (hB _)|exact two HN.out (hBd _)|exact two HN.out (hBdd _ _))
      (first
      |(go_at_call 76;(with_reducible refine(HI.out _ (by first|assumption|exact hB _)).mono ?_);rintro e w2 ⟨p2,rfl,hm2,hw2⟩;have hb2:=btrans hw2 (by first|assumption|exact hB _))
      |(go_at_call 116;(with_reducible refine(HG.out _ _ (by assumption) hm2).mono ?_);rintro e w3 ⟨b3,rfl,hm3,hw3⟩;have hb3:=btrans hw3 (by assumption)))
     go_wp2_with fail
     go_ret
     exact⟨some b3,rfl,hm3,by assumption⟩
   ·rw[JI ha h2]
    have hml:(vO l x y).len<=l.len+1:=Tr.tput_len l x y
    have HI:=hid (show∀W,Below w.heap.size w W->Calls prog 76 #[pv pl,.pointer (some ⟨bw,0,none⟩)] W (kS (vO l x y) W)from λW hb=>ihl pl W (HN.out.left.below hb) (HW.out.below hb) (HD.out.below hb) (by omega))
    have HG:=hid (λW p1 (hb:Below w.heap.size w W) (h:Tree W p1 (vO l x y))=>yT (w:=W) (l:=vO l x y) (r:=r) ⟨HN.out.below hb,h,HN.out.right.below hb,HD.out.below hb⟩ (by omega) (by omega))
    generalize vO l x y=m at*
    clear hml
    clear hn ihl ihr hT hD hN hW
    show Calls prog 76 #[.pointer (some ⟨b,0,none⟩),.pointer (some ⟨bw,0,none⟩)] w _
    go_enter func76,ntmps76
    go_wp2_with fail
    refine HA.out.mono ?_
    rintro e w1 ⟨rfl,hw1⟩
    rw[ha]
    have c0':=(hw1.cell (p:=⟨b,0,none⟩) hlt).trans c0
    have d0':=(hw1.cell (p:=⟨bw,0,none⟩) hltw).trans d0
    dsimp only
    go_wp2_with fail
    go_quiet (fail)
    go_wp2_with fail
    have hB: ∀n,Below w.heap.size w (w1.drewN n):=bdn hw1
    have hBd: ∀n,Below w.heap.size w (w1.drewN n).drew:=λn=>(bdn hw1 n).drew
    have hBdd: ∀n m,Below w.heap.size w ((w1.drewN n).drewN m).drew:=λn m=>(bdn (bdn hw1 n) m).drew
    go_region_held3 (λW=>W.cell? ⟨b,5,none⟩=some (pv pl)/\W.cell? ⟨b,6,none⟩=some (pv pr)/\Below w.heap.size w W)
     (first|exact two HN.out (by assumption)|exact two HN.out (hB _)|exact two HN.out (hBd _)|exact two HN.out (hBdd _ _))
     (first
     |(go_at_call 76;(with_reducible refine(HI.out _ (by first|assumption|exact hB _)).mono ?_);rintro e w2 ⟨p2,rfl,hm2,hw2⟩;have hb2:=btrans hw2 (by first|assumption|exact hB _))
     |(go_at_call 116;(with_reducible refine(HG.out _ _ (by assumption) hm2).mono ?_);rintro e w3 ⟨b3,rfl,hm3,hw3⟩;have hb3:=btrans hw3 (by assumption)))
    go_wp2_with fail
    go_ret
    exact⟨some b3,rfl,hm3,by assumption⟩
  ·rw[Q8 ha]
   have hsl:=Tr.split_len (lt:=less) (Tr.T.node l k v r) x
   simp only[Tr.T.len]at hsl
   have HI:=hid (λW (hb:Below w.heap.size w W)=>show Calls prog 115 #[.pointer (some ⟨b,0,none⟩),.string x] W (KL ((Tr.T.node l k v r).split less x) W)from split_any x (.node l k v r) (some b) W (HT.out.below hb) (HD.out.below hb) (by simp only[Tr.T.len];omega))
   generalize (Tr.T.node l k v r).split less x=m at*
   have HG:=hid (λW p1 p2 (hb:Below w.heap.size w W) (h1:Tree W p1 m.1) (h2:Tree W p2 m.2)=>yT (w:=W) (l:=m.1) (r:=m.2) ⟨HW.out.below hb,h1,h2,HD.out.below hb⟩ (by omega) (by omega))
   clear hsl
   clear hn ihl ihr hT hD hN hW
   show Calls prog 76 #[.pointer (some ⟨b,0,none⟩),.pointer (some ⟨bw,0,none⟩)] w _
   go_enter func76,ntmps76
   go_wp2_with fail
   refine HA.out.mono ?_
   rintro e w1 ⟨rfl,hw1⟩
   rw[ha]
   have d0':=(hw1.cell (p:=⟨bw,0,none⟩) hltw).trans d0
   dsimp only
   go_wp2_with fail
   refine(HI.out _ hw1).mono ?_
   rintro e w2 ⟨pa,pb,rfl,ha2,hb2,hw2⟩
   have hB:=btrans hw2 hw1
   have HA2:=hid ha2
   have HB2:=hid hb2
   clear ha2 hb2
   dsimp only
   go_wp2_with fail
   refine(HG.out _ _ _ hB HA2.out HB2.out).mono ?_
   rintro e w3 ⟨b3,rfl,hm3,hw3⟩
   have hb3:=btrans hw3 hB
   dsimp only
   go_wp2_with fail
   go_ret
   exact⟨some b3,rfl,hm3,by assumption⟩
theorem zdq(x:ByteArray): ∀(t:Tt) (p:Option Nat) (w:World),Tree w p t->Dg w->t.len<=10000->Calls prog 217 #[pv p,.string x] w (kS (xg t x) w):=by
 intro t
 induction t with
 |leaf=>
  intro p w hT hD hn
  obtain rfl:p=none:=hT
  have hm:xg .leaf x= .leaf:=rfl
  rw[hm]
  clear hD hn hm
  show Calls prog 217 #[.pointer none,.string x] w _
  go_enter func217,ntmps217
  go_wp2_with fail
  go_ret
  exact⟨none,rfl,rfl,Below.refl _ _⟩
 | node l k v r ihl ihr=>
  intro p w hT hD hn
  obtain⟨b,pl,pr,rfl,hN⟩:=yf hT
  simp only[Tr.T.len]at hn
  have c0:=hN.c0
  have HN:=hid hN
  have HD:=hid hD
  cases h2:less x k
  ·cases h3:less k x
   ·
    rw[zaV h2 h3]
    have HG:=hid (λW (hb:Below w.heap.size w W)=>zan (l.len+r.len) l r pl pr W (Nat.le_refl _) (by omega) (HN.out.left.below hb) (HN.out.right.below hb) (HD.out.below hb))
    clear hn ihl ihr hT hD hN
    show Calls prog 217 #[.pointer (some ⟨b,0,none⟩),.string x] w _
    go_enter func217,ntmps217
    go_wp2_with fail
    have hB: ∀n,Below w.heap.size w (w.drewN n):=bdn (Below.refl _ _)
    have hB1:=(Below.refl w.heap.size w).drew
    have hBd: ∀n,Below w.heap.size w (w.drewN n).drew:=λn=>(bdn (Below.refl _ _) n).drew
    have hBdd: ∀n m,Below w.heap.size w ((w.drewN n).drewN m).drew:=λn m=>(bdn (bdn (Below.refl _ _) n) m).drew
    go_region_held3 (λW=>W.cell? ⟨b,5,none⟩=some (pv pl)/\W.cell? ⟨b,6,none⟩=some (pv pr)/\Below w.heap.size w W)
     (first|exact two HN.out (by assumption)|exact two HN.out (hB _)|exact two HN.out (hBd _)|exact two HN.out (hBdd _ _))
     ((go_at_call 242;(with_reducible refine(HG.out _ (by first|assumption|exact hB _)).mono ?_);rintro e w3 ⟨p3,rfl,hm3,hw3⟩;have hb3:=btrans hw3 (by first|assumption|exact hB _)))
    go_wp2_with fail
    go_ret
    exact⟨p3,rfl,hm3,by assumption⟩
   ·rw[X3 h2 h3]
    have hml:(xg r x).len<=r.len:=Tr.drop_len r x
    have HI:=hid (show∀W,Below w.heap.size w W->Calls prog 217 #[pv pr,.string x] W (kS (xg r x) W)from λW hb=>ihr pr W (HN.out.right.below hb) (HD.out.below hb) (by omega))
    have HG:=hid (λW p1 (hb:Below w.heap.size w W) (h:Tree W p1 (xg r x))=>yT (w:=W) (l:=l) (r:=xg r x) ⟨HN.out.below hb,HN.out.left.below hb,h,HD.out.below hb⟩ (by omega) (by omega))
    generalize xg r x=m at*
    clear hml
    clear hn ihl ihr hT hD hN
    show Calls prog 217 #[.pointer (some ⟨b,0,none⟩),.string x] w _
    go_enter func217,ntmps217
    go_wp2_with fail
    have hB: ∀n,Below w.heap.size w (w.drewN n):=bdn (Below.refl _ _)
    have hB1:=(Below.refl w.heap.size w).drew
    have hBd: ∀n,Below w.heap.size w (w.drewN n).drew:=λn=>(bdn (Below.refl _ _) n).drew
    have hBdd: ∀n m,Below w.heap.size w ((w.drewN n).drewN m).drew:=λn m=>(bdn (bdn (Below.refl _ _) n) m).drew
    go_region_held3 (λW=>W.cell? ⟨b,5,none⟩=some (pv pl)/\W.cell? ⟨b,6,none⟩=some (pv pr)/\Below w.heap.size w W)
     (first|exact two HN.out (by assumption)|exact two HN.out (hB _)|exact two HN.out (hBd _)|exact two HN.out (hBdd _ _))
     (first
     |(go_at_call 217;(with_reducible refine(HI.out _ (by first|assumption|exact hB _)).mono ?_);rintro e w2 ⟨p2,rfl,hm2,hw2⟩;have hb2:=btrans hw2 (by first|assumption|exact hB _))
     |(go_at_call 116;(with_reducible refine(HG.out _ _ (by assumption) hm2).mono ?_);rintro e w3 ⟨b3,rfl,hm3,hw3⟩;have hb3:=btrans hw3 (by assumption)))
    go_wp2_with fail
    go_ret
    exact⟨some b3,rfl,hm3,by assumption⟩
  ·rw[UB h2]
   have hml:(xg l x).len<=l.len:=Tr.drop_len l x
   have HI:=hid (show∀W,Below w.heap.size w W->Calls prog 217 #[pv pl,.string x] W (kS (xg l x) W)from λW hb=>ihl pl W (HN.out.left.below hb) (HD.out.below hb) (by omega))
   have HG:=hid (λW p1 (hb:Below w.heap.size w W) (h:Tree W p1 (xg l x))=>yT (w:=W) (l:=xg l x) (r:=r) ⟨HN.out.below hb,h,HN.out.right.below hb,HD.out.below hb⟩ (by omega) (by omega))
   generalize xg l x=m at*
   clear hml
   clear hn ihl ihr hT hD hN
   show Calls prog 217 #[.pointer (some ⟨b,0,none⟩),.string x] w _
   go_enter func217,ntmps217
   go_wp2_with fail
   have hB: ∀n,Below w.heap.size w (w.drewN n):=bdn (Below.refl _ _)
   have hB1:=(Below.refl w.heap.size w).drew
   have hBd: ∀n,Below w.heap.size w (w.drewN n).drew:=λn=>(bdn (Below.refl _ _) n).drew
   have hBdd: ∀n m,Below w.heap.size w ((w.drewN n).drewN m).drew:=λn m=>(bdn (bdn (Below.refl _ _) n) m).drew
   go_region_held3 (λW=>W.cell? ⟨b,5,none⟩=some (pv pl)/\W.cell? ⟨b,6,none⟩=some (pv pr)/\Below w.heap.size w W)
    (first|exact two HN.out (by assumption)|exact two HN.out (hB _)|exact two HN.out (hBd _)|exact two HN.out (hBdd _ _))
    (first
    |(go_at_call 217;(with_reducible refine(HI.out _ (by first|assumption|exact hB _)).mono ?_);rintro e w2 ⟨p2,rfl,hm2,hw2⟩;have hb2:=btrans hw2 (by first|assumption|exact hB _))
    |(go_at_call 116;(with_reducible refine(HG.out _ _ (by assumption) hm2).mono ?_);rintro e w3 ⟨b3,rfl,hm3,hw3⟩;have hb3:=btrans hw3 (by assumption)))
   go_wp2_with fail
   go_ret
   exact⟨some b3,rfl,hm3,by assumption⟩
end Go.Proofs.YtabmamofnhcgbaaGreatDoor.T8
namespace Go.Proofs.YtabmamofnhcgbaaGreatDoor.T8
open Go.Shelf
def ren316:Go.Shelf.Ren:=⟨fun|316=>113|n=>n,fun|9=>9|3=>3|4=>4|37=>144|0=>0|127=>219|5=>5|n=>n,fun|n=>n⟩
theorem laysM316:Go.Proofs.LaysM.n316 prog ren316:={
 mixed:=by kernel_rfl
 f316:=func113.trans (congrArg some (by kernel_rfl))
 t0:=underlying0
 a0:=Tryz.isAgg0
 z0:=Tryz.sizeOf0
 v0:=Tryz.zeroValue0
 t3:=underlying3
 a3:=Tryz.isAgg3
 z3:=Tryz.sizeOf3
 v3:=Tryz.zeroValue3
 t4:=underlying4
 a4:=Tryz.isAgg4
 z4:=Tryz.sizeOf4
 v4:=Tryz.zeroValue4
 t9:=underlying9
 a9:=Tryz.isAgg9
 z9:=Tryz.sizeOf9
 v9:=Tryz.zeroValue9
 t37:=underlying144
 a37:=Tryz.isAgg144
 z37:=Tryz.sizeOf144
 v37:=Tryz.zeroValue144
 t127:=underlying219
 a127:=Tryz.isAgg219
 z127:=Tryz.sizeOf219
 v127:=Tryz.zeroValue219
 t5:=underlying5
 a5:=Tryz.isAgg5
 z5:=Tryz.sizeOf5
 v5:=Tryz.zeroValue5
 i0:=by kernel_rfl
 i3:=by kernel_rfl
 i4:=by kernel_rfl
 i5:=by kernel_rfl
 i9:=by kernel_rfl
 i37:=by kernel_rfl
 i127:=by kernel_rfl}
open Go.RowKit in
theorem stringslite_Clone(s:ByteArray)(w:World)(hlim:s.size<=281474976710656):
  Calls prog 113 #[.string s] w λe w'=>e= .returned (.string s)/\Below w.heap.size w w':=Any.stringslite_Clone laysM316 s w hlim
open Go.RowKit in
theorem clone_any(s:ByteArray)(w:World)(hlim:s.size<=281474976710656):
  Calls prog 71 #[.string s] w λe w'=>e= .returned (.string s)/\Below w.heap.size w w':=by
 go_enter func71,ntmps71
 go_wp2_with fail
 refine(stringslite_Clone s w hlim).mono ?_
 rintro e w' ⟨rfl,hw⟩
 dsimp only
 go_wp2_with fail
 go_ret
 exact⟨rfl,hw⟩
end Go.Proofs.YtabmamofnhcgbaaGreatDoor.T8
namespace Go.Proofs.YtabmamofnhcgbaaGreatDoor.T8
open Go.RowKit Go.Less Sha
theorem zem(k:ByteArray)(w:World)(g:Nat)(hc:w.cell? ⟨g,0,none⟩=some (.string k))(hD:Dg w)(hk:k.size<=100):
  Calls prog 157 #[.int .u8 2,.slice (some ⟨g,0,none⟩) 1 1] w λe w'=>e= .returned (.string (rk k))/\Below w.heap.size w w':=by
 have hS:Strs (some ⟨g,0,none⟩) 1 [k] w:=
  ⟨rfl,λi hi=>⟨g,0,rfl,by
   match i,hi with
   |0,_=>rw[Nat.zero_add];exact hc⟩⟩
 refine(join_any 2 (some ⟨g,0,none⟩) 1 1 [k] _ hD.k hD.i hS ?_ (by omega)).mono ?_
 ·simp only[zS,List.flatMap_cons,List.flatMap_nil,List.length_append,num_length,jp,List.length_nil];omega
 ·rintro e w' ⟨rfl,h⟩
  exact⟨rfl,h⟩
theorem KK(k v:ByteArray)(w:World)(hD:Dg w)(hk:k.size<=100)(hv:v.size<=10000):
  Calls prog 289 #[.agg #[.string v,.string ⟨#[]⟩,.int .i64 0],.string k,.agg #[.string ⟨#[]⟩,.string ⟨#[]⟩,.int .i64 0],.agg #[.string ⟨#[]⟩,.string ⟨#[]⟩,.int .i64 0]] w λe w'=>e= .returned (.agg #[.string v,.string (nm (.node .leaf k v .leaf)),.int .i64 1])/\Below w.heap.size w w':=qC v ⟨#[]⟩ 0 k .leaf .leaf w hD hk hv (by decide) (by decide)
theorem getd{A B C D E F G:Prop}(h:A/\B/\C/\D/\E/\F/\G):G:=h.2.2.2.2.2.2
def Lf(w:World)(g z:Nat)(v:ByteArray)(W:World):Prop:=
 W.cell? ⟨g,0,none⟩=some (.string v)/\W.cell? ⟨g,1,none⟩=some (.string ⟨#[]⟩)/\W.cell? ⟨g,2,none⟩=some (.int .i64 0)/\W.cell? ⟨z,0,none⟩=some (.string ⟨#[]⟩)/\W.cell? ⟨z,1,none⟩=some (.string ⟨#[]⟩)/\W.cell? ⟨z,2,none⟩=some (.int .i64 0)/\Below w.heap.size w W
theorem Lf.kept{w w1 W:World}{g z:Nat}{v:ByteArray}(hb:Below w1.heap.size w1 W)(h:Lf w g z v w1):Lf w g z v W:=
 have q {x:Nat} {o:Nat} {y:Value} (hc:w1.cell? ⟨x,o,none⟩=some y):W.cell? ⟨x,o,none⟩=some y:=(hb.cell (p:=⟨x,o,none⟩) (block_lt_of_cell hc)).trans hc
 ⟨q h.1,q h.2.1,q h.2.2.1,q h.2.2.2.1,q h.2.2.2.2.1,q h.2.2.2.2.2.1,btrans hb h.2.2.2.2.2.2⟩
theorem zcM(k v:ByteArray)(w:World)(hD:Dg w)(hk:k.size<=100)(hv:v.size<=10000):
  Calls prog 117 #[.string k,.agg #[.string v,.string ⟨#[]⟩,.int .i64 0]] w (Qs (.node .leaf k v .leaf) w):=by
 have hz:=Xq
 have hm:=kI
 have HC:=hid (λW=>clone_any k W (by omega))
 have HD:=hid hD
 have HA:=hid (λW hD=>KK k v W hD hk hv)
 clear hD
 go_enter func117,ntmps117
 go_wp2_with fail
 refine(HC.out _).mono ?_
 rintro e w1 ⟨rfl,hw1⟩
 have hB:=vk (.cells #[.string ⟨#[]⟩,.string ⟨#[]⟩,.int .i64 0] 135) (below_one w (.cells #[.string v,.string ⟨#[]⟩,.int .i64 0] 135))
 have hL:Lf w w.heap.size (w.heap.size+1) v w1:=Lf.kept hw1 ⟨by go_simp,by go_simp,by go_simp,by go_simp,by go_simp,by go_simp,hB⟩
 clear hw1 hB
 have hL':=Lf.kept (Below.refl w1.heap.size w1).drew hL
 dsimp only
 go_wp2_with fail
 go_region_held3 (λW=>W.cell? ⟨w.heap.size,0,none⟩=some (.string v)/\W.cell? ⟨w.heap.size,1,none⟩=some (.string ⟨#[]⟩)/\W.cell? ⟨w.heap.size,2,none⟩=some (.int .i64 0)/\W.cell? ⟨w.heap.size+1,0,none⟩=some (.string ⟨#[]⟩)/\W.cell? ⟨w.heap.size+1,1,none⟩=some (.string ⟨#[]⟩)/\W.cell? ⟨w.heap.size+1,2,none⟩=some (.int .i64 0)/\Below w.heap.size w W)
  (first|exact hL'|(have hq:Lf w w.heap.size (w.heap.size+1) v _:=(by assumption);exact hq)|exact Lf.kept (below_one _ _) (by assumption))
  (first
  |(go_at_call 157;(with_reducible refine(zem k _ _ (by first|assumption|go_simp) (HD.out.below (getd (by assumption))) hk).mono ?_);rintro e w2 ⟨rfl,hw2⟩;have hl2:=Lf.kept hw2 (by assumption))
  |(go_at_call 289;(with_reducible refine(HA.out _ (HD.out.below (getd (by assumption)))).mono ?_);rintro e w3 ⟨rfl,hw3⟩;have hl3:=Lf.kept hw3 (by assumption)))
 go_wp2_with fail
 go_ret
 have hb:=getd hl3
 have h1:=vk (.cells #[.string k,.string (rk k),.string v,.string (nm (.node .leaf k v .leaf)),.int .i64 1,.pointer none,.pointer none] 170) hb
 exact⟨w3.heap.size,rfl,⟨w3.heap.size,none,none,rfl,heap_alloc_new w3 _,hk,hv,rfl,rfl⟩,h1⟩
theorem zcq(k v:ByteArray)(w:World)(hD:Dg w)(hk:k.size<=100)(hv:v.size<=10000):
  Calls prog 77 #[.string k,.string v] w (Qs (.node .leaf k v .leaf) w):=by
 have HC:=hid (clone_any v w (by omega))
 have HL:=hid (λW hD=>zcM k v W hD hk hv)
 go_enter func77,ntmps77
 go_wp2_with fail
 refine HC.out.mono ?_
 rintro e w1 ⟨rfl,hw1⟩
 dsimp only
 go_wp2_with fail
 refine(HL.out _ (hD.below hw1)).mono ?_
 rintro e w2 ⟨b,rfl,hT,hw2⟩
 dsimp only
 go_wp2_with fail
 go_ret
 exact⟨b,rfl,hT,btrans hw2 hw1⟩
theorem zaQ(a b:ByteArray)(c:Int)(w:World):(Instr.field 135 (.agg #[.string a,.string b,.int .i64 c]) 1).run prog w= .ok (.string b) w:=by kernel_rfl
theorem zaP(a b:ByteArray)(c:Int)(w:World):(Instr.field 135 (.agg #[.string a,.string b,.int .i64 c]) 2).run prog w= .ok (.int .i64 c) w:=by kernel_rfl
def vW(l:List Pr)(w:World)(e:Ending)(w':World):Prop:= ∃m,e= .returned (pv m)/\Rp w' m l/\Below w.heap.size w w'
theorem zar{w:World}{b:Nat}{x y:ByteArray}(h:Tree w (some b) (.node .leaf x y .leaf)):Node w b .leaf x y .leaf none none:=by
 obtain⟨b',pl,pr,e,hN⟩:=yf h
 injection e with e
 subst e
 have h1:pl=none:=hN.left
 have h2:pr=none:=hN.right
 subst h1;subst h2
 exact hN
theorem vI{w:World}{m:Option Nat}{l:List Pr}(h:Rp w m l)(hD:Dg w)(hn:l.length<=5000)(k v:ByteArray)(hk:k.size<=100)(hv:v.size<=10000):
  Calls prog 27 #[pv m,.string k,.string v] w (vW (Tr.put less l k v) w):=by
 have HT:=hid (yV h.map)
 have HP:=hid (zcq k v w hD hk hv)
 have HD:=hid hD
 have hlen:(cn l).len<=10000:=by rw[X6];omega
 have HL:=hid hlen
 have HE:=hid (cn_put h.sorted k v)
 have HQ:=hid (Tr.sorted_put rising h.sorted k v)
 clear h hD hn hk hv hlen
 go_enter func27,ntmps27
 go_wp2_with fail
 refine HT.out.mono ?_
 rintro e w' ⟨p,rfl,hp,rfl⟩
 have HPP:=hid hp
 clear hp
 dsimp only
 go_wp2_with fail
 refine HP.out.mono ?_
 rintro e w1 ⟨b,rfl,hb,hw1⟩
 dsimp only
 go_wp2_with fail
 refine(put_any k v b (cn l) p w1 (HPP.out.below hw1) (zar hb) (HD.out.below hw1) HL.out).mono ?_
 rintro e w2 ⟨q,rfl,hq,hw2⟩
 dsimp only
 go_wp2_with fail
 refine(Y7 hq).mono ?_
 rintro e w3 ⟨m',rfl,hm,hw3⟩
 dsimp only
 go_wp2_with fail
 go_ret
 exact⟨m',rfl,⟨HQ.out,by rw[<-HE.out];exact hm⟩,btrans hw3 (btrans hw2 hw1)⟩
theorem vJ{w:World}{m:Option Nat}{l:List Pr}(h:Rp w m l)(hD:Dg w)(hn:l.length<=5000)(k:ByteArray):
  Calls prog 189 #[pv m,.string k] w (vW (Tr.del l k) w):=by
 have HT:=hid (yV h.map)
 have HD:=hid hD
 have hlen:(cn l).len<=10000:=by rw[X6];omega
 have HL:=hid hlen
 have HE:=hid (zfa h.sorted k)
 have HQ:=hid (Tr.sorted_del h.sorted k)
 clear h hD hn hlen
 go_enter func189,ntmps189
 go_wp2_with fail
 refine HT.out.mono ?_
 rintro e w' ⟨p,rfl,hp,rfl⟩
 have HPP:=hid hp
 clear hp
 dsimp only
 go_wp2_with fail
 refine(zdq k (cn l) p w HPP.out HD.out HL.out).mono ?_
 rintro e w2 ⟨q,rfl,hq,hw2⟩
 dsimp only
 go_wp2_with fail
 refine(Y7 hq).mono ?_
 rintro e w3 ⟨m',rfl,hm,hw3⟩
 dsimp only
 go_wp2_with fail
 go_ret
 exact⟨m',rfl,⟨HQ.out,by rw[<-HE.out];exact hm⟩,btrans hw3 hw2⟩
theorem yx{w:World}{m:Option Nat}{l:List Pr}(h:Rp w m l):Calls prog 80 #[pv m] w λe w'=>e= .returned (.int .i64 (l.length:Int))/\Below w.heap.size w w':=by
 have HT:=hid (yV h.map)
 have HN:=hid (X6 l)
 have hf:=zaP
 clear h
 go_enter func80,ntmps80
 go_wp2_with fail
 refine HT.out.mono ?_
 rintro e w' ⟨p,rfl,hp,rfl⟩
 dsimp only
 go_wp2_with fail
 refine(xM hp).mono ?_
 rw[V9]
 rintro e w1 ⟨rfl,hw1⟩
 dsimp only
 go_wp2_with fail
 go_ret
 exact⟨by rw[<-HN.out];rfl,hw1⟩
theorem vA{w:World}{m:Option Nat}{l:List Pr}(h:Rp w m l):Calls prog 24 #[pv m] w λe w'=>e= .returned (.string (nm (cn l)))/\Below w.heap.size w w':=by
 have HT:=hid (yV h.map)
 have HC:=hid (λW=>clone_any (nm (cn l)) W (Nat.le_trans (uz _) (by decide)))
 have hf:=zaQ
 clear h
 go_enter func24,ntmps24
 go_wp2_with fail
 refine HT.out.mono ?_
 rintro e w' ⟨p,rfl,hp,rfl⟩
 dsimp only
 go_wp2_with fail
 refine(xM hp).mono ?_
 rw[V9]
 rintro e w1 ⟨rfl,hw1⟩
 dsimp only
 go_wp2_with fail
 refine(HC.out _).mono ?_
 rintro e w2 ⟨rfl,hw2⟩
 dsimp only
 go_wp2_with fail
 go_ret
 exact⟨rfl,btrans hw2 hw1⟩
theorem yq{w:World}{m:Option Nat}{l:List Pr}(h:Rp w m l)(x v:ByteArray)(hx:Tr.get l x=some v):Calls prog 120 #[pv m,.string x] w λe w'=>e= .returned (.tuple #[.string v,.bool true])/\Below w.heap.size w w':=by
 have HT:=hid (yV h.map)
 have hf:=X7 h.sorted x
 rw[hx]at hf
 have HF:=hid hf
 clear h hf
 go_enter func120,ntmps120
 go_wp2_with fail
 refine HT.out.mono ?_
 rintro e w' ⟨p,rfl,hp,rfl⟩
 dsimp only
 go_wp2_with fail
 refine(find_any hp x).mono ?_
 rintro e w' ⟨q,rfl,hq,rfl⟩
 have hfo:=HF.out
 generalize Tr.T.find less (cn l) x=u at hq hfo
 cases u with
 |leaf=>cases hfo
 |node l' k' v' r'=>
  obtain rfl:v'=v:=by injection hfo
  obtain⟨b,pl,pr,rfl,hN⟩:=yf hq
  have c2:=hN.c2
  have HC:=hid (clone_any v' w (Nat.le_trans hN.val (by decide)))
  clear hN hq hfo HF hp HT
  simp only[pv,zfi]
  go_wp2_with fail
  refine HC.out.mono ?_
  rintro e w2 ⟨rfl,hw2⟩
  dsimp only
  go_wp2_with fail
  go_ret2
  exact⟨rfl,hw2⟩
end Go.Proofs.YtabmamofnhcgbaaGreatDoor.T8
namespace Go.Proofs.YtabmamofnhcgbaaGreatDoor.T8
open Go.RowKit Sha
attribute [local go_sem 9000] run_bytes1
def byteOf(q:Nat):UInt8:=UInt8.ofNat q
theorem byteOf_eq(q:Nat):(q:Int)%256=((byteOf q).toNat:Int):=by unfold byteOf;rw[UInt8.toNat_ofNat'];rfl
def numStr(n k:Nat):ByteArray:=⟨(num n k).toArray⟩
theorem numStr_size(n k:Nat):(numStr n k).size=k:=by show(num n k).toArray.size=k;rw[List.size_toArray,num_length]
theorem numStr_data(n k:Nat):(numStr n k).data.toList=num n k:=rfl
theorem numStr_succ(n k:Nat):(⟨#[byteOf (n/256^k)]⟩:ByteArray)++numStr n k=numStr n (k+1):=by
 apply ByteArray.ext
 rw[ByteArray.data_append]
 apply Array.ext'
 rw[Array.toList_append];rfl
theorem number_any(n:Nat)(v sz:Int)(w:World)(hv:v=n)(hn:n<=1000000000000000)(h0:0<=sz)(h1:sz<=8):
  Calls prog 111 #[.int .i64 v,.int .i64 sz] w λe w'=>e= .returned (.string (numStr n sz.toNat))/\Below w.heap.size w w':=by
 subst hv
 obtain⟨k0,rfl⟩: ∃k0:Nat,sz=k0:=⟨sz.toNat,by omega⟩
 rw[Int.toNat_natCast]
 go_enter func111,ntmps111
 go_wp2
 go_loopw [0,5,6] (λq s i wr=> ∃j:Nat,j<=k0/\i= .int .i64 j/\q= .int .i64 ((n/256^j:Nat):Int)/\s= .string (numStr n j)/\Below w.heap.size w wr) (λ_ _ i _=>k0-(intOf i).toNat)
 case atStart=>exact⟨0,by omega,rfl,by simp,rfl,Below.refl _ _⟩
 case round=>
  obtain⟨j,hj,rfl,rfl,rfl,hW⟩:=hrel
  by_cases hlt:j<k0
  ·have hq:=byteOf_eq (n/256^j)
   have hle:n/256^j<=n:=Nat.div_le_self _ _
   have hS:=numStr_size n j
   have HS:=hid (numStr_succ n j)
   have HD:=hid (show n/256^j/256=n/256^(j+1) by rw[Nat.div_div_eq_div_mul];rfl)
   generalize numStr n j=s at hS HS
   generalize n/256^j=q at hq hle HS HD
   have hs0:(s.size:Int)<=8:=by omega
   have hq1:(q:Int)<=1000000000000000:=by omega
   have hj0:(j:Int)<(k0:Int):=by omega
   clear hS hle
   go_wp2
   go_roundw
   case rel=>exact⟨j+1,by omega,by go_num,by rw[<-HD.out];rfl,by rw[HS.out],hW.alloc hW.size _⟩
   case measure=>simp[intOf];omega
  ·obtain rfl:j=k0:=by omega
   go_wp2
   go_ret
   exact⟨rfl,hW⟩
theorem consts_row: ∀w:World,(Instr.build 216 #[(0,.int .u32 1116352408),(1,.int .u32 1899447441),(2,.int .u32 3049323471),(3,.int .u32 3921009573),(4,.int .u32 961987163),(5,.int .u32 1508970993),(6,.int .u32 2453635748),(7,.int .u32 2870763221),(8,.int .u32 3624381080),(9,.int .u32 310598401),(10,.int .u32 607225278),(11,.int .u32 1426881987),(12,.int .u32 1925078388),(13,.int .u32 2162078206),(14,.int .u32 2614888103),(15,.int .u32 3248222580),(16,.int .u32 3835390401),(17,.int .u32 4022224774),(18,.int .u32 264347078),(19,.int .u32 604807628),(20,.int .u32 770255983),(21,.int .u32 1249150122),(22,.int .u32 1555081692),(23,.int .u32 1996064986),(24,.int .u32 2554220882),(25,.int .u32 2821834349),(26,.int .u32 2952996808),(27,.int .u32 3210313671),(28,.int .u32 3336571891),(29,.int .u32 3584528711),(30,.int .u32 113926993),(31,.int .u32 338241895),(32,.int .u32 666307205),(33,.int .u32 773529912),(34,.int .u32 1294757372),(35,.int .u32 1396182291),(36,.int .u32 1695183700),(37,.int .u32 1986661051),(38,.int .u32 2177026350),(39,.int .u32 2456956037),(40,.int .u32 2730485921),(41,.int .u32 2820302411),(42,.int .u32 3259730800),(43,.int .u32 3345764771),(44,.int .u32 3516065817),(45,.int .u32 3600352804),(46,.int .u32 4094571909),(47,.int .u32 275423344),(48,.int .u32 430227734),(49,.int .u32 506948616),(50,.int .u32 659060556),(51,.int .u32 883997877),(52,.int .u32 958139571),(53,.int .u32 1322822218),(54,.int .u32 1537002063),(55,.int .u32 1747873779),(56,.int .u32 1955562222),(57,.int .u32 2024104815),(58,.int .u32 2227730452),(59,.int .u32 2361852424),(60,.int .u32 2428436474),(61,.int .u32 2756734187),(62,.int .u32 3204031479),(63,.int .u32 3329325298)]).run prog w= .ok (.agg (zY kAt)) w:=λ_=>by kernel_rfl
theorem Yy(w:World):
  Calls prog 155 #[] w λe w'=>e= .returned (.agg (zY kAt))/\Below w.heap.size w w':=by
 go_enter func155,ntmps155
 go_wp2_with (first
  |(refine wpList_store_row rfl 216 _ _ rfl w.heap.size (zY kAt) rfl rfl 216 (zY (λ_=>0)) (heap_alloc_new w _) (by rw[zR];kernel_rfl) (by rw[zR,zR]) (kc _) ?_)
  |fail)
 refine bodyPost_ret (v:= .agg (zY kAt)) (results_cell_row (P:=prog) Tryz.results155 _ _ w.heap.size 216 (zY kAt) (0,0) _ rfl ?_ underlying216 rfl (by rw[zR];kernel_rfl)) rfl ⟨rfl,below_setRow ((Below.refl _ _).alloc (Nat.le_refl _) _) (Nat.le_refl _) _⟩
 exact setRow_heap _ _ _ _ _ _ (heap_alloc_new w _)
def lstr(l:List UInt8):ByteArray:=⟨l.toArray⟩
theorem lstr_size(l:List UInt8):(lstr l).size=l.length:=by show l.toArray.size=_;rw[List.size_toArray]
theorem lstr_append(a b:List UInt8):lstr a++lstr b=lstr (a++b):=by
 apply ByteArray.ext
 rw[ByteArray.data_append]
 apply Array.ext'
 rw[Array.toList_append];rfl
end Go.Proofs.YtabmamofnhcgbaaGreatDoor.T8
