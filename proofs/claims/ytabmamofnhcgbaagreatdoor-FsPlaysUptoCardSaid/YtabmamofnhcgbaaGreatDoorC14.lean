/- A part of the proofs. -/
import Derived.Test.YtabmamofnhcgbaaGreatDoorC13
set_option maxRecDepth 1000000
set_option maxHeartbeats 16000000
open Go.Lib (hid)
open Go.Proofs.Tryz
namespace Fs
open Nd (En Node none0)
open Gr (go upd)
structure EnvOk (E:Env):Prop where
 rising:Tr.Rising E.lt
 few: ∀{p ns},E.sp p=some ns->ns.length<=8
 names: ∀{p ns},E.sp p=some ns-> ∀n∈ns,E.nm (Nd.bs n)=true
 put: ∀s o d,s.size<=4096->(E.put s o d).2=0->(E.put s o d).1.size<=4096
 trunc: ∀s n,(E.trunc s n).2=0->(E.trunc s n).1.size<=4096
 copy: ∀s o t f n,s.size<=4096->(E.copy s o t f n).2=0->(E.copy s o t f n).1.size<=4096
structure Half (E:Env) (f:FS):Prop where
 inos:Rising f.l
 pos: ∀y∈f.l,1<=y.1/\y.1<f.next
 few:f.l.length<=256
 top:isDir f.l 1
 right: ∀{i x},node f.l i=some x->Nd.Right E.lt E.nm x
 there: ∀{i n c},step f.l i n=some c->(node f.l c).isSome=true
 tree:Gr.Tree (step f.l) (isDir f.l) 1
structure Good (E:Env) (f:FS):Prop extends Half E f where
 reach: ∀{i x},node f.l i=some x-> ∃ns,go (step f.l) 1 ns=some i
theorem step_iff{l:List Item}{i:Int}{n:ByteArray}{c:Int}:step l i n=some c↔ ∃x,node l i=some x/\Nd.find x.ents n=some c:=by
 unfold step;rw[Option.bind_eq_some_iff]
theorem Z4{l:List En}{k m:ByteArray}(h:m≠k):Nd.find (Nd.cut l k) m=Nd.find l m:=by
 induction l with
 |nil=>rfl
 |cons x l ih=>
  unfold Nd.cut
  by_cases hx:x.1=k
  ·rw[if_pos hx,Nd.find,if_neg (λe=>h (e.symm.trans hx))]
  ·rw[if_neg hx,Nd.find,Nd.find,ih]
theorem nodeD_kind{l:List Item}{i k:Int}(h:(nodeD l i).kind=k)(hk:k≠0): ∃x,node l i=some x/\nodeD l i=x/\x.kind=k:=by
 cases hn:node l i with
 |none=>unfold nodeD at h;rw[hn]at h;exact absurd h.symm hk
 |some x=>rw[nodeD_of hn]at h;exact⟨x,rfl,nodeD_of hn,h⟩
theorem dir_iff{l:List Item}{i:Int}:isDir l i↔(nodeD l i).kind=2:=
 ⟨λ⟨x,h,hk⟩=>by rw[nodeD_of h];exact hk,λh=>by
  obtain⟨x,h1,_,h2⟩:=nodeD_kind h (by decide)
  exact⟨x,h1,h2⟩⟩
theorem kh(l:List Item)(d:Int)(y:Node):step (setL l d y)=λi n=>if i=d then Nd.find y.ents n else step l i n:=by
 funext i n
 unfold step
 rw[zN]
 split<;>rfl
theorem dir_set{l:List Item}{d i:Int}{y:Node}:isDir (setL l d y) i↔(i=d/\y.kind=2)\/(i≠d/\isDir l i):=by
 unfold isDir
 rw[zN]
 by_cases h:i=d
 ·rw[if_pos h]
  constructor
  ·rintro ⟨x,h1,h2⟩;injection h1 with h1;subst h1;exact .inl ⟨h,h2⟩
  ·rintro (⟨_,h2⟩|⟨h1,_⟩)
   ·exact⟨y,rfl,h2⟩
   ·exact absurd h h1
 ·rw[if_neg h]
  constructor
  ·exact λh1=> .inr ⟨h,h1⟩
  ·rintro (⟨h1,_⟩|⟨_,h2⟩)
   ·exact absurd h1 h
   ·exact h2
section
variable {E : Env} {f : FS}
theorem Half.step_dir(G:Half E f){i:Int}{n:ByteArray}{c:Int}(h:step f.l i n=some c): ∃x,node f.l i=some x/\x.kind=2/\Nd.find x.ents n=some c:=by
 obtain⟨x,h1,h2⟩:=step_iff.1 h
 refine⟨x,h1, ?_,h2⟩
 have hm:=Nd.find_mem h2
 rcases (G.right h1).kinds with ⟨_,_,e,_⟩|⟨e,_⟩|⟨_,_,e,_⟩
 ·rw[e]at hm;cases hm
 ·exact e
 ·rw[e]at hm;cases hm
theorem Half.step_none(G:Half E f){i:Int}(h: ¬ isDir f.l i)(n:ByteArray):step f.l i n=none:=by
 cases hs:step f.l i n with
 |none=>rfl
 |some c=>
  obtain⟨x,h1,h2,_⟩:=G.step_dir hs
  exact absurd ⟨x,h1,h2⟩ h
theorem Half.walk_iff(G:Half E f){i j:Int}{ns:List ByteArray}:walk f.l i ns= .ok j↔go (step f.l) i ns=some j:=by
 induction ns generalizing i with
 |nil=>unfold walk go;constructor<;>(intro h;injection h with h;rw[h])
 | cons n ns ih=>
  rw[Gr.go_cons,walk]
  by_cases hk:(nodeD f.l i).kind=2
  ·rw[if_neg (by simp[hk])]
   obtain⟨x,h1,h2,h3⟩:=nodeD_kind hk (by decide)
   rw[h2]
   cases hf:Nd.find x.ents n with
   | none=>
    constructor
    ·intro h;cases h
    ·rintro ⟨c,hc,_⟩
     obtain⟨y,h4,h5⟩:=step_iff.1 hc
     rw[h1]at h4;injection h4 with h4;subst h4;rw[hf]at h5;cases h5
   | some c=>
    constructor
    ·intro h;exact⟨c,step_iff.2 ⟨x,h1,hf⟩,ih.1 h⟩
    ·rintro ⟨c',hc,hg⟩
     obtain⟨y,h4,h5⟩:=step_iff.1 hc
     rw[h1]at h4;injection h4 with h4;subst h4;rw[hf]at h5;injection h5 with h5;subst h5
     exact ih.2 hg
  ·rw[if_pos hk]
   constructor
   ·intro h;cases h
   ·rintro ⟨c,hc,_⟩
    obtain⟨x,h1,h2,_⟩:=G.step_dir hc
    rw[nodeD_of h1]at hk
    exact absurd h2 hk
theorem Half.go_node(G:Half E f){i j:Int}{ns:List ByteArray}(hi:(node f.l i).isSome=true)(h:go (step f.l) i ns=some j):(node f.l j).isSome=true:=by
 induction ns generalizing i with
 |nil=>injection h with h;rw[<-h];exact hi
 |cons n ns ih=>
  obtain⟨c,h1,h2⟩:=Gr.go_cons.1 h
  exact ih (G.there h1) h2
theorem Half.top_some(G:Half E f):(node f.l 1).isSome=true:=by
 obtain⟨x,h,_⟩:=G.top
 rw[h];rfl
theorem Half.walk_node(G:Half E f){j:Int}{ns:List ByteArray}(h:walk f.l 1 ns= .ok j): ∃x,node f.l j=some x/\nodeD f.l j=x:=by
 have:=G.go_node G.top_some (G.walk_iff.1 h)
 obtain⟨x,hx⟩:=Option.isSome_iff_exists.1 this
 exact⟨x,hx,nodeD_of hx⟩
theorem X1(ps:List ByteArray)(n:ByteArray):(ps++[n]).getLast?=some n:=by simp
theorem place_snoc(l:List Item)(ps:List ByteArray)(n:ByteArray):place l (ps++[n])=match walk l 1 ps with
  | .error e=> .error e
  | .ok d=>if(nodeD l d).kind≠2 then .error 10 else .ok (d,n):=by
 unfold place
 rw[X1,List.dropLast_concat]
 rfl
theorem Half.place_iff(G:Half E f){ns:List ByteArray}{d:Int}{n:ByteArray}:place f.l ns= .ok (d,n)↔ ∃ps,ns=ps++[n]/\go (step f.l) 1 ps=some d/\isDir f.l d:=by
 rcases Gr.snoc_cases ns with rfl|⟨ps,m,rfl⟩
 ·constructor
  ·intro h;cases h
  ·rintro ⟨ps,h,_⟩
   have:=congrArg List.length h
   simp at this
 ·rw [place_snoc]
  constructor
  ·intro h
   cases hw:walk f.l 1 ps with
   |error e=>rw[hw]at h;cases h
   | ok k=>
    rw[hw]at h
    simp only at h
    split at h
    ·cases h
    ·rename_i hk
     injection h with h
     injection h with h1 h2
     subst h1 h2
     exact⟨ps,rfl,G.walk_iff.1 hw,dir_iff.2 (by simpa using hk)⟩
  ·rintro ⟨qs,h,hg,hd⟩
   have hps:ps=qs:=by have:=congrArg List.dropLast h;simpa using this
   have hmn:m=n:=by have:=congrArg List.getLast? h;simpa using this
   subst hps hmn
   rw[G.walk_iff.2 hg]
   simp only
   rw[if_neg (by have:=dir_iff.1 hd;simp[this])]
theorem Yb{l:List Item}{d:Int}(n:ByteArray)(hd:isDir l d):Nd.find (nodeD l d).ents n=step l d n:=by
 obtain⟨x,h,_⟩:=hd
 unfold step
 rw[nodeD_of h,h];rfl
theorem Half.fresh_iff(G:Half E f){ns:List ByteArray}{d:Int}{n:ByteArray}:fresh f.l ns= .ok (d,n)↔ ∃ps,ns=ps++[n]/\go (step f.l) 1 ps=some d/\isDir f.l d/\step f.l d n=none:=by
 unfold fresh
 cases hp:place f.l ns with
 | error e=>
  constructor
  ·intro h;cases h
  ·rintro ⟨ps,h1,h2,h3,_⟩
   rw[G.place_iff.2 ⟨ps,h1,h2,h3⟩]at hp;cases hp
 | ok r=>
  obtain⟨d',n'⟩:=r
  obtain⟨ps,h1,h2,h3⟩:=G.place_iff.1 hp
  simp only
  rw[Yb n' h3]
  constructor
  ·intro h
   split at h
   ·cases h
   ·rename_i hs
    injection h with h
    injection h with e1 e2
    subst e1 e2
    exact⟨ps,h1,h2,h3,by cases hq:step f.l d' n' with
     |none=>rfl
     |some c=>rw[hq]at hs;exact absurd rfl hs⟩
  ·rintro ⟨qs,h4,h5,h6,h7⟩
   have e:=(G.place_iff.2 ⟨qs,h4,h5,h6⟩).symm.trans hp
   injection e with e
   injection e with e1 e2
   subst e1 e2
   rw[h7,if_neg (by simp)]
theorem Uy{l:List Item}{d c:Int}{n:ByteArray}{x:Node}(h:node l d=some x)(hk:x.kind=2)(hn:E.nm (Nd.bs n)=true)(hf:Nd.find x.ents n=none)(hl:x.ents.length<64):enter E l d n c=setL l d {x with ents:=Nd.ins E.lt x.ents n c}:=by
 unfold enter
 rw[nodeD_of h]
 unfold Nd.withE
 rw[if_neg (by simp[hk]),if_neg (by simp[hn]),if_neg (by simp[hf]),if_neg (by omega)]
theorem U8{l:List Item}{d c:Int}{n:ByteArray}{x:Node}(h:node l d=some x)(hf:Nd.find x.ents n=none):step (setL l d {x with ents:=Nd.ins E.lt x.ents n c})=upd (step l) d n (some c):=by
 rw[kh]
 funext i m
 unfold upd
 by_cases hi:i=d
 ·rw[if_pos hi]
  subst hi
  by_cases hm:m=n
  ·subst hm
   rw[if_pos ⟨rfl,rfl⟩]
   exact Nd.find_ins_same hf
  ·rw[if_neg (λe=>hm e.2),show step l i m=Nd.find x.ents m by unfold step;rw[h];rfl]
   exact Nd.find_ins_other hm
 ·rw[if_neg hi,if_neg (λe=>hi e.1)]
theorem V8{l:List Item}{d:Int}{n:ByteArray}{x:Node}(h:node l d=some x)(hk:x.kind=2)(hf:(Nd.find x.ents n).isSome=true):leave l d n=setL l d {x with ents:=Nd.cut x.ents n}:=by
 unfold leave
 rw[nodeD_of h]
 unfold Nd.withoutE
 rw[if_neg (by simp[hk]),if_neg (by simp[hf])]
theorem U7{l:List Item}{d:Int}{n:ByteArray}{x:Node}(R:Tr.Rising E.lt)(h:node l d=some x)(hs:Tr.Sorted E.lt x.ents):step (setL l d {x with ents:=Nd.cut x.ents n})=upd (step l) d n none:=by
 rw[kh]
 funext i m
 unfold upd
 by_cases hi:i=d
 ·rw[if_pos hi]
  subst hi
  by_cases hm:m=n
  ·subst hm
   rw[if_pos ⟨rfl,rfl⟩]
   exact Nd.cut_none R hs
  ·rw[if_neg (λe=>hm e.2),show step l i m=Nd.find x.ents m by unfold step;rw[h];rfl]
   exact Z4 hm
 ·rw[if_neg hi,if_neg (λe=>hi e.1)]
theorem QM{l:List Item}{i:Int}(h: ∀n,step l i n=none):step (dropL l i)=step l:=by
 funext k n
 by_cases hk:k=i
 ·subst hk
  rw[h n]
  unfold step
  rw[xK,if_pos rfl];rfl
 ·unfold step
  rw[xK,if_neg hk]
theorem right_cut(R:Tr.Rising E.lt){x:Node}(h:Nd.Right E.lt E.nm x)(n:ByteArray):Nd.Right E.lt E.nm {x with ents:=Nd.cut x.ents n}:=by
 have hs:=Nd.cut_sub x.ents n
 refine⟨h.m0,h.m1,Nat.le_trans hs.length_le h.len,λe he=>h.ok e (hs.subset he),(Nd.rises_iff R _).2 (((Nd.rises_iff R _).1 h.rise).sublist hs), ?_⟩
 rcases h.kinds with ⟨h1,h2,h3,h4⟩|h1|⟨h1,h2,h3,h4⟩
 ·exact .inl ⟨h1,h2,by show Nd.cut x.ents n=[];rw[h3];rfl,h4⟩
 ·exact .inr (.inl h1)
 ·exact .inr (.inr ⟨h1,h2,by show Nd.cut x.ents n=[];rw[h3];rfl,h4⟩)
theorem YK{l:List Item}{i:Int}{x y:Node}(h:node l i=some x)(he:y.ents=x.ents):step (setL l i y)=step l:=by
 rw[kh]
 funext k n
 split
 ·rename_i e
  subst e
  rw[he];unfold step;rw[h];rfl
 ·rfl
theorem Ya{l:List Item}{i:Int}{x y:Node}(h:node l i=some x)(hk:y.kind=x.kind):isDir (setL l i y)=isDir l:=by
 funext k
 apply propext
 rw[dir_set]
 constructor
 ·rintro (⟨rfl,h1⟩|⟨_,h1⟩)
  ·exact⟨x,h,hk▸h1⟩
  ·exact h1
 ·intro h1
  by_cases hki:k=i
  ·subst hki
   obtain⟨z,h2,h3⟩:=h1
   rw[h]at h2;injection h2 with h2;subst h2
   exact .inl ⟨rfl,hk.trans h3⟩
  ·exact .inr ⟨hki,h1⟩
theorem Half.same(G:Half E f){i:Int}{x y:Node}(h:node f.l i=some x)(he:y.ents=x.ents)(hk:y.kind=x.kind)(hR:Nd.Right E.lt E.nm y):Half E ⟨setL f.l i y,f.next⟩:=by
 have hs:=YK h he
 have hd:=Ya h hk
 refine⟨rising_set G.inos (.inl (by rw[h];rfl)),λz hz=> ?_, ?_,by rw[hd];exact G.top,λ{k z} hz=> ?_,λ{k n c} hc=> ?_,by rw[hs,hd];exact G.tree⟩
 ·rcases mem_set hz with rfl|⟨hz,_⟩
  ·exact G.pos (i,x) (node_mem h)
  ·exact G.pos z hz
 ·rw[len_set,h];exact G.few
 ·rw[zN]at hz
  split at hz
  ·injection hz with hz;rw[<-hz];exact hR
  ·exact G.right hz
 ·rw[hs]at hc
  rw[zN]
  split
  ·rfl
  ·exact G.there hc
theorem Good.same(G:Good E f){i:Int}{x y:Node}(h:node f.l i=some x)(he:y.ents=x.ents)(hk:y.kind=x.kind)(hR:Nd.Right E.lt E.nm y):Good E ⟨setL f.l i y,f.next⟩:=by
 refine⟨G.toHalf.same h he hk hR,λ{k z} hz=> ?_⟩
 show∃ns,go (step (setL f.l i y)) 1 ns=some k
 rw[YK h he]
 have hz:node (setL f.l i y) k=some z:=hz
 rw[zN]at hz
 split at hz
 ·rename_i e;rw[e];exact G.reach h
 ·exact G.reach hz
end
section
variable {E : Env} {f : FS}
theorem Half.gone(H:Half E f){i:Int}(h:f.next<=i):node f.l i=none:=node_none.2 λy hy e=>by have:=(H.pos y hy).2;omega
theorem Half.next_pos(H:Half E f):1<f.next:=by
 obtain⟨x,h,_⟩:=H.top
 exact(H.pos (1,x) (node_mem h)).2
theorem ki{l:List Item}{i:Int}(h:node l i=none)(n:ByteArray):step l i n=none:=by unfold step;rw[h];rfl
theorem Half.none_to(H:Half E f){c:Int}(h:node f.l c=none)(i:Int)(n:ByteArray):step f.l i n≠some c:=λe=>by
 have:=H.there e
 rw[h]at this;cases this
theorem YM{l:List Item}{i:Int}{x:Node}(h:node l i=none)(hx:x.ents=[]):step (setL l i x)=step l:=by
 rw[kh]
 funext k n
 split
 ·rename_i e;rw[e,ki h,hx];rfl
 ·rfl
theorem Half.make(H:Half E f){x:Node}(hR:Nd.Right E.lt E.nm x)(hx:x.ents=[])(hl:f.l.length<256):Half E ⟨setL f.l f.next x,f.next+1⟩:=by
 have hg:=H.gone (Int.le_refl f.next)
 have hs:=YM (x:=x) hg hx
 have h1:=H.next_pos
 refine⟨rising_set H.inos (.inr λy hy=>(H.pos y hy).2),λz hz=> ?_, ?_,dir_set.2 (.inr ⟨by omega,H.top⟩),λ{k z} hz=> ?_,λ{k n c} hc=> ?_, ?_⟩
 ·rcases mem_set hz with rfl|⟨hz,_⟩
  ·show 1<=f.next/\f.next<f.next+1;omega
  ·have:=H.pos z hz;show 1<=z.1/\z.1<f.next+1;omega
 ·rw[len_set,hg];show f.l.length+1<=256;omega
 ·rw[zN]at hz
  split at hz
  ·injection hz with hz;rw[<-hz];exact hR
  ·exact H.right hz
 ·rw[hs]at hc
  rw[zN]
  split
  ·rfl
  ·exact H.there hc
 ·rw[hs]
  refine H.tree.turn (λc hc=> ?_) (λi n c _ hd=> ?_)
  ·rcases dir_set.1 hc with ⟨rfl,_⟩|⟨_,hc⟩
   ·exact .inr (H.none_to hg)
   ·exact .inl hc
  ·refine dir_set.2 (.inr ⟨λe=> ?_,hd⟩)
   obtain⟨y,hy,_⟩:=hd
   rw[e,hg]at hy;cases hy
theorem Half.add(H:Half E f)(K:EnvOk E){d c:Int}{n:ByteArray}{ps:List ByteArray}(hd:isDir f.l d)(hn:E.nm (Nd.bs n)=true)(hs:step f.l d n=none)(hl:(nodeD f.l d).ents.length<64)
  (hc:(node f.l c).isSome=true) (hb:c<=2147483647) (hp:go (step f.l) 1 ps=some d) (h1:c≠1) (hone:isDir f.l c-> ∀i m,step f.l i m≠some c) (hout: ∀qs,go (step f.l) c qs≠some d)
  (hdeep: ∀qs j,go (step f.l) c qs=some j->ps.length+1+qs.length<=8):Half E ⟨enter E f.l d n c,f.next⟩/\step (enter E f.l d n c)=upd (step f.l) d n (some c)/\isDir (enter E f.l d n c)=isDir f.l:=by
 obtain⟨x,hx,hk⟩:=hd
 have hf:Nd.find x.ents n=none:=by unfold step at hs;rw[hx]at hs;exact hs
 rw[nodeD_of hx]at hl
 have he:=Uy (E:=E) (c:=c) hx hk hn hf hl
 have hst:step (enter E f.l d n c)=upd (step f.l) d n (some c):=by rw[he];exact U8 hx hf
 have hdr:isDir (enter E f.l d n c)=isDir f.l:=by rw[he];exact Ya hx rfl
 refine⟨⟨?_,λz hz=> ?_, ?_,by rw[hdr];exact H.top,λ{k z} hz=> ?_,λ{k m e} hm=> ?_, ?_⟩,hst,hdr⟩
 ·rw[he];exact rising_set H.inos (.inl (by rw[hx];rfl))
 ·rw[he]at hz
  rcases mem_set hz with rfl|⟨hz,_⟩
  ·exact H.pos (d,x) (node_mem hx)
  ·exact H.pos z hz
 ·rw[he,len_set,hx];exact H.few
 ·rw[he,zN]at hz
  split at hz
  ·injection hz with hz
   rw[<-hz]
   obtain⟨y,hy⟩:=Option.isSome_iff_exists.1 hc
   exact Nd.right_ins K.rising (H.right hx) hk hn hf hl (H.pos (c,y) (node_mem hy)).1 hb
  ·exact H.right hz
 ·have hm:upd (step f.l) d n (some c) k m=some e:=hst▸hm
  have key:(node f.l e).isSome=true:=by
   unfold upd at hm
   split at hm
   ·injection hm with hm;rw[<-hm];exact hc
   ·exact H.there hm
  rw[he,zN]
  split
  ·rfl
  ·exact key
 ·rw[hdr,hst]
  exact H.tree.add ⟨x,hx,hk⟩ hp h1 hone hout hdeep
theorem Half.less(H:Half E f)(K:EnvOk E){d c:Int}{n:ByteArray}(hs:step f.l d n=some c):Half E ⟨leave f.l d n,f.next⟩/\step (leave f.l d n)=upd (step f.l) d n none/\isDir (leave f.l d n)=isDir f.l:=by
 obtain⟨x,hx,hk,hf⟩:=H.step_dir hs
 have he:=V8 (n:=n) hx hk (by rw[hf];rfl)
 have hst:step (leave f.l d n)=upd (step f.l) d n none:=by rw[he];exact U7 K.rising hx ((Nd.rises_iff K.rising _).1 (H.right hx).rise)
 have hdr:isDir (leave f.l d n)=isDir f.l:=by rw[he];exact Ya hx rfl
 refine⟨⟨?_,λz hz=> ?_, ?_,by rw[hdr];exact H.top,λ{k z} hz=> ?_,λ{k m e} hm=> ?_, ?_⟩,hst,hdr⟩
 ·rw[he];exact rising_set H.inos (.inl (by rw[hx];rfl))
 ·rw[he]at hz
  rcases mem_set hz with rfl|⟨hz,_⟩
  ·exact H.pos (d,x) (node_mem hx)
  ·exact H.pos z hz
 ·rw[he,len_set,hx];exact H.few
 ·rw[he,zN]at hz
  split at hz
  ·injection hz with hz;rw[<-hz];exact right_cut K.rising (H.right hx) n
  ·exact H.right hz
 ·have hm:upd (step f.l) d n none k m=some e:=hst▸hm
  rw[he,zN]
  split
  ·rfl
  ·exact H.there (Gr.upd_less _ _ _ hm)
 ·rw[hdr,hst]
  exact H.tree.sub Gr.upd_less
theorem Half.drop(H:Half E f){i:Int}(h1:i≠1)(hno: ∀n,step f.l i n=none)(hto: ∀k n,step f.l k n≠some i):Half E ⟨dropL f.l i,f.next⟩/\step (dropL f.l i)=step f.l:=by
 have hs:=QM hno
 have hdir: ∀k,isDir (dropL f.l i) k↔k≠i/\isDir f.l k:=λk=>by
  unfold isDir
  rw[xK]
  by_cases hk:k=i
  ·rw[if_pos hk]
   constructor
   ·rintro ⟨x,h,_⟩;cases h
   ·rintro ⟨h,_⟩;exact absurd hk h
  ·rw[if_neg hk]
   exact⟨λh=>⟨hk,h⟩,λh=>h.2⟩
 refine⟨⟨rising_drop H.inos i,λz hz=>H.pos z (List.mem_filter.1 hz).1,Nat.le_trans (len_drop _ _) H.few,(hdir 1).2 ⟨λe=>h1 e.symm,H.top⟩,λ{k z} hz=> ?_,λ{k m e} hm=> ?_, ?_⟩,hs⟩
 ·rw[xK]at hz
  split at hz
  ·cases hz
  ·exact H.right hz
 ·rw[hs]at hm
  rw[xK,if_neg (λ(e':e=i)=>hto k m (e'▸hm))]
  exact H.there hm
 ·rw[hs]
  refine H.tree.turn (λc hc=> .inl ((hdir c).1 hc).2) (λk n c hk hd=>(hdir k).2 ⟨λe=> ?_,hd⟩)
  rw[e,hno]at hk;cases hk
end
theorem some_set{l:List Item}{i k:Int}{x:Node}:(node (setL l i x) k).isSome=true↔k=i\/(node l k).isSome=true:=by
 rw[zN]
 by_cases h:k=i
 ·simp[h]
 ·simp[h]
theorem kj{l:List Item}{i:Int}{x:Node}(h:node l i=some x):(node l i).isSome=true:=by rw[h];rfl
theorem go_fun{s:Gr.Step}{i j k:Int}{ns:List ByteArray}(h:go s i ns=some j)(h':go s i ns=some k):j=k:=by rw[h]at h';injection h'
section
variable {E : Env} {f : FS}
theorem zdp{l:List Item}{d c:Int}{n:ByteArray}(hd:isDir l d)(hn:E.nm (Nd.bs n)=true)(hs:step l d n=none)(hl:(nodeD l d).ents.length<64): ∃x,node l d=some x/\x.kind=2/\enter E l d n c=setL l d {x with ents:=Nd.ins E.lt x.ents n c}:=by
 obtain⟨x,hx,hk⟩:=hd
 rw[nodeD_of hx]at hl
 exact⟨x,hx,hk,Uy hx hk hn (by unfold step at hs;rw[hx]at hs;exact hs) hl⟩
theorem Half.leave_eq(H:Half E f){d c:Int}{n:ByteArray}(hs:step f.l d n=some c): ∃x,node f.l d=some x/\x.kind=2/\Nd.find x.ents n=some c/\leave f.l d n=setL f.l d {x with ents:=Nd.cut x.ents n}:=by
 obtain⟨x,hx,hk,hf⟩:=H.step_dir hs
 exact⟨x,hx,hk,hf,V8 hx hk (by rw[hf];rfl)⟩
theorem Half.some_leave(H:Half E f){d c:Int}{n:ByteArray}(hs:step f.l d n=some c)(k:Int):(node (leave f.l d n) k).isSome=true↔(node f.l k).isSome=true:=by
 obtain⟨x,hx,_,_,he⟩:=H.leave_eq hs
 rw[he,some_set]
 constructor
 ·rintro (rfl|h)
  ·exact kj hx
  ·exact h
 ·exact .inr
theorem jO{l:List Item}{d c:Int}{n:ByteArray}(hd:isDir l d)(hn:E.nm (Nd.bs n)=true)(hs:step l d n=none)(hl:(nodeD l d).ents.length<64)(k:Int):(node (enter E l d n c) k).isSome=true↔(node l k).isSome=true:=by
 obtain⟨x,hx,_,he⟩:=zdp (c:=c) hd hn hs hl
 rw[he,some_set]
 constructor
 ·rintro (rfl|h)
  ·exact kj hx
  ·exact h
 ·exact .inr
theorem Good.reach'(G:Good E f){i:Int}(h:(node f.l i).isSome=true): ∃ns,go (step f.l) 1 ns=some i:=by
 obtain⟨x,hx⟩:=Option.isSome_iff_exists.1 h
 exact G.reach hx
theorem Good.of_half{g:FS}(H:Half E g)(h: ∀k,(node g.l k).isSome=true-> ∃ns,go (step g.l) 1 ns=some k):Good E g:=⟨H,λhz=>h _ (kj hz)⟩
theorem UF(K:EnvOk E)(G:Good E f)(hb:f.next<=2147483647){o:Op}{az:List ByteArray}(h8:az.length<=8)(hnm: ∀n∈az,E.nm (Nd.bs n)=true){g:FS}(h:create E f o az= .ok g):Good E g/\g.next=f.next+1:=by
 have H:=G.toHalf
 unfold create at h
 cases hf:fresh f.l az with
 |error e=>rw[hf]at h;cases h
 | ok r=>
  obtain⟨d,n⟩:=r
  obtain⟨ps,rfl,hp,hd,hs⟩:=H.fresh_iff.1 hf
  rw[hf]at h
  simp only at h
  split at h
  ·cases h
  rename_i hR
  split at h
  ·cases h
  rename_i hl
  split at h
  ·cases h
  rename_i hfew
  injection h with h
  subst h
  refine⟨?_,rfl⟩
  have hx:(madeNode o).ents=[]:=by unfold madeNode;split<;>rfl
  have hR:Nd.Right E.lt E.nm (madeNode o):=(Nd.right_iff _).1 (by simpa using hR)
  have H1:=H.make hR hx (by omega)
  have hg:=H.gone (Int.le_refl f.next)
  have hst:=YM (x:=madeNode o) hg hx
  have hdn:d≠f.next:=λe=>by
   obtain⟨y,hy,_⟩:=hd
   rw[e,hg]at hy;cases hy
  have hd1:isDir (setL f.l f.next (madeNode o)) d:=dir_set.2 (.inr ⟨hdn,hd⟩)
  have hD:nodeD (setL f.l f.next (madeNode o)) d=nodeD f.l d:=by unfold nodeD;rw[zN,if_neg hdn]
  have hn1:=hnm n (by simp)
  have hleaf: ∀m,step f.l f.next m=none:=ki hg
  have h1:=H.next_pos
  have A:=H1.add K (d:=d) (c:=f.next) (n:=n) (ps:=ps) hd1 hn1 (by show step (setL f.l f.next (madeNode o)) d n=none;rw[hst];exact hs) (by show(nodeD (setL f.l f.next (madeNode o)) d).ents.length<64;rw[hD];omega)
   (some_set.2 (.inl rfl)) hb (by show go (step (setL f.l f.next (madeNode o))) 1 ps=some d;rw[hst];exact hp) (by omega)
   (λ_ i m=>by show step (setL f.l f.next (madeNode o)) i m≠_;rw[hst];exact H.none_to hg i m)
   (λqs hq=>by
    have hq:go (step (setL f.l f.next (madeNode o))) f.next qs=some d:=hq
    rw[hst]at hq
    exact hdn (Gr.go_leaf hleaf hq).2)
   (λqs j hq=>by
    have hq:go (step (setL f.l f.next (madeNode o))) f.next qs=some j:=hq
    rw[hst]at hq
    rw[(Gr.go_leaf hleaf hq).1]
    simp at h8|-;omega)
  refine Good.of_half A.1 λk hk=> ?_
  have hk:(node (enter E (setL f.l f.next (madeNode o)) d n f.next) k).isSome=true:=hk
  rw[jO hd1 hn1 (by rw[hst];exact hs) (by rw[hD];omega),some_set]at hk
  show∃ns,go (step (enter E (setL f.l f.next (madeNode o)) d n f.next)) 1 ns=some k
  have hst2:step (enter E (setL f.l f.next (madeNode o)) d n f.next)=upd (step f.l) d n (some f.next):=A.2.1.trans (by show upd (step (setL f.l f.next (madeNode o))) d n _=_;rw[hst])
  rw[hst2]
  rcases hk with rfl|hk
  ·exact⟨ps++[n],Gr.go_snoc.2 ⟨d,Gr.go_less (Gr.upd_more hs) hp,Gr.upd_same ..⟩⟩
  ·obtain⟨ns,hns⟩:=G.reach' hk
   exact⟨ns,Gr.go_less (Gr.upd_more hs) hns⟩
theorem zat(K:EnvOk E)(G:Good E f)(hb:f.next<=2147483647){az bs:List ByteArray}(h8:bs.length<=8)(hnm: ∀n∈bs,E.nm (Nd.bs n)=true){g:FS}(h:link E f az bs= .ok g):Good E g/\g.next=f.next:=by
 have H:=G.toHalf
 unfold link at h
 cases hw:walk f.l 1 az with
 |error e=>rw[hw]at h;cases h
 | ok i=>
  rw[hw]at h
  simp only at h
  split at h
  ·cases h
  rename_i hk
  cases hf:fresh f.l bs with
  |error e=>rw[hf]at h;cases h
  | ok r=>
   obtain⟨d,n⟩:=r
   obtain⟨ps,rfl,hp,hd,hs⟩:=H.fresh_iff.1 hf
   rw[hf]at h
   simp only at h
   split at h
   ·cases h
   rename_i hl
   injection h with h
   subst h
   refine⟨?_,rfl⟩
   obtain⟨x,hx,_⟩:=H.walk_node hw
   have hnd: ¬ isDir f.l i:=λe=>hk (dir_iff.1 e)
   have hleaf:=H.step_none hnd
   have hn1:=hnm n (by simp)
   have A:=H.add K hd hn1 hs (by omega) (kj hx) (by have:=(H.pos (i,x) (node_mem hx)).2;simp only at this;omega) hp (λe=>hnd (e▸H.top)) (λe=>absurd e hnd)
    (λqs hq=>hnd ((Gr.go_leaf hleaf hq).2▸hd)) (λqs j hq=>by rw[(Gr.go_leaf hleaf hq).1];simp at h8|-;omega)
   refine Good.of_half A.1 λk hk=> ?_
   have hk:(node (enter E f.l d n i) k).isSome=true:=hk
   rw[jO hd hn1 hs (by omega)]at hk
   obtain⟨ns,hns⟩:=G.reach' hk
   refine⟨ns, ?_⟩
   show go (step (enter E f.l d n i)) 1 ns=some k
   rw[A.2.1]
   exact Gr.go_less (Gr.upd_more hs) hns
theorem Half.place_step(H:Half E f){az:List ByteArray}{i d:Int}{n:ByteArray}(hw:walk f.l 1 az= .ok i)(hp:place f.l az= .ok (d,n)): ∃ps,az=ps++[n]/\go (step f.l) 1 ps=some d/\step f.l d n=some i:=by
 obtain⟨ps,rfl,h1,_⟩:=H.place_iff.1 hp
 obtain⟨k,h2,h3⟩:=Gr.go_snoc.1 (H.walk_iff.1 hw)
 obtain rfl:=go_fun h1 h2
 exact⟨ps,rfl,h1,h3⟩
theorem countP_zero{l:List Item}{i:Int}:links l i=0↔ ∀y∈l,∀e∈y.2.ents,e.2≠i:=by
 unfold links
 induction l with
 |nil=>simp
 |cons y l ih=>
  rw[List.map_cons,List.sum_cons,Nat.add_eq_zero_iff,ih,List.countP_eq_zero]
  simp
theorem Half.links_iff(H:Half E f)(K:EnvOk E){i:Int}:links f.l i=0↔ ∀k m,step f.l k m≠some i:=by
 rw[countP_zero]
 constructor
 ·intro h k m e
  obtain⟨x,hx,hf⟩:=step_iff.1 e
  exact h (k,x) (node_mem hx) (m,i) (Nd.find_mem hf) rfl
 ·intro h y hy e he hi
  have hx:=node_at H.inos (i:=y.1) (x:=y.2) hy
  exact h y.1 e.1 (step_iff.2 ⟨y.2,hx,by rw[Nd.find_at K.rising ((Nd.rises_iff K.rising _).1 (H.right hx).rise) he,hi]⟩)
theorem Vi(K:EnvOk E)(G:Good E f){az:List ByteArray}{g:FS}(h:unlink f az= .ok g):Good E g/\g.next=f.next:=by
 have H:=G.toHalf
 unfold unlink at h
 cases hw:walk f.l 1 az with
 |error e=>rw[hw]at h;cases h
 | ok i=>
  rw[hw]at h
  simp only at h
  split at h
  ·cases h
  rename_i hk
  cases hp:place f.l az with
  |error e=>rw[hp]at h;cases h
  | ok r=>
   obtain⟨d,n⟩:=r
   rw[hp]at h
   simp only at h
   injection h with h
   subst h
   refine⟨?_,rfl⟩
   obtain⟨ps,rfl,hgo,hs⟩:=H.place_step hw hp
   obtain⟨H1,hst,hdr⟩:=H.less K hs
   have hnd: ¬ isDir f.l i:=λe=>hk (dir_iff.1 e)
   have hleaf:=H.step_none hnd
   have hnd1: ¬ isDir (leave f.l d n) i:=by rw[hdr];exact hnd
   have hkeep: ∀k,k≠i->(node (leave f.l d n) k).isSome=true-> ∃ns,go (upd (step f.l) d n none) 1 ns=some k:=λk hki hk=>by
    obtain⟨ns,hns⟩:=G.reach' ((H.some_leave hs k).1 hk)
    rcases Gr.go_cut hns hs with h|⟨_,qs,_,_,hq⟩
    ·exact⟨ns,h⟩
    ·exact absurd (Gr.go_leaf hleaf hq).2 hki
   split
   ·rename_i h0
    have hto:=(H1.links_iff K).1 h0
    obtain⟨H2,hst2⟩:=H1.drop (i:=i) (λe=>hnd (e▸H.top)) (H1.step_none hnd1) hto
    refine Good.of_half H2 λk hk=> ?_
    have hk:(node (dropL (leave f.l d n) i) k).isSome=true:=hk
    have hst3:step (dropL (leave f.l d n) i)=upd (step f.l) d n none:=hst2.trans hst
    rw[xK]at hk
    split at hk
    ·cases hk
    ·rename_i hki
     obtain⟨ns,hns⟩:=hkeep k hki hk
     exact⟨ns,by show go (step (dropL (leave f.l d n) i)) 1 ns=some k;rw[hst3];exact hns⟩
   ·rename_i h0
    refine Good.of_half H1 λk hk=> ?_
    show∃ns,go (step (leave f.l d n)) 1 ns=some k
    rw[hst]
    by_cases hki:k=i
    ·subst hki
     have hex: ∃j m,step (leave f.l d n) j m=some k:=by
      refine Classical.byContradiction λhno=>h0 ((H1.links_iff K).2 λj m e=>hno ⟨j,m,e⟩)
     obtain⟨j,m,hj⟩:=hex
     have hjd:=H1.tree.leaf hj
     rw[hdr]at hjd
     have hjk:j≠k:=λe=>hnd (e▸hjd)
     obtain⟨y,hy,_⟩:=hjd
     obtain⟨ns,hns⟩:=hkeep j hjk ((H.some_leave hs j).2 (kj hy))
     exact⟨ns++[m],Gr.go_snoc.2 ⟨j,hns,hst▸hj⟩⟩
    ·exact hkeep k hki hk
theorem Ju(K:EnvOk E)(G:Good E f){az:List ByteArray}{g:FS}(h:rmdir f az= .ok g):Good E g/\g.next=f.next:=by
 have H:=G.toHalf
 unfold rmdir at h
 cases hw:walk f.l 1 az with
 |error e=>rw[hw]at h;cases h
 | ok i=>
  rw[hw]at h
  simp only at h
  split at h
  ·cases h
  rename_i hk
  split at h
  ·cases h
  rename_i h1
  split at h
  ·cases h
  rename_i hemp
  cases hp:place f.l az with
  |error e=>rw[hp]at h;cases h
  | ok r=>
   obtain⟨d,n⟩:=r
   rw[hp]at h
   simp only at h
   injection h with h
   subst h
   refine⟨?_,rfl⟩
   obtain⟨ps,rfl,hgo,hs⟩:=H.place_step hw hp
   obtain⟨H1,hst,hdr⟩:=H.less K hs
   have hid:isDir f.l i:=dir_iff.2 (by simpa using hk)
   have hleaf: ∀m,step f.l i m=none:=λm=>by
    rw[<-Yb m hid,show(nodeD f.l i).ents=[] by simpa using hemp];rfl
   have hleaf1: ∀m,step (leave f.l d n) i m=none:=λm=>by
    rw[hst]
    cases hq:upd (step f.l) d n none i m with
    |none=>rfl
    |some c=>have:=Gr.upd_less _ _ _ hq;rw[hleaf]at this;cases this
   have hto: ∀k m,step (leave f.l d n) k m≠some i:=λk m e=>by
    rw[hst]at e
    obtain⟨rfl,rfl⟩:=H.tree.one hid hs (Gr.upd_less _ _ _ e)
    rw[Gr.upd_same]at e;cases e
   obtain⟨H2,hst2⟩:=H1.drop (i:=i) h1 hleaf1 hto
   have hst3:step (dropL (leave f.l d n) i)=upd (step f.l) d n none:=hst2.trans hst
   refine Good.of_half H2 λk hk=> ?_
   have hk:(node (dropL (leave f.l d n) i) k).isSome=true:=hk
   rw[xK]at hk
   split at hk
   ·cases hk
   ·rename_i hki
    obtain⟨ns,hns⟩:=G.reach' ((H.some_leave hs k).1 hk)
    refine⟨ns, ?_⟩
    show go (step (dropL (leave f.l d n) i)) 1 ns=some k
    rw[hst3]
    rcases Gr.go_cut hns hs with h|⟨_,qs,_,_,hq⟩
    ·exact h
    ·exact absurd (Gr.go_leaf hleaf hq).2 hki
end
theorem zdk{l:List En}(g:En->Nat): ∀a,a<=l.foldl (λn e=>max n (g e)) a/\ ∀e∈l,g e<=l.foldl (λn e=>max n (g e)) a:=by
 induction l with
 |nil=>exact λa=>⟨Nat.le_refl _,λe he=>by cases he⟩
 |cons x l ih=>
  intro a
  obtain⟨h1,h2⟩:=ih (max a (g x))
  refine⟨Nat.le_trans (Nat.le_max_left _ _) h1,λe he=> ?_⟩
  rcases List.mem_cons.1 he with rfl|he
  ·exact Nat.le_trans (Nat.le_max_right _ _) h1
  ·exact h2 e he
theorem ze4{l:List Item}: ∀(k:Nat) {i j:Int} {rs:List ByteArray},go (step l) i rs=some j->rs.length<=k->rs.length<=deep l k i:=by
 intro k
 induction k with
 |zero=>intro i j rs _ h;exact Nat.le_trans h (Nat.zero_le _)
 | succ k ih=>
  intro i j rs h hk
  cases rs with
  |nil=>exact Nat.zero_le _
  |cons n rs=>
   obtain⟨c,h1,h2⟩:=Gr.go_cons.1 h
   obtain⟨x,hx,hf⟩:=step_iff.1 h1
   have h3:=ih h2 (by simpa using hk)
   have h4:=(zdk (l:=x.ents) (λe=>1+deep l k e.2) 0).2 (n,c) (Nd.find_mem hf)
   show rs.length+1<=(nodeD l i).ents.foldl (λn e=>max n (1+deep l k e.2)) 0
   rw[nodeD_of hx]
   simp only at h4
   omega
theorem JK(x y:List ByteArray):y.take x.length=x↔ ∃z,y=x++z:=
 ⟨λh=>⟨y.drop x.length,by conv=>lhs;rw[<-List.take_append_drop x.length y,h]⟩,λ⟨z,h⟩=>by rw[h];exact List.take_left⟩
theorem UE{l:List En}{k:ByteArray}{c:Int}(h:Nd.find l k=some c):(Nd.cut l k).length+1=l.length:=by
 induction l with
 |nil=>cases h
 | cons x l ih=>
  unfold Nd.find at h
  unfold Nd.cut
  by_cases hx:x.1=k
  ·rw[if_pos hx];rfl
  ·rw[if_neg hx]at h|-
   rw[List.length_cons,List.length_cons,ih h]
structure Moved (f:FS) (az bs:List ByteArray) (i c d:Int) (ps qs:List ByteArray) (m n:ByteArray):Prop where
 a_is:az=ps++[m]
 b_is:bs=qs++[n]
 c_at:go (step f.l) 1 ps=some c
 d_at:go (step f.l) 1 qs=some d
 was:step f.l c m=some i
 free:step f.l d n=none
 dir:isDir f.l d
 notTop:i≠1
 out:isDir f.l i-> ∀z,bs≠az++z
 room:(nodeD f.l d).ents.length<64\/c=d
 short:bs.length+deep f.l 9 i<=8
section
variable {E : Env} {f : FS}
theorem ZA(G:Half E f){az bs:List ByteArray}{g:FS}(h:rename E f az bs= .ok g): ∃i c d ps qs m n,Moved f az bs i c d ps qs m n/\walk f.l 1 az= .ok i/\g=⟨enter E (leave f.l c m) d n i,f.next⟩:=by
 unfold rename at h
 cases hw:walk f.l 1 az with
 |error e=>rw[hw]at h;cases h
 | ok i=>
  rw[hw]at h
  simp only at h
  split at h
  ·cases h
  rename_i h1
  split at h
  ·cases h
  rename_i h2
  cases hf:fresh f.l bs with
  |error e=>rw[hf]at h;cases h
  | ok r=>
   obtain⟨d,n⟩:=r
   obtain⟨qs,rfl,hq,hd,hs⟩:=G.fresh_iff.1 hf
   rw[hf]at h
   simp only at h
   cases hp:place f.l az with
   |error e=>rw[hp]at h;cases h
   |ok r=>
    obtain⟨c,m⟩:=r
    rw[hp]at h
    simp only at h
    split at h
    ·cases h
    rename_i h3
    injection h with h
    obtain⟨ps,rfl,hgo,hst⟩:=G.place_step hw hp
    refine⟨i,c,d,ps,qs,m,n,⟨rfl,rfl,hgo,hq,hst,hs,hd,h1,λhid z e=>h2 ⟨dir_iff.1 hid,(JK _ _).2 ⟨z,e⟩⟩, ?_,by omega⟩,rfl,h.symm⟩
    by_cases e:c=d
    ·exact .inr e
    ·exact .inl (by omega)
variable {az bs : List ByteArray} {i c d : Int} {ps qs : List ByteArray} {m n : ByteArray}
theorem Moved.out_way(M:Moved f az bs i c d ps qs m n)(H:Half E f){rs:List ByteArray}:go (step f.l) i rs≠some d:=λhr=>by
 by_cases hid:isDir f.l i
 ·have h1:go (step f.l) 1 (az++rs)=some d:=by
   rw[M.a_is]
   exact Gr.go_append_iff.2 ⟨i,Gr.go_snoc.2 ⟨c,M.c_at,M.was⟩,hr⟩
  have:=H.tree.path M.dir M.d_at h1
  exact M.out hid (rs++[n]) (by rw[M.b_is,this,List.append_assoc])
 ·exact hid ((Gr.go_leaf (H.step_none hid) hr).2▸M.dir)
theorem Moved.way(M:Moved f az bs i c d ps qs m n)(H:Half E f):go (upd (step f.l) c m none) 1 qs=some d:=by
 rcases Gr.go_cut M.d_at M.was with h|⟨_,rs,_,_,h⟩
 ·exact h
 ·exact absurd h (M.out_way H)
theorem Moved.below(M:Moved f az bs i c d ps qs m n)(H:Half E f){rs:List ByteArray}{j:Int}(h:go (step f.l) i rs=some j):go (upd (step f.l) c m none) i rs=some j:=by
 rcases Gr.go_cut h M.was with h|⟨r1,_,_,h1,_⟩
 ·exact h
 ·exact absurd (Gr.go_less Gr.upd_less h1) (H.tree.ahead M.c_at M.was)
theorem Moved.free'(M:Moved f az bs i c d ps qs m n):upd (step f.l) c m none d n=none:=by
 cases hq:upd (step f.l) c m none d n with
 |none=>rfl
 |some k=>have:=Gr.upd_less _ _ _ hq;rw[M.free]at this;cases this
structure Behind (E:Env) (f:FS) (c d i:Int) (m n:ByteArray):Prop where
 good:Good E ⟨enter E (leave f.l c m) d n i,f.next⟩
 steps:step (enter E (leave f.l c m) d n i)=upd (upd (step f.l) c m none) d n (some i)
 dirs:isDir (enter E (leave f.l c m) d n i)=isDir f.l
 has: ∀k,(node (enter E (leave f.l c m) d n i) k).isSome=true↔(node f.l k).isSome=true
theorem Moved.behind(M:Moved f az bs i c d ps qs m n)(K:EnvOk E)(G:Good E f)(hb:f.next<=2147483647)(hnm: ∀k∈bs,E.nm (Nd.bs k)=true):Behind E f c d i m n:=by
 have H:=G.toHalf
 obtain⟨H1,hst,hdr⟩:=H.less K M.was
 have hi:=H.there M.was
 obtain⟨xi,hxi⟩:=Option.isSome_iff_exists.1 hi
 have hsome:=H.some_leave M.was
 have hd1:isDir (leave f.l c m) d:=by rw[hdr];exact M.dir
 have hn1:E.nm (Nd.bs n)=true:=hnm n (by rw[M.b_is];simp)
 have hs1:step (leave f.l c m) d n=none:=by rw[hst];exact M.free'
 have hl1:(nodeD (leave f.l c m) d).ents.length<64:=by
  obtain⟨x,hx,hk,hf,he⟩:=H.leave_eq M.was
  by_cases e:d=c
  ·subst e
   have:node (leave f.l d m) d=some {x with ents:=Nd.cut x.ents m}:=by rw[he,zN,if_pos rfl]
   rw[nodeD_of this]
   have h1:=UE hf
   have h2:=(H.right hx).len
   show(Nd.cut x.ents m).length<64
   omega
  ·have:nodeD (leave f.l c m) d=nodeD f.l d:=by unfold nodeD;rw[he,zN,if_neg e]
   rw[this]
   rcases M.room with h|h
   ·exact h
   ·exact absurd h.symm e
 have A:=H1.add K (d:=d) (c:=i) (n:=n) (ps:=qs) hd1 hn1 hs1 hl1 ((hsome i).2 hi) (by have:=(H.pos (i,xi) (node_mem hxi)).2;simp only at this;omega)
  (by show go (step (leave f.l c m)) 1 qs=some d;rw[hst];exact M.way H) M.notTop
  (λhid k m' e=>by
   have hid:isDir (leave f.l c m) i:=hid
   have e:step (leave f.l c m) k m'=some i:=e
   rw[hdr]at hid
   rw[hst]at e
   obtain⟨rfl,rfl⟩:=H.tree.one hid M.was (Gr.upd_less _ _ _ e)
   rw[Gr.upd_same]at e;cases e)
  (λrs hr=>by
   have hr:go (step (leave f.l c m)) i rs=some d:=hr
   rw[hst]at hr
   exact M.out_way H (Gr.go_less Gr.upd_less hr))
  (λrs j hr=>by
   have hr:go (step (leave f.l c m)) i rs=some j:=hr
   rw[hst]at hr
   have hr:=Gr.go_less Gr.upd_less hr
   have h8:=H.tree.deep (Gr.go_append_iff.2 ⟨i,Gr.go_snoc.2 ⟨c,M.c_at,M.was⟩,hr⟩)
   rw[List.length_append]at h8
   have h9:=ze4 9 hr (by omega)
   have h10:=M.short
   rw[M.b_is,List.length_append,List.length_singleton]at h10
   omega)
 have hstep:step (enter E (leave f.l c m) d n i)=upd (upd (step f.l) c m none) d n (some i):=A.2.1.trans (by show upd (step (leave f.l c m)) d n _=_;rw[hst])
 have hhas: ∀k,(node (enter E (leave f.l c m) d n i) k).isSome=true↔(node f.l k).isSome=true:=λk=>(jO hd1 hn1 hs1 hl1 k).trans (hsome k)
 refine⟨Good.of_half A.1 λk hk=> ?_,hstep,A.2.2.trans hdr,hhas⟩
 obtain⟨ns,hns⟩:=G.reach' ((hhas k).1 hk)
 show∃ns,go (step (enter E (leave f.l c m) d n i)) 1 ns=some k
 rw[hstep]
 have up:=Gr.upd_more (v:=some i) M.free'
 rcases Gr.go_cut hns M.was with h|⟨_,rs,_,_,h⟩
 ·exact⟨ns,Gr.go_less up h⟩
 ·exact⟨qs++n::rs,Gr.go_append_iff.2 ⟨d,Gr.go_less up (M.way H),Gr.go_cons.2 ⟨i,Gr.upd_same ..,Gr.go_less up (M.below H h)⟩⟩⟩
theorem zdm(H:Half E f){az:List ByteArray}{i:Int}{x:Node}(h:file f.l az= .ok (i,x)):walk f.l 1 az= .ok i/\node f.l i=some x/\x.kind=1:=by
 unfold file at h
 cases hw:walk f.l 1 az with
 |error e=>rw[hw]at h;cases h
 |ok k=>
  rw[hw]at h
  simp only at h
  split at h
  ·cases h
  rename_i h2
  split at h
  ·cases h
  rename_i h3
  injection h with h
  injection h with h4 h5
  subst h4
  obtain⟨y,hy,hD⟩:=H.walk_node hw
  rw[hD]at h2 h3 h5
  subst h5
  refine⟨rfl,hy, ?_⟩
  rcases (H.right hy).kinds with ⟨e,_⟩|⟨e,_⟩|⟨e,_⟩
  ·exact e
  ·exact absurd e h2
  ·exact absurd e h3
theorem zaU(G:Good E f){az:List ByteArray}{gg:Node->Except Int ByteArray}(hgg: ∀x s,x.data.size<=4096->gg x= .ok s->s.size<=4096){g:FS}(h:edit f az gg= .ok g):Good E g/\g.next=f.next:=by
 unfold edit at h
 cases hf:file f.l az with
 |error e=>rw[hf]at h;cases h
 | ok r=>
  obtain⟨i,x⟩:=r
  obtain⟨hw,hx,hk⟩:=zdm G.toHalf hf
  rw[hf]at h
  simp only at h
  cases hg:gg x with
  |error e=>rw[hg]at h;cases h
  |ok s=>
   rw[hg]at h
   simp only at h
   injection h with h
   subst h
   refine⟨G.same hx rfl rfl ?_,rfl⟩
   have R:=G.right hx
   refine⟨R.m0,R.m1,R.len,R.ok,R.rise, ?_⟩
   rcases R.kinds with ⟨h1,h2,h3,h4⟩|⟨h1,_⟩|⟨h1,_⟩
   ·exact .inl ⟨h1,h2,h3,hgg x s h4 hg⟩
   ·omega
   ·omega
theorem Yh{r:ByteArray×Int}{s:ByteArray}(h:asked r= .ok s):r.2=0/\r.1=s:=by
 unfold asked at h
 split at h
 ·cases h
 ·rename_i e
  injection h with h
  exact⟨by simpa using e,h⟩
theorem KB(K:EnvOk E)(G:Good E f){o:Op}{az bs:List ByteArray}{g:FS}(h:bytes E f o az bs= .ok g):Good E g/\g.next=f.next:=by
 refine zaU G (λx s hx hs=> ?_) h
 split at hs
 ·obtain⟨h1,h2⟩:=Yh hs
  rw[<-h2];exact K.put _ _ _ hx h1
 ·split at hs
  ·obtain⟨h1,h2⟩:=Yh hs
   rw[<-h2];exact K.trunc _ _ h1
  ·cases hf:file f.l bs with
   |error e=>rw[hf]at hs;cases hs
   |ok r=>
    rw[hf]at hs
    obtain⟨h1,h2⟩:=Yh hs
    rw[<-h2];exact K.copy _ _ _ _ _ hx h1
theorem Ky(G:Good E f){o:Op}{az:List ByteArray}{g:FS}(h:chmod f o az= .ok g):Good E g/\g.next=f.next:=by
 unfold chmod at h
 cases hw:walk f.l 1 az with
 |error e=>rw[hw]at h;cases h
 |ok i=>
  rw[hw]at h
  simp only at h
  split at h
  ·cases h
  rename_i hN
  injection h with h
  subst h
  obtain⟨x,hx,hD⟩:=G.toHalf.walk_node hw
  rw[hD]
  have R:=G.right hx
  exact⟨G.same hx rfl rfl ⟨by show 0<=o.n;omega,by show o.n<=511;omega,R.len,R.ok,R.rise,R.kinds⟩,rfl⟩
theorem VB(K:EnvOk E)(G:Good E f)(hb:f.next<=2147483647){az bs:List ByteArray}(hnm: ∀n∈bs,E.nm (Nd.bs n)=true){g:FS}(h:rename E f az bs= .ok g):Good E g/\g.next=f.next:=by
 obtain⟨i,c,d,ps,qs,m,n,M,_,rfl⟩:=ZA G.toHalf h
 exact⟨(M.behind K G hb hnm).good,rfl⟩
theorem act_good(K:EnvOk E)(G:Good E f)(hb:f.next<=2147483647){o:Op}{g:FS}(h:act E f o= .ok g):Good E g/\(g.next=f.next\/g.next=f.next+1):=by
 have keep: ∀{g:FS},Good E g/\g.next=f.next->Good E g/\(g.next=f.next\/g.next=f.next+1):=λh=>⟨h.1,.inl h.2⟩
 unfold act at h
 split at h
 ·cases h
 cases ha:E.sp o.a with
 |none=>rw[ha]at h;cases h
 | some az=>
  rw[ha]at h
  simp only at h
  split at h
  ·cases h
  rename_i hB
  have hbs:(o.kind=4\/o.kind=7\/o.kind=10)->((E.sp o.b).getD []).length<=8/\ ∀n∈(E.sp o.b).getD [],E.nm (Nd.bs n)=true:=λhk=>by
   cases hb:E.sp o.b with
   |none=>exact absurd ⟨hk,hb⟩ hB
   |some bs=>exact⟨K.few hb,K.names hb⟩
  split at h
  ·have:=UF K G hb (K.few ha) (K.names ha) h
   exact⟨this.1,.inr this.2⟩
  split at h
  ·exact keep (KB K G h)
  split at h
  ·rename_i hk
   exact keep (zat K G hb (hbs (.inl hk)).1 (hbs (.inl hk)).2 h)
  split at h
  ·exact keep (Vi K G h)
  split at h
  ·exact keep (Ju K G h)
  split at h
  ·rename_i hk
   exact keep (VB K G hb (hbs (.inr (.inl hk))).2 h)
  ·exact keep (Ky G h)
theorem new_good:Good E new:=by
 have hn:node new.l 1=some ⟨2,493,ByteArray.empty,ByteArray.empty,[]⟩:=rfl
 have hno: ∀i,i≠1->node new.l i=none:=λi h=>by
  show(if(1:Int)=i then _ else _)=none
  rw[if_neg (λe=>h e.symm)];rfl
 have hs: ∀i n,step new.l i n=none:=λi n=>by
  unfold step
  by_cases h:i=1
  ·rw[h,hn];rfl
  ·rw[hno i h];rfl
 refine⟨⟨List.pairwise_singleton _ _,λy hy=> ?_,by decide,⟨_,hn,rfl⟩,λ{i x} h=> ?_,λ{i n c} h=>(by rw[hs]at h;cases h), ?_⟩,λ{i x} h=> ?_⟩
 ·rw[List.mem_singleton.1 hy];decide
 ·by_cases hi:i=1
  ·rw[hi,hn]at h
   injection h with h
   rw[<-h]
   exact⟨by decide,by decide,by decide,λe he=>(by cases he),rfl,.inr (.inl ⟨rfl,rfl,rfl⟩)⟩
  ·rw[hno i hi]at h;cases h
 ·exact⟨λ{i n c} h=>(by rw[hs]at h;cases h),λi n h=>(by rw[hs]at h;cases h),λ{c i n i' n'} _ h=>(by rw[hs]at h;cases h),λ{ns j} h=>by
   rw[(Gr.go_leaf (hs 1) h).1];decide⟩
 ·by_cases hi:i=1
  ·exact⟨[],by rw[hi];rfl⟩
  ·rw[hno i hi]at h;cases h
end
section
variable {E : Env} {f : FS}
theorem Half.ent_step(H:Half E f)(K:EnvOk E){i:Int}{x:Node}(hx:node f.l i=some x){e:En}(he:e∈x.ents):step f.l i e.1=some e.2:=
 step_iff.2 ⟨x,hx,Nd.find_at K.rising ((Nd.rises_iff K.rising _).1 (H.right hx).rise) he⟩
variable {az bs : List ByteArray} {i c d : Int} {ps qs : List ByteArray} {m n : ByteArray}
end
section
variable (E : Env)
def enterP(l:List Item)(ns:List ByteArray)(i:Int):Except Int (List Item):=
 match place l ns with
 | .error e=> .error e
 | .ok (d,n)=>if(Nd.withE E.lt E.nm (nodeD l d) n i).2≠0 then .error (Nd.withE E.lt E.nm (nodeD l d) n i).2 else .ok (enter E l d n i)
def leaveP(l:List Item)(ns:List ByteArray):Except Int (List Item):=
 match place l ns with
 | .error e=> .error e
 | .ok (d,n)=>if(Nd.withoutE (nodeD l d) n).2≠0 then .error (Nd.withoutE (nodeD l d) n).2 else .ok (leave l d n)
end
section
variable {E : Env} {f : FS}
theorem place_dir{l:List Item}{ns:List ByteArray}{d:Int}{n:ByteArray}(h:place l ns= .ok (d,n)):(nodeD l d).kind=2/\n∈ns:=by
 unfold place at h
 cases hl:ns.getLast? with
 |none=>rw[hl]at h;cases h
 | some m=>
  rw[hl]at h
  simp only at h
  cases hw:walk l 1 ns.dropLast with
  |error e=>rw[hw]at h;cases h
  | ok k=>
   rw[hw]at h
   simp only at h
   split at h
   ·cases h
   ·rename_i hk
    injection h with h
    injection h with h1 h2
    subst h1 h2
    exact⟨by simpa using hk,List.mem_of_getLast? hl⟩
theorem U2{x:Node}{n:ByteArray}{i:Int}(hk:x.kind=2)(hn:E.nm (Nd.bs n)=true):(Nd.withE E.lt E.nm x n i).2=if(Nd.find x.ents n).isSome=true then 5 else if 64<=x.ents.length then 3 else 0:=by
 unfold Nd.withE
 rw[if_neg (by simp[hk]),if_neg (by simp[hn])]
 split
 ·rfl
 ·split<;>rfl
theorem Ym{x:Node}{n:ByteArray}(hk:x.kind=2)(hf:(Nd.find x.ents n).isSome=true):(Nd.withoutE x n).2=0:=by
 unfold Nd.withoutE
 rw[if_neg (by simp[hk]),if_neg (by simp[hf])]
theorem qw{l:List Item}{ns:List ByteArray}{i:Int}(hnm: ∀n∈ns,E.nm (Nd.bs n)=true):enterP E l ns i=match fresh l ns with
  | .error e=> .error e
  | .ok (d,n)=>if 64<=(nodeD l d).ents.length then .error 3 else .ok (enter E l d n i):=by
 unfold enterP fresh
 cases hp:place l ns with
 |error e=>rfl
 | ok r=>
  obtain⟨d,n⟩:=r
  obtain⟨hk,hm⟩:=place_dir hp
  simp only
  rw[U2 hk (hnm n hm)]
  by_cases h1:(Nd.find (nodeD l d).ents n).isSome=true
  ·simp[h1]
  ·by_cases h2:64<=(nodeD l d).ents.length
   ·simp[h1,h2]
   ·simp[h1,h2]
theorem link_is{f:FS}{aa bs:List ByteArray}(hnm: ∀n∈bs,E.nm (Nd.bs n)=true):link E f aa bs=match walk f.l 1 aa with
  | .error e=> .error e
  | .ok i=>if(nodeD f.l i).kind=2 then .error 11 else match enterP E f.l bs i with
   | .error e=> .error e
   | .ok l=> .ok ⟨l,f.next⟩:=by
 unfold link
 cases walk f.l 1 aa with
 |error e=>rfl
 | ok i=>
  simp only
  split
  ·rfl
  ·rw[qw hnm]
   cases fresh f.l bs with
   |error e=>rfl
   |ok r=>
    obtain⟨d,n⟩:=r
    simp only
    split<;>rfl
theorem Half.leaveP_is(H:Half E f){aa:List ByteArray}{i:Int}(hw:walk f.l 1 aa= .ok i):leaveP f.l aa=match place f.l aa with
  | .error e=> .error e
  | .ok (d,n)=> .ok (leave f.l d n):=by
 unfold leaveP
 cases hp:place f.l aa with
 |error e=>rfl
 |ok r=>
  obtain⟨d,n⟩:=r
  obtain⟨ps,_,_,hs⟩:=H.place_step hw hp
  obtain⟨hk,_⟩:=place_dir hp
  simp only
  rw[Ym hk (by rw[Yb n (dir_iff.2 hk),hs];rfl),if_neg (by decide)]
theorem Half.unlink_is(H:Half E f){aa:List ByteArray}:unlink f aa=match walk f.l 1 aa with
  | .error e=> .error e
  | .ok i=>if(nodeD f.l i).kind=2 then .error 11 else match leaveP f.l aa with
   | .error e=> .error e
   | .ok l=> .ok ⟨if links l i=0 then dropL l i else l,f.next⟩:=by
 unfold unlink
 cases hw:walk f.l 1 aa with
 |error e=>rfl
 | ok i=>
  simp only
  split
  ·rfl
  ·rw[H.leaveP_is hw]
   cases place f.l aa<;>rfl
theorem Half.rmdir_is(H:Half E f){aa:List ByteArray}:rmdir f aa=match walk f.l 1 aa with
  | .error e=> .error e
  | .ok i=>if(nodeD f.l i).kind≠2 then .error 10 else if i=1 then .error 17 else if(nodeD f.l i).ents≠[]then .error 12 else match leaveP f.l aa with
   | .error e=> .error e
   | .ok l=> .ok ⟨dropL l i,f.next⟩:=by
 unfold rmdir
 cases hw:walk f.l 1 aa with
 |error e=>rfl
 | ok i=>
  simp only
  split
  ·rfl
  ·split
   ·rfl
   ·split
    ·rfl
    ·rw[H.leaveP_is hw]
     cases place f.l aa<;>rfl
theorem zbS{l:List Item}{d k:Int}{x y:Node}(hne:d≠k)(hd:(node l d).isSome=true)(hk:node l k=none):setL (setL l d y) k x=setL (setL l k x) d y:=by
 have h1:(node (setL l d y) k).isSome=false:=by rw[zN,if_neg (Ne.symm hne),hk];rfl
 have h2:(node (setL l k x) d).isSome=true:=by rw[zN,if_neg hne,hd]
 have hall:=node_none.1 hk
 have h3:setL l d y=l.map λz=>if z.1=d then(d,y)else z:=by unfold setL;rw[if_pos hd,List.append_nil]
 have h4:setL l k x=l++[(k,x)]:=by unfold setL;rw[setL_no hall,hk];rfl
 rw[show setL (setL l d y) k x=(setL l d y).map (λz=>if z.1=k then(k,x)else z)++if(node (setL l d y) k).isSome=true then[]else[(k,x)]from rfl,
  show setL (setL l k x) d y=(setL l k x).map (λz=>if z.1=d then(d,y)else z)++if(node (setL l k x) d).isSome=true then[]else[(d,y)]from rfl]
 rw[if_neg (by rw[h1];decide),if_pos h2,List.append_nil,h3,h4,List.map_append]
 rw[setL_no (l:=l.map λz=>if z.1=d then(d,y)else z) λz hz=> ?_]
 ·simp[Ne.symm hne]
 ·obtain⟨u,hu,e⟩:=List.mem_map.1 hz
  rw[<-e]
  split
  ·exact hne
  ·exact hall u hu
theorem Half.create_is(H:Half E f){o:Op}{aa:List ByteArray}(hnm: ∀n∈aa,E.nm (Nd.bs n)=true):create E f o aa=match fresh f.l aa with
  | .error e=> .error e
  | .ok (d,_)=>if Nd.right E.lt E.nm (madeNode o)=false then .error 1 else if 64<=(nodeD f.l d).ents.length then .error 3 else if 256<=f.l.length then .error 6 else match enterP E f.l aa f.next with
   | .error e=> .error e
   | .ok l=> .ok ⟨setL l f.next (madeNode o),f.next+1⟩:=by
 unfold create
 rw[qw hnm]
 cases hf:fresh f.l aa with
 |error e=>rfl
 | ok r=>
  obtain⟨d,n⟩:=r
  obtain⟨ps,h1,h2,h3,h4⟩:=H.fresh_iff.1 hf
  simp only
  split
  ·rfl
  ·split
   ·rfl
   ·split
    ·rfl
    ·rename_i h64 h256
     simp only
     have hno:node f.l f.next=none:=H.gone (Int.le_refl _)
     obtain⟨x,hx,_⟩:=h3
     have hne:d≠f.next:=λe=>by rw[e,hno]at hx;cases hx
     have e1:nodeD (setL f.l f.next (madeNode o)) d=nodeD f.l d:=by unfold nodeD;rw[zN,if_neg hne]
     show Except.ok _=Except.ok _
     unfold enter
     rw[e1,<-zbS hne (by rw[hx];rfl) hno]
theorem Half.rename_is(H:Half E f)(K:EnvOk E){aa bs:List ByteArray}(hnm: ∀n∈bs,E.nm (Nd.bs n)=true):rename E f aa bs=match walk f.l 1 aa with
  | .error e=> .error e
  | .ok i=>if i=1 then .error 17 else if(nodeD f.l i).kind=2/\bs.take aa.length=aa then .error 15 else match fresh f.l bs with
   | .error e=> .error e
   | .ok (d,_)=>match place f.l aa with
    | .error e=> .error e
    | .ok (c,_)=>if 64<=(nodeD f.l d).ents.length/\c≠d then .error 3 else if 8<bs.length+deep f.l 9 i then .error 3 else match leaveP f.l aa with
     | .error e=> .error e
     | .ok l=>match enterP E l bs i with
      | .error e=> .error e
      | .ok l=> .ok ⟨l,f.next⟩:=by
 have key: ∀g,rename E f aa bs= .ok g-> ∃i c d m n,walk f.l 1 aa= .ok i/\leaveP f.l aa= .ok (leave f.l c m)/\enterP E (leave f.l c m) bs i= .ok (enter E (leave f.l c m) d n i)/\g=⟨enter E (leave f.l c m) d n i,f.next⟩:=by
  intro g h
  obtain⟨i,c,d,ps,qs,m,n,M,hw,e⟩:=ZA H h
  obtain⟨H1,hst,hdr⟩:=H.less K M.was
  have hp:place f.l aa= .ok (c,m):=H.place_iff.2 ⟨ps,M.a_is,M.c_at,H.tree.leaf M.was⟩
  refine⟨i,c,d,m,n,hw,by rw[H.leaveP_is hw,hp], ?_,e⟩
  have hd1:isDir (leave f.l c m) d:=by rw[hdr];exact M.dir
  have hfr:fresh (leave f.l c m) bs= .ok (d,n):=H1.fresh_iff.2 ⟨qs,M.b_is,by show go (step (leave f.l c m)) 1 qs=some d;rw[hst];exact M.way H,hd1,by show step (leave f.l c m) d n=none;rw[hst];exact M.free'⟩
  have hl1:(nodeD (leave f.l c m) d).ents.length<64:=by
   obtain⟨x,hx,hk,hf,he⟩:=H.leave_eq M.was
   by_cases e:d=c
   ·subst e
    have:node (leave f.l d m) d=some {x with ents:=Nd.cut x.ents m}:=by rw[he,zN,if_pos rfl]
    rw[nodeD_of this]
    have h1:=UE hf
    have h2:=(H.right hx).len
    show(Nd.cut x.ents m).length<64
    omega
   ·have:nodeD (leave f.l c m) d=nodeD f.l d:=by unfold nodeD;rw[he,zN,if_neg e]
    rw[this]
    rcases M.room with h|h
    ·exact h
    ·exact absurd h.symm e
  rw[qw hnm,hfr]
  simp only
  rw[if_neg (by omega)]
 cases hr:rename E f aa bs with
 | ok g=>
  obtain⟨i,c,d,m,n,hw,hl,he,rfl⟩:=key g hr
  unfold rename at hr
  rw[hw]at hr|-
  simp only at hr|-
  split at hr
  ·cases hr
  rename_i h1
  rw[if_neg h1]
  split at hr
  ·cases hr
  rename_i h2
  rw[if_neg h2]
  cases hf:fresh f.l bs with
  |error e=>rw[hf]at hr;cases hr
  | ok r=>
   obtain⟨d',n'⟩:=r
   rw[hf]at hr
   simp only at hr|-
   cases hp:place f.l aa with
   |error e=>rw[hp]at hr;cases hr
   |ok r=>
    obtain⟨c',m'⟩:=r
    rw[hp]at hr
    simp only at hr|-
    split at hr
    ·cases hr
    rename_i h3
    rw[if_neg (λe=>h3 (.inl e)),if_neg (λe=>h3 (.inr e)),hl]
    simp only
    rw[he]
 | error e=>
  unfold rename at hr
  cases hw:walk f.l 1 aa with
  |error e'=>rw[hw]at hr;exact hr.symm
  | ok i=>
   rw[hw]at hr
   simp only at hr|-
   split at hr
   ·rename_i h1;rw[if_pos h1];exact hr.symm
   rename_i h1
   rw[if_neg h1]
   split at hr
   ·rename_i h2;rw[if_pos h2];exact hr.symm
   rename_i h2
   rw[if_neg h2]
   cases hf:fresh f.l bs with
   |error e'=>rw[hf]at hr;exact hr.symm
   | ok r=>
    obtain⟨d',n'⟩:=r
    rw[hf]at hr
    simp only at hr|-
    cases hp:place f.l aa with
    |error e'=>rw[hp]at hr;exact hr.symm
    | ok r=>
     obtain⟨c',m'⟩:=r
     rw[hp]at hr
     simp only at hr|-
     split at hr
     ·rename_i h3
      rcases h3 with h3|h3
      ·rw[if_pos h3];exact hr.symm
      ·split
       ·exact hr.symm
       ·exact hr.symm
     ·cases hr
end
end Fs
namespace Go.Proofs.YtabmamofnhcgbaaGreatDoor
open Go.RowKit
theorem zcL{a b:List UInt8}(h:lstr a=lstr b):a=b:=by
 have:=congrArg (λx:ByteArray=>x.data.toList) h
 exact this
theorem zaa{xs ys:List (List UInt8)}{k:Nat}(hx:k<xs.length)(hy:k<ys.length)(h:xs.getD k []≠ys.getD k []):xs.isPrefixOf ys=false:=by
 induction xs generalizing ys k with
 |nil=>simp at hx
 | cons x xs ih=>
  cases ys with
  |nil=>simp at hy
  | cons y ys=>
   cases k with
   |zero=>
    simp only[List.getD_cons_zero]at h
    show(x==y&&_)=false
    rw[show(x==y)=false from by rw[beq_eq_false_iff_ne];exact h];rfl
   |succ k=>
    simp only[List.getD_cons_succ,List.length_cons]at h hx hy
    show(x==y&&xs.isPrefixOf ys)=false
    rw[ih (by omega) (by omega) h,Bool.and_false]
theorem qI{xs ys:List (List UInt8)}(h:ys.length<xs.length):xs.isPrefixOf ys=false:=by
 induction xs generalizing ys with
 |nil=>simp at h
 | cons x xs ih=>
  cases ys with
  |nil=>rfl
  |cons y ys=>
   simp only[List.length_cons]at h
   show(x==y&&xs.isPrefixOf ys)=false
   rw[ih (by omega),Bool.and_false]
theorem JJ{xs ys:List (List UInt8)}(hl:xs.length<=ys.length)(h: ∀k,k<xs.length->xs.getD k []=ys.getD k []):xs.isPrefixOf ys=true:=by
 induction xs generalizing ys with
 |nil=>rfl
 | cons x xs ih=>
  cases ys with
  |nil=>simp at hl
  |cons y ys=>
   simp only[List.length_cons]at hl
   show(x==y&&xs.isPrefixOf ys)=true
   have h0:=h 0 (by simp)
   simp only[List.getD_cons_zero]at h0
   rw[h0,ih (by omega) (λk hk=>by have:=h (k+1) (by simp;omega);simpa using this)]
   simp
def yv(a b:List UInt8)(w:World)(e:Ending)(w':World):Prop:=e= .returned (.bool (Nm.within a b))/\Below w.heap.size w w'
theorem yg{a b:List UInt8}{w w':World}{r:Bool}(h:Nm.within a b=r)(hb:Below w.heap.size w w'):yv a b w (.returned (.bool r)) w':=by
 unfold yv;rw[h];exact⟨rfl,hb⟩
theorem Yp(a b:ByteArray)(w:World)(ha:a.size<=1048576)(hb:b.size<=1048576):Calls prog 56 #[.string a,.string b] w (yv a.data.toList b.data.toList w):=by
 go_enter func56,ntmps56
 go_wp2_with fail
 refine(zi a w ha).mono ?_
 rintro e w1 hX
 have HB:=hid hX.below
 have HY:=hid (zi b w1 hb)
 cases hsa:Nm.split a.data.toList with
 | none=>
  obtain rfl:=hX.no hsa
  have HN:=hid (show Nm.within a.data.toList b.data.toList=false from by unfold Nm.within;rw[hsa])
  clear hX hsa
  dsimp only
  go_wp2_with fail
  refine HY.out.mono ?_
  rintro e w2 hX2
  have HP:=hid (yg HN.out (HB.out.trans (hX2.below.mono HB.out.size)))
  cases hsb:Nm.split b.data.toList with
  |none=>
   obtain rfl:=hX2.no hsb
   clear hX2 hsb
   dsimp only
   go_wp2_with fail
   go_ret
   exact HP.out
  |some ys=>
   obtain⟨ao,cap,rfl,_⟩:=hX2.yes ys hsb
   clear hX2 hsb
   dsimp only
   go_wp2_with fail
   go_ret
   exact HP.out
 | some xs=>
  obtain⟨ao,cap,rfl,hT⟩:=hX.yes xs hsa
  have h8:=(yh hsa).1
  have HS:=hid (yA hT rfl)
  clear hX hT
  have hxl:(xs.length:Int)<=8:=by omega
  dsimp only
  go_wp2_with fail
  refine HY.out.mono ?_
  rintro e w2 hX2
  have HB2:=hid (HB.out.trans (hX2.below.mono HB.out.size))
  have HS2:=hid (HS.out.below hX2.below)
  clear HS
  cases hsb:Nm.split b.data.toList with
  |none=>
   obtain rfl:=hX2.no hsb
   have HP:=hid (yg (a:=a.data.toList) (b:=b.data.toList) (show Nm.within a.data.toList b.data.toList=false from by unfold Nm.within;rw[hsa,hsb]) HB2.out)
   clear hX2 hsa hsb
   dsimp only
   go_wp2_with fail
   go_ret
   exact HP.out
  | some ys=>
   obtain⟨ao2,cap2,rfl,hT2⟩:=hX2.yes ys hsb
   have h82:=(yh hsb).1
   have HT:=hid (yA hT2 rfl)
   have hW:Nm.within a.data.toList b.data.toList=xs.isPrefixOf ys:=by unfold Nm.within;rw[hsa,hsb]
   have HW:=hid hW
   clear hX2 hT2 hsa hsb hW
   dsimp only
   rcases Nat.lt_or_ge ys.length xs.length with hl|hl
   ·have hli:(ys.length:Int)<(xs.length:Int):=by omega
    have HP:=hid (yg (HW.out.trans (qI hl)) HB2.out)
    clear hl
    generalize xs.length=lx at*
    generalize ys.length=ly at*
    go_wp2_with fail
    go_ret
    exact HP.out
   ·have hli:(xs.length:Int)<=(ys.length:Int):=by omega
    have HNO:=hid (λk (hx:k<xs.length) (hy:k<ys.length) h=>HW.out.trans (zaa hx hy h))
    have HYES:=hid (λh=>HW.out.trans (JJ hl h))
    have HCX:=hid (λk (hk:k<xs.length)=>HS2.out.cell k hk)
    have HCY:=hid (λk (hk:k<ys.length)=>HT.out.cell k hk)
    have HMX:=hid (λk (hk:k<xs.length)=>show(xs.map lstr).getD k ByteArray.empty=lstr (xs.getD k [])from by rw[List.getD,List.getElem?_map,List.getD,List.getElem?_eq_getElem hk];rfl)
    have HMY:=hid (λk (hk:k<ys.length)=>show(ys.map lstr).getD k ByteArray.empty=lstr (ys.getD k [])from by rw[List.getD,List.getElem?_map,List.getD,List.getElem?_eq_getElem hk];rfl)
    clear HS2 HT HW HY
    generalize hlx:xs.length=lx at*
    generalize hly:ys.length=ly at*
    clear hlx hly
    go_wp2_with fail
    go_loopw [9] (λi wr=> ∃k:Nat,k<=lx/\i= .int .i64 (k:Int)/\(∀j,j<k->xs.getD j []=ys.getD j [])/\Below w2.heap.size w2 wr) (λi _=>lx-(intOf i).toNat)
    case atStart=>exact⟨0,Nat.zero_le _,rfl,(λj hj=>by omega),Below.refl _ _⟩
    case round=>
     obtain⟨k,hk,rfl,hsame,hWr⟩:=hrel
     have HWR:=hid hWr
     have HSM:=hid hsame
     clear hWr hsame
     by_cases hlt:k<lx
     ·have k0:(k:Int)<(lx:Int):=by omega
      have hky:k<ly:=by omega
      have k1:(k:Int)<(ly:Int):=by omega
      have hk0:(0:Int)<=(k:Int):=by omega
      obtain⟨b1,o1,rfl,hc1⟩:=HCX.out k hlt
      obtain⟨b2,o2,rfl,hc2⟩:=HCY.out k hky
      rw[HMX.out k hlt]at hc1
      rw[HMY.out k hky]at hc2
      have hc1:=(HWR.out.cell (p:=⟨b1,o1+k,none⟩) (block_lt_of_cell hc1)).trans hc1
      have hc2:=(HWR.out.cell (p:=⟨b2,o2+k,none⟩) (block_lt_of_cell hc2)).trans hc2
      by_cases he:xs.getD k []=ys.getD k []
      ·have HSM2:=hid (λj (hj:j<k+1)=>show xs.getD j []=ys.getD j []from by
        rcases Nat.eq_or_lt_of_le (Nat.le_of_lt_succ hj)with e|e
        ·rw[e];exact he
        ·exact HSM.out j e)
       rw[he]at hc1
       generalize lstr (ys.getD k [])=z at hc1 hc2
       clear he
       go_wp2_with fail
       go_quiet (fail)
       go_wp2_with fail
       go_roundw
       case rel=>exact⟨k+1,by omega,by go_num,HSM2.out,xo HWR.out⟩
       case measure=>simp[intOf]<;>omega
      ·have HP:=hid (λ(w':World) (hb:Below w.heap.size w w')=>yg (HNO.out k hlt hky he) hb)
       have hzz:((lstr (xs.getD k [])).toList==(lstr (ys.getD k [])).toList)=false:=by
        rw[beq_eq_false_iff_ne,Lib.toList_data,Lib.toList_data,lstr_data,lstr_data];exact he
       clear he
       generalize lstr (xs.getD k [])=y at hc1 hzz
       generalize lstr (ys.getD k [])=z at hc2 hzz
       go_wp2_with fail
       go_quiet (fail)
       go_wp2_with fail
       go_ret
       exact HP.out _ (xo (HB2.out.trans (HWR.out.mono HB2.out.size)))
     ·obtain rfl:k=lx:=by omega
      have HP:=hid (yg (HYES.out HSM.out) (HB2.out.trans (HWR.out.mono HB2.out.size)))
      go_wp2_with fail
      go_ret
      exact HP.out
end Go.Proofs.YtabmamofnhcgbaaGreatDoor
