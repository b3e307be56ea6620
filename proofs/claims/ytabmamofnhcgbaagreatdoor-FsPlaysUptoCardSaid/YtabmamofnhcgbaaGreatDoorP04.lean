/- A part of the proofs. -/
import Derived.Test.YtabmamofnhcgbaaGreatDoorP03
set_option maxRecDepth 1000000
set_option maxHeartbeats 16000000
open Go.Lib (hid)
open Go.Proofs.Tryz
namespace Go.Proofs.YtabmamofnhcgbaaGreatDoor
open Go.RowKit Go.Less Go.Maps
open T6
open T8 (pv Dg Prs)
attribute [local go_sem 9000] zg zf
theorem Items.kept{p:Nat}{T:TypeId}{W W':World}(hk:Kept p T W W'){u v:Value}(hp:W.heap[p]?=some (.cells #[u,v] T (0,0)))(hne:Xp #[u,v]){a:Option Addr}{n:Nat}{L:List MI}(h:Items a n L W):Items a n L W':=by
 refine⟨h.count,λi x hx=> ?_,λx hx=>hk.ents hp hne (h.ents x hx)⟩
 obtain⟨b,off,rfl,hc⟩:=h.cell i x hx
 have hb:b≠p:=by
  rintro rfl
  have h3:=hc 3 _ rfl
  rw[cell_obj hp]at h3
  simp at h3
 refine⟨b,off,rfl,λj v hj=> ?_⟩
 rw[<-hc j v hj];simp only[World.cell?,hk.all b hb]
theorem Items.turn{g:Nat}{W W':World}(ht:Turn g W W'){f:Fs.FS}(hF:Fo W g f){a:Option Addr}{n:Nat}{L:List MI}(h:Items a n L W):Items a n L W':=by
 refine⟨h.count,λi x hx=> ?_,λx hx=>ht.ents hF (h.ents x hx)⟩
 obtain⟨b,off,rfl,hc⟩:=h.cell i x hx
 have hb:b≠g:=by
  rintro rfl
  obtain⟨m,hg,_⟩:=hF
  have h3:=hc 3 _ rfl
  rw[cell_obj hg]at h3
  simp at h3
 exact⟨b,off,rfl,λj v hj=>yn ht (hc j v hj) hb⟩
theorem ZQ{p:Nat}{W:World}{cs:Array Value}(h:W.heap[p]?=some (.cells cs 29 (0,0)))(c2:Array Value):Kept p 29 W (W.setRow p c2):=⟨⟨_,_,h⟩,by decide,by decide,λj hj=>setRow_other _ _ _ _ hj⟩
theorem zbf{w0 W:World}(h:Below w0.heap.size w0 W){p:Nat}(hp:w0.heap.size<=p)(cs:Array Value):Below w0.heap.size w0 (W.setRow p cs):=
 ⟨h.os,h.tape,h.output,by rw[setRow_size];exact h.size,λk hk=>(setRow_other _ _ _ _ (by omega)).trans (h.block k hk)⟩
theorem Fo.row{g p:Nat}{W:World}{f:Fs.FS}(h:Fo W g f){cs:Array Value}(hp:W.heap[p]?=some (.cells cs 29 (0,0)))(c2:Array Value)(hD:Dg (W.setRow p c2)):Fo (W.setRow p c2) g f:=by
 obtain⟨m,hg,hS⟩:=h
 exact⟨m,(ZQ hp c2).block hg (by decide),hS.kept (ZQ hp c2) hD⟩
structure Fm (w:World) (pm g:Nat) (f:Fs.FS) (am:Option Addr) (cm:Nat) (L:List MI) (W:World):Prop where
 ie:its L=f.l
 box:W.heap[pm]?=some (.cells #[.slice am L.length cm,.int .i64 f.next] 29 (0,0))
 items:Items am L.length L W
 fo:Fo W g f
 below:Below w.heap.size w W
 lo:w.heap.size<=pm
 gl:w.heap.size<=g
theorem Fm.kept{w W W':World}{pm g:Nat}{f:Fs.FS}{am:Option Addr}{cm:Nat}{L:List MI}(h:Fm w pm g f am cm L W)(hb:Below W.heap.size W W'):Fm w pm g f am cm L W':=
 ⟨h.ie,(hb.block _ (lt_of_obj h.box)).trans h.box,h.items.below hb,h.fo.below hb,h.below.trans (hb.mono h.below.size),h.lo,h.gl⟩
structure Fn (w:World) (pm p9 g:Nat) (f f1:Fs.FS) (am a1:Option Addr) (cm c1 n0:Nat) (L1:List MI) (W:World):Prop where
 ie:its L1=f1.l
 box:W.heap[pm]?=some (.cells #[.slice am n0 cm,.int .i64 f.next] 29 (0,0))
 new:W.heap[p9]?=some (.cells #[.slice a1 L1.length c1,.int .i64 f1.next] 29 (0,0))
 items:Items a1 L1.length L1 W
 fo:Fo W g f
 below:Below w.heap.size w W
 lo:w.heap.size<=pm
 gl:w.heap.size<=g
theorem Fn.row{w W:World}{pm p9 g:Nat}{f f1:Fs.FS}{am a1:Option Addr}{cm c1 n0:Nat}{L1:List MI}(h:Fn w pm p9 g f f1 am a1 cm c1 n0 L1 W)(hD:Dg w):
  let W':=W.setRow pm #[.slice a1 L1.length c1,.int .i64 f1.next]
  its L1=f1.l/\W'.heap[pm]?=some (.cells #[.slice a1 L1.length c1,.int .i64 f1.next] 29 (0,0))/\Items a1 L1.length L1 W'/\Fo W' g f/\Below w.heap.size w W':=by
 have hb:=zbf h.below h.lo #[.slice a1 L1.length c1,.int .i64 f1.next]
 exact⟨h.ie,setRow_heap _ _ _ _ _ _ h.box,h.items.kept (ZQ h.box _) h.box (Zf _ _ _ _),h.fo.row h.box _ (hD.below hb),hb⟩
theorem Zq{f:Fs.FS}(G:Fs.Half env f){L:List MI}(h:its L=f.l){o:Fs.Op}(ha:o.a.size<=1048576)(hb:o.b.size<=1048576):Small11 L L.length o:=by
 refine⟨?_,λx hx=> ?_,ha,hb⟩
 ·have:=G.few;rw[<-h]at this;unfold its at this;rw[List.length_map]at this;omega
 ·have hm:x.it∈f.l:=by rw[<-h];exact List.mem_map.2 ⟨x,hx,rfl⟩
  have:=(G.right (Fs.node_at G.inos (show(x.it.1,x.it.2)∈f.l from hm))).len
  show x.it.2.ents.length<=1000
  omega
theorem j5{f:Fs.FS}(G:Fs.Half env f)(p:ByteArray):(zu f.l p).2.1.data.size<=1000000:=by
 unfold zu
 split
 ·rename_i h1
  rcases yH f.l p with ⟨e,hne,hf⟩|⟨ns,j,hs,hw,hf⟩
  ·rw[hf];exact Nat.zero_le _
  ·rw[hf]at h1;exact absurd rfl h1
 ·split
  ·decide
  ·split
   ·decide
   ·rcases yH f.l p with ⟨e,hne,hf⟩|⟨ns,j,hs,hw,hf⟩
    ·rw[hf];exact Nat.zero_le _
    ·rw[hf]
     obtain⟨y,hy,hyD⟩:=G.walk_node hw
     show(Fs.nodeD f.l j).data.size<=1000000
     rw[hyD]
     exact Nat.le_trans (jy (G.right hy)) (by decide)
theorem ask_of{f:Fs.FS}(G:Fs.Half env f)(hn:0<=f.next/\f.next<=1000000){o:Fs.Op}(hO:OpOk o):Ask11 f.l f.next o:=
 ⟨Fs.dir_iff.1 G.top,λns i _ hw=>Qg G hw,by omega,j5 G _,j5 G _,hO.data,hO.off,hO.from_,hO.n⟩
theorem Fm.new{w wr w20:World}{pm g:Nat}{f f1:Fs.FS}{am a1:Option Addr}{cm c1:Nat}{L L1:List MI}(h:Fm w pm g f am cm L wr)(hb:Below wr.heap.size wr w20)(hL:its L1=f1.l)(hI:Items a1 L1.length L1 w20):Fn w pm w20.heap.size g f f1 am a1 cm c1 L.length L1 (w20.alloc (.cells #[.slice a1 L1.length c1,.int .i64 f1.next] 29)):=by
 have h2:=(h.kept hb).kept (below_one w20 (.cells #[.slice a1 L1.length c1,.int .i64 f1.next] 29))
 exact⟨hL,h2.box,heap_alloc_new _ _,hI.below (below_one _ _),h2.fo,h2.below,h2.lo,h2.gl⟩
theorem Fm.set2{w wr w20:World}{pm g:Nat}{f f1:Fs.FS}{am a1:Option Addr}{cm c1:Nat}{L L1:List MI}(h:Fm w pm g f am cm L wr)(hb:Below wr.heap.size wr w20)(hL:its L1=f1.l)(hI:Items a1 L1.length L1 w20)(hz:w20.heap[wr.heap.size]?=some (.cells #[.slice none 0 0,.int .i64 0] 29 (0,0)))(hD:Dg w):Fn w pm wr.heap.size g f f1 am a1 cm c1 L.length L1 ((w20.setCell ⟨wr.heap.size,0,none⟩ (.slice a1 L1.length c1)).setCell ⟨wr.heap.size,1,none⟩ (.int .i64 f1.next)):=by
 have h2:=h.kept hb
 have hp:=lt_of_obj h.box
 have k1:=Kept.cell hz (by decide) (by decide) 0 (.slice a1 L1.length c1)
 have hz1:=heap_setCell_same w20 wr.heap.size 0 _ 29 (.slice a1 L1.length c1) hz
 have hz1:(w20.setCell ⟨wr.heap.size,0,none⟩ (.slice a1 L1.length c1)).heap[wr.heap.size]?=some (.cells #[.slice a1 L1.length c1,.int .i64 0] 29 (0,0)):=by simpa using hz1
 have k2:=Kept.cell hz1 (by decide) (by decide) 1 (.int .i64 f1.next)
 have b1:=h2.below.setCell (p:=⟨wr.heap.size,0,none⟩) h.below.size (.slice a1 L1.length c1)
 have b2:=b1.setCell (p:=⟨wr.heap.size,1,none⟩) h.below.size (.int .i64 f1.next)
 obtain⟨m,hg,hS⟩:=h2.fo
 exact⟨hL,(k2.all _ (by omega)).trans ((k1.all _ (by omega)).trans h2.box),Zs hz _ _,(hI.kept k1 hz (Zf _ _ _ _)).kept k2 hz1 (Zf _ _ _ _),
  ⟨m,k2.block (k1.block hg (by decide)) (by decide),(hS.kept k1 (hD.below b1)).kept k2 (hD.below b2)⟩,b2,h.lo,h.gl⟩
theorem zbc{W:World}{pm g:Nat}{u v:Value}(hp:W.heap[pm]?=some (.cells #[u,v] 29 (0,0))){f:Fs.FS}(hF:Fo W g f):pm≠g:=by
 rintro rfl
 obtain⟨m,hg,_⟩:=hF
 rw[hp]at hg
 injection hg with hg
 injection hg with _ h _
 exact absurd h (by decide)
theorem zbR{l:List Fs.Item}(h:Okl l):T8.Short (Fs.kv l):=λp hp=>by
 unfold Fs.kv at hp
 obtain⟨y,hy,rfl⟩:=List.mem_map.1 hp
 refine⟨?_,uM (h.right y hy)⟩
 show(Nd.mk (Nd.n4 y.1.toNat)).size<=100
 rw[Nd.size_mk]
 exact(by decide:4<=100)
theorem zaR{f f1:Fs.FS}(G:Fs.Good env f){L:List MI}(h:its L=f1.l)(he:f=f1):L.length<=100000:=by
 subst he
 have:=G.few;rw[<-h]at this;unfold its at this;rw[List.length_map]at this;omega
theorem Ko{f f1:Fs.FS}(G:Fs.Good env f){L:List MI}(h:its L=f1.l)(he:f=f1): ∀x∈its L,x.2.ents.length<=64:=λx hx=>by
 subst he
 rw[h]at hx
 exact(G.right (Fs.node_at G.inos (show(x.1,x.2)∈f.l from hx))).len
theorem Uq(a:Option Addr)(n cap:Nat)(l:List Fs.Op)(P:ByteArray)(x y:Int)(w:World)(hS:Opr a n l w)(hn:n<=140737488355328)(hP:P.size<=140737488355328)(hx:x<=9223372036854775807)(hy:y<=9223372036854775807)(hsm: ∀o∈l,o.a.size<=1048576/\o.b.size<=1048576)(hD:Dg w):
  Calls prog 3 #[.slice a n cap,.string P,.int .i64 x,.int .i64 y] w λe w'=>e= .returned (.bool true)/\Below w.heap.size w w':=by
 have HAw:=hid (zbh w hD)
 have HSr:=hid hS.cell
 have HDg:=hid (λW (hb:Below w.heap.size w W)=>hD.below hb)
 have HD:=hid hD
 have HN:=hid hS.count
 have HOk:=hid hS.ok
 have HSml:=hid hsm
 have HFw:=hid (λW (hb:Below w.heap.size w W)=>Qe a n cap l W (hS.below hb) hn)
 clear hS hD hsm
 cases hfew:kO l with
 |false=>
  rw[hfew]at HFw
  go_enter func3,ntmps3
  go_wp2_with fail
  refine HAw.out.mono ?_
  rintro e w1 ⟨rfl,hb⟩
  have HB:=hid hb
  clear hb
  dsimp only
  go_wp2_with fail
  refine(HFw.out w1 HB.out).mono ?_
  rintro e w2 ⟨rfl,hb⟩
  have HB:=hid (HB.out.trans (hb.mono HB.out.size))
  clear hb
  dsimp only
  go_wp2_with fail
  go_ret
  exact⟨rfl,HB.out⟩
 | true=>
  rw[hfew]at HFw
  by_cases hA:300<P.size
  ·have hAi:(300:Int)<(P.size:Int):=by omega
   go_enter func3,ntmps3
   go_wp2_with fail
   refine HAw.out.mono ?_
   rintro e w1 ⟨rfl,hb⟩
   have HB:=hid hb
   clear hb
   dsimp only
   go_wp2_with fail
   refine(HFw.out w1 HB.out).mono ?_
   rintro e w2 ⟨rfl,hb⟩
   have HB:=hid (HB.out.trans (hb.mono HB.out.size))
   clear hb
   dsimp only
   go_wp2_with fail
   go_ret
   exact⟨rfl,HB.out⟩
  have hln:=Qd hfew
  have hn2:n<=120:=by rw[HN.out];exact hln
  have hni:(n:Int)<=120:=by omega
  have HNw:=hid (λW (hb:Below w.heap.size w W)=>ku W (HDg.out W hb))
  have HRn:=hid (λW=>zca W)
  have HG:=hid (λk=>qx (l:=l) (by omega) k)
  unfold FsR at HRn
  clear hfew hn hln
  go_enter func3,ntmps3
  go_wp2_with fail
  refine HAw.out.mono ?_
  rintro e w1 ⟨rfl,hb⟩
  have HB:=hid hb
  clear hb
  dsimp only
  go_wp2_with fail
  refine(HFw.out w1 HB.out).mono ?_
  rintro e w2 ⟨rfl,hb⟩
  have HB:=hid (HB.out.trans (hb.mono HB.out.size))
  clear hb
  dsimp only
  go_wp2_with fail
  refine(HNw.out w2 HB.out).mono ?_
  rintro e w3 ⟨g,rfl,hF,hg,hb⟩
  have HGg:=hid (Nat.le_trans HB.out.size hg)
  have HB:=hid (HB.out.trans (hb.mono HB.out.size))
  have HFg:=hid hF
  clear hF hg hb
  dsimp only
  go_wp2_with fail
  refine(HRn.out w3).mono ?_
  rintro e w4 ⟨am0,cm0,L0,hL0,rfl,hI,hb⟩
  have hbx:=below_one w4 (.cells #[.slice am0 L0.length cm0,.int .i64 2] 29)
  have hb2:=hb.trans (hbx.mono hb.size)
  have HM:=hid (show Fm w w4.heap.size g Fs.new am0 cm0 L0 (w4.alloc (.cells #[.slice am0 L0.length cm0,.int .i64 2] 29))from⟨hL0,heap_alloc_new _ _,hI.below hbx,HFg.out.below hb2,HB.out.trans (hb2.mono HB.out.size),(HB.out.trans (hb.mono HB.out.size)).size,HGg.out⟩)
  clear hb hbx hb2 hI hL0 HB HFg
  dsimp only
  go_wp2_with fail
  go_loopw [11,12,13] (λx11 _ _ wr=> ∃(k:Nat) (am:Option Addr) (cm:Nat) (L:List MI),k<=n/\x11= .int .i64 k/\Fm w w4.heap.size g (yz Fs.new (l.take k)) am cm L wr) (λx11 _ _ _=>n-(intOf x11).toNat)
  case atStart=>exact⟨0,am0,cm0,L0,Nat.zero_le _,rfl,HM.out⟩
  case round=>
   clear HM HNw HRn HAw HFw
   obtain⟨k,am,cm,L,hk,rfl,hM⟩:=hrel
   have HM:=hid hM
   clear hM
   by_cases hlt:k<n
   ·have k0:(k:Int)<(n:Int):=by omega
    have hk0:(0:Int)<=(k:Int):=by omega
    have hkl:k<l.length:=by rw[<-HN.out];exact hlt
    obtain⟨b,off,rfl,hc⟩:=HSr.out k hlt
    have HC:=hid (λW (hb:Below w.heap.size w W)=>ZN (zcA hc (W:=W) hb))
    have HM1:=hid (j8 (f:=Fs.new) hkl)
    have hmem:l.getD k op0∈l:=by rw[List.getD,List.getElem?_eq_getElem hkl];exact List.getElem_mem hkl
    have hok:=HOk.out _ hmem
    have hsm:=HSml.out _ hmem
    have hGk:=HG.out k
    obtain⟨f1,hf1⟩: ∃f1,yz Fs.new (l.take (k+1))=f1:=⟨_,rfl⟩
    rw[hf1]at HM1
    have HEq:=hid hf1
    clear hf1 hmem
    generalize yz Fs.new (l.take k)=f at*
    generalize l.getD k op0=op at*
    have hie:=HM.out.ie
    have hnx0:0<=f.next:=by
     obtain⟨y,hy⟩:=Option.isSome_iff_exists.1 hGk.1.top_some
     have:=hGk.1.pos _ (Fs.node_mem hy)
     omega
    have HR1:=hid (λW (hI:Items am L.length L W)=>(show Calls prog 11 #[fv am L.length cm f.next,ov op] W (DoR (Fs.doE env f op) W)from by
     have h:=zeo am L.length cm f.next L op W hI (Zq hGk.1.toHalf hie hsm.1 hsm.2) (by rw[hie];exact ask_of hGk.1.toHalf ⟨hnx0,by omega⟩ hok)
     rw[hie]at h
     exact h))
    have HQ1:=hid (λW (h:Fo W g f)=>Zd h hGk.1 (by omega) hok)
    obtain⟨⟨f2,z⟩,hd⟩: ∃r,Fs.doE env f op=r:=⟨_,rfl⟩
    unfold DoR at HR1
    unfold zbr at HQ1
    rw[hd]at HR1 HQ1 HM1
    obtain rfl:f1=f2:=HM1.out
    dsimp only at HR1 HQ1
    obtain⟨okd,oa,ob,oo,og,on,od⟩:=op
    have HQ1:=hid (show∀W,Fo W g f->Calls prog 12 #[ptg g,.agg #[.int .i64 okd,.string oa,.string ob,.int .i64 oo,.int .i64 og,.int .i64 on,.string od]] W (λe w'=>e= .returned (.int .i64 z)/\Fo w' g f1/\Turn g W w')from λW h=>(HQ1.out W h).mono λe w' h=>⟨h.1,h.2.1,h.2.2.1⟩)
    have HGd:=hid (HG.out (k+1))
    clear hc hok hsm hGk hie hd HM1 hnx0
    have HSx:=hid (λW (hb:Below wr.heap.size wr W)=>(show W.cell? ⟨w4.heap.size,0,none⟩=some (.slice am L.length cm)/\W.cell? ⟨w4.heap.size,1,none⟩=some (.int .i64 f.next)/\W.cell? ⟨b,off+k*7,none⟩=some (.int .i64 okd)/\W.cell? ⟨b,off+k*7+1,none⟩=some (.string oa)/\W.cell? ⟨b,off+k*7+2,none⟩=some (.string ob)/\W.cell? ⟨b,off+k*7+3,none⟩=some (.int .i64 oo)/\W.cell? ⟨b,off+k*7+4,none⟩=some (.int .i64 og)/\W.cell? ⟨b,off+k*7+5,none⟩=some (.int .i64 on)/\W.cell? ⟨b,off+k*7+6,none⟩=some (.string od)/\Below wr.heap.size wr W from by
     obtain⟨c0,c1,c2,c3,c4,c5,c6⟩:=HC.out W (HM.out.kept hb).below
     exact⟨cell_obj (HM.out.kept hb).box 0,cell_obj (HM.out.kept hb).box 1,c0,c1,c2,c3,c4,c5,c6,hb⟩))
    have HWt:=hid (λW (hb:Below wr.heap.size wr W)=>HM.out.items.below hb)
    have hBd:=(Below.refl wr.heap.size wr).drew
    have hBe:=(yE (Below.refl wr.heap.size wr) (.cells #[.slice none 0 0,.int .i64 0] 29)).drew
    have HZe:=hid (show(wr.alloc (.cells #[.slice none 0 0,.int .i64 0] 29)).drew.heap[wr.heap.size]?=some (.cells #[.slice none 0 0,.int .i64 0] 29 (0,0))from heap_alloc_new _ _)
    have HZd:=hid (show(wr.drew.alloc (.cells #[.slice none 0 0,.int .i64 0] 29)).heap[wr.drew.heap.size]?=some (.cells #[.slice none 0 0,.int .i64 0] 29 (0,0))from heap_alloc_new _ _)
    go_wp2_with fail
    go_region_held3 (λW=>W.cell? ⟨w4.heap.size,0,none⟩=some (.slice am L.length cm)/\W.cell? ⟨w4.heap.size,1,none⟩=some (.int .i64 f.next)/\W.cell? ⟨b,off+k*7,none⟩=some (.int .i64 okd)/\W.cell? ⟨b,off+k*7+1,none⟩=some (.string oa)/\W.cell? ⟨b,off+k*7+2,none⟩=some (.string ob)/\W.cell? ⟨b,off+k*7+3,none⟩=some (.int .i64 oo)/\W.cell? ⟨b,off+k*7+4,none⟩=some (.int .i64 og)/\W.cell? ⟨b,off+k*7+5,none⟩=some (.int .i64 on)/\W.cell? ⟨b,off+k*7+6,none⟩=some (.string od)/\Below wr.heap.size wr W)
     (first|exact HSx.out _ (by assumption)|exact HSx.out _ (yE (by assumption) _)|exact HSx.out _ (vM (by assumption) (Nat.le_refl _) _ _))
     (first|(go_at_call 11;(with_reducible refine(HR1.out _ (HWt.out _ (by assumption))).mono ?_);rintro e w20 ⟨a1,c1,L1,hL1,rfl,hI1,hw20⟩;have HI1:=hid (And.intro hL1 hI1);clear hL1 hI1;have hb20:=T8.btrans hw20 (by assumption);try (have HZ6:=hid ((hw20.block _ (lt_of_obj HZe.out)).trans HZe.out);have z0:=cell_obj HZ6.out 0;have z1:=cell_obj HZ6.out 1;have z2:=free_obj HZ6.out 0;have z3:=free_obj HZ6.out 1);try (have HZ6:=hid ((hw20.block _ (lt_of_obj HZd.out)).trans HZd.out))))
    all_goals
     first
      |have HFn:=hid (HM.out.set2 (c1:=c1) hb20 HI1.out.1 HI1.out.2 HZ6.out HD.out)
       generalize (w20.setCell ⟨wr.heap.size,0,none⟩ (.slice a1 L1.length c1)).setCell ⟨wr.heap.size,1,none⟩ (.int .i64 f1.next)=W9 at HFn|-
       generalize hp9:wr.heap.size=p9 at HFn|-
      |have HFn:=hid (HM.out.new (c1:=c1) hb20 HI1.out.1 HI1.out.2)
       generalize w20.alloc (.cells #[.slice a1 L1.length c1,.int .i64 f1.next] 29)=W9 at HFn|-
       generalize hp9:w20.heap.size=p9 at HFn|-
     clear hp9
     try skip
     clear HSx HWt hBd hBe HZd HZe hb20 hw20 HM HI1 HR1
     have u0:=cell_obj HFn.out.new 0
     have u1:=cell_obj HFn.out.new 1
     go_wp2_with (first|(refine wpList_store_row rfl 29 _ _ rfl w4.heap.size #[.slice a1 L1.length c1,.int .i64 f1.next] rfl rfl 29 #[.slice am L.length cm,.int .i64 f.next] HFn.out.box (by kernel_rfl) rfl (by rw[<-Array.all_toList];rfl) ?_)|fail)
     obtain⟨r1,r2,r3,r4,r5⟩:=HFn.out.row HD.out
     have HNw:=hid (And.intro r2 (And.intro r3 (And.intro r4 r5)))
     have HL1:=hid r1
     have HGl:=hid HFn.out.gl
     have HLo:=hid HFn.out.lo
     clear r1 r2 r3 r4 r5 u0 u1 HFn
     generalize W9.setRow w4.heap.size #[.slice a1 L1.length c1,.int .i64 f1.next]=W10 at HNw|-
     have hBd:=(Below.refl W10.heap.size W10).drew
     have HX:=hid (HNw.out.2.1.below hBd)
     have HBx:=hid ((hBd.block _ (lt_of_obj HNw.out.1)).trans HNw.out.1)
     have HFo:=hid (HNw.out.2.2.1.below hBd)
     have HB:=hid (HNw.out.2.2.2.drew)
     have q0:=cell_obj HBx.out 0
     have q1:=cell_obj HBx.out 1
     obtain⟨c0,c1',c2,c3,c4,c5,c6⟩:=HC.out _ HB.out
     have HE1:=hid (HQ1.out _ HFo.out)
     have HNe:=hid (zbc HBx.out HFo.out)
     clear hBd HNw
     go_wp2_with fail
     go_region_law (first
      |(go_simp;(with_reducible refine HE1.out.mono ?_);rintro e w5 ⟨rfl,hF5,hT5⟩;have hB5:=zy HB.out hT5 HGl.out;have hI5:=Items.turn hT5 HFo.out HX.out;have hx5:=hT5.obj HBx.out HNe.out;have q0:=cell_obj hx5 0;have q1:=cell_obj hx5 1;have HE2:=hid (zau hF5))
      |(go_simp;(with_reducible refine HE2.out.mono ?_);rintro e w6 ⟨a6,c6',L6,hL6,rfl,hI6,hb6⟩;have hB6:=hB5.trans (hb6.mono hB5.size);have hF6:=hF5.below hb6;have hx6:=(hb6.block _ (lt_of_obj hx5)).trans hx5;have q0:=cell_obj hx6 0;have q1:=cell_obj hx6 1;have HE3:=hid (VG a6 L6.length c6' f1.next L6 a1 L1.length c1 f1.next L1 w6 hI6 (hI5.below hb6) (zaR HGd.out.1 hL6 HEq.out) (hL6.trans HL1.out.symm) (Ko HGd.out.1 hL6 HEq.out)))
      |(go_simp;(with_reducible refine HE3.out.mono ?_);rintro e w7 ⟨rfl,hb7⟩;have hB7:=hB6.trans (hb7.mono hB6.size);have hF7:=hF6.below hb7;have hI7:=(hI5.below hb6).below hb7;have hx7:=(hb7.block _ (lt_of_obj hx6)).trans hx6;have q0:=cell_obj hx7 0;have q1:=cell_obj hx7 1;have HE4:=hid (jq hF7))
      |(go_simp;(with_reducible refine HE4.out.mono ?_);rintro e w8 ⟨rfl,rfl⟩))
     all_goals
      have HFin:=hid (show Fm w w4.heap.size g f1 a1 c1 L1 w8 from⟨HL1.out,hx7,hI7,hF7,hB7,HLo.out,HGl.out⟩)
      clear hF5 hT5 hB5 hI5 hx5 HE1 HE2 hI6 hb6 hB6 hF6 hx6 HE3 hb7 hB7 hF7 hI7 hx7 HE4 c0 c1' c2 c3 c4 c5 c6
      go_wp2_with fail
      go_roundw
      case rel=>exact⟨k+1,a1,c1,L1,by omega,by go_num,by rw[HEq.out];exact HFin.out⟩
      case measure=>simp[intOf];omega
   ·obtain rfl:k=n:=by omega
    have hge: ¬ ((k:Int)<(k:Int)):=by omega
    rw[show l.take k=l by rw[HN.out,List.take_length]]at HM
    obtain⟨G,hnx⟩:=UC (l:=l) (by rw[<-HN.out];omega)
    generalize yz Fs.new l=f at*
    have hie:=HM.out.ie
    have HF1:=hid (λW (h:Fo W g f)=>qh h P hP)
    have hsl:=Zq (o:=⟨0,P,P,0,0,0,P⟩) G.toHalf hie (by show P.size<=_;omega) (by show P.size<=_;omega)
    have HF2:=hid (λW (hI:Items am L.length L W)=>hie▸xJ am L.length cm f.next L P W hI hsl.n5 hsl.ents.fewE (by omega))
    have HR1:=hid (λW (h:Fo W g f)=>Y1 h G.toHalf P x y hP hx hy)
    have HR2:=hid (λW (hI:Items am L.length L W)=>hie▸Q4 am L.length cm f.next L P x y W hI hsl.n5 hsl.ents.fewE (by omega) (by rw[hie];exact j5 G.toHalf P) hx hy)
    have hok:Okl f.l:=by obtain⟨m,_,hS⟩:=HM.out.fo;exact hS.ok
    have h256:=G.few
    have HPr:=hid (λW (hI:Items am L.length L W)=>(show Calls prog 21 #[fv am L.length cm f.next] W (X9 f.l W)from hie▸JC am L.length cm f.next L W hI (by rw[hie];exact hok)))
    have HNa:=hid (λW ao cap (hP:Prs ao f.l.length (Fs.kv f.l) W) (hc:f.l.length<=cap)=>(show Calls prog 20 #[.slice ao f.l.length cap] W (λe w'=> ∃ax nx cx,e= .returned (.tuple #[.string (nmf f.l),.slice ax nx cx])/\Below W.heap.size W w')from
     (T8.rname_any 500 (Fs.kv f.l) ao f.l.length cap W (by rw[Fs.kv_len];omega) (Nat.le_refl _) hP hc (zbR hok)).mono λe w' h=>by obtain⟨ao,cap,h1,_,h2⟩:=h;exact⟨ao,_,cap,h1,h2⟩))
    have HMp:=hid (λW (h:Fo W g f)=>uT h)
    have HNm:=hid (λm W (h:Sv W m f.l)=>vy h)
    have hxe:=zdo G P
    have hal:=vN (nmf f.l)
    obtain⟨⟨i,⟨xk,xm,xd,xt,xe⟩,c0⟩,h1⟩: ∃r,zF f.l P=r:=⟨_,rfl⟩
    obtain⟨⟨s,c2⟩,h2⟩: ∃r,ue f.l P x y=r:=⟨_,rfl⟩
    rw[h1]at HF1 HF2 hxe
    rw[h2]at HR1 HR2
    dsimp only at hxe
    unfold zU at HF1 HF2
    unfold Both at HR1 HR2
    unfold X9 at HPr
    dsimp only at HF1 HF2 HR1 HR2
    have hal2:=vN (T8.lstr s)
    generalize T8.lstr s=S at HR1 HR2 hal2
    have HSm:=hid (λW a1 c1 a2 c2 (h1:Ents a1 xe.length xe W) (h2:Ents a2 xe.length xe W)=>KX (k:=xk) (m:=xm) (d:=xd) (t:=xt) (c:=c1) (k':=xk) (m':=xm) (d':=xd) (t':=xt) (c':=c2) W h1 h2 (by omega) (by omega) (Zt xk xm xd xt xe))
    clear hsl hok h256 h1 h2 G hnx HG HOk HSml HSr
    go_wp2_with fail
    refine(HF1.out _ HM.out.fo).mono ?_
    rintro e w5 ⟨ax,cx,rfl,hE,hb⟩
    have hbx:=below_one w5 (.cells #[.int .i64 xk,.int .i64 xm,.string xd,.string xt,.slice ax xe.length cx] 43)
    have hb2:=hb.trans (hbx.mono hb.size)
    have HM:=hid (HM.out.kept hb2)
    have HXx:=hid (show(w5.alloc (.cells #[.int .i64 xk,.int .i64 xm,.string xd,.string xt,.slice ax xe.length cx] 43)).heap[w5.heap.size]?=some (.cells #[.int .i64 xk,.int .i64 xm,.string xd,.string xt,.slice ax xe.length cx] 43 (0,0))from heap_alloc_new _ _)
    have HEx:=hid (hE.below hbx)
    clear hb hE hbx hb2
    have q0:=cell_obj HM.out.box 0
    have q1:=cell_obj HM.out.box 1
    dsimp only
    go_wp2_with fail
    refine(HF2.out _ HM.out.items).mono ?_
    rintro e w6 ⟨ay,cy,rfl,hE,hb⟩
    have hbx:=below_one w6 (.cells #[.int .i64 xk,.int .i64 xm,.string xd,.string xt,.slice ay xe.length cy] 43)
    have hb2:=hb.trans (hbx.mono hb.size)
    have HM:=hid (HM.out.kept hb2)
    have HXx:=hid ((hb2.block _ (lt_of_obj HXx.out)).trans HXx.out)
    have HEx:=hid (HEx.out.below hb2)
    have HXy:=hid (show(w6.alloc (.cells #[.int .i64 xk,.int .i64 xm,.string xd,.string xt,.slice ay xe.length cy] 43)).heap[w6.heap.size]?=some (.cells #[.int .i64 xk,.int .i64 xm,.string xd,.string xt,.slice ay xe.length cy] 43 (0,0))from heap_alloc_new _ _)
    have HEy:=hid (hE.below hbx)
    clear hb hE hbx hb2 q0 q1
    dsimp only
    go_wp2_with fail
    refine(HR1.out _ HM.out.fo).mono ?_
    rintro e w7 ⟨rfl,hb⟩
    have HM:=hid (HM.out.kept hb)
    have HXx:=hid ((hb.block _ (lt_of_obj HXx.out)).trans HXx.out)
    have HEx:=hid (HEx.out.below hb)
    have HXy:=hid ((hb.block _ (lt_of_obj HXy.out)).trans HXy.out)
    have HEy:=hid (HEy.out.below hb)
    clear hb
    have q0:=cell_obj HM.out.box 0
    have q1:=cell_obj HM.out.box 1
    dsimp only
    go_wp2_with fail
    refine(HR2.out _ HM.out.items).mono ?_
    rintro e w8 ⟨rfl,hb⟩
    have HM:=hid (HM.out.kept hb)
    have HXx:=hid ((hb.block _ (lt_of_obj HXx.out)).trans HXx.out)
    have HEx:=hid (HEx.out.below hb)
    have HXy:=hid ((hb.block _ (lt_of_obj HXy.out)).trans HXy.out)
    have HEy:=hid (HEy.out.below hb)
    clear hb q0 q1
    have q0:=cell_obj HM.out.box 0
    have q1:=cell_obj HM.out.box 1
    dsimp only
    go_wp2_with fail
    refine(HPr.out _ HM.out.items).mono ?_
    rintro e w9 ⟨ap,cp,rfl,hP,hcp,hb⟩
    have HP:=hid (And.intro hP hcp)
    have HM:=hid (HM.out.kept hb)
    have HXx:=hid ((hb.block _ (lt_of_obj HXx.out)).trans HXx.out)
    have HEx:=hid (HEx.out.below hb)
    have HXy:=hid ((hb.block _ (lt_of_obj HXy.out)).trans HXy.out)
    have HEy:=hid (HEy.out.below hb)
    clear hb q0 q1 hP
    dsimp only
    go_wp2_with fail
    refine(HNa.out w9 ap cp HP.out.1 HP.out.2).mono ?_
    rintro e w10 ⟨az,nz,cz,rfl,hb⟩
    have HM:=hid (HM.out.kept hb)
    have HXx:=hid ((hb.block _ (lt_of_obj HXx.out)).trans HXx.out)
    have HEx:=hid (HEx.out.below hb)
    have HXy:=hid ((hb.block _ (lt_of_obj HXy.out)).trans HXy.out)
    have HEy:=hid (HEy.out.below hb)
    clear hb
    have u0:w10.cell? ⟨w5.heap.size,0,none⟩=some (.int .i64 xk):=cell_obj HXx.out 0
    have u1:w10.cell? ⟨w5.heap.size,1,none⟩=some (.int .i64 xm):=cell_obj HXx.out 1
    have u2:w10.cell? ⟨w5.heap.size,2,none⟩=some (.string xd):=cell_obj HXx.out 2
    have u3:w10.cell? ⟨w5.heap.size,3,none⟩=some (.string xt):=cell_obj HXx.out 3
    have u4:w10.cell? ⟨w5.heap.size,4,none⟩=some (.slice ax xe.length cx):=cell_obj HXx.out 4
    have v0:w10.cell? ⟨w6.heap.size,0,none⟩=some (.int .i64 xk):=cell_obj HXy.out 0
    have v1:w10.cell? ⟨w6.heap.size,1,none⟩=some (.int .i64 xm):=cell_obj HXy.out 1
    have v2:w10.cell? ⟨w6.heap.size,2,none⟩=some (.string xd):=cell_obj HXy.out 2
    have v3:w10.cell? ⟨w6.heap.size,3,none⟩=some (.string xt):=cell_obj HXy.out 3
    have v4:w10.cell? ⟨w6.heap.size,4,none⟩=some (.slice ay xe.length cy):=cell_obj HXy.out 4
    have HSc:=hid (HSm.out w10 ax cx ay cy HEx.out HEy.out)
    dsimp only
    go_wp2_with fail
    refine HSc.out.mono ?_
    rintro e w11 ⟨rfl,hb⟩
    have HM:=hid (HM.out.kept hb)
    clear hb u0 v0 u1 v1 u2 v2 u3 v3 u4 v4
    dsimp only
    go_wp2_with fail
    refine(HMp.out _ HM.out.fo).mono ?_
    rintro e w12 ⟨m,rfl,hSv,rfl⟩
    have HSv:=hid hSv
    clear hSv
    dsimp only
    go_wp2_with fail
    refine(HNm.out m _ HSv.out).mono ?_
    rintro e w13 ⟨rfl,hb⟩
    have HM:=hid (HM.out.kept hb)
    clear hb HSv
    dsimp only
    go_wp2_with fail
    go_ret
    exact⟨by simp,HM.out.below⟩
end Go.Proofs.YtabmamofnhcgbaaGreatDoor
