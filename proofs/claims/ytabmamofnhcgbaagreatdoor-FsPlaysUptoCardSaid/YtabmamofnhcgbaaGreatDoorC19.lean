/- A part of the proofs. -/
import Derived.Test.YtabmamofnhcgbaaGreatDoorC18
set_option maxRecDepth 1000000
set_option maxHeartbeats 16000000
open Go.Lib (hid)
open Go.Proofs.Tryz
namespace Go.Proofs.YtabmamofnhcgbaaGreatDoor
open Go.RowKit Go.Less Go.Maps
open T8 (pv Dg)
attribute [local go_sem 9000] zg zf
structure Turn (g:Nat) (w w':World):Prop where
 os:w'.os=w.os
 tape:w'.tape=w.tape
 output:w'.output=w.output
 size:w.heap.size<=w'.heap.size
 block: ∀k,k<w.heap.size->k≠g->w'.heap[k]?=w.heap[k]?
def jj(r:Except Int Fs.FS)(g:Nat)(w:World)(e:Ending)(w':World):Prop:=match r with
 | .error c=>c≠0/\e= .returned (.int .i64 c)/\Below w.heap.size w w'
 | .ok f=>e= .returned (.int .i64 0)/\ ∃m,w'.heap[g]?=some (.cells #[pv m,.int .i64 f.next] 101 (0,0))/\Sv w' m f.l/\Turn g w w'
theorem Dg.turn{g:Nat}{w w':World}{x y:Value}{t:TypeId}(h:Dg w)(hg:w.heap[g]?=some (.cells #[x,y] t (0,0)))(ho: ∀k,k≠g->w'.heap[k]?=w.heap[k]?):Dg w':=by
 have n2:(2:Nat)≠g:=by
  rintro rfl
  have h1:=h.k 7 (by decide)
  rw[cell_obj hg 7]at h1
  cases h1
 have n0:(0:Nat)≠g:=by
  rintro rfl
  have h1:=h.i 7 (by decide)
  rw[cell_obj hg 7]at h1
  cases h1
 exact⟨λj hj=>(World.cell?_of_block (ho 2 n2)).trans (h.k j hj),λj hj=>(World.cell?_of_block (ho 0 n0)).trans (h.i j hj)⟩
def zfl(Wb W9:World)(p9:Nat)(m2:Option Nat)(n2:Int)(l2:List Fs.Item):Prop:=Below Wb.heap.size Wb W9/\W9.heap[p9]?=some (.cells #[pv m2,.int .i64 n2] 98 (0,0))/\Sv W9 m2 l2
theorem Qh{g:Nat}{w W9 W:World}{m m2:Option Nat}{nx n2:Int}{l2:List Fs.Item}(hb:Below w.heap.size w W9)(hg:W9.heap[g]?=some (.cells #[pv m,.int .i64 nx] 101 (0,0)))(hS:Sv W9 m2 l2)(hW:W=W9.setRow g #[pv m2,.int .i64 n2]):jj (.ok ⟨l2,n2⟩) g w (.returned (.int .i64 0)) W:=by
 subst hW
 have ho: ∀k,k≠g->(W9.setRow g #[pv m2,.int .i64 n2]).heap[k]?=W9.heap[k]?:=λk hk=>setRow_other _ _ _ _ hk
 refine⟨rfl,m2,setRow_heap _ _ _ _ _ _ hg,hS.kept (p:=g) (T:=101) ⟨⟨_,_,hg⟩,by decide,by decide,ho⟩ (Dg.turn hS.dg hg ho),hb.os,hb.tape,hb.output,by rw[setRow_size];exact hb.size,λk hk hne=>(ho k hne).trans (hb.block k hk)⟩
theorem yE{Wb W:World}(h:Below Wb.heap.size Wb W)(o:Obj):Below Wb.heap.size Wb (W.alloc o):=h.alloc h.size o
theorem vM{Wb W:World}(h:Below Wb.heap.size Wb W){p:Nat}(hp:Wb.heap.size<=p)(u v:Value):Below Wb.heap.size Wb ((W.setCell ⟨p,0,none⟩ u).setCell ⟨p,1,none⟩ v):=(h.setCell hp u).setCell hp v
theorem Zs{W:World}{p:Nat}{x y:Value}{t:TypeId}(h:W.heap[p]?=some (.cells #[x,y] t (0,0)))(u v:Value):((W.setCell ⟨p,0,none⟩ u).setCell ⟨p,1,none⟩ v).heap[p]?=some (.cells #[u,v] t (0,0)):=by
 have h1:=heap_setCell_same W p 0 #[x,y] t u h
 have h2:=heap_setCell_same (W.setCell ⟨p,0,none⟩ u) p 1 #[u,y] t v h1
 exact h2
theorem Sv.set2{W:World}{m:Option Nat}{l:List Fs.Item}{p:Nat}{x y:Value}(h:Sv W m l)(hp:W.heap[p]?=some (.cells #[x,y] 98 (0,0)))(u v:Value)(h1:Dg (W.setCell ⟨p,0,none⟩ u))(h2:Dg ((W.setCell ⟨p,0,none⟩ u).setCell ⟨p,1,none⟩ v)):Sv ((W.setCell ⟨p,0,none⟩ u).setCell ⟨p,1,none⟩ v) m l:=
 (h.kept (Kept.cell hp (by decide) (by decide) 0 u) h1).kept (Kept.cell (heap_setCell_same W p 0 #[x,y] 98 u hp) (by decide) (by decide) 1 v) h2
theorem zcr(g:Nat)(m:Option Nat)(nx:Int)(l:List Fs.Item)(kd:Int)(oa ob:ByteArray)(oo og on:Int)(od:ByteArray)(w:World)(_:Sv w m l)(_:w.heap[g]?=some (.cells #[pv m,.int .i64 nx] 101 (0,0)))(hkw:(ik kd).wf=true)(_:oa.size<=140737488355328)(_:ob.size<=140737488355328)(hk:fdo kd=none){R:Except Int Fs.FS}(hR:R= .error 16):Calls prog 12 #[.pointer (some ⟨g,0,none⟩),.agg #[.int .i64 kd,.string oa,.string ob,.int .i64 oo,.int .i64 og,.int .i64 on,.string od]] w (jj R g w):=by
 have HDo:=hid yZ
 skip
 have HB:=hid (show Bxs w [(w.heap.size,#[.int .i64 kd,.string oa,.string ob,.int .i64 oo,.int .i64 og,.int .i64 on,.string od],35)] (w.alloc (.cells #[.int .i64 kd,.string oa,.string ob,.int .i64 oo,.int .i64 og,.int .i64 on,.string od] 35))from Bxs.one w _ _)
 go_enter func12,ntmps12
 go_wp2_with fail
 generalize w.alloc (.cells #[.int .i64 kd,.string oa,.string ob,.int .i64 oo,.int .i64 og,.int .i64 on,.string od] 35)=W0 at HB|-
 have HSx:=hid (show∀W,Below W0.heap.size W0 W->W.cell? ⟨w.heap.size,0,none⟩=some (.int .i64 kd)/\Below W0.heap.size W0 W from λW hb=>⟨(HB.out.kept hb).cell 0 rfl 0,hb⟩)
 have hBd:=(Below.refl W0.heap.size W0).drew
 go_wp2_with fail
 go_region_held3 (λW=>W.cell? ⟨w.heap.size,0,none⟩=some (.int .i64 kd)/\Below W0.heap.size W0 W)
  (first|exact HSx.out _ (by assumption))
  (first|(go_at_call 58;(with_reducible refine(HDo.out _).mono ?_);rintro e w1 ⟨mb,rfl,hM,hw1⟩;have hb1:=T8.btrans hw1 (by assumption);have hl:=hM.look_ok underlying117 (z:= .nilFunc) rfl hkw;rw[hk]at hl;dsimp only[Option.getD,Option.isSome]at hl))
 all_goals
  have HB:=hid (HB.out.kept hb1)
  clear hb1 hw1 hBd HSx hM hl
  go_wp2_with fail
  go_ret
  rw[hR]
  exact⟨by decide,rfl,HB.out.below⟩
theorem pDo_a(g:Nat)(m:Option Nat)(nx:Int)(l:List Fs.Item)(kd:Int)(oa ob:ByteArray)(oo og on:Int)(od:ByteArray)(w:World)(_:Sv w m l)(_:w.heap[g]?=some (.cells #[pv m,.int .i64 nx] 101 (0,0)))(hkw:(ik kd).wf=true)(pa:oa.size<=140737488355328)(_:ob.size<=140737488355328)(gk:Nat)(_eg: ∀args w,(callFunc gk args).run prog w= .ok (.enter gk args) w)(hk:fdo kd=some (fnv gk))(ha:spl oa=none){R:Except Int Fs.FS}(hR:R= .error 14):Calls prog 12 #[.pointer (some ⟨g,0,none⟩),.agg #[.int .i64 kd,.string oa,.string ob,.int .i64 oo,.int .i64 og,.int .i64 on,.string od]] w (jj R g w):=by
 have HDo:=hid yZ
 have HPa:=hid (λW=>yu oa W pa)
 clear pa
 rw[ha]at HPa
 dsimp only[Option.isSome]at HPa
 unfold fnv at hk
 have HB:=hid (show Bxs w [(w.heap.size,#[.int .i64 kd,.string oa,.string ob,.int .i64 oo,.int .i64 og,.int .i64 on,.string od],35)] (w.alloc (.cells #[.int .i64 kd,.string oa,.string ob,.int .i64 oo,.int .i64 og,.int .i64 on,.string od] 35))from Bxs.one w _ _)
 go_enter func12,ntmps12
 go_wp2_with fail
 generalize w.alloc (.cells #[.int .i64 kd,.string oa,.string ob,.int .i64 oo,.int .i64 og,.int .i64 on,.string od] 35)=W0 at HB|-
 have HSx:=hid (show∀W,Below W0.heap.size W0 W->W.cell? ⟨w.heap.size,0,none⟩=some (.int .i64 kd)/\Below W0.heap.size W0 W from λW hb=>⟨(HB.out.kept hb).cell 0 rfl 0,hb⟩)
 have hBd:=(Below.refl W0.heap.size W0).drew
 go_wp2_with fail
 go_region_held3 (λW=>W.cell? ⟨w.heap.size,0,none⟩=some (.int .i64 kd)/\Below W0.heap.size W0 W)
  (first|exact HSx.out _ (by assumption))
  (first|(go_at_call 58;(with_reducible refine(HDo.out _).mono ?_);rintro e w1 ⟨mb,rfl,hM,hw1⟩;have hb1:=T8.btrans hw1 (by assumption);have hl:=hM.look_ok underlying117 (z:= .nilFunc) rfl hkw;rw[hk]at hl;dsimp only[Option.getD,Option.isSome]at hl))
 all_goals
  have HB:=hid (HB.out.kept hb1)
  clear hb1 hw1 hBd HSx hM hl
  obtain⟨b0_0,b0_1,b0_2,b0_3,b0_4,b0_5,b0_6⟩:=HB.out.c7 0 rfl
  go_wp2_with fail
  refine(HPa.out w1).mono ?_
  rintro e w1 ⟨rfl,hb⟩
  have HB:=hid (HB.out.kept hb)
  clear b0_0 b0_1 b0_2 b0_3 b0_4 b0_5 b0_6
  dsimp only
  go_wp2_with fail
  go_ret
  rw[hR]
  exact⟨by decide,rfl,HB.out.below⟩
theorem pDo_b(g:Nat)(m:Option Nat)(nx:Int)(l:List Fs.Item)(kd:Int)(oa ob:ByteArray)(oo og on:Int)(od:ByteArray)(w:World)(_:Sv w m l)(_:w.heap[g]?=some (.cells #[pv m,.int .i64 nx] 101 (0,0)))(hkw:(ik kd).wf=true)(pa:oa.size<=140737488355328)(pb:ob.size<=140737488355328)(gk:Nat)(_eg: ∀args w,(callFunc gk args).run prog w= .ok (.enter gk args) w)(hk:fdo kd=some (fnv gk)){na:List ByteArray}(ha:spl oa=some na)(ht:qW kd=true)(hb0:spl ob=none){R:Except Int Fs.FS}(hR:R= .error 14):Calls prog 12 #[.pointer (some ⟨g,0,none⟩),.agg #[.int .i64 kd,.string oa,.string ob,.int .i64 oo,.int .i64 og,.int .i64 on,.string od]] w (jj R g w):=by
 have HDo:=hid yZ
 have HPa:=hid (λW=>yu oa W pa)
 have HPb:=hid (λW=>yu ob W pb)
 have HTw:=hid (λW=>kf kd W)
 clear pa pb
 rw[ha]at HPa
 rw[ht]at HTw
 rw[hb0]at HPb
 dsimp only[Option.isSome]at HPa HPb
 unfold fnv at hk
 have HB:=hid (show Bxs w [(w.heap.size,#[.int .i64 kd,.string oa,.string ob,.int .i64 oo,.int .i64 og,.int .i64 on,.string od],35)] (w.alloc (.cells #[.int .i64 kd,.string oa,.string ob,.int .i64 oo,.int .i64 og,.int .i64 on,.string od] 35))from Bxs.one w _ _)
 go_enter func12,ntmps12
 go_wp2_with fail
 generalize w.alloc (.cells #[.int .i64 kd,.string oa,.string ob,.int .i64 oo,.int .i64 og,.int .i64 on,.string od] 35)=W0 at HB|-
 have HSx:=hid (show∀W,Below W0.heap.size W0 W->W.cell? ⟨w.heap.size,0,none⟩=some (.int .i64 kd)/\Below W0.heap.size W0 W from λW hb=>⟨(HB.out.kept hb).cell 0 rfl 0,hb⟩)
 have hBd:=(Below.refl W0.heap.size W0).drew
 go_wp2_with fail
 go_region_held3 (λW=>W.cell? ⟨w.heap.size,0,none⟩=some (.int .i64 kd)/\Below W0.heap.size W0 W)
  (first|exact HSx.out _ (by assumption))
  (first|(go_at_call 58;(with_reducible refine(HDo.out _).mono ?_);rintro e w1 ⟨mb,rfl,hM,hw1⟩;have hb1:=T8.btrans hw1 (by assumption);have hl:=hM.look_ok underlying117 (z:= .nilFunc) rfl hkw;rw[hk]at hl;dsimp only[Option.getD,Option.isSome]at hl))
 all_goals
  have HB:=hid (HB.out.kept hb1)
  clear hb1 hw1 hBd HSx hM hl
  obtain⟨b0_0,b0_1,b0_2,b0_3,b0_4,b0_5,b0_6⟩:=HB.out.c7 0 rfl
  go_wp2_with fail
  refine(HPa.out w1).mono ?_
  rintro e w1 ⟨rfl,hb⟩
  have HB:=hid (HB.out.kept hb)
  clear b0_0 b0_1 b0_2 b0_3 b0_4 b0_5 b0_6
  obtain⟨b0_0,b0_1,b0_2,b0_3,b0_4,b0_5,b0_6⟩:=HB.out.c7 0 rfl
  dsimp only
  go_wp2_with fail
  refine(HTw.out w1).mono ?_
  rintro e w2 ⟨rfl,hb⟩
  have HB:=hid (HB.out.kept hb)
  clear b0_0 b0_1 b0_2 b0_3 b0_4 b0_5 b0_6
  obtain⟨b0_0,b0_1,b0_2,b0_3,b0_4,b0_5,b0_6⟩:=HB.out.c7 0 rfl
  dsimp only
  go_wp2_with fail
  refine(HPb.out w2).mono ?_
  rintro e w3 ⟨rfl,hb⟩
  have HB:=hid (HB.out.kept hb)
  clear b0_0 b0_1 b0_2 b0_3 b0_4 b0_5 b0_6
  dsimp only
  go_wp2_with fail
  go_ret
  rw[hR]
  exact⟨by decide,rfl,HB.out.below⟩
theorem zcs(g:Nat)(m:Option Nat)(nx:Int)(l:List Fs.Item)(kd:Int)(oa ob:ByteArray)(oo og on:Int)(od:ByteArray)(w:World)(_:Sv w m l)(hg:w.heap[g]?=some (.cells #[pv m,.int .i64 nx] 101 (0,0)))(hkw:(ik kd).wf=true)(pa:oa.size<=140737488355328)(pb:ob.size<=140737488355328)(gk:Nat)(eg: ∀args w,(callFunc gk args).run prog w= .ok (.enter gk args) w)(hk:fdo kd=some (fnv gk)){na:List ByteArray}(ha:spl oa=some na)(ht:qW kd=true){nb:List ByteArray}(hb0:spl ob=some nb)(ec:Int)(hC: ∀W,Below w.heap.size w W->Calls prog gk #[stv m nx,.agg #[.int .i64 kd,.string oa,.string ob,.int .i64 oo,.int .i64 og,.int .i64 on,.string od]] W (zP (.error ec) W)):Calls prog 12 #[.pointer (some ⟨g,0,none⟩),.agg #[.int .i64 kd,.string oa,.string ob,.int .i64 oo,.int .i64 og,.int .i64 on,.string od]] w (jj (.error ec) g w):=by
 have HDo:=hid yZ
 have HPa:=hid (λW=>yu oa W pa)
 have HPb:=hid (λW=>yu ob W pb)
 have HTw:=hid (λW=>kf kd W)
 have HG:=hid hg
 clear hg pa pb
 rw[ha]at HPa
 rw[ht]at HTw
 rw[hb0]at HPb
 dsimp only[Option.isSome]at HPa HPb
 unfold fnv at hk
 have HC:=hid hC
 clear hC
 have HB:=hid (show Bxs w [(w.heap.size,#[.int .i64 kd,.string oa,.string ob,.int .i64 oo,.int .i64 og,.int .i64 on,.string od],35)] (w.alloc (.cells #[.int .i64 kd,.string oa,.string ob,.int .i64 oo,.int .i64 og,.int .i64 on,.string od] 35))from Bxs.one w _ _)
 go_enter func12,ntmps12
 go_wp2_with fail
 generalize w.alloc (.cells #[.int .i64 kd,.string oa,.string ob,.int .i64 oo,.int .i64 og,.int .i64 on,.string od] 35)=W0 at HB|-
 have HSx:=hid (show∀W,Below W0.heap.size W0 W->W.cell? ⟨w.heap.size,0,none⟩=some (.int .i64 kd)/\Below W0.heap.size W0 W from λW hb=>⟨(HB.out.kept hb).cell 0 rfl 0,hb⟩)
 have hBd:=(Below.refl W0.heap.size W0).drew
 go_wp2_with fail
 go_region_held3 (λW=>W.cell? ⟨w.heap.size,0,none⟩=some (.int .i64 kd)/\Below W0.heap.size W0 W)
  (first|exact HSx.out _ (by assumption))
  (first|(go_at_call 58;(with_reducible refine(HDo.out _).mono ?_);rintro e w1 ⟨mb,rfl,hM,hw1⟩;have hb1:=T8.btrans hw1 (by assumption);have hl:=hM.look_ok underlying117 (z:= .nilFunc) rfl hkw;rw[hk]at hl;dsimp only[Option.getD,Option.isSome]at hl))
 all_goals
  have HB:=hid (HB.out.kept hb1)
  clear hb1 hw1 hBd HSx hM hl
  obtain⟨b0_0,b0_1,b0_2,b0_3,b0_4,b0_5,b0_6⟩:=HB.out.c7 0 rfl
  go_wp2_with fail
  refine(HPa.out w1).mono ?_
  rintro e w1 ⟨rfl,hb⟩
  have HB:=hid (HB.out.kept hb)
  clear b0_0 b0_1 b0_2 b0_3 b0_4 b0_5 b0_6
  obtain⟨b0_0,b0_1,b0_2,b0_3,b0_4,b0_5,b0_6⟩:=HB.out.c7 0 rfl
  dsimp only
  go_wp2_with fail
  refine(HTw.out w1).mono ?_
  rintro e w2 ⟨rfl,hb⟩
  have HB:=hid (HB.out.kept hb)
  clear b0_0 b0_1 b0_2 b0_3 b0_4 b0_5 b0_6
  obtain⟨b0_0,b0_1,b0_2,b0_3,b0_4,b0_5,b0_6⟩:=HB.out.c7 0 rfl
  dsimp only
  go_wp2_with fail
  refine(HPb.out w2).mono ?_
  rintro e w3 ⟨rfl,hb⟩
  have HB:=hid (HB.out.kept hb)
  clear b0_0 b0_1 b0_2 b0_3 b0_4 b0_5 b0_6
  dsimp only
  go_wp2_with fail
  have hgB:=(HB.out.below.block _ (lt_of_obj HG.out)).trans HG.out
  have HSx:=hid (show∀W,Below w3.heap.size w3 W->W.cell? ⟨g,0,none⟩=some (pv m)/\W.cell? ⟨g,1,none⟩=some (.int .i64 nx)/\W.cell? ⟨w.heap.size,0,none⟩=some (.int .i64 kd)/\W.cell? ⟨w.heap.size,1,none⟩=some (.string oa)/\W.cell? ⟨w.heap.size,2,none⟩=some (.string ob)/\W.cell? ⟨w.heap.size,3,none⟩=some (.int .i64 oo)/\W.cell? ⟨w.heap.size,4,none⟩=some (.int .i64 og)/\W.cell? ⟨w.heap.size,5,none⟩=some (.int .i64 on)/\W.cell? ⟨w.heap.size,6,none⟩=some (.string od)/\Below w3.heap.size w3 W from λW hb=>⟨cell_obj ((hb.block _ (lt_of_obj hgB)).trans hgB) 0,cell_obj ((hb.block _ (lt_of_obj hgB)).trans hgB) 1,(HB.out.kept hb).cell 0 rfl 0,(HB.out.kept hb).cell 0 rfl 1,(HB.out.kept hb).cell 0 rfl 2,(HB.out.kept hb).cell 0 rfl 3,(HB.out.kept hb).cell 0 rfl 4,(HB.out.kept hb).cell 0 rfl 5,(HB.out.kept hb).cell 0 rfl 6,hb⟩)
  clear hgB
  have HWt:=hid (show∀W,Below w3.heap.size w3 W->Below w.heap.size w W from λW hb=>HB.out.below.trans (hb.mono HB.out.below.size))
  have hBd:=(Below.refl w3.heap.size w3).drew
  have hBe:=(yE (Below.refl w3.heap.size w3) (.cells #[.pointer none,.int .i64 0] 98)).drew
  have HZe:=hid (show(w3.alloc (.cells #[.pointer none,.int .i64 0] 98)).drew.heap[w3.heap.size]?=some (.cells #[.pointer none,.int .i64 0] 98 (0,0))from heap_alloc_new _ _)
  have HZd:=hid (show(w3.drew.alloc (.cells #[.pointer none,.int .i64 0] 98)).heap[w3.drew.heap.size]?=some (.cells #[.pointer none,.int .i64 0] 98 (0,0))from heap_alloc_new _ _)
  go_wp2_with fail
  go_region_held3 (λW=>W.cell? ⟨g,0,none⟩=some (pv m)/\W.cell? ⟨g,1,none⟩=some (.int .i64 nx)/\W.cell? ⟨w.heap.size,0,none⟩=some (.int .i64 kd)/\W.cell? ⟨w.heap.size,1,none⟩=some (.string oa)/\W.cell? ⟨w.heap.size,2,none⟩=some (.string ob)/\W.cell? ⟨w.heap.size,3,none⟩=some (.int .i64 oo)/\W.cell? ⟨w.heap.size,4,none⟩=some (.int .i64 og)/\W.cell? ⟨w.heap.size,5,none⟩=some (.int .i64 on)/\W.cell? ⟨w.heap.size,6,none⟩=some (.string od)/\Below w3.heap.size w3 W)
   (first|exact HSx.out _ (by assumption)|exact HSx.out _ (yE (by assumption) _)|exact HSx.out _ (vM (by assumption) (Nat.le_refl _) _ _))
   (first|((with_reducible refine(HC.out _ (HWt.out _ (by assumption))).mono ?_);rintro e w20 ⟨hw20,hne,rfl⟩;have hb20:=T8.btrans hw20 (by assumption);try (have HZ6:=hid ((hw20.block _ (lt_of_obj HZe.out)).trans HZe.out);have z0:=cell_obj HZ6.out 0;have z1:=cell_obj HZ6.out 1;have z2:=free_obj HZ6.out 0;have z3:=free_obj HZ6.out 1);try (have HZ6:=hid ((hw20.block _ (lt_of_obj HZd.out)).trans HZd.out);have z0:=cell_obj HZ6.out 0;have z1:=cell_obj HZ6.out 1;have z2:=free_obj HZ6.out 0;have z3:=free_obj HZ6.out 1)))
  all_goals
   clear HSx hBd hBe HZd HZe
   go_wp2_with fail
   go_ret
   first
    |exact⟨hne,rfl,HWt.out _ (vM hb20 (Nat.le_refl _) _ _)⟩
    |exact⟨hne,rfl,HWt.out _ (yE hb20 _)⟩
theorem zew(g:Nat)(m:Option Nat)(nx:Int)(l:List Fs.Item)(kd:Int)(oa ob:ByteArray)(oo og on:Int)(od:ByteArray)(w:World)(h:Sv w m l)(hg:w.heap[g]?=some (.cells #[pv m,.int .i64 nx] 101 (0,0)))(hkw:(ik kd).wf=true)(pa:oa.size<=140737488355328)(pb:ob.size<=140737488355328)(gk:Nat)(eg: ∀args w,(callFunc gk args).run prog w= .ok (.enter gk args) w)(hk:fdo kd=some (fnv gk)){na:List ByteArray}(ha:spl oa=some na)(ht:qW kd=true){nb:List ByteArray}(hb0:spl ob=some nb)(l2:List Fs.Item)(n2:Int)(hC: ∀W,Below w.heap.size w W->Calls prog gk #[stv m nx,.agg #[.int .i64 kd,.string oa,.string ob,.int .i64 oo,.int .i64 og,.int .i64 on,.string od]] W (zP (.ok ⟨l2,n2⟩) W)):Calls prog 12 #[.pointer (some ⟨g,0,none⟩),.agg #[.int .i64 kd,.string oa,.string ob,.int .i64 oo,.int .i64 og,.int .i64 on,.string od]] w (jj (.ok ⟨l2,n2⟩) g w):=by
 have HDo:=hid yZ
 have HPa:=hid (λW=>yu oa W pa)
 have HPb:=hid (λW=>yu ob W pb)
 have HTw:=hid (λW=>kf kd W)
 have HG:=hid hg
 have HSv:=hid h
 clear hg h pa pb
 rw[ha]at HPa
 rw[ht]at HTw
 rw[hb0]at HPb
 dsimp only[Option.isSome]at HPa HPb
 unfold fnv at hk
 have HC:=hid hC
 clear hC
 have HB:=hid (show Bxs w [(w.heap.size,#[.int .i64 kd,.string oa,.string ob,.int .i64 oo,.int .i64 og,.int .i64 on,.string od],35)] (w.alloc (.cells #[.int .i64 kd,.string oa,.string ob,.int .i64 oo,.int .i64 og,.int .i64 on,.string od] 35))from Bxs.one w _ _)
 go_enter func12,ntmps12
 go_wp2_with fail
 generalize w.alloc (.cells #[.int .i64 kd,.string oa,.string ob,.int .i64 oo,.int .i64 og,.int .i64 on,.string od] 35)=W0 at HB|-
 have HSx:=hid (show∀W,Below W0.heap.size W0 W->W.cell? ⟨w.heap.size,0,none⟩=some (.int .i64 kd)/\Below W0.heap.size W0 W from λW hb=>⟨(HB.out.kept hb).cell 0 rfl 0,hb⟩)
 have hBd:=(Below.refl W0.heap.size W0).drew
 go_wp2_with fail
 go_region_held3 (λW=>W.cell? ⟨w.heap.size,0,none⟩=some (.int .i64 kd)/\Below W0.heap.size W0 W)
  (first|exact HSx.out _ (by assumption))
  (first|(go_at_call 58;(with_reducible refine(HDo.out _).mono ?_);rintro e w1 ⟨mb,rfl,hM,hw1⟩;have hb1:=T8.btrans hw1 (by assumption);have hl:=hM.look_ok underlying117 (z:= .nilFunc) rfl hkw;rw[hk]at hl;dsimp only[Option.getD,Option.isSome]at hl))
 all_goals
  have HB:=hid (HB.out.kept hb1)
  clear hb1 hw1 hBd HSx hM hl
  obtain⟨b0_0,b0_1,b0_2,b0_3,b0_4,b0_5,b0_6⟩:=HB.out.c7 0 rfl
  go_wp2_with fail
  refine(HPa.out w1).mono ?_
  rintro e w1 ⟨rfl,hb⟩
  have HB:=hid (HB.out.kept hb)
  clear b0_0 b0_1 b0_2 b0_3 b0_4 b0_5 b0_6
  obtain⟨b0_0,b0_1,b0_2,b0_3,b0_4,b0_5,b0_6⟩:=HB.out.c7 0 rfl
  dsimp only
  go_wp2_with fail
  refine(HTw.out w1).mono ?_
  rintro e w2 ⟨rfl,hb⟩
  have HB:=hid (HB.out.kept hb)
  clear b0_0 b0_1 b0_2 b0_3 b0_4 b0_5 b0_6
  obtain⟨b0_0,b0_1,b0_2,b0_3,b0_4,b0_5,b0_6⟩:=HB.out.c7 0 rfl
  dsimp only
  go_wp2_with fail
  refine(HPb.out w2).mono ?_
  rintro e w3 ⟨rfl,hb⟩
  have HB:=hid (HB.out.kept hb)
  clear b0_0 b0_1 b0_2 b0_3 b0_4 b0_5 b0_6
  dsimp only
  go_wp2_with fail
  have hgB:=(HB.out.below.block _ (lt_of_obj HG.out)).trans HG.out
  have HSx:=hid (show∀W,Below w3.heap.size w3 W->W.cell? ⟨g,0,none⟩=some (pv m)/\W.cell? ⟨g,1,none⟩=some (.int .i64 nx)/\W.cell? ⟨w.heap.size,0,none⟩=some (.int .i64 kd)/\W.cell? ⟨w.heap.size,1,none⟩=some (.string oa)/\W.cell? ⟨w.heap.size,2,none⟩=some (.string ob)/\W.cell? ⟨w.heap.size,3,none⟩=some (.int .i64 oo)/\W.cell? ⟨w.heap.size,4,none⟩=some (.int .i64 og)/\W.cell? ⟨w.heap.size,5,none⟩=some (.int .i64 on)/\W.cell? ⟨w.heap.size,6,none⟩=some (.string od)/\Below w3.heap.size w3 W from λW hb=>⟨cell_obj ((hb.block _ (lt_of_obj hgB)).trans hgB) 0,cell_obj ((hb.block _ (lt_of_obj hgB)).trans hgB) 1,(HB.out.kept hb).cell 0 rfl 0,(HB.out.kept hb).cell 0 rfl 1,(HB.out.kept hb).cell 0 rfl 2,(HB.out.kept hb).cell 0 rfl 3,(HB.out.kept hb).cell 0 rfl 4,(HB.out.kept hb).cell 0 rfl 5,(HB.out.kept hb).cell 0 rfl 6,hb⟩)
  clear hgB
  have HWt:=hid (show∀W,Below w3.heap.size w3 W->Below w.heap.size w W from λW hb=>HB.out.below.trans (hb.mono HB.out.below.size))
  have hBd:=(Below.refl w3.heap.size w3).drew
  have hBe:=(yE (Below.refl w3.heap.size w3) (.cells #[.pointer none,.int .i64 0] 98)).drew
  have HZe:=hid (show(w3.alloc (.cells #[.pointer none,.int .i64 0] 98)).drew.heap[w3.heap.size]?=some (.cells #[.pointer none,.int .i64 0] 98 (0,0))from heap_alloc_new _ _)
  have HZd:=hid (show(w3.drew.alloc (.cells #[.pointer none,.int .i64 0] 98)).heap[w3.drew.heap.size]?=some (.cells #[.pointer none,.int .i64 0] 98 (0,0))from heap_alloc_new _ _)
  go_wp2_with fail
  go_region_held3 (λW=>W.cell? ⟨g,0,none⟩=some (pv m)/\W.cell? ⟨g,1,none⟩=some (.int .i64 nx)/\W.cell? ⟨w.heap.size,0,none⟩=some (.int .i64 kd)/\W.cell? ⟨w.heap.size,1,none⟩=some (.string oa)/\W.cell? ⟨w.heap.size,2,none⟩=some (.string ob)/\W.cell? ⟨w.heap.size,3,none⟩=some (.int .i64 oo)/\W.cell? ⟨w.heap.size,4,none⟩=some (.int .i64 og)/\W.cell? ⟨w.heap.size,5,none⟩=some (.int .i64 on)/\W.cell? ⟨w.heap.size,6,none⟩=some (.string od)/\Below w3.heap.size w3 W)
   (first|exact HSx.out _ (by assumption)|exact HSx.out _ (yE (by assumption) _)|exact HSx.out _ (vM (by assumption) (Nat.le_refl _) _ _))
   (first|((with_reducible refine(HC.out _ (HWt.out _ (by assumption))).mono ?_);rintro e w20 ⟨hw20,m2,rfl,hS2⟩;have HS2:=hid hS2;clear hS2;have hb20:=T8.btrans hw20 (by assumption);try (have HZ6:=hid ((hw20.block _ (lt_of_obj HZe.out)).trans HZe.out);have z0:=cell_obj HZ6.out 0;have z1:=cell_obj HZ6.out 1;have z2:=free_obj HZ6.out 0;have z3:=free_obj HZ6.out 1);try (have HZ6:=hid ((hw20.block _ (lt_of_obj HZd.out)).trans HZd.out))))
  all_goals
   first
    |have HF:=hid (show zfl w3 _ w3.heap.size m2 n2 l2 from⟨vM hb20 (Nat.le_refl _) (pv m2) (.int .i64 n2),Zs HZ6.out _ _,HS2.out.set2 HZ6.out _ _ (HSv.out.dg.below (HWt.out _ (hb20.setCell (Nat.le_refl _) _))) (HSv.out.dg.below (HWt.out _ (vM hb20 (Nat.le_refl _) _ _)))⟩)
     generalize (w20.setCell ⟨w3.heap.size,0,none⟩ (pv m2)).setCell ⟨w3.heap.size,1,none⟩ (.int .i64 n2)=W9 at HF|-
     generalize w3.heap.size=p9 at HF|-
    |have HF:=hid (show zfl w3 _ w20.heap.size m2 n2 l2 from⟨yE hb20 (.cells #[pv m2,.int .i64 n2] 98),heap_alloc_new _ _,HS2.out.below (below_one _ _)⟩)
     generalize w20.alloc (.cells #[pv m2,.int .i64 n2] 98)=W9 at HF|-
     generalize w20.heap.size=p9 at HF|-
   have u0:W9.cell? ⟨p9,0,none⟩=some (pv m2):=cell_obj HF.out.2.1 0
   have u1:W9.cell? ⟨p9,1,none⟩=some (.int .i64 n2):=cell_obj HF.out.2.1 1
   have HB9:=hid (HWt.out _ HF.out.1)
   have HG9:=hid ((HB9.out.block _ (lt_of_obj HG.out)).trans HG.out)
   try skip
   clear HSx hBd hBe HZd HZe HWt hb20 hw20
   go_wp2_with (first|(refine wpList_store_row rfl 98 _ _ rfl g #[pv m2,.int .i64 n2] rfl rfl 101 #[pv m,.int .i64 nx] HG9.out (by kernel_rfl) rfl (by rw[<-Array.all_toList];rfl) ?_)|fail)
   go_ret
   exact Qh HB9.out HG9.out HF.out.2.2 rfl
theorem zct(g:Nat)(m:Option Nat)(nx:Int)(l:List Fs.Item)(kd:Int)(oa ob:ByteArray)(oo og on:Int)(od:ByteArray)(w:World)(_:Sv w m l)(hg:w.heap[g]?=some (.cells #[pv m,.int .i64 nx] 101 (0,0)))(hkw:(ik kd).wf=true)(pa:oa.size<=140737488355328)(_:ob.size<=140737488355328)(gk:Nat)(eg: ∀args w,(callFunc gk args).run prog w= .ok (.enter gk args) w)(hk:fdo kd=some (fnv gk)){na:List ByteArray}(ha:spl oa=some na)(ht:qW kd=false)(ec:Int)(hC: ∀W,Below w.heap.size w W->Calls prog gk #[stv m nx,.agg #[.int .i64 kd,.string oa,.string ob,.int .i64 oo,.int .i64 og,.int .i64 on,.string od]] W (zP (.error ec) W)):Calls prog 12 #[.pointer (some ⟨g,0,none⟩),.agg #[.int .i64 kd,.string oa,.string ob,.int .i64 oo,.int .i64 og,.int .i64 on,.string od]] w (jj (.error ec) g w):=by
 have HDo:=hid yZ
 have HPa:=hid (λW=>yu oa W pa)
 have HTw:=hid (λW=>kf kd W)
 have HG:=hid hg
 clear hg pa
 rw[ha]at HPa
 rw[ht]at HTw
 dsimp only[Option.isSome]at HPa
 unfold fnv at hk
 have HC:=hid hC
 clear hC
 have HB:=hid (show Bxs w [(w.heap.size,#[.int .i64 kd,.string oa,.string ob,.int .i64 oo,.int .i64 og,.int .i64 on,.string od],35)] (w.alloc (.cells #[.int .i64 kd,.string oa,.string ob,.int .i64 oo,.int .i64 og,.int .i64 on,.string od] 35))from Bxs.one w _ _)
 go_enter func12,ntmps12
 go_wp2_with fail
 generalize w.alloc (.cells #[.int .i64 kd,.string oa,.string ob,.int .i64 oo,.int .i64 og,.int .i64 on,.string od] 35)=W0 at HB|-
 have HSx:=hid (show∀W,Below W0.heap.size W0 W->W.cell? ⟨w.heap.size,0,none⟩=some (.int .i64 kd)/\Below W0.heap.size W0 W from λW hb=>⟨(HB.out.kept hb).cell 0 rfl 0,hb⟩)
 have hBd:=(Below.refl W0.heap.size W0).drew
 go_wp2_with fail
 go_region_held3 (λW=>W.cell? ⟨w.heap.size,0,none⟩=some (.int .i64 kd)/\Below W0.heap.size W0 W)
  (first|exact HSx.out _ (by assumption))
  (first|(go_at_call 58;(with_reducible refine(HDo.out _).mono ?_);rintro e w1 ⟨mb,rfl,hM,hw1⟩;have hb1:=T8.btrans hw1 (by assumption);have hl:=hM.look_ok underlying117 (z:= .nilFunc) rfl hkw;rw[hk]at hl;dsimp only[Option.getD,Option.isSome]at hl))
 all_goals
  have HB:=hid (HB.out.kept hb1)
  clear hb1 hw1 hBd HSx hM hl
  obtain⟨b0_0,b0_1,b0_2,b0_3,b0_4,b0_5,b0_6⟩:=HB.out.c7 0 rfl
  go_wp2_with fail
  refine(HPa.out w1).mono ?_
  rintro e w1 ⟨rfl,hb⟩
  have HB:=hid (HB.out.kept hb)
  clear b0_0 b0_1 b0_2 b0_3 b0_4 b0_5 b0_6
  obtain⟨b0_0,b0_1,b0_2,b0_3,b0_4,b0_5,b0_6⟩:=HB.out.c7 0 rfl
  dsimp only
  go_wp2_with fail
  refine(HTw.out w1).mono ?_
  rintro e w2 ⟨rfl,hb⟩
  have HB:=hid (HB.out.kept hb)
  clear b0_0 b0_1 b0_2 b0_3 b0_4 b0_5 b0_6
  dsimp only
  go_wp2_with fail
  have hgB:=(HB.out.below.block _ (lt_of_obj HG.out)).trans HG.out
  have HSx:=hid (show∀W,Below w2.heap.size w2 W->W.cell? ⟨g,0,none⟩=some (pv m)/\W.cell? ⟨g,1,none⟩=some (.int .i64 nx)/\W.cell? ⟨w.heap.size,0,none⟩=some (.int .i64 kd)/\W.cell? ⟨w.heap.size,1,none⟩=some (.string oa)/\W.cell? ⟨w.heap.size,2,none⟩=some (.string ob)/\W.cell? ⟨w.heap.size,3,none⟩=some (.int .i64 oo)/\W.cell? ⟨w.heap.size,4,none⟩=some (.int .i64 og)/\W.cell? ⟨w.heap.size,5,none⟩=some (.int .i64 on)/\W.cell? ⟨w.heap.size,6,none⟩=some (.string od)/\Below w2.heap.size w2 W from λW hb=>⟨cell_obj ((hb.block _ (lt_of_obj hgB)).trans hgB) 0,cell_obj ((hb.block _ (lt_of_obj hgB)).trans hgB) 1,(HB.out.kept hb).cell 0 rfl 0,(HB.out.kept hb).cell 0 rfl 1,(HB.out.kept hb).cell 0 rfl 2,(HB.out.kept hb).cell 0 rfl 3,(HB.out.kept hb).cell 0 rfl 4,(HB.out.kept hb).cell 0 rfl 5,(HB.out.kept hb).cell 0 rfl 6,hb⟩)
  clear hgB
  have HWt:=hid (show∀W,Below w2.heap.size w2 W->Below w.heap.size w W from λW hb=>HB.out.below.trans (hb.mono HB.out.below.size))
  have hBd:=(Below.refl w2.heap.size w2).drew
  have hBe:=(yE (Below.refl w2.heap.size w2) (.cells #[.pointer none,.int .i64 0] 98)).drew
  have HZe:=hid (show(w2.alloc (.cells #[.pointer none,.int .i64 0] 98)).drew.heap[w2.heap.size]?=some (.cells #[.pointer none,.int .i64 0] 98 (0,0))from heap_alloc_new _ _)
  have HZd:=hid (show(w2.drew.alloc (.cells #[.pointer none,.int .i64 0] 98)).heap[w2.drew.heap.size]?=some (.cells #[.pointer none,.int .i64 0] 98 (0,0))from heap_alloc_new _ _)
  go_wp2_with fail
  go_region_held3 (λW=>W.cell? ⟨g,0,none⟩=some (pv m)/\W.cell? ⟨g,1,none⟩=some (.int .i64 nx)/\W.cell? ⟨w.heap.size,0,none⟩=some (.int .i64 kd)/\W.cell? ⟨w.heap.size,1,none⟩=some (.string oa)/\W.cell? ⟨w.heap.size,2,none⟩=some (.string ob)/\W.cell? ⟨w.heap.size,3,none⟩=some (.int .i64 oo)/\W.cell? ⟨w.heap.size,4,none⟩=some (.int .i64 og)/\W.cell? ⟨w.heap.size,5,none⟩=some (.int .i64 on)/\W.cell? ⟨w.heap.size,6,none⟩=some (.string od)/\Below w2.heap.size w2 W)
   (first|exact HSx.out _ (by assumption)|exact HSx.out _ (yE (by assumption) _)|exact HSx.out _ (vM (by assumption) (Nat.le_refl _) _ _))
   (first|((with_reducible refine(HC.out _ (HWt.out _ (by assumption))).mono ?_);rintro e w20 ⟨hw20,hne,rfl⟩;have hb20:=T8.btrans hw20 (by assumption);try (have HZ6:=hid ((hw20.block _ (lt_of_obj HZe.out)).trans HZe.out);have z0:=cell_obj HZ6.out 0;have z1:=cell_obj HZ6.out 1;have z2:=free_obj HZ6.out 0;have z3:=free_obj HZ6.out 1);try (have HZ6:=hid ((hw20.block _ (lt_of_obj HZd.out)).trans HZd.out);have z0:=cell_obj HZ6.out 0;have z1:=cell_obj HZ6.out 1;have z2:=free_obj HZ6.out 0;have z3:=free_obj HZ6.out 1)))
  all_goals
   clear HSx hBd hBe HZd HZe
   go_wp2_with fail
   go_ret
   first
    |exact⟨hne,rfl,HWt.out _ (vM hb20 (Nat.le_refl _) _ _)⟩
    |exact⟨hne,rfl,HWt.out _ (yE hb20 _)⟩
theorem zex(g:Nat)(m:Option Nat)(nx:Int)(l:List Fs.Item)(kd:Int)(oa ob:ByteArray)(oo og on:Int)(od:ByteArray)(w:World)(h:Sv w m l)(hg:w.heap[g]?=some (.cells #[pv m,.int .i64 nx] 101 (0,0)))(hkw:(ik kd).wf=true)(pa:oa.size<=140737488355328)(_:ob.size<=140737488355328)(gk:Nat)(eg: ∀args w,(callFunc gk args).run prog w= .ok (.enter gk args) w)(hk:fdo kd=some (fnv gk)){na:List ByteArray}(ha:spl oa=some na)(ht:qW kd=false)(l2:List Fs.Item)(n2:Int)(hC: ∀W,Below w.heap.size w W->Calls prog gk #[stv m nx,.agg #[.int .i64 kd,.string oa,.string ob,.int .i64 oo,.int .i64 og,.int .i64 on,.string od]] W (zP (.ok ⟨l2,n2⟩) W)):Calls prog 12 #[.pointer (some ⟨g,0,none⟩),.agg #[.int .i64 kd,.string oa,.string ob,.int .i64 oo,.int .i64 og,.int .i64 on,.string od]] w (jj (.ok ⟨l2,n2⟩) g w):=by
 have HDo:=hid yZ
 have HPa:=hid (λW=>yu oa W pa)
 have HTw:=hid (λW=>kf kd W)
 have HG:=hid hg
 have HSv:=hid h
 clear hg h pa
 rw[ha]at HPa
 rw[ht]at HTw
 dsimp only[Option.isSome]at HPa
 unfold fnv at hk
 have HC:=hid hC
 clear hC
 have HB:=hid (show Bxs w [(w.heap.size,#[.int .i64 kd,.string oa,.string ob,.int .i64 oo,.int .i64 og,.int .i64 on,.string od],35)] (w.alloc (.cells #[.int .i64 kd,.string oa,.string ob,.int .i64 oo,.int .i64 og,.int .i64 on,.string od] 35))from Bxs.one w _ _)
 go_enter func12,ntmps12
 go_wp2_with fail
 generalize w.alloc (.cells #[.int .i64 kd,.string oa,.string ob,.int .i64 oo,.int .i64 og,.int .i64 on,.string od] 35)=W0 at HB|-
 have HSx:=hid (show∀W,Below W0.heap.size W0 W->W.cell? ⟨w.heap.size,0,none⟩=some (.int .i64 kd)/\Below W0.heap.size W0 W from λW hb=>⟨(HB.out.kept hb).cell 0 rfl 0,hb⟩)
 have hBd:=(Below.refl W0.heap.size W0).drew
 go_wp2_with fail
 go_region_held3 (λW=>W.cell? ⟨w.heap.size,0,none⟩=some (.int .i64 kd)/\Below W0.heap.size W0 W)
  (first|exact HSx.out _ (by assumption))
  (first|(go_at_call 58;(with_reducible refine(HDo.out _).mono ?_);rintro e w1 ⟨mb,rfl,hM,hw1⟩;have hb1:=T8.btrans hw1 (by assumption);have hl:=hM.look_ok underlying117 (z:= .nilFunc) rfl hkw;rw[hk]at hl;dsimp only[Option.getD,Option.isSome]at hl))
 all_goals
  have HB:=hid (HB.out.kept hb1)
  clear hb1 hw1 hBd HSx hM hl
  obtain⟨b0_0,b0_1,b0_2,b0_3,b0_4,b0_5,b0_6⟩:=HB.out.c7 0 rfl
  go_wp2_with fail
  refine(HPa.out w1).mono ?_
  rintro e w1 ⟨rfl,hb⟩
  have HB:=hid (HB.out.kept hb)
  clear b0_0 b0_1 b0_2 b0_3 b0_4 b0_5 b0_6
  obtain⟨b0_0,b0_1,b0_2,b0_3,b0_4,b0_5,b0_6⟩:=HB.out.c7 0 rfl
  dsimp only
  go_wp2_with fail
  refine(HTw.out w1).mono ?_
  rintro e w2 ⟨rfl,hb⟩
  have HB:=hid (HB.out.kept hb)
  clear b0_0 b0_1 b0_2 b0_3 b0_4 b0_5 b0_6
  dsimp only
  go_wp2_with fail
  have hgB:=(HB.out.below.block _ (lt_of_obj HG.out)).trans HG.out
  have HSx:=hid (show∀W,Below w2.heap.size w2 W->W.cell? ⟨g,0,none⟩=some (pv m)/\W.cell? ⟨g,1,none⟩=some (.int .i64 nx)/\W.cell? ⟨w.heap.size,0,none⟩=some (.int .i64 kd)/\W.cell? ⟨w.heap.size,1,none⟩=some (.string oa)/\W.cell? ⟨w.heap.size,2,none⟩=some (.string ob)/\W.cell? ⟨w.heap.size,3,none⟩=some (.int .i64 oo)/\W.cell? ⟨w.heap.size,4,none⟩=some (.int .i64 og)/\W.cell? ⟨w.heap.size,5,none⟩=some (.int .i64 on)/\W.cell? ⟨w.heap.size,6,none⟩=some (.string od)/\Below w2.heap.size w2 W from λW hb=>⟨cell_obj ((hb.block _ (lt_of_obj hgB)).trans hgB) 0,cell_obj ((hb.block _ (lt_of_obj hgB)).trans hgB) 1,(HB.out.kept hb).cell 0 rfl 0,(HB.out.kept hb).cell 0 rfl 1,(HB.out.kept hb).cell 0 rfl 2,(HB.out.kept hb).cell 0 rfl 3,(HB.out.kept hb).cell 0 rfl 4,(HB.out.kept hb).cell 0 rfl 5,(HB.out.kept hb).cell 0 rfl 6,hb⟩)
  clear hgB
  have HWt:=hid (show∀W,Below w2.heap.size w2 W->Below w.heap.size w W from λW hb=>HB.out.below.trans (hb.mono HB.out.below.size))
  have hBd:=(Below.refl w2.heap.size w2).drew
  have hBe:=(yE (Below.refl w2.heap.size w2) (.cells #[.pointer none,.int .i64 0] 98)).drew
  have HZe:=hid (show(w2.alloc (.cells #[.pointer none,.int .i64 0] 98)).drew.heap[w2.heap.size]?=some (.cells #[.pointer none,.int .i64 0] 98 (0,0))from heap_alloc_new _ _)
  have HZd:=hid (show(w2.drew.alloc (.cells #[.pointer none,.int .i64 0] 98)).heap[w2.drew.heap.size]?=some (.cells #[.pointer none,.int .i64 0] 98 (0,0))from heap_alloc_new _ _)
  go_wp2_with fail
  go_region_held3 (λW=>W.cell? ⟨g,0,none⟩=some (pv m)/\W.cell? ⟨g,1,none⟩=some (.int .i64 nx)/\W.cell? ⟨w.heap.size,0,none⟩=some (.int .i64 kd)/\W.cell? ⟨w.heap.size,1,none⟩=some (.string oa)/\W.cell? ⟨w.heap.size,2,none⟩=some (.string ob)/\W.cell? ⟨w.heap.size,3,none⟩=some (.int .i64 oo)/\W.cell? ⟨w.heap.size,4,none⟩=some (.int .i64 og)/\W.cell? ⟨w.heap.size,5,none⟩=some (.int .i64 on)/\W.cell? ⟨w.heap.size,6,none⟩=some (.string od)/\Below w2.heap.size w2 W)
   (first|exact HSx.out _ (by assumption)|exact HSx.out _ (yE (by assumption) _)|exact HSx.out _ (vM (by assumption) (Nat.le_refl _) _ _))
   (first|((with_reducible refine(HC.out _ (HWt.out _ (by assumption))).mono ?_);rintro e w20 ⟨hw20,m2,rfl,hS2⟩;have HS2:=hid hS2;clear hS2;have hb20:=T8.btrans hw20 (by assumption);try (have HZ6:=hid ((hw20.block _ (lt_of_obj HZe.out)).trans HZe.out);have z0:=cell_obj HZ6.out 0;have z1:=cell_obj HZ6.out 1;have z2:=free_obj HZ6.out 0;have z3:=free_obj HZ6.out 1);try (have HZ6:=hid ((hw20.block _ (lt_of_obj HZd.out)).trans HZd.out))))
  all_goals
   first
    |have HF:=hid (show zfl w2 _ w2.heap.size m2 n2 l2 from⟨vM hb20 (Nat.le_refl _) (pv m2) (.int .i64 n2),Zs HZ6.out _ _,HS2.out.set2 HZ6.out _ _ (HSv.out.dg.below (HWt.out _ (hb20.setCell (Nat.le_refl _) _))) (HSv.out.dg.below (HWt.out _ (vM hb20 (Nat.le_refl _) _ _)))⟩)
     generalize (w20.setCell ⟨w2.heap.size,0,none⟩ (pv m2)).setCell ⟨w2.heap.size,1,none⟩ (.int .i64 n2)=W9 at HF|-
     generalize w2.heap.size=p9 at HF|-
    |have HF:=hid (show zfl w2 _ w20.heap.size m2 n2 l2 from⟨yE hb20 (.cells #[pv m2,.int .i64 n2] 98),heap_alloc_new _ _,HS2.out.below (below_one _ _)⟩)
     generalize w20.alloc (.cells #[pv m2,.int .i64 n2] 98)=W9 at HF|-
     generalize w20.heap.size=p9 at HF|-
   have u0:W9.cell? ⟨p9,0,none⟩=some (pv m2):=cell_obj HF.out.2.1 0
   have u1:W9.cell? ⟨p9,1,none⟩=some (.int .i64 n2):=cell_obj HF.out.2.1 1
   have HB9:=hid (HWt.out _ HF.out.1)
   have HG9:=hid ((HB9.out.block _ (lt_of_obj HG.out)).trans HG.out)
   try skip
   clear HSx hBd hBe HZd HZe HWt hb20 hw20
   go_wp2_with (first|(refine wpList_store_row rfl 98 _ _ rfl g #[pv m2,.int .i64 n2] rfl rfl 101 #[pv m,.int .i64 nx] HG9.out (by kernel_rfl) rfl (by rw[<-Array.all_toList];rfl) ?_)|fail)
   go_ret
   exact Qh HB9.out HG9.out HF.out.2.2 rfl
end Go.Proofs.YtabmamofnhcgbaaGreatDoor
namespace Go.Proofs.YtabmamofnhcgbaaGreatDoor
open Go.RowKit Go.Less
open T8 (pv Dg)
attribute [local go_sem 9000] zg zf
theorem VX(m:Option Nat)(nx:Int)(l:List Fs.Item)(kd:Int)(oa ob:ByteArray)(oo og on:Int)(od:ByteArray)(w:World)(h:Sv w m l)(G:Fs.Half env ⟨l,nx⟩)(hf9:l.length<=900)(pa:oa.size<=140737488355328){na:List ByteArray}(ha:spl oa=some na)(pb:ob.size<=140737488355328){nb:List ByteArray}(hb:spl ob=some nb):Calls prog 103 #[stv m nx,.agg #[.int .i64 kd,.string oa,.string ob,.int .i64 oo,.int .i64 og,.int .i64 on,.string od]] w (zP (Fs.rename env ⟨l,nx⟩ na nb) w):=by
 have hlk:=Fs.Half.rename_is G env_ok (aa:=na) (bs:=nb) (vx hb)
 dsimp only at hlk
 have HFi:=hid (λW (hb:Below w.heap.size w W)=>xh m nx l oa W (h.below hb) pa)
 rcases zT (l:=l) ha with ⟨ec,hne,hw,hf⟩|⟨i,hw,hf⟩
 ·have HR:=hid (show Fs.rename env ⟨l,nx⟩ na nb= .error ec by rw[hlk,hw])
  have HF:=hid (show∀W,Below w.heap.size w W->Calls prog 62 #[stv m nx,.string oa] W (zU (0,Nd.none0,ec) W)from λW hb=>hf▸HFi.out W hb)
  clear HFi hf hw h hlk
  go_enter func103,ntmps103
  go_wp2_with fail
  obtain⟨W0,hW,HB⟩:=bx3 w m nx kd oa ob oo og on od;rw[hW];clear hW
  go_wp2_with fail
  refine(HF.out W0 HB.out.below).mono ?_
  rintro e w1 ⟨ea,eb,rfl,hE,hb⟩
  clear hE
  have HB:=hid (HB.out.kept hb)
  have HB:=hid (HB.out.more #[.int .i64 0,.int .i64 0,.string ⟨#[]⟩,.string ⟨#[]⟩,.slice ea 0 eb] 43 rfl)
  dsimp only
  go_wp2_with (first|(refine zb HB.out 2 rfl 98 _ _ rfl rfl #[.pointer none,.int .i64 0] rfl rfl (by kernel_rfl) rfl rfl (by decide) (by decide) ?_;intro w2 hS hK hbS hsS;have HBS:=hid hS;clear hS hK hbS hsS;have HB:=HBS;clear HBS)|fail)
  refine bodyPost_ret_by (zh rfl _ _ (w.heap.size+1+1) _ _ rfl (HB.out.obj 2 rfl)) rfl ?_
  exact zj HR.out hne HB.out.below
 ·rw [hw]at hlk
  simp only at hlk
  have hD9:=Qg G hw
  obtain⟨x,hx,hxD⟩:=G.walk_node hw
  have hXi:=(h.ok.node hx).2
  rw[hxD]at hf hlk
  obtain⟨k,mo,d,t,es⟩:=x
  have hF:=show∀W,Below w.heap.size w W->Calls prog 62 #[stv m nx,.string oa] W (zU (i,(⟨k,mo,d,t,es⟩:Nd.Node),0) W)from λW hb=>hf▸HFi.out W hb
  clear hf HFi
  dsimp only at hlk
  by_cases hi1:i=1
  ·subst hi1
   rw[if_pos rfl]at hlk
   have HR:=hid hlk
   have HF:=hid hF
   clear hF hlk hD9 hx hxD hXi hw h G
   go_enter func103,ntmps103
   go_wp2_with fail
   obtain⟨W0,hW,HB⟩:=bx3 w m nx kd oa ob oo og on od;rw[hW];clear hW
   go_wp2_with fail
   refine(HF.out W0 HB.out.below).mono ?_
   rintro e w1 ⟨a,c,rfl,hE,hb⟩
   clear hE
   have HB:=hid (HB.out.kept hb)
   have HB:=hid (HB.out.more #[.int .i64 k,.int .i64 mo,.string d,.string t,.slice a es.length c] 43 rfl)
   dsimp only
   go_wp2_with (first|(refine zb HB.out 2 rfl 98 _ _ rfl rfl #[.pointer none,.int .i64 0] rfl rfl (by kernel_rfl) rfl rfl (by decide) (by decide) ?_;intro w2 hS hK hbS hsS;have HBS:=hid hS;clear hS hK hbS hsS;have HB:=HBS;clear HBS)|fail)
   refine bodyPost_ret_by (zh rfl _ _ (w.heap.size+1+1) _ _ rfl (HB.out.obj 2 rfl)) rfl ?_
   exact zj HR.out (by decide) HB.out.below
  ·rw[if_neg hi1]at hlk
   have hpl: ∃dn2 y2,Fs.place l na= .ok (dn2,y2):=by
    rcases Gr.snoc_cases na with rfl|⟨ps,y,rfl⟩
    ·have h2:=G.walk_iff.1 hw
     injection h2 with h2
     exact absurd h2.symm hi1
    ·obtain⟨j,h2,h3⟩:=Gr.go_snoc.1 (G.walk_iff.1 hw)
     obtain⟨z,hz,hk,_⟩:=G.step_dir h3
     exact⟨j,y,G.place_iff.2 ⟨ps,rfl,h2,⟨z,hz,hk⟩⟩⟩
   obtain⟨dn2,y2,hpl⟩:=hpl
   have hlv:=G.leaveP_is hw
   dsimp only at hlv
   rw[hpl]at hlk hlv
   simp only at hlk hlv
   rw[hlv]at hlk
   simp only at hlk
   by_cases hk2:k=2
   ·subst hk2
    by_cases hwi:nb.take na.length=na
    ·rw[if_pos ⟨rfl,hwi⟩]at hlk
     have HR:=hid hlk
     have HWn:=YC ha hb
     rw[decide_eq_true hwi]at HWn
     have HWi:=hid (λW=>jZ oa ob W pa pb)
     unfold yv at HWi
     rw[HWn]at HWi
     have HF:=hid hF
     clear hF hlk hlv hpl HWn hwi hD9 hx hxD hXi hw h G
     go_enter func103,ntmps103
     go_wp2_with fail
     obtain⟨W0,hW,HB⟩:=bx3 w m nx kd oa ob oo og on od;rw[hW];clear hW
     go_wp2_with fail
     refine(HF.out W0 HB.out.below).mono ?_
     rintro e w1 ⟨a,c,rfl,hE,hb⟩
     clear hE
     have HB:=hid (HB.out.kept hb)
     have HB:=hid (HB.out.more #[.int .i64 2,.int .i64 mo,.string d,.string t,.slice a es.length c] 43 rfl)
     have b1:=HB.out.c7 1 rfl
     dsimp only
     go_wp2_with fail
     refine(HWi.out (w1.alloc (.cells #[.int .i64 2,.int .i64 mo,.string d,.string t,.slice a es.length c] 43))).mono ?_
     rintro e w2 ⟨rfl,hb⟩
     have HB:=hid (HB.out.kept hb)
     clear b1
     dsimp only
     go_wp2_with (first|(refine zb HB.out 2 rfl 98 _ _ rfl rfl #[.pointer none,.int .i64 0] rfl rfl (by kernel_rfl) rfl rfl (by decide) (by decide) ?_;intro w3 hS hK hbS hsS;have HBS:=hid hS;clear hS hK hbS hsS;have HB:=HBS;clear HBS)|fail)
     refine bodyPost_ret_by (zh rfl _ _ (w.heap.size+1+1) _ _ rfl (HB.out.obj 2 rfl)) rfl ?_
     exact zj HR.out (by decide) HB.out.below
    ·rw[if_neg (λe=>hwi e.2)]at hlk
     have HWn:=YC ha hb
     rw[decide_eq_false hwi]at HWn
     exact XM m nx l kd oa ob oo og on od w h hf9 pa ha pb hb i hi1 hXi mo d t es hxD hD9 HWn hF dn2 y2 hpl _ hlv hlk
   ·rw[if_neg (λe=>hk2 e.1)]at hlk
    exact XK m nx l kd oa ob oo og on od w h hf9 pa ha pb hb i hi1 hXi k mo d t es hxD hD9 hk2 hF dn2 y2 hpl _ hlv hlk
end Go.Proofs.YtabmamofnhcgbaaGreatDoor
namespace Go.Proofs.YtabmamofnhcgbaaGreatDoor
open Go.RowKit Go.Less Go.Maps
open T8 (pv Dg)
structure OpOk (o:Fs.Op):Prop where
 kind:(ik o.kind).wf=true
 a:o.a.size<=140737488355328
 b:o.b.size<=140737488355328
 data:o.data.size<=140737488355328
 off:o.off<=9223372036854775807
 from_:o.from_<=9223372036854775807
 n:o.n<=9223372036854775807
abbrev ovp(o:Fs.Op):Value:= .agg #[.int .i64 o.kind,.string o.a,.string o.b,.int .i64 o.off,.int .i64 o.from_,.int .i64 o.n,.string o.data]
theorem twoB_iff{k:Int}:qW k=true↔k=4\/k=7\/k=10:=by
 unfold qW
 simp only[Bool.or_eq_true,decide_eq_true_eq]
 constructor
 ·rintro ((h|h)|h)
  ·exact .inl h
  ·exact .inr (.inl h)
  ·exact .inr (.inr h)
 ·rintro (h|h|h)
  ·exact .inl (.inl h)
  ·exact .inl (.inr h)
  ·exact .inr h
theorem xB(gk:Nat)(eg: ∀args w,(callFunc gk args).run prog w= .ok (.enter gk args) w)(g:Nat)(m:Option Nat)(nx:Int)(l:List Fs.Item)(o:Fs.Op)(w:World)(h:Sv w m l)(hg:w.heap[g]?=some (.cells #[pv m,.int .i64 nx] 101 (0,0)))(hO:OpOk o)
  (hk:fdo o.kind=some (fnv gk)) (h1:1<=o.kind) (h11:o.kind<=11)
  (hC: ∀na,spl o.a=some na->(qW o.kind=true-> ∃nb,spl o.b=some nb)-> ∀W,Below w.heap.size w W->Calls prog gk #[stv m nx,ovp o] W (zP (Fs.act env ⟨l,nx⟩ o) W)):
  Calls prog 12 #[.pointer (some ⟨g,0,none⟩),ovp o] w (jj (Fs.act env ⟨l,nx⟩ o) g w):=by
 have hin: ¬ (o.kind<1\/11<o.kind):=by omega
 cases ha:spl o.a with
 | none=>
  exact pDo_a g m nx l o.kind o.a o.b o.off o.from_ o.n o.data w h hg hO.kind hO.a hO.b gk eg hk ha (by
   unfold Fs.act
   rw[if_neg hin,show env.sp o.a=none from ha])
 | some na=>
  cases ht:qW o.kind with
  | true=>
   cases hb:spl o.b with
   | none=>
    exact pDo_b g m nx l o.kind o.a o.b o.off o.from_ o.n o.data w h hg hO.kind hO.a hO.b gk eg hk ha ht hb (by
     unfold Fs.act
     rw[if_neg hin,show env.sp o.a=some na from ha]
     simp only
     rw[if_pos ⟨twoB_iff.1 ht,hb⟩])
   |some nb=>
    have hC2:=hC na ha (λ_=>⟨nb,hb⟩)
    cases hR:Fs.act env ⟨l,nx⟩ o with
    |error ec=>rw[hR]at hC2;exact zcs g m nx l o.kind o.a o.b o.off o.from_ o.n o.data w h hg hO.kind hO.a hO.b gk eg hk ha ht hb ec hC2
    |ok f=>rw[hR]at hC2;exact zew g m nx l o.kind o.a o.b o.off o.from_ o.n o.data w h hg hO.kind hO.a hO.b gk eg hk ha ht hb f.l f.next hC2
  |false=>
   have hC2:=hC na ha (λe=>by rw[ht]at e;cases e)
   cases hR:Fs.act env ⟨l,nx⟩ o with
   |error ec=>rw[hR]at hC2;exact zct g m nx l o.kind o.a o.b o.off o.from_ o.n o.data w h hg hO.kind hO.a hO.b gk eg hk ha ht ec hC2
   |ok f=>rw[hR]at hC2;exact zex g m nx l o.kind o.a o.b o.off o.from_ o.n o.data w h hg hO.kind hO.a hO.b gk eg hk ha ht f.l f.next hC2
theorem zey(g:Nat)(m:Option Nat)(nx:Int)(l:List Fs.Item)(o:Fs.Op)(w:World)(h:Sv w m l)(hg:w.heap[g]?=some (.cells #[pv m,.int .i64 nx] 101 (0,0)))(G:Fs.Half env ⟨l,nx⟩)(hnx:nx<=2147483646)(hO:OpOk o):
  Calls prog 12 #[.pointer (some ⟨g,0,none⟩),ovp o] w (jj (Fs.act env ⟨l,nx⟩ o) g w):=by
 by_cases hk:o.kind<1\/11<o.kind
 ·exact zcr g m nx l o.kind o.a o.b o.off o.from_ o.n o.data w h hg hO.kind hO.a hO.b (ze0 hk) (by unfold Fs.act;rw[if_pos hk])
 have hin:=hk
 have hf9:l.length<=900:=Nat.le_trans G.few (by decide)
 have hnx1:1<=nx/\nx<=2147483646:=by
  obtain⟨x,hx,_⟩:=G.top
  have:=G.pos _ (Fs.node_mem hx)
  simp only at this
  omega
 have hlt: ∀y∈l,y.1<nx:=λy hy=>(G.pos y hy).2
 obtain⟨kind,oa,ob,oo,og,on,od⟩:=o
 dsimp only at hk hin
 have hkk:kind=1\/kind=2\/kind=3\/kind=4\/kind=5\/kind=6\/kind=7\/kind=8\/kind=9\/kind=10\/kind=11:=by omega
 clear hk
 rcases hkk with rfl|rfl|rfl|rfl|rfl|rfl|rfl|rfl|rfl|rfl|rfl
 ·refine xB 97 (enters_of func97 (by kernel_rfl) rfl) g m nx l _ w h hg hO rfl (show(1:Int)<=1 by decide) (show(1:Int)<=11 by decide) λna ha _ W hW=> ?_
  have hact:Fs.act env ⟨l,nx⟩ ⟨1,oa,ob,oo,og,on,od⟩=Fs.create env ⟨l,nx⟩ ⟨1,oa,ob,oo,og,on,od⟩ na:=by
   unfold Fs.act;rw[if_neg hin,show env.sp oa=some na from ha];rfl
  rw[hact]
  exact Ys m nx 1 oa ob oo og on od W (λW2 hW2=>uW m nx l oa 1 on ⟨#[]⟩ ⟨#[]⟩ W2 (h.below (hW.trans (hW2.mono hW.size))) hf9 hO.a ha hnx1 hlt (Fs.Half.create_is G (vx ha))) (h.below hW).dg
 ·refine xB 98 (enters_of func98 (by kernel_rfl) rfl) g m nx l _ w h hg hO rfl (show(1:Int)<=2 by decide) (show(2:Int)<=11 by decide) λna ha _ W hW=> ?_
  have hact:Fs.act env ⟨l,nx⟩ ⟨2,oa,ob,oo,og,on,od⟩=Fs.create env ⟨l,nx⟩ ⟨2,oa,ob,oo,og,on,od⟩ na:=by
   unfold Fs.act;rw[if_neg hin,show env.sp oa=some na from ha];rfl
  rw[hact]
  exact XO m nx 2 oa ob oo og on od W (λW2 hW2=>uW m nx l oa 2 on ⟨#[]⟩ ⟨#[]⟩ W2 (h.below (hW.trans (hW2.mono hW.size))) hf9 hO.a ha hnx1 hlt (Fs.Half.create_is G (vx ha))) (h.below hW).dg
 ·refine xB 99 (enters_of func99 (by kernel_rfl) rfl) g m nx l _ w h hg hO rfl (show(1:Int)<=3 by decide) (show(3:Int)<=11 by decide) λna ha _ W hW=> ?_
  have hact:Fs.act env ⟨l,nx⟩ ⟨3,oa,ob,oo,og,on,od⟩=Fs.create env ⟨l,nx⟩ ⟨3,oa,ob,oo,og,on,od⟩ na:=by
   unfold Fs.act;rw[if_neg hin,show env.sp oa=some na from ha];rfl
  rw[hact]
  exact XN m nx 3 oa ob oo og on od W (λW2 hW2=>uW m nx l oa 3 511 ⟨#[]⟩ od W2 (h.below (hW.trans (hW2.mono hW.size))) hf9 hO.a ha hnx1 hlt (Fs.Half.create_is G (vx ha))) (h.below hW).dg
 ·refine xB 100 (enters_of func100 (by kernel_rfl) rfl) g m nx l _ w h hg hO rfl (show(1:Int)<=4 by decide) (show(4:Int)<=11 by decide) λna ha hb W hW=> ?_
  obtain⟨nb,hb⟩:=hb rfl
  have hact:Fs.act env ⟨l,nx⟩ ⟨4,oa,ob,oo,og,on,od⟩=Fs.link env ⟨l,nx⟩ na nb:=by
   unfold Fs.act;rw[if_neg hin,show env.sp oa=some na from ha,show env.sp ob=some nb from hb];rfl
  rw[hact]
  exact zad m nx l 4 oa ob oo og on od W (h.below hW) G hf9 hO.a ha hO.b hb
 ·refine xB 101 (enters_of func101 (by kernel_rfl) rfl) g m nx l _ w h hg hO rfl (show(1:Int)<=5 by decide) (show(5:Int)<=11 by decide) λna ha _ W hW=> ?_
  have hact:Fs.act env ⟨l,nx⟩ ⟨5,oa,ob,oo,og,on,od⟩=Fs.unlink ⟨l,nx⟩ na:=by
   unfold Fs.act;rw[if_neg hin,show env.sp oa=some na from ha];rfl
  rw[hact]
  exact VW m nx l 5 oa ob oo og on od W (h.below hW) G hf9 hO.a ha
 ·refine xB 102 (enters_of func102 (by kernel_rfl) rfl) g m nx l _ w h hg hO rfl (show(1:Int)<=6 by decide) (show(6:Int)<=11 by decide) λna ha _ W hW=> ?_
  have hact:Fs.act env ⟨l,nx⟩ ⟨6,oa,ob,oo,og,on,od⟩=Fs.rmdir ⟨l,nx⟩ na:=by
   unfold Fs.act;rw[if_neg hin,show env.sp oa=some na from ha];rfl
  rw[hact]
  exact JU m nx l 6 oa ob oo og on od W (h.below hW) G hf9 hO.a ha
 ·refine xB 103 (enters_of func103 (by kernel_rfl) rfl) g m nx l _ w h hg hO rfl (show(1:Int)<=7 by decide) (show(7:Int)<=11 by decide) λna ha hb W hW=> ?_
  obtain⟨nb,hb⟩:=hb rfl
  have hact:Fs.act env ⟨l,nx⟩ ⟨7,oa,ob,oo,og,on,od⟩=Fs.rename env ⟨l,nx⟩ na nb:=by
   unfold Fs.act;rw[if_neg hin,show env.sp oa=some na from ha,show env.sp ob=some nb from hb];rfl
  rw[hact]
  exact VX m nx l 7 oa ob oo og on od W (h.below hW) G hf9 hO.a ha hO.b hb
 ·refine xB 104 (enters_of func104 (by kernel_rfl) rfl) g m nx l _ w h hg hO rfl (show(1:Int)<=8 by decide) (show(8:Int)<=11 by decide) λna ha _ W hW=> ?_
  have hact:Fs.act env ⟨l,nx⟩ ⟨8,oa,ob,oo,og,on,od⟩=Fs.bytes env ⟨l,nx⟩ ⟨8,oa,ob,oo,og,on,od⟩ na ((env.sp ob).getD []):=by
   unfold Fs.act;rw[if_neg hin,show env.sp oa=some na from ha];rfl
  rw[hact]
  exact JS m nx 8 oa ob oo og on od W (λW2 hB=>j9 145 #[.pointer (some ⟨W.heap.size+1,0,none⟩)] (enters_of func145 (by kernel_rfl) rfl) (λs=>env.put s oo od) m nx l oa W2 (h.below (hW.trans (hB.below.mono hW.size))) G hf9 hO.a ha
   (λs hs W3 hW3=>show Calls prog 145 #[.string s,.pointer (some ⟨W.heap.size+1,0,none⟩)] W3 _ from zdM (W.heap.size+1) s 8 oa ob oo og on od W3 hs hO.data hO.off ((hB.kept hW3).obj 1 rfl)) (λs hs h0=>env_ok.put s oo od hs h0) rfl) (h.below hW).dg
 ·refine xB 105 (enters_of func105 (by kernel_rfl) rfl) g m nx l _ w h hg hO rfl (show(1:Int)<=9 by decide) (show(9:Int)<=11 by decide) λna ha _ W hW=> ?_
  have hact:Fs.act env ⟨l,nx⟩ ⟨9,oa,ob,oo,og,on,od⟩=Fs.bytes env ⟨l,nx⟩ ⟨9,oa,ob,oo,og,on,od⟩ na ((env.sp ob).getD []):=by
   unfold Fs.act;rw[if_neg hin,show env.sp oa=some na from ha];rfl
  rw[hact]
  exact Yr m nx 9 oa ob oo og on od W (λW2 hB=>j9 147 #[.pointer (some ⟨W.heap.size+1,0,none⟩)] (enters_of func147 (by kernel_rfl) rfl) (λs=>env.trunc s on) m nx l oa W2 (h.below (hW.trans (hB.below.mono hW.size))) G hf9 hO.a ha
   (λs hs W3 hW3=>show Calls prog 147 #[.string s,.pointer (some ⟨W.heap.size+1,0,none⟩)] W3 _ from zdL (W.heap.size+1) s 9 oa ob oo og on od W3 ((hB.kept hW3).obj 1 rfl)) (λs hs h0=>env_ok.trunc s on h0) rfl) (h.below hW).dg
 ·refine xB 106 (enters_of func106 (by kernel_rfl) rfl) g m nx l _ w h hg hO rfl (show(1:Int)<=10 by decide) (show(10:Int)<=11 by decide) λna ha hb W hW=> ?_
  obtain⟨nb,hb⟩:=hb rfl
  have hact:Fs.act env ⟨l,nx⟩ ⟨10,oa,ob,oo,og,on,od⟩=Fs.bytes env ⟨l,nx⟩ ⟨10,oa,ob,oo,og,on,od⟩ na nb:=by
   unfold Fs.act;rw[if_neg hin,show env.sp oa=some na from ha,show env.sp ob=some nb from hb];rfl
  rw[hact]
  refine JW m nx 10 oa ob oo og on od W (λW2 hB=>j9 149 #[.pointer (some ⟨W.heap.size,0,none⟩),.pointer (some ⟨W.heap.size+1,0,none⟩)] (enters_of func149 (by kernel_rfl) rfl) (uB l nb oo og on) m nx l oa W2 (h.below (hW.trans (hB.below.mono hW.size))) G hf9 hO.a ha
   (λs hs W3 hW3=>show Calls prog 149 #[.string s,.pointer (some ⟨W.heap.size,0,none⟩),.pointer (some ⟨W.heap.size+1,0,none⟩)] W3 _ from zdK W.heap.size (W.heap.size+1) s m nx l 10 oa ob oo og on od W3 (h.below (hW.trans ((hB.below.trans (hW3.mono hB.below.size)).mono hW.size))) G hO.b hb hs hO.off hO.from_ hO.n ((hB.kept hW3).obj 0 rfl) ((hB.kept hW3).obj 1 rfl)) (λs hs h0=> ?_) ?_) (h.below hW).dg
  ·unfold uB at h0|-
   split at h0
   ·exact Nat.zero_le _
   ·exact env_ok.copy s oo _ og on hs h0
  ·unfold Fs.bytes Fs.edit
   cases hfa:Fs.file l na with
   |error e=>rfl
   | ok r=>
    obtain⟨i,x⟩:=r
    simp only
    rw[if_neg (by decide),if_neg (by decide)]
    unfold uB
    cases hfb:Fs.file l nb with
    | error e=>
     have he:e≠0:=by
      rcases j6 (l:=l) hb with ⟨ec,hne,h2,_⟩|⟨j,_,h2,_⟩
      ·rw[hfb]at h2;injection h2 with h2;rw[h2];exact hne
      ·rw[hfb]at h2;cases h2
     simp only[Fs.asked]
     rw[if_pos he]
    |ok r2=>rfl
 ·refine xB 107 (enters_of func107 (by kernel_rfl) rfl) g m nx l _ w h hg hO rfl (show(1:Int)<=11 by decide) (show(11:Int)<=11 by decide) λna ha _ W hW=> ?_
  have hact:Fs.act env ⟨l,nx⟩ ⟨11,oa,ob,oo,og,on,od⟩=Fs.chmod ⟨l,nx⟩ ⟨11,oa,ob,oo,og,on,od⟩ na:=by
   unfold Fs.act;rw[if_neg hin,show env.sp oa=some na from ha];rfl
  rw[hact]
  exact JX m nx l 11 oa ob oo og on od W (h.below hW) G hf9 hO.a ha
end Go.Proofs.YtabmamofnhcgbaaGreatDoor
namespace Go.Proofs.YtabmamofnhcgbaaGreatDoor
open Go.RowKit Go.Less Go.Maps
open T8 (pv Dg Rp Pr keysOf uh yq)
attribute [local go_sem 9000] zg zf
def Mz(w:World)(b n:Nat)(f:Int->Option Value):Prop:=
 ∃D:DataW Value,w.ownsMap prog 3 held b n D/\Maps.size D=n/\ ∀a,(ik a).wf=true->(∀z,D.atKey (ik a) (.held z)= .held ((f a).getD z))/\Maps.has D (ik a)=(f a).isSome
theorem Mz.mp{w:World}{b n:Nat}{f:Int->Option Value}(h:Mz w b n f):Mp w b n f:=by obtain⟨D,h1,_,h2⟩:=h;exact⟨D,h1,h2⟩
theorem Mz.kept{w w':World}{b n:Nat}{f:Int->Option Value}(h:Mz w b n f)(hb:w'.heap[b]?=w.heap[b]?):Mz w' b n f:=by
 obtain⟨D,⟨es,c,h1,h2⟩,h3⟩:=h;exact⟨D,⟨es,c,hb.trans h1,h2⟩,h3⟩
theorem Mz.lt{w:World}{b n:Nat}{f:Int->Option Value}(h:Mz w b n f):b<w.heap.size:=h.mp.lt
theorem Mz.below{w w':World}{b n:Nat}{f:Int->Option Value}(h:Mz w b n f)(hb:Below w.heap.size w w'):Mz w' b n f:=h.kept (hb.block _ h.lt)
theorem Mz.made(w:World):Mz (w.alloc (.map #[] 0)) w.heap.size 0 (λ_=>none):=
 ⟨.map [],World.ownsMap_made w _ _ _,rfl,λ_ _=>⟨λ_=>rfl,rfl⟩⟩
theorem JY{w:World}{b n:Nat}{D:DataW Value}(h:w.ownsMap prog 3 held b n D):w.ownsMap prog 3 held b (Maps.size D) D:=by
 obtain⟨es,c,h1,h2,_,rfl⟩:=h
 exact⟨es,c,h1,h2,by simp[Maps.size,length_sorted],rfl⟩
theorem Mz.store{w:World}{b n:Nat}{f:Int->Option Value}(h:Mz w b n f){t e:TypeId}(ht:prog.underlying t=some (.map 3 e))(hn:n<maxLen){a:Int}(ha:(ik a).wf=true)(v:Value):
  ∃w',(Instr.mapUpdate t (.map (some b)) (.int .i64 a) v).run prog w= .ok () w'/\Mz w' b (if(f a).isSome=true then n else n+1) (upd f a v)/\w.mapTurned w' b:=by
 obtain⟨D,ho,hsz,h2⟩:=h
 have hm:=ho.isMap
 have hti:=ho.tidy zav
 obtain⟨w',hr,h3,h4⟩:=ho.store zav ht hn (keyOf_int_mk underlying3 ha) (val:=v) (d:= .held v) (ps:=[]) rfl
 have hs2:=size_put hti (k:=ik a) (.held v)
 rw[(h2 a ha).2,hsz]at hs2
 refine⟨w',hr,⟨_,hs2▸JY h3,hs2,λx hx=> ?_⟩,h4⟩
 unfold upd
 by_cases hxa:x=a
 ·subst hxa
  rw[if_pos rfl]
  exact⟨λz=>atKey_put_same hm (X0 _) _ _,has_put_same hm (X0 _) _⟩
 ·rw[if_neg hxa]
  have hne:ik x≠ik a:=λe=>hxa (by injection e)
  exact⟨λz=>(atKey_put_other hne _ _).trans ((h2 x hx).1 z),(has_put_other hne _).trans (h2 x hx).2⟩
theorem Mz.len{w:World}{b n:Nat}{f:Int->Option Value}(h:Mz w b n f){t e:TypeId}(ht:prog.underlying t=some (.map 3 e))(ty:TypeId):(Builtin.len_ #[t] ty #[.map (some b)]).run prog w= .ok (.int .i64 (n:Int)) w:=by
 obtain⟨D,ho,hsz,_⟩:=h
 have:=ho.len ht ty
 rw[hsz]at this
 exact this
theorem Mp.look{w:World}{b n:Nat}{f:Int->Option Value}(h:Mp w b n f){t e:TypeId}(ht:prog.underlying t=some (.map 3 e)){z:Value}(hz:(zeroValue e).run prog w= .ok z w){a:Int}(ha:(ik a).wf=true):
  (Instr.lookup t (.map (some b)) (.int .i64 a) false).run prog w= .ok ((f a).getD z) w:=by
 obtain⟨D,ho,h2⟩:=h
 obtain⟨v,ps,hr,hv⟩:=ho.lookup zav ht hz (zd:= .held z) (zp:=[]) rfl (keyOf_int_mk underlying3 ha)
 rw[(h2 a ha).1 z]at hv
 rw[hr]
 unfold held at hv
 injection hv with hv
 injection hv with hv _
 injection hv with hv
 rw[hv]
def nvx(x:Nd.Node)(a:Option Addr)(c:Nat):Value:=nv x.kind x.mode x.data x.target a x.ents.length c
structure Nmap (w:World) (b:Nat) (l:List Fs.Item):Prop where
 map: ∃f,Mz w b l.length f/\ ∀i,match Fs.node l i with
  |none=>f i=none
  |some x=> ∃a c,f i=some (nvx x a c)/\Ents a x.ents.length x.ents w
theorem Nmap.below{w w':World}{b:Nat}{l:List Fs.Item}(h:Nmap w b l)(hb:Below w.heap.size w w'):Nmap w' b l:=by
 obtain⟨⟨f,h1,h2⟩⟩:=h
 refine⟨⟨f,h1.below hb,λi=> ?_⟩⟩
 have h3:=h2 i
 cases hn:Fs.node l i with
 |none=>rw[hn]at h3;exact h3
 |some x=>rw[hn]at h3;obtain⟨a,c,e,hE⟩:=h3;exact⟨a,c,e,hE.below hb⟩
theorem Nmap.made(w:World):Nmap (w.alloc (.map #[] 0)) w.heap.size []:=⟨⟨_,Mz.made w,λ_=>rfl⟩⟩
theorem qS{w w':World}{b:Nat}(ht:w.mapTurned w' b){a:Option Addr}{n:Nat}{l:List En}(h:Ents a n l w):Ents a n l w':=by
 obtain⟨es,c,es',c',hb,rfl⟩:=ht
 refine⟨h.count,λi hi=> ?_⟩
 obtain⟨k,off,rfl,h0,h1⟩:=h.cell i hi
 have hk:k≠b:=by
  rintro rfl
  unfold World.cell? at h0
  rw[hb]at h0
  cases h0
 refine⟨k,off,rfl, ?_, ?_⟩
 ·rw[<-h0];exact World.cell?_of_block (ChangeMaps.heap_setBlock_other hb _ hk)
 ·rw[<-h1];exact World.cell?_of_block (ChangeMaps.heap_setBlock_other hb _ hk)
theorem J2{l:List Fs.Item}{i:Int}{x:Nd.Node}(hn:Fs.node l i=none)(j:Int):Fs.node (l++[(i,x)]) j=if j=i then some x else Fs.node l j:=by
 induction l with
 |nil=>
  show(if i=j then some x else none)=_
  by_cases e:i=j
  ·rw[if_pos e,if_pos e.symm]
  ·rw[if_neg e,if_neg (Ne.symm e)];rfl
 |cons y l ih=>
  have hy:Fs.node (y::l) i=if y.1=i then some y.2 else Fs.node l i:=rfl
  rw[hy]at hn
  by_cases e:y.1=i
  ·rw[if_pos e]at hn;cases hn
  rw[if_neg e]at hn
  show(if y.1=j then some y.2 else Fs.node (l++[(i,x)]) j)=_
  have hj:Fs.node (y::l) j=if y.1=j then some y.2 else Fs.node l j:=rfl
  rw[hj,ih hn]
  by_cases e1:y.1=j
  ·rw[if_pos e1,if_pos e1,if_neg (λe2=>e (e1.trans e2))]
  ·rw[if_neg e1,if_neg e1]
theorem Nmap.store{w:World}{b:Nat}{l:List Fs.Item}(h:Nmap w b l)(hl:l.length<100000){i:Int}(hi:(ik i).wf=true)(hn:Fs.node l i=none)(x:Nd.Node){a:Option Addr}{c:Nat}(hE:Ents a x.ents.length x.ents w):
  ∃w',(Instr.mapUpdate 147 (.map (some b)) (.int .i64 i) (nvx x a c)).run prog w= .ok () w'/\Nmap w' b (l++[(i,x)])/\w.mapTurned w' b:=by
 obtain⟨⟨f,h1,h2⟩⟩:=h
 obtain⟨w',hr,hM,ht⟩:=h1.store underlying147 (by unfold maxLen;omega) hi (nvx x a c)
 have hfi:=h2 i
 rw[hn]at hfi
 simp only at hfi
 rw[hfi]at hM
 refine⟨w',hr,⟨⟨_,by rw[List.length_append];exact hM,λj=> ?_⟩⟩,ht⟩
 rw[J2 hn]
 unfold upd
 by_cases e:j=i
 ·rw[if_pos e,if_pos e];exact⟨a,c,rfl,qS ht hE⟩
 ·rw[if_neg e,if_neg e]
  have h3:=h2 j
  cases hj:Fs.node l j with
  |none=>rw[hj]at h3;exact h3
  |some y=>rw[hj]at h3;obtain⟨a',c',e',hE'⟩:=h3;exact⟨a',c',e',qS ht hE'⟩
theorem zbt(w:World):(zeroValue 43).run prog w= .ok (nvx Nd.none0 none 0) w:=by kernel_rfl
theorem Nmap.look{w:World}{b:Nat}{l:List Fs.Item}(h:Nmap w b l){i:Int}(hi:(ik i).wf=true): ∃a c,(Instr.lookup 147 (.map (some b)) (.int .i64 i) false).run prog w= .ok (nvx (Fs.nodeD l i) a c) w/\(Instr.lookup 147 (.map (some b)) (.int .i64 i) true).run prog w= .ok (.tuple #[nvx (Fs.nodeD l i) a c,.bool (Fs.node l i).isSome]) w/\Ents a (Fs.nodeD l i).ents.length (Fs.nodeD l i).ents w:=by
 obtain⟨⟨f,h1,h2⟩⟩:=h
 have h3:=h2 i
 have e1:=h1.mp.look underlying147 (zbt w) hi
 have e2:=h1.mp.look_ok underlying147 (zbt w) hi
 unfold Fs.nodeD
 cases hn:Fs.node l i with
 |none=>
  rw[hn]at h3
  simp only at h3
  rw[h3]at e1 e2
  exact⟨none,0,e1,e2,zs w⟩
 |some x=>
  rw[hn]at h3
  obtain⟨a,c,e,hE⟩:=h3
  rw[e]at e1 e2
  exact⟨a,c,e1,e2,hE⟩
end Go.Proofs.YtabmamofnhcgbaaGreatDoor
