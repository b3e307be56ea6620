/- A part of the proofs. -/
import Derived.Shelf.SlIterI.Nil
import Derived.Shelf.SortM.Plain
import Derived.Shelf.SortM.SortNone
import Derived.Test.YtabmamofnhcgbaaGreatDoorC19
set_option maxRecDepth 1000000
set_option maxHeartbeats 16000000
open Go.Lib (hid)
open Go.Proofs.Tryz
namespace Go.Proofs.YtabmamofnhcgbaaGreatDoor
open Go.RowKit Go.Less Go.Maps
open T8 (pv Dg Rp Pr keysOf uh yq)
attribute [local go_sem 9000] zg zf
theorem Turn.below{g:Nat}{w W W':World}(h:Turn g w W)(hb:Below W.heap.size W W'):Turn g w W':=
 ⟨hb.os.trans h.os,hb.tape.trans h.tape,hb.output.trans h.output,Nat.le_trans h.size hb.size,λk hk hne=>(hb.block k (Nat.lt_of_lt_of_le hk h.size)).trans (h.block k hk hne)⟩
theorem Turn.turned{g:Nat}{w W W':World}(h:Turn g w W)(ht:W.mapTurned W' g):Turn g w W':=by
 have hg:=ht.grown
 exact⟨hg.os.trans h.os,hg.tape.trans h.tape,hg.output.trans h.output,Nat.le_trans h.size hg.size,λk hk hne=>(hg.block k (Nat.lt_of_lt_of_le hk h.size) (λe=>hne (by injection e))).trans (h.block k hk hne)⟩
theorem Turn.refl(g:Nat)(w:World):Turn g w w:=⟨rfl,rfl,rfl,Nat.le_refl _,λ_ _ _=>rfl⟩
theorem Turn.trans{g:Nat}{w W W':World}(h:Turn g w W)(h2:Turn g W W'):Turn g w W':=
 ⟨h2.os.trans h.os,h2.tape.trans h.tape,h2.output.trans h.output,Nat.le_trans h.size h2.size,λk hk hne=>(h2.block k (Nat.lt_of_lt_of_le hk h.size) hne).trans (h.block k hk hne)⟩
def itm(p:Pr):Fs.Item:=((uI p.1).1,(zO p.2.data.toList).1)
def okp(p:Pr):Prop:=(uI p.1).2=true/\(zO p.2.data.toList).2=0
theorem zc7{s:ByteArray}(h:(uI s).2=true):1<=(uI s).1/\(uI s).1<=2147483647:=by
 unfold uI at h|-
 split at h
 ·rename_i h4
  rw[if_pos h4]
  simp only[Bool.and_eq_true,decide_eq_true_eq]at h
  exact h
 ·simp at h
theorem zdb{i:Int}(h1:1<=i)(h2:i<=2147483647):(ik i).wf=true:=WalkArith.wf_i64 (by omega)
theorem zcF{l:List Fs.Item}{i:Int}(h: ∀y∈l,y.1≠i):Fs.node l i=none:=Fs.node_none.2 h
theorem Ki{l:List Pr}(hs:T8.Srt l){p:Pr}(h:p∈l):Tr.get l p.1=some p.2:=by
 induction l with
 |nil=>cases h
 | cons y l ih=>
  have h1:=List.pairwise_cons.1 hs
  show(if y.1=p.1 then some y.2 else Tr.get l p.1)=_
  rcases List.mem_cons.1 h with rfl|h
  ·rw[if_pos rfl]
  ·rw[if_neg (λe=>by have:=h1.1 p h;rw[e]at this;rw[rising.irr]at this;cases this)]
   exact ih h1.2 h
def Xo(kvs:List Pr)(j:Nat)(w:World)(e:Ending)(w':World):Prop:=Below w.heap.size w w'/\
 if j=kvs.length then∃mb,e= .returned (.tuple #[.map (some mb),.bool true])/\Nmap w' mb (kvs.map itm)else e= .returned (.tuple #[.map none,.bool false])
theorem QJ{b:Nat}{w W:World}(h:Turn b w W)(hm: ∃es c,w.heap[b]?=some (.map es c)){a:Option Addr}{n:Nat}{ks:List ByteArray}(hs:Strs a n ks w):Strs a n ks W:=by
 obtain⟨es,c,hm⟩:=hm
 refine⟨hs.count,λi hi=> ?_⟩
 obtain⟨k,off,rfl,hc⟩:=hs.cell i hi
 have hk:k≠b:=by
  rintro rfl
  unfold World.cell? at hc
  rw[hm]at hc
  cases hc
 exact⟨k,off,rfl,(World.cell?_of_block (h.block k (block_lt_of_cell hc) hk)).trans hc⟩
theorem zc4{kvs:List Pr}{k:Nat}{p:Pr}(h:kvs[k]?=some p):(kvs.take (k+1)).map itm=(kvs.take k).map itm++[itm p]:=by
 rw[zw h,List.map_append];rfl
theorem jG(m:Option Nat)(kvs:List Pr)(j:Nat)(w:World)(h:Rp w m kvs)(hn:kvs.length<=1000)(hvs: ∀p∈kvs,p.2.size<=100000)(hj:j<=kvs.length)
  (hok: ∀i p,i<j->kvs[i]?=some p->okp p) (hbad: ∀p,kvs[j]?=some p-> ¬ okp p) (hnd:(((kvs.take j).map itm).map (·.1)).Nodup):
  Calls prog 81 #[pv m] w (Xo kvs j w):=by
 have hmm:= @run_makeMap prog
 have HRp:=hid (λW (hb:Below w.heap.size w W)=>h.below hb)
 have HSo:=hid h.sorted
 have hlen:(keysOf kvs).length=kvs.length:=by unfold keysOf;rw[List.length_map]
 have HKy:=hid (λW (hb:Below w.heap.size w W)=>uh (h.below hb) (by omega))
 have HB0:=hid (below_one w (.map #[] 0))
 have HM0:=hid (Nmap.made w)
 have hb0:(w.alloc (.map #[] 0)).heap[w.heap.size]?=some (.map #[] 0):=heap_alloc_new _ _
 have HBb:=hid hb0
 obtain⟨b,hbe⟩: ∃b,b=w.heap.size:=⟨_,rfl⟩
 have HBE:=hid hbe
 clear h hb0
 go_enter func81,ntmps81
 go_wp2_with fail
 rw[<-hbe]at HM0 HBb|-
 clear hbe
 generalize w.alloc (.map #[] 0)=W0 at HB0 HM0 HBb|-
 refine(HKy.out _ HB0.out).mono ?_
 rintro e w1 ⟨ao,cap,rfl,hrow,hb⟩
 rw[hlen]at hrow|-
 have hS:Strs ao kvs.length (keysOf kvs) w1:=by
  have hT:vi W0.heap.size (.slice ao kvs.length cap) ((keysOf kvs).map λb=>b.data.toList) w1:=by
   unfold vi
   rw[List.length_map,hlen,List.map_map]
   exact hrow
  have:=yA hT (by rw[List.length_map,hlen])
  rwa [List.map_map,show(lstr∘λb:ByteArray=>b.data.toList)=id from rfl,List.map_id]at this
 have HM1:=hid (HM0.out.below hb)
 have HW1:=hid (HB0.out.trans (hb.mono HB0.out.size))
 have hbm: ∃es c,w1.heap[b]?=some (.map es c):=⟨_,_,(hb.block _ (lt_of_obj HBb.out)).trans HBb.out⟩
 have HS:=hid (λW (hT:Turn b w1 W)=>QJ hT hbm hS)
 obtain⟨n,hnn⟩: ∃n,n=kvs.length:=⟨_,rfl⟩
 have HN:=hid hnn
 rw[<-hnn]at hn HS hj|-
 have hni:(n:Int)<=1000:=by omega
 have HJ:=hid hj
 have HOk:=hid hok
 have HBad:=hid hbad
 have HNd:=hid hnd
 have HVs:=hid hvs
 clear hrow hS hb HKy hlen hnn hbm HM0 HB0 HBb hok hbad hnd hvs
 dsimp only
 go_wp2_with fail
 go_loopw [6,7,8,9,10,11,12,17] (λ_ _ _ _ _ _ _ x17 wr=> ∃k:Nat,k<=j/\x17= .int .i64 k/\Below w.heap.size w wr/\Turn b w1 wr/\Nmap wr b ((kvs.take k).map itm)) (λ_ _ _ _ _ _ _ x17 _=>n-(intOf x17).toNat)
 case atStart=>exact⟨0,Nat.zero_le _,rfl,HW1.out,Turn.refl _ _,HM1.out⟩
 case round=>
  clear HM1
  obtain⟨k,hk,rfl,hW,hT,hM⟩:=hrel
  have HW:=hid hW
  have HT:=hid hT
  have HM:=hid hM
  clear hW hT hM
  by_cases hlt:k<n
  ·have k0:(k:Int)<(n:Int):=by omega
   have hk0:(0:Int)<=(k:Int):=by omega
   have hkl:k<kvs.length:=by rw[<-HN.out];exact hlt
   obtain⟨p,hp⟩: ∃p,kvs[k]?=some p:=⟨_,List.getElem?_eq_getElem hkl⟩
   have hpm:=List.mem_of_getElem? hp
   obtain⟨b1,o1,rfl,nc⟩:=(HS.out wr HT.out).cell k hlt
   rw[show(keysOf kvs).getD k ByteArray.empty=p.1 by unfold keysOf;rw[List.getD,List.getElem?_map,hp];rfl]at nc
   have HI:=hid (λW=>Xa p.1 W)
   have HG:=hid (λW (hb:Below w.heap.size w W)=>yq (HRp.out W hb) p.1 p.2 (Ki HSo.out hpm))
   have HPa:=hid (λW=>Y4 p.2 W (HVs.out p hpm))
   have HTk:=hid (zc4 hp)
   have HPk:=hid hp
   have hokd:okp p↔(uI p.1).2=true/\(zO p.2.data.toList).2=0:=Iff.rfl
   have HIk:=hid (λh=>zc7 (s:=p.1) h)
   have HIt:=hid (show itm p=((uI p.1).1,(zO p.2.data.toList).1)from rfl)
   obtain⟨p1,p2⟩:=p
   dsimp only at*
   obtain⟨⟨i,isn⟩,hi⟩: ∃r,uI p1=r:=⟨_,rfl⟩
   obtain⟨⟨⟨xk,xm,xd,xt,xe⟩,code⟩,hx⟩: ∃r,zO p2.data.toList=r:=⟨_,rfl⟩
   rw[hi,hx]at hokd HIt
   rw[hi]at HI HIk
   rw[hx]at HPa
   unfold vp at HPa
   clear hi hx hp hpm
   dsimp only at hokd HIt HI HPa HIk
   cases isn with
   | false=>
    have hjk:j=k:=by
     rcases Nat.lt_or_ge k j with hl|hl
     ·exact absurd (hokd.1 (HOk.out k _ hl HPk.out)).1 (by decide)
     ·omega
    have HNe:=hid (show j≠kvs.length by omega)
    go_wp2_with fail
    refine(HI.out wr).mono ?_
    rintro e w' ⟨rfl,rfl⟩
    dsimp only
    go_wp2_with fail
    refine(HG.out w' HW.out).mono ?_
    rintro e w3 ⟨rfl,hb3⟩
    have HW3:=hid (HW.out.trans (hb3.mono HW.out.size))
    clear nc hb3
    dsimp only
    go_wp2_with fail
    refine(HPa.out w3).mono ?_
    rintro e w4 ⟨ea,ec,rfl,hE,hb4⟩
    have HW4:=hid (HW3.out.trans (hb4.mono HW3.out.size))
    clear hE hb4
    dsimp only
    go_wp2_with fail
    go_ret2
    unfold Xo
    rw[if_neg HNe.out]
    exact⟨HW4.out.trans ((below_one _ _).mono HW4.out.size),rfl⟩
   | true=>
    by_cases hc:code=0
    ·subst hc
     have hkj:k<j:=by
      rcases Nat.lt_or_ge k j with hl|hl
      ·exact hl
      ·have hjk:k=j:=by omega
       exact absurd (hokd.2 ⟨rfl,rfl⟩) (HBad.out _ (hjk▸HPk.out))
     have hib:=HIk.out rfl
     have hno:Fs.node ((kvs.take k).map itm) i=none:=zcF λy hy e=>by
      have h1:((kvs.take (k+1)).map itm).map (·.1)<+:((kvs.take j).map itm).map (·.1):=by
       rw[List.map_map,List.map_map]
       exact(List.take_prefix_take_left (show k+1<=j by omega)).map _
      have h2:=h1.sublist.nodup HNd.out
      rw[HTk.out,HIt.out,List.map_append,List.nodup_append]at h2
      exact h2.2.2 y.1 (List.mem_map.2 ⟨y,hy,rfl⟩) i (by simp) e
     have hwf:=zdb hib.1 hib.2
     have hle:((kvs.take k).map itm).length<100000:=by rw[List.length_map,List.length_take];omega
     go_wp2_with fail
     refine(HI.out wr).mono ?_
     rintro e w' ⟨rfl,rfl⟩
     dsimp only
     go_wp2_with fail
     refine(HG.out w' HW.out).mono ?_
     rintro e w3 ⟨rfl,hb3⟩
     have HW3:=hid (HW.out.trans (hb3.mono HW.out.size))
     have HT3:=hid (HT.out.below hb3)
     have HM3:=hid (HM.out.below hb3)
     clear nc hb3
     dsimp only
     go_wp2_with fail
     refine(HPa.out w3).mono ?_
     rintro e w4 ⟨ea,ec,rfl,hE,hb4⟩
     have hb5:=below_one w4 (.cells #[.int .i64 xk,.int .i64 xm,.string xd,.string xt,.slice ea xe.length ec] 43)
     have HW5:=hid ((HW3.out.trans (hb4.mono HW3.out.size)).trans (hb5.mono (Nat.le_trans HW3.out.size hb4.size)))
     have HT5:=hid ((HT3.out.below hb4).below hb5)
     obtain⟨w6,hr,hM6,ht6⟩:=((HM3.out.below hb4).below hb5).store hle hwf hno ⟨xk,xm,xd,xt,xe⟩ (a:=ea) (c:=ec) (hE.below hb5)
     unfold nvx at hr
     have HM6:=hid (show Nmap w6 b ((kvs.take (k+1)).map itm) by rw[HTk.out,HIt.out];exact hM6)
     have HT6:=hid (HT5.out.turned ht6)
     have HW6:=hid (zG HW5.out ht6 (by rw[HBE.out];exact Nat.le_refl _))
     clear hE hb4 hb5 hM6 ht6
     dsimp only at hr|-
     go_wp2_with fail
     go_roundw
     case rel=>exact⟨k+1,by omega,by go_num,HW6.out,HT6.out,HM6.out⟩
     case measure=>simp[intOf];omega
    ·have hjk:j=k:=by
      rcases Nat.lt_or_ge k j with hl|hl
      ·exact absurd (hokd.1 (HOk.out k _ hl HPk.out)).2 hc
      ·omega
     have HNe:=hid (show j≠kvs.length by omega)
     go_wp2_with fail
     refine(HI.out wr).mono ?_
     rintro e w' ⟨rfl,rfl⟩
     dsimp only
     go_wp2_with fail
     refine(HG.out w' HW.out).mono ?_
     rintro e w3 ⟨rfl,hb3⟩
     have HW3:=hid (HW.out.trans (hb3.mono HW.out.size))
     clear nc hb3
     dsimp only
     go_wp2_with fail
     refine(HPa.out w3).mono ?_
     rintro e w4 ⟨ea,ec,rfl,hE,hb4⟩
     have HW4:=hid (HW3.out.trans (hb4.mono HW3.out.size))
     clear hE hb4
     dsimp only
     go_wp2_with fail
     go_ret2
     unfold Xo
     rw[if_neg HNe.out]
     exact⟨HW4.out.trans ((below_one _ _).mono HW4.out.size),rfl⟩
  ·obtain rfl:k=j:=by omega
   have hjn:k=n:=by omega
   have HE:=hid (show k=kvs.length by rw[<-HN.out];exact hjn)
   have hge: ¬ ((k:Int)<(n:Int)):=by omega
   go_wp2_with fail
   go_ret2
   unfold Xo
   rw[if_pos HN.out]
   exact⟨HW.out,b,rfl,by have:=HM.out;rwa [List.take_of_length_le (by rw[HE.out];exact Nat.le_refl _)]at this⟩
end Go.Proofs.YtabmamofnhcgbaaGreatDoor
namespace Go.Proofs
open Go.Shelf
def Tryz.keys109_ren:Go.Shelf.Ren:=⟨fun|7=>123|10=>165|n=>n,fun|23=>147|26=>3|3=>43|28=>185|0=>0|27=>184|33=>119|4=>4|n=>n,fun|n=>n⟩
theorem Tryz.keys109:Go.Proofs.SlLaysZI.n7 prog Tryz.keys109_ren:={
 mixed:=by kernel_rfl
 f7:=⟨Tryz.f123.name,by decide,func123.trans (congrArg some (by kernel_rfl))⟩
 f10:=⟨Tryz.f165.name,by decide,func165.trans (congrArg some (by kernel_rfl))⟩
 t0:=underlying0
 a0:=Tryz.isAgg0
 z0:=Tryz.sizeOf0
 v0:=Tryz.zeroValue0
 t4:=underlying4
 a4:=Tryz.isAgg4
 z4:=Tryz.sizeOf4
 v4:=Tryz.zeroValue4
 t23:=underlying147
 a23:=Tryz.isAgg147
 z23:=Tryz.sizeOf147
 v23:=Tryz.zeroValue147
 t26:=underlying3
 a26:=Tryz.isAgg3
 z26:=Tryz.sizeOf3
 v26:=Tryz.zeroValue3
 t27:=underlying184
 a27:=Tryz.isAgg184
 z27:=Tryz.sizeOf184
 v27:=Tryz.zeroValue184
 t28:=underlying185
 a28:=Tryz.isAgg185
 z28:=Tryz.sizeOf185
 v28:=Tryz.zeroValue185
 t33:=underlying119
 a33:=Tryz.isAgg119
 z33:=Tryz.sizeOf119
 v33:=Tryz.zeroValue119}
def Tryz.sorted108_ren:Go.Shelf.Ren:=⟨fun|6=>122|8=>163|9=>164|11=>203|13=>130|12=>204|23=>177|24=>178|14=>225|15=>226|16=>227|17=>228|18=>229|19=>230|20=>231|21=>232|22=>233|25=>257|26=>207|27=>208|28=>258|29=>259|30=>260|31=>271|n=>n,fun|26=>3|28=>185|24=>62|0=>0|3=>3|37=>143|48=>214|50=>238|4=>4|40=>231|39=>230|45=>158|5=>5|9=>9|51=>269|55=>273|57=>292|58=>123|33=>119|n=>n,fun|n=>n⟩
theorem Tryz.sorted108:Go.Proofs.SlLaysZI.n6 prog Tryz.sorted108_ren:={
 mixed:=by kernel_rfl
 f6:=⟨Tryz.f122.name,by decide,func122.trans (congrArg some (by kernel_rfl))⟩
 f8:=⟨Tryz.f163.name,by decide,func163.trans (congrArg some (by kernel_rfl))⟩
 f11:=⟨Tryz.f203.name,by decide,func203.trans (congrArg some (by kernel_rfl))⟩
 t0:=underlying0
 a0:=Tryz.isAgg0
 z0:=Tryz.sizeOf0
 v0:=Tryz.zeroValue0
 t24:=underlying62
 a24:=Tryz.isAgg62
 z24:=Tryz.sizeOf62
 v24:=Tryz.zeroValue62
 t26:=underlying3
 a26:=Tryz.isAgg3
 z26:=Tryz.sizeOf3
 v26:=Tryz.zeroValue3
 t28:=underlying185
 a28:=Tryz.isAgg185
 z28:=Tryz.sizeOf185
 v28:=Tryz.zeroValue185
 i26:=by kernel_rfl}
def Tryz.sort149_ren:Go.Shelf.Ren:=⟨fun|5=>164|8=>130|7=>204|19=>177|20=>178|10=>225|11=>226|12=>227|13=>228|14=>229|15=>230|16=>231|17=>232|18=>233|30=>257|31=>207|32=>208|33=>258|34=>259|35=>260|40=>271|n=>n,fun|23=>62|25=>3|3=>3|32=>143|22=>62|0=>0|44=>214|46=>238|4=>4|36=>231|35=>230|41=>158|5=>5|9=>9|53=>269|57=>273|63=>292|64=>123|n=>n,fun|n=>n⟩
theorem Tryz.sort149:Go.Proofs.SlLaysM.n5 prog Tryz.sort149_ren:={
 mixed:=by kernel_rfl
 f5:=⟨Tryz.f164.name,by decide,func164.trans (congrArg some (by kernel_rfl))⟩
 f7:=⟨Tryz.f204.name,by decide,func204.trans (congrArg some (by kernel_rfl))⟩
 f8:=func130.trans (congrArg some (by kernel_rfl))
 f10:=⟨Tryz.f225.name,by decide,func225.trans (congrArg some (by kernel_rfl))⟩
 f11:=⟨Tryz.f226.name,by decide,func226.trans (congrArg some (by kernel_rfl))⟩
 f12:=⟨Tryz.f227.name,by decide,func227.trans (congrArg some (by kernel_rfl))⟩
 f13:=⟨Tryz.f228.name,by decide,func228.trans (congrArg some (by kernel_rfl))⟩
 f14:=⟨Tryz.f229.name,by decide,func229.trans (congrArg some (by kernel_rfl))⟩
 f15:=⟨Tryz.f230.name,by decide,func230.trans (congrArg some (by kernel_rfl))⟩
 f16:=⟨Tryz.f231.name,by decide,func231.trans (congrArg some (by kernel_rfl))⟩
 f17:=⟨Tryz.f232.name,by decide,func232.trans (congrArg some (by kernel_rfl))⟩
 f18:=⟨Tryz.f233.name,by decide,func233.trans (congrArg some (by kernel_rfl))⟩
 f19:=func177.trans (congrArg some (by kernel_rfl))
 f20:=func178.trans (congrArg some (by kernel_rfl))
 f30:=⟨Tryz.f257.name,by decide,func257.trans (congrArg some (by kernel_rfl))⟩
 f31:=func207.trans (congrArg some (by kernel_rfl))
 f32:=func208.trans (congrArg some (by kernel_rfl))
 f33:=⟨Tryz.f258.name,by decide,func258.trans (congrArg some (by kernel_rfl))⟩
 f34:=⟨Tryz.f259.name,by decide,func259.trans (congrArg some (by kernel_rfl))⟩
 f35:=⟨Tryz.f260.name,by decide,func260.trans (congrArg some (by kernel_rfl))⟩
 f40:=⟨Tryz.f271.name,by decide,func271.trans (congrArg some (by kernel_rfl))⟩
 t0:=underlying0
 a0:=Tryz.isAgg0
 z0:=Tryz.sizeOf0
 v0:=Tryz.zeroValue0
 t3:=underlying3
 a3:=Tryz.isAgg3
 z3:=Tryz.sizeOf3
 v3:=Tryz.zeroValue3
 t4:=underlying4
 a4:=Tryz.isAgg4
 z4:=Tryz.sizeOf4
 v4:=Tryz.zeroValue4
 t5:=underlying5
 a5:=Tryz.isAgg5
 z5:=Tryz.sizeOf5
 v5:=Tryz.zeroValue5
 t9:=underlying9
 a9:=Tryz.isAgg9
 z9:=Tryz.sizeOf9
 v9:=Tryz.zeroValue9
 t22:=underlying62
 a22:=Tryz.isAgg62
 z22:=Tryz.sizeOf62
 v22:=Tryz.zeroValue62
 t23:=underlying62
 a23:=Tryz.isAgg62
 z23:=Tryz.sizeOf62
 v23:=Tryz.zeroValue62
 t25:=underlying3
 a25:=Tryz.isAgg3
 z25:=Tryz.sizeOf3
 v25:=Tryz.zeroValue3
 t32:=underlying143
 a32:=Tryz.isAgg143
 z32:=Tryz.sizeOf143
 v32:=Tryz.zeroValue143
 t35:=underlying230
 a35:=Tryz.isAgg230
 z35:=Tryz.sizeOf230
 v35:=Tryz.zeroValue230
 t36:=underlying231
 a36:=Tryz.isAgg231
 z36:=Tryz.sizeOf231
 v36:=Tryz.zeroValue231
 t41:=underlying158
 a41:=Tryz.isAgg158
 z41:=Tryz.sizeOf158
 v41:=Tryz.zeroValue158
 t44:=underlying214
 a44:=Tryz.isAgg214
 z44:=Tryz.sizeOf214
 v44:=Tryz.zeroValue214
 t46:=underlying238
 a46:=Tryz.isAgg238
 z46:=Tryz.sizeOf238
 v46:=Tryz.zeroValue238
 t53:=underlying269
 a53:=Tryz.isAgg269
 z53:=Tryz.sizeOf269
 v53:=Tryz.zeroValue269
 t57:=underlying273
 a57:=Tryz.isAgg273
 z57:=Tryz.sizeOf273
 v57:=Tryz.zeroValue273
 t63:=underlying292
 a63:=Tryz.isAgg292
 z63:=Tryz.sizeOf292
 v63:=Tryz.zeroValue292
 t64:=underlying123
 a64:=Tryz.isAgg123
 z64:=Tryz.sizeOf123
 v64:=Tryz.zeroValue123}
end Go.Proofs
namespace Go.Proofs.YtabmamofnhcgbaaGreatDoor
open Go.RowKit Go.Less Go.Maps Go.Sort Go.Shelf
open T8 (pv Dg Rp Pr)
attribute [local go_sem 9000] zg zf
theorem zbM(m:Nat):AnyZI.SortsIn prog Tryz.sorted108_ren Fence.wide m:=
 ⟨λblk off cap ss W hH hblk hsz=>callsIn_wide.2 (AnyM.slices_Sort_int Tryz.sort149 blk off cap ss W hH hblk hsz),
  λp cap W=>callsIn_wide.2 (AnyM.slices_Sort_int_none Tryz.sort149 p cap W)⟩
theorem Ud(mb:Option Nat)(W:World):Calls prog 123 #[.map mb] W λe w'=>e= .returned (.func (.func 165) #[] #[.pointer (some ⟨W.heap.size,0,none⟩)])/\w'=W.alloc (.cells #[.map mb] 147):=
 (callsIn_wide (n:=5)).1 (AnyZI.keys_in Tryz.keys109 Fence.wide 5 trivial rfl mb W)
theorem uq{l:List Fs.Item}(h:Fs.Rising l):(zx l).Nodup:=by
 unfold zx
 exact List.pairwise_map.2 (h.imp λ{x y} h e=>by omega)
theorem node_some_iff{l:List Fs.Item}{i:Int}:(Fs.node l i).isSome=true↔i∈zx l:=by
 constructor
 ·intro h
  obtain⟨x,hx⟩:=Option.isSome_iff_exists.1 h
  exact List.mem_map.2 ⟨_,Fs.node_mem hx,rfl⟩
 ·intro h
  cases hn:Fs.node l i with
  |some x=>rfl
  |none=>
   obtain⟨y,hy,e⟩:=List.mem_map.1 h
   exact absurd e (Fs.node_none.1 hn y hy)
theorem zai{w:World}{b:Nat}{l:List Fs.Item}{D:DataW Value}{f:Int->Option Value}{n:Nat}(ho:w.ownsMap prog 3 held b n D)(h2: ∀a,(ik a).wf=true->Maps.has D (ik a)=(f a).isSome)(hf: ∀i,(f i).isSome=(Fs.node l i).isSome)(hr:Fs.Rising l)(hwf: ∀y∈l,(ik y.1).wf=true):(zx l).Perm (intKeys D):=by
 have hw:=intKeys_wf ho underlying3
 obtain⟨es,rfl,hp⟩:=ho.tidy zav
 have hko:=ho.keysOf
 obtain⟨es',he,hko⟩:=hko
 injection he with he
 subst he
 have hk: ∀p∈es,∃x,p.1= .int .i64 x:=λp hp=>by
  obtain⟨v,hv⟩:=hko p hp
  obtain⟨y,_,hy,_⟩:=Maps.keyOf_i64 underlying3 hv
  exact⟨y,hy⟩
 refine perm_intKeys hp hk (uq hr) λx=> ?_
 constructor
 ·intro hx
  obtain⟨y,hy,rfl⟩:=List.mem_map.1 hx
  rw[h2 _ (hwf y hy),hf]
  exact node_some_iff.2 hx
 ·intro hx
  have hxk:x∈intKeys (.map es):=by
   rw[has_eq,List.any_eq_true]at hx
   obtain⟨p,hp',hs⟩:=hx
   obtain⟨a,ha⟩:=hk p hp'
   refine List.mem_map.2 ⟨p,hp', ?_⟩
   rw[ha]at hs|-
   simp[Lit.sameKey]at hs
   exact hs
  have:=h2 x (hw x hxk)
  rw[this,hf]at hx
  exact node_some_iff.1 hx
theorem QR{l:List Fs.Item}(hr:Fs.Rising l){ss:List Int}(hp:ss.Perm (zx l)):ss.mergeSort (λx y=>decide (x<=y))=zx l:=by
 refine List.Perm.eq_of_pairwise (le:=λx y=>x<=y) (λa b _ _ h1 h2=>Int.le_antisymm h1 h2) ?_ ?_ ((List.mergeSort_perm _ _).trans hp)
 ·have h:=List.pairwise_mergeSort (le:=λx y:Int=>decide (x<=y)) (λa b c h1 h2=>by simp only[decide_eq_true_eq]at h1 h2|-;omega) (λa b=>by simp only[Bool.or_eq_true,decide_eq_true_eq];omega) ss
  exact h.imp λ{x y} h=>by simpa using h
 ·unfold zx
  exact List.pairwise_map.2 (hr.imp λ{x y} h=>by omega)
theorem Jj{w:World}{b:Nat}{l:List Fs.Item}(h:Nmap w b l)(hr:Fs.Rising l)(hwf: ∀y∈l,(ik y.1).wf=true)(hl:l.length<=1000):
  Calls prog 122 #[.func (.func 165) #[] #[.pointer (some ⟨w.heap.size,0,none⟩)]] (w.alloc (.cells #[.map (some b)] 147)) λe w'=> ∃ao cap,e= .returned (.slice ao l.length cap)/\Ints ao l.length (zx l) w'/\Below (w.alloc (.cells #[.map (some b)] 147)).heap.size (w.alloc (.cells #[.map (some b)] 147)) w':=by
 obtain⟨⟨f,⟨D0,hown,hsz,h2⟩,hf⟩⟩:=h
 have hbl:=hown.lt
 have hfs: ∀i,(f i).isSome=(Fs.node l i).isSome:=λi=>by
  have h3:=hf i
  cases hn:Fs.node l i with
  |none=>rw[hn]at h3;simp only at h3;rw[h3];rfl
  |some x=>rw[hn]at h3;obtain⟨a,c,e,_⟩:=h3;rw[e];rfl
 have hperm:=zai hown (λa ha=>(h2 a ha).2) hfs hr hwf
 have hmax:Maps.size D0<=maxLen:=by rw[hsz];unfold maxLen;omega
 have hbytes:Maps.size D0*8<=140737488355328:=by rw[hsz];omega
 have hseq:SeqGives Fence.wide 2 prog 165 #[.pointer (some ⟨w.heap.size,0,none⟩)] encZ (λss=>ss.Perm (intKeys D0)) (Maps.size D0) (w.alloc (.cells #[.map (some b)] 147)):=
  AnyZI.keys_gives (ρ:=Tryz.keys109_ren) {Tryz.keys109 with} Fence.wide _ trivial rfl (by omega) w.heap.size b l.length D0 _ (by simp) (by simp) (by
   obtain⟨es,clock,hb,Ft,hs,hD⟩:=hown
   exact⟨es,clock,(Below.heap_alloc _ _ b hbl).trans hb,Ft,hs,hD⟩)
 have cS:=AnyZI.sorted_in Tryz.sorted108 Fence.wide 5 trivial trivial trivial trivial rfl (by omega) (zbM _) (enters_of func164 (by kernel_rfl) rfl) 165 #[.pointer (some ⟨w.heap.size,0,none⟩)] trivial (enters_of func165 (by kernel_rfl) rfl) _ _ hmax hbytes _ hseq
 change CallsIn _ _ prog 122 _ _ _ at cS
 refine(callsIn_wide.1 cS).mono ?_
 rintro e w' ⟨v,ss,rfl,hS,hrow,hnil,hb⟩
 have hP:=hS.trans hperm.symm
 rw[QR hr hP,hP.length_eq]at hrow
 have hlen:(zx l).length=l.length:=by unfold zx;rw[List.length_map]
 obtain⟨ao,cap,rfl⟩:=owns_form hrow
 rw[hlen]at hrow|-
 exact⟨ao,cap,rfl,jw (show kT _ (.slice ao l.length cap) (zx l) w' by unfold kT;rw[hlen];exact hrow) hlen.symm,hb⟩
end Go.Proofs.YtabmamofnhcgbaaGreatDoor
namespace Go.Proofs.YtabmamofnhcgbaaGreatDoor
open Go.RowKit Go.Less Go.Maps
open T8 (pv Dg Rp Pr)
attribute [local go_sem 9000] zg zf
def XX(i k t:Int):Bool:=if i=1 then decide (t=0)else if k=2 then decide (t=1)else decide (0<t)
theorem zao(i k t:Int)(w:World):Calls prog 125 #[.int .i64 i,.int .i64 k,.int .i64 t] w λe w'=>e= .returned (.bool (XX i k t))/\w'=w:=by
 by_cases hi:i=1
 ·subst hi
  have HR:=hid (show XX 1 k t=decide (t=0)from rfl)
  go_enter func125,ntmps125
  go_wp2_with fail
  go_ret
  rw[HR.out]
  exact⟨rfl,rfl⟩
 ·by_cases hk:k=2
  ·subst hk
   have HR:=hid (show XX i 2 t=decide (t=1) by unfold XX;rw[if_neg hi,if_pos rfl])
   go_enter func125,ntmps125
   go_wp2_with fail
   go_ret
   rw[HR.out]
   exact⟨rfl,rfl⟩
  ·have HR:=hid (show XX i k t=decide (0<t) by unfold XX;rw[if_neg hi,if_neg hk])
   go_enter func125,ntmps125
   go_wp2_with fail
   go_ret
   rw[HR.out]
   exact⟨rfl,rfl⟩
theorem zdG(E:List En)(e:En)(i:Int):cnt (E++[e]) i=if i=e.2 then cnt E i+1 else cnt E i:=by
 unfold cnt
 rw[List.countP_append]
 by_cases h:i=e.2
 ·rw[if_pos h];simp[h]
 ·rw[if_neg h];simp[Ne.symm h]
def Cmap(w:World)(b:Nat)(E:List En):Prop:= ∃n f,Mz w b n f/\n<=E.length/\ ∀i,f i=if cnt E i=0 then none else some (.int .i64 (cnt E i:Nat))
theorem Cmap.below{w w':World}{b:Nat}{E:List En}(h:Cmap w b E)(hb:Below w.heap.size w w'):Cmap w' b E:=by
 obtain⟨n,f,h1,h2⟩:=h;exact⟨n,f,h1.below hb,h2⟩
theorem Cmap.made(w:World):Cmap (w.alloc (.map #[] 0)) w.heap.size []:=⟨0,_,Mz.made w,Nat.le_refl _,λ_=>rfl⟩
theorem Cmap.look{w:World}{b:Nat}{E:List En}(h:Cmap w b E){i:Int}(hi:(ik i).wf=true):(Instr.lookup 187 (.map (some b)) (.int .i64 i) false).run prog w= .ok (.int .i64 (cnt E i:Nat)) w:=by
 obtain⟨n,f,h1,_,h2⟩:=h
 have:=h1.mp.look underlying187 (z:= .int .i64 0) (by kernel_rfl) hi
 rw[h2 i]at this
 by_cases h0:cnt E i=0
 ·rw[if_pos h0]at this;rw[this,h0];rfl
 ·rw[if_neg h0]at this;exact this
theorem Cmap.store{w:World}{b:Nat}{E:List En}(h:Cmap w b E)(hE:E.length<1000000)(e:En)(hi:(ik e.2).wf=true):
  ∃w',(Instr.mapUpdate 187 (.map (some b)) (.int .i64 e.2) (.int .i64 ((cnt E e.2:Nat)+1))).run prog w= .ok () w'/\Cmap w' b (E++[e])/\w.mapTurned w' b:=by
 obtain⟨n,f,h1,hn,h2⟩:=h
 obtain⟨w',hr,hM,ht⟩:=h1.store underlying187 (by unfold maxLen;omega) hi (.int .i64 ((cnt E e.2:Nat)+1))
 refine⟨w',hr,⟨_,_,hM, ?_,λi=> ?_⟩,ht⟩
 ·rw[List.length_append,List.length_singleton];split<;>omega
 ·unfold upd
  rw[zdG]
  by_cases hie:i=e.2
  ·subst hie
   rw[if_pos rfl,if_pos rfl,if_neg (by omega)]
   rfl
  ·rw[if_neg hie,if_neg hie];exact h2 i
theorem Xh(k m:Int)(d t:ByteArray)(a:Option Addr)(n c:Nat)(w:World):(Instr.field 43 (.agg #[.int .i64 k,.int .i64 m,.string d,.string t,.slice a n c]) 0).run prog w= .ok (.int .i64 k) w:=by kernel_rfl
theorem Xg(k m:Int)(d t:ByteArray)(a:Option Addr)(n c:Nat)(w:World):(Instr.field 43 (.agg #[.int .i64 k,.int .i64 m,.string d,.string t,.slice a n c]) 4).run prog w= .ok (.slice a n c) w:=by kernel_rfl
theorem zdN(p1 p4 mb nb:Nat)(l:List Fs.Item)(E:List En)(i:Int)(w:World)(h1:w.cell? ⟨p1,0,none⟩=some (.map (some mb)))(h4:w.cell? ⟨p4,0,none⟩=some (.map (some nb)))(hM:Nmap w mb l)(hC:Cmap w nb E)(hi:(ik i).wf=true):
  Calls prog 124 #[.int .i64 i,.pointer (some ⟨p1,0,none⟩),.pointer (some ⟨p4,0,none⟩)] w λe w'=>e= .returned (.bool (!XX i (Fs.nodeD l i).kind (cnt E i:Nat)))/\Below w.heap.size w w':=by
 obtain⟨a,c,hl,_,_⟩:=hM.look hi
 have hc:=hC.look hi
 have HMa:=hid (λW=>zao i (Fs.nodeD l i).kind (cnt E i:Nat) W)
 clear hM hC
 generalize Fs.nodeD l i=x at*
 obtain⟨xk,xm,xd,xt,xe⟩:=x
 unfold nvx nv at hl
 dsimp only at hl HMa|-
 generalize (cnt E i:Int)=t at*
 generalize XX i xk t=r at*
 have hfd:=Xh
 go_enter func124,ntmps124
 go_wp2_with fail
 refine(HMa.out w).mono ?_
 rintro e w' ⟨rfl,rfl⟩
 dsimp only
 go_wp2_with fail
 go_ret
 exact⟨rfl,Below.refl _ _⟩
theorem yn{g:Nat}{w W:World}(h:Turn g w W){k o:Nat}{v:Value}(hc:w.cell? ⟨k,o,none⟩=some v)(hk:k≠g):W.cell? ⟨k,o,none⟩=some v:=
 (World.cell?_of_block (h.block k (block_lt_of_cell hc) hk)).trans hc
theorem XS{w:World}{k o:Nat}{v:Value}(hc:w.cell? ⟨k,o,none⟩=some v){es:Array MapEntry}{c:Nat}(hm:w.heap[k]?=some (.map es c)):False:=by
 unfold World.cell? at hc
 rw[hm]at hc
 cases hc
theorem QA{b:Nat}{w W:World}(h:Turn b w W)(hm: ∃es c,w.heap[b]?=some (.map es c)){a:Option Addr}{n:Nat}{l:List Int}(hs:Ints a n l w):Ints a n l W:=by
 obtain⟨es,c,hm⟩:=hm
 refine⟨hs.count,λi hi=> ?_⟩
 obtain⟨k,off,rfl,hc⟩:=hs.cell i hi
 have hk:k≠b:=by rintro rfl;exact XS hc hm
 exact⟨k,off,rfl,yn h hc hk⟩
theorem YE{b:Nat}{w W:World}(h:Turn b w W)(hm: ∃es c,w.heap[b]?=some (.map es c)){a:Option Addr}{n:Nat}{l:List En}(hs:Ents a n l w):Ents a n l W:=by
 obtain⟨es,c,hm⟩:=hm
 refine⟨hs.count,λi hi=> ?_⟩
 obtain⟨k,off,rfl,hc,hd⟩:=hs.cell i hi
 have hk:k≠b:=by rintro rfl;exact XS hc hm
 exact⟨k,off,rfl,yn h hc hk,yn h hd hk⟩
theorem Cmap.isMap{w:World}{b:Nat}{E:List En}(h:Cmap w b E): ∃es c,w.heap[b]?=some (.map es c):=by
 obtain⟨n,f,⟨D,⟨es,c,hb,_⟩,_⟩,_⟩:=h;exact⟨es,c,hb⟩
def yS(l:List Fs.Item):List En:=(l.map λy=>y.2.ents).flatten
theorem zbl{l:List Fs.Item}{k:Nat}{y:Fs.Item}(h:l[k]?=some y):yS (l.take (k+1))=yS (l.take k)++y.2.ents:=by
 unfold yS
 rw[zw h,List.map_append,List.flatten_append]
 simp
theorem UQ{l:List Fs.Item}{y:Fs.Item}(hy:y∈l){e:En}(he:e∈y.2.ents):e∈yS l:=List.mem_flatten.2 ⟨_,List.mem_map.2 ⟨y,hy,rfl⟩,he⟩
theorem UR{l:List Fs.Item}(h: ∀y∈l,y.2.ents.length<=64):(yS l).length<=64*l.length:=by
 induction l with
 |nil=>simp[yS]
 |cons y l ih=>
  have h1:=h y List.mem_cons_self
  have h2:=ih λz hz=>h z (List.mem_cons_of_mem _ hz)
  have e:yS (y::l)=y.2.ents++yS l:=rfl
  rw[e,List.length_append,List.length_cons]
  omega
def qA(l:List Fs.Item):Bool:=(yS l).all (λe=>(Fs.node l e.2).isSome)&&(zx l).all λi=>XX i (Fs.nodeD l i).kind (cnt (yS l) i:Nat)
theorem KI{l:List Fs.Item}{e:En}(he:e∈yS l)(hn:(Fs.node l e.2).isSome=false):qA l=false:=by
 unfold qA
 rw[List.all_eq_false.2 ⟨e,he,by rw[hn];decide⟩,Bool.false_and]
theorem zdT{l:List Fs.Item}(h: ∀e∈yS l,(Fs.node l e.2).isSome=true):qA l= !(zx l).any λi=> !XX i (Fs.nodeD l i).kind (cnt (yS l) i:Nat):=by
 unfold qA
 rw[List.all_eq_true.2 h,Bool.true_and,List.not_any_eq_all_not]
 congr 1
 funext i
 rw[Bool.not_not]
structure Sd (w W3:World) (nb:Nat) (E:List En) (wr:World):Prop where
 below:Below w.heap.size w wr
 turn:Turn nb W3 wr
 cm:Cmap wr nb E
theorem Sd.kept{w W3 wr wr':World}{nb:Nat}{E:List En}(h:Sd w W3 nb E wr)(hb:Below wr.heap.size wr wr'):Sd w W3 nb E wr':=
 ⟨h.below.trans (hb.mono h.below.size),h.turn.below hb,h.cm.below hb⟩
theorem Sd.store{w W3 wr:World}{nb:Nat}{E:List En}(h:Sd w W3 nb E wr)(hnb:w.heap.size<=nb)(hE:E.length<1000000)(e:En)(hi:(ik e.2).wf=true):
  ∃w',(Instr.mapUpdate 187 (.map (some nb)) (.int .i64 e.2) (.int .i64 ((cnt E e.2:Nat)+1))).run prog wr= .ok () w'/\Sd w W3 nb (E++[e]) w'/\Turn nb wr w':=by
 obtain⟨w',hr,hC,ht⟩:=h.cm.store hE e hi
 exact⟨w',hr,⟨zG h.below ht hnb,h.turn.turned ht,hC⟩,(Turn.refl nb wr).turned ht⟩
theorem X8(mb:Nat)(l:List Fs.Item)(w:World)(hM:Nmap w mb l)(hr:Fs.Rising l)(hwf: ∀y∈l,(ik y.1).wf=true)(hl:l.length<=1000)(hel: ∀y∈l,y.2.ents.length<=64)(hew: ∀e∈yS l,(ik e.2).wf=true):
  Calls prog 82 #[.map (some mb)] w λe w'=>e= .returned (.bool (qA l))/\Below w.heap.size w w':=by
 have hmm:= @run_makeMap prog
 have hfd:=Xg
 have HNm:=hid (λW (hb:Below w.heap.size w W)=>hM.below hb)
 have hB0:=below_one w (.cells #[.map (some mb)] 147)
 have HSo:=hid (Jj (hM.below hB0) hr hwf hl)
 have HKe:=hid (λW=>Ud (some mb) W)
 have hc0:(w.alloc (.cells #[.map (some mb)] 147)).cell? ⟨w.heap.size,0,none⟩=some (.map (some mb)):=World.cell?_alloc_new _ _ _ _
 have HB0:=hid hB0
 have HC0:=hid hc0
 have HRi:=hid hr
 have HEl:=hid hel
 have HEw:=hid hew
 have HWf:=hid hwf
 have hall:=UR hel
 clear hM hr hwf hel hew hB0
 go_enter func82,ntmps82
 go_wp2_with fail
 generalize w.alloc (.cells #[.map (some mb)] 147)=W0 at HB0 HC0 HSo hc0|-
 refine(HKe.out W0).mono ?_
 rintro e w1 ⟨rfl,rfl⟩
 dsimp only
 clear hc0
 go_wp2_with fail
 refine HSo.out.mono ?_
 rintro e w2 ⟨ao,cap,rfl,hI,hb2⟩
 have hb02:Below W0.heap.size W0 w2:=(below_one W0 (.cells #[.map (some mb)] 147)).trans (hb2.mono (below_one W0 (.cells #[.map (some mb)] 147)).size)
 have hw2:Below w.heap.size w w2:=HB0.out.trans (hb02.mono HB0.out.size)
 have hbm:=below_one w2 (.map #[] 0)
 have hbx:=below_one (w2.alloc (.map #[] 0)) (.cells #[.map (some w2.heap.size)] 187)
 have hmap:((w2.alloc (.map #[] 0)).alloc (.cells #[.map (some w2.heap.size)] 187)).heap[w2.heap.size]?=some (.map #[] 0):=(hbx.block _ (by rw[yw];omega)).trans (heap_alloc_new _ _)
 have hSd:Sd w ((w2.alloc (.map #[] 0)).alloc (.cells #[.map (some w2.heap.size)] 187)) w2.heap.size [] ((w2.alloc (.map #[] 0)).alloc (.cells #[.map (some w2.heap.size)] 187)):=
  ⟨(hw2.trans (hbm.mono hw2.size)).trans (hbx.mono (Nat.le_trans hw2.size hbm.size)),Turn.refl _ _,(Cmap.made w2).below hbx⟩
 have hc1:((w2.alloc (.map #[] 0)).alloc (.cells #[.map (some w2.heap.size)] 187)).cell? ⟨w.heap.size,0,none⟩=some (.map (some mb)):=by
  have h1:=(hb02.cell (p:=⟨w.heap.size,0,none⟩) (block_lt_of_cell HC0.out)).trans HC0.out
  have h2:=(hbm.cell (p:=⟨w.heap.size,0,none⟩) (block_lt_of_cell h1)).trans h1
  exact(hbx.cell (p:=⟨w.heap.size,0,none⟩) (block_lt_of_cell h2)).trans h2
 have hc4:((w2.alloc (.map #[] 0)).alloc (.cells #[.map (some w2.heap.size)] 187)).cell? ⟨w2.heap.size+1,0,none⟩=some (.map (some w2.heap.size)):=by
  have h:=World.cell?_alloc_new (w2.alloc (.map #[] 0)) #[.map (some w2.heap.size)] 187 0
  rw[yw]at h
  exact h
 have hI3:=hI.below (hbm.trans (hbx.mono hbm.size))
 have hne1:w.heap.size≠w2.heap.size:=λe=>by rw[e]at hc1;exact XS hc1 hmap
 have HTc:=hid (λwr (hT:Turn w2.heap.size ((w2.alloc (.map #[] 0)).alloc (.cells #[.map (some w2.heap.size)] 187)) wr)=>(⟨yn hT hc1 hne1,yn hT hc4 (by omega),QA hT ⟨_,_,hmap⟩ hI3⟩:wr.cell? ⟨w.heap.size,0,none⟩=some (.map (some mb))/\wr.cell? ⟨w2.heap.size+1,0,none⟩=some (.map (some w2.heap.size))/\Ints ao l.length (zx l) wr))
 have HS0:=hid hSd
 have HLe:=hid hw2.size
 obtain⟨n,hn⟩: ∃n,n=l.length:=⟨_,rfl⟩
 have HN:=hid hn
 rw[<-hn]at HTc hl hall|-
 have hni:(n:Int)<=1000:=by omega
 clear hI hb2 hb02 hw2 hbm hbx hmap hSd hc1 hc4 hI3 hne1 hn HSo HKe HB0 HC0
 dsimp only
 go_wp2_with fail
 generalize (w2.alloc (.map #[] 0)).alloc (.cells #[.map (some w2.heap.size)] 187)=W3 at HTc HS0|-
 generalize w2.heap.size=nb at HTc HS0 HLe|-
 go_loopw [6,8,9,10,18] (λ_ _ _ _ x18 wr=> ∃k:Nat,k<=n/\x18= .int .i64 k/\Sd w W3 nb (yS (l.take k)) wr/\Hid (∀e∈yS (l.take k),(Fs.node l e.2).isSome=true)) (λ_ _ _ _ x18 _=>n-(intOf x18).toNat)
 case atStart=>exact⟨0,Nat.zero_le _,rfl,HS0.out,λe he=>by cases he⟩
 case round=>
  clear HS0
  obtain⟨k,hk,rfl,hS,HA⟩:=hrel
  have HS:=hid hS
  clear hS
  by_cases hlt:k<n
  ·have k0:(k:Int)<(n:Int):=by omega
   have hk0:(0:Int)<=(k:Int):=by omega
   have hkl:k<l.length:=by rw[<-HN.out];exact hlt
   obtain⟨y,hy⟩: ∃y,l[k]?=some y:=⟨_,List.getElem?_eq_getElem hkl⟩
   have hym:=List.mem_of_getElem? hy
   obtain⟨c1,c4,hI⟩:=HTc.out wr HS.out.turn
   obtain⟨b1,o1,rfl,nc⟩:=hI.cell k hlt
   rw[show(zx l).getD k 0=y.1 by unfold zx;rw[List.getD,List.getElem?_map,hy];rfl]at nc
   have hnd:Fs.nodeD l y.1=y.2:=Fs.nodeD_of (Fs.node_at HRi.out hym)
   obtain⟨a,c,hlk,-,hE⟩:=(HNm.out wr HS.out.below).look (HWf.out y hym)
   rw[hnd]at hlk hE
   have HTk:=hid (zbl hy)
   have HEm:=hid (λe he=>UQ hym (e:=e) he)
   have hyl:=HEl.out y hym
   obtain⟨i,xk,xm,xd,xt,xe⟩:=y
   unfold nvx nv at hlk
   dsimp only at nc hlk hE HTk HEm hyl
   have HE:=hid (λW (hT:Turn nb wr W)=>YE hT HS.out.cm.isMap hE)
   clear hI hnd hE hy hym
   go_wp2_with fail
   go_loopw [8,9,10,27] (λ_ _ _ x27 wq=> ∃q:Nat,q<=xe.length/\x27= .int .i64 q/\Sd w W3 nb (yS (l.take k)++xe.take q) wq/\Turn nb wr wq/\Hid (∀e∈yS (l.take k)++xe.take q,(Fs.node l e.2).isSome=true)) (λ_ _ _ x27 _=>xe.length-(intOf x27).toNat)
   case atStart=>exact⟨0,Nat.zero_le _,rfl,by rw[List.take_zero,List.append_nil];exact HS.out,Turn.refl _ _,by rw[List.take_zero,List.append_nil];exact HA⟩
   case round=>
    clear nc c1 c4 hlk
    obtain⟨q,hq,rfl,hS2,hT2,HA2⟩:=hrel
    have HS2:=hid hS2
    have HT2:=hid hT2
    clear hS2 hT2
    by_cases hlt2:q<xe.length
    ·have q0:(q:Int)<(xe.length:Int):=by omega
     have hq0:(0:Int)<=(q:Int):=by omega
     have hE:=HE.out wr HT2.out
     obtain⟨b2,o2,rfl,-,-⟩:=hE.cell q hlt2
     obtain⟨e,he,d0,d1⟩:=kQ hE hlt2
     have hem:=HEm.out e (List.mem_of_getElem? he)
     have hb85:=below_one wr (.cells #[.string e.1,.int .i64 e.2] 132)
     have HS5:=hid (HS2.out.kept hb85)
     obtain⟨c1,c4,-⟩:=HTc.out _ HS5.out.turn
     obtain⟨a2,cc2,-,hlk2,-⟩:=(HNm.out _ HS5.out.below).look (HEw.out e hem)
     have HAf:=hid (λhn=>KI hem hn)
     have HQ:=hid (zw he)
     have HWe:=hid (HEw.out e hem)
     obtain⟨z,hz⟩: ∃z,Fs.nodeD l e.2=z:=⟨_,rfl⟩
     rw[hz]at hlk2
     obtain⟨zk,zm,zd,zt,ze⟩:=z
     unfold nvx nv at hlk2
     dsimp only at hlk2
     have hlenE:(yS (l.take k)++xe.take q).length<1000000:=by
      have h1:=UR (l:=l.take k) λy hy=>HEl.out y (List.mem_of_mem_take hy)
      rw[List.length_take]at h1
      rw[List.length_append,List.length_take]
      omega
     clear hE he hem hz
     cases hth:(Fs.node l e.2).isSome with
     |false=>
      rw[hth]at hlk2
      have HR:=hid (HAf.out hth)
      clear HAf HQ hlenE hb85
      go_wp2_with fail
      go_ret
      rw[HR.out]
      exact⟨rfl,HS5.out.below.trans ((below_one _ _).mono HS5.out.below.size)⟩
     | true=>
      rw[hth]at hlk2
      have hb43:=below_one (wr.alloc (.cells #[.string e.1,.int .i64 e.2] 132)) (.cells #[.int .i64 zk,.int .i64 zm,.string zd,.string zt,.slice a2 ze.length cc2] 43)
      have hS6:=HS5.out.kept hb43
      obtain⟨-,c4',-⟩:=HTc.out _ hS6.turn
      have hck:=hS6.cm.look HWe.out
      have hwr:IntKind.i64.wrap (((cnt (yS (l.take k)++xe.take q) e.2:Nat):Int)+1)=((cnt (yS (l.take k)++xe.take q) e.2:Nat):Int)+1:=IntWalk.i64_in _ (by have:=Kx (yS (l.take k)++xe.take q) e.2;omega)
      obtain⟨w9,hr9,hS9,hT9⟩:=hS6.store HLe.out hlenE e HWe.out
      have HS9:=hid hS9
      have HT9:=hid (((HT2.out.below hb85).below hb43).trans hT9)
      have HA9:=hid (show∀e'∈yS (l.take k)++xe.take (q+1),(Fs.node l e'.2).isSome=true from λe' he'=>by
       rw[HQ.out,<-List.append_assoc]at he'
       rcases List.mem_append.1 he' with h|h
       ·exact HA2.out e' h
       ·rw[List.mem_singleton.1 h];exact hth)
      generalize (cnt (yS (l.take k)++xe.take q) e.2:Nat)=N at hck hwr hr9
      clear hb43 hb85 hS6 hS9 hT9 hlenE HAf hth
      go_wp2_with fail
      go_roundw
      case rel=>exact⟨q+1,by omega,by go_num,by rw[HQ.out,<-List.append_assoc];exact HS9.out,HT9.out,HA9⟩
      case measure=>simp[intOf];omega
    ·obtain rfl:q=xe.length:=by omega
     have hge: ¬ ((xe.length:Int)<(xe.length:Int)):=by omega
     rw[List.take_length,<-HTk.out]at HS2 HA2
     go_wp2_with fail
     go_roundw
     case rel=>exact⟨k+1,by omega,by go_num,HS2.out,HA2⟩
     case measure=>simp[intOf];omega
  ·obtain rfl:k=n:=by omega
   have hge: ¬ ((k:Int)<(k:Int)):=by omega
   have hA:=HA.out
   rw[HN.out,List.take_length]at hA
   have HR:=hid (zdT hA)
   have hC:Cmap wr nb (yS l):=by have:=HS.out.cm;rwa [HN.out,List.take_length]at this
   obtain⟨c1,c4,hI⟩:=HTc.out wr HS.out.turn
   have eg: ∀args w,(callFunc 124 args).run prog w= .ok (.enter 124 args) w:=enters_of func124 (by kernel_rfl) rfl
   have H9:=hid (UG 124 #[.pointer (some ⟨w.heap.size,0,none⟩),.pointer (some ⟨nb+1,0,none⟩)] eg (λi=> !XX i (Fs.nodeD l i).kind (cnt (yS l) i:Nat)) ao k cap (zx l) wr hI (by omega) (λx hx W hW=>by
    show Calls prog 124 #[.int .i64 x,.pointer (some ⟨w.heap.size,0,none⟩),.pointer (some ⟨nb+1,0,none⟩)] W _
    obtain⟨y,hy,rfl⟩:=List.mem_map.1 hx
    exact zdN w.heap.size (nb+1) mb nb l (yS l) y.1 W ((hW.cell (p:=⟨w.heap.size,0,none⟩) (block_lt_of_cell c1)).trans c1) ((hW.cell (p:=⟨nb+1,0,none⟩) (block_lt_of_cell c4)).trans c4) (HNm.out W (HS.out.below.trans (hW.mono HS.out.below.size))) (hC.below hW) (HWf.out y hy)))
   generalize (zx l).any (λi=> !XX i (Fs.nodeD l i).kind (cnt (yS l) i:Nat))=r at*
   clear hA hC hI c1 c4
   go_wp2_with fail
   refine H9.out.mono ?_
   rintro e w9 ⟨rfl,hb9⟩
   have HB9:=hid (HS.out.below.trans (hb9.mono HS.out.below.size))
   clear hb9
   dsimp only
   go_wp2_with fail
   go_ret
   rw[HR.out]
   exact⟨rfl,HB9.out⟩
def kL(i:Int)(R:List Int):List Int:=if i∈R then R else i::R
def zZ(l:List Fs.Item):Nat->Int->List Int->Bool×List Int
 |0,_,R=>(false,R)
 |k+1,i,R=>(Fs.nodeD l i).ents.foldl (λr e=>if r.1=true then zZ l k e.2 r.2 else r) (true,kL i R)
def vn(l:List Fs.Item)(k:Nat)(r:Bool×List Int)(e:En):Bool×List Int:=if r.1=true then zZ l k e.2 r.2 else r
theorem vQ(l:List Fs.Item)(k:Nat)(i:Int)(R:List Int):zZ l (k+1) i R=(Fs.nodeD l i).ents.foldl (vn l k) (true,kL i R):=rfl
theorem Vq(l:List Fs.Item)(k:Nat)(es:List En)(R:List Int):es.foldl (vn l k) (false,R)=(false,R):=by
 induction es with
 |nil=>rfl
 |cons e es ih=>rw[List.foldl_cons];exact ih
theorem zaL{l:List Fs.Item}{k:Nat}{es:List En}{q:Nat}{e:En}(h:es[q]?=some e)(r:Bool×List Int):(es.take (q+1)).foldl (vn l k) r=vn l k ((es.take q).foldl (vn l k) r) e:=by
 rw[zw h,List.foldl_append];rfl
theorem zdl{l:List Fs.Item}{k:Nat}{es:List En}{q:Nat}{r:Bool×List Int}{R:List Int}(h:(es.take q).foldl (vn l k) r=(false,R)):es.foldl (vn l k) r=(false,R):=by
 conv=>lhs;rw[<-List.take_append_drop q es]
 rw[List.foldl_append,h,Vq]
structure Rok (l:List Fs.Item) (R:List Int):Prop where
 nodup:R.Nodup
 sub: ∀x∈R,x∈zx l
theorem qp{α:Type}[DecidableEq α]: ∀{R L:List α},R.Nodup->(∀x∈R,x∈L)->R.length<=L.length
 |[],_,_,_=>Nat.zero_le _
 | a::R,L,h,hs=>by
  have h1:=List.nodup_cons.1 h
  have ha:=hs a List.mem_cons_self
  have:=qp (L:=L.erase a) h1.2 λx hx=>by
   have hxa:x≠a:=by rintro rfl;exact h1.1 hx
   exact(List.mem_erase_of_ne hxa).2 (hs x (List.mem_cons_of_mem _ hx))
  rw[List.length_erase_of_mem ha]at this
  have hp:=List.length_pos_of_mem ha
  rw[List.length_cons]
  omega
theorem Rok.len{l:List Fs.Item}{R:List Int}(h:Rok l R):R.length<=l.length:=by
 have:=qp h.nodup h.sub
 unfold zx at this
 rwa [List.length_map]at this
theorem Rok.ins{l:List Fs.Item}{R:List Int}(h:Rok l R){i:Int}(hi:i∈zx l):Rok l (kL i R):=by
 unfold kL
 split
 ·exact h
 ·rename_i hn
  refine⟨List.nodup_cons.2 ⟨hn,h.nodup⟩,λx hx=> ?_⟩
  rcases List.mem_cons.1 hx with rfl|hx
  ·exact hi
  ·exact h.sub x hx
theorem qf{l:List Fs.Item}(hl: ∀i,∀e∈(Fs.nodeD l i).ents,e.2∈zx l): ∀(k:Nat) (i:Int) (R:List Int),i∈zx l->Rok l R->Rok l (zZ l k i R).2
 |0,_,_,_,h=>h
 | k+1,i,R,hi,h=>by
  rw[vQ]
  have key: ∀(es:List En) (r:Bool×List Int),(∀e∈es,e.2∈zx l)->Rok l r.2->Rok l (es.foldl (vn l k) r).2:=by
   intro es
   induction es with
   |nil=>exact λr _ hr=>hr
   |cons e es ih=>
    intro r hes hr
    rw[List.foldl_cons]
    refine ih _ (λx hx=>hes x (List.mem_cons_of_mem _ hx)) ?_
    unfold vn
    split
    ·exact qf hl k e.2 r.2 (hes e List.mem_cons_self) hr
    ·exact hr
  exact key _ _ (hl i) (h.ins hi)
def Rmap(w:World)(b:Nat)(R:List Int):Prop:= ∃f,Mz w b R.length f/\ ∀i,(f i).isSome=decide (i∈R)
theorem Rmap.below{w w':World}{b:Nat}{R:List Int}(h:Rmap w b R)(hb:Below w.heap.size w w'):Rmap w' b R:=by obtain⟨f,h1,h2⟩:=h;exact⟨f,h1.below hb,h2⟩
theorem Rmap.isMap{w:World}{b:Nat}{R:List Int}(h:Rmap w b R): ∃es c,w.heap[b]?=some (.map es c):=by
 obtain⟨f,⟨D,⟨es,c,hb,_⟩,_⟩,_⟩:=h;exact⟨es,c,hb⟩
theorem Rmap.made(w:World):Rmap (w.alloc (.map #[] 0)) w.heap.size []:=⟨_,Mz.made w,λ_=>rfl⟩
theorem Rmap.store{w:World}{b:Nat}{R:List Int}(h:Rmap w b R)(hR:R.length<=1000000){i:Int}(hi:(ik i).wf=true):
  ∃w',(Instr.mapUpdate 145 (.map (some b)) (.int .i64 i) (.bool true)).run prog w= .ok () w'/\Rmap w' b (kL i R)/\w.mapTurned w' b:=by
 obtain⟨f,h1,h2⟩:=h
 obtain⟨w',hr,hM,ht⟩:=h1.store underlying145 (by unfold maxLen;omega) hi (.bool true)
 refine⟨w',hr,⟨upd f i (.bool true), ?_,λj=> ?_⟩,ht⟩
 ·rw[h2 i]at hM
  unfold kL
  by_cases hm:i∈R
  ·rw[if_pos (decide_eq_true hm)]at hM;rw[if_pos hm];exact hM
  ·rw[if_neg (by simpa using hm)]at hM;rw[if_neg hm];exact hM
 ·unfold upd kL
  by_cases hj:j=i
  ·subst hj
   rw[if_pos rfl]
   split
   ·rename_i hm;simp[hm]
   ·simp
  ·rw[if_neg hj,h2 j]
   split
   ·rfl
   ·simp[hj]
theorem Rmap.len{w:World}{b:Nat}{R:List Int}(h:Rmap w b R):(Builtin.len_ #[145] 3 #[.map (some b)]).run prog w= .ok (.int .i64 (R.length:Int)) w:=by
 obtain⟨f,h1,_⟩:=h
 exact h1.len underlying145 3
def jC(r:Bool×List Int)(w0:World)(rb:Nat)(w:World)(e:Ending)(w':World):Prop:=e= .returned (.bool r.1)/\Rmap w' rb r.2/\Turn rb w w'/\Below w0.heap.size w0 w'
theorem Q2(mb:Nat)(l:List Fs.Item)(w0:World)(hM:Nmap w0 mb l)(hwf: ∀y∈l,(ik y.1).wf=true)(hl:l.length<=1000)(hel: ∀i,(Fs.nodeD l i).ents.length<=64)(hin: ∀i,∀e∈(Fs.nodeD l i).ents,e.2∈zx l):
  ∀(K:Nat),K<=9-> ∀(i:Int) (R:List Int) (rb:Nat) (w:World),i∈zx l->Rok l R->Below w0.heap.size w0 w->w0.heap.size<=rb->Rmap w rb R->
   Calls prog 83 #[.map (some mb),.int .i64 i,.int .i64 (9-(K:Int)),.map (some rb)] w (jC (zZ l K i R) w0 rb w):=by
 intro K
 induction K with
 |zero=>
  intro _ i R rb w hi hR hb hrb hm
  have HF:=hid (show jC (zZ l 0 i R) w0 rb w (.returned (.bool false)) w from⟨rfl,hm,Turn.refl _ _,hb⟩)
  clear hm hb
  go_enter func83,ntmps83
  go_wp2_with fail
  go_ret
  exact HF.out
 | succ K ih=>
  intro hK i R rb w hi hR hb hrb hm
  have hwfi:(ik i).wf=true:=by
   obtain⟨y,hy,rfl⟩:=List.mem_map.1 hi
   exact hwf y hy
  have hfd:=Xg
  obtain⟨w1,hr1,hM1,ht1⟩:=hm.store (Nat.le_trans hR.len (by omega)) hwfi
  have hb1:=zG hb ht1 hrb
  have hT1:=(Turn.refl rb w).turned ht1
  obtain⟨a,c,hlk,-,hE⟩:=(hM.below hb1).look hwfi
  have HEn:=hid (λW (hT:Turn rb w1 W)=>YE hT hM1.isMap hE)
  have hn:=hel i
  have HIn:=hid (hin i)
  have hd:(9:Int)-((K+1:Nat):Int)=8-(K:Int):=by omega
  have hd1: ¬ (8:Int)<8-(K:Int):=by omega
  have hwr:IntKind.i64.wrap (8-(K:Int)+1)=9-(K:Int):=by rw[show(8:Int)-K+1=9-K by omega];exact IntWalk.i64_in _ (by omega)
  have HIH:=hid (λi R W hi hR hb hm=>ih (by omega) i R rb W hi hR hb hrb hm)
  have HOk:=hid (λ(k:Nat) (i:Int) (R:List Int)=>qf hin k i R)
  have HR1:=hid (hR.ins hi)
  have HW1:=hid hb1
  have HT1:=hid hT1
  have HM1:=hid hM1
  have HS:=hid (vQ l K i R)
  rw[hd]
  obtain⟨x,hx⟩: ∃x,Fs.nodeD l i=x:=⟨_,rfl⟩
  rw[hx]at hlk HEn hn HIn HS
  obtain⟨xk,xm,xd,xt,xe⟩:=x
  unfold nvx nv at hlk
  dsimp only at hlk HEn hn HIn HS
  clear hm hb hR hE hb1 hT1 hM1 ht1 hM hwf hel hin ih hx hi hd
  generalize zZ l (K+1) i R=RR at HS|-
  go_enter func83,ntmps83
  go_wp2_with fail
  go_loopw [10,20] (λ_ x20 wr=> ∃(q:Nat) (R':List Int),q<=xe.length/\x20= .int .i64 q/\Hid ((xe.take q).foldl (vn l K) (true,kL i R)=(true,R'))/\Rok l R'/\Rmap wr rb R'/\Turn rb w wr/\Turn rb w1 wr/\Below w0.heap.size w0 wr) (λ_ x20 _=>xe.length-(intOf x20).toNat)
  case atStart=>exact⟨0,_,Nat.zero_le _,rfl,rfl,HR1.out,HM1.out,HT1.out,Turn.refl _ _,HW1.out⟩
  case round=>
   clear HM1 HT1 HW1 HR1 hlk hr1
   obtain⟨q,R',hq,rfl,HFo,hR',hM',hT',hT1',hW'⟩:=hrel
   have HR':=hid hR'
   have HM':=hid hM'
   have HT':=hid hT'
   have HT1':=hid hT1'
   have HW':=hid hW'
   clear hR' hM' hT' hT1' hW'
   by_cases hlt:q<xe.length
   ·have q0:(q:Int)<(xe.length:Int):=by omega
    have hq0:(0:Int)<=(q:Int):=by omega
    have hE:=HEn.out wr HT1'.out
    obtain⟨b2,o2,rfl,-,-⟩:=hE.cell q hlt
    obtain⟨e,he,d0,d1⟩:=kQ hE hlt
    have hei:=HIn.out e (List.mem_of_getElem? he)
    have hb85:=below_one wr (.cells #[.string e.1,.int .i64 e.2] 132)
    have HC:=hid (HIH.out e.2 R' _ hei HR'.out (HW'.out.trans (hb85.mono HW'.out.size)) (HM'.out.below hb85))
    have HOe:=hid (HOk.out K e.2 R' hei HR'.out)
    have HFm:=hid (show(xe.take (q+1)).foldl (vn l K) (true,kL i R)=zZ l K e.2 R' by rw[zaL he,HFo.out];rfl)
    have HTb:=hid (HT'.out.below hb85)
    have HTc:=hid (HT1'.out.below hb85)
    clear hE he hei hb85
    unfold jC at HC
    cases hrr:zZ l K e.2 R' with
    | mk rr R2=>
     rw[hrr]at HC HOe HFm
     dsimp only at HC HOe
     cases rr with
     |false=>
      have HR:=hid (HS.out.trans (zdl HFm.out))
      clear HFm HS
      go_wp2_with fail
      refine HC.out.mono ?_
      rintro e5 w5 ⟨rfl,hm5,ht5,hb5⟩
      have HF:=hid (show jC RR w0 rb w (.returned (.bool false)) w5 by rw[HR.out];exact⟨rfl,hm5,HTb.out.trans ht5,hb5⟩)
      clear hm5 ht5 hb5 d0 d1
      dsimp only
      go_wp2_with fail
      go_ret
      exact HF.out
     |true=>
      go_wp2_with fail
      refine HC.out.mono ?_
      rintro e5 w5 ⟨rfl,hm5,ht5,hb5⟩
      have HX:=hid (And.intro hm5 (And.intro (HTb.out.trans ht5) (And.intro (HTc.out.trans ht5) hb5)))
      clear hm5 ht5 hb5 d0 d1
      dsimp only
      go_wp2_with fail
      go_roundw
      case rel=>exact⟨q+1,R2,by omega,by go_num,HFm.out,HOe.out,HX.out.1,HX.out.2.1,HX.out.2.2.1,HX.out.2.2.2⟩
      case measure=>simp[intOf];omega
   ·obtain rfl:q=xe.length:=by omega
    have hge: ¬ ((xe.length:Int)<(xe.length:Int)):=by omega
    have hfo:=HFo.out
    rw[List.take_length]at hfo
    have HF:=hid (show jC RR w0 rb w (.returned (.bool true)) wr by rw[HS.out,hfo];exact⟨rfl,HM'.out,HT'.out,HW'.out⟩)
    clear hfo
    go_wp2_with fail
    go_ret
    exact HF.out
end Go.Proofs.YtabmamofnhcgbaaGreatDoor
namespace Go.Proofs.YtabmamofnhcgbaaGreatDoor
open Go.RowKit Go.Less Go.Maps
open T8 (pv Dg Rp Pr yx)
attribute [local go_sem 9000] zg zf
def uO(l:List Fs.Item):Bool:=decide (l.length<=256)&&(decide ((Fs.nodeD l 1).kind=2)&&(qA l&&((zZ l 9 1 []).1&&decide ((zZ l 9 1 []).2.length=l.length))))
theorem zae{p:Pr}(h:okp p):Nd.Right less Nm.right (itm p).2:=(XJ (x:=(zO p.2.data.toList).1) (by rw[<-h.2])).1
theorem zah{l:List Fs.Item}(h: ∀y∈l,Nd.Right less Nm.right y.2)(i:Int):(Fs.nodeD l i).ents.length<=64:=by
 unfold Fs.nodeD
 cases hn:Fs.node l i with
 |none=>exact Nat.zero_le _
 |some x=>exact(h _ (Fs.node_mem hn)).len
theorem V3{l:List Fs.Item}{i:Int}{e:En}(he:e∈(Fs.nodeD l i).ents):e∈yS l:=by
 unfold Fs.nodeD at he
 cases hn:Fs.node l i with
 |none=>rw[hn]at he;cases he
 |some x=>rw[hn]at he;exact UQ (Fs.node_mem hn) he
theorem Qn{l:List Fs.Item}(h:qA l=true){e:En}(he:e∈yS l):e.2∈zx l:=by
 unfold qA at h
 rw[Bool.and_eq_true]at h
 exact node_some_iff.1 (List.all_eq_true.1 h.1 e he)
theorem Nmap.len{w:World}{b:Nat}{l:List Fs.Item}(h:Nmap w b l):(Builtin.len_ #[147] 3 #[.map (some b)]).run prog w= .ok (.int .i64 (l.length:Int)) w:=by
 obtain⟨⟨f,h1,_⟩⟩:=h
 exact h1.len underlying147 3
def Yk(r:Bool)(w:World)(e:Ending)(w':World):Prop:=e= .returned (.bool r)/\Below w.heap.size w w'
theorem Jg(m:Option Nat)(kvs:List Pr)(w:World)(h:Rp w m kvs)(hn:256<kvs.length)(hn2:kvs.length<=100000):Calls prog 31 #[pv m] w (Yk false w):=by
 have HL:=hid (yx h)
 have hni:(256:Int)<(kvs.length:Int):=by omega
 clear h
 go_enter func31,ntmps31
 go_wp2_with fail
 refine HL.out.mono ?_
 rintro e w1 ⟨rfl,hb⟩
 dsimp only
 go_wp2_with fail
 go_ret
 exact⟨rfl,hb⟩
theorem sound_bad(m:Option Nat)(kvs:List Pr)(j:Nat)(w:World)(h:Rp w m kvs)(hn:kvs.length<=256)(hvs: ∀p∈kvs,p.2.size<=100000)(hj:j<kvs.length)
  (hok: ∀i p,i<j->kvs[i]?=some p->okp p) (hbad: ∀p,kvs[j]?=some p-> ¬ okp p) (hnd:(((kvs.take j).map itm).map (·.1)).Nodup):Calls prog 31 #[pv m] w (Yk false w):=by
 have HL:=hid (yx h)
 have HRd:=hid (λW (hb:Below w.heap.size w W)=>jG m kvs j W (h.below hb) (by omega) hvs (by omega) hok hbad hnd)
 unfold Xo at HRd
 simp only[show(j=kvs.length)=False from eq_false (by omega),if_false]at HRd
 clear h hok hbad hnd hvs
 go_enter func31,ntmps31
 go_wp2_with fail
 refine HL.out.mono ?_
 rintro e w1 ⟨rfl,hb⟩
 have HB:=hid hb
 clear hb
 dsimp only
 go_wp2_with fail
 refine(HRd.out w1 HB.out).mono ?_
 rintro e w2 ⟨hb2,rfl⟩
 have HB2:=hid (HB.out.trans (hb2.mono HB.out.size))
 clear hb2
 dsimp only
 go_wp2_with fail
 go_ret
 exact⟨rfl,HB2.out⟩
theorem QP(m:Option Nat)(kvs:List Pr)(w:World)(h:Rp w m kvs)(hn:kvs.length<=1000)(hvs: ∀p∈kvs,p.2.size<=100000)(hok: ∀p∈kvs,okp p)(hr:Fs.Rising (kvs.map itm)):
  Calls prog 31 #[pv m] w (Yk (uO (kvs.map itm)) w):=by
 have hlen:(kvs.map itm).length=kvs.length:=List.length_map _
 by_cases hmany:256<kvs.length
 ·rw[show uO (kvs.map itm)=false by unfold uO;rw[decide_eq_false (by omega),Bool.false_and]]
  exact Jg m kvs w h hmany (by omega)
 have hmm:= @run_makeMap prog
 have hfd:=Xh
 have HL:=hid (yx h)
 have HRd:=hid (λW (hb:Below w.heap.size w W)=>jG m kvs kvs.length W (h.below hb) hn hvs (Nat.le_refl _) (λi p _ hp=>hok p (List.mem_of_getElem? hp)) (λp hp=>by rw[List.getElem?_eq_none (Nat.le_refl _)]at hp;cases hp) (by rw[List.take_length];exact uq hr))
 unfold Xo at HRd
 simp only[if_true]at HRd
 have hni: ¬ (256:Int)<(kvs.length:Int):=by omega
 have hrt: ∀y∈kvs.map itm,Nd.Right less Nm.right y.2:=λy hy=>by
  obtain⟨p,hp,rfl⟩:=List.mem_map.1 hy;exact zae (hok p hp)
 have hwf: ∀y∈kvs.map itm,(ik y.1).wf=true:=λy hy=>by
  obtain⟨p,hp,rfl⟩:=List.mem_map.1 hy
  have:=zc7 (hok p hp).1
  exact zdb this.1 this.2
 have hew: ∀e∈yS (kvs.map itm),(ik e.2).wf=true:=λe he=>by
  obtain⟨es,hes,he⟩:=List.mem_flatten.1 he
  obtain⟨y,hy,rfl⟩:=List.mem_map.1 hes
  have:=((hrt y hy).ok e he).2
  exact zdb this.1 this.2
 have hel:=λy hy=>(hrt y hy).len
 rw[<-hlen]at hn
 have HAr:=hid (λmb W (hM:Nmap W mb (kvs.map itm))=>X8 mb (kvs.map itm) W hM hr hwf hn hel hew)
 have HRe:=hid (λ(hA:qA (kvs.map itm)=true) (h1:1∈zx (kvs.map itm)) mb rb W0 W (hM:Nmap W0 mb (kvs.map itm)) (hb:Below W0.heap.size W0 W) (hrb:W0.heap.size<=rb) (hm:Rmap W rb [])=>Q2 mb (kvs.map itm) W0 hM hwf hn (zah hrt) (λi e he=>Qn hA (V3 he)) 9 (Nat.le_refl _) 1 [] rb W h1 ⟨List.nodup_nil,λx hx=>by cases hx⟩ hb hrb hm)
 have h256:(kvs.map itm).length<=256:=by omega
 clear h hvs hok hr hrt hwf hew hel hmany hlen
 generalize kvs.map itm=l at*
 have hS:uO l=(decide ((Fs.nodeD l 1).kind=2)&&(qA l&&((zZ l 9 1 []).1&&decide ((zZ l 9 1 []).2.length=l.length)))):=by unfold uO;rw[decide_eq_true h256,Bool.true_and]
 clear h256 hn
 by_cases hk:(Fs.nodeD l 1).kind=2
 ·have h1:1∈zx l:=node_some_iff.1 (by
   cases hx:Fs.node l 1 with
   |some x=>rfl
   |none=>unfold Fs.nodeD at hk;rw[hx]at hk;exact absurd hk (by decide))
  rw[decide_eq_true hk,Bool.true_and]at hS
  cases hA:qA l with
  |false=>
   rw[hA,Bool.false_and]at hS
   rw[hA]at HAr
   have HS:=hid hS
   clear hS HRe
   go_enter func31,ntmps31
   go_wp2_with fail
   refine HL.out.mono ?_
   rintro e w1 ⟨rfl,hb⟩
   have HB:=hid hb
   clear hb
   dsimp only
   go_wp2_with fail
   refine(HRd.out w1 HB.out).mono ?_
   rintro e w2 ⟨hb2,mb,rfl,hM⟩
   have HB2:=hid (HB.out.trans (hb2.mono HB.out.size))
   have HM:=hid hM
   obtain⟨a,c,hlk,-,-⟩:=hM.look (i:=1) (by decide)
   clear hb2 hM
   generalize Fs.nodeD l 1=x at*
   obtain⟨xk,xm,xd,xt,xe⟩:=x
   unfold nvx nv at hlk
   dsimp only at hlk hk
   subst hk
   dsimp only
   go_wp2_with fail
   refine(HAr.out mb w2 HM.out).mono ?_
   rintro e w3 ⟨rfl,hb3⟩
   have HB3:=hid (HB2.out.trans (hb3.mono HB2.out.size))
   clear hb3 hlk
   dsimp only
   go_wp2_with fail
   go_ret
   rw[HS.out]
   exact⟨rfl,HB3.out⟩
  | true=>
   rw[hA,Bool.true_and]at hS
   rw[hA]at HAr
   have HRx:=hid (HRe.out hA h1)
   unfold jC at HRx
   rw[show(9:Int)-((9:Nat):Int)=0 from rfl]at HRx
   obtain⟨⟨rr,R⟩,hrr⟩: ∃r,zZ l 9 1 []=r:=⟨_,rfl⟩
   rw[hrr]at hS HRx
   dsimp only at hS HRx
   have HS:=hid hS
   clear hS HRe hrr hA h1
   cases rr with
   |false=>
    go_enter func31,ntmps31
    go_wp2_with fail
    refine HL.out.mono ?_
    rintro e w1 ⟨rfl,hb⟩
    have HB:=hid hb
    clear hb
    dsimp only
    go_wp2_with fail
    refine(HRd.out w1 HB.out).mono ?_
    rintro e w2 ⟨hb2,mb,rfl,hM⟩
    have HB2:=hid (HB.out.trans (hb2.mono HB.out.size))
    have HM:=hid hM
    obtain⟨a,c,hlk,-,-⟩:=hM.look (i:=1) (by decide)
    clear hb2 hM
    generalize Fs.nodeD l 1=x at*
    obtain⟨xk,xm,xd,xt,xe⟩:=x
    unfold nvx nv at hlk
    dsimp only at hlk hk
    subst hk
    dsimp only
    go_wp2_with fail
    refine(HAr.out mb w2 HM.out).mono ?_
    rintro e w3 ⟨rfl,hb3⟩
    have HB3:=hid (HB2.out.trans (hb3.mono HB2.out.size))
    have HC:=hid (HRx.out mb w3.heap.size w3 _ (HM.out.below hb3) (below_one w3 (.map #[] 0)) (Nat.le_refl _) (Rmap.made w3))
    clear hb3 hlk
    dsimp only
    go_wp2_with fail
    refine HC.out.mono ?_
    rintro e w4 ⟨rfl,-,-,hb4⟩
    have HB4:=hid (HB3.out.trans (hb4.mono HB3.out.size))
    clear hb4
    dsimp only
    go_wp2_with fail
    go_ret
    rw[HS.out]
    exact⟨rfl,HB4.out⟩
   | true=>
    go_enter func31,ntmps31
    go_wp2_with fail
    refine HL.out.mono ?_
    rintro e w1 ⟨rfl,hb⟩
    have HB:=hid hb
    clear hb
    dsimp only
    go_wp2_with fail
    refine(HRd.out w1 HB.out).mono ?_
    rintro e w2 ⟨hb2,mb,rfl,hM⟩
    have HB2:=hid (HB.out.trans (hb2.mono HB.out.size))
    have HM:=hid hM
    obtain⟨a,c,hlk,-,-⟩:=hM.look (i:=1) (by decide)
    clear hb2 hM
    generalize Fs.nodeD l 1=x at*
    obtain⟨xk,xm,xd,xt,xe⟩:=x
    unfold nvx nv at hlk
    dsimp only at hlk hk
    subst hk
    dsimp only
    go_wp2_with fail
    refine(HAr.out mb w2 HM.out).mono ?_
    rintro e w3 ⟨rfl,hb3⟩
    have HB3:=hid (HB2.out.trans (hb3.mono HB2.out.size))
    have HM3:=hid (HM.out.below hb3)
    have HC:=hid (HRx.out mb w3.heap.size w3 _ (HM.out.below hb3) (below_one w3 (.map #[] 0)) (Nat.le_refl _) (Rmap.made w3))
    clear hb3 hlk
    dsimp only
    go_wp2_with fail
    refine HC.out.mono ?_
    rintro e w4 ⟨rfl,hm4,-,hb4⟩
    have HB4:=hid (HB3.out.trans (hb4.mono HB3.out.size))
    have hl1:=hm4.len
    have hl2:=(HM3.out.below hb4).len
    clear hb4 hm4
    dsimp only
    go_wp2_with fail
    go_ret
    rw[HS.out]
    have hq:((R.length:Int)==(l.length:Int))=decide (R.length=l.length):=by
     by_cases h9:R.length=l.length
     ·rw[decide_eq_true h9,h9];simp
     ·rw[decide_eq_false h9];simp only[beq_eq_false_iff_ne];omega
    refine⟨?_,HB4.out⟩
    show Ending.returned (.bool ((R.length:Int)==(l.length:Int)))=_
    rw[hq,Bool.true_and]
 ·rw[decide_eq_false hk,Bool.false_and]at hS
  have HS:=hid hS
  clear hS HRe HAr
  go_enter func31,ntmps31
  go_wp2_with fail
  refine HL.out.mono ?_
  rintro e w1 ⟨rfl,hb⟩
  have HB:=hid hb
  clear hb
  dsimp only
  go_wp2_with fail
  refine(HRd.out w1 HB.out).mono ?_
  rintro e w2 ⟨hb2,mb,rfl,hM⟩
  have HB2:=hid (HB.out.trans (hb2.mono HB.out.size))
  obtain⟨a,c,hlk,-,-⟩:=hM.look (i:=1) (by decide)
  clear hb2 hM
  generalize Fs.nodeD l 1=x at*
  obtain⟨xk,xm,xd,xt,xe⟩:=x
  unfold nvx nv at hlk
  dsimp only at hlk hk
  dsimp only
  go_wp2_with fail
  go_ret
  rw[HS.out]
  exact⟨rfl,HB2.out⟩
end Go.Proofs.YtabmamofnhcgbaaGreatDoor
