/- A part of the proofs. -/
import Derived.Sort.OwnSorted
import Derived.StringKeys
import Derived.Shelf.SlMaps.Clone
import Derived.Test.YtabmamofnhcgbaaGreatDoorC21
set_option maxRecDepth 1000000
set_option maxHeartbeats 16000000
open Go.Lib (hid)
open Go.Proofs.Tryz
namespace Go.Proofs
open Go.Shelf
def Tryz.sortS88_ren:Go.Shelf.Ren:=⟨fun|6=>88|8=>130|9=>129|19=>177|20=>178|21=>168|22=>169|23=>170|24=>171|25=>172|26=>173|27=>174|28=>175|29=>176|36=>206|31=>207|32=>208|37=>209|38=>210|39=>211|41=>238|n=>n,fun|27=>52|29=>9|3=>3|32=>143|26=>52|0=>0|44=>214|46=>238|4=>4|36=>231|35=>230|41=>158|5=>5|9=>9|53=>269|57=>273|63=>292|64=>123|n=>n,fun|n=>n⟩
theorem Tryz.sortS88:Go.Proofs.SlLaysM.n6 prog Tryz.sortS88_ren:={
 mixed:=by kernel_rfl
 f6:=⟨Tryz.f88.name,by decide,func88.trans (congrArg some (by kernel_rfl))⟩
 f8:=func130.trans (congrArg some (by kernel_rfl))
 f9:=⟨Tryz.f129.name,by decide,func129.trans (congrArg some (by kernel_rfl))⟩
 f19:=func177.trans (congrArg some (by kernel_rfl))
 f20:=func178.trans (congrArg some (by kernel_rfl))
 f21:=⟨Tryz.f168.name,by decide,func168.trans (congrArg some (by kernel_rfl))⟩
 f22:=⟨Tryz.f169.name,by decide,func169.trans (congrArg some (by kernel_rfl))⟩
 f23:=⟨Tryz.f170.name,by decide,func170.trans (congrArg some (by kernel_rfl))⟩
 f24:=⟨Tryz.f171.name,by decide,func171.trans (congrArg some (by kernel_rfl))⟩
 f25:=⟨Tryz.f172.name,by decide,func172.trans (congrArg some (by kernel_rfl))⟩
 f26:=⟨Tryz.f173.name,by decide,func173.trans (congrArg some (by kernel_rfl))⟩
 f27:=⟨Tryz.f174.name,by decide,func174.trans (congrArg some (by kernel_rfl))⟩
 f28:=⟨Tryz.f175.name,by decide,func175.trans (congrArg some (by kernel_rfl))⟩
 f29:=⟨Tryz.f176.name,by decide,func176.trans (congrArg some (by kernel_rfl))⟩
 f31:=func207.trans (congrArg some (by kernel_rfl))
 f32:=func208.trans (congrArg some (by kernel_rfl))
 f36:=⟨Tryz.f206.name,by decide,func206.trans (congrArg some (by kernel_rfl))⟩
 f37:=⟨Tryz.f209.name,by decide,func209.trans (congrArg some (by kernel_rfl))⟩
 f38:=⟨Tryz.f210.name,by decide,func210.trans (congrArg some (by kernel_rfl))⟩
 f39:=⟨Tryz.f211.name,by decide,func211.trans (congrArg some (by kernel_rfl))⟩
 f41:=⟨Tryz.f238.name,by decide,func238.trans (congrArg some (by kernel_rfl))⟩
 t0:=underlying0
 a0:=Tryz.isAgg0
 z0:=Tryz.sizeOf0
 v0:=Tryz.zeroValue0
 t3:=underlying3
 a3:=Tryz.isAgg3
 z3:=Tryz.sizeOf3
 v3:=Tryz.zeroValue3
 t4:=underlying4
 a4:=Tryz.isAgg4
 z4:=Tryz.sizeOf4
 v4:=Tryz.zeroValue4
 t5:=underlying5
 a5:=Tryz.isAgg5
 z5:=Tryz.sizeOf5
 v5:=Tryz.zeroValue5
 t9:=underlying9
 a9:=Tryz.isAgg9
 z9:=Tryz.sizeOf9
 v9:=Tryz.zeroValue9
 t26:=underlying52
 a26:=Tryz.isAgg52
 z26:=Tryz.sizeOf52
 v26:=Tryz.zeroValue52
 t27:=underlying52
 a27:=Tryz.isAgg52
 z27:=Tryz.sizeOf52
 v27:=Tryz.zeroValue52
 t29:=underlying9
 a29:=Tryz.isAgg9
 z29:=Tryz.sizeOf9
 v29:=Tryz.zeroValue9
 t32:=underlying143
 a32:=Tryz.isAgg143
 z32:=Tryz.sizeOf143
 v32:=Tryz.zeroValue143
 t35:=underlying230
 a35:=Tryz.isAgg230
 z35:=Tryz.sizeOf230
 v35:=Tryz.zeroValue230
 t36:=underlying231
 a36:=Tryz.isAgg231
 z36:=Tryz.sizeOf231
 v36:=Tryz.zeroValue231
 t41:=underlying158
 a41:=Tryz.isAgg158
 z41:=Tryz.sizeOf158
 v41:=Tryz.zeroValue158
 t44:=underlying214
 a44:=Tryz.isAgg214
 z44:=Tryz.sizeOf214
 v44:=Tryz.zeroValue214
 t46:=underlying238
 a46:=Tryz.isAgg238
 z46:=Tryz.sizeOf238
 v46:=Tryz.zeroValue238
 t53:=underlying269
 a53:=Tryz.isAgg269
 z53:=Tryz.sizeOf269
 v53:=Tryz.zeroValue269
 t57:=underlying273
 a57:=Tryz.isAgg273
 z57:=Tryz.sizeOf273
 v57:=Tryz.zeroValue273
 t63:=underlying292
 a63:=Tryz.isAgg292
 z63:=Tryz.sizeOf292
 v63:=Tryz.zeroValue292
 t64:=underlying123
 a64:=Tryz.isAgg123
 z64:=Tryz.sizeOf123
 v64:=Tryz.zeroValue123}
end Go.Proofs
namespace Go.Proofs.YtabmamofnhcgbaaGreatDoor.T8
open Go.RowKit Go.Less
def tl(x:ByteArray):List UInt8:=x.data.toList
def ofl(l:List UInt8):ByteArray:=⟨l.toArray⟩
theorem zcD(x:ByteArray):ofl (tl x)=x:=by unfold ofl tl;cases x;simp
theorem zbD(l:List UInt8):tl (ofl l)=l:=by simp[ofl,tl]
def srt(l:List ByteArray):List ByteArray:=((l.map tl).mergeSort λx y=>decide (x<=y)).map ofl
theorem Zo(l:List ByteArray):(srt l).Perm l:=by
 have h:=(List.mergeSort_perm (l.map tl) λx y=>decide (x<=y)).map ofl
 rw[List.map_map]at h
 have e:(ofl∘tl)=(id:ByteArray->ByteArray):=funext zcD
 rw[e,List.map_id]at h
 exact h
theorem zeK(x y:ByteArray):less x y=decide (tl x<tl y):=by
 rw[ju,ByteArray.toList_eq,ByteArray.toList_eq];rfl
theorem Zn(l:List ByteArray):(srt l).Pairwise λx y=>less y x=false:=by
 unfold srt
 rw[List.pairwise_map]
 refine(List.pairwise_mergeSort (le:=λx y=>decide (x<=y)) ?_ ?_ (l.map tl)).imp ?_
 ·intro a b c h1 h2
  simp only[decide_eq_true_eq]at*
  exact List.le_trans h1 h2
 ·intro a b
  simp only[Bool.or_eq_true,decide_eq_true_eq]
  exact List.le_total a b
 ·intro a b h
  rw[zeK,zbD,zbD]
  simp only[decide_eq_true_eq]at h
  exact decide_eq_false (List.not_lt.2 h)
theorem zeg(l:List ByteArray):(srt l).length=l.length:=(Zo l).length_eq
theorem ze2(l:List ByteArray):l.map Value.string=(l.map tl).map encStr:=by
 rw[List.map_map]
 refine List.map_congr_left λx _=> ?_
 show Value.string x=Value.string (ofl (tl x))
 rw[zcD]
theorem ze1(l:List ByteArray):(srt l).map Value.string=((l.map tl).mergeSort λx y=>decide (x<=y)).map encStr:=by
 unfold srt
 rw[List.map_map]
 rfl
def zdY(base:Nat)(a:Option Addr)(cap:Nat)(l:List ByteArray)(W:World)(e:Ending)(W':World):Prop:=e= .returned (.tuple #[])/\W'.ownsRow base 9 1 (.slice a l.length cap) l.length ((srt l).map Value.string)/\W.grownBy W' (Value.slice a l.length cap).ownBlock
theorem Vs{base:Nat}{a:Option Addr}{cap:Nat}{l:List ByteArray}{W:World}(h:W.ownsRow base 9 1 (.slice a l.length cap) l.length (l.map Value.string))(hn:l.length<=1000000):
  Calls prog 88 #[.slice a l.length cap] W (zdY base a cap l W):=by
 have hr:=h
 obtain⟨_,⟨hv,h0⟩|⟨g,cap',cur,hv,hbase,hb,h1,h2,h3,h4⟩⟩:=h
 ·injection hv with e1 e2 e3
  subst e1;subst e3
  have hl:l=[]:=List.length_eq_zero_iff.1 h0
  subst hl
  refine(AnyM.slices_Sort_string_none Tryz.sortS88 none 0 W).mono ?_
  rintro e w' ⟨rfl,rfl⟩
  have e0:srt []=[]:=by simp[srt]
  exact⟨rfl,by rw[e0];exact hr,⟨rfl,rfl,rfl,Nat.le_refl _,λ_ _ _=>rfl⟩⟩
 ·injection hv with e1 e2 e3
  subst e1;subst e3
  rw[ze2,Nat.mul_one]at h4
  have hs:(l.map tl).length=l.length:=List.length_map ..
  have hH:Go.Sort.Holds encStr W g 0 (l.map tl).toArray:=holds_of_block hb (by rw[hs];exact h4)
  have hc:=AnyM.slices_Sort_string Tryz.sortS88 g 0 cap (l.map tl) W hH ((Array.getElem?_eq_some_iff.1 hb).1) (by omega)
  rw[hs]at hc
  refine hc.mono ?_
  rintro e w' ⟨rfl,n,os,rfl⟩
  refine⟨rfl, ?_,grownBy_sorted _⟩
  have:=ownsRow_sorted (w:=W) (n:=n) (os:=os) (ss:=l.map tl) (ts:=(l.map tl).mergeSort λx y=>decide (x<=y)) (by simp) hbase hb (by rw[hs];exact h1) h2 h3
  rw[hs]at this
  rw[ze1]
  exact this
end Go.Proofs.YtabmamofnhcgbaaGreatDoor.T8
namespace Go.Proofs.YtabmamofnhcgbaaGreatDoor
open Go.RowKit Go.Less Go.Maps Go.WideMaps
theorem qM:Keyed prog 9:=string_keyed underlying9
abbrev sk(a:ByteArray):Lit:= .string a.data.toList
theorem Jm{a b:ByteArray}(h:sk a=sk b):a=b:=Go.WideShapes.bytes_inj (by injection h)
theorem zbN(a:ByteArray):WideAt.IsKeyLit (sk a):=trivial
def Smz(w:World)(b n:Nat)(f:ByteArray->Option Value):Prop:=
 ∃D:DataW Value,w.ownsMap prog 9 held b n D/\Maps.size D=n/\ ∀a,(∀z,D.atKey (sk a) (.held z)= .held ((f a).getD z))/\Maps.has D (sk a)=(f a).isSome
theorem Smz.kept{w w':World}{b n:Nat}{f:ByteArray->Option Value}(h:Smz w b n f)(hb:w'.heap[b]?=w.heap[b]?):Smz w' b n f:=by
 obtain⟨D,⟨es,c,h1,h2⟩,h3⟩:=h;exact⟨D,⟨es,c,hb.trans h1,h2⟩,h3⟩
theorem Smz.obj{w:World}{b n:Nat}{f:ByteArray->Option Value}(h:Smz w b n f): ∃es c,w.heap[b]?=some (.map es c):=by
 obtain⟨D,⟨es,c,h1,h2⟩,h3⟩:=h;exact⟨es,c,h1⟩
theorem Smz.lt{w:World}{b n:Nat}{f:ByteArray->Option Value}(h:Smz w b n f):b<w.heap.size:=by
 obtain⟨D,ho,_⟩:=h;exact ho.lt
theorem Smz.below{w w':World}{b n:Nat}{f:ByteArray->Option Value}(h:Smz w b n f)(hb:Below w.heap.size w w'):Smz w' b n f:=h.kept (hb.block _ h.lt)
theorem Smz.made(w:World):Smz (w.alloc (.map #[] 0)) w.heap.size 0 (λ_=>none):=
 ⟨.map [],World.ownsMap_made w _ _ _,rfl,λ_=>⟨λ_=>rfl,rfl⟩⟩
theorem VY{w:World}{b n:Nat}{D:DataW Value}(h:w.ownsMap prog 9 held b n D):w.ownsMap prog 9 held b (Maps.size D) D:=by
 obtain⟨es,c,h1,h2,_,rfl⟩:=h
 exact⟨es,c,h1,h2,by simp[Maps.size,length_sorted],rfl⟩
def Qx(f:ByteArray->Option Value)(a:ByteArray)(v:Option Value):ByteArray->Option Value:=λx=>if x=a then v else f x
theorem Smz.store{w:World}{b n:Nat}{f:ByteArray->Option Value}(h:Smz w b n f){t e:TypeId}(ht:prog.underlying t=some (.map 9 e))(hn:n<maxLen){a:ByteArray}(ha:a.size<=maxLen)(hfa:f a=none)(v:Value):
  ∃w',(Instr.mapUpdate t (.map (some b)) (.string a) v).run prog w= .ok () w'/\Smz w' b (n+1) (Qx f a (some v))/\w.mapTurned w' b:=by
 obtain⟨D,ho,hsz,h2⟩:=h
 have hm:=ho.isMap
 have hti:=ho.tidy qM
 obtain⟨w',hr,h3,h4⟩:=ho.store qM ht hn (keyOf_string_mk underlying9 ha) (val:=v) (d:= .held v) (ps:=[]) rfl
 have hs2:=size_put hti (k:=sk a) (.held v)
 rw[(h2 a).2,hsz,hfa]at hs2
 simp only[Option.isSome_none,Bool.false_eq_true,if_false]at hs2
 refine⟨w',hr,⟨_,h3,hs2,λx=> ?_⟩,h4⟩
 unfold Qx
 by_cases hxa:x=a
 ·subst hxa
  rw[if_pos rfl]
  exact⟨λz=>atKey_put_same hm (zbN _) _ _,has_put_same hm (zbN _) _⟩
 ·rw[if_neg hxa]
  have hne:sk x≠sk a:=λe=>hxa (Jm e)
  exact⟨λz=>(atKey_put_other hne _ _).trans ((h2 x).1 z),(has_put_other hne _).trans (h2 x).2⟩
theorem Smz.drop{w:World}{b n:Nat}{f:ByteArray->Option Value}(h:Smz w b (n+1) f){t e:TypeId}(ht:prog.underlying t=some (.map 9 e)){a:ByteArray}(ha:a.size<=maxLen)(hfa:(f a).isSome=true)(ty:TypeId):
  ∃w',(Builtin.delete_ #[t,9] ty #[.map (some b),.string a]).run prog w= .ok (.tuple #[]) w'/\Smz w' b n (Qx f a none)/\w.mapTurned w' b:=by
 obtain⟨D,ho,hsz,h2⟩:=h
 have hti:=ho.tidy qM
 obtain⟨w',hr,h3,h4⟩:=ho.drop qM ht (keyOf_string_mk underlying9 ha) ty
 have hs2:=size_del hti (k:=sk a)
 rw[(h2 a).2,hsz,hfa]at hs2
 simp only[if_true]at hs2
 have hs3:Maps.size (D.del (sk a))=n:=by omega
 refine⟨w',hr,⟨_,hs3▸VY h3,hs3,λx=> ?_⟩,h4⟩
 unfold Qx
 by_cases hxa:x=a
 ·subst hxa
  rw[if_pos rfl]
  exact⟨λz=>atKey_del_same _,has_del_same⟩
 ·rw[if_neg hxa]
  have hne:sk x≠sk a:=λe=>hxa (Jm e)
  exact⟨λz=>(atKey_del_other hne _).trans ((h2 x).1 z),(has_del_other hne).trans (h2 x).2⟩
theorem Smz.len{w:World}{b n:Nat}{f:ByteArray->Option Value}(h:Smz w b n f){t e:TypeId}(ht:prog.underlying t=some (.map 9 e))(ty:TypeId):(Builtin.len_ #[t] ty #[.map (some b)]).run prog w= .ok (.int .i64 (n:Int)) w:=by
 obtain⟨D,ho,hsz,_⟩:=h
 have:=ho.len ht ty
 rw[hsz]at this
 exact this
theorem Smz.look{w:World}{b n:Nat}{f:ByteArray->Option Value}(h:Smz w b n f){t e:TypeId}(ht:prog.underlying t=some (.map 9 e)){z:Value}(hz:(zeroValue e).run prog w= .ok z w){a:ByteArray}(ha:a.size<=maxLen):
  (Instr.lookup t (.map (some b)) (.string a) false).run prog w= .ok ((f a).getD z) w:=by
 obtain⟨D,ho,_,h2⟩:=h
 obtain⟨v,ps,hr,hv⟩:=ho.lookup qM ht hz (zd:= .held z) (zp:=[]) rfl (keyOf_string_mk underlying9 ha)
 rw[(h2 a).1 z]at hv
 rw[hr]
 unfold held at hv
 injection hv with hv
 injection hv with hv _
 injection hv with hv
 rw[hv]
theorem Smz.look_ok{w:World}{b n:Nat}{f:ByteArray->Option Value}(h:Smz w b n f){t e:TypeId}(ht:prog.underlying t=some (.map 9 e)){z:Value}(hz:(zeroValue e).run prog w= .ok z w){a:ByteArray}(ha:a.size<=maxLen):
  (Instr.lookup t (.map (some b)) (.string a) true).run prog w= .ok (.tuple #[(f a).getD z,.bool (f a).isSome]) w:=by
 obtain⟨D,ho,_,h2⟩:=h
 obtain⟨v,ps,hr,hv⟩:=ho.look_ok qM ht hz (zd:= .held z) (zp:=[]) rfl (keyOf_string_mk underlying9 ha)
 rw[(h2 a).1 z]at hv
 rw[hr,(h2 a).2]
 unfold held at hv
 injection hv with hv
 injection hv with hv _
 injection hv with hv
 rw[hv]
theorem J5(b:Nat)(es:Array MapEntry)(clock:Nat)(w:World)(hb:w.heap[b]?=some (.map es clock)):
  Calls prog 87 #[.map (some b)] w λe w'=>e= .returned (.map (some w.heap.size))/\w'=w.alloc (.map es clock):=by
 have hq:=λw=>run_eql_map_nil_sl (P:=prog) w 152 _ _ (some b) underlying152
 go_enter func87,ntmps87
 go_wp2_with fail
 rw[run_callFunc_extern func128 (by kernel_rfl) (by kernel_rfl) (by kernel_rfl) (e:=Extern.MapsClone.clone) (by kernel_rfl),run_maps_clone_sl w 152 hb]
 simp only[Result.andThen]
 rw[Oper.upon_value]
 go_wp2_with fail
 rw[run_typeAssert_map_sl _ 152 20 _ _ _ underlying152]
 simp only[Result.andThen]
 rw[Oper.upon_value]
 go_wp2_with fail
 go_ret
 exact⟨rfl,rfl⟩
theorem J4{b n:Nat}{f:ByteArray->Option Value}{w:World}(h:Smz w b n f):
  Calls prog 87 #[.map (some b)] w λe w'=>e= .returned (.map (some w.heap.size))/\Smz w' w.heap.size n f/\Below w.heap.size w w'/\w'.heap.size=w.heap.size+1:=by
 obtain⟨D,⟨es,clock,hb,F,hs,hD⟩,h2⟩:=h
 refine(J5 b es clock w hb).mono λe w' ⟨he,hw⟩=> ?_
 subst hw
 exact⟨he,⟨D,⟨es,clock,(MapKept.heap_alloc w _).1,F,hs,hD⟩,h2⟩,(Below.refl _ w).alloc (Nat.le_refl _) _,by simp⟩
end Go.Proofs.YtabmamofnhcgbaaGreatDoor
namespace Go.Shots
open Go.Less
variable {α : Type}
def get(L:List (ByteArray×α))(a:ByteArray):Option α:=(L.find? λp=>decide (p.1=a)).map (·.2)
def put:List (ByteArray×α)->ByteArray->α->List (ByteArray×α)
 |[],a,f=>[(a,f)]
 |y::L,a,f=>if less a y.1=true then(a,f)::y::L else y::put L a f
def del(L:List (ByteArray×α))(a:ByteArray):List (ByteArray×α):=L.filter λp=> !decide (p.1=a)
def Up(L:List (ByteArray×α)):Prop:=L.Pairwise λx y=>less x.1 y.1=true
theorem get_cons(y:ByteArray×α)(L:List (ByteArray×α))(a:ByteArray):get (y::L) a=if y.1=a then some y.2 else get L a:=by
 unfold get
 rw[List.find?_cons]
 by_cases h:y.1=a
 ·rw[decide_eq_true h,if_pos h];rfl
 ·rw[decide_eq_false h,if_neg h]
theorem get_put{L:List (ByteArray×α)}{a:ByteArray}(f:α)(h:get L a=none)(x:ByteArray):get (put L a f) x=if x=a then some f else get L x:=by
 induction L with
 |nil=>
  show get [(a,f)] x=_
  rw[get_cons]
  by_cases e:a=x
  ·rw[if_pos e,if_pos e.symm]
  ·rw[if_neg e,if_neg (Ne.symm e)]
 | cons y L ih=>
  rw[get_cons]at h
  have hy:y.1≠a:=λe=>by rw[if_pos e]at h;cases h
  rw[if_neg hy]at h
  unfold put
  split
  ·rw[get_cons]
   by_cases e:a=x
   ·rw[if_pos e,if_pos e.symm]
   ·rw[if_neg e,if_neg (Ne.symm e)]
  ·rw[get_cons,get_cons,ih h]
   by_cases e:y.1=x
   ·rw[if_pos e,if_pos e,if_neg (λe2=>hy (e.trans e2))]
   ·rw[if_neg e,if_neg e]
theorem len_put(L:List (ByteArray×α))(a:ByteArray)(f:α):(put L a f).length=L.length+1:=by
 induction L with
 |nil=>rfl
 |cons y L ih=>
  unfold put
  split
  ·rfl
  ·rw[List.length_cons,ih];rfl
theorem mem_put{L:List (ByteArray×α)}{a:ByteArray}{f:α}{z:ByteArray×α}(h:z∈put L a f):z=(a,f)\/z∈L:=by
 induction L with
 |nil=>exact .inl (List.mem_singleton.1 h)
 | cons y L ih=>
  unfold put at h
  split at h
  ·exact List.mem_cons.1 h
  ·rcases List.mem_cons.1 h with h|h
   ·exact .inr (h▸List.mem_cons_self)
   ·rcases ih h with h|h
    ·exact .inl h
    ·exact .inr (List.mem_cons_of_mem _ h)
theorem get_none_iff{L:List (ByteArray×α)}{a:ByteArray}:get L a=none↔ ∀y∈L,y.1≠a:=by
 unfold get
 rw[Option.map_eq_none_iff,List.find?_eq_none]
 exact⟨λh y hy e=>h y hy (decide_eq_true e),λh y hy e=>h y hy (of_decide_eq_true e)⟩
theorem get_mem{L:List (ByteArray×α)}{a:ByteArray}{f:α}(h:get L a=some f):(a,f)∈L:=by
 unfold get at h
 obtain⟨p,hp,rfl⟩:=Option.map_eq_some_iff.1 h
 have h1:=List.find?_some hp
 have h2:=List.mem_of_find?_eq_some hp
 obtain⟨x,y⟩:=p
 obtain rfl:x=a:=of_decide_eq_true h1
 exact h2
theorem up_put{L:List (ByteArray×α)}{a:ByteArray}(f:α)(hU:Up L)(h:get L a=none):Up (put L a f):=by
 induction L with
 |nil=>exact List.pairwise_singleton _ _
 | cons y L ih=>
  obtain⟨h1,h2⟩:=List.pairwise_cons.1 hU
  have hy:y.1≠a:=(get_none_iff.1 h) y List.mem_cons_self
  have hn:get L a=none:=get_none_iff.2 λz hz=>(get_none_iff.1 h) z (List.mem_cons_of_mem _ hz)
  unfold put
  split
  ·rename_i hl
   refine List.pairwise_cons.2 ⟨λz hz=> ?_,hU⟩
   rcases List.mem_cons.1 hz with rfl|hz
   ·exact hl
   ·exact rising.tra _ _ _ hl (h1 z hz)
  ·rename_i hl
   refine List.pairwise_cons.2 ⟨λz hz=> ?_,ih h2 hn⟩
   rcases mem_put hz with rfl|hz
   ·cases hq:less y.1 a with
    |true=>rfl
    |false=>exact absurd (rising.tot _ _ hq (by simpa using hl)) hy
   ·exact h1 z hz
theorem up_del{L:List (ByteArray×α)}(a:ByteArray)(hU:Up L):Up (del L a):=List.Pairwise.filter _ hU
theorem get_del(L:List (ByteArray×α))(a x:ByteArray):get (del L a) x=if x=a then none else get L x:=by
 induction L with
 |nil=>split<;>rfl
 | cons y L ih=>
  unfold del at ih|-
  by_cases e:y.1=a
  ·rw[List.filter_cons_of_neg (by simp[e]),ih,get_cons]
   by_cases e2:x=a
   ·rw[if_pos e2,if_pos e2]
   ·rw[if_neg e2,if_neg e2,if_neg (λe3=>e2 (e3.symm.trans e))]
  ·rw[List.filter_cons_of_pos (by simp[e]),get_cons,ih,get_cons]
   by_cases e2:x=a
   ·rw[if_pos e2,if_neg (λe3=>e (e3.trans e2)),if_pos e2]
   ·rw[if_neg e2,if_neg e2]
theorem len_del{L:List (ByteArray×α)}{a:ByteArray}(hU:Up L)(h:(get L a).isSome=true):(del L a).length+1=L.length:=by
 induction L with
 |nil=>cases h
 | cons y L ih=>
  obtain⟨h1,h2⟩:=List.pairwise_cons.1 hU
  unfold del at ih|-
  by_cases e:y.1=a
  ·rw[List.filter_cons_of_neg (by simp[e]),List.filter_eq_self.2,List.length_cons]
   intro z hz
   have:=h1 z hz
   simp only[Bool.not_eq_true',decide_eq_false_iff_not]
   intro e2
   rw[e,e2,rising.irr]at this
   cases this
  ·rw[List.filter_cons_of_pos (by simp[e]),List.length_cons,List.length_cons,ih h2]
   rw[get_cons,if_neg e]at h
   exact h
theorem mem_get{L:List (ByteArray×α)}(hU:Up L){y:ByteArray×α}(h:y∈L):get L y.1=some y.2:=by
 induction L with
 |nil=>cases h
 | cons z L ih=>
  obtain⟨h1,h2⟩:=List.pairwise_cons.1 hU
  rw[get_cons]
  rcases List.mem_cons.1 h with rfl|h
  ·rw[if_pos rfl]
  ·have:=h1 y h
   rw[if_neg (λe=>by rw[e,rising.irr]at this;cases this),ih h2 h]
theorem get_isSome{L:List (ByteArray×α)}{a:ByteArray}:(get L a).isSome=true↔a∈L.map (·.1):=by
 constructor
 ·intro h
  obtain⟨f,hf⟩:=Option.isSome_iff_exists.1 h
  exact List.mem_map.2 ⟨_,get_mem hf,rfl⟩
 ·intro h
  obtain⟨y,hy,e⟩:=List.mem_map.1 h
  cases hg:get L a with
  |some f=>rfl
  |none=>exact absurd e (get_none_iff.1 hg y hy)
end Go.Shots
namespace Go.Proofs.YtabmamofnhcgbaaGreatDoor
open Go.RowKit Go.Less Go.Maps
open T8 (pv Dg)
theorem Turn.objM{mb:Nat}{w w':World}(ht:Turn mb w w')(hm: ∃es c,w.heap[mb]?=some (.map es c)){b:Nat}{cs:Array Value}{t:TypeId}{fr:Nat×Nat}(h:w.heap[b]?=some (.cells cs t fr)):w'.heap[b]?=some (.cells cs t fr):=by
 obtain⟨es,c,hm⟩:=hm
 exact ht.obj h (by rintro rfl;rw[hm]at h;cases h)
theorem Turn.treesM{mb:Nat}{w w':World}(ht:Turn mb w w')(hm: ∃es c,w.heap[mb]?=some (.map es c)): ∀{t:T8.Tt} {q:Option Nat},T8.Tree w q t->T8.Tree w' q t
 | .leaf,_,hq=>hq
 | .node _ _ _ _,_,⟨b,pl,pr,e,hc,hk,hv,hl,hr⟩=>⟨b,pl,pr,e,ht.objM hm hc,hk,hv,ht.treesM hm hl,ht.treesM hm hr⟩
theorem Turn.mapsM{mb:Nat}{w w':World}(ht:Turn mb w w')(hm: ∃es c,w.heap[mb]?=some (.map es c)){m:Option Nat}{t:T8.Tt}(h:T8.IsMap w m t):T8.IsMap w' m t:=by
 cases m with
 |none=>exact h
 |some b=>obtain⟨q,h1,h2⟩:=h;exact⟨q,ht.objM hm h1,ht.treesM hm h2⟩
theorem Turn.cellM{mb:Nat}{w w':World}(ht:Turn mb w w')(hm: ∃es c,w.heap[mb]?=some (.map es c)){k o:Nat}{v:Value}(h:w.cell? ⟨k,o,none⟩=some v):w'.cell? ⟨k,o,none⟩=some v:=by
 refine yn ht h ?_
 rintro rfl
 obtain⟨es,c,hm⟩:=hm
 unfold World.cell? at h
 rw[hm]at h
 cases h
theorem Turn.dgM{mb:Nat}{w w':World}(ht:Turn mb w w')(hm: ∃es c,w.heap[mb]?=some (.map es c))(h:Dg w):Dg w':=
 ⟨λj hj=>ht.cellM hm (h.k j hj),λj hj=>ht.cellM hm (h.i j hj)⟩
theorem Fo.turnM{mb:Nat}{w w':World}(ht:Turn mb w w')(hm: ∃es c,w.heap[mb]?=some (.map es c)){q:Nat}{f:Fs.FS}(h:Fo w q f):Fo w' q f:=by
 obtain⟨m,h1,h2⟩:=h
 exact⟨m,ht.objM hm h1,⟨⟨h2.rp.sorted,ht.mapsM hm h2.rp.map⟩,h2.ok,ht.dgM hm h2.dg⟩⟩
abbrev Shots:=List (ByteArray×Fs.FS)
structure Snp (w:World) (g mb lo:Nat) (L:Shots):Prop where
 box:w.heap[g]?=some (.cells #[.map (some mb)] 154 (0,0))
 map: ∃fn,Smz w mb L.length fn/\ ∀a,match Go.Shots.get L a with
  |none=>fn a=none
  |some F=> ∃q,fn a=some (ptg q)/\Fo w q F/\lo<=q
 up:Go.Shots.Up L
 right: ∀y∈L,Nm.right y.1.data.toList=true
 few:L.length<=16
theorem Snp.mp{w:World}{g mb lo:Nat}{L:Shots}(h:Snp w g mb lo L): ∃es c,w.heap[mb]?=some (.map es c):=by
 obtain⟨fn,h1,_⟩:=h.map;exact h1.obj
theorem Snp.keptAll{w w':World}{g mb lo:Nat}{L:Shots}(h:Snp w g mb lo L)(h1:w'.heap[g]?=w.heap[g]?)(h2:w'.heap[mb]?=w.heap[mb]?)(h3: ∀q F,Fo w q F->lo<=q->Fo w' q F):Snp w' g mb lo L:=by
 obtain⟨fn,hM,hf⟩:=h.map
 refine⟨h1.trans h.box,⟨fn,hM.kept h2,λa=> ?_⟩,h.up,h.right,h.few⟩
 have h4:=hf a
 cases hg:Go.Shots.get L a with
 |none=>rw[hg]at h4;exact h4
 |some F=>rw[hg]at h4;obtain⟨q,e,hF,hq⟩:=h4;exact⟨q,e,h3 q F hF hq,hq⟩
theorem Snp.ltg{w:World}{g mb lo:Nat}{L:Shots}(h:Snp w g mb lo L):g<w.heap.size:=lt_of_obj h.box
theorem Snp.ltm{w:World}{g mb lo:Nat}{L:Shots}(h:Snp w g mb lo L):mb<w.heap.size:=by obtain⟨es,c,hm⟩:=h.mp;exact lt_of_obj hm
theorem Snp.below{w w':World}{g mb lo:Nat}{L:Shots}(h:Snp w g mb lo L)(hb:Below w.heap.size w w'):Snp w' g mb lo L:=
 h.keptAll (hb.block _ h.ltg) (hb.block _ h.ltm) λ_ _ hF _=>hF.below hb
theorem Snp.turn{w w':World}{g mb lo p:Nat}{L:Shots}(h:Snp w g mb lo L)(ht:Turn p w w'){f:Fs.FS}(hF:Fo w p f)(hp:p<lo):Snp w' g mb lo L:=by
 obtain⟨m,hg,hS⟩:=hF
 obtain⟨es,c,hm⟩:=h.mp
 refine h.keptAll (ht.block _ h.ltg ?_) (ht.block _ h.ltm ?_) λq F hq hl=>Fo.turn ht ⟨m,hg,hS⟩ hq (by omega)
 ·rintro rfl;rw[h.box]at hg;injection hg with hg;injection hg with _ hg _;exact absurd hg (by decide)
 ·rintro rfl;rw[hm]at hg;cases hg
theorem Snp.turnM{w w':World}{g mb lo mb2:Nat}{L:Shots}(h:Snp w g mb lo L)(ht:Turn mb2 w w')(hm: ∃es c,w.heap[mb2]?=some (.map es c))(hne:mb≠mb2):Snp w' g mb lo L:=
 h.keptAll ((ht.objM hm h.box).trans h.box.symm) (ht.block _ h.ltm hne) λ_ _ hF _=>hF.turnM ht hm
theorem Snp.box1{w:World}{g mb lo:Nat}{L:Shots}(h:Snp w g mb lo L):w.cell? ⟨g,0,none⟩=some (.map (some mb)):=cell_obj h.box 0
theorem UW(w:World):(zeroValue 25).run prog w= .ok (.pointer none) w:=by kernel_rfl
theorem kg{mb:Nat}{w w':World}(ht:w.mapTurned w' mb):Turn mb w w':=by
 have hg:=ht.grown
 exact⟨hg.os,hg.tape,hg.output,hg.size,λk hk hn=>hg.block k hk (λe=>hn (by injection e))⟩
end Go.Proofs.YtabmamofnhcgbaaGreatDoor
namespace Go.Proofs.YtabmamofnhcgbaaGreatDoor
open Go.RowKit Go.Less Go.Maps
open T8 (pv Dg)
attribute [local go_sem 9000] zg zf
theorem J9(s:ByteArray)(w:World)(hs:s.size<=140737488355328):Calls prog 84 #[.string s] w λe w'=>e= .returned (.bool (Nm.right s.data.toList))/\Below w.heap.size w w':=by
 have H:=hid (ud s w hs)
 go_enter func84,ntmps84
 go_wp2_with fail
 refine H.out.mono ?_
 rintro e w1 ⟨rfl,hb⟩
 have HB:=hid hb
 clear hb
 dsimp only
 go_wp2_with fail
 go_ret
 exact⟨rfl,HB.out⟩
theorem Zu{w:World}{g mb lo:Nat}{L:Shots}(h:Snp w g mb lo L)(a:ByteArray)(ha:a.size<=140737488355328):Calls prog 85 #[ptg g,.string a] w λe w'=>e= .returned (.bool (Go.Shots.get L a).isSome)/\w'=w:=by
 obtain⟨fn,hM,hf⟩:=h.map
 have hl:=hM.look_ok underlying152 (UW w) (a:=a) (by unfold maxLen;omega)
 have hs:(fn a).isSome=(Go.Shots.get L a).isSome:=by
  have h3:=hf a
  cases hg:Go.Shots.get L a with
  |none=>rw[hg]at h3;simp only at h3;rw[h3];rfl
  |some F=>rw[hg]at h3;obtain⟨q,e,_⟩:=h3;rw[e];rfl
 rw[hs]at hl
 have c0:=h.box1
 clear hM hf h
 generalize (Go.Shots.get L a).isSome=t at hl|-
 generalize (fn a).getD (.pointer none)=v at hl
 go_enter func85,ntmps85
 go_wp2_with fail
 go_ret
 exact⟨rfl,rfl⟩
theorem Vx(w:World):Calls prog 34 #[] w λe w'=> ∃g mb,e= .returned (ptg g)/\(∀lo,Snp w' g mb lo [])/\w.heap.size<=mb/\w.heap.size<=g/\Below w.heap.size w w':=by
 have hmm:= @run_makeMap prog
 go_enter func34,ntmps34
 go_wp2_with fail
 go_ret
 have hb:=(below_one w (.map #[] 0)).trans ((below_one (w.alloc (.map #[] 0)) (.cells #[.map (some w.heap.size)] 154)).mono (below_one w (.map #[] 0)).size)
 refine⟨_,w.heap.size,rfl,λlo=>⟨by have:=heap_alloc_new (w.alloc (.map #[] 0)) (.cells #[.map (some w.heap.size)] 154);simpa using this,⟨_,(Smz.made w).below (below_one _ _),λ_=>rfl⟩,List.Pairwise.nil,λ_ h=>absurd h List.not_mem_nil,Nat.zero_le _⟩,Nat.le_refl _, ?_,hb⟩
 simp
def jE(L:Shots)(a:ByteArray):Int:=if Nm.right a.data.toList=false then 14 else if(Go.Shots.get L a).isSome=true then 5 else if 16<=L.length then 3 else 0
def zbp(L:Shots)(a:ByteArray)(F:Fs.FS)(g mb lo:Nat)(w:World)(e:Ending)(w':World):Prop:=
 e= .returned (.int .i64 (jE L a))/\Snp w' g mb lo (if jE L a=0 then Go.Shots.put L a F else L)/\Turn mb w w'
theorem Xz{L:Shots}{a:ByteArray}{F:Fs.FS}{g mb lo:Nat}{w w':World}{c:Int}(h:Snp w g mb lo L)(hb:Below w.heap.size w w')(hc:jE L a=c)(h0:c≠0):zbp L a F g mb lo w (.returned (.int .i64 c)) w':=by
 unfold zbp
 rw[hc,if_neg h0]
 exact⟨rfl,h.below hb,Turn.of_below hb⟩
theorem Snp.store{w:World}{g mb lo:Nat}{L:Shots}(h:Snp w g mb lo L){a:ByteArray}(ha:Nm.right a.data.toList=true)(hn:Go.Shots.get L a=none)(hl:L.length<16){q:Nat}{F:Fs.FS}(hF:Fo w q F)(hq:lo<=q):
  ∃w',(Instr.mapUpdate 152 (.map (some mb)) (.string a) (ptg q)).run prog w= .ok () w'/\Snp w' g mb lo (Go.Shots.put L a F)/\w.mapTurned w' mb:=by
 obtain⟨fn,hM,hf⟩:=h.map
 have hsz:a.size<=16:=by have:=u7 ha;rwa [Array.length_toList]at this
 have hfa:fn a=none:=by have h3:=hf a;rw[hn]at h3;exact h3
 obtain⟨w',hr,hM',ht⟩:=hM.store underlying152 (by unfold maxLen;omega) (a:=a) (by unfold maxLen;omega) hfa (ptg q)
 have hT:=kg ht
 refine⟨w',hr,⟨(hT.objM h.mp h.box),⟨_,by rw[Go.Shots.len_put];exact hM',λx=> ?_⟩,Go.Shots.up_put F h.up hn,λy hy=> ?_,by rw[Go.Shots.len_put];omega⟩,ht⟩
 ·rw[Go.Shots.get_put F hn]
  unfold Qx
  by_cases e:x=a
  ·rw[if_pos e,if_pos e];exact⟨q,rfl,hF.turnM hT h.mp,hq⟩
  ·rw[if_neg e,if_neg e]
   have h3:=hf x
   cases hg:Go.Shots.get L x with
   |none=>rw[hg]at h3;exact h3
   |some G=>rw[hg]at h3;obtain⟨r,e1,hG,hr⟩:=h3;exact⟨r,e1,hG.turnM hT h.mp,hr⟩
 ·rcases Go.Shots.mem_put hy with rfl|hy
  ·exact ha
  ·exact h.right y hy
theorem Snp.drop{w:World}{g mb lo:Nat}{L:Shots}(h:Snp w g mb lo L){a:ByteArray}(ha:a.size<=140737488355328)(hs:(Go.Shots.get L a).isSome=true)(ty:TypeId):
  ∃w',(Builtin.delete_ #[152,9] ty #[.map (some mb),.string a]).run prog w= .ok (.tuple #[]) w'/\Snp w' g mb lo (Go.Shots.del L a)/\w.mapTurned w' mb:=by
 obtain⟨fn,hM,hf⟩:=h.map
 have hfa:(fn a).isSome=true:=by
  have h3:=hf a
  obtain⟨F,hF⟩:=Option.isSome_iff_exists.1 hs
  rw[hF]at h3;obtain⟨r,e1,_⟩:=h3;rw[e1];rfl
 have hl:=Go.Shots.len_del h.up hs
 rw[<-hl]at hM
 obtain⟨w',hr,hM',ht⟩:=hM.drop underlying152 (a:=a) (by unfold maxLen;omega) hfa ty
 have hT:=kg ht
 refine⟨w',hr,⟨(hT.objM h.mp h.box),⟨_,hM',λx=> ?_⟩,Go.Shots.up_del a h.up,λy hy=>h.right y (List.mem_filter.1 hy).1,by have:=h.few;omega⟩,ht⟩
 rw[Go.Shots.get_del]
 unfold Qx
 by_cases e:x=a
 ·rw[if_pos e,if_pos e]
 ·rw[if_neg e,if_neg e]
  have h3:=hf x
  cases hg:Go.Shots.get L x with
  |none=>rw[hg]at h3;exact h3
  |some G=>rw[hg]at h3;obtain⟨r,e1,hG,hr⟩:=h3;exact⟨r,e1,hG.turnM hT h.mp,hr⟩
theorem YQ{w:World}{g mb lo:Nat}{L:Shots}(h:Snp w g mb lo L)(a:ByteArray)(ha:a.size<=140737488355328){q:Nat}{F:Fs.FS}(hF:Fo w q F)(hlo:lo<=w.heap.size):Calls prog 36 #[ptg g,.string a,ptg q] w (zbp L a F g mb lo w):=by
 have HN:=hid (J9 a w ha)
 have HH:=hid (λW (hb:Below w.heap.size w W)=>Zu (h.below hb) a ha)
 have HS:=hid h
 have HFo:=hid hF
 have HLo:=hid hlo
 have HR:=hid (show jE L a=if Nm.right a.data.toList=false then 14 else if(Go.Shots.get L a).isSome=true then 5 else if 16<=L.length then 3 else 0 from rfl)
 clear hF hlo
 cases hr:Nm.right a.data.toList with
 |false=>
  rw[hr]at HN
  have HR:=hid (HR.out.trans (if_pos hr))
  clear hr h
  go_enter func36,ntmps36
  go_wp2_with fail
  refine HN.out.mono ?_
  rintro e w1 ⟨rfl,hb⟩
  have HB:=hid hb
  clear hb
  dsimp only
  go_wp2_with fail
  go_ret
  exact Xz HS.out HB.out HR.out (by decide)
 | true=>
  rw[hr]at HN
  have HR:=hid (HR.out.trans (if_neg (by rw[hr];decide)))
  have HRt:=hid hr
  clear hr
  cases hs:(Go.Shots.get L a).isSome with
  |true=>
   rw[hs]at HH
   have HR:=hid (HR.out.trans (if_pos hs))
   clear hs h
   go_enter func36,ntmps36
   go_wp2_with fail
   refine HN.out.mono ?_
   rintro e w1 ⟨rfl,hb⟩
   have HB:=hid hb
   clear hb
   dsimp only
   go_wp2_with fail
   refine(HH.out w1 HB.out).mono ?_
   rintro e w2 ⟨rfl,rfl⟩
   dsimp only
   go_wp2_with fail
   go_ret
   exact Xz HS.out HB.out HR.out (by decide)
  | false=>
   rw[hs]at HH
   have HR:=hid (HR.out.trans (if_neg (by rw[hs];decide)))
   have HNo:=hid (show Go.Shots.get L a=none by simpa using hs)
   clear hs
   have hml:(L.length:Int)<=16:=by have:=h.few;omega
   have HLen:=hid (λW (hb:Below w.heap.size w W)=>show(Builtin.len_ #[152] 3 #[.map (some mb)]).run prog W= .ok (.int .i64 (L.length:Int)) W by obtain⟨fn,hM,_⟩:=(h.below hb).map;exact hM.len underlying152 3)
   clear h
   go_enter func36,ntmps36
   go_wp2_with fail
   refine HN.out.mono ?_
   rintro e w1 ⟨rfl,hb⟩
   have HB:=hid hb
   clear hb
   dsimp only
   go_wp2_with fail
   refine(HH.out w1 HB.out).mono ?_
   rintro e w2 ⟨rfl,rfl⟩
   have c0:=(HS.out.below HB.out).box1
   have hlen:=HLen.out _ HB.out
   dsimp only
   by_cases hm:(16:Int)<=(L.length:Int)
   ·have HR:=hid (HR.out.trans (if_pos (by omega)))
    go_wp2_with fail
    go_ret
    exact Xz HS.out HB.out HR.out (by decide)
   ·have HR:=hid (HR.out.trans (if_neg (by omega)))
    have HL:=hid (show L.length<16 by omega)
    go_wp2_with fail
    have HS2:=hid (HS.out.below HB.out)
    have HF2:=hid (HFo.out.below HB.out)
    have HLo2:=hid (Nat.le_trans HLo.out HB.out.size)
    have HB2:=hid (Turn.of_below (g:=mb) HB.out)
    clear HB HS HFo HLo HLen HH HN hlen hm
    have HCl:=hid (λW=>T8.clone_any a W (by omega))
    have HCp:=hid (λW (hb:Below w2.heap.size w2 W)=>qi (HF2.out.below hb))
    unfold zd4 at HCp
    have hltg:=HS2.out.ltg
    go_region_held3 (λw'=>w'.cell? ⟨g,0,none⟩=some (.map (some mb)))
     (first|exact c0|exact(hw4.cell hltg).trans c0|exact(hw5.cell (Nat.lt_of_lt_of_le hltg hw4.size)).trans ((hw4.cell hltg).trans c0)|exact hS6.box1)
     (first
      |(go_at_call 71;refine(HCl.out _).mono ?_;rintro e w4 ⟨rfl,hw40⟩;have hw4:=(Below.refl w2.heap.size w2).drew.trans hw40)
      |(go_at_call 86;refine(HCp.out _ hw4).mono ?_;rintro e w5 ⟨q2,rfl,hF5,hq5,hw5⟩;obtain⟨w6,hr6,hS6,hT6⟩:=((HS2.out.below hw4).below hw5).store HRt.out HNo.out HL.out hF5 (Nat.le_trans HLo2.out (Nat.le_trans hw4.size hq5))))
    go_wp2_with fail
    go_ret
    unfold zbp
    rw[HR.out,if_pos rfl]
    exact⟨rfl,hS6,HB2.out.trans (((Turn.of_below hw4).trans (Turn.of_below hw5)).trans (kg hT6))⟩
def KN(L:Shots)(a:ByteArray)(w:World)(e:Ending)(w':World):Prop:=match Go.Shots.get L a with
 |none=>e= .returned (.tuple #[.pointer none,.int .i64 4])/\Below w.heap.size w w'
 |some F=> ∃q,e= .returned (.tuple #[ptg q,.int .i64 0])/\Fo w' q F/\w.heap.size<=q/\Below w.heap.size w w'
theorem zbW{w:World}{g mb lo:Nat}{L:Shots}(h:Snp w g mb lo L)(a:ByteArray)(ha:a.size<=140737488355328):Calls prog 38 #[ptg g,.string a] w (KN L a w):=by
 have HH:=hid (Zu h a ha)
 unfold KN
 cases hg:Go.Shots.get L a with
 |none=>
  rw[hg]at HH
  clear h
  go_enter func38,ntmps38
  go_wp2_with fail
  refine HH.out.mono ?_
  rintro e w2 ⟨rfl,rfl⟩
  dsimp only[Option.isSome]
  go_wp2_with fail
  go_ret2
  exact⟨rfl,Below.refl _ _⟩
 |some F=>
  rw[hg]at HH
  obtain⟨fn,hM,hf⟩:=h.map
  have h3:=hf a
  rw[hg]at h3
  obtain⟨q,e,hF,_⟩:=h3
  have hl:=hM.look underlying152 (UW w) (a:=a) (by unfold maxLen;omega)
  rw[e]at hl
  have hl:(Instr.lookup 152 (.map (some mb)) (.string a) false).run prog w= .ok (ptg q) w:=hl
  have c0:=h.box1
  have HC:=hid (qi hF)
  clear hM hf h e hF
  go_enter func38,ntmps38
  go_wp2_with fail
  refine HH.out.mono ?_
  rintro e w2 ⟨rfl,rfl⟩
  dsimp only[Option.isSome]
  go_wp2_with fail
  refine HC.out.mono ?_
  rintro e w3 ⟨q2,rfl,hF,hq,hb⟩
  have HX:=hid (And.intro hF (And.intro hq hb))
  clear hF hq hb c0 hl
  dsimp only
  go_wp2_with fail
  go_ret2
  exact⟨q2,rfl,HX.out.1,HX.out.2.1,HX.out.2.2⟩
def Zh(L:Shots)(a:ByteArray)(g mb lo:Nat)(w:World)(e:Ending)(w':World):Prop:=
 e= .returned (.int .i64 (if(Go.Shots.get L a).isSome=true then 0 else 4))/\Snp w' g mb lo (if(Go.Shots.get L a).isSome=true then Go.Shots.del L a else L)/\Turn mb w w'
theorem YS{w:World}{g mb lo:Nat}{L:Shots}(h:Snp w g mb lo L)(a:ByteArray)(ha:a.size<=140737488355328):Calls prog 37 #[ptg g,.string a] w (Zh L a g mb lo w):=by
 have HH:=hid (Zu h a ha)
 unfold Zh
 cases hg:(Go.Shots.get L a).isSome with
 |false=>
  rw[hg]at HH
  have HS:=hid h
  clear h hg
  go_enter func37,ntmps37
  go_wp2_with fail
  refine HH.out.mono ?_
  rintro e w2 ⟨rfl,rfl⟩
  dsimp only
  go_wp2_with fail
  go_ret
  exact⟨rfl,HS.out,Turn.refl _ _⟩
 |true=>
  rw[hg]at HH
  obtain⟨w3,hr,hS,ht⟩:=h.drop ha hg 0
  have c0:=h.box1
  have HX:=hid (And.intro hS (kg ht))
  clear h hg hS ht
  go_enter func37,ntmps37
  go_wp2_with fail
  refine HH.out.mono ?_
  rintro e w2 ⟨rfl,rfl⟩
  dsimp only
  go_wp2_with fail
  go_ret
  exact⟨rfl,HX.out.1,HX.out.2⟩
def zd5(L:Shots)(lo:Nat)(w:World)(e:Ending)(w':World):Prop:= ∃g mb,e= .returned (ptg g)/\Snp w' g mb lo L/\w.heap.size<=mb/\w.heap.size<=g/\Below w.heap.size w w'
theorem QX{w:World}{g mb lo:Nat}{L:Shots}(h:Snp w g mb lo L):Calls prog 39 #[ptg g] w (zd5 L lo w):=by
 have hh:=h
 obtain⟨fn,hM,hf⟩:=h.map
 have HC:=hid (J4 hM)
 have HS:=hid hh
 have HF:=hid hf
 have c0:=h.box1
 clear h hh hM hf
 go_enter func39,ntmps39
 go_wp2_with fail
 refine HC.out.mono ?_
 rintro e w1 ⟨rfl,hM,hb,hs⟩
 have HX:=hid (And.intro hM hb)
 clear hM hb hs c0
 dsimp only
 go_wp2_with fail
 go_ret
 have hb2:=HX.out.2.trans ((below_one w1 (.cells #[.map (some w.heap.size)] 154)).mono HX.out.2.size)
 refine⟨_,w.heap.size,rfl,⟨heap_alloc_new _ _,⟨fn,HX.out.1.below (below_one _ _),λa=> ?_⟩,HS.out.up,HS.out.right,HS.out.few⟩,Nat.le_refl _,HX.out.2.size,hb2⟩
 have h3:=HF.out a
 cases hg:Go.Shots.get L a with
 |none=>rw[hg]at h3;exact h3
 |some F=>rw[hg]at h3;obtain⟨q,e,hF,hq⟩:=h3;exact⟨q,e,hF.below hb2,hq⟩
end Go.Proofs.YtabmamofnhcgbaaGreatDoor
namespace Go.Proofs.YtabmamofnhcgbaaGreatDoor
open Go.RowKit Go.Less Go.Maps Go.WideMaps
open T8 (pv Dg srt Zo Zn zeg Vs zdY j1)
attribute [local go_sem 9000] zg zf
theorem zaw{key:Value}{kl:Lit}(h:keyOf prog 9 key=some kl): ∃x:ByteArray,key= .string x:=by
 obtain⟨s,rfl,_⟩:=string_of_keyOf underlying9 h
 exact⟨s,rfl⟩
theorem key_is{x:ByteArray}{kl:Lit}(h:keyOf prog 9 (.string x)=some kl):kl=sk x:=by
 obtain⟨s,e,rfl,_⟩:=string_of_keyOf underlying9 h
 injection e with e
 subst e
 rfl
theorem jH{w:World}{base:Nat}{v:Value}{k:Nat}{xs:List Value}(h:w.ownsRow base 9 1 v k xs){mb r n:Nat}{D:DataW Value}{left:Lit->Bool}{cnt:Nat}(hr:w.ranges prog 9 held mb r n D left cnt):some mb≠v.ownBlock/\some r≠v.ownBlock:=by
 obtain⟨es,clock,since,seen,c0,hb,_,_,_,hi,_⟩:=hr
 obtain⟨_,⟨rfl,_⟩|⟨g,cap,cur,rfl,_,hg,_⟩⟩:=h
 ·exact⟨by simp[Value.ownBlock],by simp[Value.ownBlock]⟩
 ·refine⟨λe=> ?_,λe=> ?_⟩<;>(injection e with e;subst e)
  ·rw[hb]at hg;injection hg with hg;cases hg
  ·rw[hi]at hg;injection hg with hg;cases hg
theorem ZW{w w':World}(hb:Below w.heap.size w w'):w.grownBy w' none:=⟨hb.os,hb.tape,hb.output,hb.size,λk hk _=>hb.block k hk⟩
theorem run_make52(n:Nat)(hn:n<=1000000)(w:World):(Instr.makeSlice 52 (.int .i64 0) (.int .i64 (n:Int))).run prog w= .ok (.slice (some ⟨w.heap.size,0,none⟩) 0 n) (w.alloc (.cells (madeCells #[.string ⟨#[]⟩] n) 9)):=by
 obtain⟨i0,hi,hz0,hz1,hz2⟩:=info_parts j1
 have h:=run_make (P:=prog) w 52 9 i0 _ underlying52 hi hz0 .i64 .i64 0 (n:Int) (by omega) (by omega) (by rw[hz2];omega) (by omega)
 rw[hz1,Nat.mul_one,Int.toNat_natCast]at h
 exact h
theorem QW(a:ByteArray):(sk a).sameKey (sk a)=true:=by simp[Lit.sameKey]
structure Naming (D:DataW Value) (mb r n:Nat) (w0:World) (a:Option Addr) (c:Nat) (xs:List ByteArray) (left:Lit->Bool) (cnt:Nat) (wr:World):Prop where
 rg:wr.ranges prog 9 held mb r n D left cnt
 below:Below w0.heap.size w0 wr
 row:wr.ownsRow w0.heap.size 9 1 (.slice a xs.length c) xs.length (xs.map Value.string)
 nodup:xs.Nodup
 all: ∀x,Maps.has D (sk x)=true↔(left (sk x)=true\/x∈xs)
 off: ∀x∈xs,left (sk x)=false
 few:xs.length+cnt<=n
theorem zeu{xs ys:List ByteArray}(h1:xs.Nodup)(h2:ys.Nodup)(h: ∀x,x∈xs↔x∈ys):xs.Perm ys:=(List.perm_ext_iff_of_nodup h1 h2).2 h
theorem srt_up{xs ys:List ByteArray}(hp:xs.Perm ys)(hu:ys.Pairwise λx y=>less x y=true):srt xs=ys:=by
 refine List.Perm.eq_of_pairwise (le:=λx y=>less y x=false) (λa b _ _ h1 h2=>rising.tot a b h2 h1) (Zn xs) ?_ ((Zo xs).trans hp)
 exact hu.imp λ{x y} h=>rising.asym h
def nms(L:Shots):List ByteArray:=L.map (·.1)
def KM(L:Shots)(w:World)(e:Ending)(w':World):Prop:= ∃ao cap,e= .returned (.slice ao L.length cap)/\w'.ownsRow w.heap.size 9 1 (.slice ao L.length cap) L.length ((nms L).map Value.string)/\Below w.heap.size w w'
theorem jQ{w:World}{g mb lo:Nat}{L:Shots}(h:Snp w g mb lo L):Calls prog 40 #[ptg g] w (KM L w):=by
 obtain⟨fn,⟨D,hown,hsz,h2⟩,hf⟩:=h.map
 have c0:=h.box1
 have hlen:=hown.len underlying152 3
 rw[hsz]at hlen
 have hfew:=h.few
 have hmk:=run_make52 L.length (by omega) w
 have hhas: ∀a,Maps.has D (sk a)=true↔a∈nms L:=λa=>by
  rw[(h2 a).2]
  have h3:=hf a
  rw[show a∈nms L↔(Go.Shots.get L a).isSome=true from Go.Shots.get_isSome.symm]
  cases hg:Go.Shots.get L a with
  |none=>rw[hg]at h3;simp only at h3;rw[h3];exact Iff.rfl
  |some F=>rw[hg]at h3;obtain⟨q,e,_⟩:=h3;rw[e];exact⟨λ_=>rfl,λ_=>rfl⟩
 have HHas:=hid hhas
 have HUp:=hid (show(nms L).Pairwise λx y=>less x y=true from List.pairwise_map.2 h.up)
 have HRt:=hid (show∀a∈nms L,a.size<=16 from λa ha=>by
  obtain⟨y,hy,rfl⟩:=List.mem_map.1 ha
  have:=u7 (h.right y hy)
  rwa [Array.length_toList]at this)
 have hB1:=below_one w (.cells (madeCells #[.string ⟨#[]⟩] L.length) 9)
 have c1:(w.alloc (.cells (madeCells #[.string ⟨#[]⟩] L.length) 9)).cell? ⟨g,0,none⟩=some (.map (some mb)):=(hB1.cell h.ltg).trans c0
 have hz:(w.alloc (.cells (madeCells #[.string ⟨#[]⟩] L.length) 9)).heap.size=w.heap.size+1:=by simp
 have HRow:=hid (show(w.alloc (.cells (madeCells #[.string ⟨#[]⟩] L.length) 9)).ownsRow w.heap.size 9 1 (.slice (some ⟨w.heap.size,0,none⟩) 0 L.length) 0 []from World.ownsRow_made (e:=9) (size:=1) (base:=w.heap.size) w (madeCells #[.string ⟨#[]⟩] L.length) L.length (by simp) (by unfold maxLen;omega) (by rw[size_madeCells];omega))
 have HOwn:=hid hown
 obtain⟨n,hn⟩: ∃n,n=L.length:=⟨_,rfl⟩
 have HN:=hid hn
 unfold KM
 rw[<-hn]at hlen hmk hB1 c1 hz HRow HOwn hfew hsz|-
 have HSz:=hid hsz
 have hni:(n:Int)<=16:=by omega
 clear h hf h2 hhas hown hn hsz
 have HB1:=hid hB1
 clear hB1
 go_enter func40,ntmps40
 go_wp2_with (first|(at_range;refine wpList_range_own _ rfl _ 152 rfl 9 25 qM underlying152 held mb n D rfl (HOwn.out.alloc _) ?_;intro w1 hrg1 hg1 hs1;rw[hz]at hrg1|-)|fail)
 go_frame
 go_loopw [3,4,16,17] (λx3 _ _ _ wr=> ∃(xs:List ByteArray) (a3:Option Addr) (c3:Nat) (left:Lit->Bool) (cnt:Nat),x3= .slice a3 xs.length c3/\Naming D mb (w.heap.size+1) n w a3 c3 xs left cnt wr) (λ_ _ _ _ wr=>wr.rangeLeft mb (w.heap.size+1))
 case atStart=>
  refine⟨[],_,_,_,_,rfl,⟨hrg1, ?_, ?_,List.nodup_nil,λx=> ?_,λx h=>absurd h List.not_mem_nil, ?_⟩⟩
  ·have hB1:=HB1.out
   exact⟨hg1.os.trans hB1.os,hg1.tape.trans hB1.tape,hg1.output.trans hB1.output,Nat.le_trans hB1.size hg1.size,λk hk=>(hg1.block k (Nat.lt_of_lt_of_le hk hB1.size) (by simp)).trans (hB1.block k hk)⟩
  ·exact World.ownsRow.kept HRow.out hg1 (by simp[Value.ownBlock])
  ·exact⟨λh=> .inl h,λh=>h.elim id (λh=>absurd h List.not_mem_nil)⟩
  ·rw[HSz.out];exact Nat.le_of_eq (Nat.zero_add _)
 case round=>
  obtain⟨xs,a3,c3,left,cnt,rfl,hNm⟩:=hrel
  have HNm:=hid hNm
  clear hNm hmk hlen hrg1 hg1 hs1 c0 c1 hz
  go_wp2_with (first
   |(at_next;refine wpList_next_ranges _ rfl _ rfl 9 qM held Value.string (λv=>v) (λkey kl hk=>zaw hk) (λv y _=>⟨v,rfl⟩) mb _ n _ left cnt rfl HNm.out.rg ?_ ?_)
   |fail)
  ·intro _ hl0
   have hmem: ∀x,x∈xs↔x∈nms L:=λx=>by
    rw[<-HHas.out x,HNm.out.all x,hl0];exact⟨.inr,λh=>h.elim (λh=>by cases h) id⟩
   have hp:=zeu HNm.out.nodup (by exact(HUp.out.imp λ{x y} h e=>by rw[e,rising.irr]at h;cases h)) hmem
   have hlx:xs.length=n:=by rw[hp.length_eq,HN.out];unfold nms;rw[List.length_map]
   have HSo:=hid (Vs HNm.out.row (by omega))
   have HSr:=hid (srt_up hp HUp.out)
   have HB:=hid HNm.out.below
   have HGe:=hid (λk (hk:(Value.slice a3 xs.length c3).ownBlock=some k)=>(World.ownsRow.lt HNm.out.row k hk).1)
   rw[hlx]at HSo HGe|-
   clear hp hmem hl0 HNm
   unfold zdY at HSo
   go_wp2_with fail
   refine HSo.out.mono ?_
   rintro e w2 ⟨rfl,hr2,hg2⟩
   have HX:=hid (And.intro hr2 hg2)
   clear hr2 hg2
   dsimp only
   go_wp2_with fail
   go_ret
   refine⟨a3,c3,rfl, ?_, ?_⟩
   ·have:=HX.out.1;rw[hlx,HSr.out]at this;exact this
   ·exact HB.out.grown HX.out.2 HB.out.size (by rw[hlx];exact HGe.out)
  ·intro x c kl d ps w2 cnt2 hkl hlk _ _ hrg2 hlt2 hg2 hs2 hen
   obtain rfl:=key_is hkl
   have hH:=(HNm.out.all x).2 (.inl hlk)
   have hxs:x∉xs:=λh=>by have:=HNm.out.off x h;rw[hlk]at this;cases this
   have hsz:=HRt.out x ((HHas.out x).1 hH)
   have hni:=jH HNm.out.row HNm.out.rg
   have HO2:=hid (World.ownsRow.kept HNm.out.row hg2 (.inr λe=>hni.2 e.symm))
   have HB2:=hid (show Below w.heap.size w w2 from⟨hg2.os.trans HNm.out.below.os,hg2.tape.trans HNm.out.below.tape,hg2.output.trans HNm.out.below.output,Nat.le_trans HNm.out.below.size hg2.size,λk hk=>(hg2.block k (Nat.lt_of_lt_of_le hk HNm.out.below.size) (by simp;omega)).trans (HNm.out.below.block k hk)⟩)
   have HRg2:=hid hrg2
   have HLt:=hid hlt2
   have HLk:=hid hlk
   have HCl:=hid (λW=>T8.clone_any x W (by omega))
   have hfw:=HNm.out.few
   clear hrg2 hlt2 hg2 hs2 hlk hni hkl hH
   go_wp2_with fail
   refine(HCl.out _).mono ?_
   rintro e w3 ⟨rfl,hw3⟩
   have hw4:=hw3.alloc hw3.size (.cells #[.string x] 9)
   have hg4:=ZW hw4
   have HO4:=hid (World.ownsRow.kept HO2.out hg4 (by cases (Value.slice a3 xs.length c3).ownBlock<;>simp))
   have HRg4:=hid (HRg2.out.kept hg4 (by simp) (by simp))
   have HB4:=hid (HB2.out.trans (hw4.mono HB2.out.size))
   clear hw3 hw4 hg4
   dsimp only
   go_wp2_with (first|(at_builtin;refine T8.at_app1 rfl _ _ rfl w.heap.size _ xs.length _ (by rfl) HO4.out w3.heap.size (.string x) (by rfl) (by simp) rfl (by omega) HB4.out.size ?_;intro ao5 cap5 w5 hO5 hg5)|fail)
   have hni5:=jH HO4.out HRg4.out
   have HRg5:=hid (HRg4.out.kept hg5 hni5.1 hni5.2)
   have HO5:=hid hO5
   have HB5:=hid (HB4.out.grown hg5 HB4.out.size (λj hj=>(World.ownsRow.lt HO4.out j hj).1))
   clear hO5 hg5 hni5
   go_wp2_with fail
   go_roundw
   case rel=>
    refine⟨xs++[x],ao5,cap5,_,cnt2,by simp,⟨HRg5.out,HB5.out, ?_, ?_,λy=> ?_,λy hy=> ?_, ?_⟩⟩
    ·have:=HO5.out
     rw[List.length_append,List.map_append]
     exact this
    ·exact List.nodup_append.2 ⟨HNm.out.nodup,List.nodup_cons.2 ⟨List.not_mem_nil,List.nodup_nil⟩,λa ha b hb e=>hxs (by rw[List.mem_singleton.1 hb]at e;exact e▸ha)⟩
    ·rw[HNm.out.all y]
     by_cases e:y=x
     ·subst e;exact⟨λ_=> .inr (List.mem_append_right _ (List.mem_singleton.2 rfl)),λ_=> .inl HLk.out⟩
     ·have hne:(sk y).sameKey (sk x)=false:=by
       cases hk:(sk y).sameKey (sk x)with
       |false=>rfl
       |true=>exact absurd (Jm (WideAt.sameKey_eq hk)) e
      rw[hne,List.mem_append,List.mem_singleton]
      simp[e]
    ·rcases List.mem_append.1 hy with hy|hy
     ·rw[HNm.out.off y hy];rfl
     ·obtain rfl:=List.mem_singleton.1 hy
      simp[QW]
    ·rw[List.length_append,List.length_singleton];have:=HLt.out;omega
   case measure=>rw[HRg5.out.left_eq,HNm.out.rg.left_eq];exact HLt.out
end Go.Proofs.YtabmamofnhcgbaaGreatDoor
namespace Go.Proofs.YtabmamofnhcgbaaGreatDoor
open Go.RowKit Go.Less Go.Maps
open T8 (pv Dg)
attribute [local go_sem 9000] zg zf
def uR(L:Shots)(r:ByteArray):Option (ByteArray×Fs.FS):=L.find? λp=>alike (nmf p.2.l) r
def kb(L:Shots)(r:ByteArray)(w:World)(e:Ending)(w':World):Prop:=match uR L r with
 |none=>e= .returned (.tuple #[.pointer none,.bool false])/\Below w.heap.size w w'
 |some p=> ∃q,e= .returned (.tuple #[ptg q,.bool true])/\Fo w' q p.2/\w.heap.size<=q/\Below w.heap.size w w'
theorem Snp.at_{w:World}{g mb lo:Nat}{L:Shots}(h:Snp w g mb lo L){y:ByteArray×Fs.FS}(hy:y∈L): ∃q,(Instr.lookup 152 (.map (some mb)) (.string y.1) false).run prog w= .ok (ptg q) w/\Fo w q y.2:=by
 obtain⟨fn,hM,hf⟩:=h.map
 have h3:=hf y.1
 rw[Go.Shots.mem_get h.up hy]at h3
 obtain⟨q,e,hF,_⟩:=h3
 have hsz:y.1.size<=16:=by have:=u7 (h.right y hy);rwa [Array.length_toList]at this
 have hl:=hM.look underlying152 (UW w) (a:=y.1) (by unfold maxLen;omega)
 rw[e]at hl
 exact⟨q,hl,hF⟩
theorem Kk{L:Shots}{f:ByteArray×Fs.FS->Bool}{j:Nat}{y:ByteArray×Fs.FS}(hy:L[j]?=some y)(h: ∀z∈L.take j,f z=false)(hf:f y=true):L.find? f=some y:=by
 have e:L=L.take j++y::L.drop (j+1):=by
  obtain⟨hj,rfl⟩:=List.getElem?_eq_some_iff.1 hy
  rw[<-List.drop_eq_getElem_cons hj,List.take_append_drop]
 rw[e,List.find?_append,List.find?_eq_none.2 (λz hz=>by rw[h z hz];decide),List.find?_cons_of_pos hf]
 rfl
theorem YR{w:World}{g mb lo:Nat}{L:Shots}(h:Snp w g mb lo L)(r:ByteArray):Calls prog 41 #[ptg g,.string r] w (kb L r w):=by
 have HNm:=hid (jQ h)
 unfold KM at HNm
 have HS:=hid (λW (hb:Below w.heap.size w W)=>h.below hb)
 have hfew:=h.few
 obtain⟨n,hn⟩: ∃n,n=L.length:=⟨_,rfl⟩
 have HN:=hid hn
 rw[<-hn]at HNm hfew
 have hni:(n:Int)<=16:=by omega
 clear hn h
 go_enter func41,ntmps41
 go_wp2_with fail
 refine HNm.out.mono ?_
 rintro e w1 ⟨ao,cap,rfl,hrow,hb⟩
 have HRow:=hid (show T8.Strs ao n (nms L) w1 from by obtain⟨a',c',e,hS⟩:=T8.strs_owned hrow (by unfold nms;rw[List.length_map];exact HN.out);injection e with e1 e2 e3;subst e1;exact hS)
 have HB:=hid hb
 clear hrow hb HNm
 dsimp only
 go_wp2_with fail
 go_loopw [7,8,12,13,14,15,16,17,18,19,20,21,22,23,24,25,26] (λ_ _ x12 _ _ _ _ _ _ _ _ _ _ _ _ _ _ wr=> ∃j:Nat,j<=n/\x12= .int .i64 j/\(∀z∈L.take j,alike (nmf z.2.l) r=false)/\Below w1.heap.size w1 wr) (λ_ _ x12 _ _ _ _ _ _ _ _ _ _ _ _ _ _ _=>n-(intOf x12).toNat)
 case atStart=>exact⟨0,Nat.zero_le _,rfl,λz hz=>by simp at hz,Below.refl _ _⟩
 case round=>
  obtain⟨j,hj,rfl,hno,hB⟩:=hrel
  have HNo:=hid hno
  have HB1:=hid (HB.out.trans (hB.mono HB.out.size))
  have HB:=hid hB
  clear hno hB
  by_cases hlt:j<n
  ·have j0:(j:Int)<(n:Int):=by omega
   have hj0:(0:Int)<=(j:Int):=by omega
   have hjl:j<L.length:=by rw[<-HN.out];exact hlt
   obtain⟨y,hy⟩: ∃y,L[j]?=some y:=⟨_,List.getElem?_eq_getElem hjl⟩
   have hym:=List.mem_of_getElem? hy
   obtain⟨b,off,rfl,hc⟩:=(HRow.out.below HB.out).cell j hlt
   rw[show(nms L).getD j ByteArray.empty=y.1 from by unfold nms;rw[List.getD,List.getElem?_map,hy];rfl]at hc
   obtain⟨q,hl,hF⟩:=(HS.out wr HB1.out).at_ hym
   have c0:=(HS.out wr HB1.out).box1
   have HF:=hid hF
   have HY:=hid (And.intro hy hym)
   clear hy hym hF hjl
   obtain⟨nm,f⟩:=y
   dsimp only at hl hc HF
   go_wp2_with fail
   refine(uT HF.out).mono ?_
   rintro e w3 ⟨m3,rfl,hSv,rfl⟩
   have HM:=hid (vy hSv)
   clear hSv c0 hl hc
   dsimp only
   go_wp2_with fail
   refine HM.out.mono ?_
   rintro e w4 ⟨rfl,hb⟩
   have HF:=hid (HF.out.below hb)
   have HB1:=hid (HB1.out.trans (hb.mono HB1.out.size))
   have HB:=hid (HB.out.trans (hb.mono HB.out.size))
   clear hb HM
   dsimp only
   cases ha:alike (nmf f.l) r with
   |true=>
    go_wp2_with fail
    refine(qi HF.out).mono ?_
    rintro e w5 ⟨q2,rfl,hF,hq,hb⟩
    have HX:=hid (And.intro hF (And.intro (Nat.le_trans HB1.out.size hq) (HB1.out.trans (hb.mono HB1.out.size))))
    clear hF hq hb
    dsimp only
    go_wp2_with fail
    go_ret2
    show kb L r w _ _
    unfold kb uR
    rw[Kk (f:=λp:ByteArray×Fs.FS=>alike (nmf p.2.l) r) HY.out.1 HNo.out ha]
    exact⟨q2,rfl,HX.out.1,HX.out.2.1,HX.out.2.2⟩
   | false=>
    have HA:=hid ha
    go_wp2_with fail
    go_roundw
    case rel=>
     refine⟨j+1,by omega,by go_num,λz hz=> ?_,HB.out⟩
     have hjl:j<L.length:=(List.getElem?_eq_some_iff.1 HY.out.1).1
     rw[List.take_succ_eq_append_getElem hjl]at hz
     rcases List.mem_append.1 hz with hz|hz
     ·exact HNo.out z hz
     ·rw[List.mem_singleton.1 hz]
      have:=(List.getElem?_eq_some_iff.1 HY.out.1).2
      rw[this];exact HA.out
    case measure=>simp[intOf];omega
  ·obtain rfl:j=n:=by omega
   have hge: ¬ ((j:Int)<(j:Int)):=by omega
   go_wp2_with fail
   go_ret2
   show kb L r w _ _
   unfold kb uR
   rw[List.find?_eq_none.2 (λz hz=>by rw[HNo.out z (by rw[HN.out,List.take_length];exact hz)];decide)]
   exact⟨rfl,HB1.out⟩
end Go.Proofs.YtabmamofnhcgbaaGreatDoor
namespace Go.Proofs.YtabmamofnhcgbaaGreatDoor
open Go.RowKit Go.Less Go.Maps
open T8 (pv Dg)
section
variable {w : World} {g mb lo : Nat} {L : Shots}
theorem XA(h:Snp w g mb lo L){a:ByteArray}(ha:a.size<=140737488355328){q:Nat}{F:Fs.FS}(hF:Fo w q F)(hlo:lo<=w.heap.size)(hc:jE L a=0):Calls prog 36 #[ptg g,.string a,ptg q] w λe w'=>e= .returned (.int .i64 0)/\Snp w' g mb lo (Go.Shots.put L a F)/\Turn mb w w':=by
 refine(YQ h a ha hF hlo).mono λe w' hT=> ?_
 unfold zbp at hT
 rwa [hc,if_pos rfl]at hT
theorem KR(h:Snp w g mb lo L){a:ByteArray}(ha:a.size<=140737488355328){q:Nat}{F:Fs.FS}(hF:Fo w q F)(hlo:lo<=w.heap.size){c:Int}(hc:jE L a=c)(h0:c≠0):Calls prog 36 #[ptg g,.string a,ptg q] w λe w'=>e= .returned (.int .i64 c)/\Snp w' g mb lo L/\Turn mb w w':=by
 refine(YQ h a ha hF hlo).mono λe w' hT=> ?_
 unfold zbp at hT
 rwa [hc,if_neg h0]at hT
theorem ZX(h:Snp w g mb lo L){a:ByteArray}(ha:a.size<=140737488355328){F:Fs.FS}(hg:Go.Shots.get L a=some F):Calls prog 38 #[ptg g,.string a] w λe w'=> ∃q,e= .returned (.tuple #[ptg q,.int .i64 0])/\Fo w' q F/\w.heap.size<=q/\Below w.heap.size w w':=by
 refine(zbW h a ha).mono λe w' hT=> ?_
 unfold KN at hT
 rwa [hg]at hT
theorem Qf(h:Snp w g mb lo L){a:ByteArray}(ha:a.size<=140737488355328)(hs:(Go.Shots.get L a).isSome=true):Calls prog 37 #[ptg g,.string a] w λe w'=>e= .returned (.int .i64 0)/\Snp w' g mb lo (Go.Shots.del L a)/\Turn mb w w':=by
 refine(YS h a ha).mono λe w' hT=> ?_
 unfold Zh at hT
 rwa [if_pos hs,if_pos hs]at hT
theorem ze3(h:Snp w g mb lo L){a:ByteArray}(ha:a.size<=140737488355328)(hs:(Go.Shots.get L a).isSome=false):Calls prog 37 #[ptg g,.string a] w λe w'=>e= .returned (.int .i64 4)/\Snp w' g mb lo L/\Turn mb w w':=by
 refine(YS h a ha).mono λe w' hT=> ?_
 unfold Zh at hT
 rwa [if_neg (by rw[hs];decide),if_neg (by rw[hs];decide)]at hT
theorem kZ(h:Snp w g mb lo L){r:ByteArray}{p:ByteArray×Fs.FS}(hr:uR L r=some p):Calls prog 41 #[ptg g,.string r] w λe w'=> ∃q,e= .returned (.tuple #[ptg q,.bool true])/\Fo w' q p.2/\w.heap.size<=q/\Below w.heap.size w w':=by
 refine(YR h r).mono λe w' hT=> ?_
 unfold kb at hT
 rwa [hr]at hT
theorem Q0(h:Snp w g mb lo L){r:ByteArray}(hr:uR L r=none):Calls prog 41 #[ptg g,.string r] w λe w'=>e= .returned (.tuple #[.pointer none,.bool false])/\Below w.heap.size w w':=by
 refine(YR h r).mono λe w' hT=> ?_
 unfold kb at hT
 rwa [hr]at hT
end
theorem Zw{L:Shots}{y:ByteArray×Fs.FS}(h:y∈L): ∃p,uR L (nmf y.2.l)=some p/\nmf p.2.l=nmf y.2.l:=by
 cases hf:uR L (nmf y.2.l)with
 |none=>
  have h2:=List.find?_eq_none.1 hf y h
  rw[vN]at h2
  exact absurd rfl h2
 |some p=>
  have h2:=List.find?_some hf
  exact⟨p,rfl,alike_eq.1 h2⟩
end Go.Proofs.YtabmamofnhcgbaaGreatDoor
namespace Go.Proofs.YtabmamofnhcgbaaGreatDoor
open Go.RowKit Go.Less Go.Maps
open T8 (pv Dg)
attribute [local go_sem 9000] zg zf
def sO:Fs.Op:=⟨1,tA,⟨#[]⟩,0,0,0,⟨#[]⟩⟩
def sF:Fs.FS:=⟨[(1,awD [(nA,2)]),(2,⟨1,0,⟨#[]⟩,⟨#[]⟩,[]⟩)],3⟩
def nX:ByteArray:=⟨#[120]⟩
theorem isS:Fs.doE env Fs.new sO=(sF,0):=Xe (by decide+kernel) (by decide+kernel) (by decide+kernel)
theorem neS:alike (nmf Fs.new.l) (nmf sF.l)=false:=by decide+kernel
def LX:Shots:=[(nX,Fs.new)]
theorem roX:uR LX (nmf sF.l)=none:=by
 unfold uR LX
 rw[List.find?_cons_of_neg (by rw[neS];decide)];rfl
theorem roN:uR LX (nmf Fs.new.l)=some (nX,Fs.new):=by
 unfold uR LX
 rw[List.find?_cons_of_pos (by exact vN _)]
theorem UN(w:World)(hD:Dg w):Calls prog 32 #[] w λe w'=>e= .returned (.bool true)/\Below w.heap.size w w':=by
 have HSw:=hid (Vx w)
 have HNw:=hid (λW (hb:Below w.heap.size w W)=>ku W (hD.below hb))
 unfold zd4 at HNw
 have HDo:=hid (λg W (h:Fo W g Fs.new)=>(show Calls prog 12 #[ptg g,.agg #[.int .i64 1,.string ⟨#[47,97]⟩,.string ⟨#[]⟩,.int .i64 0,.int .i64 0,.int .i64 0,.string ⟨#[]⟩]] W (λe w'=>e= .returned (.int .i64 0)/\Fo w' g sF/\Turn g W w')from did (o:=sO) (f2:=sF) (c:=0) h Fs.new_good (by decide) (ug (o:=sO) (by decide) (by decide) (by decide) (by decide) (by decide) (by decide) (by decide)) isS))
 have HMp:=hid (λg f W (h:Fo W g f)=>uT h)
 have HNm:=hid (λm f W (h:Sv W m f)=>vy h)
 have HNx:=hid (λg W (h:Fo W g Fs.new)=>(show Calls prog 15 #[ptg g] W (λe w'=>e= .returned (.int .i64 2)/\w'=W)from jq h))
 have HIn:=hid (λg W (h:Fo W g Fs.new)=>(show Calls prog 44 #[ptg g] W (λe w'=> ∃ao cap,e= .returned (.slice ao 1 cap)/\Below W.heap.size W w')from(qg h).mono λe w' h=>by obtain⟨ao,cap,e1,_,hb⟩:=h;exact⟨ao,cap,e1,hb⟩))
 have HT0:=hid (λW g mb lo q (h:Snp W g mb lo []) (hF:Fo W q Fs.new) (hl:lo<=W.heap.size)=>(show Calls prog 36 #[ptg g,.string ⟨#[120]⟩,ptg q] W (λe w'=>e= .returned (.int .i64 0)/\Snp w' g mb lo LX/\Turn mb W w')from XA h (a:=nX) (by decide) hF hl (by decide+kernel)))
 have HT5:=hid (λW g mb lo q (h:Snp W g mb lo LX) (hF:Fo W q sF) (hl:lo<=W.heap.size)=>(show Calls prog 36 #[ptg g,.string ⟨#[120]⟩,ptg q] W (λe w'=>e= .returned (.int .i64 5)/\Snp w' g mb lo LX/\Turn mb W w')from KR h (a:=nX) (by decide) hF hl (by decide+kernel) (by decide)))
 have HT14:=hid (λW g mb lo q (h:Snp W g mb lo LX) (hF:Fo W q sF) (hl:lo<=W.heap.size)=>(show Calls prog 36 #[ptg g,.string ⟨#[47]⟩,ptg q] W (λe w'=>e= .returned (.int .i64 14)/\Snp w' g mb lo LX/\Turn mb W w')from KR h (a:=⟨#[47]⟩) (by decide) hF hl (by decide+kernel) (by decide)))
 have HGx:=hid (λW g mb lo (h:Snp W g mb lo LX)=>(show Calls prog 38 #[ptg g,.string ⟨#[120]⟩] W (λe w'=> ∃q,e= .returned (.tuple #[ptg q,.int .i64 0])/\Fo w' q Fs.new/\W.heap.size<=q/\Below W.heap.size W w')from ZX h (a:=nX) (by decide) rfl))
 have HRx:=hid (λW g mb lo (h:Snp W g mb lo LX)=>Q0 h roX)
 have HRn:=hid (λW g mb lo (h:Snp W g mb lo LX)=>kZ h roN)
 have HDy:=hid (λW g mb lo (h:Snp W g mb lo LX)=>(show Calls prog 37 #[ptg g,.string ⟨#[121]⟩] W (λe w'=>e= .returned (.int .i64 4)/\Snp w' g mb lo LX/\Turn mb W w')from ze3 h (a:=⟨#[121]⟩) (by decide) rfl))
 have HDx:=hid (λW g mb lo (h:Snp W g mb lo LX)=>(show Calls prog 37 #[ptg g,.string ⟨#[120]⟩] W (λe w'=>e= .returned (.int .i64 0)/\Snp w' g mb lo (Go.Shots.del LX nX)/\Turn mb W w')from Qf h (a:=nX) (by decide) rfl))
 have HNs:=hid (λW g mb lo (h:Snp W g mb lo LX)=>(show Calls prog 40 #[ptg g] W (λe w'=> ∃ao cap,e= .returned (.slice ao 1 cap)/\Below W.heap.size W w')from(jQ h).mono λe w' h=>by obtain⟨ao,cap,e1,_,hb⟩:=h;exact⟨ao,cap,e1,hb⟩))
 have HCy:=hid (λW g mb lo (h:Snp W g mb lo LX)=>QX h)
 unfold zd5 at HCy
 clear hD
 go_enter func32,ntmps32
 go_wp2_with fail
 refine HSw.out.mono ?_
 rintro e w1 ⟨gs,mb,rfl,hS,hm,hg,hb⟩
 have HS0:=hid hS
 have HGm:=hid hm
 have HB:=hid hb
 clear hS hm hg hb HSw
 dsimp only
 go_wp2_with fail
 refine(HNw.out w1 HB.out).mono ?_
 rintro e w2 ⟨gf,rfl,hF,hg,hb⟩
 have HSn:=hid ((HS0.out (gf+1)).below hb)
 have HGf:=hid (Nat.le_trans HB.out.size hg)
 have HB:=hid (HB.out.trans (hb.mono HB.out.size))
 have HFf:=hid hF
 clear hF hg hb HS0 HNw
 dsimp only
 go_wp2_with fail
 refine(HT0.out _ _ _ _ _ HSn.out HFf.out HFf.out.lt).mono ?_
 rintro e w3 ⟨rfl,hS,hT⟩
 have HB:=hid (zy HB.out hT HGm.out)
 have HFf:=hid (HFf.out.turnM hT HSn.out.mp)
 have HSn:=hid hS
 clear hT hS
 dsimp only
 go_wp2_with fail
 refine(HDo.out gf _ HFf.out).mono ?_
 rintro e w4 ⟨rfl,hF,hT⟩
 have HB:=hid (zy HB.out hT HGf.out)
 have HSn:=hid (HSn.out.turn hT HFf.out (Nat.lt_succ_self gf))
 have HFf:=hid hF
 clear hF hT
 dsimp only
 go_wp2_with fail
 refine(HGx.out _ _ _ _ HSn.out).mono ?_
 rintro e w5 ⟨gg,rfl,hF,hg,hb⟩
 have HB:=hid (HB.out.trans (hb.mono HB.out.size))
 have HFf:=hid (HFf.out.below hb)
 have HSn:=hid (HSn.out.below hb)
 have HFg:=hid hF
 clear hF hg hb
 dsimp only
 go_wp2_with fail
 refine(HMp.out _ _ _ HFf.out).mono ?_
 rintro e w6 ⟨m6,rfl,hSv,rfl⟩
 have HSv:=hid hSv
 clear hSv
 dsimp only
 go_wp2_with fail
 refine(HNm.out m6 _ _ HSv.out).mono ?_
 rintro e w7 ⟨rfl,hb⟩
 have HB:=hid (HB.out.trans (hb.mono HB.out.size))
 have HFf:=hid (HFf.out.below hb)
 have HFg:=hid (HFg.out.below hb)
 have HSn:=hid (HSn.out.below hb)
 clear hb HSv
 dsimp only
 go_wp2_with fail
 refine(HRx.out _ _ _ _ HSn.out).mono ?_
 rintro e w8 ⟨rfl,hb⟩
 have HB:=hid (HB.out.trans (hb.mono HB.out.size))
 have HFf:=hid (HFf.out.below hb)
 have HFg:=hid (HFg.out.below hb)
 have HSn:=hid (HSn.out.below hb)
 clear hb
 dsimp only
 go_wp2_with fail
 refine(HMp.out _ _ _ HFg.out).mono ?_
 rintro e w9 ⟨m9,rfl,hSv,rfl⟩
 have HSv:=hid hSv
 clear hSv
 dsimp only
 go_wp2_with fail
 refine(HNm.out m9 _ _ HSv.out).mono ?_
 rintro e w10 ⟨rfl,hb⟩
 have HB:=hid (HB.out.trans (hb.mono HB.out.size))
 have HFf:=hid (HFf.out.below hb)
 have HFg:=hid (HFg.out.below hb)
 have HSn:=hid (HSn.out.below hb)
 clear hb HSv
 dsimp only
 go_wp2_with fail
 refine(HRn.out _ _ _ _ HSn.out).mono ?_
 rintro e w11 ⟨gh,rfl,hF,hg,hb⟩
 have HB:=hid (HB.out.trans (hb.mono HB.out.size))
 have HFf:=hid (HFf.out.below hb)
 have HFg:=hid (HFg.out.below hb)
 have HSn:=hid (HSn.out.below hb)
 have HFh:=hid hF
 clear hF hg hb
 dsimp only
 go_wp2_with fail
 refine(HNx.out gg _ HFg.out).mono ?_
 rintro e w12 ⟨rfl,rfl⟩
 dsimp only
 go_wp2_with fail
 refine(HIn.out gg _ HFg.out).mono ?_
 rintro e w13 ⟨ai,ci,rfl,hb⟩
 have HB:=hid (HB.out.trans (hb.mono HB.out.size))
 have HFf:=hid (HFf.out.below hb)
 have HFg:=hid (HFg.out.below hb)
 have HFh:=hid (HFh.out.below hb)
 have HSn:=hid (HSn.out.below hb)
 clear hb
 dsimp only
 go_wp2_with fail
 refine(HT5.out _ _ _ _ _ HSn.out HFf.out HFf.out.lt).mono ?_
 rintro e w14 ⟨rfl,hS,hT⟩
 have HB:=hid (zy HB.out hT HGm.out)
 have HFf:=hid (HFf.out.turnM hT HSn.out.mp)
 have HFg:=hid (HFg.out.turnM hT HSn.out.mp)
 have HFh:=hid (HFh.out.turnM hT HSn.out.mp)
 have HSn:=hid hS
 clear hT hS
 dsimp only
 go_wp2_with fail
 refine(HT14.out _ _ _ _ _ HSn.out HFf.out HFf.out.lt).mono ?_
 rintro e w15 ⟨rfl,hS,hT⟩
 have HB:=hid (zy HB.out hT HGm.out)
 have HFf:=hid (HFf.out.turnM hT HSn.out.mp)
 have HFg:=hid (HFg.out.turnM hT HSn.out.mp)
 have HFh:=hid (HFh.out.turnM hT HSn.out.mp)
 have HSn:=hid hS
 clear hT hS
 dsimp only
 go_wp2_with fail
 refine(HDy.out _ _ _ _ HSn.out).mono ?_
 rintro e w16 ⟨rfl,hS,hT⟩
 have HB:=hid (zy HB.out hT HGm.out)
 have HFf:=hid (HFf.out.turnM hT HSn.out.mp)
 have HFg:=hid (HFg.out.turnM hT HSn.out.mp)
 have HFh:=hid (HFh.out.turnM hT HSn.out.mp)
 have HSn:=hid hS
 clear hT hS
 dsimp only
 go_wp2_with fail
 refine(HNs.out _ _ _ _ HSn.out).mono ?_
 rintro e w17 ⟨ai,ci,rfl,hb⟩
 have HB:=hid (HB.out.trans (hb.mono HB.out.size))
 have HSn:=hid (HSn.out.below hb)
 clear hb
 dsimp only
 go_wp2_with fail
 refine(HCy.out _ _ _ _ HSn.out).mono ?_
 rintro e w18 ⟨gs2,mb2,rfl,hS,hm,-,hb⟩
 have HGm2:=hid (Nat.le_trans HB.out.size hm)
 have HNe:=hid (show mb≠mb2 from λe=>by have:=HSn.out.ltm;omega)
 have HB:=hid (HB.out.trans (hb.mono HB.out.size))
 have HSn:=hid (HSn.out.below hb)
 have HS2:=hid hS
 clear hS hm hb
 dsimp only
 go_wp2_with fail
 refine(HDx.out _ _ _ _ HS2.out).mono ?_
 rintro e w19 ⟨rfl,hS,hT⟩
 have HB:=hid (zy HB.out hT HGm2.out)
 have HSn:=hid (HSn.out.turnM hT HS2.out.mp HNe.out)
 clear hS hT HS2
 dsimp only
 go_wp2_with fail
 refine(HDx.out _ _ _ _ HSn.out).mono ?_
 rintro e w20 ⟨rfl,hS,hT⟩
 have HB:=hid (zy HB.out hT HGm.out)
 clear hT hS
 dsimp only
 go_wp2_with fail
 go_ret
 exact⟨rfl,HB.out⟩
end Go.Proofs.YtabmamofnhcgbaaGreatDoor
