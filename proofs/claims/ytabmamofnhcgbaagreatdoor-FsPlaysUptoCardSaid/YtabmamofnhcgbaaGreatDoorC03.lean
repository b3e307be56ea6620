/- A part of the proofs. -/
import Derived.Lib.AppendStr
import Derived.Test.YtabmamofnhcgbaaGreatDoorC02
set_option maxRecDepth 1000000
set_option maxHeartbeats 16000000
open Go.Lib (hid)
open Go.Proofs.Tryz
namespace Go.Proofs.YtabmamofnhcgbaaGreatDoor.T8
open Go.RowKit Sha
attribute [local go_sem 9000] yO yJ yN xr yM yK yL un uo
def Vt:Value->Nat| .slice _ n _=>n|_=>0
theorem Yt{w:World}{base:Nat}{e:TypeId}{size:Nat}{v:Value}{n:Nat}{xs:List Value}(h:w.ownsRow base e size v n xs): ∃a c,v= .slice a n c:=by
 obtain⟨_,⟨rfl,rfl⟩|⟨g,cap,cur,rfl,_⟩⟩:=h
 ·exact⟨none,0,rfl⟩
 ·exact⟨_,cap,rfl⟩
theorem zda:(prog.info? 5).map (λi=>(i.zero,i.size,i.bytes))=some (some (.int .u8 0),1,1):=by kernel_rfl
def Owns(base:Nat)(a:Option Addr)(cap:Nat)(l:List UInt8)(w:World):Prop:=w.ownsRow base 5 1 (.slice a l.length cap) l.length (Lib.byteCells l)
theorem Owns.nil(base:Nat)(w:World):Owns base none 0 [] w:=World.ownsRow_nil _ _ _ _
theorem Owns.of{base n:Nat}{v:Value}{l:List UInt8}{w:World}(h:w.ownsRow base 5 1 v n (Lib.byteCells l))(hn:n=l.length): ∃a c,v= .slice a l.length c/\Owns base a c l w:=by
 subst hn
 obtain⟨a,c,rfl⟩:=Yt h
 exact⟨a,c,rfl,h⟩
def yF(f:Nat->BitVec 32):Array Value:=((List.range 8).map λj=>wv (f j)).toArray
theorem yB(f:Nat->BitVec 32):(yF f).size=8:=by simp[yF]
theorem Zv(f:Nat->BitVec 32):((yF f).all λx=>x.oneCell')=true:=by simp[yF];intros;rfl
theorem jU{base:Nat}{a:Option Addr}{c:Nat}{l:List UInt8}{w w':World}(h:Owns base a c l w)(hb:Below w.heap.size w w'):Owns base a c l w':=
 World.ownsRow.kept h (⟨hb.os,hb.tape,hb.output,hb.size,λk hk _=>hb.block k hk⟩:w.grownBy w' none) (by cases a<;>simp[Value.ownBlock])
structure HalfW (w:World) (P:List UInt8) (a:Option Addr) (c hB:Nat) (s:St) (wr:World):Prop where
 pad:Owns w.heap.size a c P wr
 hh:wr.heap[hB]?=some (.cells (yF s.get) 215 (0,0))
 below:Below w.heap.size w wr
 low:w.heap.size<=hB
theorem J0{base:Nat}{a:Option Addr}{c:Nat}{l:List UInt8}{w:World}(h:Owns base a c l w)(o:Obj):Owns base a c l (w.alloc o):=jU h ((Below.refl _ _).alloc (Nat.le_refl _) o)
theorem VZ{base:Nat}{a:Option Addr}{c g:Nat}{l:List UInt8}{w:World}(h:Owns base a c l w)(cs:Array Value)(hg: ∀k,(Value.slice a l.length c).ownBlock=some k->k≠g):Owns base a c l (w.setRow g cs):=by
 refine World.ownsRow.kept h (⟨rfl,rfl,rfl,by simp,λk _ hk=>setRow_other w g k cs (λe=>hk (by rw[e]))⟩:w.grownBy (w.setRow g cs) (some g)) ?_
 cases hq:(Value.slice a l.length c).ownBlock with
 |none=>exact .inl rfl
 |some k=>exact .inr λe=>hg k hq (by injection e)
theorem J6{w w2:World}{P:List UInt8}{a:Option Addr}{c:Nat}(hO:Owns w.heap.size a c P w2)(hW:Below w.heap.size w w2):
  HalfW w P a c w2.heap.size init ((w2.alloc (.cells (yF (λ_=>0)) 215)).setRow w2.heap.size (yF init.get)):=by
 refine⟨VZ (J0 hO _) _ λk hk=> ?_,setRow_heap _ _ _ _ _ _ (heap_alloc_new w2 _),below_setRow (hW.alloc hW.size _) hW.size _,hW.size⟩
 have:=(World.ownsRow.lt hO k hk).2
 omega
theorem HalfW.under{w wr w':World}{P:List UInt8}{a:Option Addr}{c hB:Nat}{s:St}(h:HalfW w P a c hB s wr)(hb:Below wr.heap.size wr w'):HalfW w P a c hB s w':=
 ⟨jU h.pad hb,(hb.block hB (lt_of_block h.hh)).trans h.hh,h.below.trans (hb.mono h.below.size),h.low⟩
structure MainW (w:World) (P:List UInt8) (a:Option Addr) (c hB kB:Nat) (s:St) (wr:World):Prop where
 half:HalfW w P a c hB s wr
 kk:wr.heap[kB]?=some (.cells (zY kAt) 216 (0,0))
 ne:hB≠kB
theorem HalfW.main{w wr:World}{P:List UInt8}{a:Option Addr}{c hB:Nat}{s:St}(h:HalfW w P a c hB s wr):
  MainW w P a c hB wr.heap.size s ((wr.alloc (.cells (zY (λ_=>0)) 216)).setRow wr.heap.size (zY kAt)):=
 ⟨h.under (below_setRow ((Below.refl _ _).alloc (Nat.le_refl _) _) (Nat.le_refl _) _),setRow_heap _ _ _ _ _ _ (heap_alloc_new wr _),Nat.ne_of_lt (lt_of_block h.hh)⟩
theorem Owns.addr{base:Nat}{a:Option Addr}{c:Nat}{l:List UInt8}{w:World}(h:Owns base a c l w)(hl:0<l.length): ∃g,a=some ⟨g,0,none⟩:=by
 obtain⟨_,⟨e,hn⟩|⟨g,cap,cur,e,_⟩⟩:=h
 ·omega
 ·injection e with e1;exact⟨g,e1⟩
theorem Owns.under{base g:Nat}{c:Nat}{l:List UInt8}{w w':World}(h:Owns base (some ⟨g,0,none⟩) c l w)(hb:Below w.heap.size w w')(j:Nat)(hj:j<l.length):w'.cell? ⟨g,j,none⟩=some (bv (l.getD j 0)):=by
 have h1:w.cell? ⟨g,j,none⟩=(Lib.byteCells l)[j]?:=World.ownsRow.cellAt h j (by omega)
 have h2:(Lib.byteCells l)[j]?=some (bv (l.getD j 0)):=by
  unfold Lib.byteCells
  rw[List.getElem?_map,List.getElem?_eq_getElem hj]
  simp[List.getD,List.getElem?_eq_getElem hj]
 rw[h2]at h1
 exact(hb.cell (p:=⟨g,j,none⟩) (block_lt_of_cell h1)).trans h1
structure OwnW (g:Nat) (f:Nat->BitVec 32) (w1 wr:World):Prop where
 own:wr.heap[g]?=some (.cells (zY f) 216 (0,0))
 below:Below w1.heap.size w1 wr
 low:w1.heap.size<=g
theorem OwnW.start(m:Nat->UInt8)(w:World):OwnW w.heap.size (yP m 0) w (w.alloc (.cells (zY (λ_=>0)) 216)):=
 ⟨by rw[Y2];exact heap_alloc_new w _,(Below.refl _ _).alloc (Nat.le_refl _) _,Nat.le_refl _⟩
theorem OwnW.cell{g:Nat}{f:Nat->BitVec 32}{w1 wr:World}(h:OwnW g f w1 wr)(j:Nat)(hj:j<64):wr.cell? ⟨g,j,none⟩=some (wv (f j)):=
 (cell_of_row wr g j _ _ _ h.own).trans (uK _ j hj)
theorem OwnW.free{g:Nat}{f:Nat->BitVec 32}{w1 wr:World}(h:OwnW g f w1 wr)(j:Nat):wr.frozen? ⟨g,j,none⟩=false:=frozen_of_row wr _ j _ _ h.own
theorem OwnW.drewN{g:Nat}{f:Nat->BitVec 32}{w1 wr:World}(h:OwnW g f w1 wr)(n:Nat):OwnW g f w1 (wr.drewN n):=
 ⟨h.own,h.below.trans ⟨rfl,rfl,rfl,Nat.le_refl _,λ_ _=>rfl⟩,h.low⟩
theorem OwnW.step{g:Nat}{m:Nat->UInt8}{k:Nat}{w1 wr:World}(h:OwnW g (yP m k) w1 wr)(x:BitVec 32)(hx:x=wd m k):
  OwnW g (yP m (k+1)) w1 (wr.setCell ⟨g,k,none⟩ (wv x)).drew:=by
 subst hx
 refine⟨?_,(h.below.setCell (p:=⟨g,k,none⟩) h.low _).drew,h.low⟩
 show(wr.setCell ⟨g,k,none⟩ (wv (wd m k))).heap[g]?=_
 rw[heap_setCell_same wr _ k _ _ _ h.own,Vc,Y3]
theorem Q1(P:List UInt8)(o t:Nat)(ht:t<16):
  w8 (P.getD (o+(4*t)) 0)<<<24+w8 (P.getD (o+(4*t+1)) 0)<<<16+w8 (P.getD (o+(4*t+2)) 0)<<<8+w8 (P.getD (o+(4*t+3)) 0)=wd (λi=>P.getD (o+i) 0) t:=by
 rw[Vh _ _ ht]
 exact(Qu _ _ _ _).symm
theorem Xx(x:BitVec 32)(n:Int)(w:World)(h1:1<=n)(h2:n<=31):Calls prog 156 #[wv x,.int .u64 n] w λe w'=>e= .returned (wv (kt x n.toNat))/\w'=w:=
 (zbB x n w h1 h2).mono λ_ _ h=>⟨h.1,h.2.symm⟩
theorem zaj(a b c d:BitVec 32):(a+b+c)+d=d+c+b+a:=by
 rw[BitVec.add_comm (a+b+c) d,BitVec.add_comm (a+b) c,BitVec.add_comm a b,<-BitVec.add_assoc,<-BitVec.add_assoc]
structure RoundsW (g1 g2:Nat) (m:Nat->UInt8) (st:St) (w1 wr:World):Prop where
 own:wr.heap[g1]?=some (.cells (zY (wd m)) 216 (0,0))
 vv:wr.heap[g2]?=some (.cells (yF st.get) 215 (0,0))
 below:Below w1.heap.size w1 wr
 low:w1.heap.size<=g2
 ne:g1≠g2
theorem kr(f:Nat->BitVec 32)(j:Nat)(h:j<8):(yF f)[j]?=some (wv (f j)):=by simp[yF,h]
theorem zb3(f:Nat->BitVec 32)(k:Nat)(x:BitVec 32):(yF f).setIfInBounds k (wv x)=yF (λj=>if j=k then x else f j):=by
 apply Array.ext
 ·simp[yF]
 ·intro i h1 h2
  have h3:i<8:=by simpa[yF] using h2
  rw[Array.getElem_setIfInBounds (by simpa using h1)]
  by_cases hk:k=i
  ·subst hk;simp[yF]
  ·rw[if_neg hk];simp[yF,show¬ i=k from λe=>hk e.symm]
theorem Js(f g:Nat->BitVec 32)(h: ∀j,j<8->f j=g j):yF f=yF g:=by
 unfold yF
 rw[List.map_congr_left (λj hj=>by rw[h j (List.mem_range.1 hj)])]
theorem RoundsW.start{g1:Nat}{m:Nat->UInt8}{s:St}{w1 wr:World}(h:OwnW g1 (yP m 64) w1 wr):
  RoundsW g1 wr.heap.size m s w1 ((wr.alloc (.cells (yF (λ_=>0)) 215)).setRow wr.heap.size (yF s.get)):=by
 have hlt:=lt_of_block h.own
 refine⟨?_,setRow_heap _ _ _ _ _ _ (heap_alloc_new wr _),below_setRow (h.below.alloc h.below.size _) h.below.size _,h.below.size,Nat.ne_of_lt hlt⟩
 rw[setRow_other _ _ _ _ (by omega),Below.heap_alloc _ _ _ hlt,h.own,KO]
theorem RoundsW.drewN{g1 g2:Nat}{m:Nat->UInt8}{s:St}{w1 wr:World}(h:RoundsW g1 g2 m s w1 wr)(n:Nat):RoundsW g1 g2 m s w1 (wr.drewN n):=
 ⟨h.own,h.vv,h.below.trans ⟨rfl,rfl,rfl,Nat.le_refl _,λ_ _=>rfl⟩,h.low,h.ne⟩
theorem RoundsW.step{g1 g2:Nat}{m:Nat->UInt8}{s s':St}{w1 wr:World}(h:RoundsW g1 g2 m s w1 wr):RoundsW g1 g2 m s' w1 (wr.setRow g2 (yF s'.get)):=
 ⟨(setRow_other _ _ _ _ h.ne).trans h.own,setRow_heap _ _ _ _ _ _ h.vv,below_setRow h.below h.low _,h.low,h.ne⟩
theorem RoundsW.cell{g1 g2:Nat}{m:Nat->UInt8}{s:St}{w1 wr:World}(h:RoundsW g1 g2 m s w1 wr)(j:Nat)(hj:j<8):wr.cell? ⟨g2,j,none⟩=some (wv (s.get j)):=
 (cell_of_row wr g2 j _ _ _ h.vv).trans (kr _ j hj)
structure AddW (hB g2:Nat) (s f:St) (k:Nat) (w1 wr:World):Prop where
 hh:wr.heap[hB]?=some (.cells (yF (mix s f k)) 215 (0,0))
 vv:wr.heap[g2]?=some (.cells (yF f.get) 215 (0,0))
 only:OnlyB hB w1 wr
 ne:g2≠hB
theorem AddW.step{hB g2:Nat}{s f:St}{k:Nat}{w1 wr:World}(h:AddW hB g2 s f k w1 wr)(hk:k<8):AddW hB g2 s f (k+1) w1 (wr.setCell ⟨hB,k,none⟩ (wv (s.get k+f.get k))).drew:=by
 refine⟨?_,(heap_setCell_other wr ⟨hB,k,none⟩ g2 _ h.ne).trans h.vv,(h.only.setCell (p:=⟨hB,k,none⟩) (.inl rfl) _).drewN 1,h.ne⟩
 show(wr.setCell ⟨hB,k,none⟩ (wv (s.get k+f.get k))).heap[hB]?=_
 rw[heap_setCell_same wr hB k _ _ _ h.hh,zb3]
 congr 3
 funext j
 unfold mix
 by_cases h1:j=k
 ·subst h1;simp
 ·rw[if_neg h1]
  by_cases h2:j<k
  ·rw[if_pos h2,if_pos (by omega)]
  ·rw[if_neg h2,if_neg (by omega)]
theorem MainW.next{w wo wr:World}{P:List UInt8}{g c hB kB g2:Nat}{s f:St}(h:MainW w P (some ⟨g,0,none⟩) c hB kB s wo)(hl:0<P.length)(ha:AddW hB g2 s f 8 wo wr):
  MainW w P (some ⟨g,0,none⟩) c hB kB (qV s f) wr:=by
 have hp:=h.half.pad
 have hg:g≠hB:=by
  obtain⟨_,⟨e,hn⟩|⟨g',cap,cur,e,_,hcur,_⟩⟩:=hp
  ·omega
  ·injection e with e1
   injection e1 with e1
   injection e1 with e1
   subst e1
   intro e2
   rw[e2,h.half.hh]at hcur
   injection hcur with e3
   injection e3 with _ e4
   exact absurd e4 (by decide)
 have hk:kB<wo.heap.size:=lt_of_block h.kk
 refine⟨⟨?_, ?_,h.half.below.trans (ha.only.below h.half.low h.half.below.size),h.half.low⟩,(ha.only.block kB hk h.ne.symm).trans h.kk,h.ne⟩
 ·exact World.ownsRow.kept hp (⟨ha.only.os,ha.only.tape,ha.only.output,ha.only.size,λk hk2 hne=>ha.only.block k hk2 (λe=>hne (by rw[e]))⟩:wo.grownBy wr (some hB)) (.inr (by intro e;injection e with e;exact hg e))
 ·rw[ha.hh,Js (mix s f 8) (qV s f).get λj hj=>(if_pos hj).trans (Xn s f j).symm]
theorem K1(w:World)(n:Int): ∀(j:Nat) u,[Value.int .u8 n][j]?=some u->(w.alloc (.cells #[.int .u8 n] 5)).cell? ((⟨w.heap.size,0,none⟩:Addr).add j)=some u:=by
 intro j u hj
 match j with
 |0=>simp at hj;subst hj;simp[Addr.add]
 |j+1=>simp at hj
theorem V1(n:Int): ∀u∈[Value.int .u8 n],u.oneCell'=true:=by simp[Value.oneCell']
theorem XP{base:Nat}{a:Option Addr}{c:Nat}{l:List UInt8}{w:World}(h:Owns base a c l w): ∀k,(Value.slice a l.length c).ownBlock=some k->base<=k:=λk hk=>(World.ownsRow.lt h k hk).1
def xZ:Code->List Code
 | .loop c=>c::xZ c
 | .seq a b=>xZ a++xZ b
 | .block _ c=>xZ c
 | .scope c=>xZ c
 | .cond _ a b=>xZ a++xZ b
 |_=>[]
noncomputable def body(n:Nat):Code:=((Tryz.f112.body.map xZ).getD []).getD n .skip
theorem loop4(w:World)(P:List UInt8)(gP c5 o hB kB:Nat)(s:St)(hP1:(P.length:Int)<=1000000200)(h64:o+64<=P.length)(wo wx:World)(hwx:OwnW wo.heap.size (yP (λi=>P.getD (o+i) 0) 0) wo wx)(hM:MainW w P (some ⟨gP,0,none⟩) c5 hB kB s wo)(Q:Exit->Act->World->Prop)
  (k0 k1 k2 k4 k5 k6 k7 k13 k14 k15 k16 k17 k18 k19 k20 k21 k22 k23 k24 k25 k26 k27 k28 k29 k30 k31 k32 k33 k34 k35 k36 k37 k38 k39 k40 k41 k42 k43 k44 k45 k46 k47 k48 k49 k50 k51 k52 k53 k54 k55 k56 k57 k58 k59 k158 k159 k160 k161 k162 k163 k164 k165 k166 k167 k168 k169 k170 k171 k172 k173 k174 k175 k176 k177 k178 k179 k180 k181 k182 k183 k184 k185 k186 k187 k188 k189 k190 k191 k192 k193 k194 k195 k196 k197 k198 k199 k200 k201 k202 k203 k204 k205 k206 k207 k208 k209 k210 k211 k212 k213 k214 k215 k216 k217 k218 k219 k220 k221 k222 k223 k224 k225 k226 k227 k228 k229 k230 k231 k232 k233 k234 k235 k236 k237 k238 k239 k240 k241 k242 k243 k244 k245 k246 k247 k248 k249 k250 k251 k252 k253 k254 k255 k256 k257 k258 k259 k260 k261 k262 k263 k264 k265 k266 k267 k268 k269 k270 k271 k272 k273 k274:Value) (v11 v12 v60 v61 v62 v63 v64 v65 v66 v67 v68 v69 v70 v71 v72 v73 v74 v75 v76 v77 v78 v79 v80 v81 v82 v83 v84 v85 v86 v87 v88 v89 v90 v91 v92 v93 v94 v95 v96 v97 v98 v99 v100 v101 v102 v103 v104 v105 v106 v107 v108 v109 v110 v111 v112 v113 v114 v115 v116 v117 v118 v119 v120 v121 v122 v123 v124 v125 v126 v127 v128 v129 v130 v131 v132 v133 v134 v135 v136 v137 v138 v139 v140 v141 v142 v143 v144 v145 v146 v147 v148 v149 v150 v151 v152 v153 v154 v155 v156 v157:Value)
  (hexit: ∀(v11 v12 v60 v61 v62 v63 v64 v65 v66 v67 v68 v69 v70 v71 v72 v73 v74 v75 v76 v77 v78 v79 v80 v81 v82 v83 v84 v85 v86 v87 v88 v89 v90 v91 v92 v93 v94 v95 v96 v97 v98 v99 v100 v101 v102 v103 v104 v105 v106 v107 v108 v109 v110 v111 v112 v113 v114 v115 v116 v117 v118 v119 v120 v121 v122 v123 v124 v125 v126 v127 v128 v129 v130 v131 v132 v133 v134 v135 v136 v137 v138 v139 v140 v141 v142 v143 v144 v145 v146 v147 v148 v149 v150 v151 v152 v153 v154 v155 v156 v157 v10:Value) (wr:World),OwnW wo.heap.size (yP (λi=>P.getD (o+i) 0) 64) wo wr->Q (.exit 6) {tmps:= #[k0,k1,k2,.slice (some ⟨gP,0,none⟩) P.length c5,k4,k5,k6,k7,.int .i64 (o:Int),.pointer (some ⟨wo.heap.size,0,none⟩),v10,v11,v12,k13,k14,k15,k16,k17,k18,k19,k20,k21,k22,k23,k24,k25,k26,k27,k28,k29,k30,k31,k32,k33,k34,k35,k36,k37,k38,k39,k40,k41,k42,k43,k44,k45,k46,k47,k48,k49,k50,k51,k52,k53,k54,k55,k56,k57,k58,k59,v60,v61,v62,v63,v64,v65,v66,v67,v68,v69,v70,v71,v72,v73,v74,v75,v76,v77,v78,v79,v80,v81,v82,v83,v84,v85,v86,v87,v88,v89,v90,v91,v92,v93,v94,v95,v96,v97,v98,v99,v100,v101,v102,v103,v104,v105,v106,v107,v108,v109,v110,v111,v112,v113,v114,v115,v116,v117,v118,v119,v120,v121,v122,v123,v124,v125,v126,v127,v128,v129,v130,v131,v132,v133,v134,v135,v136,v137,v138,v139,v140,v141,v142,v143,v144,v145,v146,v147,v148,v149,v150,v151,v152,v153,v154,v155,v156,v157,k158,k159,k160,k161,k162,k163,k164,k165,k166,k167,k168,k169,k170,k171,k172,k173,k174,k175,k176,k177,k178,k179,k180,k181,k182,k183,k184,k185,k186,k187,k188,k189,k190,k191,k192,k193,k194,k195,k196,k197,k198,k199,k200,k201,k202,k203,k204,k205,k206,k207,k208,k209,k210,k211,k212,k213,k214,k215,k216,k217,k218,k219,k220,k221,k222,k223,k224,k225,k226,k227,k228,k229,k230,k231,k232,k233,k234,k235,k236,k237,k238,k239,k240,k241,k242,k243,k244,k245,k246,k247,k248,k249,k250,k251,k252,k253,k254,k255,k256,k257,k258,k259,k260,k261,k262,k263,k264,k265,k266,k267,k268,k269,k270,k271,k272,k273,k274],defers:=[]} wr):
  Code.wp prog (.loop (body 3)) Q {tmps:= #[k0,k1,k2,.slice (some ⟨gP,0,none⟩) P.length c5,k4,k5,k6,k7,.int .i64 (o:Int),.pointer (some ⟨wo.heap.size,0,none⟩),.int .i64 0,v11,v12,k13,k14,k15,k16,k17,k18,k19,k20,k21,k22,k23,k24,k25,k26,k27,k28,k29,k30,k31,k32,k33,k34,k35,k36,k37,k38,k39,k40,k41,k42,k43,k44,k45,k46,k47,k48,k49,k50,k51,k52,k53,k54,k55,k56,k57,k58,k59,v60,v61,v62,v63,v64,v65,v66,v67,v68,v69,v70,v71,v72,v73,v74,v75,v76,v77,v78,v79,v80,v81,v82,v83,v84,v85,v86,v87,v88,v89,v90,v91,v92,v93,v94,v95,v96,v97,v98,v99,v100,v101,v102,v103,v104,v105,v106,v107,v108,v109,v110,v111,v112,v113,v114,v115,v116,v117,v118,v119,v120,v121,v122,v123,v124,v125,v126,v127,v128,v129,v130,v131,v132,v133,v134,v135,v136,v137,v138,v139,v140,v141,v142,v143,v144,v145,v146,v147,v148,v149,v150,v151,v152,v153,v154,v155,v156,v157,k158,k159,k160,k161,k162,k163,k164,k165,k166,k167,k168,k169,k170,k171,k172,k173,k174,k175,k176,k177,k178,k179,k180,k181,k182,k183,k184,k185,k186,k187,k188,k189,k190,k191,k192,k193,k194,k195,k196,k197,k198,k199,k200,k201,k202,k203,k204,k205,k206,k207,k208,k209,k210,k211,k212,k213,k214,k215,k216,k217,k218,k219,k220,k221,k222,k223,k224,k225,k226,k227,k228,k229,k230,k231,k232,k233,k234,k235,k236,k237,k238,k239,k240,k241,k242,k243,k244,k245,k246,k247,k248,k249,k250,k251,k252,k253,k254,k255,k256,k257,k258,k259,k260,k261,k262,k263,k264,k265,k266,k267,k268,k269,k270,k271,k272,k273,k274],defers:=[]} wx:=by
 have HXT:=hid hexit
 clear hexit
 conv=>arg 2;arg 1;whnf
 dsimp only
 go_loopw [10] (λi wr=> ∃t:Nat,t<=64/\i= .int .i64 t/\OwnW wo.heap.size (yP (λi=>P.getD (o+i) 0) t) wo wr) (λi _=>64-(intOf i).toNat)
 case atStart=>exact⟨0,by omega,rfl,hwx⟩
 case round=>
  obtain⟨t,ht,rfl,hr⟩:=hrel
  by_cases ht64:t<64
  ·by_cases ht16:t<16
   ·have hb:=λj (hj:j<64)=>(hM.half.pad.under hr.below (o+j) (by omega))
    have b0:=hb (4*t) (by omega)
    have b1:=hb (4*t+1) (by omega)
    have b2:=hb (4*t+2) (by omega)
    have b3:=hb (4*t+3) (by omega)
    rw[<-Nat.add_assoc]at b1 b2 b3
    have hwv:=Q1 P o t ht16
    generalize hmm:(λi=>P.getD (o+i) 0)=m at hr hwv|-
    clear hmm
    rw[<-Nat.add_assoc,<-Nat.add_assoc,<-Nat.add_assoc]at hwv
    have hx0:((o:Int)+4*(t:Int))=((o+4*t:Nat):Int):=by omega
    have hx1:o+4*t+4<=P.length:=by omega
    generalize o+4*t=i1 at b0 b1 b2 b3 hx0 hx1 hwv
    simp only[List.getD_eq_getElem?_getD]at hwv
    have HW:=hid hwv
    clear hwv
    have e0:IntKind.i64.wrap (4*(t:Int))=4*(t:Int):=IntWalk.i64_in _ (by omega)
    have e1:IntKind.i64.wrap ((o:Int)+4*(t:Int))=(i1:Int):=by rw[<-hx0];exact IntWalk.i64_in _ (by omega)
    have e2:IntKind.i64.wrap ((i1:Int)+1)=(i1:Int)+1:=IntWalk.i64_in _ (by omega)
    have e3:IntKind.i64.wrap ((i1:Int)+2)=(i1:Int)+2:=IntWalk.i64_in _ (by omega)
    have e4:IntKind.i64.wrap ((i1:Int)+3)=(i1:Int)+3:=IntWalk.i64_in _ (by omega)
    have l0:(i1:Int)<(P.length:Int):=by omega
    have l1:(i1:Int)+1<(P.length:Int):=by omega
    have l2:(i1:Int)+2<(P.length:Int):=by omega
    have l3:(i1:Int)+3<(P.length:Int):=by omega
    have m0:i1<P.length:=by omega
    have m1:i1+1<P.length:=by omega
    have m2:i1+2<P.length:=by omega
    have m3:i1+3<P.length:=by omega
    have ht0:(t:Int)<64:=by omega
    have ht1:(t:Int)<16:=by omega
    have hd:=hr.cell t ht64
    have hf:=hr.free t
    have t1:((i1:Int)+1).toNat=i1+1:=by omega
    have t2:((i1:Int)+2).toNat=i1+2:=by omega
    have t3:((i1:Int)+3).toNat=i1+3:=by omega
    have n1:(0:Int)<=(i1:Int)+1:=by omega
    have n2:(0:Int)<=(i1:Int)+2:=by omega
    have n3:(0:Int)<=(i1:Int)+3:=by omega
    clear hx0 hb
    go_wp2_with fail
    go_still_tail 43,(by kernel_rfl)
    clear e0 e1 e2 e3 e4 t1 t2 t3
    change wpList _ _ _ _ _ wr.drew
    go_wp2_with fail
    go_roundw
    case rel=>exact⟨t+1,by omega,by go_num,hr.step _ (by have h:=HW.out;rw[List.getElem?_eq_getElem m0,List.getElem?_eq_getElem m1,List.getElem?_eq_getElem m2,List.getElem?_eq_getElem m3]at h;exact h)⟩
    case measure=>simp[intOf];omega
   ·have ht16':16<=t:=by omega
    generalize hmm:(λi=>P.getD (o+i) 0)=m at hr|-
    clear hmm
    have p15:yP m t (t-15)=wd m (t-15):=if_pos (by omega)
    have p2:yP m t (t-2)=wd m (t-2):=if_pos (by omega)
    have c15:=hr.cell (t-15) (by omega)
    have c2':=hr.cell (t-2) (by omega)
    rw[p15]at c15
    rw[p2]at c2'
    clear p15 p2
    have hj15:(t:Int)-15<64:=by omega
    have hj2:(t:Int)-2<64:=by omega
    have ht0:(t:Int)<64:=by omega
    have ht1:(16:Int)<=(t:Int):=by omega
    have g15:(15:Int)<=(t:Int):=by omega
    have g2:(2:Int)<=(t:Int):=by omega
    go_wp2_with fail
    go_quiet ((go_at_call 156;exact Calls.quiet_of_same (Xx _ _ _ (by omega) (by omega))))
    replace hr:=hr.drewN nq
    clear c15 c2'
    generalize World.drewN wr nq=wq at hr|-
    have p2:yP m t (t-2)=wd m (t-2):=if_pos (by omega)
    have c2':=hr.cell (t-2) (by omega)
    rw[p2]at c2'
    clear p2
    go_wp2_with fail
    go_quiet ((go_at_call 156;exact Calls.quiet_of_same (Xx _ _ _ (by omega) (by omega))))
    replace hr:=hr.drewN nq
    clear c2'
    generalize World.drewN wq nq=wz at hr|-
    have p16:yP m t (t-16)=wd m (t-16):=if_pos (by omega)
    have p7:yP m t (t-7)=wd m (t-7):=if_pos (by omega)
    have c16:=hr.cell (t-16) (by omega)
    have c7:=hr.cell (t-7) (by omega)
    rw[p16]at c16
    rw[p7]at c7
    clear p16 p7
    have hd:=hr.cell t ht64
    have hf:=hr.free t
    have hj16:(t:Int)-16<64:=by omega
    have hj7:(t:Int)-7<64:=by omega
    have g7:(7:Int)<=(t:Int):=by omega
    go_wp2_with fail
    have e16:IntKind.i64.wrap ((t:Int)-16)=(t:Int)-16:=IntWalk.i64_in _ (by omega)
    have e7:IntKind.i64.wrap ((t:Int)-7)=(t:Int)-7:=IntWalk.i64_in _ (by omega)
    have t16:((t:Int)-16).toNat=t-16:=by omega
    have t7:((t:Int)-7).toNat=t-7:=by omega
    go_still_tail 15,(by kernel_rfl)
    clear e16 e7 t16 t7
    change wpList _ _ _ _ _ wz.drew
    go_wp2_with fail
    go_roundw
    case rel=>exact⟨t+1,by omega,by go_num,hr.step _ (by rw[KP m t ht16'];exact zaj _ _ _ _)⟩
    case measure=>simp[intOf];omega
  ·have hr2:OwnW wo.heap.size (yP (λi=>P.getD (o+i) 0) 64) wo wr:=by
    obtain rfl:t=64:=by omega
    exact hr
   have hge:(64:Int)<=(t:Int):=by omega
   clear hr ht ht64
   go_wp2_with fail
   exact HXT.out _ _ _ _ _ _ _ _ _ _ _ _ _ _ _ _ _ _ _ _ _ _ _ _ _ _ _ _ _ _ _ _ _ _ _ _ _ _ _ _ _ _ _ _ _ _ _ _ _ _ _ _ _ _ _ _ _ _ _ _ _ _ _ _ _ _ _ _ _ _ _ _ _ _ _ _ _ _ _ _ _ _ _ _ _ _ _ _ _ _ _ _ _ _ _ _ _ _ _ _ _ wr hr2
theorem loop5(w:World)(P:List UInt8)(gP c5 hB kB gw gv:Nat)(m:Nat->UInt8)(s:St)(wo wx:World)(hR:RoundsW gw gv m s wo wx)(hM:MainW w P (some ⟨gP,0,none⟩) c5 hB kB s wo)(Q:Exit->Act->World->Prop)
  (k0 k1 k2 k3 k4 k5 k6 k8 k10 k11 k12 k20 k21 k22 k23 k24 k25 k26 k27 k28 k29 k30 k31 k32 k33 k34 k35 k36 k37 k38 k39 k40 k41 k42 k43 k44 k45 k46 k47 k48 k49 k50 k51 k52 k53 k54 k55 k56 k57 k58 k59 k60 k61 k62 k63 k64 k65 k66 k67 k68 k69 k70 k71 k72 k73 k74 k75 k76 k77 k78 k79 k80 k81 k82 k83 k84 k85 k86 k87 k88 k89 k90 k91 k92 k93 k94 k95 k96 k97 k98 k99 k100 k101 k102 k103 k104 k105 k106 k107 k108 k109 k110 k111 k112 k113 k114 k115 k116 k117 k118 k119 k120 k121 k122 k123 k124 k125 k126 k127 k128 k129 k130 k131 k132 k133 k134 k135 k136 k137 k138 k139 k140 k141 k142 k143 k144 k145 k146 k147 k148 k149 k150 k151 k152 k153 k154 k155 k156 k157 k158 k250 k251 k252 k253 k254 k255 k256 k257 k258 k259 k260 k261 k262 k263 k264 k265 k266 k267 k268 k269 k270 k271 k272 k273 k274:Value) (v15 v16 v17 v18 v19 v159 v160 v161 v162 v163 v164 v165 v166 v167 v168 v169 v170 v171 v172 v173 v174 v175 v176 v177 v178 v179 v180 v181 v182 v183 v184 v185 v186 v187 v188 v189 v190 v191 v192 v193 v194 v195 v196 v197 v198 v199 v200 v201 v202 v203 v204 v205 v206 v207 v208 v209 v210 v211 v212 v213 v214 v215 v216 v217 v218 v219 v220 v221 v222 v223 v224 v225 v226 v227 v228 v229 v230 v231 v232 v233 v234 v235 v236 v237 v238 v239 v240 v241 v242 v243 v244 v245 v246 v247 v248 v249:Value)
  (hexit: ∀(v15 v16 v17 v18 v19 v159 v160 v161 v162 v163 v164 v165 v166 v167 v168 v169 v170 v171 v172 v173 v174 v175 v176 v177 v178 v179 v180 v181 v182 v183 v184 v185 v186 v187 v188 v189 v190 v191 v192 v193 v194 v195 v196 v197 v198 v199 v200 v201 v202 v203 v204 v205 v206 v207 v208 v209 v210 v211 v212 v213 v214 v215 v216 v217 v218 v219 v220 v221 v222 v223 v224 v225 v226 v227 v228 v229 v230 v231 v232 v233 v234 v235 v236 v237 v238 v239 v240 v241 v242 v243 v244 v245 v246 v247 v248 v249 v14:Value) (wr:World),RoundsW gw gv m (zX m s 64) wo wr->Q (.exit 8) {tmps:= #[k0,k1,k2,k3,k4,k5,k6,.pointer (some ⟨kB,0,none⟩),k8,.pointer (some ⟨gw,0,none⟩),k10,k11,k12,.pointer (some ⟨gv,0,none⟩),v14,v15,v16,v17,v18,v19,k20,k21,k22,k23,k24,k25,k26,k27,k28,k29,k30,k31,k32,k33,k34,k35,k36,k37,k38,k39,k40,k41,k42,k43,k44,k45,k46,k47,k48,k49,k50,k51,k52,k53,k54,k55,k56,k57,k58,k59,k60,k61,k62,k63,k64,k65,k66,k67,k68,k69,k70,k71,k72,k73,k74,k75,k76,k77,k78,k79,k80,k81,k82,k83,k84,k85,k86,k87,k88,k89,k90,k91,k92,k93,k94,k95,k96,k97,k98,k99,k100,k101,k102,k103,k104,k105,k106,k107,k108,k109,k110,k111,k112,k113,k114,k115,k116,k117,k118,k119,k120,k121,k122,k123,k124,k125,k126,k127,k128,k129,k130,k131,k132,k133,k134,k135,k136,k137,k138,k139,k140,k141,k142,k143,k144,k145,k146,k147,k148,k149,k150,k151,k152,k153,k154,k155,k156,k157,k158,v159,v160,v161,v162,v163,v164,v165,v166,v167,v168,v169,v170,v171,v172,v173,v174,v175,v176,v177,v178,v179,v180,v181,v182,v183,v184,v185,v186,v187,v188,v189,v190,v191,v192,v193,v194,v195,v196,v197,v198,v199,v200,v201,v202,v203,v204,v205,v206,v207,v208,v209,v210,v211,v212,v213,v214,v215,v216,v217,v218,v219,v220,v221,v222,v223,v224,v225,v226,v227,v228,v229,v230,v231,v232,v233,v234,v235,v236,v237,v238,v239,v240,v241,v242,v243,v244,v245,v246,v247,v248,v249,k250,k251,k252,k253,k254,k255,k256,k257,k258,k259,k260,k261,k262,k263,k264,k265,k266,k267,k268,k269,k270,k271,k272,k273,k274],defers:=[]} wr):
  Code.wp prog (.loop (body 4)) Q {tmps:= #[k0,k1,k2,k3,k4,k5,k6,.pointer (some ⟨kB,0,none⟩),k8,.pointer (some ⟨gw,0,none⟩),k10,k11,k12,.pointer (some ⟨gv,0,none⟩),.int .i64 0,v15,v16,v17,v18,v19,k20,k21,k22,k23,k24,k25,k26,k27,k28,k29,k30,k31,k32,k33,k34,k35,k36,k37,k38,k39,k40,k41,k42,k43,k44,k45,k46,k47,k48,k49,k50,k51,k52,k53,k54,k55,k56,k57,k58,k59,k60,k61,k62,k63,k64,k65,k66,k67,k68,k69,k70,k71,k72,k73,k74,k75,k76,k77,k78,k79,k80,k81,k82,k83,k84,k85,k86,k87,k88,k89,k90,k91,k92,k93,k94,k95,k96,k97,k98,k99,k100,k101,k102,k103,k104,k105,k106,k107,k108,k109,k110,k111,k112,k113,k114,k115,k116,k117,k118,k119,k120,k121,k122,k123,k124,k125,k126,k127,k128,k129,k130,k131,k132,k133,k134,k135,k136,k137,k138,k139,k140,k141,k142,k143,k144,k145,k146,k147,k148,k149,k150,k151,k152,k153,k154,k155,k156,k157,k158,v159,v160,v161,v162,v163,v164,v165,v166,v167,v168,v169,v170,v171,v172,v173,v174,v175,v176,v177,v178,v179,v180,v181,v182,v183,v184,v185,v186,v187,v188,v189,v190,v191,v192,v193,v194,v195,v196,v197,v198,v199,v200,v201,v202,v203,v204,v205,v206,v207,v208,v209,v210,v211,v212,v213,v214,v215,v216,v217,v218,v219,v220,v221,v222,v223,v224,v225,v226,v227,v228,v229,v230,v231,v232,v233,v234,v235,v236,v237,v238,v239,v240,v241,v242,v243,v244,v245,v246,v247,v248,v249,k250,k251,k252,k253,k254,k255,k256,k257,k258,k259,k260,k261,k262,k263,k264,k265,k266,k267,k268,k269,k270,k271,k272,k273,k274],defers:=[]} wx:=by
 have HXT:=hid hexit
 clear hexit
 conv=>arg 2;arg 1;whnf
 dsimp only
 go_loopw [14] (λi wr=> ∃t:Nat,t<=64/\i= .int .i64 t/\RoundsW gw gv m (zX m s t) wo wr) (λi _=>64-(intOf i).toNat)
 case atStart=>exact⟨0,by omega,rfl,hR⟩
 case round=>
  clear hR
  obtain⟨t,ht,rfl,hR⟩:=hrel
  by_cases ht64:t<64
  ·have HST:=hid (show zX m s (t+1)=Sha.round (zX m s t) (kAt t) (wd m t)from rfl)
   generalize zX m s t=st at hR HST
   have ht0:(t:Int)<64:=by omega
   have c4:=hR.cell 4 (by omega)
   simp only[St.get]at c4
   go_wp2_with fail
   go_quiet ((go_at_call 156;exact Calls.quiet_of_same (Xx _ _ _ (by omega) (by omega))))
   replace hR:=hR.drewN nq
   clear c4
   generalize World.drewN wr nq=wq at hR|-
   have c4:=hR.cell 4 (by omega)
   have c5:=hR.cell 5 (by omega)
   have c6:=hR.cell 6 (by omega)
   have c7:=hR.cell 7 (by omega)
   simp only[St.get]at c4 c5 c6 c7
   have hkk:=(cell_of_row wq kB t _ _ _ ((hR.below.block kB (lt_of_block hM.kk)).trans hM.kk)).trans (uK _ t ht64)
   have hww:=(cell_of_row wq gw t _ _ _ hR.own).trans (uK _ t ht64)
   go_wp2_with fail
   go_quiet (fail)
   replace hR:=hR.drewN nq
   clear c4 c5 c6 c7 hkk hww
   generalize World.drewN wq nq=wz at hR|-
   have c0:=hR.cell 0 (by omega)
   simp only[St.get]at c0
   go_wp2_with fail
   go_quiet ((go_at_call 156;exact Calls.quiet_of_same (Xx _ _ _ (by omega) (by omega))))
   replace hR:=hR.drewN nq
   clear c0
   generalize World.drewN wz nq=wy at hR|-
   have c0:=hR.cell 0 (by omega)
   have c1:=hR.cell 1 (by omega)
   have c2':=hR.cell 2 (by omega)
   have c3':=hR.cell 3 (by omega)
   have c4:=hR.cell 4 (by omega)
   have c5:=hR.cell 5 (by omega)
   have c6:=hR.cell 6 (by omega)
   simp only[St.get]at c0 c1 c2' c3' c4 c5 c6
   go_wp2_with (first
    |(refine wpList_store_row rfl 215 _ _ rfl gv (yF (Sha.round st (kAt t) (wd m t)).get) rfl rfl 215 (yF st.get) hR.vv (by rw[yB];kernel_rfl) (by rw[yB,yB]) (Zv _) ?_)
    |fail)
   go_roundw
   case rel=>exact⟨t+1,by omega,by go_num,by rw[HST.out];exact hR.step⟩
   case measure=>simp[intOf];omega
  ·have hR2:RoundsW gw gv m (zX m s 64) wo wr:=by
    obtain rfl:t=64:=by omega
    exact hR
   have hge:(64:Int)<=(t:Int):=by omega
   clear hR ht ht64
   go_wp2_with fail
   exact HXT.out _ _ _ _ _ _ _ _ _ _ _ _ _ _ _ _ _ _ _ _ _ _ _ _ _ _ _ _ _ _ _ _ _ _ _ _ _ _ _ _ _ _ _ _ _ _ _ _ _ _ _ _ _ _ _ _ _ _ _ _ _ _ _ _ _ _ _ _ _ _ _ _ _ _ _ _ _ _ _ _ _ _ _ _ _ _ _ _ _ _ _ _ _ _ _ _ _ wr hR2
theorem loop6(hB gv:Nat)(s f:St)(wo wx:World)(hA:AddW hB gv s f 0 wo wx)(Q:Exit->Act->World->Prop)
  (k0 k1 k2 k3 k4 k5 k7 k8 k9 k10 k11 k12 k14 k15 k16 k17 k18 k19 k21 k22 k23 k24 k25 k26 k27 k28 k29 k30 k31 k32 k33 k34 k35 k36 k37 k38 k39 k40 k41 k42 k43 k44 k45 k46 k47 k48 k49 k50 k51 k52 k53 k54 k55 k56 k57 k58 k59 k60 k61 k62 k63 k64 k65 k66 k67 k68 k69 k70 k71 k72 k73 k74 k75 k76 k77 k78 k79 k80 k81 k82 k83 k84 k85 k86 k87 k88 k89 k90 k91 k92 k93 k94 k95 k96 k97 k98 k99 k100 k101 k102 k103 k104 k105 k106 k107 k108 k109 k110 k111 k112 k113 k114 k115 k116 k117 k118 k119 k120 k121 k122 k123 k124 k125 k126 k127 k128 k129 k130 k131 k132 k133 k134 k135 k136 k137 k138 k139 k140 k141 k142 k143 k144 k145 k146 k147 k148 k149 k150 k151 k152 k153 k154 k155 k156 k157 k158 k159 k160 k161 k162 k163 k164 k165 k166 k167 k168 k169 k170 k171 k172 k173 k174 k175 k176 k177 k178 k179 k180 k181 k182 k183 k184 k185 k186 k187 k188 k189 k190 k191 k192 k193 k194 k195 k196 k197 k198 k199 k200 k201 k202 k203 k204 k205 k206 k207 k208 k209 k210 k211 k212 k213 k214 k215 k216 k217 k218 k219 k220 k221 k222 k223 k224 k225 k226 k227 k228 k229 k230 k231 k232 k233 k234 k235 k236 k237 k238 k239 k240 k241 k242 k243 k244 k245 k246 k247 k248 k249 k263 k264 k265 k266 k267 k268 k269 k270 k271 k272 k273 k274:Value) (v250 v251 v252 v253 v254 v255 v256 v257 v258 v259 v260 v261 v262:Value)
  (hexit: ∀(v250 v251 v252 v253 v254 v255 v256 v257 v258 v259 v260 v261 v262 v20:Value) (wr:World),AddW hB gv s f 8 wo wr->Q (.exit 10) {tmps:= #[k0,k1,k2,k3,k4,k5,.pointer (some ⟨hB,0,none⟩),k7,k8,k9,k10,k11,k12,.pointer (some ⟨gv,0,none⟩),k14,k15,k16,k17,k18,k19,v20,k21,k22,k23,k24,k25,k26,k27,k28,k29,k30,k31,k32,k33,k34,k35,k36,k37,k38,k39,k40,k41,k42,k43,k44,k45,k46,k47,k48,k49,k50,k51,k52,k53,k54,k55,k56,k57,k58,k59,k60,k61,k62,k63,k64,k65,k66,k67,k68,k69,k70,k71,k72,k73,k74,k75,k76,k77,k78,k79,k80,k81,k82,k83,k84,k85,k86,k87,k88,k89,k90,k91,k92,k93,k94,k95,k96,k97,k98,k99,k100,k101,k102,k103,k104,k105,k106,k107,k108,k109,k110,k111,k112,k113,k114,k115,k116,k117,k118,k119,k120,k121,k122,k123,k124,k125,k126,k127,k128,k129,k130,k131,k132,k133,k134,k135,k136,k137,k138,k139,k140,k141,k142,k143,k144,k145,k146,k147,k148,k149,k150,k151,k152,k153,k154,k155,k156,k157,k158,k159,k160,k161,k162,k163,k164,k165,k166,k167,k168,k169,k170,k171,k172,k173,k174,k175,k176,k177,k178,k179,k180,k181,k182,k183,k184,k185,k186,k187,k188,k189,k190,k191,k192,k193,k194,k195,k196,k197,k198,k199,k200,k201,k202,k203,k204,k205,k206,k207,k208,k209,k210,k211,k212,k213,k214,k215,k216,k217,k218,k219,k220,k221,k222,k223,k224,k225,k226,k227,k228,k229,k230,k231,k232,k233,k234,k235,k236,k237,k238,k239,k240,k241,k242,k243,k244,k245,k246,k247,k248,k249,v250,v251,v252,v253,v254,v255,v256,v257,v258,v259,v260,v261,v262,k263,k264,k265,k266,k267,k268,k269,k270,k271,k272,k273,k274],defers:=[]} wr):
  Code.wp prog (.loop (body 5)) Q {tmps:= #[k0,k1,k2,k3,k4,k5,.pointer (some ⟨hB,0,none⟩),k7,k8,k9,k10,k11,k12,.pointer (some ⟨gv,0,none⟩),k14,k15,k16,k17,k18,k19,.int .i64 0,k21,k22,k23,k24,k25,k26,k27,k28,k29,k30,k31,k32,k33,k34,k35,k36,k37,k38,k39,k40,k41,k42,k43,k44,k45,k46,k47,k48,k49,k50,k51,k52,k53,k54,k55,k56,k57,k58,k59,k60,k61,k62,k63,k64,k65,k66,k67,k68,k69,k70,k71,k72,k73,k74,k75,k76,k77,k78,k79,k80,k81,k82,k83,k84,k85,k86,k87,k88,k89,k90,k91,k92,k93,k94,k95,k96,k97,k98,k99,k100,k101,k102,k103,k104,k105,k106,k107,k108,k109,k110,k111,k112,k113,k114,k115,k116,k117,k118,k119,k120,k121,k122,k123,k124,k125,k126,k127,k128,k129,k130,k131,k132,k133,k134,k135,k136,k137,k138,k139,k140,k141,k142,k143,k144,k145,k146,k147,k148,k149,k150,k151,k152,k153,k154,k155,k156,k157,k158,k159,k160,k161,k162,k163,k164,k165,k166,k167,k168,k169,k170,k171,k172,k173,k174,k175,k176,k177,k178,k179,k180,k181,k182,k183,k184,k185,k186,k187,k188,k189,k190,k191,k192,k193,k194,k195,k196,k197,k198,k199,k200,k201,k202,k203,k204,k205,k206,k207,k208,k209,k210,k211,k212,k213,k214,k215,k216,k217,k218,k219,k220,k221,k222,k223,k224,k225,k226,k227,k228,k229,k230,k231,k232,k233,k234,k235,k236,k237,k238,k239,k240,k241,k242,k243,k244,k245,k246,k247,k248,k249,v250,v251,v252,v253,v254,v255,v256,v257,v258,v259,v260,v261,v262,k263,k264,k265,k266,k267,k268,k269,k270,k271,k272,k273,k274],defers:=[]} wx:=by
 have HXT:=hid hexit
 clear hexit
 conv=>arg 2;arg 1;whnf
 dsimp only
 go_loopw [20] (λi wr=> ∃k:Nat,k<=8/\i= .int .i64 k/\AddW hB gv s f k wo wr) (λi _=>8-(intOf i).toNat)
 case atStart=>exact⟨0,by omega,rfl,hA⟩
 case round=>
  clear hA
  obtain⟨k,hk,rfl,hA⟩:=hrel
  by_cases hk8:k<8
  ·have hk0:(k:Int)<8:=by omega
   have ca:wr.cell? ⟨hB,k,none⟩=some (wv (s.get k)):=by
    rw[cell_of_row wr hB k _ _ _ hA.hh,kr _ k hk8,mix,if_neg (by omega)]
   have cb:wr.cell? ⟨gv,k,none⟩=some (wv (f.get k)):=(cell_of_row wr gv k _ _ _ hA.vv).trans (kr _ k hk8)
   have hf:=frozen_of_row wr hB k _ _ hA.hh
   go_wp2_with fail
   go_still_tail 9,(by kernel_rfl)
   change wpList _ _ _ _ _ wr.drew
   go_wp2_with fail
   go_roundw
   case rel=>exact⟨k+1,by omega,by go_num,hA.step hk8⟩
   case measure=>simp[intOf];omega
  ·have hA2:AddW hB gv s f 8 wo wr:=by
    obtain rfl:k=8:=by omega
    exact hA
   have hge:(8:Int)<=(k:Int):=by omega
   clear hA hk hk8
   go_wp2_with fail
   exact HXT.out _ _ _ _ _ _ _ _ _ _ _ _ _ _ wr hA2
theorem zaq(w:World)(P:List UInt8)(gP c5 hB kB:Nat)(hmod:P.length%64=0)(hpos:0<P.length)(hP1:(P.length:Int)<=1000000200)(w7:World)(hM7:MainW w P (some ⟨gP,0,none⟩) c5 hB kB init w7)(Q:Exit->Act->World->Prop)
  (k0 k1 k2 k4 k5 k21 k22 k23 k24 k25 k26 k27 k28 k29 k30 k31 k32 k33 k34 k35 k36 k37 k38 k39 k40 k41 k42 k43 k44 k45 k46 k47 k48 k49 k50 k51 k52 k53 k263 k264 k265 k266 k267 k268 k269 k270 k271 k272 k273 k274:Value) (v9 v10 v11 v12 v13 v14 v15 v16 v17 v18 v19 v20 v54 v55 v56 v57 v58 v59 v60 v61 v62 v63 v64 v65 v66 v67 v68 v69 v70 v71 v72 v73 v74 v75 v76 v77 v78 v79 v80 v81 v82 v83 v84 v85 v86 v87 v88 v89 v90 v91 v92 v93 v94 v95 v96 v97 v98 v99 v100 v101 v102 v103 v104 v105 v106 v107 v108 v109 v110 v111 v112 v113 v114 v115 v116 v117 v118 v119 v120 v121 v122 v123 v124 v125 v126 v127 v128 v129 v130 v131 v132 v133 v134 v135 v136 v137 v138 v139 v140 v141 v142 v143 v144 v145 v146 v147 v148 v149 v150 v151 v152 v153 v154 v155 v156 v157 v158 v159 v160 v161 v162 v163 v164 v165 v166 v167 v168 v169 v170 v171 v172 v173 v174 v175 v176 v177 v178 v179 v180 v181 v182 v183 v184 v185 v186 v187 v188 v189 v190 v191 v192 v193 v194 v195 v196 v197 v198 v199 v200 v201 v202 v203 v204 v205 v206 v207 v208 v209 v210 v211 v212 v213 v214 v215 v216 v217 v218 v219 v220 v221 v222 v223 v224 v225 v226 v227 v228 v229 v230 v231 v232 v233 v234 v235 v236 v237 v238 v239 v240 v241 v242 v243 v244 v245 v246 v247 v248 v249 v250 v251 v252 v253 v254 v255 v256 v257 v258 v259 v260 v261 v262:Value)
  (hexit: ∀(v9 v10 v11 v12 v13 v14 v15 v16 v17 v18 v19 v20 v54 v55 v56 v57 v58 v59 v60 v61 v62 v63 v64 v65 v66 v67 v68 v69 v70 v71 v72 v73 v74 v75 v76 v77 v78 v79 v80 v81 v82 v83 v84 v85 v86 v87 v88 v89 v90 v91 v92 v93 v94 v95 v96 v97 v98 v99 v100 v101 v102 v103 v104 v105 v106 v107 v108 v109 v110 v111 v112 v113 v114 v115 v116 v117 v118 v119 v120 v121 v122 v123 v124 v125 v126 v127 v128 v129 v130 v131 v132 v133 v134 v135 v136 v137 v138 v139 v140 v141 v142 v143 v144 v145 v146 v147 v148 v149 v150 v151 v152 v153 v154 v155 v156 v157 v158 v159 v160 v161 v162 v163 v164 v165 v166 v167 v168 v169 v170 v171 v172 v173 v174 v175 v176 v177 v178 v179 v180 v181 v182 v183 v184 v185 v186 v187 v188 v189 v190 v191 v192 v193 v194 v195 v196 v197 v198 v199 v200 v201 v202 v203 v204 v205 v206 v207 v208 v209 v210 v211 v212 v213 v214 v215 v216 v217 v218 v219 v220 v221 v222 v223 v224 v225 v226 v227 v228 v229 v230 v231 v232 v233 v234 v235 v236 v237 v238 v239 v240 v241 v242 v243 v244 v245 v246 v247 v248 v249 v250 v251 v252 v253 v254 v255 v256 v257 v258 v259 v260 v261 v262 v8:Value) (wr:World),MainW w P (some ⟨gP,0,none⟩) c5 hB kB (xD P (P.length/64)) wr->Q (.exit 4) {tmps:= #[k0,k1,k2,.slice (some ⟨gP,0,none⟩) P.length c5,k4,k5,.pointer (some ⟨hB,0,none⟩),.pointer (some ⟨kB,0,none⟩),v8,v9,v10,v11,v12,v13,v14,v15,v16,v17,v18,v19,v20,k21,k22,k23,k24,k25,k26,k27,k28,k29,k30,k31,k32,k33,k34,k35,k36,k37,k38,k39,k40,k41,k42,k43,k44,k45,k46,k47,k48,k49,k50,k51,k52,k53,v54,v55,v56,v57,v58,v59,v60,v61,v62,v63,v64,v65,v66,v67,v68,v69,v70,v71,v72,v73,v74,v75,v76,v77,v78,v79,v80,v81,v82,v83,v84,v85,v86,v87,v88,v89,v90,v91,v92,v93,v94,v95,v96,v97,v98,v99,v100,v101,v102,v103,v104,v105,v106,v107,v108,v109,v110,v111,v112,v113,v114,v115,v116,v117,v118,v119,v120,v121,v122,v123,v124,v125,v126,v127,v128,v129,v130,v131,v132,v133,v134,v135,v136,v137,v138,v139,v140,v141,v142,v143,v144,v145,v146,v147,v148,v149,v150,v151,v152,v153,v154,v155,v156,v157,v158,v159,v160,v161,v162,v163,v164,v165,v166,v167,v168,v169,v170,v171,v172,v173,v174,v175,v176,v177,v178,v179,v180,v181,v182,v183,v184,v185,v186,v187,v188,v189,v190,v191,v192,v193,v194,v195,v196,v197,v198,v199,v200,v201,v202,v203,v204,v205,v206,v207,v208,v209,v210,v211,v212,v213,v214,v215,v216,v217,v218,v219,v220,v221,v222,v223,v224,v225,v226,v227,v228,v229,v230,v231,v232,v233,v234,v235,v236,v237,v238,v239,v240,v241,v242,v243,v244,v245,v246,v247,v248,v249,v250,v251,v252,v253,v254,v255,v256,v257,v258,v259,v260,v261,v262,k263,k264,k265,k266,k267,k268,k269,k270,k271,k272,k273,k274],defers:=[]} wr):
  Code.wp prog (.loop (body 2)) Q {tmps:= #[k0,k1,k2,.slice (some ⟨gP,0,none⟩) P.length c5,k4,k5,.pointer (some ⟨hB,0,none⟩),.pointer (some ⟨kB,0,none⟩),.int .i64 0,v9,v10,v11,v12,v13,v14,v15,v16,v17,v18,v19,v20,k21,k22,k23,k24,k25,k26,k27,k28,k29,k30,k31,k32,k33,k34,k35,k36,k37,k38,k39,k40,k41,k42,k43,k44,k45,k46,k47,k48,k49,k50,k51,k52,k53,v54,v55,v56,v57,v58,v59,v60,v61,v62,v63,v64,v65,v66,v67,v68,v69,v70,v71,v72,v73,v74,v75,v76,v77,v78,v79,v80,v81,v82,v83,v84,v85,v86,v87,v88,v89,v90,v91,v92,v93,v94,v95,v96,v97,v98,v99,v100,v101,v102,v103,v104,v105,v106,v107,v108,v109,v110,v111,v112,v113,v114,v115,v116,v117,v118,v119,v120,v121,v122,v123,v124,v125,v126,v127,v128,v129,v130,v131,v132,v133,v134,v135,v136,v137,v138,v139,v140,v141,v142,v143,v144,v145,v146,v147,v148,v149,v150,v151,v152,v153,v154,v155,v156,v157,v158,v159,v160,v161,v162,v163,v164,v165,v166,v167,v168,v169,v170,v171,v172,v173,v174,v175,v176,v177,v178,v179,v180,v181,v182,v183,v184,v185,v186,v187,v188,v189,v190,v191,v192,v193,v194,v195,v196,v197,v198,v199,v200,v201,v202,v203,v204,v205,v206,v207,v208,v209,v210,v211,v212,v213,v214,v215,v216,v217,v218,v219,v220,v221,v222,v223,v224,v225,v226,v227,v228,v229,v230,v231,v232,v233,v234,v235,v236,v237,v238,v239,v240,v241,v242,v243,v244,v245,v246,v247,v248,v249,v250,v251,v252,v253,v254,v255,v256,v257,v258,v259,v260,v261,v262,k263,k264,k265,k266,k267,k268,k269,k270,k271,k272,k273,k274],defers:=[]} w7:=by
 have HPL:=hid hmod
 have HPos:=hid hpos
 have HXT:=hid hexit
 clear hmod hpos hexit
 conv=>arg 2;arg 1;whnf
 dsimp only
 go_loopw [8] (λi wr=> ∃q:Nat,q<=P.length/64/\i= .int .i64 ((64*q:Nat):Int)/\MainW w P (some ⟨gP,0,none⟩) c5 hB kB (xD P q) wr) (λi _=>P.length-(intOf i).toNat)
 case atStart=>exact⟨0,by omega,rfl,hM7⟩
 case round=>
  clear hM7
  obtain⟨q,hq,rfl,hM⟩:=hrel
  have hPL:=HPL.out
  by_cases hlt:q<P.length/64
  ·have h64:64*q+64<=P.length:=by omega
   have hq0:((64*q:Nat):Int)<(P.length:Int):=by omega
   have HB:=hid (show xD P (q+1)=Sha.press (xD P q) (λi=>P.getD (64*q+i) 0)from rfl)
   have HQ:=hid (show((64*q:Nat):Int)+64=((64*(q+1):Nat):Int) by omega)
   have HLT:=hid hlt
   generalize xD P q=s at hM HB|-
   have hqq:(0:Int)<=((64*q:Nat):Int):=by omega
   generalize 64*q=o at h64 hq0 HB HQ hqq|-
   clear hPL hlt hq
   go_wp2_with fail
   obtain⟨wo,rfl⟩: ∃wo:World,wo=wr:=⟨_,rfl⟩
   refine loop4 w P gP c5 o hB kB s hP1 h64 wo _ (OwnW.start _ wo) hM _ _ _ _ _ _ _ _ _ _ _ _ _ _ _ _ _ _ _ _ _ _ _ _ _ _ _ _ _ _ _ _ _ _ _ _ _ _ _ _ _ _ _ _ _ _ _ _ _ _ _ _ _ _ _ _ _ _ _ _ _ _ _ _ _ _ _ _ _ _ _ _ _ _ _ _ _ _ _ _ _ _ _ _ _ _ _ _ _ _ _ _ _ _ _ _ _ _ _ _ _ _ _ _ _ _ _ _ _ _ _ _ _ _ _ _ _ _ _ _ _ _ _ _ _ _ _ _ _ _ _ _ _ _ _ _ _ _ _ _ _ _ _ _ _ _ _ _ _ _ _ _ _ _ _ _ _ _ _ _ _ _ _ _ _ _ _ _ _ _ _ _ _ _ _ _ _ _ _ _ _ _ _ _ _ _ _ _ _ _ _ _ _ _ _ _ _ _ _ _ _ _ _ _ _ _ _ _ _ _ _ _ _ _ _ _ _ _ _ _ _ _ _ _ _ _ _ _ _ _ _ _ _ _ _ _ _ _ _ _ _ _ _ _ _ _ _ _ _ _ _ _ _ _ _ _ _ _ _ _ _ _ _ _ _ _ _ _ _ _ _ _ ?_
   intro v11 v12 v60 v61 v62 v63 v64 v65 v66 v67 v68 v69 v70 v71 v72 v73 v74 v75 v76 v77 v78 v79 v80 v81 v82 v83 v84 v85 v86 v87 v88 v89 v90 v91 v92 v93 v94 v95 v96 v97 v98 v99 v100 v101 v102 v103 v104 v105 v106 v107 v108 v109 v110 v111 v112 v113 v114 v115 v116 v117 v118 v119 v120 v121 v122 v123 v124 v125 v126 v127 v128 v129 v130 v131 v132 v133 v134 v135 v136 v137 v138 v139 v140 v141 v142 v143 v144 v145 v146 v147 v148 v149 v150 v151 v152 v153 v154 v155 v156 v157 v10 wr hr
   have hh1:wr.heap[hB]?=some (.cells (yF s.get) 215 (0,0)):=(hr.below.block hB (lt_of_block hM.half.hh)).trans hM.half.hh
   generalize hmm:(λi=>P.getD (o+i) 0)=m at hr HB
   clear hmm
   have hR:=RoundsW.start (s:=s) hr
   go_wp2_with (first
    |(refine wpList_load_row rfl 215 _ rfl hB rfl 215 (yF s.get) (0,0) _ hh1 underlying215 rfl (by rw[yB];kernel_rfl) ?_)
    | (refine wpList_store_row rfl 215 _ _ rfl wr.heap.size (yF s.get) rfl rfl 215 (yF (λ_=>0)) (heap_alloc_new _ _) (by rw[yB];kernel_rfl) (by rw[yB,yB]) (Zv _) ?_
       change wpList _ _ _ _ _ ((wr.alloc (.cells (yF (λ_=>0)) 215)).setRow wr.heap.size (yF s.get))
       generalize World.setRow _ _ _=wv0 at hR|-
       generalize wr.heap.size=gv at hR|-)
    |fail)
   clear hh1 hr
   generalize wo.heap.size=gw at hR|-
   refine loop5 w P gP c5 hB kB gw gv m s wo _ hR hM _ _ _ _ _ _ _ _ _ _ _ _ _ _ _ _ _ _ _ _ _ _ _ _ _ _ _ _ _ _ _ _ _ _ _ _ _ _ _ _ _ _ _ _ _ _ _ _ _ _ _ _ _ _ _ _ _ _ _ _ _ _ _ _ _ _ _ _ _ _ _ _ _ _ _ _ _ _ _ _ _ _ _ _ _ _ _ _ _ _ _ _ _ _ _ _ _ _ _ _ _ _ _ _ _ _ _ _ _ _ _ _ _ _ _ _ _ _ _ _ _ _ _ _ _ _ _ _ _ _ _ _ _ _ _ _ _ _ _ _ _ _ _ _ _ _ _ _ _ _ _ _ _ _ _ _ _ _ _ _ _ _ _ _ _ _ _ _ _ _ _ _ _ _ _ _ _ _ _ _ _ _ _ _ _ _ _ _ _ _ _ _ _ _ _ _ _ _ _ _ _ _ _ _ _ _ _ _ _ _ _ _ _ _ _ _ _ _ _ _ _ _ _ _ _ _ _ _ _ _ _ _ _ _ _ _ _ _ _ _ _ _ _ _ _ _ _ _ _ _ _ _ _ _ _ _ _ _ _ _ _ _ _ _ _ _ _ _ _ _ _ _ ?_
   clear hR
   intro v15 v16 v17 v18 v19 v159 v160 v161 v162 v163 v164 v165 v166 v167 v168 v169 v170 v171 v172 v173 v174 v175 v176 v177 v178 v179 v180 v181 v182 v183 v184 v185 v186 v187 v188 v189 v190 v191 v192 v193 v194 v195 v196 v197 v198 v199 v200 v201 v202 v203 v204 v205 v206 v207 v208 v209 v210 v211 v212 v213 v214 v215 v216 v217 v218 v219 v220 v221 v222 v223 v224 v225 v226 v227 v228 v229 v230 v231 v232 v233 v234 v235 v236 v237 v238 v239 v240 v241 v242 v243 v244 v245 v246 v247 v248 v249 v14 wr hR
   have HF:=hid (show Sha.press s m=qV s (zX m s 64)from rfl)
   generalize zX m s 64=f at hR HF
   have hA:AddW hB gv s f 0 wo wr:=⟨((hR.below.block hB (lt_of_block hM.half.hh)).trans hM.half.hh),hR.vv,(OnlyB.refl hB wo).of_below hR.below,by have:=lt_of_block hM.half.hh;have:=hR.low;omega⟩
   clear hR
   go_wp2_with fail
   refine loop6 hB gv s f wo _ hA _ _ _ _ _ _ _ _ _ _ _ _ _ _ _ _ _ _ _ _ _ _ _ _ _ _ _ _ _ _ _ _ _ _ _ _ _ _ _ _ _ _ _ _ _ _ _ _ _ _ _ _ _ _ _ _ _ _ _ _ _ _ _ _ _ _ _ _ _ _ _ _ _ _ _ _ _ _ _ _ _ _ _ _ _ _ _ _ _ _ _ _ _ _ _ _ _ _ _ _ _ _ _ _ _ _ _ _ _ _ _ _ _ _ _ _ _ _ _ _ _ _ _ _ _ _ _ _ _ _ _ _ _ _ _ _ _ _ _ _ _ _ _ _ _ _ _ _ _ _ _ _ _ _ _ _ _ _ _ _ _ _ _ _ _ _ _ _ _ _ _ _ _ _ _ _ _ _ _ _ _ _ _ _ _ _ _ _ _ _ _ _ _ _ _ _ _ _ _ _ _ _ _ _ _ _ _ _ _ _ _ _ _ _ _ _ _ _ _ _ _ _ _ _ _ _ _ _ _ _ _ _ _ _ _ _ _ _ _ _ _ _ _ _ _ _ _ _ _ _ _ _ _ _ _ _ _ _ _ _ _ _ _ _ _ _ _ _ _ _ _ _ _ ?_
   clear hA
   intro v250 v251 v252 v253 v254 v255 v256 v257 v258 v259 v260 v261 v262 v20 wr hA
   have hq1:(o:Int)<=1000000200:=by omega
   go_wp2_with fail
   go_roundw
   case rel=>exact⟨q+1,by have:=HLT.out;omega,by rw[<-HQ.out],by rw[HB.out,HF.out];exact hM.next HPos.out hA⟩
   case measure=>simp[intOf];omega
  ·replace hM:MainW w P (some ⟨gP,0,none⟩) c5 hB kB (xD P (P.length/64)) wr:=by
    obtain rfl:q=P.length/64:=by omega
    exact hM
   have hge:(P.length:Int)<=((64*q:Nat):Int):=by omega
   clear hPL hlt hq
   go_wp2_with fail
   exact HXT.out _ _ _ _ _ _ _ _ _ _ _ _ _ _ _ _ _ _ _ _ _ _ _ _ _ _ _ _ _ _ _ _ _ _ _ _ _ _ _ _ _ _ _ _ _ _ _ _ _ _ _ _ _ _ _ _ _ _ _ _ _ _ _ _ _ _ _ _ _ _ _ _ _ _ _ _ _ _ _ _ _ _ _ _ _ _ _ _ _ _ _ _ _ _ _ _ _ _ _ _ _ _ _ _ _ _ _ _ _ _ _ _ _ _ _ _ _ _ _ _ _ _ _ _ _ _ _ _ _ _ _ _ _ _ _ _ _ _ _ _ _ _ _ _ _ _ _ _ _ _ _ _ _ _ _ _ _ _ _ _ _ _ _ _ _ _ _ _ _ _ _ _ _ _ _ _ _ _ _ _ _ _ _ _ _ _ _ _ _ _ _ _ _ _ _ _ _ _ _ _ _ _ _ _ _ _ _ _ _ _ _ _ _ _ _ _ _ _ _ _ _ _ wr hM
theorem Jz(a0:Option Addr)(len cap0:Nat)(ss:List ByteArray)(w:World)(hS:Strs a0 len ss w)(hsz:(cat ss).length<=1000000000)(hlen:len<=1000000000):
  Calls prog 112 #[.slice a0 len cap0] w λe w'=>e= .returned (.string (lstr (sha (cat ss))))/\Below w.heap.size w w':=by
 obtain⟨i0,hi,hz0,hz1,hz2⟩:=info_parts zda
 go_enter func112,ntmps112
 go_wp2_with fail
 go_loopw [3,4] (λv i wr=> ∃(k:Nat) (a:Option Addr) (c:Nat),k<=len/\i= .int .i64 k/\v= .slice a (cat (ss.take k)).length c/\Owns w.heap.size a c (cat (ss.take k)) wr/\Below w.heap.size w wr) (λ_ i _=>len-(intOf i).toNat)
 case atStart=>exact⟨0,none,0,by omega,rfl,rfl,Owns.nil _ _,Below.refl _ _⟩
 case round=>
  obtain⟨k,a,c,hk,rfl,rfl,hO,hW⟩:=hrel
  by_cases hlt:k<len
  ·obtain⟨b,off,rfl,hcell⟩:=hS.cell k hlt
   have hc:wr.cell? ⟨b,off+k,none⟩=some (.string (ss.getD k ByteArray.empty)):=(hW.cell (p:=⟨b,off+k,none⟩) (block_lt_of_cell hcell)).trans hcell
   have hks:k<ss.length:=by rw[<-hS.count];exact hlt
   have hle:=cat_le ss (k+1)
   rw[jI ss k hks,List.length_append]at hle
   have HC:=hid (jI ss k hks)
   generalize ss.getD k ByteArray.empty=x at hc hle HC
   have hk0:(k:Int)<(len:Int):=by omega
   have hxl:x.data.toList.length=x.size:=Array.length_toList
   have hx:(cat (ss.take k)).length+x.size<=1000000000:=by omega
   have HXL:=hid hxl
   clear hcell hks hle hxl
   generalize cat (ss.take k)=l at hO HC hx|-
   go_wp2_with (refine Lib.wpList_append_own_string _ rfl (.tmp 29) (.tmp 33) 144 9 rfl w.heap.size 5 i0 underlying144 underlying9 hi hz0 hz1 hz2 _ _ _ rfl hO _ rfl (by unfold maxLen;omega) (by omega) hW.size ?_;intro v' w2 hown hgrow _)
   go_roundw
   case rel=>
    obtain⟨a2,c2,rfl,hO2⟩:=Owns.of (l:=l++x.data.toList) (by rw[<-z6];exact hown) (by rw[List.length_append,HXL.out])
    refine⟨k+1,a2,c2,by omega,by go_num,by rw[HC.out],by rw[HC.out];exact hO2,hW.grown hgrow hW.size (XP hO)⟩
   case measure=>simp[intOf];omega
  ·obtain rfl:k=len:=by omega
   rw[hS.count,List.take_length]at hO|-
   clear hlt hk
   generalize hcat:cat ss=S at hO hsz|-
   have HCAT:=hid hcat
   clear hcat
   obtain⟨i0,hi,hz0,hz1,hz2⟩:=info_parts zda
   go_wp2_with (refine wpList_append_own _ rfl (.tmp 38) (.tmp 39) 144 rfl w.heap.size 5 i0 (.int .u8 0) 1 1 underlying144 hi hz0 hz1 hz2 rfl (by decide) _ _ _ rfl (World.ownsRow.alloc hO _) ⟨wr.heap.size,0,none⟩ 1 1 [.int .u8 128] rfl rfl (K1 wr _) (V1 _) (by unfold maxLen;omega) (by omega) (Nat.le_trans hW.size (by simp)) ?_;intro v' w2 hown hgrow _)
   obtain⟨L0,HL0⟩: ∃L0,Hid (L0=S++128::List.replicate 0 0):=⟨_,hid rfl⟩
   obtain⟨a2,c2,rfl,hO2⟩:=Owns.of (l:=L0) (by rw[HL0.out,<-z6];exact hown) (by rw[HL0.out,List.length_append];rfl)
   have hW2:=(hW.alloc hW.size _).grown hgrow (Nat.le_trans hW.size (by simp)) (XP hO)
   clear hown hgrow hO hW
   go_loopw [3] (λv wr=> ∃(z:Nat) (a:Option Addr) (c:Nat),z<=(119-S.length%64)%64/\v= .slice a (S++128::List.replicate z 0).length c/\Owns w.heap.size a c (S++128::List.replicate z 0) wr/\Below w.heap.size w wr) (λv _=>S.length+65-Vt v)
   case atStart=>exact⟨0,a2,c2,by omega,by rw[HL0.out],by rw[<-HL0.out];exact hO2,hW2⟩
   case round=>
    clear hO2 hW2
    obtain⟨z,a3,c3,hz,rfl,hO3,hW3⟩:=hrel
    obtain⟨i0,hi,hz0,hz1,hz2⟩:=info_parts zda
    have HL:=hid (show S++128::List.replicate (z+1) 0=(S++128::List.replicate z 0)++[0] by rw[List.append_assoc,List.cons_append,List.replicate_succ'])
    have hL:(S++128::List.replicate z 0).length=S.length+1+z:=by rw[List.length_append,List.length_cons,List.length_replicate];omega
    by_cases hlt:z<(119-S.length%64)%64
    ·generalize S++128::List.replicate z 0=L at hO3 hL HL|-
     have hL0:(0:Int)<=(L.length:Int):=by omega
     have hL1:(L.length:Int)<=1000000100:=by omega
     have hne:((L.length:Int)%64 !=56)=true:=by rw[bne_iff_ne];omega
     have HZ:=hid hL
     clear hL
     go_wp2_with (refine wpList_append_own _ rfl (.tmp 45) (.tmp 46) 144 rfl w.heap.size 5 i0 (.int .u8 0) 1 1 underlying144 hi hz0 hz1 hz2 rfl (by decide) _ _ _ rfl (World.ownsRow.alloc hO3 _) ⟨wr.heap.size,0,none⟩ 1 1 [.int .u8 0] rfl rfl (K1 wr _) (V1 _) (by unfold maxLen;omega) (by omega) (Nat.le_trans hW3.size (by simp)) ?_;intro v' w2 hown hgrow _)
     go_roundw
     case rel=>
      obtain⟨a4,c4,rfl,hO4⟩:=Owns.of (l:=L++[0]) (by rw[<-z6];exact hown) (by rw[List.length_append];rfl)
      exact⟨z+1,a4,c4,by omega,by rw[HL.out],by rw[HL.out];exact hO4,(hW3.alloc hW3.size _).grown hgrow (Nat.le_trans hW3.size (by simp)) (XP hO3)⟩
     case measure=>
      obtain⟨a4,c4,rfl,hO4⟩:=Owns.of (l:=L++[0]) (by rw[<-z6];exact hown) (by rw[List.length_append];rfl)
      have:=HZ.out
      simp[Vt];omega
    ·have hzz:z=(119-S.length%64)%64:=by omega
     have HP:=hid (show pad S=(S++128::List.replicate z 0)++num (8*S.length) 8 by rw[hzz];rfl)
     have HX:=hid (show sha S=(xD (pad S) ((pad S).length/64)).out from rfl)
     generalize S++128::List.replicate z 0=L at hO3 hL HP|-
     clear HL hz
     have hL0:(0:Int)<=(L.length:Int):=by omega
     have hL1:(L.length:Int)<=1000000100:=by omega
     have hne:((L.length:Int)%64 !=56)=false:=by rw[bne_eq_false_iff_eq];omega
     have HM:=hid (show(L.length+8)%64=0 by omega)
     have hN:=numStr_size (8*S.length) 8
     have HND:=hid (show Lib.strCells (numStr (8*S.length) 8)=Lib.byteCells (num (8*S.length) 8)from rfl)
     clear hL hzz hlt
     go_wp2_with fail
     refine(number_any (8*S.length) _ _ _ (by omega) (by omega) (by omega) (by omega)).mono ?_
     rintro e w4 ⟨rfl,hw4⟩
     rw[show(8:Int).toNat=8 from rfl]
     generalize numStr (8*S.length) 8=ns at hN HND|-
     have hW4:=hW3.trans (hw4.mono hW3.size)
     have hO4:Owns w.heap.size a3 c3 L w4:=jU hO3 hw4
     clear hO3 hW3 hw4
     dsimp only
     go_wp2_with (first
      |(refine Lib.wpList_append_own_string _ rfl (.tmp 48) (.tmp 50) 144 9 rfl w.heap.size 5 i0 underlying144 underlying9 hi hz0 hz1 hz2 _ _ _ rfl hO4 _ rfl (by unfold maxLen;omega) (by omega) hW4.size ?_;intro v' w2 hown hgrow _)
      | (refine wpList_store_row rfl 215 _ _ rfl _ (yF init.get) rfl rfl 215 (yF (λ_=>0)) (heap_alloc_new _ _) (by rw[yB];kernel_rfl) (by rw[yB,yB]) (Zv _) ?_
         change wpList _ _ _ _ _ ((w2.alloc (.cells (yF (λ_=>0)) 215)).setRow w2.heap.size (yF init.get))
         obtain⟨a5,c5,rfl,hO5⟩:=Owns.of (l:=L++num (8*S.length) 8) (by rw[<-z6,<-HND.out];exact hown) (by rw[List.length_append,num_length,hN])
         rw[<-HP.out]at hO5
         have hW5:=hW4.grown hgrow hW4.size (XP hO4)
         have hPL:(pad S).length=L.length+8:=by rw[HP.out,List.length_append,num_length]
         rw[show(L++num (8*S.length) 8).length=(pad S).length by rw[HP.out]]
         clear hown hgrow hO4 hW4
         have hM5:=J6 hO5 hW5
         have HPL:=hid (show(pad S).length%64=0 by have:=HM.out;omega)
         have hP0:(0:Int)<=((pad S).length:Int):=by omega
         have hP1:((pad S).length:Int)<=1000000200:=by omega
         have HPos:=hid (show 0<(pad S).length by omega)
         clear hPL HP
         generalize pad S=P at hM5 HPL hP0 hP1 HPos HX|-
         generalize World.setRow _ _ _=w5 at hM5|-
         generalize w2.heap.size=hB at hM5|-
         clear hO5 hW5)
      |fail)
     refine(Yy _).mono ?_
     rintro e w6 ⟨rfl,hw6⟩
     have hM6:=hM5.under hw6
     clear hM5 hw6
     dsimp only
     go_wp2_with (first
      | (refine wpList_store_row rfl 216 _ _ rfl w6.heap.size (zY kAt) rfl rfl 216 (zY (λ_=>0)) (heap_alloc_new _ _) (by rw[zR];kernel_rfl) (by rw[zR,zR]) (kc _) ?_
         change wpList _ _ _ _ _ ((w6.alloc (.cells (zY (λ_=>0)) 216)).setRow w6.heap.size (zY kAt))
         have hM7:=hM6.main
         generalize World.setRow _ _ _=w7 at hM7|-
         generalize w6.heap.size=kB at hM7|-
         clear hM6)
      |fail)
     obtain⟨gP,rfl⟩:=hM7.half.pad.addr HPos.out
     refine zaq w P gP c5 hB kB HPL.out HPos.out hP1 w7 hM7 _ _ _ _ _ _ _ _ _ _ _ _ _ _ _ _ _ _ _ _ _ _ _ _ _ _ _ _ _ _ _ _ _ _ _ _ _ _ _ _ _ _ _ _ _ _ _ _ _ _ _ _ _ _ _ _ _ _ _ _ _ _ _ _ _ _ _ _ _ _ _ _ _ _ _ _ _ _ _ _ _ _ _ _ _ _ _ _ _ _ _ _ _ _ _ _ _ _ _ _ _ _ _ _ _ _ _ _ _ _ _ _ _ _ _ _ _ _ _ _ _ _ _ _ _ _ _ _ _ _ _ _ _ _ _ _ _ _ _ _ _ _ _ _ _ _ _ _ _ _ _ _ _ _ _ _ _ _ _ _ _ _ _ _ _ _ _ _ _ _ _ _ _ _ _ _ _ _ _ _ _ _ _ _ _ _ _ _ _ _ _ _ _ _ _ _ _ _ _ _ _ _ _ _ _ _ _ _ _ _ _ _ _ _ _ _ _ _ _ _ _ _ _ _ _ _ _ _ _ _ _ _ _ _ _ _ _ _ _ _ _ _ _ _ _ _ _ _ _ _ _ _ _ _ _ _ _ _ _ _ _ _ _ _ _ _ _ _ _ _ _ _ ?_
     intro v9 v10 v11 v12 v13 v14 v15 v16 v17 v18 v19 v20 v54 v55 v56 v57 v58 v59 v60 v61 v62 v63 v64 v65 v66 v67 v68 v69 v70 v71 v72 v73 v74 v75 v76 v77 v78 v79 v80 v81 v82 v83 v84 v85 v86 v87 v88 v89 v90 v91 v92 v93 v94 v95 v96 v97 v98 v99 v100 v101 v102 v103 v104 v105 v106 v107 v108 v109 v110 v111 v112 v113 v114 v115 v116 v117 v118 v119 v120 v121 v122 v123 v124 v125 v126 v127 v128 v129 v130 v131 v132 v133 v134 v135 v136 v137 v138 v139 v140 v141 v142 v143 v144 v145 v146 v147 v148 v149 v150 v151 v152 v153 v154 v155 v156 v157 v158 v159 v160 v161 v162 v163 v164 v165 v166 v167 v168 v169 v170 v171 v172 v173 v174 v175 v176 v177 v178 v179 v180 v181 v182 v183 v184 v185 v186 v187 v188 v189 v190 v191 v192 v193 v194 v195 v196 v197 v198 v199 v200 v201 v202 v203 v204 v205 v206 v207 v208 v209 v210 v211 v212 v213 v214 v215 v216 v217 v218 v219 v220 v221 v222 v223 v224 v225 v226 v227 v228 v229 v230 v231 v232 v233 v234 v235 v236 v237 v238 v239 v240 v241 v242 v243 v244 v245 v246 v247 v248 v249 v250 v251 v252 v253 v254 v255 v256 v257 v258 v259 v260 v261 v262 v8 wr hM
     ·have HO:=HX.out
      generalize xD P (P.length/64)=s at hM HO
      have HX2:=hid HO
      clear HO
      go_wp2_with fail
      obtain⟨wo,rfl⟩: ∃wo:World,wo=wr:=⟨_,rfl⟩
      go_loopw [21,22] (λv i wr=> ∃k:Nat,k<=8/\i= .int .i64 k/\v= .string (lstr (s.outK k))/\Below wo.heap.size wo wr) (λ_ i _=>8-(intOf i).toNat)
      case atStart=>exact⟨0,by omega,rfl,rfl,Below.refl _ _⟩
      case round=>
       obtain⟨k,hk,rfl,rfl,hW⟩:=hrel
       by_cases hk8:k<8
       ·have hk0:(k:Int)<8:=by omega
        have hh1:=(hW.block hB (lt_of_block hM.half.hh)).trans hM.half.hh
        have ca:wr.cell? ⟨hB,k,none⟩=some (wv (s.get k)):=(cell_of_row wr hB k _ _ _ hh1).trans (kr _ k hk8)
        have HK:=hid (show lstr (s.outK k)++lstr (zr (s.get k))=lstr (s.outK (k+1))from lstr_append _ _)
        have hl:(lstr (s.outK k)).size=4*k:=by rw[lstr_size,uX]
        generalize lstr (s.outK k)=out at HK hl|-
        generalize s.get k=x at ca HK
        have hx0:=u32_lo x
        have hx1:=u32_hi x
        have hs0:(out.size:Int)<=32:=by omega
        clear hl hh1
        go_wp2_with fail
        refine(number_any x.toNat _ _ _ rfl (by omega) (by omega) (by omega)).mono ?_
        rintro e w6 ⟨rfl,hw6⟩
        rw[show(4:Int).toNat=4 from rfl]
        have hN:=numStr_size x.toNat 4
        have HN:=hid (show numStr x.toNat 4=lstr (zr x) by
         show lstr (num x.toNat 4)=_
         rw[zeC,BitVec.ofNat_toNat,BitVec.setWidth_eq])
        generalize numStr x.toNat 4=ns at hN HN|-
        have hn0:(ns.size:Int)<=4:=by omega
        clear hN
        dsimp only
        go_wp2_with fail
        go_roundw
        case rel=>exact⟨k+1,by omega,by go_num,by rw[HN.out,HK.out],hW.trans (hw6.mono hW.size)⟩
        case measure=>simp[intOf];omega
       ·obtain rfl:k=8:=by omega
        clear hk hk8
        have HE:=hid (show lstr (s.outK 8)=lstr (sha S) by rw[ZL,HX2.out])
        have HE2:=hid (show lstr (sha S)=lstr (sha (cat ss)) by rw[HCAT.out])
        go_wp2_with fail
        go_ret
        exact⟨by rw[<-HE2.out,<-HE.out];rfl,hM.half.below.trans (hW.mono hM.half.below.size)⟩
end Go.Proofs.YtabmamofnhcgbaaGreatDoor.T8
