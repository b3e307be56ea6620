/- A part of the proofs. -/
import Derived.Test.YthbajmlmjjfgpaaGreatDoorC30
set_option maxRecDepth 1000000
set_option maxHeartbeats 16000000
open Go.Lib (hid)
open Go.Proofs.Tryz
namespace Go.Proofs.YthbajmlmjjfgpaaGreatDoor
open Go.RowKit Go.Less
open T8 (pv Rp Dg keysOf mkeys_any mget_there)
theorem keyR_key (n : Nat) : keyR n = Fs.key (n : Int) := by
 have h1 : keyR n = ⟨#[byteOf (n / 16777216), byteOf (n / 65536), byteOf (n / 256), byteOf n]⟩ := by unfold keyR; congr 1; simp [num, byteOf]
 have h2 : Fs.key (n : Int) = ⟨#[byteOf (n / 16777216), byteOf (n / 65536), byteOf (n / 256), byteOf n]⟩ := by unfold Fs.key Nd.mk Nd.n4; simp [byteOf]
 rw [h1, h2]
theorem rKey2_any (i : Int) (w : World) (h0 : 0 <= i) (h1 : i <= 1000000000000) : Calls prog 33 #[.int .i64 i] w (λe w' => e = .returned (.string (Fs.key i)) /\ Below w.heap.size w w') := by
 obtain ⟨n, rfl⟩ : ∃ n : Nat, i = n := ⟨i.toNat, by omega⟩
 have := rKey_any n w (by omega)
 rwa [keyR_key] at this
theorem doneC_ok {par l : List Fs.Item} (h : Okc l) (qs : List Fs.Cmd) : Okc (doneC par l qs) := by
 unfold doneC
 induction qs generalizing l with
 | nil => exact h
 | cons q qs ih => exact ih (h.doC q)
end Go.Proofs.YthbajmlmjjfgpaaGreatDoor
namespace Fs
open Nd (En Node none0)
open Gr (go)
variable {E : Env}
theorem insL_eq {l : List Item} (h : Rising l) {i : Int} {x : Node} (hi : (node l i).isSome = true \/ ∀ y ∈ l, y.1 < i) : insL l i x = setL l i x :=
 rising_ext (rising_insL h i x) (rising_set h hi) λk => by rw [node_insL h, node_set]
theorem go_nil_dir {s : Gr.Step} {d : Int} (h : go s 1 [] = some d) : d = 1 := by
 unfold go at h; injection h with h; exact h.symm
theorem makes_two (_K : EnvOk E) {f g : FS} (G : Good E f) (hb : f.next <= 2147483647) {o : Op} {n : ByteArray} (hn : E.nm (Nd.bs n) = true) (h : create E f o [n] = .ok g)
  {c c4 : Cmd} (hk : c.kind = 1 \/ c.kind = 2 \/ c.kind = 3) (hm : madeC c = madeNode o) (hi : c.ino = f.next) (h4 : c4.kind = 4) (h4i : c4.ino = f.next) (h4s : c4.src = 1) (h4n : c4.name = n) :
  doC E f.l f.l c = (insL f.l f.next (madeNode o), 0) /\ doC E f.l (insL f.l f.next (madeNode o)) c4 = (g.l, 0) /\ g.next = f.next + 1 /\ step g.l 1 n = some f.next /\ node g.l f.next = some (madeNode o) := by
 unfold create at h
 cases hf : fresh f.l [n] with
 | error e => rw [hf] at h; cases h
 | ok p =>
  obtain ⟨d, m⟩ := p
  rw [hf] at h
  obtain ⟨ps, e, hg, hd, hs⟩ := G.toHalf.fresh_iff.1 hf
  have hps : ps = [] /\ m = n := by
   cases ps with
   | nil => injection e with e _; exact ⟨rfl, e.symm⟩
   | cons a ps => injection e with _ e; have := congrArg List.length e; simp at this
  obtain ⟨rfl, rfl⟩ := hps
  obtain rfl := go_nil_dir hg
  dsimp only at h
  split at h
  ·cases h
  rename_i hR
  split at h
  ·cases h
  rename_i h64
  split at h
  ·cases h
  rename_i h256
  injection h with h
  subst h
  obtain ⟨x1, hx1, hk1⟩ := hd
  have hnd : nodeD f.l 1 = x1 := by unfold nodeD; rw [hx1]; rfl
  have hpos := G.toHalf.next_pos
  have hgone : node f.l f.next = none := G.toHalf.gone (Int.le_refl _)
  have hins : insL f.l f.next (madeNode o) = setL f.l f.next (madeNode o) := insL_eq G.inos (.inr λy hy => (G.pos y hy).2)
  have h1 : node (setL f.l f.next (madeNode o)) 1 = some x1 := by rw [node_set, if_neg (by omega), hx1]
  have hnd' : nodeD (setL f.l f.next (madeNode o)) 1 = x1 := by unfold nodeD; rw [h1]; rfl
  have hfind : Nd.find x1.ents m = none := by rw [<- hnd, dir_find m ⟨x1, hx1, hk1⟩]; exact hs
  have hw : Nd.withE E.lt E.nm x1 m f.next = ({ x1 with ents := Nd.ins E.lt x1.ents m f.next }, 0) := by
   unfold Nd.withE
   rw [if_neg (by simp [hk1]), if_neg (by simp [hn]), if_neg (by simp [hfind]), if_neg (by rw [hnd] at h64; omega)]
  have hrs : Rising (setL f.l f.next (madeNode o)) := rising_set G.inos (.inr λy hy => (G.pos y hy).2)
  refine ⟨?_, ?_, rfl, ?_, ?_⟩
  ·unfold doC
   rw [if_pos hk, hm, hi]
   unfold createC
   rw [if_neg (λh => h.elim (λh => by omega) (λh => hR h)), if_neg (by simp [hgone]), if_neg h256]
  ·unfold doC
   rw [if_neg (by omega), if_pos h4, hins]
   unfold enterC
   rw [h4i, h4s, h4n, if_neg (by omega)]
   unfold alter
   rw [h1]
   dsimp only
   rw [if_neg (by rw [hw]; simp), hw]
   show (insL _ 1 _, (0 : Int)) = (enter E _ 1 m f.next, 0)
   unfold enter
   rw [hnd', hw, insL_eq hrs (.inl (by rw [h1]; rfl))]
  ·show step (enter E _ 1 m f.next) 1 m = _
   unfold enter
   rw [hnd', hw, step_set]
   dsimp only
   rw [if_pos rfl]
   exact Nd.find_ins_same hfind
  ·show node (enter E _ 1 m f.next) f.next = _
   unfold enter
   rw [node_set, if_neg (by omega), node_set, if_pos rfl]
theorem writes_one {f g : FS} (G : Good E f) {o : Op} {n : ByteArray} {i : Int} (hs : step f.l 1 n = some i) {x : Node} (hx : node f.l i = some x) (hk : x.kind = 1) (ho : o.kind = 8) {bs : List ByteArray} (h : bytes E f o [n] bs = .ok g)
  {par : List Item} {c : Cmd} (hc : c.kind = 8) (hi : c.ino = i) (hoff : c.off = o.off) (hd : c.data = o.data) :
  doC E par f.l c = (g.l, 0) /\ g.next = f.next := by
 unfold bytes edit at h
 have hnx : nodeD f.l i = x := by unfold nodeD; rw [hx]; rfl
 have hw : walk f.l 1 [n] = .ok i := G.toHalf.walk_iff.2 (Gr.go_cons.2 ⟨i, hs, rfl⟩)
 have hf : file f.l [n] = .ok (i, x) := by unfold file; rw [hw]; dsimp only; rw [hnx, if_neg (by omega), if_neg (by omega)]
 rw [hf] at h
 dsimp only at h
 rw [if_pos ho] at h
 unfold asked at h
 split at h
 ·cases h
 rename_i s hp
 split at hp
 ·cases hp
 rename_i h0
 injection hp with hp
 injection h with h
 subst h
 have h0 : (E.put x.data o.off o.data).2 = 0 := by simpa using h0
 refine ⟨?_, rfl⟩
 unfold doC
 rw [if_neg (by omega), if_neg (by omega), if_neg (by omega), if_neg (by omega), if_neg (by omega), if_pos hc, hi]
 unfold alter
 rw [hx]
 dsimp only
 have hfe : fileE x = 0 := by unfold fileE; rw [if_pos hk]
 have hb : bytesR (λs => E.put s c.off c.data) x = ({ x with data := s }, 0) := by
  unfold bytesR
  rw [if_neg (by simp [hfe]), hoff, hd, h0, hp]
 rw [if_neg (by rw [hb]; simp), hb, insL_eq G.inos (.inl (by rw [hx]; rfl))]
end Fs
namespace Go.Proofs.YthbajmlmjjfgpaaGreatDoor
open Go.RowKit Go.Less
open T8 (pv Dg)
def slash (n : ByteArray) : ByteArray := ⟨#[47]⟩ ++ n
theorem slash_size (n : ByteArray) : (slash n).size = 1 + n.size := by unfold slash; rw [ByteArray.size_append]; rfl
theorem sem_eqsame (t : TypeId) (a : ByteArray) : binOp .eql t (.string a) (.string a) = pure (.bool true) := by rw [sem_eql, alike_self]
theorem right_size {n : ByteArray} (h : Nm.right n.data.toList = true) : n.size <= 16 := by
 unfold Nm.right at h
 simp only [Bool.and_eq_true, decide_eq_true_eq] at h
 have h1 := h.1.1.2
 have h2 : n.data.toList.length = n.size := Array.length_toList
 omega
theorem spl_slash {n : ByteArray} (h : Nm.right n.data.toList = true) : spl (slash n) = some [n] := by
 have h1 := spl_path (us := [n.data.toList]) (by simp) (by simp [h])
 have h2 : lstr (Nm.pathOf [n.data.toList]) = slash n := by
  unfold Nm.pathOf slash
  rw [if_neg (by simp)]
  show lstr ([47 :: n.data.toList].flatten) = _
  rw [List.flatten_cons, List.flatten_nil, List.append_nil]
  show lstr ([47] ++ n.data.toList) = _
  rw [<- lstr_append]; rfl
 rw [h2] at h1
 rw [h1]; rfl
theorem made_is {f : Fs.FS} (G : Fs.Good env f) (hb : f.next <= 2147483646) {n : ByteArray} (hn : Nm.right n.data.toList = true) {o : Fs.Op} (hoa : o.a = slash n) (hk : o.kind = 1 \/ o.kind = 2 \/ o.kind = 3)
  {c c4 : Fs.Cmd} (hck : c.kind = 1 \/ c.kind = 2 \/ c.kind = 3) (hm : Fs.madeC c = Fs.madeNode o) (hi : c.ino = f.next) (h4 : c4.kind = 4) (h4i : c4.ino = f.next) (h4s : c4.src = 1) (h4n : c4.name = n) (herr : ∀ c, Fs.act env f o = .error c -> c ≠ 0) :
  (∃ e, e ≠ 0 /\ Fs.doE env f o = (f, e)) \/ ∃ g L, Fs.doE env f o = (g, 0) /\ Fs.Good env g /\ g.next = f.next + 1 /\ Fs.doC env f.l f.l c = (L, 0) /\ Fs.doC env f.l L c4 = (g.l, 0) /\ Fs.step g.l 1 n = some f.next /\ Fs.node g.l f.next = some (Fs.madeNode o) := by
 cases ha : Fs.act env f o with
 | error e => exact .inl ⟨e, herr e ha, by unfold Fs.doE; rw [ha]⟩
 | ok g =>
  have hc : Fs.create env f o [n] = .ok g := by
   unfold Fs.act at ha
   rw [if_neg (by omega), show env.sp o.a = some [n] from by rw [hoa]; exact spl_slash hn] at ha
   dsimp only at ha
   rw [if_neg (by rintro ⟨h, _⟩; omega), if_pos (by omega)] at ha
   exact ha
  obtain ⟨h1, h2, h3, h5, h6⟩ := Fs.makes_two env_ok G (by omega) (n := n) hn hc hck hm hi h4 h4i h4s h4n
  exact .inr ⟨g, _, by unfold Fs.doE; rw [ha], (Fs.act_good env_ok G (by omega) ha).1, h3, h1, h2, h5, h6⟩
theorem wrote_is {g : Fs.FS} (G : Fs.Good env g) (hb : g.next <= 2147483646) {n : ByteArray} (hn : Nm.right n.data.toList = true) {i : Int} (hs : Fs.step g.l 1 n = some i) {x : Nd.Node} (hx : Fs.node g.l i = some x) (hxk : x.kind = 1) {o : Fs.Op} (hoa : o.a = slash n) (hk : o.kind = 8)
  {par : List Fs.Item} {c : Fs.Cmd} (hck : c.kind = 8) (hi : c.ino = i) (hoff : c.off = o.off) (hd : c.data = o.data) (herr : ∀ c, Fs.act env g o = .error c -> c ≠ 0) :
  (∃ e, e ≠ 0 /\ Fs.doE env g o = (g, e)) \/ ∃ h, Fs.doE env g o = (h, 0) /\ Fs.Good env h /\ h.next = g.next /\ Fs.doC env par g.l c = (h.l, 0) := by
 cases ha : Fs.act env g o with
 | error e => exact .inl ⟨e, herr e ha, by unfold Fs.doE; rw [ha]⟩
 | ok h =>
  have hc : Fs.bytes env g o [n] ((env.sp o.b).getD []) = .ok h := by
   unfold Fs.act at ha
   rw [if_neg (by omega), show env.sp o.a = some [n] from by rw [hoa]; exact spl_slash hn] at ha
   dsimp only at ha
   rw [if_neg (by rintro ⟨h, _⟩; omega), if_neg (by omega), if_pos (by omega)] at ha
   exact ha
  obtain ⟨h1, h2⟩ := Fs.writes_one G hs hx hxk hk hc (par := par) hck hi hoff hd
  exact .inr ⟨h, by unfold Fs.doE; rw [ha], (Fs.act_good env_ok G (by omega) ha).1, h2, h1⟩
theorem Stg.turnF {g gs p : Nat} {w w' : World} (ht : Turn g w w') {f f0 : Fs.FS} {l : List Fs.Item} (hF : Fo w g f) (h : Stg w gs p f0 l) (hne : gs ≠ g) (hnp : p ≠ g) : Stg w' gs p f0 l := by
 obtain ⟨⟨m, h1, h2⟩, h3, h4, h5⟩ := h
 exact ⟨⟨m, ht.obj h1 hne, Sv.turn ht hF h2⟩, Fo.turn ht hF h3 hnp, h4, h5⟩
end Go.Proofs.YthbajmlmjjfgpaaGreatDoor
namespace Go.Proofs.YthbajmlmjjfgpaaGreatDoor
open Go.RowKit Go.Less Go.Maps
open T8 (pv Dg)
attribute [local go_sem 9000] sem_eql sem_neq
attribute [local go_sem 9500] sem_eqsame
theorem cmdMakes1_any (a : Option Addr) (n cap : Nat) (l : List Fs.Op) (nm : ByteArray) (mode : Int) (da : ByteArray) (w : World) (hS : Opr a n l w) (hn : n <= 140737488355328) (hmo : mode <= 9223372036854775807) (hz : nm.size <= 140737488355328) (hD : Dg w) (hT : Tn w)
  (hfew : few11 l = true) (hr : Nm.right nm.data.toList = true) (h5 : da.size <= 500) :
  Calls prog 5 #[.slice a n cap, .string nm, .int .i64 1, .int .i64 mode, .string da] w λe w' => e = .returned (.bool true) /\ Below w.heap.size w w' := by
 have HAw := hid (awake13_any w hD hT)
 have HFw := hid (λW (hb : Below w.heap.size w W) => few_any a n cap l W (hS.below hb) hn)
 rw [hfew] at HFw
 have HRr := hid (λW => refRight_any nm W hz)
 unfold RightPost at HRr
 rw [hr] at HRr
 have hln := few_len hfew
 have hnl : n <= 120 := by rw [hS.count]; exact hln
 have HDn := hid (λW (hb : Below w.heap.size w W) => done_any a n cap l W (hS.below hb) (by omega) (hD.below hb))
 obtain ⟨hG, hnx⟩ := done_all (l := l) (by omega)
 generalize doneF Fs.new l = f at *
 have h5i : ¬ (500 : Int) < (da.size : Int) := by omega
 have hzs := slash_size nm
 have hnz := right_size hr
 have hq1 : ¬ 9223372036854775807 < 1 + nm.size := by omega
 have HOk := hid (Okc.of hG.toHalf (by omega))
 have hnp := hG.toHalf.next_pos
 have HNs := hid (λq W (h : Fo W q f) => cNew_any h HOk.out)
 have HNx := hid (λq (g : Fs.FS) W (h : Fo W q g) => qNext_any h)
 have HDo := hid (λq W (h : Fo W q f) => qDo_any h hG (by omega) (o := (⟨1, slash nm, ⟨#[]⟩, 0, 0, mode, ⟨#[]⟩⟩ : Fs.Op)) ⟨by show (ik 1).wf = true; decide, by show (slash nm).size <= _; omega, by show ByteArray.size ⟨#[]⟩ <= 140737488355328; decide, by first | (show ByteArray.size ⟨#[]⟩ <= 140737488355328; decide) | (show da.size <= 140737488355328; omega), by show (0 : Int) <= _; decide, by show (0 : Int) <= _; decide, hmo⟩)
 have HC1 := hid (λg p W (h : Stg W g p f f.l) => cDo_any h ⟨1, f.next, 0, 0, 0, mode, ⟨#[]⟩, ⟨#[]⟩⟩ ⟨by show (-9223372036854775808 : Int) <= f.next; omega, by show f.next <= _; omega, by show (-9223372036854775808 : Int) <= 0; decide, by show (0 : Int) <= _; decide, by show (0 : Int) <= _; decide, by show (0 : Int) <= _; decide, by first | exact hmo | (show (0 : Int) <= _; decide), by show ByteArray.size ⟨#[]⟩ <= 140737488355328; decide, by first | (show ByteArray.size ⟨#[]⟩ <= 140737488355328; decide) | (show da.size <= 140737488355328; omega)⟩)
 have HC4 := hid (λg p L W (h : Stg W g p f L) => cDo_any h ⟨4, f.next, 1, 0, 0, 0, nm, ⟨#[]⟩⟩ ⟨by show (-9223372036854775808 : Int) <= f.next; omega, by show f.next <= _; omega, by show (-9223372036854775808 : Int) <= 1; decide, by show (1 : Int) <= _; decide, by show (0 : Int) <= _; decide, by show (0 : Int) <= _; decide, by show (0 : Int) <= _; decide, hz, by show ByteArray.size ⟨#[]⟩ <= 140737488355328; decide⟩)
 have HMd := hid (λherr => made_is hG (by omega) hr (o := (⟨1, slash nm, ⟨#[]⟩, 0, 0, mode, ⟨#[]⟩⟩ : Fs.Op)) rfl (by first | exact .inl rfl | exact .inr (.inl rfl) | exact .inr (.inr rfl)) (c := ⟨1, f.next, 0, 0, 0, mode, ⟨#[]⟩, ⟨#[]⟩⟩) (c4 := ⟨4, f.next, 1, 0, 0, 0, nm, ⟨#[]⟩⟩) (by first | exact .inl rfl | exact .inr (.inl rfl) | exact .inr (.inr rfl)) rfl rfl rfl rfl rfl rfl herr)
 have HEd := hid (λg p L W (h : Stg W g p f L) next => cEnd_any h next)
 have HMp := hid (λq (f : Fs.FS) W (h : Fo W q f) => qMap_any h)
 have HNm := hid (λm L W (h : Sv W m L) => qName_any h)
 have HD8 := hid (λq (g : Fs.FS) W (h : Fo W q g) (G : Fs.Good env g) (hb : g.next <= 2147483646) => qDo_any h G hb (o := (⟨8, slash nm, ⟨#[]⟩, 3, 0, 0, da⟩ : Fs.Op)) ⟨by show (ik 8).wf = true; decide, by show (slash nm).size <= _; omega, by show ByteArray.size ⟨#[]⟩ <= 140737488355328; decide, by show da.size <= _; omega, by show (3 : Int) <= _; decide, by show (0 : Int) <= _; decide, by show (0 : Int) <= _; decide⟩)
 have HC8 := hid (λg p L W (h : Stg W g p f L) => cDo_any h ⟨8, f.next, 0, 3, 0, 0, ⟨#[]⟩, da⟩ ⟨by show (-9223372036854775808 : Int) <= f.next; omega, by show f.next <= _; omega, by show (-9223372036854775808 : Int) <= 0; decide, by show (0 : Int) <= _; decide, by show (3 : Int) <= _; decide, by show (0 : Int) <= _; decide, by show (0 : Int) <= _; decide, by show ByteArray.size ⟨#[]⟩ <= 140737488355328; decide, by show da.size <= _; omega⟩)
 have HWr := hid (λ(g : Fs.FS) (G : Fs.Good env g) (hb : g.next <= 2147483646) (hs : Fs.step g.l 1 nm = some f.next) (hx : Fs.node g.l f.next = some (Fs.madeNode (⟨1, slash nm, ⟨#[]⟩, 0, 0, mode, ⟨#[]⟩⟩ : Fs.Op))) herr => wrote_is G hb hr hs hx rfl (o := (⟨8, slash nm, ⟨#[]⟩, 3, 0, 0, da⟩ : Fs.Op)) rfl rfl (par := f.l) (c := ⟨8, f.next, 0, 3, 0, 0, ⟨#[]⟩, da⟩) rfl rfl rfl rfl herr)
 have HNxt := hid hnx
 generalize hsl : slash nm = sl at *
 have hsl2 : (⟨#[47]⟩ : ByteArray) ++ nm = sl := hsl
 clear hS hD hT hfew hr hln hnl hn h5 hG hnx hz hmo hsl hzs hnp hnz
 go_enter func5, ntmps5
 go_wp2_with fail
 refine HAw.out.mono ?_
 rintro e w1 ⟨rfl, hb⟩
 have HB := hid hb
 clear hb HAw
 dsimp only
 go_wp2_with fail
 refine (HFw.out w1 HB.out).mono ?_
 rintro e w2 ⟨rfl, hb⟩
 have HB := hid (HB.out.trans (hb.mono HB.out.size))
 clear hb HFw
 dsimp only
 go_wp2_with fail
 refine (HRr.out w2).mono ?_
 rintro e w3 ⟨rfl, rfl⟩
 clear HRr
 dsimp only
 go_wp2_with fail
 refine (HDn.out _ HB.out).mono ?_
 rintro e w4 ⟨gf, rfl, hF, hg, hb⟩
 have HGf := hid (Nat.le_trans HB.out.size hg)
 have HB := hid (HB.out.trans (hb.mono HB.out.size))
 have HF := hid hF
 clear hF hg hb HDn
 dsimp only
 go_wp2_with fail
 refine (HNs.out gf w4 HF.out).mono ?_
 rintro e w5 ⟨gs, p, rfl, hS, hg, hgp, hb⟩
 have HGs := hid (Nat.le_trans HB.out.size hg)
 have HNe := hid (show gs ≠ gf /\ p ≠ gf from by have := HF.out.lt; omega)
 have HB := hid (HB.out.trans (hb.mono HB.out.size))
 have HF := hid (HF.out.below hb)
 have HS := hid hS
 clear hS hg hgp hb HNs
 dsimp only
 go_wp2_with fail
 refine (HNx.out gf f w5 HF.out).mono ?_
 rintro e w6 ⟨rfl, rfl⟩
 obtain ⟨nx, hnx⟩ : ∃ nx, f.next = nx := ⟨_, rfl⟩
 rw [hnx] at HC1 HC4 HMd HNxt HC8 HWr
 have HLt := hid HF.out.lt
 have HQ0 := hid (((Bxs.nil w6).more #[.int .i64 1, .int .i64 nx, .int .i64 0, .int .i64 0, .int .i64 0, .int .i64 mode, .string ⟨#[]⟩, .string ⟨#[]⟩] 23 rfl).more #[.int .i64 1, .string sl, .string ⟨#[]⟩, .int .i64 0, .int .i64 0, .int .i64 mode, .string ⟨#[]⟩] 74 (size1 _ _))
 rw [hnx]
 dsimp only
 have HQ := HQ0
 have hx7 := HQ.out.c7 1 rfl
 go_wp2_with fail
 generalize (w6.alloc (.cells #[.int .i64 1, .int .i64 nx, .int .i64 0, .int .i64 0, .int .i64 0, .int .i64 mode, .string ⟨#[]⟩, .string ⟨#[]⟩] 23)).alloc (.cells #[.int .i64 1, .string sl, .string ⟨#[]⟩, .int .i64 0, .int .i64 0, .int .i64 mode, .string ⟨#[]⟩] 74) = W7 at HQ hx7 |-
 have HF := hid (HF.out.below HQ.out.below)
 have HS := hid (HS.out.below HQ.out.below)
 have HB := hid (HB.out.trans (HQ.out.below.mono HB.out.size))
 refine (HDo.out gf W7 HF.out).mono ?_
 rintro e w8 ⟨rfl, hF8, hT8, herr⟩
 have HS := hid (Stg.turnF hT8 HF.out HS.out HNe.out.1 HNe.out.2)
 have HB := hid (turn_below HB.out hT8 HGf.out)
 have hCb := hT8.obj (HQ.out.obj 0 rfl) (Nat.ne_of_gt HLt.out)
 have hx8 := And.intro (cell_obj hCb 0) (And.intro (cell_obj hCb 1) (And.intro (cell_obj hCb 2) (And.intro (cell_obj hCb 3) (And.intro (cell_obj hCb 4) (And.intro (cell_obj hCb 5) (And.intro (cell_obj hCb 6) (cell_obj hCb 7)))))))
 have hmd := HMd.out herr
 clear hT8 herr HDo hx7 HQ HQ0 HMd hCb
 rcases hmd with ⟨ec, hne, hdo⟩ | ⟨g, L, hdo, hGg, hgn, hd1, hd4, hst, hnd⟩
 ·rw [hdo]
  have he0 : (ec == 0) = false := by simpa using hne
  clear hne hdo hF8 hx8
  dsimp only
  go_wp2_with fail
  go_ret
  exact ⟨rfl, HB.out⟩
 ·rw [hdo] at hF8 |-
  have HF := hid hF8
  have HGg := hid hGg
  have HGn := hid hgn
  have HSt := hid (And.intro hst hnd)
  have HC4 := hid (λW h => HC4.out gs p L W h)
  rw [hd1] at HC1
  rw [hd4] at HC4
  clear hF8 hGg hgn hst hnd hd1 hd4 hdo
  dsimp only
  go_wp2_with fail
  refine (HC1.out gs p w8 HS.out).mono ?_
  rintro e w9 ⟨rfl, hS9, hT9⟩
  have HF := hid (HS.out.fo hT9 HF.out)
  have HB := hid (turn_below HB.out hT9 HGs.out)
  have HS := hid hS9
  clear hS9 hT9 hx8 HC1
  dsimp only
  go_wp2_with fail
  refine (HC4.out w9 HS.out).mono ?_
  rintro e w10 ⟨rfl, hS10, hT10⟩
  have HF := hid (HS.out.fo hT10 HF.out)
  have HB := hid (turn_below HB.out hT10 HGs.out)
  have HS := hid hS10
  clear hS10 hT10 HC4
  dsimp only
  go_wp2_with fail
  refine (HD8.out gf g w10 HF.out HGg.out (by have := HGn.out; have := HNxt.out; omega)).mono ?_
  rintro e w11 ⟨rfl, hF11, hT11, herr⟩
  have HS := hid (Stg.turnF hT11 HF.out HS.out HNe.out.1 HNe.out.2)
  have HB := hid (turn_below HB.out hT11 HGf.out)
  have hwr := HWr.out g HGg.out (by have := HGn.out; have := HNxt.out; omega) HSt.out.1 HSt.out.2 herr
  clear hT11 herr HD8 HWr HSt
  rcases hwr with ⟨ec, hne, hdo⟩ | ⟨g2, hdo, hGg2, hgn2, hd8⟩
  ·rw [hdo] at hF11 |-
   have he0 : (ec == 0) = false := by simpa using hne
   have HF := hid hF11
   clear hne hdo hF11
   dsimp only
   have HOkk := hid (show soundL g.l = true /\ g.next <= 2147483647 /\ ∀ y ∈ g.l, y.1 < g.next from ⟨sound_good HGg.out, by have := HGn.out; have := HNxt.out; omega, λy hy => (HGg.out.pos y hy).2⟩)
   go_wp2_with fail
   refine (HNx.out gf g _ HF.out).mono ?_
   rintro e w20 ⟨rfl, rfl⟩
   dsimp only
   go_wp2_with fail
   refine (HEd.out gs p g.l _ HS.out g.next).mono ?_
   intro e w21 hof
   unfold OfR at hof
   rcases hof with ⟨_, _, _, ge, rfl, hFe, _, hb21⟩ | ⟨hno, _, _⟩
   ·have HFe := hid hFe
    have HF := hid (HF.out.below hb21)
    have HB := hid (HB.out.trans (hb21.mono HB.out.size))
    clear hFe hb21
    dsimp only
    go_wp2_with fail
    refine (HMp.out ge ⟨g.l, g.next⟩ w21 HFe.out).mono ?_
    rintro e w22 ⟨m22, rfl, hv22, rfl⟩
    have HV := hid hv22
    clear hv22
    dsimp only
    go_wp2_with fail
    refine (HNm.out m22 g.l _ HV.out).mono ?_
    rintro e w23 ⟨rfl, hb23⟩
    have HF := hid (HF.out.below hb23)
    have HB := hid (HB.out.trans (hb23.mono HB.out.size))
    clear hb23 HV HFe
    dsimp only
    go_wp2_with fail
    refine (HMp.out gf g w23 HF.out).mono ?_
    rintro e w24 ⟨m24, rfl, hv24, rfl⟩
    have HV := hid hv24
    clear hv24
    dsimp only
    go_wp2_with fail
    refine (HNm.out m24 g.l _ HV.out).mono ?_
    rintro e w25 ⟨rfl, hb25⟩
    have HB := hid (HB.out.trans (hb25.mono HB.out.size))
    clear hb25
    dsimp only
    go_wp2_with fail
    go_ret
    exact ⟨rfl, HB.out⟩
   ·exact absurd HOkk.out hno
  ·rw [hdo] at hF11 |-
   have HF := hid hF11
   have HGg2 := hid hGg2
   have HGn2 := hid hgn2
   have HC8 := hid (λW h => HC8.out gs p g.l W h)
   rw [hd8] at HC8
   clear hF11 hGg2 hgn2 hd8 hdo
   dsimp only
   go_wp2_with fail
   refine (HC8.out w11 HS.out).mono ?_
   rintro e w12 ⟨rfl, hS12, hT12⟩
   have HF := hid (HS.out.fo hT12 HF.out)
   have HB := hid (turn_below HB.out hT12 HGs.out)
   have HS := hid hS12
   clear hS12 hT12 HC8
   dsimp only
   have HOkk := hid (show soundL g2.l = true /\ g2.next <= 2147483647 /\ ∀ y ∈ g2.l, y.1 < g2.next from ⟨sound_good HGg2.out, by have := HGn2.out; have := HGn.out; have := HNxt.out; omega, λy hy => (HGg2.out.pos y hy).2⟩)
   go_wp2_with fail
   refine (HNx.out gf g2 _ HF.out).mono ?_
   rintro e w20 ⟨rfl, rfl⟩
   dsimp only
   go_wp2_with fail
   refine (HEd.out gs p g2.l _ HS.out g2.next).mono ?_
   intro e w21 hof
   unfold OfR at hof
   rcases hof with ⟨_, _, _, ge, rfl, hFe, _, hb21⟩ | ⟨hno, _, _⟩
   ·have HFe := hid hFe
    have HF := hid (HF.out.below hb21)
    have HB := hid (HB.out.trans (hb21.mono HB.out.size))
    clear hFe hb21
    dsimp only
    go_wp2_with fail
    refine (HMp.out ge ⟨g2.l, g2.next⟩ w21 HFe.out).mono ?_
    rintro e w22 ⟨m22, rfl, hv22, rfl⟩
    have HV := hid hv22
    clear hv22
    dsimp only
    go_wp2_with fail
    refine (HNm.out m22 g2.l _ HV.out).mono ?_
    rintro e w23 ⟨rfl, hb23⟩
    have HF := hid (HF.out.below hb23)
    have HB := hid (HB.out.trans (hb23.mono HB.out.size))
    clear hb23 HV HFe
    dsimp only
    go_wp2_with fail
    refine (HMp.out gf g2 w23 HF.out).mono ?_
    rintro e w24 ⟨m24, rfl, hv24, rfl⟩
    have HV := hid hv24
    clear hv24
    dsimp only
    go_wp2_with fail
    refine (HNm.out m24 g2.l _ HV.out).mono ?_
    rintro e w25 ⟨rfl, hb25⟩
    have HB := hid (HB.out.trans (hb25.mono HB.out.size))
    clear hb25
    dsimp only
    go_wp2_with fail
    go_ret
    exact ⟨rfl, HB.out⟩
   ·exact absurd HOkk.out hno
theorem cmdMakes2_any (a : Option Addr) (n cap : Nat) (l : List Fs.Op) (nm : ByteArray) (mode : Int) (da : ByteArray) (w : World) (hS : Opr a n l w) (hn : n <= 140737488355328) (hmo : mode <= 9223372036854775807) (hz : nm.size <= 140737488355328) (hD : Dg w) (hT : Tn w)
  (hfew : few11 l = true) (hr : Nm.right nm.data.toList = true) (h5 : da.size <= 500) :
  Calls prog 5 #[.slice a n cap, .string nm, .int .i64 2, .int .i64 mode, .string da] w λe w' => e = .returned (.bool true) /\ Below w.heap.size w w' := by
 have HAw := hid (awake13_any w hD hT)
 have HFw := hid (λW (hb : Below w.heap.size w W) => few_any a n cap l W (hS.below hb) hn)
 rw [hfew] at HFw
 have HRr := hid (λW => refRight_any nm W hz)
 unfold RightPost at HRr
 rw [hr] at HRr
 have hln := few_len hfew
 have hnl : n <= 120 := by rw [hS.count]; exact hln
 have HDn := hid (λW (hb : Below w.heap.size w W) => done_any a n cap l W (hS.below hb) (by omega) (hD.below hb))
 obtain ⟨hG, hnx⟩ := done_all (l := l) (by omega)
 generalize doneF Fs.new l = f at *
 have h5i : ¬ (500 : Int) < (da.size : Int) := by omega
 have hzs := slash_size nm
 have hnz := right_size hr
 have hq1 : ¬ 9223372036854775807 < 1 + nm.size := by omega
 have HOk := hid (Okc.of hG.toHalf (by omega))
 have hnp := hG.toHalf.next_pos
 have HNs := hid (λq W (h : Fo W q f) => cNew_any h HOk.out)
 have HNx := hid (λq (g : Fs.FS) W (h : Fo W q g) => qNext_any h)
 have HDo := hid (λq W (h : Fo W q f) => qDo_any h hG (by omega) (o := (⟨2, slash nm, ⟨#[]⟩, 0, 0, mode, ⟨#[]⟩⟩ : Fs.Op)) ⟨by show (ik 2).wf = true; decide, by show (slash nm).size <= _; omega, by show ByteArray.size ⟨#[]⟩ <= 140737488355328; decide, by first | (show ByteArray.size ⟨#[]⟩ <= 140737488355328; decide) | (show da.size <= 140737488355328; omega), by show (0 : Int) <= _; decide, by show (0 : Int) <= _; decide, hmo⟩)
 have HC1 := hid (λg p W (h : Stg W g p f f.l) => cDo_any h ⟨2, f.next, 0, 0, 0, mode, ⟨#[]⟩, ⟨#[]⟩⟩ ⟨by show (-9223372036854775808 : Int) <= f.next; omega, by show f.next <= _; omega, by show (-9223372036854775808 : Int) <= 0; decide, by show (0 : Int) <= _; decide, by show (0 : Int) <= _; decide, by show (0 : Int) <= _; decide, by first | exact hmo | (show (0 : Int) <= _; decide), by show ByteArray.size ⟨#[]⟩ <= 140737488355328; decide, by first | (show ByteArray.size ⟨#[]⟩ <= 140737488355328; decide) | (show da.size <= 140737488355328; omega)⟩)
 have HC4 := hid (λg p L W (h : Stg W g p f L) => cDo_any h ⟨4, f.next, 1, 0, 0, 0, nm, ⟨#[]⟩⟩ ⟨by show (-9223372036854775808 : Int) <= f.next; omega, by show f.next <= _; omega, by show (-9223372036854775808 : Int) <= 1; decide, by show (1 : Int) <= _; decide, by show (0 : Int) <= _; decide, by show (0 : Int) <= _; decide, by show (0 : Int) <= _; decide, hz, by show ByteArray.size ⟨#[]⟩ <= 140737488355328; decide⟩)
 have HMd := hid (λherr => made_is hG (by omega) hr (o := (⟨2, slash nm, ⟨#[]⟩, 0, 0, mode, ⟨#[]⟩⟩ : Fs.Op)) rfl (by first | exact .inl rfl | exact .inr (.inl rfl) | exact .inr (.inr rfl)) (c := ⟨2, f.next, 0, 0, 0, mode, ⟨#[]⟩, ⟨#[]⟩⟩) (c4 := ⟨4, f.next, 1, 0, 0, 0, nm, ⟨#[]⟩⟩) (by first | exact .inl rfl | exact .inr (.inl rfl) | exact .inr (.inr rfl)) rfl rfl rfl rfl rfl rfl herr)
 have HEd := hid (λg p L W (h : Stg W g p f L) next => cEnd_any h next)
 have HMp := hid (λq (f : Fs.FS) W (h : Fo W q f) => qMap_any h)
 have HNm := hid (λm L W (h : Sv W m L) => qName_any h)
 have HNxt := hid hnx
 generalize hsl : slash nm = sl at *
 have hsl2 : (⟨#[47]⟩ : ByteArray) ++ nm = sl := hsl
 clear hS hD hT hfew hr hln hnl hn h5 hG hnx hz hmo hsl hzs hnp hnz
 go_enter func5, ntmps5
 go_wp2_with fail
 refine HAw.out.mono ?_
 rintro e w1 ⟨rfl, hb⟩
 have HB := hid hb
 clear hb HAw
 dsimp only
 go_wp2_with fail
 refine (HFw.out w1 HB.out).mono ?_
 rintro e w2 ⟨rfl, hb⟩
 have HB := hid (HB.out.trans (hb.mono HB.out.size))
 clear hb HFw
 dsimp only
 go_wp2_with fail
 refine (HRr.out w2).mono ?_
 rintro e w3 ⟨rfl, rfl⟩
 clear HRr
 dsimp only
 go_wp2_with fail
 refine (HDn.out _ HB.out).mono ?_
 rintro e w4 ⟨gf, rfl, hF, hg, hb⟩
 have HGf := hid (Nat.le_trans HB.out.size hg)
 have HB := hid (HB.out.trans (hb.mono HB.out.size))
 have HF := hid hF
 clear hF hg hb HDn
 dsimp only
 go_wp2_with fail
 refine (HNs.out gf w4 HF.out).mono ?_
 rintro e w5 ⟨gs, p, rfl, hS, hg, hgp, hb⟩
 have HGs := hid (Nat.le_trans HB.out.size hg)
 have HNe := hid (show gs ≠ gf /\ p ≠ gf from by have := HF.out.lt; omega)
 have HB := hid (HB.out.trans (hb.mono HB.out.size))
 have HF := hid (HF.out.below hb)
 have HS := hid hS
 clear hS hg hgp hb HNs
 dsimp only
 go_wp2_with fail
 refine (HNx.out gf f w5 HF.out).mono ?_
 rintro e w6 ⟨rfl, rfl⟩
 obtain ⟨nx, hnx⟩ : ∃ nx, f.next = nx := ⟨_, rfl⟩
 rw [hnx] at HC1 HC4 HMd HNxt
 have HLt := hid HF.out.lt
 have HQ0 := hid (((Bxs.nil w6).more #[.int .i64 2, .int .i64 nx, .int .i64 0, .int .i64 0, .int .i64 0, .int .i64 mode, .string ⟨#[]⟩, .string ⟨#[]⟩] 23 rfl).more #[.int .i64 2, .string sl, .string ⟨#[]⟩, .int .i64 0, .int .i64 0, .int .i64 mode, .string ⟨#[]⟩] 74 (size1 _ _))
 rw [hnx]
 dsimp only
 have HQ := HQ0
 have hx7 := HQ.out.c7 1 rfl
 go_wp2_with fail
 generalize (w6.alloc (.cells #[.int .i64 2, .int .i64 nx, .int .i64 0, .int .i64 0, .int .i64 0, .int .i64 mode, .string ⟨#[]⟩, .string ⟨#[]⟩] 23)).alloc (.cells #[.int .i64 2, .string sl, .string ⟨#[]⟩, .int .i64 0, .int .i64 0, .int .i64 mode, .string ⟨#[]⟩] 74) = W7 at HQ hx7 |-
 have HF := hid (HF.out.below HQ.out.below)
 have HS := hid (HS.out.below HQ.out.below)
 have HB := hid (HB.out.trans (HQ.out.below.mono HB.out.size))
 refine (HDo.out gf W7 HF.out).mono ?_
 rintro e w8 ⟨rfl, hF8, hT8, herr⟩
 have HS := hid (Stg.turnF hT8 HF.out HS.out HNe.out.1 HNe.out.2)
 have HB := hid (turn_below HB.out hT8 HGf.out)
 have hCb := hT8.obj (HQ.out.obj 0 rfl) (Nat.ne_of_gt HLt.out)
 have hx8 := And.intro (cell_obj hCb 0) (And.intro (cell_obj hCb 1) (And.intro (cell_obj hCb 2) (And.intro (cell_obj hCb 3) (And.intro (cell_obj hCb 4) (And.intro (cell_obj hCb 5) (And.intro (cell_obj hCb 6) (cell_obj hCb 7)))))))
 have hmd := HMd.out herr
 clear hT8 herr HDo hx7 HQ HQ0 HMd hCb
 rcases hmd with ⟨ec, hne, hdo⟩ | ⟨g, L, hdo, hGg, hgn, hd1, hd4, hst, hnd⟩
 ·rw [hdo]
  have he0 : (ec == 0) = false := by simpa using hne
  clear hne hdo hF8 hx8
  dsimp only
  go_wp2_with fail
  go_ret
  exact ⟨rfl, HB.out⟩
 ·rw [hdo] at hF8 |-
  have HF := hid hF8
  have HGg := hid hGg
  have HGn := hid hgn
  have HSt := hid (And.intro hst hnd)
  have HC4 := hid (λW h => HC4.out gs p L W h)
  rw [hd1] at HC1
  rw [hd4] at HC4
  clear hF8 hGg hgn hst hnd hd1 hd4 hdo
  dsimp only
  go_wp2_with fail
  refine (HC1.out gs p w8 HS.out).mono ?_
  rintro e w9 ⟨rfl, hS9, hT9⟩
  have HF := hid (HS.out.fo hT9 HF.out)
  have HB := hid (turn_below HB.out hT9 HGs.out)
  have HS := hid hS9
  clear hS9 hT9 hx8 HC1
  dsimp only
  go_wp2_with fail
  refine (HC4.out w9 HS.out).mono ?_
  rintro e w10 ⟨rfl, hS10, hT10⟩
  have HF := hid (HS.out.fo hT10 HF.out)
  have HB := hid (turn_below HB.out hT10 HGs.out)
  have HS := hid hS10
  clear hS10 hT10 HC4
  dsimp only
  have HOkk := hid (show soundL g.l = true /\ g.next <= 2147483647 /\ ∀ y ∈ g.l, y.1 < g.next from ⟨sound_good HGg.out, by have := HGn.out; have := HNxt.out; omega, λy hy => (HGg.out.pos y hy).2⟩)
  go_wp2_with fail
  refine (HNx.out gf g _ HF.out).mono ?_
  rintro e w20 ⟨rfl, rfl⟩
  dsimp only
  go_wp2_with fail
  refine (HEd.out gs p g.l _ HS.out g.next).mono ?_
  intro e w21 hof
  unfold OfR at hof
  rcases hof with ⟨_, _, _, ge, rfl, hFe, _, hb21⟩ | ⟨hno, _, _⟩
  ·have HFe := hid hFe
   have HF := hid (HF.out.below hb21)
   have HB := hid (HB.out.trans (hb21.mono HB.out.size))
   clear hFe hb21
   dsimp only
   go_wp2_with fail
   refine (HMp.out ge ⟨g.l, g.next⟩ w21 HFe.out).mono ?_
   rintro e w22 ⟨m22, rfl, hv22, rfl⟩
   have HV := hid hv22
   clear hv22
   dsimp only
   go_wp2_with fail
   refine (HNm.out m22 g.l _ HV.out).mono ?_
   rintro e w23 ⟨rfl, hb23⟩
   have HF := hid (HF.out.below hb23)
   have HB := hid (HB.out.trans (hb23.mono HB.out.size))
   clear hb23 HV HFe
   dsimp only
   go_wp2_with fail
   refine (HMp.out gf g w23 HF.out).mono ?_
   rintro e w24 ⟨m24, rfl, hv24, rfl⟩
   have HV := hid hv24
   clear hv24
   dsimp only
   go_wp2_with fail
   refine (HNm.out m24 g.l _ HV.out).mono ?_
   rintro e w25 ⟨rfl, hb25⟩
   have HB := hid (HB.out.trans (hb25.mono HB.out.size))
   clear hb25
   dsimp only
   go_wp2_with fail
   go_ret
   exact ⟨rfl, HB.out⟩
  ·exact absurd HOkk.out hno
theorem cmdMakes3_any (a : Option Addr) (n cap : Nat) (l : List Fs.Op) (nm : ByteArray) (mode : Int) (da : ByteArray) (w : World) (hS : Opr a n l w) (hn : n <= 140737488355328) (hmo : mode <= 9223372036854775807) (hz : nm.size <= 140737488355328) (hD : Dg w) (hT : Tn w)
  (hfew : few11 l = true) (hr : Nm.right nm.data.toList = true) (h5 : da.size <= 500) :
  Calls prog 5 #[.slice a n cap, .string nm, .int .i64 3, .int .i64 mode, .string da] w λe w' => e = .returned (.bool true) /\ Below w.heap.size w w' := by
 have HAw := hid (awake13_any w hD hT)
 have HFw := hid (λW (hb : Below w.heap.size w W) => few_any a n cap l W (hS.below hb) hn)
 rw [hfew] at HFw
 have HRr := hid (λW => refRight_any nm W hz)
 unfold RightPost at HRr
 rw [hr] at HRr
 have hln := few_len hfew
 have hnl : n <= 120 := by rw [hS.count]; exact hln
 have HDn := hid (λW (hb : Below w.heap.size w W) => done_any a n cap l W (hS.below hb) (by omega) (hD.below hb))
 obtain ⟨hG, hnx⟩ := done_all (l := l) (by omega)
 generalize doneF Fs.new l = f at *
 have h5i : ¬ (500 : Int) < (da.size : Int) := by omega
 have hzs := slash_size nm
 have hnz := right_size hr
 have hq1 : ¬ 9223372036854775807 < 1 + nm.size := by omega
 have HOk := hid (Okc.of hG.toHalf (by omega))
 have hnp := hG.toHalf.next_pos
 have HNs := hid (λq W (h : Fo W q f) => cNew_any h HOk.out)
 have HNx := hid (λq (g : Fs.FS) W (h : Fo W q g) => qNext_any h)
 have HDo := hid (λq W (h : Fo W q f) => qDo_any h hG (by omega) (o := (⟨3, slash nm, ⟨#[]⟩, 0, 0, mode, da⟩ : Fs.Op)) ⟨by show (ik 3).wf = true; decide, by show (slash nm).size <= _; omega, by show ByteArray.size ⟨#[]⟩ <= 140737488355328; decide, by first | (show ByteArray.size ⟨#[]⟩ <= 140737488355328; decide) | (show da.size <= 140737488355328; omega), by show (0 : Int) <= _; decide, by show (0 : Int) <= _; decide, hmo⟩)
 have HC1 := hid (λg p W (h : Stg W g p f f.l) => cDo_any h ⟨3, f.next, 0, 0, 0, 0, ⟨#[]⟩, da⟩ ⟨by show (-9223372036854775808 : Int) <= f.next; omega, by show f.next <= _; omega, by show (-9223372036854775808 : Int) <= 0; decide, by show (0 : Int) <= _; decide, by show (0 : Int) <= _; decide, by show (0 : Int) <= _; decide, by first | exact hmo | (show (0 : Int) <= _; decide), by show ByteArray.size ⟨#[]⟩ <= 140737488355328; decide, by first | (show ByteArray.size ⟨#[]⟩ <= 140737488355328; decide) | (show da.size <= 140737488355328; omega)⟩)
 have HC4 := hid (λg p L W (h : Stg W g p f L) => cDo_any h ⟨4, f.next, 1, 0, 0, 0, nm, ⟨#[]⟩⟩ ⟨by show (-9223372036854775808 : Int) <= f.next; omega, by show f.next <= _; omega, by show (-9223372036854775808 : Int) <= 1; decide, by show (1 : Int) <= _; decide, by show (0 : Int) <= _; decide, by show (0 : Int) <= _; decide, by show (0 : Int) <= _; decide, hz, by show ByteArray.size ⟨#[]⟩ <= 140737488355328; decide⟩)
 have HMd := hid (λherr => made_is hG (by omega) hr (o := (⟨3, slash nm, ⟨#[]⟩, 0, 0, mode, da⟩ : Fs.Op)) rfl (by first | exact .inl rfl | exact .inr (.inl rfl) | exact .inr (.inr rfl)) (c := ⟨3, f.next, 0, 0, 0, 0, ⟨#[]⟩, da⟩) (c4 := ⟨4, f.next, 1, 0, 0, 0, nm, ⟨#[]⟩⟩) (by first | exact .inl rfl | exact .inr (.inl rfl) | exact .inr (.inr rfl)) rfl rfl rfl rfl rfl rfl herr)
 have HEd := hid (λg p L W (h : Stg W g p f L) next => cEnd_any h next)
 have HMp := hid (λq (f : Fs.FS) W (h : Fo W q f) => qMap_any h)
 have HNm := hid (λm L W (h : Sv W m L) => qName_any h)
 have HNxt := hid hnx
 generalize hsl : slash nm = sl at *
 have hsl2 : (⟨#[47]⟩ : ByteArray) ++ nm = sl := hsl
 clear hS hD hT hfew hr hln hnl hn h5 hG hnx hz hmo hsl hzs hnp hnz
 go_enter func5, ntmps5
 go_wp2_with fail
 refine HAw.out.mono ?_
 rintro e w1 ⟨rfl, hb⟩
 have HB := hid hb
 clear hb HAw
 dsimp only
 go_wp2_with fail
 refine (HFw.out w1 HB.out).mono ?_
 rintro e w2 ⟨rfl, hb⟩
 have HB := hid (HB.out.trans (hb.mono HB.out.size))
 clear hb HFw
 dsimp only
 go_wp2_with fail
 refine (HRr.out w2).mono ?_
 rintro e w3 ⟨rfl, rfl⟩
 clear HRr
 dsimp only
 go_wp2_with fail
 refine (HDn.out _ HB.out).mono ?_
 rintro e w4 ⟨gf, rfl, hF, hg, hb⟩
 have HGf := hid (Nat.le_trans HB.out.size hg)
 have HB := hid (HB.out.trans (hb.mono HB.out.size))
 have HF := hid hF
 clear hF hg hb HDn
 dsimp only
 go_wp2_with fail
 refine (HNs.out gf w4 HF.out).mono ?_
 rintro e w5 ⟨gs, p, rfl, hS, hg, hgp, hb⟩
 have HGs := hid (Nat.le_trans HB.out.size hg)
 have HNe := hid (show gs ≠ gf /\ p ≠ gf from by have := HF.out.lt; omega)
 have HB := hid (HB.out.trans (hb.mono HB.out.size))
 have HF := hid (HF.out.below hb)
 have HS := hid hS
 clear hS hg hgp hb HNs
 dsimp only
 go_wp2_with fail
 refine (HNx.out gf f w5 HF.out).mono ?_
 rintro e w6 ⟨rfl, rfl⟩
 obtain ⟨nx, hnx⟩ : ∃ nx, f.next = nx := ⟨_, rfl⟩
 rw [hnx] at HC1 HC4 HMd HNxt
 have HLt := hid HF.out.lt
 have HQ0 := hid (((Bxs.nil w6).more #[.int .i64 3, .int .i64 nx, .int .i64 0, .int .i64 0, .int .i64 0, .int .i64 mode, .string ⟨#[]⟩, .string ⟨#[]⟩] 23 rfl).more #[.int .i64 3, .string sl, .string ⟨#[]⟩, .int .i64 0, .int .i64 0, .int .i64 mode, .string ⟨#[]⟩] 74 (size1 _ _))
 rw [hnx]
 dsimp only
 go_wp2_with (first | (refine store_bx HQ0.out 0 rfl 23 _ _ rfl rfl #[.int .i64 3, .int .i64 nx, .int .i64 0, .int .i64 0, .int .i64 0, .int .i64 0, .string ⟨#[]⟩, .string da] rfl rfl (by kernel_rfl) rfl rfl (by decide) (by decide) ?_; intro w9 hS9 hK9 hb9 hs9; have HQ1 := hid hS9; have fz := HQ1.out.free 1 rfl 6; have hy7 := HQ1.out.c7 1 rfl; have HQ := hid (HQ1.out.put 1 rfl 6 (.string da)); have hx7 := HQ.out.c7 1 rfl; clear hS9 hK9 hb9 hs9) | fail)
 clear fz hy7
 generalize w9.setCell ⟨w6.heap.size + 1, 6, none⟩ (.string da) = W7 at HQ hx7 |-
 have HF := hid (HF.out.below HQ.out.below)
 have HS := hid (HS.out.below HQ.out.below)
 have HB := hid (HB.out.trans (HQ.out.below.mono HB.out.size))
 refine (HDo.out gf W7 HF.out).mono ?_
 rintro e w8 ⟨rfl, hF8, hT8, herr⟩
 have HS := hid (Stg.turnF hT8 HF.out HS.out HNe.out.1 HNe.out.2)
 have HB := hid (turn_below HB.out hT8 HGf.out)
 have hCb := hT8.obj (HQ.out.obj 0 rfl) (Nat.ne_of_gt HLt.out)
 have hx8 := And.intro (cell_obj hCb 0) (And.intro (cell_obj hCb 1) (And.intro (cell_obj hCb 2) (And.intro (cell_obj hCb 3) (And.intro (cell_obj hCb 4) (And.intro (cell_obj hCb 5) (And.intro (cell_obj hCb 6) (cell_obj hCb 7)))))))
 have hmd := HMd.out herr
 clear hT8 herr HDo hx7 HQ HQ0 HMd hCb
 rcases hmd with ⟨ec, hne, hdo⟩ | ⟨g, L, hdo, hGg, hgn, hd1, hd4, hst, hnd⟩
 ·rw [hdo]
  have he0 : (ec == 0) = false := by simpa using hne
  clear hne hdo hF8 hx8
  dsimp only
  go_wp2_with fail
  go_ret
  exact ⟨rfl, HB.out⟩
 ·rw [hdo] at hF8 |-
  have HF := hid hF8
  have HGg := hid hGg
  have HGn := hid hgn
  have HSt := hid (And.intro hst hnd)
  have HC4 := hid (λW h => HC4.out gs p L W h)
  rw [hd1] at HC1
  rw [hd4] at HC4
  clear hF8 hGg hgn hst hnd hd1 hd4 hdo
  dsimp only
  go_wp2_with fail
  refine (HC1.out gs p w8 HS.out).mono ?_
  rintro e w9 ⟨rfl, hS9, hT9⟩
  have HF := hid (HS.out.fo hT9 HF.out)
  have HB := hid (turn_below HB.out hT9 HGs.out)
  have HS := hid hS9
  clear hS9 hT9 hx8 HC1
  dsimp only
  go_wp2_with fail
  refine (HC4.out w9 HS.out).mono ?_
  rintro e w10 ⟨rfl, hS10, hT10⟩
  have HF := hid (HS.out.fo hT10 HF.out)
  have HB := hid (turn_below HB.out hT10 HGs.out)
  have HS := hid hS10
  clear hS10 hT10 HC4
  dsimp only
  have HOkk := hid (show soundL g.l = true /\ g.next <= 2147483647 /\ ∀ y ∈ g.l, y.1 < g.next from ⟨sound_good HGg.out, by have := HGn.out; have := HNxt.out; omega, λy hy => (HGg.out.pos y hy).2⟩)
  go_wp2_with fail
  refine (HNx.out gf g _ HF.out).mono ?_
  rintro e w20 ⟨rfl, rfl⟩
  dsimp only
  go_wp2_with fail
  refine (HEd.out gs p g.l _ HS.out g.next).mono ?_
  intro e w21 hof
  unfold OfR at hof
  rcases hof with ⟨_, _, _, ge, rfl, hFe, _, hb21⟩ | ⟨hno, _, _⟩
  ·have HFe := hid hFe
   have HF := hid (HF.out.below hb21)
   have HB := hid (HB.out.trans (hb21.mono HB.out.size))
   clear hFe hb21
   dsimp only
   go_wp2_with fail
   refine (HMp.out ge ⟨g.l, g.next⟩ w21 HFe.out).mono ?_
   rintro e w22 ⟨m22, rfl, hv22, rfl⟩
   have HV := hid hv22
   clear hv22
   dsimp only
   go_wp2_with fail
   refine (HNm.out m22 g.l _ HV.out).mono ?_
   rintro e w23 ⟨rfl, hb23⟩
   have HF := hid (HF.out.below hb23)
   have HB := hid (HB.out.trans (hb23.mono HB.out.size))
   clear hb23 HV HFe
   dsimp only
   go_wp2_with fail
   refine (HMp.out gf g w23 HF.out).mono ?_
   rintro e w24 ⟨m24, rfl, hv24, rfl⟩
   have HV := hid hv24
   clear hv24
   dsimp only
   go_wp2_with fail
   refine (HNm.out m24 g.l _ HV.out).mono ?_
   rintro e w25 ⟨rfl, hb25⟩
   have HB := hid (HB.out.trans (hb25.mono HB.out.size))
   clear hb25
   dsimp only
   go_wp2_with fail
   go_ret
   exact ⟨rfl, HB.out⟩
  ·exact absurd HOkk.out hno
end Go.Proofs.YthbajmlmjjfgpaaGreatDoor
namespace Go.Proofs.YthbajmlmjjfgpaaGreatDoor
open Go.RowKit Go.Less Go.Maps
open T8 (pv Dg)
attribute [local go_sem 9000] sem_eql sem_neq
theorem cmdMakes_any (a : Option Addr) (n cap : Nat) (l : List Fs.Op) (nm da : ByteArray) (k mode : Int) (w : World) (hS : Opr a n l w) (hn : n <= 140737488355328) (hz : nm.size <= 140737488355328) (_hz2 : da.size <= 140737488355328) (_hk : k <= 9223372036854775807) (hmo : mode <= 9223372036854775807) (hD : Dg w) (hT : Tn w) :
  Calls prog 5 #[.slice a n cap, .string nm, .int .i64 k, .int .i64 mode, .string da] w λe w' => e = .returned (.bool true) /\ Below w.heap.size w w' := by
 have HAw := hid (awake13_any w hD hT)
 have HFw := hid (λW (hb : Below w.heap.size w W) => few_any a n cap l W (hS.below hb) hn)
 have HRr := hid (λW => refRight_any nm W hz)
 unfold RightPost at HRr
 cases hfew : few11 l with
 | false =>
  rw [hfew] at HFw
  clear hS hD hT hfew
  go_enter func5, ntmps5
  go_wp2_with fail
  refine HAw.out.mono ?_
  rintro e w1 ⟨rfl, hb⟩
  have HB := hid hb
  clear hb
  dsimp only
  go_wp2_with fail
  refine (HFw.out w1 HB.out).mono ?_
  rintro e w2 ⟨rfl, hb⟩
  have HB := hid (HB.out.trans (hb.mono HB.out.size))
  clear hb
  dsimp only
  go_wp2_with fail
  go_ret
  exact ⟨rfl, HB.out⟩
 | true =>
 cases hr : Nm.right nm.data.toList with
 | false =>
  rw [hfew] at HFw
  rw [hr] at HRr
  clear hS hD hT hfew hr
  go_enter func5, ntmps5
  go_wp2_with fail
  refine HAw.out.mono ?_
  rintro e w1 ⟨rfl, hb⟩
  have HB := hid hb
  clear hb
  dsimp only
  go_wp2_with fail
  refine (HFw.out w1 HB.out).mono ?_
  rintro e w2 ⟨rfl, hb⟩
  have HB := hid (HB.out.trans (hb.mono HB.out.size))
  clear hb
  dsimp only
  go_wp2_with fail
  refine (HRr.out w2).mono ?_
  rintro e w3 ⟨rfl, rfl⟩
  dsimp only
  go_wp2_with fail
  go_ret
  exact ⟨rfl, HB.out⟩
 | true =>
 by_cases h5 : da.size <= 500
 ·by_cases k1 : k = 1
  ·subst k1; exact cmdMakes1_any a n cap l nm mode da w hS hn hmo hz hD hT hfew hr h5
  by_cases k2 : k = 2
  ·subst k2; exact cmdMakes2_any a n cap l nm mode da w hS hn hmo hz hD hT hfew hr h5
  by_cases k3 : k = 3
  ·subst k3; exact cmdMakes3_any a n cap l nm mode da w hS hn hmo hz hD hT hfew hr h5
  rw [hfew] at HFw
  rw [hr] at HRr
  have h5i : ¬ (500 : Int) < (da.size : Int) := by omega
  clear hS hD hT hfew hr h5
  by_cases k0 : k < 1
  ·clear k1 k2 k3
   go_enter func5, ntmps5
   go_wp2_with fail
   refine HAw.out.mono ?_
   rintro e w1 ⟨rfl, hb⟩
   have HB := hid hb
   clear hb
   dsimp only
   go_wp2_with fail
   refine (HFw.out w1 HB.out).mono ?_
   rintro e w2 ⟨rfl, hb⟩
   have HB := hid (HB.out.trans (hb.mono HB.out.size))
   clear hb
   dsimp only
   go_wp2_with fail
   refine (HRr.out w2).mono ?_
   rintro e w3 ⟨rfl, rfl⟩
   dsimp only
   go_wp2_with fail
   go_ret
   exact ⟨rfl, HB.out⟩
  ·have k4 : 3 < k := by omega
   clear k1 k2 k3
   go_enter func5, ntmps5
   go_wp2_with fail
   refine HAw.out.mono ?_
   rintro e w1 ⟨rfl, hb⟩
   have HB := hid hb
   clear hb
   dsimp only
   go_wp2_with fail
   refine (HFw.out w1 HB.out).mono ?_
   rintro e w2 ⟨rfl, hb⟩
   have HB := hid (HB.out.trans (hb.mono HB.out.size))
   clear hb
   dsimp only
   go_wp2_with fail
   refine (HRr.out w2).mono ?_
   rintro e w3 ⟨rfl, rfl⟩
   dsimp only
   go_wp2_with fail
   go_ret
   exact ⟨rfl, HB.out⟩
 ·have h5i : (500 : Int) < (da.size : Int) := by omega
  rw [hfew] at HFw
  rw [hr] at HRr
  clear hS hD hT hfew hr h5
  go_enter func5, ntmps5
  go_wp2_with fail
  refine HAw.out.mono ?_
  rintro e w1 ⟨rfl, hb⟩
  have HB := hid hb
  clear hb
  dsimp only
  go_wp2_with fail
  refine (HFw.out w1 HB.out).mono ?_
  rintro e w2 ⟨rfl, hb⟩
  have HB := hid (HB.out.trans (hb.mono HB.out.size))
  clear hb
  dsimp only
  go_wp2_with fail
  refine (HRr.out w2).mono ?_
  rintro e w3 ⟨rfl, rfl⟩
  dsimp only
  go_wp2_with fail
  go_ret
  exact ⟨rfl, HB.out⟩
end Go.Proofs.YthbajmlmjjfgpaaGreatDoor
