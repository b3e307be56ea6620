/- SnapApart, where what it reads is of bulk at most the given number: whatever the two rows of operations and the two names, the law answers true; all reads as before; the listed tables are tied to the program's text. Conditions: those of the form alone, the given bulk among them. -/
import Derived.Test.YtabmamofnhcgbaaGreatDoorTie
import Derived.Test.YtabmamofnhcgbaaGreatDoorCards
import Derived.SevenTiedAt
import Derived.Deep.DeepHandedRow
import Derived.Test.YtabmamofnhcgbaaGreatDoorA01
set_option maxRecDepth 1000000
open Go.Proofs.Tryz
namespace Go.Proofs.YtabmamofnhcgbaaGreatDoor
open Go.ChangeShapes Go.WideShapes Go.ChangeAt Go.WideMaps Go.WideElems Go.RowKit Go.Joins Go.Deep
open Go.ChangeMaps (open_string shut_string)
theorem jP(H:Type)(enc:TypeId×Value->H)(W:World)(base:Nat)(args:Array Value)(ds gs:List (DataW H))(before:List MemPlace)
  (hval: ∀(j:Nat) t v,Tryz.f6.params[j]?=some t->args[j]?=some v->Value.okWide prog W .any base t v)
  (hW:DataW.Whole enc prog Tryz.f6.params.toList Rows.snapApartSpec.vars false W args.toList ds gs before) (hk:Rows.uptoSmall H (ds++gs)=true)
  (hsz:(DataW.weightsEach prog (Tryz.f6.params.toList++Rows.snapApartSpec.plain.varTypes prog) (ds++gs)).all (· <=reachBytes)=true) (hL:laidMetH prog Rows.snapApartRow.laid W):
  Calls prog 6 args W λe W'=> ∃v,e= .returned v/\Rows.snapApartSpec.post enc prog Tryz.f6 false true false false W args v W':=by
 have hW':=hW
 obtain⟨p,q,hA0,hV,rfl,hfz,hnd⟩:=hW
 have hA:DataW.TrodAll enc prog W 0 (λ_=>true) true Tryz.f6.params.toList args.toList ds p:=hA0
 rw[Tryz.params6]at hA hval hsz
 obtain⟨v0,v1,v2,v3,d0,d1,d2,d3,p0,p1,p2,p3,rfl,rfl,rfl,h0,h1,h2,h3⟩:=trodAll_four hA
 obtain⟨rfl,rfl⟩:=trodVars_none hV
 rw[MakeChecks.laidMetH_plain _ _ _ (by kernel_rfl)]at hL
 have hDg:=K2 hL (by kernel_rfl) (by kernel_rfl) (by kernel_rfl) (by kernel_rfl)
 have h0k:=h0
 obtain⟨a0,n0,c0,rfl⟩:=okWide_slice underlying22 (hval 0 22 v0 rfl rfl)
 obtain⟨fuel0,hf0⟩:=h0
 have hq0:=Y5 (show DataW.trod enc prog W 0 (λ_=>true) true fuel0 22 [.slice a0 n0 c0]=some (d0,p0)from hf0)
 obtain⟨a',n',c',l0,he,hO0,hn0,hbk⟩:=ZM (show DataW.trod enc prog W 0 (λ_=>true) true fuel0 22 [.slice a0 n0 c0]=some (d0,p0)from hf0) (λx hx=>of_decide_eq_true (List.all_eq_true.1 hsz _ (DataW.weights_mem_each (j:=0) rfl rfl x hx)))
 injection he with e1 e2 e3
 subst e1 e2 e3
 have h1k:=h1
 obtain⟨a1,n1,c1,rfl⟩:=okWide_slice underlying22 (hval 1 22 v1 rfl rfl)
 obtain⟨fuel1,hf1⟩:=h1
 have hq1:=Y5 (show DataW.trod enc prog W 0 (λ_=>true) true fuel1 22 [.slice a1 n1 c1]=some (d1,p1)from hf1)
 obtain⟨a',n',c',l1,he,hO1,hn1,hbk1⟩:=ZM (show DataW.trod enc prog W 0 (λ_=>true) true fuel1 22 [.slice a1 n1 c1]=some (d1,p1)from hf1) (λx hx=>of_decide_eq_true (List.all_eq_true.1 hsz _ (DataW.weights_mem_each (j:=1) rfl rfl x hx)))
 injection he with e1 e2 e3
 subst e1 e2 e3
 obtain⟨s2,rfl,rfl,rfl,hs2⟩:=open_string underlying9 (hval 2 9 v2 rfl rfl) h2
 obtain⟨s3,rfl,rfl,rfl,hs3⟩:=open_string underlying9 (hval 3 9 v3 rfl rfl) h3
 have hb:n0+n1<=1048576:=by
  have h:=of_decide_eq_true hk
  simp only[List.append_nil,Rows.uptoBulkAll]at h
  have e0:=hq0.1
  have e1:=hq1.1
  dsimp only at e0 e1
  omega
 clear hA0 hk hbk hbk1
 simp only[List.append_nil]at hW'
 refine(Yo a0 n0 c0 l0 a1 n1 c1 l1 s2 s3 W hO0 hO1 hq0.2 hq1.2 hb (jz (sized_string hsz (j:=2) (t:=9) rfl rfl)) (jz (sized_string hsz (j:=3) (t:=9) rfl rfl)) hDg).mono ?_
 rintro e W2 ⟨rfl,hn⟩
 have hlt0: ∀x∈p0,x.block<W.heap.size:=λx hx=>by simpa using hW'.lt x (by simp[hx])
 have hlt1: ∀x∈p1,x.block<W.heap.size:=λx hx=>by simpa using hW'.lt x (by simp[hx])
 refine⟨_,rfl,_,_,_,[],p0++p1,[],hW',trodAll_mk1 (shut_bool underlying4 _), ?_,rfl,hn.frame _,λh=>by cases h⟩
 have:=trodAll_mk4 (Below.trod laidOut (by kernel_rfl) (of_decide_eq_true (by kernel_rfl)) h0k hn hlt0) (Below.trod laidOut (by kernel_rfl) (of_decide_eq_true (by kernel_rfl)) h1k hn hlt1) (shut_string (enc:=enc) underlying9 hs2) (shut_string (enc:=enc) underlying9 hs3)
 simp only[List.append_nil]at this
 exact this
theorem qX(os:Os){H:Type}(enc:TypeId×Value->H):DataW.whole enc prog ((World.laidAll prog os Rows.snapApartRow.laid).forCall (λ_ _=>0) ⟨#[],#[.slice none 0 0,.slice none 0 0,.string ⟨#[]⟩,.string ⟨#[]⟩],[]⟩).memory Tryz.f6.params.toList Rows.snapApartSpec.vars false #[Value.slice none 0 0,.slice none 0 0,.string ⟨#[]⟩,.string ⟨#[]⟩].toList 8=some ([.nil,.nil,.lit (.string []),.lit (.string [])],[],[]):=by kernel_rfl
theorem uP(os:Os)(started:os.Started)(H:Type)(enc:TypeId×Value->H)(F:Stop.Interp):
  ReturnsInHanded {} Tryz.checked os 6 .any ((Rows.OpenSpec.upto Rows.snapApartSpec).preRow enc prog Tryz.f6 Rows.snapApartUptoRow.domain false Rows.snapApartUptoRow.laid) (((Rows.OpenSpec.upto Rows.snapApartSpec).at F).post enc prog Tryz.f6 false true false false):=by
 have hok:Input.okWideB prog (World.laidAll prog os Rows.snapApartRow.laid) 6 ⟨#[],#[.slice none 0 0,.slice none 0 0,.string ⟨#[]⟩,.string ⟨#[]⟩],[]⟩=true:=by kernel_rfl
 refine returnsInHanded_of_row (C:=Tryz.checked) (s:=Rows.OpenSpec.upto Rows.snapApartSpec) own started (by kernel_rfl) func6
  ⟨World.laidAll prog os Rows.snapApartRow.laid,λ_ _=>0,⟨#[],#[.slice none 0 0,.slice none 0 0,.string ⟨#[]⟩,.string ⟨#[]⟩],[]⟩,World.laidAll_os _ _ _,World.shaped_of_ZipB (by kernel_rfl) (by kernel_rfl),
   (Input.okWide_of_okWideB (base:=0) hok).1,(Input.okWide_of_okWideB hok).2,
   OpenSpec.preRow_of_cond 8 (qX os enc) (by kernel_rfl) (λk hk=>by cases hk;kernel_rfl) (by kernel_rfl) (by rw[MakeChecks.laidMetH_plain _ _ _ (by kernel_rfl)];exact laidMet_laidAll _ (by kernel_rfl) (by kernel_rfl)),by
    simp only[Assume.holds]
    exact⟨by simp,by simp,λ_=>Modest.zero,by simp,by simp⟩⟩ ?_
 intro W base args ds gs before hval hW _ hcond hsz hL _ _
 exact jP H enc W base args ds gs before hval hW (hcond _ rfl) hsz hL
theorem Zp:Rows.SnapApartUptoSaid:=
 OpenClaim.holds_of_cond 6 Tryz.f6 rfl rfl rfl rfl rfl rfl rfl ⟨rfl,rfl,rfl,rfl,rfl⟩ rfl rfl rfl rfl rfl (by kernel_rfl) func6 (by kernel_rfl)
  (of_decide_eq_true (by kernel_rfl)) (by unfold Func.isWrapper;first|(rw[if_pos (by decide+kernel)];kernel_rfl)|(rw[if_neg (by decide+kernel)];exact⟨rfl,rfl⟩))
  (λos started H enc _ F=>by rw[OpenClaim.pre_eq_preRow];exact uP os started H enc F)
theorem snapApartUpto_card:Rows.SnapApartUptoCardSaid:=
 Claim7.holds_tied_plain_at .later [] [.data,.data] true Rows.snapApartUptoCard.stood.harness true
  Zp (λ_ h=>by cases h) (by kernel_rfl) (λ_ h=>by cases h) snapApartUpto_row_tie rfl ⟨rfl,rfl⟩ (by kernel_rfl) rfl
  (λf fn hf hfn=>by
   obtain rfl:f=6:=Option.some.inj ((show prog.funcNamed Rows.snapApartUptoRow.func=some 6 by kernel_rfl).symm.trans hf)|>.symm
   obtain rfl:fn=Tryz.f6:=(Option.some.inj (func6.symm.trans hfn)).symm
   exact⟨by kernel_rfl,λj t ht=>by
    rw[Tryz.params6]at ht
    have hm:t∈[22,22,9,9]:=by simpa using Array.mem_of_getElem? ht
    have hall:([22,22,9,9].all λu=> !Tryz.prog.wantsStandIn u)=true:=by kernel_rfl
    exact(show prog.wantsStandIn t=false by simpa using List.all_eq_true.1 hall t hm)⟩)
  (by kernel_rfl)
#print axioms snapApartUpto_card
end Go.Proofs.YtabmamofnhcgbaaGreatDoor
