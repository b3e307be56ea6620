/- FsPlays, where what it reads is of bulk at most the given number: whatever the operations, the path and the two numbers, the law answers true; all reads as before; the listed tables are tied to the program's text. Conditions: those of the form alone, the given bound among them. -/
import Derived.Test.YtabmamofnhcgbaaGreatDoorTie
import Derived.Test.YtabmamofnhcgbaaGreatDoorCards
import Derived.SevenTiedAt
import Derived.Deep.DeepHandedRow
import Derived.Test.YtabmamofnhcgbaaGreatDoorP04
set_option maxRecDepth 1000000
open Go.Proofs.Tryz
namespace Go.Proofs.YtabmamofnhcgbaaGreatDoor
open Go.ChangeShapes Go.WideShapes Go.ChangeAt Go.WideMaps Go.WideElems Go.RowKit Go.Joins Go.Deep
open Go.ChangeMaps (open_string shut_string)
theorem qt(H:Type)(enc:TypeId×Value->H)(W:World)(base:Nat)(args:Array Value)(ds gs:List (DataW H))(before:List MemPlace)
  (hval: ∀(j:Nat) t v,Tryz.f3.params[j]?=some t->args[j]?=some v->Value.okWide prog W .any base t v)
  (hW:DataW.Whole enc prog Tryz.f3.params.toList Rows.fsPlaysSpec.vars false W args.toList ds gs before) (hk:Rows.uptoSmall H (ds++gs)=true)
  (hsz:(DataW.weightsEach prog (Tryz.f3.params.toList++Rows.fsPlaysSpec.plain.varTypes prog) (ds++gs)).all (· <=reachBytes)=true) (hL:laidMetH prog Rows.fsPlaysRow.laid W):
  Calls prog 3 args W λe W'=> ∃v,e= .returned v/\Rows.fsPlaysSpec.post enc prog Tryz.f3 false true false false W args v W':=by
 have hW':=hW
 obtain⟨p,q,hA0,hV,rfl,hfz,hnd⟩:=hW
 have hA:DataW.TrodAll enc prog W 0 (λ_=>true) true Tryz.f3.params.toList args.toList ds p:=hA0
 rw[Tryz.params3]at hA hval hsz
 obtain⟨v0,v1,v2,v3,d0,d1,d2,d3,p0,p1,p2,p3,rfl,rfl,rfl,h0,h1,h2,h3⟩:=trodAll_four hA
 obtain⟨rfl,rfl⟩:=trodVars_none hV
 rw[MakeChecks.laidMetH_plain _ _ _ (by kernel_rfl)]at hL
 have hDg:=K2 hL (by kernel_rfl) (by kernel_rfl) (by kernel_rfl) (by kernel_rfl)
 have h0k:=h0
 obtain⟨a0,n0,c0,rfl⟩:=okWide_slice underlying22 (hval 0 22 v0 rfl rfl)
 obtain⟨fuel0,hf0⟩:=h0
 obtain⟨a',n',c',l0,he,hO0,hn0,hbk⟩:=ZM (show DataW.trod enc prog W 0 (λ_=>true) true fuel0 22 [.slice a0 n0 c0]=some (d0,p0)from hf0) (λx hx=>of_decide_eq_true (List.all_eq_true.1 hsz _ (DataW.weights_mem_each (j:=0) rfl rfl x hx)))
 injection he with e1 e2 e3
 subst e1 e2 e3
 obtain⟨s1,rfl,rfl,rfl,hs1⟩:=open_string underlying9 (hval 1 9 v1 rfl rfl) h1
 obtain⟨z2,rfl,rfl,rfl,hz2⟩:=open_int underlying3 (hval 2 3 v2 rfl rfl) h2
 obtain⟨z3,rfl,rfl,rfl,hz3⟩:=open_int underlying3 (hval 3 3 v3 rfl rfl) h3
 have hb:Rows.uptoBulk d0<=1048576:=by
  have h:=of_decide_eq_true hk
  simp only[List.append_nil,Rows.uptoBulkAll]at h
  omega
 have hbs: ∀o∈l0,o.a.size<=1048576/\o.b.size<=1048576:=λo ho=>⟨Nat.le_trans (hbk o ho).1 hb,Nat.le_trans (hbk o ho).2 hb⟩
 clear hA0 hk hbk hb
 simp only[List.append_nil]at hW'
 refine(Uq a0 n0 c0 l0 s1 z2 z3 W hO0 hn0 (jz (sized_string hsz (j:=1) (t:=9) rfl rfl)) (ZT hz2) (ZT hz3) hbs hDg).mono ?_
 rintro e W2 ⟨rfl,hn⟩
 have hlt0: ∀x∈p0,x.block<W.heap.size:=λx hx=>by simpa using hW'.lt x (by simp[hx])
 refine⟨_,rfl,_,_,_,[],p0,[],hW',trodAll_mk1 (shut_bool underlying4 _), ?_,rfl,hn.frame _,λh=>by cases h⟩
 have:=trodAll_mk4 (Below.trod laidOut (by kernel_rfl) (of_decide_eq_true (by kernel_rfl)) h0k hn hlt0) (shut_string (enc:=enc) underlying9 hs1) (shut_int (enc:=enc) underlying3 hz2) (shut_int (enc:=enc) underlying3 hz3)
 simp only[List.append_nil]at this
 exact this
theorem Yw(os:Os){H:Type}(enc:TypeId×Value->H):DataW.whole enc prog ((World.laidAll prog os Rows.fsPlaysRow.laid).forCall (λ_ _=>0) ⟨#[],#[.slice none 0 0,.string ⟨#[]⟩,.int .i64 0,.int .i64 0],[]⟩).memory Tryz.f3.params.toList Rows.fsPlaysSpec.vars false #[Value.slice none 0 0,.string ⟨#[]⟩,.int .i64 0,.int .i64 0].toList 8=some ([.nil,.lit (.string []),.lit (.int .i64 0),.lit (.int .i64 0)],[],[]):=by kernel_rfl
theorem j3(os:Os)(started:os.Started)(H:Type)(enc:TypeId×Value->H)(F:Stop.Interp):
  ReturnsInHanded {} Tryz.checked os 3 .any ((Rows.OpenSpec.upto Rows.fsPlaysSpec).preRow enc prog Tryz.f3 Rows.fsPlaysUptoRow.domain false Rows.fsPlaysUptoRow.laid) (((Rows.OpenSpec.upto Rows.fsPlaysSpec).at F).post enc prog Tryz.f3 false true false false):=by
 have hok:Input.okWideB prog (World.laidAll prog os Rows.fsPlaysRow.laid) 3 ⟨#[],#[.slice none 0 0,.string ⟨#[]⟩,.int .i64 0,.int .i64 0],[]⟩=true:=by kernel_rfl
 refine returnsInHanded_of_row (C:=Tryz.checked) (s:=Rows.OpenSpec.upto Rows.fsPlaysSpec) own started (by kernel_rfl) func3
  ⟨World.laidAll prog os Rows.fsPlaysRow.laid,λ_ _=>0,⟨#[],#[.slice none 0 0,.string ⟨#[]⟩,.int .i64 0,.int .i64 0],[]⟩,World.laidAll_os _ _ _,World.shaped_of_ZipB (by kernel_rfl) (by kernel_rfl),
   (Input.okWide_of_okWideB (base:=0) hok).1,(Input.okWide_of_okWideB hok).2,
   OpenSpec.preRow_of_cond 8 (Yw os enc) (by kernel_rfl) (λk hk=>by cases hk;kernel_rfl) (by kernel_rfl) (by rw[MakeChecks.laidMetH_plain _ _ _ (by kernel_rfl)];exact laidMet_laidAll _ (by kernel_rfl) (by kernel_rfl)),by
    simp only[Assume.holds]
    exact⟨by simp,by simp,λ_=>Modest.zero,by simp,by simp⟩⟩ ?_
 intro W base args ds gs before hval hW _ hcond hsz hL _ _
 exact qt H enc W base args ds gs before hval hW (hcond _ rfl) hsz hL
theorem X2:Rows.FsPlaysUptoSaid:=
 OpenClaim.holds_of_cond 3 Tryz.f3 rfl rfl rfl rfl rfl rfl rfl ⟨rfl,rfl,rfl,rfl,rfl⟩ rfl rfl rfl rfl rfl (by kernel_rfl) func3 (by kernel_rfl)
  (of_decide_eq_true (by kernel_rfl)) (by unfold Func.isWrapper;first|(rw[if_pos (by decide+kernel)];kernel_rfl)|(rw[if_neg (by decide+kernel)];exact⟨rfl,rfl⟩))
  (λos started H enc _ F=>by rw[OpenClaim.pre_eq_preRow];exact j3 os started H enc F)
theorem fsPlaysUpto_card:Rows.FsPlaysUptoCardSaid:=
 Claim7.holds_tied_plain_at .later [] [.data,.data] true Rows.fsPlaysUptoCard.stood.harness true
  X2 (λ_ h=>by cases h) (by kernel_rfl) (λ_ h=>by cases h) fsPlaysUpto_row_tie rfl ⟨rfl,rfl⟩ (by kernel_rfl) rfl
  (λf fn hf hfn=>by
   obtain rfl:f=3:=Option.some.inj ((show prog.funcNamed Rows.fsPlaysUptoRow.func=some 3 by kernel_rfl).symm.trans hf)|>.symm
   obtain rfl:fn=Tryz.f3:=(Option.some.inj (func3.symm.trans hfn)).symm
   exact⟨by kernel_rfl,λj t ht=>by
    rw[Tryz.params3]at ht
    have hm:t∈[22,9,3,3]:=by simpa using Array.mem_of_getElem? ht
    have hall:([22,9,3,3].all λu=> !Tryz.prog.wantsStandIn u)=true:=by kernel_rfl
    exact(show prog.wantsStandIn t=false by simpa using List.all_eq_true.1 hall t hm)⟩)
  (by kernel_rfl)
#print axioms fsPlaysUpto_card
end Go.Proofs.YtabmamofnhcgbaaGreatDoor
