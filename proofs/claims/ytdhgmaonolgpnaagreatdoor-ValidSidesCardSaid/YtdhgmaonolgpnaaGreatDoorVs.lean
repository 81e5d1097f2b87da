/- ValidSides of layer 15 (valid): for every input the law returns true, and each argument reads as it did. Conditions: the row's own (the listed tables of Go's library read as listed, which the card ties to the program's text; a variable of Go's library that the row names and does not list holds any number). -/
import Derived.Test.YtdhgmaonolgpnaaGreatDoorCards
import Derived.Test.YtdhgmaonolgpnaaGreatDoorTie
import Derived.Test.YtdhgmaonolgpnaaGreatDoorIx
import Derived.Lay
import Derived.Stop.LaidErr
import Derived.Lib.LaidU8
set_option linter.unusedSimpArgs false
set_option maxRecDepth 100000
namespace Go.Proofs.YtdhgmaonolgpnaaGreatDoor
abbrev Nl:=@Go.MakeChecks.laidMetH_plain
namespace validSides
open Go.ChangeShapes Go.WideShapes Go.ChangeAt Go.RowKit Go.ChangeMaps
theorem own:ownKnob Tryz.prog.godebug=none:=by kernel_rfl
theorem gTab:Tryz.prog.globalNamed "internal/strconv.uint64pow10"=some 1:=by kernel_rfl
theorem Fk:(Tryz.prog.globals[1]?).map (·.type)=some 249:=by kernel_rfl
theorem Ik:Tryz.prog.cellsOf 249=20:=by kernel_rfl
theorem Ij:Tryz.prog.cellsOf 201=1:=by kernel_rfl
theorem tables{W:World}(h:laidMetH Tryz.prog Rows.validSidesRow.laid W):Tab W:=by
 rw[Nl _ _ _ (by kernel_rfl)] at h;exact Lib.tabIs_of_head gTab Fk Tryz.underlying249 Tryz.underlying201 Ij Ik (laidMet.tail (laidMet.tail h))
theorem kinds:∀t∈([9,9,9,9]:List TypeId),Tryz.prog.readableRec t=true/\t<Tryz.prog.types.size:=by
 have h:(([9,9,9,9]:List TypeId).all λt=>Tryz.prog.readableRec t&&decide (t<Tryz.prog.types.size))=true:=by kernel_rfl
 intro t ht;have:=Km.1 h t ht;simpa using this
theorem lifted(os:Os)(started:os.Started)(H:Type)(enc:TypeId×Value->H):
  ReturnsInHanded {} Tryz.checked os 3 .any (λw args=>(Rows.validSidesSpec.pre enc Tryz.prog Tryz.f3 [] false w args/\laidMetH Tryz.prog Rows.validSidesRow.laid w)/\sizedMet enc Tryz.prog Tryz.f3 (OpenSpec.ofChange Rows.validSidesSpec) false w args)
   (Rows.validSidesSpec.post enc Tryz.prog Tryz.f3 false true false false):=by
 refine kD (C:=Tryz.checked) (X:=λw _=>laidMetH Tryz.prog Rows.validSidesRow.laid w) (λ_ _ _ hh h=>h.of_heap hh) own started (by kernel_rfl) Tryz.func3
  (ChangeSpec.witness_shaped (enc:=enc) (C:=Tryz.checked) (os:=os) (X:=λw _=>laidMetH Tryz.prog Rows.validSidesRow.laid w) false (World.laidAll Tryz.prog os Rows.validSidesRow.laid) #[.string ⟨#[]⟩,.string ⟨#[]⟩,.string ⟨#[]⟩,.string ⟨#[]⟩] 8 (World.laidAll_os _ _ _)
   (World.shaped_of_ZipB (by kernel_rfl) (by kernel_rfl)) (by kernel_rfl) (by kernel_rfl) (by kernel_rfl)
   (by rw[Nl _ _ _ (by kernel_rfl)];exact laidMet_laidAll _ (by kernel_rfl) (by kernel_rfl))) ?_
 intro W base args ds gs before hval0 hW hsz0 hL hshape;have hT:Tab W:=tables hL;have hmax:lW W:=Go.Proofs.cell_of_shapedOpen_int (zero:=#[.int .i64 0]) (t:=3) hshape (KU (by kernel_rfl)) (by kernel_rfl) rfl (by kernel_rfl) (by kernel_rfl) Tryz.underlying3;have hsz:(DataW.weightsEach Tryz.prog (Tryz.f3.params.toList++Rows.validSidesSpec.plain.varTypes Tryz.prog) (ds++gs)).all (·<=reachBytes)=true:=hsz0;have hval:∀(j:Nat) t v,Tryz.f3.params[j]? =some t->args[j]? =some v->Value.okWide Tryz.prog W .any base t v:=hval0;have hW':=hW;obtain⟨p,q,hA0,hV,rfl,_,_⟩:=hW;have hlt:∀x∈p,x.block<W.heap.size:=λx hx=>by simpa using hW'.lt x (Lf _ hx)
 have hAll:∀W',Below W.heap.size W W'->DataW.TrodAll enc Tryz.prog W' 0 (λb=>decide (b<W.heap.size)) true Tryz.f3.params.toList args.toList ds p:=λW' hb=>by
  have hA:DataW.TrodAll enc Tryz.prog W 0 (λ_=>true) true Tryz.f3.params.toList args.toList ds p:=hA0;rw[Tryz.params3] at hA ⊢;exact lV Ae hb kinds hA hlt
 have hA:DataW.TrodAll enc Tryz.prog W 0 (λ_=>true) true Tryz.f3.params.toList args.toList ds p:=hA0;rw[Tryz.params3] at hA hval hsz;obtain⟨v0,vs0,d0,ds0,p0,q0,hargs,rfl,rfl,h0,r0⟩:=trodAll_cons hA;obtain⟨v1,vs1,d1,ds1,p1,q1,rfl,rfl,rfl,h1,r1⟩:=trodAll_cons r0;obtain⟨v2,vs2,d2,ds2,p2,q2,rfl,rfl,rfl,h2,r2⟩:=trodAll_cons r1;obtain⟨v3,vs3,d3,ds3,p3,q3,rfl,rfl,rfl,h3,r3⟩:=trodAll_cons r2;obtain⟨rfl,rfl,rfl⟩:=trodAll_nil r3;obtain rfl:args=#[v0,v1,v2,v3]:=by cases args;simp_all
 obtain⟨rfl,rfl⟩:=trodVars_none hV;obtain⟨x0,rfl,rfl,-,_⟩:=open_string Tryz.underlying9 (hval 0 9 v0 rfl rfl) h0;have z0:=Ny hsz (j:=0) (t:=9) rfl rfl;obtain⟨x1,rfl,rfl,-,_⟩:=open_string Tryz.underlying9 (hval 1 9 v1 rfl rfl) h1;have z1:=Ny hsz (j:=1) (t:=9) rfl rfl;obtain⟨x2,rfl,rfl,-,_⟩:=open_string Tryz.underlying9 (hval 2 9 v2 rfl rfl) h2;have z2:=Ny hsz (j:=2) (t:=9) rfl rfl;obtain⟨x3,rfl,rfl,-,_⟩:=open_string Tryz.underlying9 (hval 3 9 v3 rfl rfl) h3;have z3:=Ny hsz (j:=3) (t:=9) rfl rfl;clear hA0 hval0 hsz0;unfold reachBytes at z0 z1 z2 z3;refine(sO Hs zb Ja x0.data.toList x1.data.toList x2.data.toList x3.data.toList W ⟨hT,hmax⟩ (by omega) (by omega) (by omega) (by omega)).mono λe W' ⟨he,hb⟩=>?_;subst he;exact⟨_,rfl,_,_,_,[],_,[],hW',trodAll_mk1 (shut_bool Tryz.underlying4 _),hAll W' hb,rfl,hb.frame _,λh=>by cases h⟩
theorem said:Rows.ValidSidesSaid:=
 OpenClaim.holds_of_wide 3 Tryz.f3 rfl rfl rfl rfl rfl rfl rfl ⟨rfl,rfl,rfl,rfl,rfl⟩ rfl rfl rfl rfl rfl (by kernel_rfl) Tryz.func3 (by kernel_rfl)
  (KU (by kernel_rfl)) (by unfold Func.isWrapper;first|(rw[Jo (by decide+kernel)];kernel_rfl)|(rw[Jj (by decide+kernel)];exact⟨rfl,rfl⟩))
  (λos started H enc _=>lifted os started H enc)
theorem card:Rows.ValidSidesCardSaid:=
 Claim7.holds_tied_plain_at .later [] _ _ _ _ said (λ_ h=>by cases h) (by kernel_rfl) (λ_ h=>by cases h) validSides_row_tie rfl ⟨rfl,rfl⟩ (by kernel_rfl) rfl
  (λf fn hf hfn=>by
   obtain rfl:f=3:=JY ((show Tryz.prog.funcNamed "doublet/doubletlaw15.ValidSides"=some 3 by kernel_rfl).symm.trans hf) |>.symm
   obtain rfl:fn=Tryz.f3:=(JY (Tryz.func3.symm.trans hfn)).symm
   exact⟨by kernel_rfl,λj t ht=>by
    rw[Tryz.params3] at ht
    have hm:t∈[9,9,9,9]:=by simpa using Array.mem_of_getElem? ht
    have hall:([9,9,9,9].all λu=> !Tryz.prog.wantsStandIn u)=true:=by kernel_rfl
    exact(show Tryz.prog.wantsStandIn t=false by simpa using Km.1 hall t hm)⟩)
  (by kernel_rfl)
end validSides
end Go.Proofs.YtdhgmaonolgpnaaGreatDoor
