import Derived.HandedShaped
import Derived.Test.YtdhgmaonolgpnaaGreatDoorGm
set_option linter.unusedSimpArgs false
set_option linter.unusedVariables false
set_option maxHeartbeats 2000000
set_option maxRecDepth 100000
namespace Go.Proofs.YtdhgmaonolgpnaaGreatDoor
namespace Pt
open Go.Lib (replaceAll replace replaceNum replaceK replaceK_hit count_miss count_hit count_one splitK index_ge)
theorem Ho{old new:Jd}(h:old≠[])(hn:old≠new):replaceAll [] old new=[]:=by
 have hi:Lib.index [] old= -1:=by cases old with
  |nil=>exact absurd rfl h
  |cons=>rfl
 have hb:(old==new)=false:=by simpa using hn
 unfold replaceAll replace;rw[hb,Jj (by decide)];unfold replaceNum;rw[Jo (.inl (by decide)),count_miss hi];rfl
theorem qa{s old new:Jd}(hn:old≠new):replaceAll s old new=replaceK old new (Lib.count s old) s:=by
 have hb:(old==new)=false:=by simpa using hn
 unfold replaceAll replace;rw[hb,Jj (by decide)];unfold replaceNum;rw[Jo (.inl (by decide))]
theorem Hn{s old new:Jd}(h:old≠[])(hn:old≠new):replaceAll (old++s) old new=new++replaceAll s old new:=by
 have hi:Lib.index (old++s) old=((0:Nat):Int):=by
  cases old with
  |nil=>exact absurd rfl h
  |cons b l=>
   rw[JS,Lib.index,<-List.cons_append,Jo (by rw[List.isPrefixOf_iff_prefix];exact List.prefix_append _ _)];rfl
 rw[qa hn,qa hn,count_hit h hi,MC,replaceK_hit _ _ _ _ _ hi];simp
theorem G2{c:UInt8}{s old new:Jd}(h:old≠[])(hn:old≠new)(hp:old.isPrefixOf (c::s)=false):replaceAll (c::s) old new=c::replaceAll s old new:=by
 rw[qa hn,qa hn];have hx:Lib.index (c::s) old=if Lib.index s old== -1 then -1 else Lib.index s old+1:=by rw[Lib.index,hp];rfl
 have hge:=index_ge s old;by_cases hm:Lib.index s old= -1
 .have h1:Lib.index (c::s) old= -1:=by rw[hx,hm];rfl
  rw[count_miss hm,count_miss h1];rfl
 .obtain⟨i,hi⟩:∃i:Nat,Lib.index s old=i:=⟨(Lib.index s old).toNat,by omega⟩;have h1:Lib.index (c::s) old=((i+1:Nat):Int):=by
   rw[hx,Jj (by simpa using hm),hi];rfl
  rw[count_hit h hi,count_hit h h1,MC 1,MC 1,replaceK_hit _ _ _ _ _ hi,replaceK_hit _ _ _ _ _ h1];rw[show i+1+old.length=(i+old.length)+1 by omega];simp
theorem qd{a:UInt8}{new:Jd}(hn:[a]≠new)(s:Jd):replaceAll s [a] new=s.flatMap λc=>if c=a then new else[c]:=by
 induction s with
 |nil=>exact Ho (by simp) hn
 |cons c s ih=>
  by_cases h:c=a
  .subst h;rw[show c::s=[c]++s from rfl,Hn (by simp) hn,ih];simp
  .rw[G2 (by simp) hn (by simp[List.isPrefixOf,Ne.symm h]),ih];simp[h]
theorem zJ(n:Jd):replaceAll (replaceAll n [126] [126,48]) [47] [126,49]=name n:=by
 rw[qd (by decide),qd (by decide)]
 induction n with
 |nil=>rfl
 |cons c n ih=>
  have e:name (c::n)=esc c++name n:=by simp[name]
  rw[e,<-ih,KK,M0]
  congr 1
  unfold esc;by_cases h1:c=126
  .subst h1;decide
  .rw[Jj h1,Jj h1];by_cases h2:c=47
   .subst h2;decide
   .rw[Jj h2];simp[h2]
theorem EY(n:Jd):(replaceAll n [126] [126,48]).length<=2*n.length:=by
 rw[qd (by decide)]
 induction n with
 |nil=>simp
 |cons c n ih=>
  rw[KK,Jk,Jl];have h2:(if c=126 then[126,48] else[c]:Jd).length<=2:=by split<;>simp
  omega
def half:Jd->Jd
 |[]=>[]
 |c::n=>(if c=126 then[126,48] else[c])++half n
end Pt
section
open Go.RowKit Pt
def lW(w:World):Prop:=∃m:Int,w.cell? ⟨0,0,none⟩=some (.int .i64 m)
theorem lW.on{w w':World}(h:lW w)(hb:Below w.heap.size w w'):lW w':=by
 obtain⟨m,hm⟩:=h;exact⟨m,aa hb _ _ hm⟩
theorem lW.keep{B:Nat}{w w':World}(h:lW w)(hb:Below B w w')(hB:w.heap.size<=B):lW w':=h.on (hb.mono hB)
theorem C8(s old new:Jd)(q:Jd)(hq:Lib.replaceAll s old new=q)(w:World)(hT:lW w)(hs:s.length<=100000000)(h1:old≠[])(h2:new.length<=2):
  Calls Tryz.prog 136 #[.string ⟨s.toArray⟩,.string ⟨old.toArray⟩,.string ⟨new.toArray⟩] w λe w'=>e=.returned (.string ⟨q.toArray⟩)/\Below w.heap.size w w':=by
 obtain⟨m,hm⟩:=hT;subst hq;have hl:(⟨s.toArray⟩:ByteArray).size=s.length:=K7 s;have ho:1<=(⟨old.toArray⟩:ByteArray).size:=by rw[K7];exact L5.2 h1
 have hc:=Lib.countB_le ⟨old.toArray⟩ ho s.length ⟨s.toArray⟩ (by omega);have hn:(⟨new.toArray⟩:ByteArray).size<=2:=by rw[K7];exact h2
 have hmul:=Nat.mul_le_mul hc hn;exact Tryz.strings_ReplaceAll ⟨s.toArray⟩ ⟨old.toArray⟩ ⟨new.toArray⟩ m w (by omega) hm ho (by omega)
theorem xi(n:Jd)(w:World)(hT:lW w)(hs:n.length<=10000000):
  Calls Tryz.prog 98 #[.string ⟨n.toArray⟩] w λe w'=>e=.returned (.string ⟨(name n).toArray⟩)/\Below w.heap.size w w':=by
 have hh:=EY n;have H1:=Jf (C8 n [126] [126,48] _ rfl w hT (by omega) (by simp) (by simp));have H2:=Jf (λW hT=>C8 (Lib.replaceAll n [126] [126,48]) [47] [126,49] (name n) (zJ n) W hT (by omega) (by simp) (by simp));have HT:=Jf hT;clear hT;generalize Lib.replaceAll n [126] [126,48]=h at*
 go_enter Tryz.func98,Tryz.ntmps98;go_wp2_with fail;refine H1.out.mono ?_;rintro e w1 ⟨rfl,hb1⟩;go_wp2_with fail;refine(H2.out _ (HT.out.on hb1)).mono ?_;rintro e w2 ⟨rfl,hb2⟩;go_wp2_with fail;go_ret;exact⟨rfl,hb1.trans (hb2.mono hb1.size)⟩
end
section
open Go.ChangeShapes Go.WideShapes Go.ChangeAt Go.RowKit Pt
theorem Ae:laidOutB Tryz.prog=true:=by kernel_rfl
theorem lV{H:Type}{enc:TypeId×Value->H}{P:Program}(hl:laidOutB P=true){W W':World}(hb:Below W.heap.size W W'):
  ∀{ts:List TypeId} {vs:List Value} {ds:List (DataW H)} {ps:List MemPlace},(∀t∈ts,P.readableRec t=true/\t<P.types.size)->DataW.TrodAll enc P W 0 (λ_=>true) true ts vs ds ps->(∀x∈ps,x.block<W.heap.size)->
   DataW.TrodAll enc P W' 0 (λb=>decide (b<W.heap.size)) true ts vs ds ps
 |[],[],[],_,_,h,_=>h
 |t::ts,v::vs,d::ds,ps,hT,⟨p,q,h1,h2,e⟩,hs=>by
  refine⟨p,q,Below.trod hl (hT t (by simp)).1 (hT t (by simp)).2 h1 hb (λx hx=>hs x (by rw[e];exact Lf _ hx)),lV hl hb (λu hu=>hT u (by simp[hu])) h2 (λx hx=>hs x (by rw[e];exact NS _ hx)),e⟩
 |[],_::_,_,_,_,h,_=>by cases h
 |[],[],_::_,_,_,h,_=>by cases h
 |_::_,[],_,_,_,h,_=>by cases h
 |_::_,_::_,[],_,_,h,_=>by cases h
theorem kD{H:Type}{enc:TypeId×Value->H}{a:Assume}{C:Checked}{os:Os}{f:FuncId}{fn:Func}{s:ChangeSpec}{conds:List PathCond}{apart fresh handsOn again:Bool}{X:World->Array Value->Prop}
  (hX:∀(w w':World) (args:Array Value),w.heap=w'.heap->X w args->X w' args)
  (own:ownKnob C.prog.godebug=none) (started:os.Started) (noInit:C.prog.inits.idxOf? f=none) (hfn:C.prog.funcs[f]? =some fn)
  (witness:∃(w:World) (tape:Tape) (i:Input),w.os=os/\(w.forCall tape i).Shaped C.prog/\i.vars=[]/\Input.okWide C.prog (w.forCall tape i) .any w.heap.size f i/\
   ((s.pre enc C.prog fn conds apart (w.forCall tape i).memory i.args/\X (w.forCall tape i).memory i.args)/\sizedMet enc C.prog fn (OpenSpec.ofChange s) apart (w.forCall tape i).memory i.args)/\a.holds C.prog (lone (Frame.enter C.prog f i.args .normal) [] (w.forCall tape i)))
  (walk:∀(W:World) (base:Nat) (args:Array Value) (ds gs:List (DataW H)) (before:List MemPlace),
   (∀(j:Nat) t v,fn.params[j]? =some t->args[j]? =some v->Value.okWide C.prog W .any base t v)->
   DataW.Whole enc C.prog fn.params.toList s.vars apart W args.toList ds gs before->
   (DataW.weightsEach C.prog (fn.params.toList++s.plain.varTypes C.prog) (ds++gs)).all (·<=reachBytes)=true->X W args->W.ShapedOpen C.prog->
   Calls C.prog f args W λe W'=>∃v,e=.returned v/\s.post enc C.prog fn apart fresh handsOn again W args v W'):
  ReturnsInHanded a C os f .any (λw args=>(s.pre enc C.prog fn conds apart w args/\X w args)/\sizedMet enc C.prog fn (OpenSpec.ofChange s) apart w args) (s.post enc C.prog fn apart fresh handsOn again):=by
 refine returnsInHanded_of_calls own started noInit witness ?_;intro w tape i _ hshape _ hok hpre _;obtain⟨_,_,_,fn2,hfn2,_,_,_,_,hval⟩:=hok;obtain rfl:fn2=fn:=JY (hfn2.symm.trans hfn);obtain⟨⟨⟨ds,gs,before,hwhole,_⟩,hx⟩,hsized⟩:=hpre;refine(walk _ _ _ ds gs before hval (DataW.Whole.of_heap (w':=w.forCall tape i) (by rfl) hwhole) (hsized.weights hwhole) (hX _ _ _ (by rfl) hx) hshape).mono ?_;rintro e W' ⟨v,rfl,hpost⟩;exact ChangeSpec.post_blind hpost
end
namespace Pt
open Js
def iI:Vl->Prop
 |.mk _ _ _ _ _ m=>bO (m.map (·.1))=true
end Pt
section
open Go.RowKit Pt Js
end
section
open Go.RowKit Pt Js Oq
abbrev opV(op:Int)(A:Option Addr)(n e:Nat)(F:Option Addr)(m d:Nat)(k:Int)(b neg:Bool)(dg:Jd)(ex:Int)(s:Jd)(lv mv:Value):Value:=
 .agg #[.int .i64 op,.slice A n e,.slice F m d,.int .i64 k,b,neg,dg,.int .i64 ex,s,lv,mv]
def _root_.Go.Proofs.YtdhgmaonolgpnaaGreatDoor.Oq.Opn.In(c:Cl)(o:Opn)(x:Value):Prop:=
 ∃(A:Option Addr) (e:Nat) (F:Option Addr) (d:Nat) (k:Int) (b neg:Bool) (dg:Jd) (ex:Int) (s:Jd) (A1:Option Addr) (l1 p1:Nat) (B1:Option Addr) (m1 d1:Nat),
  x=opV o.op A o.path.length e F o.src.length d k b neg dg ex s (.slice A1 l1 p1) (.slice B1 m1 d1)/\Strs c A o.path/\o.path.length<=e/\e<=maxLen/\Strs c F o.src/\o.src.length<=d/\d<=maxLen/\
  o.v.In c (vlV k b neg dg ex s (.slice A1 l1 p1) (.slice B1 m1 d1))
section
variable {w wr w':World} {S:Nat->Prop} {g6:Nat} {V R O:Array Value}
end
def putL:List Value->Nat->List Value->List Value
 |cs,_,[]=>cs
 |cs,o,v::r=>putL (cs.set o v) (o+1) r
theorem Blk.setCells{g:Nat}{t:TypeId}(vs:List Value):∀{w:World} {cs:List Value} {o:Nat},Blk w g t cs.toArray->Blk (w.setCells g o vs) g t (putL cs o vs).toArray:=by
 induction vs with
 |nil=>intro w cs o h;exact h
 |cons v r ih=>intro w cs o h;exact ih (h.ei o v)
section
variable {S:Nat->Prop} {w:World} {l:List Vl} {g j:Nat} {acc:List Opn} {cs:List Value} {wr w':World}
end
end
section
open Go.RowKit Go.Extern.Stop Go.Stop Go.Extern
end
section
open Go.RowKit Pt
def EA(l:List Jd)(w:World)(v:Value)(wr:World):Prop:=
 ∃j:Nat,j<=l.length/\v=.int .i64 j/\Lib.IsBuilder 165 5 w.heap.size w.heap.size (Lib.byteCells (text (l.take j))) wr/\Below w.heap.size w wr
theorem pB(l:List Jd)(A:Option Addr)(e:Nat)(w:World)(hT:lW w)(hs:Strs w.cell? A l)(he:l.length<=e)(hm:e<=maxLen)(hlen:(text l).length<=10000000):
  Calls Tryz.prog 66 #[.slice A l.length e] w λe w'=>e=.returned (.string ⟨(text l).toArray⟩)/\Below w.heap.size w w':=by
 unfold maxLen at hm;have HS:=Jf hs;have HT:=Jf hT;clear hs hT;go_enter Tryz.func66,Tryz.ntmps66;go_wp2_with fail
 go_loopw [8] (EA l w) (λv _=>l.length-(intOf v).toNat)
 case atStart=>exact⟨0,by omega,rfl,by have:=Lib.fresh_isBuilder 165 5 w;simpa[Lib.byteCells,text] using this,(Ji _ _).alloc (Jh _) _⟩
 case round=>
  obtain⟨j,hj,rfl,hB,hW⟩:=hrel;have HB:=Jf hB;have HW:=Jf hW;clear hB hW;by_cases hlt:j<l.length
  .obtain⟨g,o,rfl,hc⟩:=HS.out j _ (Jg hlt);have hc1:=aa HW.out _ _ hc;have HTK:=Jf (oI l j hlt);have hl1:=lU l j hlt;have hsz:=HW.out.size;clear hc;generalize l[j]=n at*
   have hnn:n.length<=10000000:=by have:=BX n;omega
   have HE:=Jf (λW hT=>xi n W hT hnn);generalize text (l.take j)=ta at*
   go_wp2_with fail;refine(tA w.heap.size w.heap.size _ 47 wr HB.out (by rw[Lib.byteCells_length];omega) HW.out.size).mono ?_;rintro e w2 ⟨rfl,hb2,hw2⟩;have HB2:=Jf hb2;have HW2:=Jf (HW.out.trans hw2);clear hb2 hw2;go_wp2_with fail;refine(HE.out _ (HT.out.on HW2.out)).mono ?_;rintro e w3 ⟨rfl,hw3⟩;have HB3:=Jf (uM HB2.out hw3);have HW3:=Jf (HW2.out.trans (hw3.mono HW2.out.size));clear hw3 hc1;go_wp2_with fail;refine(pT w.heap.size w.heap.size _ ⟨(name n).toArray⟩ w3 HB3.out (by rw[Jk,Lib.byteCells_length,K7];simp only[Jy];omega) HW3.out.size).mono ?_;rintro e w4 ⟨rfl,hb4,hw4⟩;have HB4:=Jf (show Lib.IsBuilder 165 5 w.heap.size w.heap.size (Lib.byteCells (text (l.take (j+1)))) w4 by
    rw[HTK.out];have:=hb4;rw[Lib.strCells_eq] at this;simpa[Lib.byteCells,Ko] using this)
   have HW4:=Jf (HW3.out.trans hw4);clear hb4 hw4;go_wp2_with fail;go_roundw;case rel=>exact⟨j+1,by omega,by go_num,HB4.out,HW4.out⟩
   case measure=>simp[intOf];omega
  .obtain rfl:j=l.length:=by omega
   have HF:=Jf (show text (l.take l.length)=text l by rw[JC]);rw[HF.out] at HB;go_wp2_with fail;refine(Tryz.Builder_String_any w.heap.size w.heap.size _ wr HB.out HW.out.size).mono ?_;rintro e w3 ⟨rfl,hb3⟩;go_wp2_with fail;go_ret;exact⟨rfl,HW.out.trans hb3⟩
end
section
open Go.RowKit Js Pt
theorem yr{w:World}{B:Nat}{A:Option Addr}{cp:Nat}{l:List Fl.F}(hown:w.ownsRow B 44 3 (.slice A l.length cp) l.length (aD l))(hB:B<=w.heap.size)(hl:l.length<=2500000000000):
  Calls Tryz.prog 31 #[.slice A l.length cp] w λe w'=>∃(A':Option Addr) (c':Nat),e=.returned (.slice A' (Fl.sort l).length c')/\FAt w' A' (Fl.sort l) c'/\Below B w w':=by
 have HS:=Jf (E1 hown hl);clear hown;go_enter Tryz.func31,Tryz.ntmps31;go_wp2_with fail;refine HS.out.mono ?_;rintro e w1 ⟨rfl,hb1,d,hdl,hm,hord,hown1⟩;have hc:=uO hown1 (JA hB hb1.size) (by omega) (Fl.uP d hord hm);rw[hdl] at hc;have HC:=Jf hc;have HB1:=Jf hb1;clear HS hb1 hdl hm hord hown1 hc;go_wp2_with fail;refine HC.out.mono ?_;rintro e2 w2 ⟨A2,c2,rfl,hf2,hb2⟩;have HF2:=Jf hf2;have HB2:=Jf (HB1.out.trans hb2);clear HC HB1 hf2 hb2;go_wp2_with fail;go_ret;exact⟨A2,c2,rfl,HF2.out,HB2.out⟩
theorem yJ(l:List Fl.F)(A:Option Addr)(c:Nat)(w:World)(hf:FAt w A l c)(hn:l.length<=2500000000000):Calls Tryz.prog 16 #[.slice A l.length c] w (FP (Fl.sort l) w):=by
 have HC:=Jf (zz l A c w hf (by omega));clear hf;unfold FP;go_enter Tryz.func16,Tryz.ntmps16;go_wp2_with fail;refine HC.out.mono ?_;rintro e1 w1 ⟨A1,c1,rfl,hown,hb⟩;have HR:=Jf (yr hown hb.size (by omega));have HB:=Jf hb;clear HC hown hb;go_wp2_with fail;refine HR.out.mono ?_;rintro e2 w2 ⟨A2,c2,rfl,hf2,hb2⟩;have HF2:=Jf hf2;have HB2:=Jf (HB.out.trans hb2);clear HR HB hf2 hb2;go_wp2_with fail;go_ret;exact⟨A2,c2,rfl,HF2.out,HB2.out⟩
end
