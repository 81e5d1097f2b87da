import Derived.Test.YtdhgmaonolgpnaaGreatDoorEa
set_option linter.unusedSimpArgs false
set_option linter.unusedVariables false
set_option maxHeartbeats 2000000
set_option maxRecDepth 100000
namespace Go.Proofs.YtdhgmaonolgpnaaGreatDoor
namespace Fl
open Js
structure F where
 inst:Jd
 sch:Jd
 kw:Jd
theorem F.ext'{a b:F}(h1:a.inst=b.inst)(h2:a.sch=b.sch)(h3:a.kw=b.kw):a=b:=by
 obtain⟨_,_,_⟩:=a;obtain⟨_,_,_⟩:=b;simp only at h1 h2 h3;subst h1 h2 h3;rfl
theorem F.eq_iff{a b:F}:a=b↔a.inst=b.inst/\a.sch=b.sch/\a.kw=b.kw:=⟨λh=>h▸⟨rfl,rfl,rfl⟩,λh=>F.ext' h.1 h.2.1 h.2.2⟩
instance:DecidableEq F:=λa b=>decidable_of_iff (a.inst=b.inst/\a.sch=b.sch/\a.kw=b.kw) F.eq_iff.symm
def lt(a b:F):Prop:=Lib.compareBytes a.inst b.inst= -1\/(a.inst=b.inst/\(Lib.compareBytes a.sch b.sch= -1\/(a.sch=b.sch/\Lib.compareBytes a.kw b.kw= -1)))
def EG(a b:F):Bool:=if a.inst=b.inst then(if a.sch=b.sch then Op.bytesLess b.kw a.kw else Op.bytesLess b.sch a.sch) else Op.bytesLess b.inst a.inst
theorem lr{a:Jd}:¬Lib.compareBytes a a= -1:=by rw[Nm.cF];omega
theorem ry(a b:Jd):Lib.compareBytes a b= -1\/a=b\/Lib.compareBytes b a= -1:=by
 have h1:=Nm.cr a b;have h2:=Nm.bT a b;by_cases h:Lib.compareBytes a b=0
 .exact .inr (.inl (Nm.dQ a b h))
 .rcases Int.lt_or_gt_of_ne h with k|k
  .left;omega
  .right;right;omega
theorem BU(a:F):¬lt a a:=λh=>by
 rcases h with h|⟨_,h|⟨_,h⟩⟩
 .exact lr h
 .exact lr h
 .exact lr h
theorem lt_trans{a b c:F}(h:lt a b)(k:lt b c):lt a c:=by
 rcases h with h|⟨e,h⟩
 .rcases k with k|⟨e2,_⟩
  .exact .inl (eO h k)
  .exact .inl (e2▸h)
 .rcases k with k|⟨e2,k⟩
  .exact .inl (e▸k)
  .refine .inr ⟨e.trans e2,?_⟩;rcases h with h|⟨d,h⟩
   .rcases k with k|⟨d2,_⟩
    .exact .inl (eO h k)
    .exact .inl (d2▸h)
   .rcases k with k|⟨d2,k⟩
    .exact .inl (d▸k)
    .exact .inr ⟨d.trans d2,eO h k⟩
theorem vy(a b:F):lt a b\/a=b\/lt b a:=by
 rcases ry a.inst b.inst with h|h|h
 .exact .inl (.inl h)
 .rcases ry a.sch b.sch with k|k|k
  .exact .inl (.inr ⟨h,.inl k⟩)
  .rcases ry a.kw b.kw with q|q|q
   .exact .inl (.inr ⟨h,.inr ⟨k,q⟩⟩)
   .exact .inr (.inl (F.ext' h k q))
   .exact .inr (.inr (.inr ⟨h.symm,.inr ⟨k.symm,q⟩⟩))
  .exact .inr (.inr (.inr ⟨h.symm,.inl k⟩))
 .exact .inr (.inr (.inl h))
theorem tF(a b:F):EG a b=true↔lt b a:=by
 unfold EG lt;by_cases h:a.inst=b.inst
 .rw[Jo h];by_cases k:a.sch=b.sch
  .rw[Jo k,Nm.eN,JF,h,k];exact⟨λq=>.inr ⟨rfl,.inr ⟨rfl,q⟩⟩,λq=>(q.resolve_left lr).2.elim (λz=>absurd z lr) (·.2)⟩
  .rw[Jj k,Nm.eN,JF,h];exact⟨λq=>.inr ⟨rfl,.inl q⟩,λq=>(q.resolve_left lr).2.elim id (λz=>absurd z.1.symm k)⟩
 .rw[Jj h,Nm.eN,JF];exact⟨.inl,λq=>q.elim id (λz=>absurd z.1.symm h)⟩
def iI(l:List F):Prop:=l.Pairwise lt
def ins(x:F):List F->List F
 |[]=>[x]
 |y::r=>if EG x y=true then y::ins x r else if y=x then y::r else x::y::r
theorem vu{x y:F}:∀{l:List F},y∈ins x l↔y=x\/y∈l
 |[]=>by simp[ins]
 |z::r=>by
  unfold ins;split
  .rw[JB,vu,JB];constructor
   .rintro(h|h|h)
    .exact .inr (.inl h)
    .exact .inl h
    .exact .inr (.inr h)
   .rintro(h|h|h)
    .exact .inr (.inl h)
    .exact .inl h
    .exact .inr (.inr h)
  .split
   .rename_i h;subst h;simp
   .rw[JB]
theorem gJ{x:F}:∀{l:List F},iI l->iI (ins x l)
 |[],_=>by unfold ins iI;simp
 |y::r,h=>by
  obtain⟨h1,h2⟩:=KO.1 h;unfold ins;split
  .rename_i ha;refine KO.2 ⟨λz hz=>?_,gJ h2⟩;rcases vu.1 hz with rfl|hz
   .exact(tF _ _).1 ha
   .exact h1 z hz
  .rename_i ha;split
   .exact h
   .rename_i hne;have hxy:lt x y:=by
     rcases vy x y with k|k|k
     .exact k
     .exact absurd k.symm hne
     .exact absurd ((tF _ _).2 k) ha
    refine KO.2 ⟨λz hz=>?_,h⟩;rcases JB.1 hz with rfl|hz
    .exact hxy
    .exact lt_trans hxy (h1 z hz)
def oH(out:List F):List F->List F
 |[]=>out
 |x::r=>oH (ins x out) r
def sort(l:List F):List F:=oH [] l
theorem sH{y:F}:∀{l out:List F},y∈oH out l↔y∈out\/y∈l
 |[],out=>by simp[oH]
 |x::r,out=>by
  unfold oH;rw[sH,vu,JB];constructor
  .rintro((h|h)|h)
   .exact .inr (.inl h)
   .exact .inl h
   .exact .inr (.inr h)
  .rintro(h|h|h)
   .exact .inl (.inr h)
   .exact .inl (.inl h)
   .exact .inr h
theorem nO:∀{l out:List F},iI out->iI (oH out l)
 |[],_,h=>h
 |x::r,out,h=>nO (l:=r) (out:=ins x out) (gJ h)
theorem l9{y:F}{l:List F}:y∈sort l↔y∈l:=by unfold sort;rw[sH];simp
theorem mI(l:List F):iI (sort l):=nO List.Pairwise.nil
theorem ui:∀{a b:List F},iI a->iI b->(∀x,x∈a↔x∈b)->a=b
 |[],[],_,_,_=>rfl
 |[],y::_,_,_,h=>by have:=(h y).2 (by simp);cases this
 |x::_,[],_,_,h=>by have:=(h x).1 (by simp);cases this
 |x::r,y::s,ha,hb,h=>by
  obtain⟨a1,a2⟩:=KO.1 ha;obtain⟨b1,b2⟩:=KO.1 hb;have hxy:x=y:=by
   rcases JB.1 ((h x).1 (by simp)) with k|k
   .exact k
   .rcases JB.1 ((h y).2 (by simp)) with q|q
    .exact q.symm
    .exact absurd (lt_trans (a1 y q) (b1 x k)) (BU x)
  subst hxy;rw[ui a2 b2 (λz=>?_)];constructor
  .intro hz;rcases JB.1 ((h z).1 (Lv _ hz)) with k|k
   .subst k;exact absurd (a1 z hz) (BU z)
   .exact k
  .intro hz;rcases JB.1 ((h z).2 (Lv _ hz)) with k|k
   .subst k;exact absurd (b1 z hz) (BU z)
   .exact k
theorem Cc{a l:List F}(h:iI a)(hm:∀x,x∈a↔x∈l):sort l=a:=ui (mI l) h (λx=>l9.trans (hm x).symm)
def under(p:Jd)(l:List F):List F:=l.map λf=>{f with inst:=p++f.inst}
end Fl
section
open Go.RowKit Js
theorem gT(g o j:Nat):(⟨g,o,none⟩:Addr).add j=⟨g,o+j,none⟩:=by
 unfold Addr.add;by_cases hj0:j=0<;>simp[hj0]
def aQ(f:Fl.F):List Value:=[.string ⟨f.inst.toArray⟩,.string ⟨f.sch.toArray⟩,.string ⟨f.kw.toArray⟩]
def aD(l:List Fl.F):List Value:=l.flatMap aQ
def SlF(c:Cl)(A:Option Addr)(l:List Fl.F):Prop:=∀i f,l[i]? =some f->∃g o,A=some ⟨g,o,none⟩/\c ⟨g,o+i*3,none⟩=some (.string ⟨f.inst.toArray⟩)/\c ⟨g,o+i*3+1,none⟩=some (.string ⟨f.sch.toArray⟩)/\c ⟨g,o+i*3+2,none⟩=some (.string ⟨f.kw.toArray⟩)
theorem SlF.keep{c c':Cl}(h:c.le c'){A:Option Addr}{l:List Fl.F}(hs:SlF c A l):SlF c' A l:=λi f hi=>by
 obtain⟨g,o,h0,h1,h2,h3⟩:=hs i f hi;exact⟨g,o,h0,h _ _ h1,h _ _ h2,h _ _ h3⟩
theorem aV(l:List Fl.F):(aD l).length=l.length*3:=by
 induction l with
 |nil=>rfl
 |cons f r ih=>
  show(aQ f++aD r).length=_;rw[Jk,ih,Jl,show(aQ f).length=3 from rfl];omega
theorem jT(a b:List Fl.F):aD (a++b)=aD a++aD b:=by simp[aD]
theorem oc(l:List Fl.F):∀u∈aD l,u.oneCell'=true:=by
 intro u hu;obtain⟨f,_,hf⟩:=KB.1 hu;simp only[aQ,JB,Ky,Lk] at hf;rcases hf with rfl|rfl|rfl<;>rfl
theorem dS:∀{l:List Fl.F} {i:Nat} {f:Fl.F},l[i]? =some f->∀q u,(aQ f)[q]? =some u->(aD l)[i*3+q]? =some u
 |[],i,f,h,_,_,_=>by simp at h
 |x::r,0,f,h,q,u,hu=>by
  simp only[Lh,JM] at h;subst h;show(aQ x++aD r)[0*3+q]? =_;have hq:q<3:=(Jm.1 hu).1;rw[JD (by show 0*3+q<3;omega),Lp,JI];exact hu
 |x::r,i+1,f,h,q,u,hu=>by
  simp only[Kr] at h;show(aQ x++aD r)[(i+1)*3+q]? =_;rw[Jx (by show 3<=(i+1)*3+q;omega),show(i+1)*3+q-(aQ x).length=i*3+q by show(i+1)*3+q-3=_;omega];exact dS h q u hu
theorem zM{l:List Fl.F}{j:Nat}{u:Value}(h:(aD l)[j]? =some u):∃f,l[j/3]? =some f/\(aQ f)[j%3]? =some u:=by
 have hj:=(Jm.1 h).1;rw[aV] at hj;have hd:j/3<l.length:=by omega
 refine⟨_,Jg hd,?_⟩;have hm:j%3<(aQ l[j/3]).length:=by show j%3<3;omega
 have:=dS (Jg hd) (j%3) _ (Jg hm);rw[show j/3*3+j%3=j by omega,h] at this;injection this with this;rw[Jg hm,this]
theorem SlF.cell{c:Cl}{g o:Nat}{l:List Fl.F}(h:SlF c (some ⟨g,o,none⟩) l){j:Nat}{u:Value}(hu:(aD l)[j]? =some u):c ⟨g,o+j,none⟩=some u:=by
 obtain⟨f,h1,h2⟩:=zM hu;obtain⟨g',o',e,c0,c1,c2⟩:=h _ _ h1;injection e with e;injection e with e1 e2;subst e1 e2;have hj:o+j=o+j/3*3+j%3:=by omega
 have hm:j%3<3:=Nat.mod_lt _ (by omega);rw[hj];generalize j%3=m at h2 hm
 match m,h2,hm with
 |0,h2,_=>injection h2 with h2;subst h2;exact c0
 |1,h2,_=>injection h2 with h2;subst h2;exact c1
 |2,h2,_=>injection h2 with h2;subst h2;exact c2
theorem SlF.src{w:World}{A:Option Addr}{l:List Fl.F}{cp k:Nat}(h:SlF w.cell? A l)(hA:A=none->cp=0)(hk:k<=l.length)(hc:l.length<=cp):Src w (if cp=k then A else A.map (·.add (k*3))) (l.length-k) (cp-k) (aD (l.drop k)):=by
 cases A with
 |none=>
  have h0:=hA rfl;have hl:l=[]:=K6 (by omega);subst hl;refine .inl ⟨?_,by simp,by omega,by simp[aD]⟩;split<;>rfl
 |some ad=>
  by_cases e:cp=k
  .rw[Jo e];have hd:l.drop k=[]:=Kj (by omega);exact .inr ⟨ad,rfl,λj u hu=>by rw[hd] at hu;simp[aD] at hu⟩
  .rw[Jj e];refine .inr ⟨ad.add (k*3),rfl,λj u hu=>?_⟩;have hj:=(Jm.1 hu).1;rw[aV,JJ] at hj;have h0:0<l.length:=by omega
   obtain⟨g,o,e1,_⟩:=h 0 _ (Jg h0);injection e1 with e1;subst e1;rw[gT,gT];have hf:(aD l)[k*3+j]? =some u:=by
    have:aD l=aD (l.take k)++aD (l.drop k):=by rw[<-jT,Lb]
    rw[this,Jx (by rw[aV,JL];omega),aV,JL,show k*3+j-min k l.length*3=j by rw[MD hk];omega];exact hu
   rw[O1];exact h.cell hf
theorem C4{w:World}{B n c:Nat}{A:Option Addr}{l:List Fl.F}(h:w.ownsRow B 44 3 (.slice A n c) n (aD l)):SlF w.cell? A l/\n=l.length/\n<=c/\c<=maxLen/\(A=none->c=0):=by
 have hl:=ai h;have hn:n=l.length:=by have:=h.1;rw[aV] at this;omega
 refine⟨λi f hi=>?_,hn,hl.1,hl.2.1,λe=>(hl.2.2.1 e).2⟩;have hil:=(Jm.1 hi).1;cases A with
 |none=>have:=(hl.2.2.1 rfl).1;omega
 |some ad=>
  obtain⟨g,rfl,_⟩:=hl.2.2.2 ad rfl;have hc:=λq u (hu:(aQ f)[q]? =some u)=>ax h _ _ (dS hi q u hu);exact⟨g,0,rfl,by rw[JI];exact hc 0 _ rfl,by rw[JI];exact hc 1 _ rfl,by rw[JI];exact hc 2 _ rfl⟩
theorem jB:∃i,Tryz.prog.info? 44=some i/\i.zero=some (.agg #[.string ⟨#[]⟩,.string ⟨#[]⟩,.string ⟨#[]⟩])/\i.size=3/\i.bytes=48:=by
 have h:(Tryz.prog.info? 44).map (λi=>(i.zero,i.size,i.bytes))=some (some (.agg #[.string ⟨#[]⟩,.string ⟨#[]⟩,.string ⟨#[]⟩]),3,48):=by kernel_rfl
 cases hq:Tryz.prog.info? 44 with
 |none=>rw[hq] at h;cases h
 |some i=>
  rw[hq] at h;simp only[Kg,JM,Kl] at h;exact⟨i,rfl,h.1,h.2.1,h.2.2⟩
theorem DJ(l:List Fl.F)(A:Option Addr)(cA:Nat)(B:Option Addr)(cB:Nat)(w:World)(ha:SlF w.cell? A l)(hb:SlF w.cell? B l)(h1:l.length<=cA)(h2:cA<=maxLen)(h3:l.length<=cB)(h4:cB<=maxLen):
  Calls Tryz.prog 12 #[.slice A l.length cA,.slice B l.length cB] w λe w'=>e=.returned (.int .i64 1)/\Below w.heap.size w w':=by
 have HA:=Jf ha;have HB:=Jf hb;unfold maxLen at h2 h4;clear ha hb;go_enter Tryz.func12,Tryz.ntmps12;go_wp2_with fail
 go_loopw [5] (λi wr=>∃j:Nat,j<=l.length/\i=.int .i64 j/\Below w.heap.size w wr) (λi _=>l.length-(intOf i).toNat)
 case atStart=>exact⟨0,by omega,rfl,Ji _ _⟩
 case round=>
  obtain⟨j,hj,rfl,hbw⟩:=hrel;have HW:=Jf hbw;clear hbw;by_cases hlt:j<l.length
  .obtain⟨g,o,rfl,c0,c1,c2⟩:=HA.out j _ (Jg hlt);obtain⟨g',o',rfl,d0,d1,d2⟩:=HB.out j _ (Jg hlt);have c0:=(aa HW.out) _ _ c0;have c1:=(aa HW.out) _ _ c1;have c2:=(aa HW.out) _ _ c2;have d0:=(aa HW.out) _ _ d0;have d1:=(aa HW.out) _ _ d1;have d2:=(aa HW.out) _ _ d2;have hgl:=Jn _ _ c0;have hgl':=Jn _ _ d0;have hjj:(j:Int)<(l.length:Int):=by omega
   generalize l[j]'hlt=f at*
   obtain⟨f1,f2,f3⟩:=f;simp only at c0 c1 c2 d0 d1 d2;go_wp2_with fail;go_quiet (fail);go_wp2_with fail;go_roundw;case rel=>exact⟨j+1,by omega,by go_num,below_drewN HW.out _⟩
   case measure=>simp[intOf];omega
  .obtain rfl:j=l.length:=by omega
   go_wp2_with fail;go_ret;exact⟨rfl,HW.out⟩
theorem tt{g n c b:Nat}(h:(Value.slice (some ⟨g,0,none⟩) n c).ownBlock=some b):b=g:=by simpa[Value.ownBlock] using h.symm
theorem Hi{w:World}{B n c:Nat}{A:Option Addr}{xs:List Value}(h:w.ownsRow B 44 3 (.slice A n c) n xs)(hx:xs.length=n*3):Src w A n c xs:=by
 have hl:=ai h;cases A with
 |none=>
  obtain⟨h1,h2⟩:=hl.2.2.1 rfl;exact .inl ⟨rfl,h1,h2,K6 (by omega)⟩
 |some ad=>
  obtain⟨g,rfl,_⟩:=hl.2.2.2 ad rfl;exact .inr ⟨_,rfl,λj u hu=>by rw[gT,JI];exact ax h j u hu⟩
end
section
open Go.RowKit Js Pt
structure FAt (w:World) (A:Option Addr) (l:List Fl.F) (c:Nat):Prop where
 sl:SlF w.cell? A l
 le:l.length<=c
 max:c<=maxLen
 nil:A=none->c=0
theorem FAt.on{w w':World}{A:Option Addr}{l:List Fl.F}{c:Nat}(h:FAt w A l c)(hb:Below w.heap.size w w'):FAt w' A l c:=⟨h.sl.keep (aa hb),h.le,h.max,h.nil⟩
theorem FAt.src{w:World}{A:Option Addr}{l:List Fl.F}{c:Nat}(h:FAt w A l c):Src w A l.length c (aD l):=by
 cases A with
 |none=>
  have h0:=h.nil rfl;have h1:=h.le;have hl:l=[]:=K6 (by omega);subst hl;exact .inl ⟨rfl,rfl,h0,rfl⟩
 |some ad=>
  refine .inr ⟨ad,rfl,λj u hu=>?_⟩;have hj:=(Jm.1 hu).1;rw[aV] at hj;have h0:0<l.length:=by omega
  obtain⟨g,o,e1,_⟩:=h.sl 0 _ (Jg h0);injection e1 with e1;subst e1;rw[gT];exact h.sl.cell hu
theorem vd{w:World}{B n c:Nat}{A:Option Addr}{l:List Fl.F}(h:w.ownsRow B 44 3 (.slice A n c) n (aD l)):FAt w A l c/\n=l.length:=by
 obtain⟨h1,h2,h3,h4,h5⟩:=C4 h;exact⟨⟨h1,by omega,h4,h5⟩,h2⟩
theorem GQ(w:World)(l:List Fl.F)(h:l.length<=1000):FAt (w.alloc (.cells (aD l).toArray 44)) (some ⟨w.heap.size,0,none⟩) l l.length:=
 (vd (B:=w.heap.size) (Kv w (aD l).toArray l.length (Jh _) (by unfold maxLen;omega) (by rw[Nh,aV]))).1
def FP(r:List Fl.F)(w:World)(e:Ending)(w':World):Prop:=∃(A:Option Addr) (c:Nat),e=.returned (.slice A r.length c)/\FAt w' A r c/\Below w.heap.size w w'
theorem IP(l:List Fl.F)(A:Option Addr)(cA:Nat)(B:Option Addr)(cB:Nat)(w:World)(ha:FAt w A l cA)(hb:FAt w B l cB):Calls Tryz.prog 12 #[.slice A l.length cA,.slice B l.length cB] w λe w'=>e=.returned (.int .i64 1)/\Below w.heap.size w w':=DJ l A cA B cB w ha.sl hb.sl ha.le ha.max hb.le hb.max
theorem Be(w:World)(t:TypeId)(nm:Jd):Strs (w.alloc (.cells #[.string ⟨nm.toArray⟩] t)).cell? (some ⟨w.heap.size,0,none⟩) [nm]:=λj n hj=>by
 have hl:=(Jm.1 hj).1;obtain rfl:j=0:=by simpa using hl
 obtain rfl:nm=n:=by simpa using hj
 exact⟨w.heap.size,0,rfl,(Blk.new w t _).cell 0⟩
end
namespace Vd
open Js Pt Cm Fl
def aR:Jd:=[105,116,101,109,115]
def b9:Jd:=[112,114,111,112,101,114,116,105,101,115]
def lO:Jd:=[97,100,100,105,116,105,111,110,97,108,80,114,111,112,101,114,116,105,101,115]
def eK:Jd:=[97,108,108,79,102]
def ch:Jd:=[97,110,121,79,102]
def cm:Jd:=[111,110,101,79,102]
def eM:Jd:=[110,111,116]
def cq:Vl->List Mem
 |.mk _ _ _ _ _ m=>m
structure Ask where
 key:Nat
 node:Nat
 here:Bool
 name:Jd
 at_:Nat
def named(N:Cm.Node)(key:Jd):Bool:=N.keys.any λK=>decide (K.name=b9)&&K.kids.any λp=>decide (p.1=key)
def ig(i n:Nat)(l:List Vl):List Ask:=l.mapIdx λj _=>⟨i,n,false,Lib.decDigits j,j⟩
def jZ(N:Cm.Node)(i:Nat)(nm:Jd)(kid:Jd×Nat)(j:Nat)(p:Mem):List Ask:=
 if(nm=b9/\p.1=kid.1)\/(nm=lO/\named N p.1=false) then[⟨i,kid.2,false,p.1,j⟩] else[]
def cU(N:Cm.Node)(v:Vl)(i:Nat)(nm:Jd)(kid:Jd×Nat):List Ask:=
 (if place nm=true then[⟨i,kid.2,true,[],0⟩] else[])++((if nm=aR then ig i kid.2 (Ow.bU v) else[])++((cq v).mapIdx (jZ N i nm kid)).flatten)
def cH(N:Cm.Node)(v:Vl)(i:Nat)(K:Key):List Ask:=K.kids.flatMap (cU N v i K.name)
def asks(N:Cm.Node)(v:Vl):List Ask:=(N.keys.mapIdx (cH N v)).flatten
def bQ(v:Vl)(x:Ask):Vl:=if x.here=true then v else if Sh.kindOf v=4 then((Ow.bU v)[x.at_]?).getD v else((((cq v)[x.at_]?).map (·.2)).getD v)
def under(x:Ask):Names:=if x.here=true then[] else[x.name]
def kh(nm:Jd)(x:Ask):Bool:= !x.here||decide (nm=eK)||decide (nm=eD)
def lift(x:Ask)(y:F):F:=⟨text (under x)++y.inst,y.sch,y.kw⟩
def eX(i:Nat)(nm:Jd)(xs:List (Ask×List F)):List F:=(xs.filter λp=>decide (p.1.key=i)&&kh nm p.1).flatMap λp=>p.2.map (lift p.1)
def comb(nm:Jd)(pM many:Nat):Bool:=(decide (nm=ch)&&decide (pM=0))||(decide (nm=cm)&& !decide (pM=1))||(decide (nm=eM)&&decide (pM=many))
def eA(i:Nat)(xs:List (Ask×List F)):Nat:=xs.countP λp=>decide (p.1.key=i)&&p.2.isEmpty
def gg(i:Nat)(xs:List (Ask×List F)):Nat:=xs.countP λp=>decide (p.1.key=i)
def wX(N:Cm.Node)(xs:List (Ask×List F)):List Jd:=(N.keys.mapIdx λi K=>if comb K.name (eA i xs) (gg i xs)=true then[K.name] else[]).flatten
def fM(N:Cm.Node)(nm:Jd):F:=⟨[],text (N.at_++[nm]),nm⟩
def jV(N:Cm.Node)(v:Vl)(xs:List (Ask×List F)):List F:=
 (N.keys.mapIdx λi K=>eX i K.name xs).flatten++(Ow.own N v++wX N xs).map (fM N)
def found:Nat->List Cm.Node->Nat->Vl->List F
 |0,_,_,_=>[]
 |f+1,L,i,v=>match L[i]? with
  |none=>[]
  |some N=>sort (jV N v ((asks N v).map λx=>(x,found f L x.node (bQ v x))))
def fm:Nat->List Cm.Node->Nat->Vl->Prop
 |0,_,_,_=>False
 |f+1,L,i,v=>∀N,L[i]? =some N->∀x∈asks N v,fm f L x.node (bQ v x)
theorem nf:∀{f f':Nat} {L:List Cm.Node} {i:Nat} {v:Vl},fm f L i v->fm f' L i v->found f L i v=found f' L i v
 |0,_,_,_,_,h,_=>h.elim
 |_,0,_,_,_,_,h=>h.elim
 |f+1,f'+1,L,i,v,h,h'=>by
  rw[found,found];cases hN:L[i]? with
  |none=>rfl
  |some N=>
   simp only;rw[O6 (λx hx=>by rw[nf (h N hN x hx) (h' N hN x hx)])]
theorem fm.more:∀{f:Nat} {L:List Cm.Node} {i:Nat} {v:Vl},fm f L i v->fm (f+1) L i v
 |0,_,_,_,h=>h.elim
 |f+1,L,i,v,h=>λN hN x hx=>fm.more (h N hN x hx)
theorem fm.mono{f f':Nat}{L:List Cm.Node}{i:Nat}{v:Vl}(h:fm f L i v)(hf:f<=f'):fm f' L i v:=by
 induction f' with
 |zero=>exact(by obtain rfl:f=0:=(by omega);exact h)
 |succ f' ih=>
  by_cases e:f=f'+1
  .subst e;exact h
  .exact(ih (by omega)).more
theorem cR{α β:Type}{f:Nat->α->List β}{l:List α}{b:β}:b∈(l.mapIdx f).flatten↔∃(i:Nat) (a:α),l[i]? =some a/\b∈f i a:=by
 rw[List.mem_flatten];constructor
 .rintro⟨x,hx,hb⟩;obtain⟨i,hi,rfl⟩:=Lr.1 hx;exact⟨i,_,Jg hi,hb⟩
 .rintro⟨i,a,hi,hb⟩;obtain⟨hl,rfl⟩:=Jm.1 hi;exact⟨_,Lr.2 ⟨i,hl,rfl⟩,hb⟩
theorem fO{N:Cm.Node}{v:Vl}{x:Ask}(h:x∈asks N v):∃(i:Nat) (K:Key) (kid:Jd×Nat),N.keys[i]? =some K/\kid∈K.kids/\x.key=i/\x.node=kid.2/\
  ((place K.name=true/\x.here=true/\x.name=[]/\x.at_=0)\/
   (K.name=aR/\x.here=false/\x.at_<(Ow.bU v).length/\x.name=Lib.decDigits x.at_)\/
   (x.here=false/\((K.name=b9/\x.name=kid.1)\/(K.name=lO/\named N x.name=false))/\∃p,(cq v)[x.at_]? =some p/\x.name=p.1)):=by
 obtain⟨i,K,hK,hx⟩:=cR.1 h;obtain⟨kid,hkid,hx⟩:=KB.1 hx;refine⟨i,K,kid,hK,hkid,?_⟩;unfold cU at hx;rcases Jq.1 hx with hx|hx
 .split at hx
  .rename_i hp;obtain rfl:=Jt.1 hx;exact⟨rfl,rfl,.inl ⟨hp,rfl,rfl,rfl⟩⟩
  .cases hx
 .rcases Jq.1 hx with hx|hx
  .split at hx
   .rename_i hp;unfold ig at hx;obtain⟨j,hj,rfl⟩:=Lr.1 hx;exact⟨rfl,rfl,.inr (.inl ⟨hp,rfl,hj,rfl⟩)⟩
   .cases hx
  .obtain⟨j,p,hp,hx⟩:=cR.1 hx;unfold jZ at hx;split at hx
   .rename_i hc;obtain rfl:=Jt.1 hx;exact⟨rfl,rfl,.inr (.inr ⟨rfl,hc,p,hp,rfl⟩)⟩
   .cases hx
theorem wP{L:List Cm.Node}{i:Nat}{N:Cm.Node}(hN:L[i]? =some N){v:Vl}{x:Ask}(h:x∈asks N v)(hh:x.here=true):Step L i x.node:=by
 obtain⟨k,K,kid,hK,hkid,_,hn,h|⟨_,h,_⟩|⟨h,_⟩⟩:=fO h
 .refine⟨N,hN,KB.2 ⟨K,Jz hK,?_⟩⟩;unfold bW;rw[Jo h.1,hn];exact JQ.2 ⟨kid,hkid,rfl⟩
 .rw[hh] at h;cases h
 .rw[hh] at h;cases h
theorem FG{v:Vl}(hv:v.may=true):(0<(Ow.bU v).length->Sh.kindOf v=4)/\(0<(cq v).length->Sh.kindOf v=5):=by
 obtain⟨k,b,n,s,l,m⟩:=v;obtain⟨_,_,_,_,_,h4,h5,_⟩:=au hv;refine⟨λh=>?_,λh=>?_⟩
 .by_cases e:k=4
  .exact e
  .have:=h4 e;subst this;simp[Ow.bU] at h
 .by_cases e:k=5
  .exact e
  .have:=h5 e;subst this;simp[cq] at h
theorem mP{N:Cm.Node}{v:Vl}(hv:v.may=true){x:Ask}(h:x∈asks N v)(hh:x.here=false):(bQ v x).size<v.size/\(bQ v x).may=true/\((∃u,(Ow.bU v)[x.at_]? =some u/\bQ v x=u/\x.name=Lib.decDigits x.at_/\Sh.kindOf v=4)\/∃p,(cq v)[x.at_]? =some p/\bQ v x=p.2/\x.name=p.1/\Sh.kindOf v=5):=by
 obtain⟨h4,h5⟩:=FG hv;obtain⟨k,K,kid,hK,hkid,_,hn,⟨_,h,_⟩|⟨_,_,hl,hnm⟩|⟨_,_,p,hp,hnm⟩⟩:=fO h
 .rw[hh] at h;cases h
 .have hk:=h4 (by omega);have hat:bQ v x=(Ow.bU v)[x.at_]:=by
   unfold bQ;rw[hh,Jj (by simp),Jo hk,Jg hl];rfl
  refine⟨?_,?_,.inl ⟨_,Jg hl,hat,hnm,hk⟩⟩
  .rw[hat];obtain⟨k,b,n,s,l,m⟩:=v;have:=lE (Jv hl);simp only[Vl.size];simp only[Ow.bU] at this ⊢;omega
  .rw[hat];obtain⟨k,b,n,s,l,m⟩:=v;simp only[Vl.may,JH] at hv;exact(ba l).1 (by simp_all) _ (Jv hl)
 .have hpl:=(Jm.1 hp).1;have hk:=h5 (by omega);have hat:bQ v x=p.2:=by
   unfold bQ;rw[hh,Jj (by simp),Jj (by omega),hp];rfl
  refine⟨?_,?_,.inr ⟨p,hp,hat,hnm,hk⟩⟩
  .rw[hat];obtain⟨k,b,n,s,l,m⟩:=v;have:=er (Jz hp);simp only[Vl.size];simp only[cq] at this ⊢;omega
  .rw[hat];obtain⟨k,b,n,s,l,m⟩:=v;simp only[Vl.may,JH] at hv;exact((br m).1 (by simp_all) _ (Jz hp)).2
def Ends(L:List Cm.Node):Prop:=fS L/\∀q,¬cy L q q
theorem xT{L:List Cm.Node}{a b c:Nat}(h:cy L a b)(k:cy L b c):cy L a c:=by
 induction k with
 |one s=>exact .more h s
 |more _ s ih=>exact .more ih s
theorem Af{L:List Cm.Node}{a b c:Nat}(h:Step L a b)(k:cy L b c):cy L a c:=xT (.one h) k
open Classical in
noncomputable def ys(L:List Cm.Node)(i:Nat):Nat:=(List.range L.length).countP λq=>decide (cy L i q)
theorem C7(L:List Cm.Node)(i:Nat):ys L i<=L.length:=by
 unfold ys;exact JA Mu (by rw[Mh];exact Jh _)
theorem tL{p q:Nat->Bool}:∀{l:List Nat} {x:Nat},(∀y,q y=true->p y=true)->x∈l->p x=true->q x=false->l.countP q<l.countP p
 |[],_,_,h,_,_=>by cases h
 |y::r,x,hpq,hx,hp,hq=>by
  have hle:r.countP q<=r.countP p:=Mv (λz _ hz=>hpq z hz);rw[L8,L8];by_cases e:y=x
  .subst e;rw[hp,hq];simp;omega
  .have hm:x∈r:=(JB.1 hx).resolve_left (λh=>e h.symm);have:=tL hpq hm hp hq;cases hy:q y with
   |true=>rw[hpq y hy];simp;omega
   |false=>cases p y<;>simp<;>omega
open Classical in
theorem uh{L:List Cm.Node}(h:Ends L){a b:Nat}(k:Step L a b):ys L b<ys L a:=by
 unfold ys;refine tL (x:=b) (λy hy=>?_) (MW.2 (h.1.next k)) ?_ ?_
 .rw[JF] at hy ⊢;exact Af k hy
 .rw[JF];exact .one k
 .rw[Ks];exact h.2 b
theorem mg{L:List Cm.Node}(h:Ends L):∀(f i:Nat) (v:Vl),v.may=true->v.size*(L.length+2)+ys L i<f->fm f L i v
 |0,_,_,_,hf=>by omega
 |f+1,i,v,hv,hf=>λN hN x hx=>by
  by_cases hh:x.here=true
  .have h1:=uh h (wP hN hx hh);have h2:bQ v x=v:=by unfold bQ;rw[Jo hh]
   rw[h2];exact mg h f _ v hv (by omega)
  .have hh':x.here=false:=by simpa using hh
   obtain⟨h1,h2,_⟩:=mP hv hx hh';have h3:=C7 L x.node;have h4:(bQ v x).size*(L.length+2)+(L.length+2)<=v.size*(L.length+2):=by
    rw[<-Nat.succ_mul];exact K9 _ h1
   exact mg h f _ _ h2 (by omega)
def fuel(L:List Cm.Node)(v:Vl):Nat:=v.size*(L.length+2)+L.length+1
def valid(L:List Cm.Node)(i:Nat)(v:Vl):List F:=found (fuel L v) L i v
theorem iM{L:List Cm.Node}(h:Ends L)(i:Nat){v:Vl}(hv:v.may=true):fm (fuel L v) L i v:=
 mg h _ i v hv (by have:=C7 L i;unfold fuel;omega)
theorem iO{L:List Cm.Node}(h:Ends L){f i:Nat}{v:Vl}(hv:v.may=true)(hf:fm f L i v):found f L i v=valid L i v:=nf hf (iM h i hv)
theorem GJ{N:Cm.Node}{v:Vl}(hv:v.may=true){x:Ask}(h:x∈asks N v):(bQ v x).may=true:=by
 by_cases hh:x.here=true
 .unfold bQ;rw[Jo hh];exact hv
 .exact(mP hv h (by simpa using hh)).2.1
theorem sP{L:List Cm.Node}(h:Ends L){i:Nat}{v:Vl}(hv:v.may=true){N:Cm.Node}(hN:L[i]? =some N):valid L i v=sort (jV N v ((asks N v).map λx=>(x,valid L x.node (bQ v x)))):=by
 have he:=(iM h i hv).more;rw[<-iO h hv he,found,hN];simp only
 congr 2
 exact O6 λx hx=>by rw[iO h (GJ hv hx) (he N hN x hx)]
end Vd
