import Derived.Test.YtdhgmaonolgpnaaGreatDoorMc
import Derived.Deep.RegionHeld
import Derived.Test.YtdhgmaonolgpnaaGreatDoorRows
import Derived.Test.YtdhgmaonolgpnaaGreatDoorShelf
import Derived.WalkSpells
import Derived.WalkLawsBesides
import Derived.BigQuiet
set_option linter.unusedSimpArgs false
set_option linter.unusedVariables false
set_option maxHeartbeats 2000000
set_option maxRecDepth 100000
namespace Go.Proofs.YtdhgmaonolgpnaaGreatDoor
abbrev MG:=@Go.wpAnyH_ready
abbrev La:=@Go.AllReadyH.cons
abbrev Mm:=@Go.AllReadyH.nil
abbrev NI:=@Go.run_loadVar_mid
abbrev Nn:=@Go.Addr.add_mid
abbrev JT:=@Go.wp_region_held_drew
abbrev Ke:=@Go.wpAnyH_done
section
open Go.RowKit Js
theorem af{P:Program}{md:Region.Mode}{ops:Array Oper}{Q:Exit->Act->World->Prop}{S:World->Prop}(i:Nat)(v:Value){d:Tmp}{o2 o3 o4 o5 o6}{fuel:Nat}{listed:Array Bool}{a:Act}{w:World}(hS:S w)
 (hy:∀w,S w->(execOp a.eval ⟨some d,o2,o3,o4,o5,o6⟩).run P w=.ok (.value v) w)
 (h:wpAnyH P md ops Q S fuel (listed.setIfInBounds i true) (a.put (some d) v) w)
 (hi:ops[i]? =some ⟨some d,o2,o3,o4,o5,o6⟩:=by rfl) (hs:Region.noSelect ops=true:=by kernel_rfl) (hf:Region.free md ops listed i=true:=by kernel_rfl) (hr:(Region.ready md ops listed).contains i=true:=by kernel_rfl)
 (hQ:∀c a w,Q (.panic c) (a.put (some d) v) w->Q (.panic c) a w:=by exactλ_ _ _ h=>h) (hw:Region.wanted ⟨some d,o2,o3,o4,o5,o6⟩ (yielded ops a.tmps)=true:=by rfl):wpAnyH P md ops Q S (fuel+1) listed a w:=
 wpAnyH_take hi hs hf hr hQ (Or.inl ⟨hw,hy⟩) hS h
theorem dZ{P:Program}{md:Region.Mode}{ops:Array Oper}{Q:Exit->Act->World->Prop}{S:World->Prop}(i:Nat){d:Tmp}{o2 o3 o4 o5 o6}{fuel:Nat}{listed:Array Bool}{a:Act}{w:World}(hS:S w)
 (h:wpAnyH P md ops Q S fuel (listed.setIfInBounds i true) (a.put (some d) undef) w)
 (hi:ops[i]? =some ⟨some d,o2,o3,o4,o5,o6⟩:=by rfl) (hs:Region.noSelect ops=true:=by kernel_rfl) (hf:Region.free md ops listed i=true:=by kernel_rfl) (hr:(Region.ready md ops listed).contains i=true:=by kernel_rfl)
 (hQ:∀c a w,Q (.panic c) (a.put (some d) undef) w->Q (.panic c) a w:=by exactλ_ _ _ h=>h) (hw:Region.wanted ⟨some d,o2,o3,o4,o5,o6⟩ (yielded ops a.tmps)=false:=by rfl):wpAnyH P md ops Q S (fuel+1) listed a w:=
 wpAnyH_take hi hs hf hr hQ (Or.inr ⟨hw,rfl⟩) hS h
theorem bz{P:Program}{md:Region.Mode}{ops:Array Oper}{Q:Exit->Act->World->Prop}{S:World->Prop}(i:Nat){o1 o2 o3 o4 o5 o6}{fuel:Nat}{listed:Array Bool}{a:Act}{w:World}
 (h:∀K':Act->World->Prop,Shut (∀a w,S w->(S w->wpAnyH P md ops Q S fuel (listed.setIfInBounds i true) a w)->K' a w)->if Region.wanted ⟨o1,o2,o3,o4,o5,o6⟩ (yielded ops a.tmps)=true then Oper.wp P ⟨o1,o2,o3,o4,o5,o6⟩ a w K' Q else K' (a.put o1 undef) w)
 (hr:Region.ready md ops listed=[i]:=by kernel_rfl) (ho:ops[i]? =some ⟨o1,o2,o3,o4,o5,o6⟩:=by rfl):wpAnyH P md ops Q S (fuel+1) listed a w:=
 MG hr (by simp) (La ho h Mm)
theorem ab:(∀(a:Act) (d:Tmp) (v:Value),a.put (some d) v={a with tmps:=a.tmps.setIfInBounds d v})/\(∀(a:Act) (v:Value),a.put none v=a)/\(∀(l:List Value) (i:Nat) (v:Value),l.toArray.setIfInBounds i v=(l.set i v).toArray)/\(∀(x:Value) (l:List Value) (v:Value),(x::l).set 0 v=v::l)/\∀(x:Value) (l:List Value) (n:Nat) (v:Value),(x::l).set (n+1) v=x::l.set n v:=
 ⟨λ_ _ _=>rfl,λ_ _=>rfl,λ_ _ _=>N8 ..,λ_ _ _=>rfl,λ_ _ _ _=>rfl⟩
abbrev vlV(k:Int)(b:Bool)(neg:Bool)(dg:Jd)(ex:Int)(s:Jd)(lv mv:Value):Value:=
 .agg #[.int .i64 k,b,neg,dg,.int .i64 ex,s,lv,mv]
abbrev Cl:=Addr->Option Value
open Classical in
noncomputable def _root_.Go.World.on(w:World)(S:Nat->Prop):Cl:=λp=>if S p.block then w.cell? p else none
theorem ah{w:World}{S:Nat->Prop}{p:Addr}{u:Value}:w.on S p=some u↔S p.block/\w.cell? p=some u:=by
 unfold World.on;split
 .rename_i h;exact⟨λk=>⟨h,k⟩,λk=>k.2⟩
 .rename_i h;exact⟨(λk=>by cases k),λk=>absurd k.1 h⟩
def bP(c:Cl)(g o:Nat)(x:Value):Prop:=∀(j:Nat) u,x.cells[j]? =some u->c ⟨g,o+j,none⟩=some u
mutual
def _root_.Go.Proofs.YtdhgmaonolgpnaaGreatDoor.Js.Vl.In(c:Cl):Vl->Value->Prop
 |.mk k b n s l m,x=>∃(A:Option Addr) (e:Nat) (B:Option Addr) (d:Nat),x=vlV k b n.neg n.digits n.exp s (.slice A l.length e) (.slice B m.length d)/\
  l.length<=e/\e<=maxLen/\m.length<=d/\d<=maxLen/\(0<l.length->∃g o,A=some ⟨g,o,none⟩/\LIn c l g o)/\(0<m.length->∃g o,B=some ⟨g,o,none⟩/\MIn c m g o)
def LIn(c:Cl):List Vl->Nat->Nat->Prop
 |[],_,_=>True
 |v::l,g,o=>(∃x,v.In c x/\bP c g o x)/\LIn c l g (o+8)
def MIn(c:Cl):List Js.Mem->Nat->Nat->Prop
 |[],_,_=>True
 |p::m,g,o=>PIn c p g o/\MIn c m g (o+9)
def PIn(c:Cl):Js.Mem->Nat->Nat->Prop
 |(k,v),g,o=>c ⟨g,o,none⟩=some (.string ⟨k.toArray⟩)/\∃x,v.In c x/\bP c g (o+1) x
end
def Cl.le(c c':Cl):Prop:=∀p u,c p=some u->c' p=some u
theorem bP.keep{c c':Cl}(h:c.le c'){g o:Nat}{x:Value}(hx:bP c g o x):bP c' g o x:=λj u hu=>h _ _ (hx j u hu)
theorem In.keep{c c':Cl}(h:c.le c')(v:Vl):∀x,v.In c x->v.In c' x:=by
 induction v using Vl.ind with
 |h k b n s l m hl hm=>
  have el:∀g o,LIn c l g o->LIn c' l g o:=by
   clear hm
   induction l with
   |nil=>intro g o _;simp[LIn]
   |cons v l ih=>
    intro g o hi;simp only[LIn] at hi ⊢;obtain⟨⟨x,h1,h2⟩,h3⟩:=hi;exact⟨⟨x,hl v (by simp) x h1,h2.keep h⟩,ih (λx hx=>hl x (by simp[hx])) _ _ h3⟩
  have em:∀g o,MIn c m g o->MIn c' m g o:=by
   clear hl el
   induction m with
   |nil=>intro g o _;simp[MIn]
   |cons p m ih=>
    intro g o hi;obtain⟨key,v⟩:=p;simp only[MIn,PIn] at hi ⊢;obtain⟨⟨h0,x,h1,h2⟩,h3⟩:=hi;exact⟨⟨h _ _ h0,x,hm (key,v) (by simp) x h1,h2.keep h⟩,ih (λx hx=>hm x (by simp[hx])) _ _ h3⟩
  intro x hi;simp only[Vl.In] at hi ⊢;obtain⟨A,e,B,d,h1,h2,h3,h4,h5,h6,h7⟩:=hi;refine⟨A,e,B,d,h1,h2,h3,h4,h5,λh=>?_,λh=>?_⟩
  .obtain⟨g,o,e1,e2⟩:=h6 h;exact⟨g,o,e1,el _ _ e2⟩
  .obtain⟨g,o,e1,e2⟩:=h7 h;exact⟨g,o,e1,em _ _ e2⟩
theorem LIn.get{c:Cl}:∀{l:List Vl} {g o k:Nat} {v:Vl},LIn c l g o->l[k]? =some v->∃x,v.In c x/\bP c g (o+k*8) x
 |[],_,_,_,_,_,h=>by simp at h
 |v::l,g,o,0,v',hi,h=>by
  simp only[LIn] at hi;simp at h;subst h;exact hi.1
 |v::l,g,o,k+1,v',hi,h=>by
  simp only[LIn] at hi;obtain⟨x,h1,h2⟩:=LIn.get hi.2 (k:=k) (by simpa using h);exact⟨x,h1,by rw[show o+(k+1)*8=o+8+k*8 by omega];exact h2⟩
theorem MIn.get{c:Cl}:∀{m:List Js.Mem} {g o k:Nat} {p:Js.Mem},MIn c m g o->m[k]? =some p->c ⟨g,o+k*9,none⟩=some (.string ⟨p.1.toArray⟩)/\∃x,p.2.In c x/\bP c g (o+k*9+1) x
 |[],_,_,_,_,_,h=>by simp at h
 |p::m,g,o,0,p',hi,h=>by
  obtain⟨key,v⟩:=p;simp only[MIn,PIn] at hi;simp at h;subst h;exact hi.1
 |p::m,g,o,k+1,p',hi,h=>by
  simp only[MIn] at hi;have:=MIn.get hi.2 (k:=k) (by simpa using h);rw[show o+(k+1)*9=o+9+k*9 by omega];exact this
theorem LIn.of{c:Cl}:∀{l:List Vl} {g o:Nat},(∀k v,l[k]? =some v->∃x,v.In c x/\bP c g (o+k*8) x)->LIn c l g o
 |[],_,_,_=>by simp[LIn]
 |v::l,g,o,h=>by
  simp only[LIn];refine⟨by simpa using h 0 v rfl,LIn.of λk v' hk=>?_⟩;have:=h (k+1) v' (by simpa using hk);rw[show o+(k+1)*8=o+8+k*8 by omega] at this;exact this
theorem MIn.of{c:Cl}:∀{m:List Js.Mem} {g o:Nat},(∀k p,m[k]? =some p->c ⟨g,o+k*9,none⟩=some (.string ⟨p.1.toArray⟩)/\∃x,p.2.In c x/\bP c g (o+k*9+1) x)->MIn c m g o
 |[],_,_,_=>by simp[MIn]
 |p::m,g,o,h=>by
  simp only[MIn];obtain⟨key,v⟩:=p;refine⟨by simpa[PIn] using h 0 (key,v) rfl,MIn.of λk p' hk=>?_⟩;have:=h (k+1) p' (by simpa using hk);rw[show o+(k+1)*9=o+9+k*9 by omega] at this;exact this
theorem In.form{c:Cl}{k:Int}{b:Bool}{n:Nm.Num}{s:Jd}{l:List Vl}{m:List Js.Mem}{x:Value}(h:(Vl.mk k b n s l m).In c x):
  ∃(A:Option Addr) (e:Nat) (B:Option Addr) (d:Nat),x=vlV k b n.neg n.digits n.exp s (.slice A l.length e) (.slice B m.length d)/\
   l.length<=e/\e<=maxLen/\m.length<=d/\d<=maxLen/\
   (∀i v,l[i]? =some v->∃g o y,A=some ⟨g,o,none⟩/\v.In c y/\bP c g (o+i*8) y)/\
   (∀i p,m[i]? =some p->∃g o y,B=some ⟨g,o,none⟩/\p.2.In c y/\c ⟨g,o+i*9,none⟩=some (.string ⟨p.1.toArray⟩)/\bP c g (o+i*9+1) y):=by
 simp only[Vl.In] at h;obtain⟨A,e,B,d,h1,h2,h3,h4,h5,h6,h7⟩:=h;refine⟨A,e,B,d,h1,h2,h3,h4,h5,λi v hi=>?_,λi p hi=>?_⟩
 .obtain⟨g,o,e1,e2⟩:=h6 (by have:=(Jm.1 hi).1;omega);obtain⟨y,q1,q2⟩:=e2.get hi;exact⟨g,o,y,e1,q1,q2⟩
 .obtain⟨g,o,e1,e2⟩:=h7 (by have:=(Jm.1 hi).1;omega);obtain⟨q0,y,q1,q2⟩:=e2.get hi;exact⟨g,o,y,e1,q1,q0,q2⟩
theorem In.cells{c:Cl}{v:Vl}{x:Value}(h:v.In c x):∃(k:Int) (b neg:Bool) (dg:Jd) (ex:Int) (s:Jd) (A:Option Addr) (n e:Nat) (B:Option Addr) (m d:Nat),x=vlV k b neg dg ex s (.slice A n e) (.slice B m d):=by
 obtain⟨k,b,n,s,l,m⟩:=v;obtain⟨A,e,B,d,h1,_⟩:=In.form h;exact⟨_,_,_,_,_,_,_,_,_,_,_,_,h1⟩
theorem bP.eight{c:Cl}{g o:Nat}{c0 c1 c2 c3 c4 c5 c6 c7:Value}(h:bP c g o (.agg #[c0,c1,c2,c3,c4,c5,c6,c7])):
  c ⟨g,o,none⟩=some c0/\c ⟨g,o+1,none⟩=some c1/\c ⟨g,o+2,none⟩=some c2/\c ⟨g,o+3,none⟩=some c3/\
  c ⟨g,o+4,none⟩=some c4/\c ⟨g,o+5,none⟩=some c5/\c ⟨g,o+6,none⟩=some c6/\c ⟨g,o+7,none⟩=some c7:=
 ⟨h 0 _ rfl,h 1 _ rfl,h 2 _ rfl,h 3 _ rfl,h 4 _ rfl,h 5 _ rfl,h 6 _ rfl,h 7 _ rfl⟩
theorem aa{w w':World}(h:Below w.heap.size w w'):Cl.le w.cell? w'.cell?:=λp u hp=>by
 rw[h.cell (Jn w _ hp)];exact hp
theorem aT(w:World)(o:Obj):Cl.le w.cell? (w.alloc o).cell?:=aa ((Ji _ _).alloc (Jh _) o)
theorem xS(w:World)(S:Nat->Prop):Cl.le (w.on S) w.cell?:=λ_ _ hp=>(ah.1 hp).2
theorem Cl.le.trans{a b c:Cl}(h:a.le b)(k:b.le c):a.le c:=λp u hp=>k p u (h p u hp)
theorem Cl.le.refl(a:Cl):a.le a:=λ_ _ h=>h
def Blk(w:World)(g:Nat)(t:TypeId)(cs:Array Value):Prop:=w.heap[g]? =some (.cells cs t (0,0))
section
variable {w w':World} {g:Nat} {t:TypeId} {cs:Array Value}
theorem Blk.lt(h:Blk w g t cs):g<w.heap.size:=by
 rcases KW g w.heap.size with hlt|hge
 .exact hlt
 .unfold Blk at h;rw[Ll hge] at h;cases h
theorem Blk.cell(h:Blk w g t cs)(i:Nat):w.cell? ⟨g,i,none⟩=cs[i]? :=Ml w g i cs t (0,0) h
theorem Blk.frozen(h:Blk w g t cs)(i:Nat):w.frozen? ⟨g,i,none⟩=false:=frozen_of_row w g i cs t h
theorem Blk.new(w:World)(t:TypeId)(cs:Array Value):Blk (w.alloc (.cells cs t)) w.heap.size t cs:=Lc w _
theorem Blk.cW(w:World)(o:Obj)(t:TypeId)(cs:Array Value):Blk ((w.alloc o).alloc (.cells cs t)) (w.heap.size+1) t cs:=by
 have:=Lc (w.alloc o) (.cells cs t);rwa[World.size_alloc] at this
theorem Blk.alloc(h:Blk w g t cs)(o:Obj):Blk (w.alloc o) g t cs:=(LA w o g h.lt).trans h
theorem Blk.below{B:Nat}(h:Blk w g t cs)(hb:Below B w w')(hg:g<B):Blk w' g t cs:=(hb.block g hg).trans h
theorem Blk.on(h:Blk w g t cs)(hb:Below w.heap.size w w'):Blk w' g t cs:=h.below hb h.lt
theorem Blk.eight{c0 c1 c2 c3 c4 c5 c6 c7:Value}(h:Blk w g t #[c0,c1,c2,c3,c4,c5,c6,c7]):
  w.cell? ⟨g,0,none⟩=some c0/\w.cell? ⟨g,1,none⟩=some c1/\w.cell? ⟨g,2,none⟩=some c2/\w.cell? ⟨g,3,none⟩=some c3/\w.cell? ⟨g,4,none⟩=some c4/\w.cell? ⟨g,5,none⟩=some c5/\w.cell? ⟨g,6,none⟩=some c6/\w.cell? ⟨g,7,none⟩=some c7:=
 ⟨h.cell 0,h.cell 1,h.cell 2,h.cell 3,h.cell 4,h.cell 5,h.cell 6,h.cell 7⟩
end
theorem Blk.set{w:World}{g:Nat}{t:TypeId}{cs:Array Value}(h:Blk w g t cs)(i:Nat)(u:Value):Blk (w.setCell ⟨g,i,none⟩ u) g t (cs.setIfInBounds i u):=by
 unfold Blk at h ⊢;simp[World.setCell,KC,h]
theorem Blk.ei{w:World}{g:Nat}{t:TypeId}{l:List Value}(h:Blk w g t l.toArray)(i:Nat)(u:Value):Blk (w.setCell ⟨g,i,none⟩ u) g t (l.set i u).toArray:=by
 have:=h.set i u;rwa[N8] at this
abbrev bg(w:World)(g:Nat)(v0 v1 v2 v3 v4 v5 v6 v7:Value):World:=
 (((((((w.setCell ⟨g,0,none⟩ v0).setCell ⟨g,1,none⟩ v1).setCell ⟨g,2,none⟩ v2).setCell ⟨g,3,none⟩ v3).setCell ⟨g,4,none⟩ v4).setCell ⟨g,5,none⟩ v5).setCell ⟨g,6,none⟩ v6).setCell ⟨g,7,none⟩ v7
theorem Blk.bg{w:World}{g:Nat}{t:TypeId}{c0 c1 c2 c3 c4 c5 c6 c7:Value}(h:Blk w g t #[c0,c1,c2,c3,c4,c5,c6,c7])(v0 v1 v2 v3 v4 v5 v6 v7:Value):
  Blk (bg w g v0 v1 v2 v3 v4 v5 v6 v7) g t #[v0,v1,v2,v3,v4,v5,v6,v7]:=
 have h0:Blk _ g t [v0,c1,c2,c3,c4,c5,c6,c7].toArray:=Blk.ei (l:=[c0,c1,c2,c3,c4,c5,c6,c7]) h 0 v0;have h1:Blk _ g t [v0,v1,c2,c3,c4,c5,c6,c7].toArray:=h0.ei 1 v1;have h2:Blk _ g t [v0,v1,v2,c3,c4,c5,c6,c7].toArray:=h1.ei 2 v2;have h3:Blk _ g t [v0,v1,v2,v3,c4,c5,c6,c7].toArray:=h2.ei 3 v3;have h4:Blk _ g t [v0,v1,v2,v3,v4,c5,c6,c7].toArray:=h3.ei 4 v4;have h5:Blk _ g t [v0,v1,v2,v3,v4,v5,c6,c7].toArray:=h4.ei 5 v5;have h6:Blk _ g t [v0,v1,v2,v3,v4,v5,v6,c7].toArray:=h5.ei 6 v6
 h6.ei 7 v7
theorem aX{B:Nat}{a w:World}(h:Below B a w){g:Nat}(hg:B<=g)(v0 v1 v2 v3 v4 v5 v6 v7:Value):Below B a (bg w g v0 v1 v2 v3 v4 v5 v6 v7):=
 (((((((h.setCell (p:=⟨g,0,none⟩) hg v0).setCell (p:=⟨g,1,none⟩) hg v1).setCell (p:=⟨g,2,none⟩) hg v2).setCell (p:=⟨g,3,none⟩) hg v3).setCell (p:=⟨g,4,none⟩) hg v4).setCell (p:=⟨g,5,none⟩) hg v5).setCell (p:=⟨g,6,none⟩) hg v6).setCell (p:=⟨g,7,none⟩) hg v7
theorem In.bg{B:Nat}{w w':World}{v:Vl}{x:Value}(h:v.In w.cell? x)(hb:Below w.heap.size w w')(_hB:B<=w.heap.size):v.In w'.cell? x:=In.keep (λp u hp=>by rw[hb.cell (Jn w _ hp)];exact hp) _ _ h
theorem aM{fn:Func}{p u:Tmp}{ty:TypeId}(h:fn.results=#[.cell p ty,.tmp u])(tmps:Array Value)(P:Program)(w:World){g:Nat}{t:TypeId}{l:List Value}{d:TypeDesc}
  (hp:tmps.getD p undef=.pointer (some ⟨g,0,none⟩)) (hg:Blk w g t l.toArray) (hu:P.underlying ty=some d) (hd:d.isRow=true) (hi:(P.info? ty).map (·.size)=some l.length):
  (results fn tmps).run P w=.ok (.tuple #[.agg l.toArray,tmps.getD u undef]) w:=by
 have hl:(loadVar ty ⟨g,0,none⟩).run P w=.ok (.agg l.toArray) w:=NI w g 0 ty l d (λj v hv=>by rw[JI,hg.cell j];simpa using hv) hu hd hi;simp only[results,h];have hp':tmps[p]?.getD undef=.pointer (some ⟨g,0,none⟩):=by simpa using hp
 simp[Result.andThen,hp',asAddr,hl]
def SlL(c:Cl)(A:Option Addr)(l:List Vl):Prop:=∀i v,l[i]? =some v->∃g o y,A=some ⟨g,o,none⟩/\v.In c y/\bP c g (o+i*8) y
def SlM(c:Cl)(A:Option Addr)(m:List Js.Mem):Prop:=∀i p,m[i]? =some p->∃g o y,A=some ⟨g,o,none⟩/\p.2.In c y/\c ⟨g,o+i*9,none⟩=some (.string ⟨p.1.toArray⟩)/\bP c g (o+i*9+1) y
theorem SlL.keep{c c':Cl}(h:c.le c'){A:Option Addr}{l:List Vl}(hs:SlL c A l):SlL c' A l:=λi v hi=>by
 obtain⟨g,o,y,h1,h2,h3⟩:=hs i v hi;exact⟨g,o,y,h1,In.keep h _ _ h2,h3.keep h⟩
theorem SlM.keep{c c':Cl}(h:c.le c'){A:Option Addr}{m:List Js.Mem}(hs:SlM c A m):SlM c' A m:=λi v hi=>by
 obtain⟨g,o,y,h1,h2,h3,h4⟩:=hs i v hi;exact⟨g,o,y,h1,In.keep h _ _ h2,h _ _ h3,h4.keep h⟩
def aL(w:World)(k:Int)(b neg:Bool)(dg:Jd)(ex:Int)(s:Jd)(lv mv:Value)(w':World):Prop:=
 Below (w.heap.size+1) (w.alloc (.cells #[.int .i64 k,b,neg,dg,.int .i64 ex,s,lv,mv] 31)) w'
section
variable {w w':World} {k:Int} {b neg:Bool} {dg:Jd} {ex:Int} {s:Jd} {lv mv:Value}
theorem aL.cells(h:aL w k b neg dg ex s lv mv w'):
  w'.cell? ⟨w.heap.size,0,none⟩=some (.int .i64 k)/\w'.cell? ⟨w.heap.size,1,none⟩=some (.bool b)/\w'.cell? ⟨w.heap.size,2,none⟩=some (.bool neg)/\w'.cell? ⟨w.heap.size,3,none⟩=some (.string ⟨dg.toArray⟩)/\
  w'.cell? ⟨w.heap.size,4,none⟩=some (.int .i64 ex)/\w'.cell? ⟨w.heap.size,5,none⟩=some (.string ⟨s.toArray⟩)/\w'.cell? ⟨w.heap.size,6,none⟩=some lv/\w'.cell? ⟨w.heap.size,7,none⟩=some mv:=by
 have hc:∀j,w'.cell? ⟨w.heap.size,j,none⟩=_:=λj=>(Below.cell h (p:=⟨w.heap.size,j,none⟩) (by simp)).trans (World.cell?_alloc_new _ _ _ _);exact⟨hc 0,hc 1,hc 2,hc 3,hc 4,hc 5,hc 6,hc 7⟩
theorem aL.below(h:aL w k b neg dg ex s lv mv w'):Below w.heap.size w w':=((Ji _ _).alloc (Jh _) _).trans (Below.mono h (by simp))
theorem aL.le(h:aL w k b neg dg ex s lv mv w'):Cl.le w.cell? w'.cell?:=aa h.below
theorem aL.next{w'':World}(h:aL w k b neg dg ex s lv mv w')(h':Below w'.heap.size w' w''):aL w k b neg dg ex s lv mv w'':=
 Below.trans h (h'.mono (by have:=Below.size h;simpa using this))
theorem aL.start:aL w k b neg dg ex s lv mv (w.alloc (.cells #[.int .i64 k,b,neg,dg,.int .i64 ex,s,lv,mv] 31)):=Ji _ _
end
end
abbrev MS:=@Go.Calls.quiet_of
abbrev LP:=@Go.Lib.run_eql_slice_nil
abbrev Ny:=@Go.sized_string
section
open Go.RowKit Js
theorem qx(mk key:Jd)(k1:Int)(b1 n1:Bool)(g1:Jd)(x1:Int)(s1:Jd)(A1:Option Addr)(l1 p1:Nat)(B1:Option Addr)(m1 d1:Nat)(w:World):
  Calls Tryz.prog 112 #[.agg #[.string ⟨mk.toArray⟩,.int .i64 k1,.bool b1,.bool n1,.string ⟨g1.toArray⟩,.int .i64 x1,.string ⟨s1.toArray⟩,.slice A1 l1 p1,.slice B1 m1 d1],key] w
   λe w'=>e=.returned (.int .i64 (Lib.compareBytes mk key))/\Below w.heap.size w w':=by
 go_enter Tryz.func112,Tryz.ntmps112;go_wp2_with fail;refine(Tryz.strings_Compare _ _ _).mono ?_;rintro e w1 ⟨rfl,rfl⟩;have hb:Below w.heap.size w (w.alloc (.cells #[mk,.int .i64 k1,b1,n1,g1,.int .i64 x1,s1,.slice A1 l1 p1,.slice B1 m1 d1] 95)):=(Ji _ _).alloc (Jh _) _;go_wp2_with fail;go_ret;exact⟨rfl,hb⟩
def zp(m:List Js.Mem)(key:Jd)(w:World)(e:Ending)(w':World):Prop:=
 ∃(i:Nat) (b:Bool),e=.returned (.tuple #[.int .i64 i,b])/\Js.Found m key i b/\Below w.heap.size w w'
def Ct(m:List Js.Mem)(key:Jd)(w:World)(iv jv:Value)(wr:World):Prop:=
 ∃i j:Nat,iv=.int .i64 i/\jv=.int .i64 j/\cY m key i j/\Below w.heap.size w wr
theorem AR(m:List Js.Mem)(key:Jd)(B:Option Addr)(d:Nat)(w:World)(hr:bO (m.map (·.1))=true)(hd:m.length<=d)(hm:d<=maxLen)(hl:m.length<=1000000000000)(hs:SlM w.cell? B m):
  Calls Tryz.prog 111 #[.slice B m.length d,key,.func (.func 112) #[] #[]] w (zp m key w):=by
 unfold maxLen at hm;have HS:=Jf hs;have HR:=Jf hr;clear hs hr;go_enter Tryz.func111,Tryz.ntmps111;go_wp2_with fail
 go_loopw [9,10] (Ct m key w) (λi j _=>(intOf j).toNat-(intOf i).toNat)
 case atStart=>exact⟨0,m.length,rfl,rfl,cY.start _ _,Ji _ _⟩
 case round=>
  obtain⟨i,j,rfl,rfl,hH,hW⟩:=hrel;have hij:=hH.1;have hjm:=hH.2.1;have HH:=Jf hH;clear hH;by_cases hlt:i<j
  .obtain⟨h,hh⟩:∃h:Nat,h=(i+j)/2:=⟨_,rfl⟩;have hhi:i<=h:=by omega
   have hhj:h<j:=by omega
   have hmid:((i:Int)+(j:Int))/2=(h:Int):=by omega
   have hwr:IntKind.u64.wrap ((i:Int)+(j:Int))=(i:Int)+(j:Int):=by rw[IntKind.wrap_u64];omega
   clear hh;have hhm:h<m.length:=by omega
   have hp:=Jg hhm;obtain⟨g,o,y,rfl,hy,hk,hc⟩:=HS.out h _ hp;obtain⟨k1,b1,n1,g1,x1,s1,A1,l1,p1,B1,m1,d1,rfl⟩:=In.cells hy;have hle:Cl.le w.cell? wr.cell?:=aa hW;have ek:=hle _ _ hk;obtain⟨e0,e1,e2,e3,e4,e5,e6,e7⟩:=(hc.keep hle).eight;have HP:=Jf hp;have HUP:=Jf (λhc=>HH.out.up HR.out hhi hhj hp hc);have HDN:=Jf (λhc=>HH.out.down HR.out hhi hhj hp hc);have HC:=Jf (λW=>qx m[h].1 key k1 b1 n1 g1 x1 s1 A1 l1 p1 B1 m1 d1 W);have hrg:=Nm.cr m[h].1 key;clear hp hy hk hc hle;generalize Lib.compareBytes m[h].1 key=q at*
   generalize m[h].1=mk at*
   go_wp2_with fail;refine(HC.out _).mono ?_;rintro e' w2 ⟨rfl,hb2⟩;have hb:=hW.trans (hb2.mono hW.size);by_cases hq:q= -1
   .have hq0:decide (q<0)=true:=by simp;omega
    have HN:=Jf (HUP.out hq);clear hq;go_wp2_with fail;go_roundw;case rel=>exact⟨h+1,j,by go_num,rfl,HN.out,hb⟩
    case measure=>simp[intOf];omega
   .have hq0:decide (q<0)=false:=by simp;omega
    have HN:=Jf (HDN.out hq);clear hq;go_wp2_with fail;go_roundw;case rel=>exact⟨i,h,rfl,rfl,HN.out,hb⟩
    case measure=>simp[intOf];omega
  .obtain rfl:i=j:=by omega
   by_cases hi:i<m.length
   .have hp:=Jg hi;obtain⟨g,o,y,rfl,hy,hk,hc⟩:=HS.out i _ hp;obtain⟨k1,b1,n1,g1,x1,s1,A1,l1,p1,B1,m1,d1,rfl⟩:=In.cells hy;have hle:Cl.le w.cell? wr.cell?:=aa hW;have ek:=hle _ _ hk;obtain⟨e0,e1,e2,e3,e4,e5,e6,e7⟩:=(hc.keep hle).eight;have HF:=Jf (HH.out.done HR.out hp);have HC:=Jf (λW=>qx m[i].1 key k1 b1 n1 g1 x1 s1 A1 l1 p1 B1 m1 d1 W);clear hp hy hk hc hle;generalize Lib.compareBytes m[i].1 key=q at*
    generalize m[i].1=mk at*
    go_wp2_with fail;refine(HC.out _).mono ?_;rintro e' w2 ⟨rfl,hb2⟩;have hb:=hW.trans (hb2.mono hW.size);go_wp2_with fail
    go_ret2
    exact⟨i,_,rfl,HF.out,hb⟩
   .have hi':decide (i<m.length)=false:=by simpa using hi
    have HF:=Jf (HH.out.none_ (by omega));go_wp2_with fail
    go_ret2
    exact⟨i,_,rfl,HF.out,hW⟩
abbrev zeroV:Value:=vlV 0 false false [] 0 [] (.slice none 0 0) (.slice none 0 0)
abbrev Js.yh:Vl:=.mk 0 false ⟨false,[],0⟩ [] [] []
theorem wF(c:Cl):yh.In c zeroV:=by
 simp only[Vl.In];exact⟨none,0,none,0,rfl,Jh _,by simp[maxLen],Jh _,by simp[maxLen],λh=>absurd h (by simp),λh=>absurd h (by simp)⟩
def dB(r:Option Vl)(w:World)(e:Ending)(w':World):Prop:=
 ∃x,e=.returned (.tuple #[x,.bool r.isSome])/\(r.getD yh).In w'.cell? x/\Below w.heap.size w w'
theorem dB.no{r:Option Vl}{w w':World}(h:r=none)(hb:Below w.heap.size w w'):dB r w (.returned (.tuple #[zeroV,.bool false])) w':=by
 subst h;exact⟨_,rfl,wF _,hb⟩
theorem dB.yes{r:Option Vl}{u:Vl}{w w':World}{x:Value}(h:r=some u)(hx:u.In w'.cell? x)(hb:Below w.heap.size w w'):dB r w (.returned (.tuple #[x,.bool true])) w':=by
 subst h;exact⟨_,rfl,hx,hb⟩
theorem Fg(v:Vl)(key:Jd)(x:Value)(w:World)(hv:v.may=true)(hsz:v.size<=1000000000000)(hx:v.In w.cell? x):
  Calls Tryz.prog 81 #[x,.string ⟨key.toArray⟩] w (dB (v.find key) w):=by
 obtain⟨k,b,n,s,l,m⟩:=v;obtain⟨A,e,B,d,rfl,q1,q2,q3,q4,q5,q6⟩:=In.form hx;obtain⟨-,-,-,-,-,-,-,-,-,-,-,hr⟩:=au hv;have H6:=Jf (show SlM w.cell? B m from q6);have hml:m.length<=1000000000000:=by have:=ep m;simp only[Vl.size] at hsz;omega
 have HB2:Below w.heap.size w _:=(((Ji _ _).alloc (Jh _) (.cells #[.int .i64 k,b,n.neg,n.digits,.int .i64 n.exp,s,.slice A l.length e,.slice B m.length d] 31)).alloc (by simp) (.cells #[.int .i64 0,false,false,.string ⟨#[]⟩,.int .i64 0,.string ⟨#[]⟩,.slice none 0 0,.slice none 0 0] 31));clear q5 q6 hx hv;by_cases hk:k=5
 .subst hk;have HS:=Jf (λW hs=>AR m key B d W hr q3 q4 hml hs);have HSL:=Jf (H6.out.keep (aa HB2));have HF:=Jf (show(Vl.mk 5 b n s l m).find key=Js.find m key from by simp[Vl.find]);have HR:=Jf hr;clear hr;unfold maxLen at q2 q4;go_enter Tryz.func81,Tryz.ntmps81;go_wp2_with fail;refine(HS.out _ HSL.out).mono ?_;rintro e' w2 ⟨i,bb,rfl,hfd,hb2⟩;have hb:=HB2.trans (hb2.mono (by simp;omega));cases bb with
  |false=>
   have HN:=Jf (oe (hfd.2.2 rfl));clear hfd;have hblk:=(Blk.cW _ _ _ _).on hb2;obtain⟨z0,z1,z2,z3,z4,z5,z6,z7⟩:=hblk.eight;have zf:=hblk.frozen;have hb2l:=hblk.lt;have HBLK:=Jf hblk;clear hblk;go_wp2_with fail;refine Ju (aM (l:=[_,_,_,_,_,_,_,_]) rfl _ _ _ rfl (HBLK.out.bg _ _ _ _ _ _ _ _) Tryz.underlying31 rfl (by kernel_rfl)) rfl ?_;exact dB.no (HF.out.trans HN.out) (aX hb (by omega) _ _ _ _ _ _ _ _)
  |true=>
   obtain⟨p,hp,rfl⟩:=hfd.2.1 rfl;have HN:=Jf (vg HR.out hp);obtain⟨g,o,y,rfl,hy,hk,hc⟩:=H6.out i _ hp;have hi:i<m.length:=(Jm.1 hp).1;obtain⟨k1,b1,n1,g1,x1,s1,A1,l1,p1,B1,m1,d1,rfl⟩:=In.cells hy;have hle:Cl.le w.cell? w2.cell?:=aa hb;obtain⟨e0,e1,e2,e3,e4,e5,e6,e7⟩:=(hc.keep hle).eight;have hgl:g<w2.heap.size:=Jn w2 _ e0;have hgw:g<w.heap.size:=Jn w _ hk;have HY:=Jf hy;have hblk:=(Blk.cW _ _ _ _).on hb2;obtain⟨z0,z1,z2,z3,z4,z5,z6,z7⟩:=hblk.eight;have zf:=hblk.frozen;have hb2l:=hblk.lt;have HBLK:=Jf hblk;have f7:=(((Blk.new w _ _).alloc _).on hb2).cell 7;clear hblk hfd hp hy hk hc hle;go_wp2_with fail;refine Ju (aM (l:=[_,_,_,_,_,_,_,_]) rfl _ _ _ rfl (HBLK.out.bg _ _ _ _ _ _ _ _) Tryz.underlying31 rfl (by kernel_rfl)) rfl ?_;have hbb:=aX hb (g:=w.heap.size+1) (by omega) (.int .i64 k1) (.bool b1) (.bool n1) (.string ⟨g1.toArray⟩) (.int .i64 x1) (.string ⟨s1.toArray⟩) (.slice A1 l1 p1) (.slice B1 m1 d1);exact dB.yes (HF.out.trans HN.out) (In.keep (aa hbb) _ _ HY.out) hbb
 .have t1:(k==5)=false:=by simpa using hk
  have t2:(k !=5)=true:=by simpa using hk
  have HF:=Jf (show(Vl.mk k b n s l m).find key=none from by simp[Vl.find,hk]);have hblk:=Blk.cW w (.cells #[.int .i64 k,b,n.neg,n.digits,.int .i64 n.exp,s,.slice A l.length e,.slice B m.length d] 31) 31 #[.int .i64 0,false,false,.string ⟨#[]⟩,.int .i64 0,.string ⟨#[]⟩,.slice none 0 0,.slice none 0 0];have HBLK:=Jf hblk;clear hk hr hblk;unfold maxLen at q2 q4;go_enter Tryz.func81,Tryz.ntmps81;go_wp2_with fail;refine Ju (aM (l:=[_,_,_,_,_,_,_,_]) rfl _ _ _ rfl HBLK.out Tryz.underlying31 rfl (by kernel_rfl)) rfl ?_;exact dB.no HF.out HB2
theorem qN{m:List Js.Mem}{i:Nat}{p:Js.Mem}(hp:m[i]? =some p)(h:∀q∈m.take i,q.1≠p.1):Js.find m p.1=some p.2:=by
 unfold Js.find
 induction m generalizing i with
 |nil=>simp at hp
 |cons q m ih=>
  cases i with
  |zero=>simp at hp;subst hp;simp
  |succ i=>
   have hne:¬q.1=p.1:=h q (by simp);rw[NK (by simpa using hne)];exact ih (i:=i) (by simpa using hp) (λr hr=>h r (by simp[hr]))
def BA(w:World)(k:Int)(b:Bool)(n:Nm.Num)(s:Jd)(lv mv:Value)(m:List Js.Mem)(key:Jd)(i:Value)(wr:World):Prop:=
 ∃j:Nat,j<=m.length/\i=.int .i64 j/\(k=5->∀q∈m.take j,q.1≠key)/\wr=(w.alloc (.cells #[.int .i64 k,b,n.neg,n.digits,.int .i64 n.exp,s,lv,mv] 31)).alloc (.cells #[.int .i64 0,false,false,.string ⟨#[]⟩,.int .i64 0,.string ⟨#[]⟩,.slice none 0 0,.slice none 0 0] 31)
theorem yu(v:Vl)(key:Jd)(x:Value)(w:World)(hx:v.In w.cell? x):
  Calls Tryz.prog 21 #[x,.string ⟨key.toArray⟩] w (dB (v.find key) w):=by
 obtain⟨k,b,n,s,l,m⟩:=v;obtain⟨A,e,B,d,rfl,q1,q2,q3,q4,q5,q6⟩:=In.form hx;have H6:=Jf (show SlM w.cell? B m from q6);have HB2:Below w.heap.size w _:=(((Ji _ _).alloc (Jh _) (.cells #[.int .i64 k,b,n.neg,n.digits,.int .i64 n.exp,s,.slice A l.length e,.slice B m.length d] 31)).alloc (by simp) (.cells #[.int .i64 0,false,false,.string ⟨#[]⟩,.int .i64 0,.string ⟨#[]⟩,.slice none 0 0,.slice none 0 0] 31));clear q5 q6 hx;unfold maxLen at q2 q4;go_enter Tryz.func21,Tryz.ntmps21;go_wp2_with fail
 go_loopw [6] (BA w k b n s (.slice A l.length e) (.slice B m.length d) m key) (λi _=>m.length-(intOf i).toNat)
 case atStart=>exact⟨0,by omega,rfl,λ_ q hq=>by simp at hq,rfl⟩
 case round=>
  obtain⟨j,hj,rfl,hno,rfl⟩:=hrel;have HNO:=Jf hno;clear hno;by_cases hlt:j<m.length
  .have hp:=Jg hlt;obtain⟨g,o,y,rfl,hy,hk,hc⟩:=H6.out j _ hp;obtain⟨k1,b1,n1,g1,x1,s1,A1,l1,p1,B1,m1,d1,rfl⟩:=In.cells hy;obtain⟨e0,e1,e2,e3,e4,e5,e6,e7⟩:=hc.eight;have hgw:g<w.heap.size:=Jn w _ hk;have HY:=Jf hy;have HNX:=Jf (show∀q∈m.take (j+1),q∈m.take j\/q=m[j] by
    intro q hq;rw[Jr hlt] at hq;rcases Jq.1 hq with h|h
    .exact .inl h
    .exact .inr (Jt.1 h))
   have HFI:=Jf (λh=>qN hp h);clear hp hy hc;by_cases h5:k=5
   .subst h5;by_cases hkey:m[j].1=key
    .have HF:=Jf (show(Vl.mk 5 b n s l m).find key=some m[j].2 from by
      have:=HFI.out (λq hq=>by rw[hkey];exact HNO.out rfl q hq);rw[hkey] at this;simpa[Vl.find] using this)
     have kk:(m[j].1==key)=true:=by simpa using hkey
     clear HFI hkey;generalize m[j].1=mk at*
     have hblk:=Blk.cW w (.cells #[.int .i64 5,b,n.neg,n.digits,.int .i64 n.exp,s,.slice A l.length e,.slice (some ⟨g,o,none⟩) m.length d] 31) 31 #[.int .i64 k1,b1,n1,g1,.int .i64 x1,s1,.slice A1 l1 p1,.slice B1 m1 d1];have HBLK:=Jf hblk;clear hblk;go_wp2_with fail;refine Ju (aM (l:=[_,_,_,_,_,_,_,_]) rfl _ _ _ rfl HBLK.out Tryz.underlying31 rfl (by kernel_rfl)) rfl ?_;have hbb:Below w.heap.size w _:=(((Ji _ _).alloc (Jh _) (.cells #[.int .i64 5,b,n.neg,n.digits,.int .i64 n.exp,s,.slice A l.length e,.slice (some ⟨g,o,none⟩) m.length d] 31)).alloc (by simp) (.cells #[.int .i64 k1,b1,n1,g1,.int .i64 x1,s1,.slice A1 l1 p1,.slice B1 m1 d1] 31));exact dB.yes HF.out (In.keep (aa hbb) _ _ HY.out) hbb
    .have HK:=Jf hkey;have kk:(m[j].1==key)=false:=by simpa using hkey
     have HREL:=Jf (show(5:Int)=5->∀q∈m.take (j+1),q.1≠key fromλ_ q hq=>(HNX.out q hq).elim (HNO.out rfl q) (λe=>by rw[e];exact hkey));clear HFI hkey;generalize m[j].1=mk at*
     go_wp2_with fail;go_roundw;case rel=>exact⟨j+1,by omega,by go_num,HREL.out,rfl⟩
     case measure=>simp[intOf];omega
   .have t1:(k==5)=false:=by simpa using h5
    have HREL:=Jf (show k=5->∀q∈m.take (j+1),q.1≠key fromλh=>absurd h h5);clear h5 HFI;go_wp2_with fail;go_roundw;case rel=>exact⟨j+1,by omega,by go_num,HREL.out,rfl⟩
    case measure=>simp[intOf];omega
  .obtain rfl:j=m.length:=by omega
   have HF:=Jf (show(Vl.mk k b n s l m).find key=none from by
    unfold Vl.find;simp only;split
    .rename_i h5;exact oe (λp hp=>HNO.out h5 p (by rw[JC];exact hp))
    .rfl)
   have hblk:=Blk.cW w (.cells #[.int .i64 k,b,n.neg,n.digits,.int .i64 n.exp,s,.slice A l.length e,.slice B m.length d] 31) 31 #[.int .i64 0,false,false,.string ⟨#[]⟩,.int .i64 0,.string ⟨#[]⟩,.slice none 0 0,.slice none 0 0];have HBLK:=Jf hblk;clear hblk;go_wp2_with fail;refine Ju (aM (l:=[_,_,_,_,_,_,_,_]) rfl _ _ _ rfl HBLK.out Tryz.underlying31 rfl (by kernel_rfl)) rfl ?_;exact dB.no HF.out HB2
end
