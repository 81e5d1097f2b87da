import Derived.Test.YtdhgmaonolgpnaaGreatDoorMb
set_option linter.unusedSimpArgs false
namespace Go.Proofs.YtdhgmaonolgpnaaGreatDoor
namespace Js
open Nm (Num)
inductive Vl where
 |mk (k:Int) (b:Bool) (n:Num) (s:Jd) (l:List Vl) (m:List (Jd×Vl))
abbrev Mem:=Jd×Vl
theorem ID{v:Vl}{l:List Vl}(h:v∈l)(k b n s m):SizeOf.sizeOf v<SizeOf.sizeOf (Vl.mk k b n s l m):=by
 have:=Mz h;simp only[Vl.mk.sizeOf_spec];omega
theorem Hj{p:Mem}{m:List Mem}(h:p∈m)(k b n s l):SizeOf.sizeOf p.2<SizeOf.sizeOf (Vl.mk k b n s l m):=by
 have:=Mz h;have h2:SizeOf.sizeOf p.2<SizeOf.sizeOf p:=by cases p;simp only[Prod.mk.sizeOf_spec];omega
 simp only[Vl.mk.sizeOf_spec];omega
theorem Vl.ind{P:Vl->Prop}(h:∀k b n s l m,(∀v∈l,P v)->(∀p∈m,P p.2)->P (.mk k b n s l m))(v:Vl):P v:=
 match v with
 |.mk k b n s l m=>h k b n s l m (λv _hv=>Vl.ind h v) (λp _hp=>Vl.ind h p.2)
termination_by SizeOf.sizeOf v
decreasing_by
 .exact ID _hv _ _ _ _ _
 .exact Hj _hp _ _ _ _ _
mutual
def Vl.size:Vl->Nat
 |.mk _ _ _ _ l m=>1+aH l+aE m
def aH:List Vl->Nat
 |[]=>0
 |v::l=>v.size+aH l
def aE:List Mem->Nat
 |[]=>0
 |p::m=>pF p+aE m
def pF:Mem->Nat
 |(_,v)=>v.size
end
mutual
def Vl.depth:Vl->Nat
 |.mk k _ _ _ l m=>if k=4\/k=5 then max (fV l) (fW m)+1 else 0
def fV:List Vl->Nat
 |[]=>0
 |v::l=>max v.depth (fV l)
def fW:List Mem->Nat
 |[]=>0
 |p::m=>max (uV p) (fW m)
def uV:Mem->Nat
 |(_,v)=>v.depth
end
mutual
def Vl.levels:Vl->Nat
 |.mk _ _ _ _ l m=>max (nz l) (nA m)
def nz:List Vl->Nat
 |[]=>0
 |v::l=>max (v.levels+1) (nz l)
def nA:List Mem->Nat
 |[]=>0
 |p::m=>max (BR p+1) (nA m)
def BR:Mem->Nat
 |(_,v)=>v.levels
end
mutual
def Vl.same:Vl->Vl->Bool
 |.mk k b n s l m,.mk k' b' n' s' l' m'=>decide (k=k')&&decide (b=b')&&decide (n=n')&&decide (s=s')&&di l l'&&dm m m'
def di:List Vl->List Vl->Bool
 |[],[]=>true
 |v::l,v'::l'=>v.same v'&&di l l'
 |_,_=>false
def dm:List Mem->List Mem->Bool
 |[],[]=>true
 |p::m,p'::m'=>nL p p'&&dm m m'
 |_,_=>false
def nL:Mem->Mem->Bool
 |(k,v),(k',v')=>decide (k=k')&&v.same v'
end
def fC(n:Num):Bool:=
 if n.digits=[] then !n.neg&&decide (n.exp=0)
 else n.digits.all Nm.dig&&decide (n.digits.head?≠some 48)&&decide (n.digits.getLast?≠some 48)&&decide (n.digits.length<=60)&&decide (-1000<=n.exp)&&decide (n.exp<=1000)
def s0(k:Int)(b:Bool)(n:Num)(s:Jd)(l m:Nat):Bool:=
 decide (0<=k)&&decide (k<=5)&&(decide (k=1)|| !b)&&(decide (k=2)||decide (n=Num.zero))&&(decide (k=3)||decide (s=[]))&&(decide (k=4)||decide (l=0))&&(decide (k=5)||decide (m=0))
def bO:List Jd->Bool
 |a::b::r=>decide (Lib.compareBytes a b= -1)&&bO (b::r)
 |_=>true
mutual
def Vl.may:Vl->Bool
 |.mk k b n s l m=>s0 k b n s l.length m.length&&fC n&&St.text s&&pQ l&&(rG m&&bO (m.map (·.1)))
def pQ:List Vl->Bool
 |[]=>true
 |v::l=>v.may&&pQ l
def rG:List Mem->Bool
 |[]=>true
 |p::m=>IC p&&rG m
def IC:Mem->Bool
 |(k,v)=>St.text k&&v.may
end
def find(m:List Mem)(key:Jd):Option Vl:=(m.find? λp=>decide (p.1=key)).map (·.2)
def Vl.find:Vl->Jd->Option Vl
 |.mk k _ _ _ _ m,key=>if k=5 then Js.find m key else none
theorem dV(a:Vl):∀b,a.same b=true↔a=b:=by
 induction a using Vl.ind with
 |h k b n s l m hl hm=>
  rintro⟨k',b',n',s',l',m'⟩;have el:∀l',di l l'=true↔l=l':=by
   clear hm
   induction l with
   |nil=>intro l';cases l'<;>simp[di]
   |cons v l ih=>
    intro l';cases l' with
    |nil=>simp[di]
    |cons v' l'=>simp[di,ih (λx hx=>hl x (by simp[hx])),hl v (by simp)]
  have em:∀m',dm m m'=true↔m=m':=by
   clear hl el
   induction m with
   |nil=>intro m';cases m'<;>simp[dm]
   |cons p m ih=>
    intro m';cases m' with
    |nil=>simp[dm]
    |cons p' m'=>
     obtain⟨x,v⟩:=p;obtain⟨x',v'⟩:=p';have:=hm (x,v) (by simp);simp only at this;simp[dm,nL,ih (λx hx=>hm x (by simp[hx])),this]
  simp[Vl.same,el,em,and_assoc]
theorem uu(a:Vl):a.same a=true:=(dV a a).2 rfl
theorem ur(a b:Vl):a.same b=b.same a:=by
 rw[KM,dV,dV];exact eq_comm
theorem ba(l:List Vl):pQ l=true↔∀v∈l,v.may=true:=by
 induction l with
 |nil=>simp[pQ]
 |cons v l ih=>simp[pQ,ih]
theorem br(m:List Mem):rG m=true↔∀p∈m,St.text p.1=true/\p.2.may=true:=by
 induction m with
 |nil=>simp[rG]
 |cons p m ih=>
  obtain⟨x,v⟩:=p;simp[rG,IC,ih]
theorem au{k:Int}{b:Bool}{n:Num}{s:Jd}{l:List Vl}{m:List Mem}(h:(Vl.mk k b n s l m).may=true):
  0<=k/\k<=5/\(¬k=1->b=false)/\(¬k=2->n=Num.zero)/\(¬k=3->s=[])/\(¬k=4->l=[])/\(¬k=5->m=[])/\fC n=true/\St.text s=true/\pQ l=true/\rG m=true/\bO (m.map (·.1))=true:=by
 simp only[Vl.may,s0,JH,ND,JF,Nc,NB] at h;obtain⟨⟨⟨⟨⟨⟨⟨⟨⟨⟨h1,h2⟩,h3⟩,h4⟩,h5⟩,h6⟩,h7⟩,h8⟩,h9⟩,h10⟩,h11,h12⟩:=h;exact⟨h1,h2,λe=>h3.resolve_left e,λe=>h4.resolve_left e,λe=>h5.resolve_left e,λe=>h6.resolve_left e,λe=>h7.resolve_left e,h8,h9,h10,h11,h12⟩
theorem bF{n:Num}(h:fC n=true):Nm.May n:=by
 obtain⟨neg,dg,ex⟩:=n;unfold fC at h;simp only at h;split at h
 .rename_i e;subst e;simp at h
  left;simp[Num.zero,h]
 .rename_i e;simp only[JH,JF,Km] at h;obtain⟨⟨⟨⟨⟨h1,h2⟩,h3⟩,h4⟩,h5⟩,h6⟩:=h;exact .inr ⟨e,h1,h2,h3,h4,h5,h6⟩
theorem zo{n:Num}(h:Nm.May n):fC n=true:=by
 rcases h with rfl|⟨h0,h1,h2,h3,h4,h5,h6⟩
 .rfl
 .unfold fC;rw[Jj h0];simp only[JH,JF,Km];exact⟨⟨⟨⟨⟨h1,h2⟩,h3⟩,h4⟩,h5⟩,h6⟩
theorem eO{a b c:Jd}(h:Lib.compareBytes a b= -1)(k:Lib.compareBytes b c= -1):Lib.compareBytes a c= -1:=by
 have h1:=Nm.fv a b c (by omega) (by omega);have h2:=Nm.cr a c;have h3:Lib.compareBytes a c≠0:=λe=>by
  have:=Nm.dQ _ _ e;subst this;have:=Nm.bT a b;omega
 omega
theorem ko{a:Jd}{r:List Jd}(h:bO (a::r)=true):bO r=true/\∀b∈r,Lib.compareBytes a b= -1:=by
 induction r generalizing a with
 |nil=>simp[bO]
 |cons b r ih=>
  simp only[bO,JH,JF] at h;refine⟨h.2,λc hc=>?_⟩;rcases JB.1 hc with rfl|hc
  .exact h.1
  .exact eO h.1 ((ih h.2).2 c hc)
theorem so{ks:List Jd}(h:bO ks=true){i j:Nat}{a b:Jd}(hij:i<j)(ha:ks[i]? =some a)(hb:ks[j]? =some b):Lib.compareBytes a b= -1:=by
 induction ks generalizing i j with
 |nil=>simp at ha
 |cons c r ih=>
  obtain⟨h1,h2⟩:=ko h;cases j with
  |zero=>omega
  |succ j=>
   cases i with
   |zero=>
    simp at ha;subst ha;exact h2 b (Jz (by simpa using hb))
   |succ i=>exact ih h1 (i:=i) (j:=j) (by omega) (by simpa using ha) (by simpa using hb)
theorem vg{m:List Mem}(h:bO (m.map (·.1))=true){i:Nat}{p:Mem}(hp:m[i]? =some p):find m p.1=some p.2:=by
 unfold find
 induction m generalizing i with
 |nil=>simp at hp
 |cons q m ih=>
  simp only[Kh] at h;obtain⟨h1,h2⟩:=ko h;cases i with
  |zero=>simp at hp;subst hp;simp
  |succ i=>
   have hm:p∈m:=Jz (by simpa using hp);have:=h2 p.1 (M3 hm);have hne:¬q.1=p.1:=λe=>by rw[e,Nm.cF] at this;omega
   rw[NK (by simpa using hne)];exact ih h1 (by simpa using hp)
theorem oe{m:List Mem}{key:Jd}(h:∀p∈m,p.1≠key):find m key=none:=by
 unfold find;rw[Ma.2 (by intro p hp;simpa using h p hp)];rfl
def Found(m:List Mem)(key:Jd)(i:Nat)(b:Bool):Prop:=
 i<=m.length/\(b=true->∃p,m[i]? =some p/\p.1=key)/\(b=false->∀p∈m,p.1≠key)
def cY(m:List Mem)(key:Jd)(i j:Nat):Prop:=
 i<=j/\j<=m.length/\(∀k p,k<i->m[k]? =some p->Lib.compareBytes p.1 key= -1)/\(∀k p,j<=k->m[k]? =some p->¬Lib.compareBytes p.1 key= -1)
theorem cY.start(m:List Mem)(key:Jd):cY m key 0 m.length:=
 ⟨by omega,Jh _,λk p h=>by omega,λk p h hp=>by have:=(Jm.1 hp).1;omega⟩
theorem cY.up{m:List Mem}{key:Jd}{i j h:Nat}(hr:bO (m.map (·.1))=true)(H:cY m key i j)(h1:i<=h)(h2:h<j){p:Mem}(hp:m[h]? =some p)(hc:Lib.compareBytes p.1 key= -1):cY m key (h+1) j:=by
 refine⟨by omega,H.2.1,λk q hk hq=>?_,H.2.2.2⟩;by_cases e:k=h
 .subst e;rw[hp] at hq;cases hq;exact hc
 .exact eO (so hr (i:=k) (j:=h) (by omega) (by simp[hq]) (by simp[hp])) hc
theorem cY.down{m:List Mem}{key:Jd}{i j h:Nat}(hr:bO (m.map (·.1))=true)(H:cY m key i j)(h1:i<=h)(h2:h<j){p:Mem}(hp:m[h]? =some p)(hc:¬Lib.compareBytes p.1 key= -1):cY m key i h:=by
 refine⟨h1,by have:=H.2.1;omega,H.2.2.1,λk q hk hq=>?_⟩;by_cases e:k=h
 .subst e;rw[hp] at hq;cases hq;exact hc
 .intro hc';exact hc (eO (so hr (i:=h) (j:=k) (by omega) (by simp[hp]) (by simp[hq])) hc')
theorem cY.done{m:List Mem}{key:Jd}{i:Nat}(hr:bO (m.map (·.1))=true)(H:cY m key i i){p:Mem}(hp:m[i]? =some p):Found m key i (Lib.compareBytes p.1 key==0):=by
 refine⟨H.2.1,λh=>⟨p,hp,Nm.dQ _ _ (by simpa using h)⟩,λh q hq=>?_⟩;obtain⟨k,hk⟩:=JP hq;intro e;subst e;have hs:=Nm.cF q.1;rcases Ni k i with h1|rfl|h1
 .have:=H.2.2.1 k q h1 hk;omega
 .rw[hp] at hk;cases hk;simp[hs] at h
 .have h2:=so hr (i:=i) (j:=k) (a:=p.1) (b:=q.1) h1 (by simp[hp]) (by simp[hk]);exact H.2.2.2 i p (Jh _) hp h2
theorem cY.none_{m:List Mem}{key:Jd}{i:Nat}(H:cY m key i i)(hi:i=m.length):Found m key i false:=by
 refine⟨H.2.1,(λh=>by cases h),λh q hq e=>?_⟩;obtain⟨k,hk⟩:=JP hq;subst e;have:=H.2.2.1 k q (by have:=(Jm.1 hk).1;omega) hk;rw[Nm.cF] at this;omega
theorem B7(l:List Vl)(k:Nat)(h:k<l.length):aH (l.take (k+1))=aH (l.take k)+l[k].size:=by
 induction l generalizing k with
 |nil=>simp at h
 |cons v l ih=>
  cases k with
  |zero=>simp[aH]
  |succ k=>
   simp only[M4,aH,NL];rw[ih k (by simpa using h)];omega
theorem G7(l:List Vl)(k:Nat):aH (l.take k)<=aH l:=by
 induction l generalizing k with
 |nil=>simp[aH]
 |cons v l ih=>cases k with
  |zero=>simp[aH]
  |succ k=>simp only[M4,aH];have:=ih k;omega
theorem B8(m:List Mem)(k:Nat)(h:k<m.length):aE (m.take (k+1))=aE (m.take k)+m[k].2.size:=by
 induction m generalizing k with
 |nil=>simp at h
 |cons p m ih=>
  obtain⟨x,v⟩:=p;cases k with
  |zero=>simp[aE,pF]
  |succ k=>
   simp only[M4,aE,NL];rw[ih k (by simpa using h)];omega
theorem G9(m:List Mem)(k:Nat):aE (m.take k)<=aE m:=by
 induction m generalizing k with
 |nil=>simp[aE]
 |cons p m ih=>cases k with
  |zero=>simp[aE]
  |succ k=>simp only[M4,aE];have:=ih k;omega
theorem zF{l:List Vl}{v:Vl}(h:v∈l):v.depth<=fV l:=by
 induction l with
 |nil=>cases h
 |cons u l ih=>
  simp only[fV];rcases JB.1 h with rfl|h
  .omega
  .have:=ih h;omega
theorem zG{m:List Mem}{p:Mem}(h:p∈m):p.2.depth<=fW m:=by
 induction m with
 |nil=>cases h
 |cons q m ih=>
  simp only[fW];rcases JB.1 h with rfl|h
  .obtain⟨x,v⟩:=p;simp only[uV];omega
  .have:=ih h;omega
theorem size_pos(v:Vl):1<=v.size:=by cases v;simp only[Vl.size];omega
theorem lE{l:List Vl}{v:Vl}(h:v∈l):v.size<=aH l:=by
 induction l with
 |nil=>cases h
 |cons u l ih=>
  simp only[aH];rcases JB.1 h with rfl|h
  .omega
  .have:=ih h;omega
theorem er{m:List Mem}{p:Mem}(h:p∈m):p.2.size<=aE m:=by
 induction m with
 |nil=>cases h
 |cons q m ih=>
  simp only[aE];rcases JB.1 h with rfl|h
  .obtain⟨x,v⟩:=p;simp only[pF];omega
  .have:=ih h;omega
theorem cS(l:List Vl):l.length<=aH l:=by
 induction l with
 |nil=>simp
 |cons v l ih=>have:=size_pos v;simp only[Jl,aH];omega
theorem ep(m:List Mem):m.length<=aE m:=by
 induction m with
 |nil=>simp
 |cons p m ih=>obtain⟨x,v⟩:=p;have:=size_pos v;simp only[Jl,aE,pF];omega
end Js
namespace Ps
open Js
inductive R (α:Type) where
 |ok (v:α) (t:Jd)
 |bad (code left:Nat)
def blank(c:UInt8):Bool:=decide (c=32)||decide (c=9)||decide (c=10)||decide (c=13)
def skip(t:Jd):Jd:=t.dropWhile blank
def bn(t:Jd):R Jd:=
 match t with
 |[]=>.bad 1 0
 |c::u=>if c=34 then(match St.run (u.length+1) u [] 1 with
  |.ok o p=>.ok o ((c::u).drop p)
  |.bad k p=>.bad k ((c::u).length-p)) else .bad 1 (c::u).length
def number(t:Jd):R Nm.Num:=
 if(Nm.bA t).2=false then .bad 1 (Nm.bA t).1.length
 else if(Nm.parse (t.take (t.length-(Nm.bA t).1.length))).2=0 then .ok (Nm.parse (t.take (t.length-(Nm.bA t).1.length))).1 (Nm.bA t).1
 else .bad 5 t.length
def lit:Jd->Jd->R Unit
 |[],t=>.ok () t
 |_::_,[]=>.bad 1 0
 |c::w,d::t=>if d=c then lit w t else .bad 1 (d::t).length
def R.map{α β:Type}(f:α->β):R α->R β
 |.ok v t=>.ok (f v) t
 |.bad c l=>.bad c l
def R.bM{α:Type}:R α->R α
 |.ok v t=>.ok v (skip t)
 |.bad c l=>.bad c l
abbrev mkN:Vl:=.mk 0 false Nm.Num.zero [] [] []
abbrev mkB(b:Bool):Vl:=.mk 1 b Nm.Num.zero [] [] []
abbrev mkD(n:Nm.Num):Vl:=.mk 2 false n [] [] []
abbrev mkS(s:Jd):Vl:=.mk 3 false Nm.Num.zero s [] []
abbrev mkA(l:List Vl):Vl:=.mk 4 false Nm.Num.zero [] l []
abbrev mkO(m:List Mem):Vl:=.mk 5 false Nm.Num.zero [] [] m
def less(key:Jd)(p:Mem):Bool:=decide (Lib.compareBytes p.1 key= -1)
def ins(m:List Mem)(key:Jd)(v:Vl):List Mem:=m.takeWhile (less key)++(key,v)::m.dropWhile (less key)
def single(c:UInt8)(u:Jd):R Vl:=
 if c=34 then(bn (c::u)).map mkS
 else if c=110 then(lit [110,117,108,108] (c::u)).map λ_=>mkN
 else if c=116 then(lit [116,114,117,101] (c::u)).map λ_=>mkB true
 else if c=102 then(lit [102,97,108,115,101] (c::u)).map λ_=>mkB false
 else if c=45\/Nm.dig c=true then(number (c::u)).map mkD
 else .bad 1 (c::u).length
mutual
def value:Nat->Nat->Jd->R Vl
 |0,_,_=>.bad 1 0
 |f+1,d,t=>R.bM (match skip t with
  |[]=>.bad 1 0
  |c::u=>if c=123 then obj f d u else if c=91 then arr f d u else single c u)
def arr:Nat->Nat->Jd->R Vl
 |0,_,_=>.bad 1 0
 |f+1,d,u=>if d=32 then .bad 3 (u.length+1) else if(skip u).head?=some 93 then .ok (mkA []) (skip u).tail else elems f (d+1) (skip u) []
def elems:Nat->Nat->Jd->List Vl->R Vl
 |0,_,_,_=>.bad 1 0
 |f+1,d,t,acc=>match value f d t with
  |.bad c l=>.bad c l
  |.ok _ []=>.bad 1 0
  |.ok v (c::u)=>if c=44 then elems f d u (acc++[v]) else if c=93 then .ok (mkA (acc++[v])) u else .bad 1 (c::u).length
def obj:Nat->Nat->Jd->R Vl
 |0,_,_=>.bad 1 0
 |f+1,d,u=>if d=32 then .bad 3 (u.length+1) else if(skip u).head?=some 125 then .ok (mkO []) (skip u).tail else ee f (d+1) (skip u) []
def ee:Nat->Nat->Jd->List Mem->R Vl
 |0,_,_,_=>.bad 1 0
 |f+1,d,t,acc=>match bn (skip t) with
  |.bad c l=>.bad c l
  |.ok key t2=>if(find acc key).isSome=true then .bad 4 (skip t).length else match skip t2 with
   |[]=>.bad 1 0
   |c::t4=>if c=58 then(match value f d t4 with
    |.bad c l=>.bad c l
    |.ok _ []=>.bad 1 0
    |.ok x (c::u)=>if c=44 then ee f d u (ins acc key x) else if c=125 then .ok (mkO (ins acc key x)) u else .bad 1 (c::u).length) else .bad 1 (c::t4).length
end
def parse(s:Jd):R Vl:=
 if 20000<s.length then .bad 5 (s.length-20000) else match value (3*s.length+1) 0 s with
 |.bad c l=>.bad c l
 |.ok v []=>.ok v []
 |.ok _ (c::u)=>.bad 1 (c::u).length
theorem aC(t:Jd):(skip t).length<=t.length:=(KS blank).length_le
theorem DV(t:Jd):skip t=t.drop (t.length-(skip t).length):=by
 unfold skip
 induction t with
 |nil=>rfl
 |cons c t ih=>
  by_cases h:blank c=true
  .rw[LY h];have:=(KS blank (l:=t)).length_le;rw[Jl,show t.length+1-(t.dropWhile blank).length=(t.length-(t.dropWhile blank).length)+1 by omega,MM];exact ih
  .rw[LW h];simp
theorem gM(c:UInt8)(t:Jd):skip (c::t)=if blank c=true then skip t else c::t:=by
 unfold skip;by_cases h:blank c=true
 .rw[LY h,Jo h]
 .rw[LW h,Jj h]
theorem DW(t:Jd):skip (skip t)=skip t:=by
 induction t with
 |nil=>rfl
 |cons c t ih=>
  rw[gM];split
  .exact ih
  .rename_i h;rw[gM,Jj h]
theorem uq:∀(f f':Nat) (l out:Jd) (i n:Nat),l.length<f->l.length<f'->
  St.run f l out (i+n)=match St.run f' l out i with
   |.ok o p=>.ok o (p+n)
   |.bad k p=>.bad k (p+n)
 |0,_,_,_,_,_,h,_=>by omega
 |_,0,_,_,_,_,_,h=>by omega
 |f+1,f'+1,[],out,i,n,_,_=>rfl
 |f+1,f'+1,c::l,out,i,n,h,h'=>by
  by_cases hc:c=34
  .subst hc;rw[St.dC,St.dC];simp only;rw[show i+n+1=i+1+n by omega]
  .cases hk:St.chr (c::l) with
   |bad k e=>
    rw[St.cV f out _ hc hk,St.cV f' out _ hc hk];simp only;rw[show i+n+e=i+e+n by omega]
   |ok r m=>
    obtain⟨k1,k2,k3,k4⟩:=St.ma hk;rw[St.bX f out _ hc hk,St.bX f' out _ hc hk,show i+n+m=i+m+n by omega];have hd:((c::l).drop m).length<=l.length:=by rw[JJ];simp only[Jl];omega
    exact uq f f' _ _ _ _ (by simp only[Jl] at h;omega) (by simp only[Jl] at h';omega)
theorem uj:∀(f:Nat) (l out:Jd) (i:Nat) {k p:Nat},St.run f l out i=.bad k p->i<=p/\(l.length<f->p<=i+l.length)
 |0,l,out,i,k,p,h=>by
  injection h with h1 h2;subst h2;exact⟨Jh _,λh=>by omega⟩
 |f+1,[],out,i,k,p,h=>by injection h with h1 h2;omega
 |f+1,c::l,out,i,k,p,h=>by
  by_cases hc:c=34
  .subst hc;rw[St.dC] at h;cases h
  .cases hk:St.chr (c::l) with
   |bad q e=>
    rw[St.cV f out i hc hk] at h;injection h with h1 h2;have:=St.BD hk;exact⟨by omega,λ_=>by omega⟩
   |ok r n=>
    obtain⟨k1,k2,k3,k4⟩:=St.ma hk;rw[St.bX f out i hc hk] at h;have:=uj f _ _ _ h;rw[JJ] at this;simp only[Jl] at k2 this ⊢;refine⟨by omega,λhf=>?_⟩;have:=this.2 (by omega);omega
theorem lC(b:Jd)(a:Nat)(t:Jd)(ht:b.drop a=t)(ha:a+t.length=b.length):
  match bn t with
  |.ok o u=>∃n,St.unq b a=⟨o,n,0,0⟩/\a+n+u.length=b.length/\b.drop (a+n)=u/\u.length<t.length/\St.Txt o
  |.bad k l=>∃p:Nat,St.unq b a=⟨[],0,k,p⟩/\(k=1\/k=2)/\p+l=b.length/\l<=t.length:=by
 cases t with
 |nil=>
  simp only[bn];refine⟨a,?_,by simp,by simpa using ha,Jh _⟩;unfold St.unq;rw[Jj];rintro⟨_,h2⟩;rw[Ku,Kb (by simp at ha;omega)] at h2;cases h2
 |cons c u=>
  have hat:b[a]? =some c:=by
   have:(b.drop a)[0]? =some c:=by rw[ht];rfl
   rw[Kf] at this;simpa using this
  have hdr:b.drop (a+1)=u:=by rw[<-List.drop_drop,ht];rfl
  have hlen:u.length+1+a=b.length:=by simp only[Jl] at ha;omega
  by_cases hc:c=34
  .subst hc;have hu:St.unq b a=(St.run (b.length+1) u [] (a+1)).ans a:=by
    unfold St.unq;rw[Ku,hat,Jo ⟨Int.natCast_nonneg _,rfl⟩,hdr]
   have hsh:=uq (b.length+1) (u.length+1) u [] 1 a (by omega) (by omega);rw[show 1+a=a+1 by omega] at hsh;simp only[bn,Jo];cases hr:St.run (u.length+1) u [] 1 with
   |ok o p=>
    rw[hr] at hsh;simp only at hsh ⊢;have hp:=St.iz _ _ _ _ hr;have htx:=St.Cb _ _ _ _ hr .nil;refine⟨p,?_,?_,?_,?_,htx⟩
    .rw[hu,hsh];simp only[St.Res.ans];rw[show p+a-a=p by omega]
    .rw[JJ];simp only[Jl];omega
    .rw[<-List.drop_drop,ht]
    .rw[JJ];simp only[Jl];omega
   |bad k p=>
    rw[hr] at hsh;simp only at hsh ⊢;have hp:=uj _ _ _ _ hr;have hp2:=hp.2 (by omega);refine⟨p+a,?_,St.yA _ _ _ _ hr,?_,by omega⟩
    .rw[hu,hsh];rfl
    .simp only[Jl];omega
  .simp only[bn,Jj hc];refine⟨a,?_,by simp,by simpa using ha,Jh _⟩;unfold St.unq;rw[Jj];rintro⟨_,h2⟩;rw[Ku,hat] at h2;exact hc (JY h2)
theorem fR{t o u:Jd}(h:bn t=.ok o u):u.length<t.length/\St.Txt o/\u=t.drop (t.length-u.length):=by
 have:=lC t 0 t rfl (by simp);rw[h] at this;obtain⟨n,h1,h2,h3,h4,h5⟩:=this;refine⟨h4,h5,?_⟩;rw[<-h3]
 congr 1
 rw[h3];omega
theorem lB{t:Jd}{k l:Nat}(h:bn t=.bad k l):(k=1\/k=2)/\l<=t.length:=by
 have:=lC t 0 t rfl (by simp);rw[h] at this;obtain⟨p,h1,h2,h3,h4⟩:=this;exact⟨h2,h4⟩
theorem Gn{l:Jd}(h:St.Txt l):∀f,l.length<=f->St.fi f l=true:=by
 induction h with
 |nil=>intro f _;cases f<;>rfl
 |cons l h _ ih=>
  intro f hf;have hl:=St.nS l;cases l with
  |nil=>cases f<;>rfl
  |cons c t=>
   cases f with
   |zero=>simp at hf
   |succ f=>
    rw[St.fi,Jj h];refine ih f ?_;rw[JJ];simp only[Jl] at hf ⊢;omega
theorem iW{l:Jd}(h:St.Txt l):St.text l=true:=Gn h _ (Jh _)
theorem yO(l:Jd):Nm.suf l=l.drop (Nm.pre l).length:=by
 have h2:=Nm.iR l;have h3:(Nm.pre l++Nm.suf l).drop (Nm.pre l).length=Nm.suf l:=MU;rw[h2] at h3;exact h3.symm
def Rest(u t:Jd):Prop:=∃n,n<=t.length/\u=t.drop n
theorem Rest.refl(t:Jd):Rest t t:=⟨0,JE _,rfl⟩
theorem Rest.trans{a b c:Jd}(h:Rest a b)(k:Rest b c):Rest a c:=by
 obtain⟨n,h1,rfl⟩:=h;obtain⟨m,h2,rfl⟩:=k;rw[JJ] at h1;exact⟨m+n,by omega,by rw[LR]⟩
theorem Rest.len{a b:Jd}(h:Rest a b):a.length<=b.length:=by
 obtain⟨n,h1,rfl⟩:=h;rw[JJ];omega
theorem Rest.suf(l:Jd):Rest (Nm.suf l) l:=⟨_,Nm.pZ l,yO l⟩
theorem Rest.cons(c:UInt8)(l:Jd):Rest l (c::l):=⟨1,by simp,rfl⟩
theorem Rest.aU(l:Jd):Rest (Nm.aU l) l:=by
 cases l with
 |nil=>exact .refl _
 |cons c r=>
  simp only[Nm.aU];by_cases h:c=45\/c=43
  .rw[Jo h];exact .cons _ _
  .rw[Jj h];exact .refl _
theorem Rest.eq{a b:Jd}(h:Rest a b):a=b.drop (b.length-a.length):=by
 obtain⟨n,h1,rfl⟩:=h;rw[JJ,show b.length-(b.length-n)=n by omega]
theorem Rest.skip(t:Jd):Rest (skip t) t:=⟨_,by omega,DV t⟩
theorem oT(t:Jd):Rest (Nm.cO t).1 t:=by
 cases t with
 |nil=>exact .refl _
 |cons c r=>
  simp only[Nm.cO];by_cases h:c=101\/c=69
  .rw[Jo h];exact((Rest.suf _).trans (Rest.aU r)).trans (.cons _ _)
  .rw[Jj h];exact .refl _
theorem sY(t:Jd):Rest (Nm.cG t).1 t:=by
 unfold Nm.cG;split
 .split
  .exact(Rest.suf _).trans (.cons _ _)
  .exact((oT _).trans (Rest.suf _)).trans (.cons _ _)
 .exact oT _
theorem E8(t:Jd):Rest (Lib.trimPrefix t [45]) t:=by
 unfold Lib.trimPrefix;split
 .rename_i h;refine⟨1,?_,rfl⟩;cases t with
  |nil=>simp[Lib.hasPrefix] at h
  |cons c t=>simp
 .exact .refl _
theorem qF(t:Jd):Rest (Nm.bA t).1 t/\((Nm.bA t).2=true->(Nm.bA t).1.length<t.length):=by
 have h0:=E8 t;unfold Nm.bA;simp only;generalize Lib.trimPrefix t [45]=t1 at h0 ⊢;by_cases hp:(Nm.pre t1).isEmpty=true
 .rw[Jo hp];exact⟨h0,λh=>by cases h⟩
 .rw[Jj hp];have hl:=h0.len;have h2:=sY (if t1.head?=some 48 then t1.drop 1 else Nm.suf t1);have hpl:0<(Nm.pre t1).length:=by
   rcases Nat.eq_zero_or_pos (Nm.pre t1).length with h|h
   .rw[NB] at h;rw[h] at hp;simp at hp
   .exact h
  have hpl2:=Nm.pZ t1;have h3:Rest (if t1.head?=some 48 then t1.drop 1 else Nm.suf t1) t1/\(if t1.head?=some 48 then t1.drop 1 else Nm.suf t1).length<t1.length:=by
   split
   .exact⟨⟨1,by omega,rfl⟩,by rw[JJ];omega⟩
   .exact⟨Rest.suf _,by rw[yO,JJ];omega⟩
  refine⟨(h2.trans h3.1).trans h0,λ_=>?_⟩;have:=h2.len;omega
theorem lx{t:Jd}{n:Nm.Num}{u:Jd}(h:number t=.ok n u):fC n=true/\Rest u t/\u.length<t.length/\(Nm.bA t).2=true/\u=(Nm.bA t).1/\Nm.parse (t.take (t.length-u.length))=(n,0):=by
 unfold number at h;have he:=qF t;split at h
 .cases h
 .rename_i h1;split at h
  .rename_i h2;injection h with h3 h4;subst h3 h4;exact⟨zo (Nm.IA.may _ h2),he.1,he.2 (by simpa using h1),by simpa using h1,rfl,by rw[Prod.ext_iff];exact⟨rfl,h2⟩⟩
  .cases h
theorem rU{t:Jd}{k l:Nat}(h:number t=.bad k l):(k=1\/k=5)/\l<=t.length:=by
 unfold number at h;have he:=(qF t).1.len;split at h
 .injection h with h1 h2;omega
 .split at h
  .cases h
  .injection h with h1 h2;omega
theorem jj:∀{w t u:Jd} {x:Unit},lit w t=.ok x u->t=w++u
 |[],t,u,x,h=>by injection h with h1 h2
 |_::_,[],u,x,h=>by cases h
 |c::w,d::t,u,x,h=>by
  unfold lit at h;split at h
  .rename_i e;subst e;rw[jj h];rfl
  .cases h
theorem jX:∀{w t:Jd} {k l:Nat},lit w t=.bad k l->k=1/\l<=t.length
 |[],t,k,l,h=>by cases h
 |_::_,[],k,l,h=>by injection h with h1 h2;exact⟨h1.symm,by omega⟩
 |c::w,d::t,k,l,h=>by
  unfold lit at h;split at h
  .have:=jX h;simp only[Jl];omega
  .injection h with h1 h2;exact⟨h1.symm,by omega⟩
theorem jK(ks:List Jd):bO ks=true↔ks.Pairwise (λa b=>Lib.compareBytes a b= -1):=by
 induction ks with
 |nil=>simp[bO]
 |cons a r ih=>
  constructor
  .intro h;obtain⟨h1,h2⟩:=ko h;exact KO.2 ⟨h2,ih.1 h1⟩
  .intro h;obtain⟨h1,h2⟩:=KO.1 h;cases r with
   |nil=>rfl
   |cons b r=>
    simp only[bO,JH,JF];exact⟨h1 b (by simp),ih.2 h2⟩
theorem kR{m:List Mem}{key:Jd}(h:¬(find m key).isSome=true):∀p∈m,p.1≠key:=by
 intro p hp e;apply h;unfold find;rw[Option.isSome_map,List.find?_isSome];exact⟨p,hp,by simpa using e⟩
theorem lG{m:List Mem}{key:Jd}{p:Mem}(h:p∈m.takeWhile (less key)):Lib.compareBytes p.1 key= -1:=by
 induction m with
 |nil=>simp at h
 |cons q m ih=>
  by_cases hq:less key q=true
  .rw[Nb hq] at h;rcases JB.1 h with rfl|h
   .simpa[less] using hq
   .exact ih h
  .rw[Na hq] at h;simp at h
theorem oa{m:List Mem}{key:Jd}(hr:bO (m.map (·.1))=true)(hn:∀p∈m,p.1≠key){p:Mem}(h:p∈m.dropWhile (less key)):Lib.compareBytes key p.1= -1:=by
 induction m with
 |nil=>simp at h
 |cons q m ih=>
  obtain⟨h1,h2⟩:=ko (by simpa using hr);by_cases hq:less key q=true
  .rw[LY hq] at h;exact ih h1 (λp hp=>hn p (by simp[hp])) h
  .rw[LW hq] at h;have hq':¬Lib.compareBytes q.1 key= -1:=by simpa[less] using hq
   have hkq:Lib.compareBytes key q.1= -1:=by
    have e1:=Nm.cr q.1 key;have e2:=Nm.bT key q.1;have e3:Lib.compareBytes q.1 key≠0:=λe=>hn q (by simp) (Nm.dQ _ _ e);omega
   rcases JB.1 h with rfl|h
   .exact hkq
   .exact eO hkq (h2 p.1 (M3 h))
theorem gJ{m:List Mem}{key:Jd}(v:Vl)(hr:bO (m.map (·.1))=true)(hn:∀p∈m,p.1≠key):bO ((ins m key v).map (·.1))=true:=by
 rw[jK] at hr ⊢;have hm:m.takeWhile (less key)++m.dropWhile (less key)=m:=Kc;have hr':=hr;rw[<-hm,JX,Lx] at hr';obtain⟨h1,h2,h3⟩:=hr';unfold ins;rw[JX,Lx];refine⟨h1,?_,?_⟩
 .rw[Kh,KO];refine⟨λb hb=>?_,h2⟩;obtain⟨p,hp,rfl⟩:=JQ.1 hb;exact oa ((jK _).2 hr) hn hp
 .intro a ha b hb;rw[Kh] at hb;rcases JB.1 hb with rfl|hb
  .obtain⟨p,hp,rfl⟩:=JQ.1 ha;exact lG hp
  .exact h3 a ha b hb
theorem vB{m:List Mem}{key:Jd}{v:Vl}{p:Mem}(h:p∈ins m key v):p∈m\/p=(key,v):=by
 unfold ins at h;rcases Jq.1 h with h|h
 .exact .inl ((Lm _).mem h)
 .rcases JB.1 h with h|h
  .exact .inr h
  .exact .inl ((KS _).mem h)
theorem gF(a b:List Mem):aE (a++b)=aE a+aE b:=by
 induction a with
 |nil=>simp[aE]
 |cons p a ih=>simp only[JS,aE,ih];omega
theorem kx(a b:List Vl):aH (a++b)=aH a+aH b:=by
 induction a with
 |nil=>simp[aH]
 |cons p a ih=>simp only[JS,aH,ih];omega
theorem DT(m:List Mem)(key:Jd)(v:Vl):aE (ins m key v)=aE m+v.size:=by
 have hm:m.takeWhile (less key)++m.dropWhile (less key)=m:=Kc;have:aE m=aE (m.takeWhile (less key))+aE (m.dropWhile (less key)):=by rw[<-gF,hm]
 unfold ins;rw[gF,this];simp only[aE,pF];omega
theorem qX(m:List Mem)(key:Jd)(v:Vl):(ins m key v).length=m.length+1:=by
 have hm:m.takeWhile (less key)++m.dropWhile (less key)=m:=Kc;have:m.length=(m.takeWhile (less key)).length+(m.dropWhile (less key)).length:=by rw[<-List.length_append,hm]
 unfold ins;rw[Jk,Jl];omega
def Good(d:Nat)(v:Vl):Prop:=v.may=true/\v.depth+d<=32
def Told(d n:Nat):R Vl->Prop
 |.ok v u=>Good d v/\v.size+u.length<=n
 |.bad k l=>1<=k/\k<=5/\l<=n
theorem CE{l:List Vl}{n:Nat}(h:∀v∈l,v.depth<=n):fV l<=n:=by
 induction l with
 |nil=>exact JE _
 |cons v l ih=>
  have h1:=h v (by simp);have h2:=ih (λx hx=>h x (by simp[hx]));simp only[fV];omega
theorem CF{m:List Mem}{n:Nat}(h:∀p∈m,p.2.depth<=n):fW m<=n:=by
 induction m with
 |nil=>exact JE _
 |cons p m ih=>
  obtain⟨x,v⟩:=p;have h1:=h (x,v) (by simp);have h2:=ih (λy hy=>h y (by simp[hy]));simp only[fW,uV] at h1 ⊢;omega
theorem tj:mkN.may=true:=by decide
theorem nE(b:Bool):(mkB b).may=true:=by cases b<;>decide
theorem mayD{n:Nm.Num}(h:fC n=true):(mkD n).may=true:=by
 simp only[Vl.may,s0,h,pQ,rG];simp[St.text,St.fi,bO]
theorem mayS{s:Jd}(h:St.text s=true):(mkS s).may=true:=by
 simp only[Vl.may,s0,h,pQ,rG];simp[fC,Nm.Num.zero,bO]
theorem mayA{l:List Vl}(h:∀v∈l,v.may=true):(mkA l).may=true:=by
 simp only[Vl.may,s0,(ba l).2 h,rG];simp[fC,Nm.Num.zero,bO,St.text,St.fi]
theorem mayO{m:List Mem}(h:∀p∈m,St.text p.1=true/\p.2.may=true)(hr:bO (m.map (·.1))=true):(mkO m).may=true:=by
 simp only[Vl.may,s0,(br m).2 h,pQ,hr];simp[fC,Nm.Num.zero,St.text,St.fi]
theorem yH(d:Nat)(hd:d<=32)(c:UInt8)(u:Jd):Told d (c::u).length (single c u):=by
 unfold single;split
 .cases h:bn (c::u) with
  |ok o t=>have:=fR h;exact⟨⟨mayS (iW this.2.1),by simp[Vl.depth,hd]⟩,by simp only[Vl.size,aH,aE];omega⟩
  |bad k l=>have:=lB h;exact⟨by omega,by omega,this.2⟩
 split
 .cases h:lit [110,117,108,108] (c::u) with
  |ok o t=>have:=Kk List.length (jj h);exact⟨⟨tj,by simp[Vl.depth,hd]⟩,by simp at this;simp only[Vl.size,aH,aE,Jl];omega⟩
  |bad k l=>have:=jX h;exact⟨by omega,by omega,this.2⟩
 split
 .cases h:lit [116,114,117,101] (c::u) with
  |ok o t=>have:=Kk List.length (jj h);exact⟨⟨nE _,by simp[Vl.depth,hd]⟩,by simp at this;simp only[Vl.size,aH,aE,Jl];omega⟩
  |bad k l=>have:=jX h;exact⟨by omega,by omega,this.2⟩
 split
 .cases h:lit [102,97,108,115,101] (c::u) with
  |ok o t=>have:=Kk List.length (jj h);exact⟨⟨nE _,by simp[Vl.depth,hd]⟩,by simp at this;simp only[Vl.size,aH,aE,Jl];omega⟩
  |bad k l=>have:=jX h;exact⟨by omega,by omega,this.2⟩
 split
 .cases h:number (c::u) with
  |ok o t=>have:=lx h;exact⟨⟨mayD this.1,by simp[Vl.depth,hd]⟩,by have:=this.2.2.1;simp only[Vl.size,aH,aE];omega⟩
  |bad k l=>have:=rU h;exact⟨by omega,by omega,this.2⟩
 .exact⟨by omega,by omega,Jh _⟩
theorem Bm{d n:Nat}{r:R Vl}(h:Told d n r):Told d n r.bM:=by
 cases r with
 |ok v t=>have:=aC t;exact⟨h.1,by have:=h.2;omega⟩
 |bad k l=>exact h
theorem Told.mono{d n n':Nat}{r:R Vl}(h:Told d n r)(hn:n<=n'):Told d n' r:=by
 cases r with
 |ok v t=>exact⟨h.1,by have:=h.2;omega⟩
 |bad k l=>exact⟨h.1,h.2.1,by have:=h.2.2;omega⟩
theorem told(f:Nat):(∀d t,d<=32->Told d t.length (value f d t))/\(∀d u,d<=32->Told d (u.length+1) (arr f d u))/\
  (∀d t acc,d<32->(∀v∈acc,Good (d+1) v)->Told d (1+aH acc+t.length) (elems f (d+1) t acc))/\(∀d u,d<=32->Told d (u.length+1) (obj f d u))/\
  (∀d t acc,d<32->(∀p∈acc,St.text p.1=true/\Good (d+1) p.2)->bO (acc.map (·.1))=true->Told d (1+aE acc+t.length) (ee f (d+1) t acc)):=by
 induction f with
 |zero=>
  refine⟨λd t _=>?_,λd t _=>?_,λd t acc _ _=>?_,λd t _=>?_,λd t acc _ _ _=>?_⟩
  .unfold value;exact⟨by omega,by omega,by omega⟩
  .unfold arr;exact⟨by omega,by omega,by omega⟩
  .unfold elems;exact⟨by omega,by omega,by omega⟩
  .unfold obj;exact⟨by omega,by omega,by omega⟩
  .unfold ee;exact⟨by omega,by omega,by omega⟩
 |succ f ih=>
  obtain⟨iv,ia,ie,io,im⟩:=ih;refine⟨?_,?_,?_,?_,?_⟩
  .intro d t hd;unfold value;have hs:=aC t;refine Told.mono (n:=(skip t).length) (Bm ?_) hs;cases skip t with
   |nil=>exact⟨by omega,by omega,Jh _⟩
   |cons c u=>
    simp only;split
    .exact io d u hd
    split
    .exact ia d u hd
    .exact yH d hd c u
  .intro d u hd;unfold arr;have hs:=aC u;split
   .exact⟨by omega,by omega,Jh _⟩
   split
   .rename_i h1 h2;refine⟨⟨mayA (λv hv=>by cases hv),by simp[Vl.depth,fV,fW];omega⟩,?_⟩;have:(skip u).tail.length+1<=(skip u).length:=by cases h:skip u with
     |nil=>rw[h] at h2;cases h2
     |cons c t=>simp
    simp only[Vl.size,aH,aE];omega
   .exact(ie d (skip u) [] (by omega) (λv hv=>by cases hv)).mono (by simp only[aH];omega)
  .intro d t acc hd hacc;unfold elems;have hv:=iv (d+1) t (by omega);cases h:value f (d+1) t with
   |bad k l=>rw[h] at hv;exact⟨hv.1,hv.2.1,by have:=hv.2.2;omega⟩
   |ok v u=>
    rw[h] at hv;obtain⟨hg,hsz⟩:=hv;have hacc':∀x∈acc++[v],Good (d+1) x:=by
     intro x hx;rcases Jq.1 hx with hx|hx
     .exact hacc x hx
     .rw[Jt.1 hx];exact hg
    have hsl:aH (acc++[v])=aH acc+v.size:=by rw[kx];simp[aH]
    cases u with
    |nil=>exact⟨by omega,by omega,by omega⟩
    |cons c u=>
     simp only[Jl] at hsz;simp only;split
     .exact(ie d u _ hd hacc').mono (by omega)
     split
     .refine⟨⟨mayA (λx hx=>(hacc' x hx).1),?_⟩,by simp only[Vl.size,aE];omega⟩;have:=CE (n:=31-d) (λx hx=>by have:=(hacc' x hx).2;omega);simp only[Vl.depth,fW];rw[Jo (by simp)];omega
     .exact⟨by omega,by omega,by simp only[Jl];omega⟩
  .intro d u hd;unfold obj;have hs:=aC u;split
   .exact⟨by omega,by omega,Jh _⟩
   split
   .rename_i h1 h2;refine⟨⟨mayO (λv hv=>by cases hv) rfl,by simp[Vl.depth,fV,fW];omega⟩,?_⟩;have:(skip u).tail.length+1<=(skip u).length:=by cases h:skip u with
     |nil=>rw[h] at h2;cases h2
     |cons c t=>simp
    simp only[Vl.size,aH,aE];omega
   .exact(im d (skip u) [] (by omega) (λv hv=>by cases hv) rfl).mono (by simp only[aE];omega)
  .intro d t acc hd hacc hr;unfold ee;have hs:=aC t;cases hq:bn (skip t) with
   |bad k l=>have:=lB hq;exact⟨by omega,by omega,by omega⟩
   |ok key t2=>
    have hq2:=fR hq;have hs2:=aC t2;simp only;split
    .exact⟨by omega,by omega,by omega⟩
    .rename_i hn;have hn':=kR hn;cases h3:skip t2 with
     |nil=>exact⟨by omega,by omega,by omega⟩
     |cons c t4=>
      rw[h3] at hs2;simp only[Jl] at hs2;simp only;split
      .have hv:=iv (d+1) t4 (by omega);cases h:value f (d+1) t4 with
       |bad k l=>rw[h] at hv;exact⟨hv.1,hv.2.1,by have:=hv.2.2;omega⟩
       |ok v u=>
        rw[h] at hv;obtain⟨hg,hsz⟩:=hv;have hacc':∀p∈ins acc key v,St.text p.1=true/\Good (d+1) p.2:=by
         intro x hx;rcases vB hx with hx|rfl
         .exact hacc x hx
         .exact⟨iW hq2.2.1,hg⟩
        have hr':=gJ v hr hn';have hsl:=DT acc key v;cases u with
        |nil=>exact⟨by omega,by omega,by omega⟩
        |cons c u=>
         simp only[Jl] at hsz;simp only;split
         .exact(im d u _ hd hacc' hr').mono (by omega)
         split
         .refine⟨⟨mayO (λx hx=>⟨(hacc' x hx).1,(hacc' x hx).2.1⟩) hr',?_⟩,by simp only[Vl.size,aH];omega⟩;have:=CF (n:=31-d) (λx hx=>by have:=(hacc' x hx).2.2;omega);simp only[Vl.depth,fV];rw[Jo (by simp)];omega
         .exact⟨by omega,by omega,by simp only[Jl];omega⟩
      .exact⟨by omega,by omega,by simp only[Jl];omega⟩
theorem ir(s:Jd):Told 0 s.length (parse s):=by
 unfold parse;split
 .exact⟨by omega,by omega,by omega⟩
 .have:=(told (3*s.length+1)).1 0 s (by omega);cases h:value (3*s.length+1) 0 s with
  |bad k l=>rw[h] at this;exact this
  |ok v u=>
   rw[h] at this;cases u with
   |nil=>exact this
   |cons c u=>exact⟨by omega,by omega,by have:=this.2;omega⟩
end Ps
namespace Js
theorem Ai(v:Vl):v.may=true->v.levels<=v.depth:=by
 induction v using Vl.ind with
 |h k b n s l m hl hm=>
  intro h;obtain⟨_,_,_,_,_,h4,h5,_,_,h9,h10,h11⟩:=au h;clear h h11;have el:nz l<=if l=[] then 0 else fV l+1:=by
   clear hm h4
   induction l with
   |nil=>simp[nz]
   |cons v l ih=>
    simp only[pQ,JH] at h9;have h1:=hl v (by simp) h9.1;have h2:=ih (λx hx=>hl x (by simp[hx])) h9.2;rw[Jj (by simp)];simp only[fV,nz];split at h2<;>omega
  have em:nA m<=if m=[] then 0 else fW m+1:=by
   clear hl el h5
   induction m with
   |nil=>simp[nA]
   |cons p m ih=>
    obtain⟨x,v⟩:=p;simp only[rG,IC,JH] at h10;have h1:=hm (x,v) (by simp) h10.1.2;have h2:=ih (λx hx=>hm x (by simp[hx])) h10.2;rw[Jj (by simp)];simp only[fW,nA,uV,BR] at h1 ⊢;split at h2<;>omega
  simp only[Vl.depth,Vl.levels];by_cases hk:k=4\/k=5
  .rw[Jo hk];split at el<;>split at em<;>omega
  .rw[Jj hk];have e4:=h4 (λe=>hk (.inl e));have e5:=h5 (λe=>hk (.inr e));rw[Jo e4] at el;rw[Jo e5] at em;omega
mutual
def Vl.bL(N:Nat):Vl->Prop
 |.mk _ _ n s l m=>n.digits.length<=N/\s.length<=N/\fh N l/\fj N m
def fh(N:Nat):List Vl->Prop
 |[]=>True
 |v::l=>v.bL N/\fh N l
def fj(N:Nat):List Mem->Prop
 |[]=>True
 |p::m=>uy N p/\fj N m
def uy(N:Nat):Mem->Prop
 |(k,v)=>k.length<=N/\v.bL N
end
theorem jL(N:Nat)(l:List Vl):fh N l↔∀v∈l,v.bL N:=by
 induction l with
 |nil=>simp[fh]
 |cons v l ih=>simp[fh,ih]
theorem dE(N:Nat)(m:List Mem):fj N m↔∀p∈m,p.1.length<=N/\p.2.bL N:=by
 induction m with
 |nil=>simp[fj]
 |cons p m ih=>
  obtain⟨x,v⟩:=p;simp[fj,uy,ih]
end Js
namespace Ps
open Js
def mO(N:Nat)(r:R Vl):Prop:=∀v u,r=.ok v u->v.bL N/\4*u.length<=N
theorem mO.bad(N c l:Nat):mO N (.bad c l):=λ_ _ h=>by cases h
theorem mO.ok{N:Nat}{v:Vl}{u:Jd}(h:v.bL N)(k:4*u.length<=N):mO N (.ok v u):=λ_ _ e=>by cases e;exact⟨h,k⟩
theorem mO.bM{N:Nat}{r:R Vl}(h:mO N r):mO N r.bM:=by
 cases r with
 |ok v t=>have:=h _ _ rfl;have hs:=aC t;exact .ok this.1 (by omega)
 |bad c l=>exact .bad _ _ _
theorem s8{t o u:Jd}(h:bn t=.ok o u):o.length<=4*t.length:=by
 have:=lC t 0 t rfl (by simp);rw[h] at this;obtain⟨n,h1,_⟩:=this;have:=(St.Hu t 0).1;rw[show(0:Int)=((0:Nat):Int) from rfl,h1] at this;exact this
theorem Ah{n:Nm.Num}(h:fC n=true):n.digits.length<=60:=by
 rcases bF h with rfl|⟨_,_,_,_,h4,_⟩
 .simp[Nm.Num.zero]
 .exact h4
theorem yG(N:Nat)(hN:60<=N)(c:UInt8)(u:Jd)(hu:4*(c::u).length<=N):mO N (single c u):=by
 intro v t h;unfold single at h;split at h
 .cases hq:bn (c::u) with
  |bad k l=>rw[hq] at h;cases h
  |ok o t'=>
   rw[hq] at h;injection h with h1 h2;subst h1 h2;have h3:=s8 hq;have h4:=(fR hq).1;exact⟨by simp only[Vl.bL,fh,fj,Nm.Num.zero];simp;omega,by omega⟩
 split at h
 .cases hq:lit [110,117,108,108] (c::u) with
  |bad k l=>rw[hq] at h;cases h
  |ok o t'=>
   rw[hq] at h;injection h with h1 h2;subst h1 h2;have h3:=Kk List.length (jj hq);simp only[Jk,Jl,Jw] at h3 hu;exact⟨by simp[Vl.bL,fh,fj,Nm.Num.zero],by omega⟩
 split at h
 .cases hq:lit [116,114,117,101] (c::u) with
  |bad k l=>rw[hq] at h;cases h
  |ok o t'=>
   rw[hq] at h;injection h with h1 h2;subst h1 h2;have h3:=Kk List.length (jj hq);simp only[Jk,Jl,Jw] at h3 hu;exact⟨by simp[Vl.bL,fh,fj,Nm.Num.zero],by omega⟩
 split at h
 .cases hq:lit [102,97,108,115,101] (c::u) with
  |bad k l=>rw[hq] at h;cases h
  |ok o t'=>
   rw[hq] at h;injection h with h1 h2;subst h1 h2;have h3:=Kk List.length (jj hq);simp only[Jk,Jl,Jw] at h3 hu;exact⟨by simp[Vl.bL,fh,fj,Nm.Num.zero],by omega⟩
 split at h
 .cases hq:number (c::u) with
  |bad k l=>rw[hq] at h;cases h
  |ok o t'=>
   rw[hq] at h;injection h with h1 h2;subst h1 h2;have h3:=lx hq;have h4:=Ah h3.1;exact⟨by simp only[Vl.bL,fh,fj];simp;omega,by omega⟩
 .cases h
theorem Gd(N:Nat)(hN:60<=N)(f:Nat):(∀d t,4*t.length<=N->mO N (value f d t))/\(∀d u,4*u.length<=N->mO N (arr f d u))/\
  (∀d t acc,4*t.length<=N->(∀v∈acc,Vl.bL N v)->mO N (elems f d t acc))/\(∀d u,4*u.length<=N->mO N (obj f d u))/\
  (∀d t acc,4*t.length<=N->(∀p∈acc,p.1.length<=N/\Vl.bL N p.2)->mO N (ee f d t acc)):=by
 have hA:∀l:List Vl,(∀v∈l,Vl.bL N v)->Vl.bL N (mkA l):=λl h=>by
  simp only[Vl.bL,fj,Nm.Num.zero];exact⟨by simp,by simp,(jL N l).2 h,trivial⟩
 have hO:∀m:List Mem,(∀p∈m,p.1.length<=N/\Vl.bL N p.2)->Vl.bL N (mkO m):=λm h=>by
  simp only[Vl.bL,fh,Nm.Num.zero];exact⟨by simp,by simp,trivial,(dE N m).2 h⟩
 induction f with
 |zero=>
  refine⟨λd t _=>?_,λd t _=>?_,λd t acc _ _=>?_,λd t _=>?_,λd t acc _ _=>?_⟩
  .unfold value;exact .bad _ _ _
  .unfold arr;exact .bad _ _ _
  .unfold elems;exact .bad _ _ _
  .unfold obj;exact .bad _ _ _
  .unfold ee;exact .bad _ _ _
 |succ f ih=>
  obtain⟨iv,ia,ie,io,im⟩:=ih;refine⟨?_,?_,?_,?_,?_⟩
  .intro d t hd;unfold value;have hs:=aC t;refine mO.bM ?_;cases hq:skip t with
   |nil=>exact .bad _ _ _
   |cons c u=>
    rw[hq] at hs;have hu:4*u.length<=N:=by simp only[Jl] at hs;omega
    simp only;split
    .exact io d u hu
    split
    .exact ia d u hu
    .exact yG N hN c u (by omega)
  .intro d u hd;unfold arr;have hs:=aC u;split
   .exact .bad _ _ _
   split
   .refine .ok (hA [] (λ_ h=>by cases h)) ?_;rw[List.length_tail];omega
   .exact ie (d+1) (skip u) [] (by omega) (λ_ h=>by cases h)
  .intro d t acc hd hacc;unfold elems;have hv:=iv d t hd;cases h:value f d t with
   |bad k l=>exact .bad _ _ _
   |ok v u=>
    obtain⟨hg,hsz⟩:=hv _ _ h;have hacc':∀x∈acc++[v],Vl.bL N x:=by
     intro x hx;rcases Jq.1 hx with hx|hx
     .exact hacc x hx
     .rw[Jt.1 hx];exact hg
    cases u with
    |nil=>exact .bad _ _ _
    |cons c u=>
     simp only[Jl] at hsz;simp only;split
     .exact ie d u _ (by omega) hacc'
     split
     .exact .ok (hA _ hacc') (by omega)
     .exact .bad _ _ _
  .intro d u hd;unfold obj;have hs:=aC u;split
   .exact .bad _ _ _
   split
   .refine .ok (hO [] (λ_ h=>by cases h)) ?_;rw[List.length_tail];omega
   .exact im (d+1) (skip u) [] (by omega) (λ_ h=>by cases h)
  .intro d t acc hd hacc;unfold ee;have hs:=aC t;cases hq:bn (skip t) with
   |bad k l=>exact .bad _ _ _
   |ok key t2=>
    have hq1:=s8 hq;have hq2:=(fR hq).1;have hs2:=aC t2;simp only;split
    .exact .bad _ _ _
    .cases h3:skip t2 with
     |nil=>exact .bad _ _ _
     |cons c t4=>
      rw[h3] at hs2;simp only[Jl] at hs2;simp only;split
      .have hv:=iv d t4 (by omega);cases h:value f d t4 with
       |bad k l=>exact .bad _ _ _
       |ok v u=>
        obtain⟨hg,hsz⟩:=hv _ _ h;have hacc':∀p∈ins acc key v,p.1.length<=N/\Vl.bL N p.2:=by
         intro x hx;rcases vB hx with hx|rfl
         .exact hacc x hx
         .exact⟨by show key.length<=N;omega,hg⟩
        cases u with
        |nil=>exact .bad _ _ _
        |cons c u=>
         simp only[Jl] at hsz;simp only;split
         .exact im d u _ (by omega) hacc'
         split
         .exact .ok (hO _ hacc') (by omega)
         .exact .bad _ _ _
      .exact .bad _ _ _
theorem mB{s:Jd}{v:Vl}{u:Jd}(h:parse s=.ok v u):v.bL 80000:=by
 unfold parse at h;split at h
 .cases h
 .have:=(Gd 80000 (by omega) (3*s.length+1)).1 0 s (by omega);cases hv:value (3*s.length+1) 0 s with
  |bad k l=>rw[hv] at h;cases h
  |ok v' u'=>
   rw[hv] at h;have h2:=(this _ _ hv).1;cases u' with
   |nil=>injection h with h1;rw[<-h1];exact h2
   |cons c u=>cases h
end Ps
namespace Sh
open Js
def kws:List (Jd×Nat):=[
 ([116,121,112,101],1),
 ([101,110,117,109],2),
 ([99,111,110,115,116],3),
 ([109,105,110,105,109,117,109],4),
 ([109,97,120,105,109,117,109],4),
 ([109,105,110,76,101,110,103,116,104],5),
 ([109,97,120,76,101,110,103,116,104],5),
 ([109,105,110,73,116,101,109,115],5),
 ([109,97,120,73,116,101,109,115],5),
 ([117,110,105,113,117,101,73,116,101,109,115],6),
 ([114,101,113,117,105,114,101,100],7),
 ([105,116,101,109,115],8),
 ([97,100,100,105,116,105,111,110,97,108,80,114,111,112,101,114,116,105,101,115],8),
 ([110,111,116],8),
 ([112,114,111,112,101,114,116,105,101,115],9),
 ([36,100,101,102,115],9),
 ([97,108,108,79,102],10),
 ([97,110,121,79,102],10),
 ([111,110,101,79,102],10),
 ([36,114,101,102],11)]
def typeNames:List Jd:=[[110,117,108,108],[98,111,111,108,101,97,110],[110,117,109,98,101,114],[105,110,116,101,103,101,114],[115,116,114,105,110,103],[97,114,114,97,121],[111,98,106,101,99,116]]
def kw(nm:Jd):Nat:=((kws.find? (λp=>p.1==nm)).map (·.2)).getD 0
def kindOf:Vl->Int
 |.mk k _ _ _ _ _=>k
def strOf:Vl->Jd
 |.mk _ _ _ s _ _=>s
def jD(v:Vl):Bool:=decide (kindOf v=1)||decide (kindOf v=5)
def allM(m:List Mem):Bool:=m.all λp=>jD p.2
def GI(l:List Vl):Bool:=l.all jD
def isName(v:Vl):Bool:=decide (kindOf v=3)&&typeNames.contains (strOf v)
def jk(l:List Vl):Bool:=l.all isName
def dJ(l:List Vl):Bool:=(l.all λv=>decide (kindOf v=3))&&decide (l.map strOf).Nodup
def texts:Vl->Bool
 |.mk k _ _ _ l _=>dJ l&&decide (k=4)
def isType:Vl->Bool
 |.mk k b n s l m=>(dJ l&&decide (k=4)&&decide (0<l.length)&&jk l)||isName (.mk k b n s l m)
def jl:Nat->Vl->Bool
 |1,v=>isType v
 |2,.mk k _ _ _ l _=>decide (k=4)&&decide (0<l.length)
 |3,_=>true
 |4,v=>decide (kindOf v=2)
 |5,.mk k _ n _ _ _=>decide (k=2)&&(n.digits.isEmpty||decide (0<=n.exp))&& !n.neg
 |6,v=>decide (kindOf v=1)
 |7,v=>texts v
 |8,v=>jD v
 |9,.mk k _ _ _ _ m=>decide (k=5)&&allM m
 |10,.mk k _ _ _ l _=>decide (k=4)&&decide (0<l.length)&&GI l
 |11,v=>decide (kindOf v=3)
 |_,_=>false
def shape(nm:Jd)(v:Vl):Nat:=if kw nm=0 then 10 else if jl (kw nm) v=true then 0 else 11
def single(nm:Jd):Bool:=decide (kw nm=8)
def aI(l:List Vl):List Mem:=l.mapIdx λi v=>(Lib.decDigits i,v)
def kids(nm:Jd):Vl->List Mem
 |.mk k b n s l m=>if kw nm=8 then[([],.mk k b n s l m)] else if kw nm=9 then m else if kw nm=10 then aI l else[]
theorem Ha{nm:Jd}(h:∀p∈kws,¬p.1=nm):kw nm=0:=by
 unfold kw;rw[Ma.2 (λp hp=>by simpa using h p hp)];rfl
theorem Iz{nm:Jd}{q:Nat}(h:kw nm=q)(hq:¬q=0):(nm,q)∈kws:=by
 unfold kw at h;cases hf:kws.find? (λp=>p.1==nm) with
 |none=>rw[hf] at h;exact absurd h.symm hq
 |some p=>
  rw[hf] at h;have h1:p.2=q:=h;have h2:p.1=nm:=by simpa using M5 hf
  rw[<-h1,<-h2];exact KI hf
theorem pV{nm:Jd}{q:Nat}(Q:List Jd)(hQ:∀p∈kws,p.2=q->p.1∈Q)(hn:¬nm∈Q)(hq:¬q=0):¬kw nm=q:=λe=>hn (hQ _ (Iz e hq) rfl)
theorem AY{nm:Jd}{v:Vl}(h:shape nm v=0):¬kw nm=0/\jl (kw nm) v=true:=by
 unfold shape at h;split at h
 .cases h
 .rename_i h0;split at h
  .rename_i h1;exact⟨h0,h1⟩
  .cases h
theorem G3(nm:Jd)(v:Vl):shape nm v<=14:=by
 unfold shape;split
 .omega
 .split<;>omega
theorem yD{nm:Jd}{q:Nat}(v:Vl)(h:kw nm=q)(hq:¬q=0):shape nm v=if jl q v=true then 0 else 11:=by
 unfold shape;rw[h,Jj hq]
theorem ke(l:List Vl):(aI l).length=l.length:=by simp[aI]
theorem ef{l:List Vl}{i:Nat}{p:Mem}(h:(aI l)[i]? =some p):∃v,l[i]? =some v/\p=(Lib.decDigits i,v):=by
 unfold aI at h;rw[KX] at h;obtain⟨v,hv,rfl⟩:=Kd.1 h;exact⟨v,hv,rfl⟩
theorem tm(l:List Vl)(j:Nat)(h:j<l.length):aI (l.take (j+1))=aI (l.take j)++[(Lib.decDigits j,l[j])]:=by
 unfold aI;rw[Jr h,List.mapIdx_append];simp[JL,MD (Nat.le_of_lt h)]
theorem sW(l:List Vl):allM (aI l)=GI l:=by
 unfold allM GI;rw[KM,Km,Km];constructor
 .intro h v hv;obtain⟨i,hi⟩:=JP hv;have hm:(aI l)[i]? =some (Lib.decDigits i,v):=by unfold aI;rw[KX,hi];rfl
  exact h _ (Jz hm)
 .intro h p hp;obtain⟨i,hi⟩:=JP hp;obtain⟨v,hv,rfl⟩:=ef hi;exact h _ (Jz hv)
theorem cI(nm:Jd)(k:Int)(b:Bool)(n:Nm.Num)(s:Jd)(l:List Vl)(m:List Mem):kids nm (.mk k b n s l m)=if kw nm=8 then[([],.mk k b n s l m)] else if kw nm=9 then m else if kw nm=10 then aI l else[]:=rfl
theorem xR{nm:Jd}{v:Vl}(h:kw nm=8):(kids nm v).length=1:=by
 obtain⟨k,b,n,s,l,m⟩:=v;rw[cI,Jo h];rfl
theorem yT{l:List Vl}{j:Nat}(hj:j<l.length)(h:¬kindOf l[j]=3):dJ l=false:=by
 unfold dJ;rw[Lq];refine .inl ?_;rw[LM];intro hh;exact h (by simpa using Km.1 hh _ (Jv hj))
theorem Bh{l:List Vl}{p j:Nat}(hp:p<j)(hj:j<l.length)(h:strOf (l[p]'(by omega))=strOf l[j]):dJ l=false:=by
 unfold dJ;rw[Lq];refine .inr ?_;rw[Ks];intro hn;have:=Ld.1 hn p j (by simpa using(by omega:p<l.length)) (by simpa using hj) hp;simp only[Lj] at this;exact this h
theorem yU{l:List Vl}{j:Nat}(hj:j<l.length)(h:dJ (l.take j)=true)(hk:kindOf l[j]=3)(hn:∀p (hp:p<j),¬strOf (l[p]'(by omega))=strOf l[j]):dJ (l.take (j+1))=true:=by
 unfold dJ at h ⊢;rw[JH,JF] at h ⊢;rw[Jr hj];refine⟨?_,?_⟩
 .rw[NF,JH];exact⟨h.1,by simp[hk]⟩
 .rw[JX,Ng];refine⟨h.2,by simp,?_⟩;intro a ha b hb;simp only[Kh,Lo,Jt] at hb;subst hb;obtain⟨i,hi,rfl⟩:=LG ha;simp only[JR,JL] at hi;simp only[Lj,Nf];exact hn i (by omega)
theorem Bi:dJ []=true:=by decide
theorem Cx{m:List Mem}{j:Nat}(hj:j<m.length)(h:allM (m.take j)=true)(hs:jD (m[j]).2=true):allM (m.take (j+1))=true:=by
 unfold allM at h ⊢;rw[Jr hj,NF,h];simp[hs]
theorem EH{m:List Mem}{j:Nat}(hj:j<m.length)(hs:jD (m[j]).2=false):allM m=false:=by
 unfold allM;rw[LM];intro hh;have:=Km.1 hh _ (Jv hj);rw[hs] at this;cases this
theorem xY{l:List Vl}{j:Nat}(hj:j<l.length):jk (l.take (j+1))=(jk (l.take j)&&isName l[j]):=by
 unfold jk;rw[Jr hj,NF];simp
theorem zW{k:Int}{b:Bool}{n:Nm.Num}{s:Jd}{l:List Vl}{m:List Mem}{j:Nat}(hj:j<typeNames.length)(hk:k=3)(h:s=typeNames[j]):isName (.mk k b n s l m)=true:=by
 unfold isName;rw[JH];refine⟨by simp[kindOf,hk],?_⟩;rw[NP,show strOf (.mk k b n s l m)=s from rfl,h];exact Jv hj
theorem CZ{k:Int}{b:Bool}{n:Nm.Num}{s:Jd}{l:List Vl}{m:List Mem}(h:∀j (hj:j<typeNames.length),¬(k=3/\s=typeNames[j])):isName (.mk k b n s l m)=false:=by
 unfold isName;rw[LM];intro hh;rw[JH,NP] at hh;obtain⟨h1,h2⟩:=hh;obtain⟨j,hj,he⟩:=LG h2;exact h j hj ⟨KU h1,he.symm⟩
end Sh
