import Derived.Test.YtdhgmaonolgpnaaGreatDoorMc
set_option linter.unusedSimpArgs false
namespace Go.Proofs.YtdhgmaonolgpnaaGreatDoor
namespace Pt
inductive Res where
 |ok (l:List Jd)
 |bad (p:Nat)
def push(l:List Jd)(c:UInt8):List Jd:=l.dropLast++[l.getLast?.getD []++[c]]
def go:Jd->Nat->List Jd->Res
 |[],_,l=>.ok l
 |c::t,i,l=>
  if c=47 then go t (i+1) (l++[[]])
  else if c=126 then
   match t with
   |[]=>.bad i
   |d::t=>if d=48 then go t (i+2) (push l 126) else if d=49 then go t (i+2) (push l 47) else .bad i
  else go t (i+1) (push l c)
def parse:Jd->Res
 |[]=>.ok []
 |c::t=>if c=47 then go (c::t) 0 [] else .bad 0
def esc(c:UInt8):Jd:=if c=126 then[126,48] else if c=47 then[126,49] else[c]
def name(n:Jd):Jd:=n.flatMap esc
def text(l:List Jd):Jd:=l.flatMap λn=>47::name n
theorem lp(c:UInt8)(t:Jd)(i:Nat)(l:List Jd):go (c::t) i l=
  if c=47 then go t (i+1) (l++[[]])
  else if c=126 then
   (match t with
   |[]=>.bad i
   |d::t=>if d=48 then go t (i+2) (push l 126) else if d=49 then go t (i+2) (push l 47) else .bad i)
  else go t (i+1) (push l c):=by
 cases t<;>rfl
theorem jI(l:List Jd)(cur:Jd)(c:UInt8):push (l++[cur]) c=l++[cur++[c]]:=by simp[push]
theorem Hl(l:List Jd)(c:UInt8):push l c≠[]:=by simp[push]
theorem iS{l:List Jd}(h:l≠[])(c:UInt8):(push l c).length=l.length:=by
 have:0<l.length:=L5.2 h;simp[push];omega
theorem bK(l m:List Jd):text (l++m)=text l++text m:=by simp[text]
theorem fH(n:Jd)(l:List Jd):text (n::l)=47::(name n++text l):=by simp[text]
theorem py(a b:Jd):name (a++b)=name a++name b:=by simp[name]
theorem FL(c:UInt8):name [c]=esc c:=by simp[name]
theorem Iq(c:UInt8)(t:Jd)(i:Nat)(l:List Jd)(cur:Jd):go (esc c++t) i (l++[cur])=go t (i+(esc c).length) (l++[cur++[c]]):=by
 by_cases h1:c=126
 .subst h1;have e:esc 126=[126,48]:=by decide
  rw[e];simp[go,jI]
 .by_cases h2:c=47
  .subst h2;have e:esc 47=[126,49]:=by decide
   rw[e];simp[go,jI]
  .have e:esc c=[c]:=by simp[esc,h1,h2]
   rw[e];rw[NT,lp,Jj h2,Jj h1,jI];rfl
theorem GS(n:Jd):∀(t:Jd) (i:Nat) (l:List Jd) (cur:Jd),go (name n++t) i (l++[cur])=go t (i+(name n).length) (l++[cur++n]):=by
 induction n with
 |nil=>intro t i l cur;simp[name]
 |cons c n ih=>
  intro t i l cur;have e:name (c::n)=esc c++name n:=by simp[name]
  rw[e,Ko,Iq,ih,Jk,<-Nat.add_assoc];simp
theorem GU(ns:List Jd):∀(t:Jd) (i:Nat) (l:List Jd),go (text ns++t) i l=go t (i+(text ns).length) (l++ns):=by
 induction ns with
 |nil=>intro t i l;simp[text]
 |cons n ns ih=>
  intro t i l;rw[fH];simp only[JS,Ko];rw[lp,Jo rfl];have h:=GS n (text ns++t) (i+1) l [];rw[JW] at h;rw[h,ih];simp only[Jl,Jk,Ko,NT]
  congr 1
  omega
theorem iq(l:List Jd):parse (text l)=.ok l:=by
 cases l with
 |nil=>rfl
 |cons n l=>
  have h:=GU (n::l) [] 0 [];rw[JK] at h;rw[fH] at h ⊢;show(if(47:UInt8)=47 then go (47::(name n++text l)) 0 [] else .bad 0)=_;rw[Jo rfl,h];simp[go]
theorem BG(c:UInt8):1<=(esc c).length/\(esc c).length<=2:=by
 unfold esc;repeat' split
 all_goals simp
theorem FK(n:Jd):(name n).length<=2*n.length:=by
 induction n with
 |nil=>simp[name]
 |cons c n ih=>
  have e:name (c::n)=esc c++name n:=by simp[name]
  rw[e,Jk,Jl];have:=BG c;omega
theorem eG(m:Nat)(l:List Jd)(h:∀n∈l,n.length<=m):(text l).length<=l.length*(2*m+1):=by
 induction l with
 |nil=>simp[text]
 |cons n l ih=>
  rw[fH];have h1:=FK n;have h2:=h n (by simp);have h3:=ih (λx hx=>h x (by simp[hx]));simp only[Jl,Jk];rw[Nt];omega
theorem oI(l:List Jd)(j:Nat)(h:j<l.length):text (l.take (j+1))=text (l.take j)++47::name l[j]:=by
 rw[Jr h,bK,fH];simp[text]
theorem Dd(n:Jd)(k:Nat)(h:k<n.length):name (n.take (k+1))=name (n.take k)++esc n[k]:=by
 rw[Jr h,py,FL]
def index(nm:Jd)(n:Nat)(e:Bool):Nat×Bool:=
 if e=true/\nm=[45] then(n,true)
 else if nm=[]\/¬(nm.all Nm.dig=true)\/(1<nm.length/\nm.head?=some 48)\/18<nm.length then(0,false)
 else if Nm.val nm<n\/(Nm.val nm=n/\e=true) then(Nm.val nm,true) else(0,false)
theorem xJ{nm:Jd}{n k:Nat}(h:index nm n false=(k,true)):k<n:=by
 unfold index at h;rw[Jj (by simp)] at h;split at h
 .cases h
 .split at h
  .rename_i h1;have h2:=Kk Prod.fst h;simp only at h2;rcases h1 with h1|⟨_,h1⟩
   .omega
   .cases h1
  .cases h
open Js in
def get:Vl->List Jd->Option Vl
 |v,[]=>some v
 |.mk k b n s l m,nm::ns=>if k=4 then
  (match l[(index nm l.length false).1]? with
  |some x=>if(index nm l.length false).2=true then get x ns else none
  |none=>none)
  else match(Vl.mk k b n s l m).find nm with
   |some x=>get x ns
   |none=>none
end Pt
namespace Ed
open Js Pt
open Ps (less ins jK kR lG oa gJ)
inductive Ch where
 |ok (v:Vl)
 |bad (c:Nat)
def put(m:List Mem)(nm:Jd)(x:Vl):List Mem:=m.takeWhile (less nm)++(nm,x)::(m.dropWhile (less nm)).filter λp=>decide (p.1≠nm)
def del(m:List Mem)(nm:Jd):List Mem:=m.filter λp=>decide (p.1≠nm)
def upd(m:List Mem)(nm:Jd)(z:Vl):List Mem:=m.map λp=>if p.1=nm then(p.1,z) else p
def inL(op:Nat)(l:List Vl)(i:Nat)(x:Vl):List Vl:=if op=1 then l.take i++x::l.drop i else if op=2 then l.eraseIdx i else l.set i x
def one(op:Nat)(nm:Jd):Vl->Vl->Ch
 |.mk k b n s l m,x=>
  if k=4 then(if(index nm l.length (decide (op=1))).2=true then .ok (.mk k b n s (inL op l (index nm l.length (decide (op=1))).1 x) []) else .bad 6)
  else if k=5 then(if op=1\/(Js.find m nm).isSome=true then .ok (.mk k b n s [] (if op=2 then del m nm else put m nm x)) else .bad 6)
  else .bad 6
def under(nm:Jd)(f:Vl->Ch):Vl->Ch
 |.mk k b n s l m=>
  if k=4 then(match(if(index nm l.length false).2=true then l[(index nm l.length false).1]? else none) with
   |some y=>(match f y with|.ok z=>.ok (.mk k b n s (l.set (index nm l.length false).1 z) [])|.bad c=>.bad c)
   |none=>.bad 6)
  else if k=5 then(match Js.find m nm with
   |some y=>(match f y with|.ok z=>.ok (.mk k b n s [] (upd m nm z))|.bad c=>.bad c)
   |none=>.bad 6)
  else .bad 6
def kid:Vl->Jd->Option Vl
 |.mk k b n s l m,nm=>if k=4 then(if(index nm l.length false).2=true then l[(index nm l.length false).1]? else none) else(Vl.mk k b n s l m).find nm
theorem ot(k:Int)(b:Bool)(n:Nm.Num)(s:Jd)(l:List Vl)(m:List Mem)(nm:Jd):
  kid (.mk k b n s l m) nm=if k=4 then(if(index nm l.length false).2=true then l[(index nm l.length false).1]? else none) else(Vl.mk k b n s l m).find nm:=rfl
theorem ni(v:Vl)(nm:Jd)(ns:List Jd):get v (nm::ns)=(kid v nm).bind λy=>get y ns:=by
 obtain⟨k,b,n,s,l,m⟩:=v;rw[ot];show(if k=4 then
  (match l[(index nm l.length false).1]? with
  |some x=>if(index nm l.length false).2=true then get x ns else none
  |none=>none)
  else match(Vl.mk k b n s l m).find nm with
   |some x=>get x ns
   |none=>none)=_
 by_cases hk:k=4
 .rw[Jo hk,Jo hk];by_cases hi:(index nm l.length false).2=true
  .rw[Jo hi];cases l[(index nm l.length false).1]? with
   |none=>rfl
   |some x=>simp only;rw[Jo hi];rfl
  .rw[Jj hi];cases l[(index nm l.length false).1]? with
   |none=>rfl
   |some x=>simp only;rw[Jj hi];rfl
 .rw[Jj hk,Jj hk];cases(Vl.mk k b n s l m).find nm<;>rfl
mutual
def rR:Vl->Bool
 |.mk k _ _ _ l m=>(decide (k=4)||l.isEmpty)&&(decide (k=5)||m.isEmpty)&&xZ l&&(ya m&&bO (m.map (·.1)))
def xZ:List Vl->Bool
 |[]=>true
 |v::l=>rR v&&xZ l
def ya:List Mem->Bool
 |[]=>true
 |p::m=>HJ p&&ya m
def HJ:Mem->Bool
 |(_,v)=>rR v
end
theorem De(l:List Vl):xZ l=true↔∀v∈l,rR v=true:=by
 induction l with
 |nil=>simp[xZ]
 |cons v l ih=>simp[xZ,ih]
theorem Df(m:List Mem):ya m=true↔∀p∈m,rR p.2=true:=by
 induction m with
 |nil=>simp[ya]
 |cons p m ih=>obtain⟨k,v⟩:=p;simp[ya,HJ,ih]
theorem yb(k:Int)(b:Bool)(n:Nm.Num)(s:Jd)(l:List Vl)(m:List Mem):
  rR (.mk k b n s l m)=true↔(¬k=4->l=[])/\(¬k=5->m=[])/\(∀v∈l,rR v=true)/\(∀p∈m,rR p.2=true)/\bO (m.map (·.1))=true:=by
 simp only[rR,JH,ND,JF,Mq,De,Df];constructor
 .rintro⟨⟨⟨h1,h2⟩,h3⟩,h4,h5⟩;exact⟨λh=>h1.resolve_left h,λh=>h2.resolve_left h,h3,h4,h5⟩
 .rintro⟨h1,h2,h3,h4,h5⟩;exact⟨⟨⟨by by_cases h:k=4<;>simp[h];exact h1 h,by by_cases h:k=5<;>simp[h];exact h2 h⟩,h3⟩,h4,h5⟩
theorem Hm{m:List Mem}{nm:Jd}{x:Vl}(h:∀p∈m,p.1≠nm):put m nm x=ins m nm x:=by
 unfold put ins
 congr 2
 refine O4.2 λp hp=>?_;simpa using h p ((KS _).subset hp)
theorem ik{a b:Jd}(h:Lib.compareBytes a b= -1):a≠b:=by
 rintro rfl;rw[Nm.cF] at h;omega
theorem part{m:List Mem}{nm:Jd}{y:Vl}(hr:bO (m.map (·.1))=true)(h:Js.find m nm=some y):
  ∃a c,m=a++(nm,y)::c/\(∀p∈a,Lib.compareBytes p.1 nm= -1)/\(∀p∈c,Lib.compareBytes nm p.1= -1):=by
 unfold Js.find at h;obtain⟨p,hp,rfl⟩:=Kd.1 h;have hk:p.1=nm:=by have:=M5 hp;simpa using this
 obtain⟨a,c,rfl⟩:=N0 (KI hp);refine⟨a,c,by rw[<-hk],?_⟩;rw[jK,JX,Kh,Lx] at hr;obtain⟨_,h2,h3⟩:=hr;rw[KO] at h2;exact⟨λq hq=>by rw[<-hk];exact h3 _ (M3 hq) _ (by simp),λq hq=>by rw[<-hk];exact h2.1 _ (M3 hq)⟩
theorem u4(nm:Jd)(y:Vl):less nm (nm,y)=false:=by
 unfold less;rw[Ks];intro h;exact ik h rfl
theorem Cn{a c:List Mem}{nm:Jd}{y:Vl}(ha:∀p∈a,Lib.compareBytes p.1 nm= -1):(a++(nm,y)::c).takeWhile (less nm)=a/\(a++(nm,y)::c).dropWhile (less nm)=(nm,y)::c:=by
 have h1:∀p∈a,less nm p=true:=λp hp=>by unfold less;simpa using ha p hp
 refine⟨?_,?_⟩
 .rw[List.takeWhile_append_of_pos h1,MQ,u4];simp
 .rw[List.dropWhile_append_of_pos h1,ML,u4];simp
theorem CP{c:List Mem}{nm:Jd}(hc:∀p∈c,Lib.compareBytes nm p.1= -1):c.filter (λp=>decide (p.1≠nm))=c:=
 O4.2 λp hp=>by have:=ik (hc p hp);simpa usingλe=>this e.symm
theorem G1{a c:List Mem}{nm:Jd}{y:Vl}(x:Vl)(ha:∀p∈a,Lib.compareBytes p.1 nm= -1)(hc:∀p∈c,Lib.compareBytes nm p.1= -1):put (a++(nm,y)::c) nm x=a++(nm,x)::c:=by
 unfold put;rw[(Cn ha).1,(Cn ha).2,List.filter_cons_of_neg (by simp),CP hc]
theorem tP{a c:List Mem}{nm:Jd}(x:Vl)(ha:∀p∈a,Lib.compareBytes p.1 nm= -1):Js.find (a++(nm,x)::c) nm=some x:=by
 unfold Js.find;rw[List.find?_append,Ma.2 (λp hp=>by simpa using ik (ha p hp))];simp
theorem DF{m:List Mem}{nm:Jd}(hr:bO (m.map (·.1))=true)(h:Js.find m nm=none):
  ∃a c,m=a++c/\(∀p∈a,Lib.compareBytes p.1 nm= -1)/\(∀p∈c,Lib.compareBytes nm p.1= -1)/\∀x,put m nm x=a++(nm,x)::c:=by
 have hn:∀p∈m,p.1≠nm:=kR (by rw[h];simp);refine⟨m.takeWhile (less nm),m.dropWhile (less nm),Kc.symm,λp hp=>lG hp,λp hp=>oa hr hn hp,λx=>?_⟩;rw[Hm hn];rfl
theorem Fh{m:List Mem}{nm:Jd}(x:Vl)(hr:bO (m.map (·.1))=true):Js.find (put m nm x) nm=some x:=by
 cases h:Js.find m nm with
 |some y=>
  obtain⟨a,c,rfl,ha,hc⟩:=part hr h;rw[G1 x ha hc,tP x ha]
 |none=>
  obtain⟨a,c,_,ha,hc,hp⟩:=DF hr h;rw[hp x,tP x ha]
theorem od{k:Int}{b:Bool}{n:Nm.Num}{s:Jd}{l:List Vl}{m:List Mem}{nm:Jd}:(Vl.mk k b n s l m).find nm=if k=5 then Js.find m nm else none:=rfl
def modify:List Jd->(Vl->Ch)->Vl->Ch
 |[],f,v=>f v
 |nm::ns,f,v=>under nm (modify ns f) v
open Ps (gF kx)
def kindOf:Vl->Int
 |.mk k _ _ _ _ _=>k
def bU:Vl->List Vl
 |.mk _ _ _ _ l _=>l
def pM(nm:Jd):Prop:=¬(nm=[]\/¬(nm.all Nm.dig=true)\/(1<nm.length/\nm.head?=some 48)\/18<nm.length)
theorem tU:¬pM [45]:=λh=>h (.inr (.inl (by decide)))
theorem tV{nm:Jd}{n:Nat}{e:Bool}(h:¬(e=true/\nm=[45]))(hg:pM nm):index nm n e=if Nm.val nm<n\/(Nm.val nm=n/\e=true) then(Nm.val nm,true) else(0,false):=by
 unfold index;rw[Jj h,Jj hg]
theorem qV{nm:Jd}{n:Nat}{e:Bool}(h:(index nm n e).2=true):(e=true/\nm=[45]/\(index nm n e).1=n)\/(nm≠[45]/\pM nm/\(index nm n e).1=Nm.val nm/\(Nm.val nm<n\/(Nm.val nm=n/\e=true))):=by
 by_cases h0:e=true/\nm=[45]
 .exact .inl ⟨h0.1,h0.2,by unfold index;rw[Jo h0]⟩
 .by_cases hg:pM nm
  .rw[tV h0 hg] at h ⊢;split at h
   .rename_i hv;refine .inr ⟨λe=>by rw[e] at hg;exact tU hg,hg,by rw[Jo hv],hv⟩
   .cases h
  .unfold index at h;rw[Jj h0,Jo (Classical.not_not.1 hg)] at h;cases h
theorem nt{nm:Jd}{n:Nat}(hg:pM nm)(h:Nm.val nm<n)(e:Bool):index nm n e=(Nm.val nm,true):=by
 rw[tV (λh=>by rw[h.2] at hg;exact tU hg) hg,Jo (.inl h)]
theorem mS(k:Nat):∀u,u<10^(k+1)->(Lib.decDigits u).length<=k+1:=by
 induction k with
 |zero=>intro u h;rw[Lib.decDigits,dif_pos (by simpa using h)];simp
 |succ k ih=>
  intro u h;rw[Lib.decDigits];split
  .simp
  .rw[Jk];have:=ih (u/10) (by rw[Nat.div_lt_iff_lt_mul (by omega),<-Nat.pow_succ];exact h);simp;omega
theorem x9(u:Nat)(h:u<=1000000):pM (Lib.decDigits u):=by
 rintro(h1|h1|⟨h1,h2⟩|h1)
 .exact Nm.me u h1
 .exact h1 (Km.2 (Nm.fL u))
 .by_cases h0:u=0
  .subst h0;rw[Lib.decDigits,dif_pos (by decide)] at h1;simp at h1
  .exact Nm.kM u h0 h2
 .have:=mS 6 u (by omega);omega
theorem IJ(op:Nat)(nm:Jd)(k:Int)(b:Bool)(n:Nm.Num)(s:Jd)(l:List Vl)(m:List Mem)(x:Vl):one op nm (.mk k b n s l m) x=
  if k=4 then(if(index nm l.length (decide (op=1))).2=true then .ok (.mk k b n s (inL op l (index nm l.length (decide (op=1))).1 x) []) else .bad 6)
  else if k=5 then(if op=1\/(Js.find m nm).isSome=true then .ok (.mk k b n s [] (if op=2 then del m nm else put m nm x)) else .bad 6)
  else .bad 6:=rfl
theorem qd{nm:Jd}{v x u:Vl}(hv:rR v=true)(h:one 3 nm v x=.ok u):kid u nm=some x:=by
 obtain⟨k,b,n,s,l,m⟩:=v;obtain⟨h4,h5,hl,hm,hr⟩:=(yb _ _ _ _ _ _).1 hv;rw[IJ] at h;split at h
 .rename_i hk;split at h
  .rename_i hi;injection h with h;subst h;have hlt:(index nm l.length false).1<l.length:=xJ (nm:=nm) (n:=l.length) (by rw[<-hi];rfl);have hL:inL 3 l (index nm l.length (decide (3=1))).1 x=l.set (index nm l.length false).1 x:=by unfold inL;rw[Jj (by decide),Jj (by decide)];rfl
   rw[hL,ot,Jo hk,KF,Jo (by exact hi)];exact Kw hlt
  .cases h
 .split at h
  .rename_i hk hk5;split at h
   .injection h with h;subst h;rw[ot,Jj hk,od,Jo hk5];exact Fh x hr
   .cases h
  .cases h
open Ps (less)
theorem kx(a b:List Vl):aH (a++b)=aH a+aH b:=by
 induction a with
 |nil=>simp[aH]
 |cons v a ih=>simp only[JS,aH,ih];omega
theorem gF(a b:List Mem):aE (a++b)=aE a+aE b:=by
 induction a with
 |nil=>simp[aE]
 |cons v a ih=>simp only[JS,aE,ih];omega
end Ed
namespace Oq
open Js Pt
structure Opn where
 op:Nat
 path:List Jd
 src:List Jd
 v:Vl
abbrev Opn.zero:Opn:=⟨0,[],[],Ps.mkN⟩
def numOf(t:Jd):Nat:=
 if t=[97,100,100] then 1 else if t=[114,101,109,111,118,101] then 2 else if t=[114,101,112,108,97,99,101] then 3
 else if t=[109,111,118,101] then 4 else if t=[99,111,112,121] then 5 else if t=[116,101,115,116] then 6 else 0
def strOf:Vl->Option Jd
 |.mk k _ _ s _ _=>if k=3 then some s else none
def wg(v:Vl)(key:Jd):Option Jd:=(v.find key).bind strOf
def He(t:Jd):Option (List Jd):=
 match Pt.parse t with
 |.ok l=>some l
 |.bad _=>none
def I0(v:Vl)(key:Jd):Option (List Jd):=(wg v key).bind He
abbrev kOp:Jd:=[111,112]
abbrev J8:Jd:=[112,97,116,104]
abbrev J7:Jd:=[102,114,111,109]
abbrev Iw:Jd:=[118,97,108,117,101]
def IM(v:Vl)(op:Nat)(p:List Jd):Option Opn:=
 if op=4\/op=5 then(I0 v J7).map λf=>⟨op,p,f,Ps.mkN⟩
 else if op=2 then some ⟨op,p,[],Ps.mkN⟩
 else(v.find Iw).map λu=>⟨op,p,[],u⟩
def opn(v:Vl):Option Opn:=(wg v kOp).bind λt=>if numOf t=0 then none else(I0 v J8).bind λp=>IM v (numOf t) p
inductive Rd where
 |ok (l:List Opn)
 |bad (c i:Nat)
theorem map_take{l:List Vl}{a:List Opn}{o:Opn}{j:Nat}(hj:j<l.length)(h:(l.take j).map opn=a.map some)(ho:opn l[j]=some o):(l.take (j+1)).map opn=(a++[o]).map some:=by
 rw[Jr hj,JX,JX,h];simp[ho]
theorem Ga{m:List Mem}{p:Mem}(h:p∈m):p.2.size<=aE m:=by
 induction m with
 |nil=>cases h
 |cons q m ih=>
  obtain⟨a,v⟩:=q;simp only[aE,pF];rcases JB.1 h with rfl|h
  .simp only;omega
  .have:=ih h;omega
structure Fit (v:Vl):Prop where
 rR:Ed.rR v=true
 size:v.size<=1000000
 bL:v.bL 100000
theorem BI{v u:Vl}{key:Jd}(h:v.find key=some u):∃b n s l m p,v=.mk 5 b n s l m/\p∈m/\p.2=u:=by
 obtain⟨k,b,n,s,l,m⟩:=v;unfold Vl.find at h;simp only at h;split at h
 .rename_i hk;subst hk;unfold Js.find at h;obtain⟨p,hp,rfl⟩:=Kd.1 h;exact⟨b,n,s,l,m,p,rfl,KI hp,rfl⟩
 .cases h
theorem Fi{v u:Vl}{key:Jd}(h:Fit v)(hu:v.find key=some u):Fit u:=by
 obtain⟨b,n,s,l,m,p,rfl,hp,rfl⟩:=BI hu;obtain⟨h1,h2,h3⟩:=h;have hs:=Ga hp;refine⟨((Ed.yb _ _ _ _ _ _).1 h1).2.2.2.1 p hp,by simp only[Vl.size] at h2;omega,?_⟩;simp only[Vl.bL] at h3;exact((dE _ _).1 h3.2.2.2 p hp).2
theorem eG{v:Vl}{key t:Jd}(h:Fit v)(ht:wg v key=some t):t.length<=100000:=by
 unfold wg at ht;cases hf:v.find key with
 |none=>rw[hf] at ht;cases ht
 |some u=>
  rw[hf] at ht;have hu:=(Fi h hf).bL;obtain⟨k,b,n,s,l,m⟩:=u;simp only[Vl.bL] at hu;simp only[Option.bind_some,strOf] at ht;split at ht
  .injection ht with ht;subst ht;exact hu.2.1
  .cases ht
end Oq
