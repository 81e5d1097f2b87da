import Derived.Test.YtdhgmaonolgpnaaGreatDoorNc
import Derived.Test.YtdhgmaonolgpnaaGreatDoorHi
set_option linter.unusedSimpArgs false
namespace Go.Proofs.YtdhgmaonolgpnaaGreatDoor
namespace Vd
open Js Pt Cm Fl
def BN:Jd:=[36,100,101,102,115]
def xM:Jd:=[97,108,108]
def xN:Jd:=[97,110,121]
def xP:Jd:=[111,110,101]
def obj(m:List Mem):Vl:=.mk 5 false Nm.Num.zero [] [] m
def arr(l:List Vl):Vl:=.mk 4 false Nm.Num.zero [] l []
def both(s t:Vl):Vl:=obj [(BN,obj [([97],s),([98],t)]),
 (b9,obj [(xM,obj [(eK,arr [s,t])]),(xN,obj [(ch,arr [s,t])]),(aR,obj [(aR,s)]),(eM,obj [(eM,s)]),(xP,obj [(cm,arr [s,t])])])]
def Piece(L:List Cm.Node)(off:Nat)(r:List Cm.Node):Prop:=∀(j:Nat) N,r[j]? =some N->L[off+j]? =some N
section
variable {L:List Cm.Node} {off:Nat}
theorem Piece.all(L:List Cm.Node):Piece L 0 L:=λj N h=>by rw[JI];exact h
theorem Piece.cons{x:Cm.Node}{r:List Cm.Node}(h:Piece L off (x::r)):L[off]? =some x/\Piece L (off+1) r:=by
 refine⟨h 0 x rfl,λj N hj=>?_⟩;have:=h (j+1) N (by simpa using hj);rwa[show off+1+j=off+(j+1) by omega]
theorem Piece.app{a b:List Cm.Node}(h:Piece L off (a++b)):Piece L off a/\Piece L (off+a.length) b:=by
 refine⟨λj N hj=>h j N ?_,λj N hj=>?_⟩
 .rw[JD (Jm.1 hj).1];exact hj
 .have:=h (a.length+j) N (by rw[Jx (by omega),Kz];exact hj);rwa[show off+a.length+j=off+(a.length+j) by omega]
theorem Piece.seg{a:List Cm.Node}{Q:Names}(h:Piece L off (a.map (dI off Q))):Seg L off Q a:=λj N hj=>by
 rw[MC];exact h j _ (by rw[JZ,hj];rfl)
end
theorem yg{f off:Nat}{P:Names}{nm:Jd}{w:Vl}{r:List Cm.Node}(h:node f off P (obj [(nm,w)])=.ok r):
  ∃f' ks x,f=f'+1/\r=⟨P,false,false,[⟨nm,w,ks⟩]⟩::x/\ar (node f') (Sh.single nm) (P++[nm]) (off+1) (Sh.kids nm w)=.ok (ks,x):=by
 cases f with
 |zero=>cases h
 |succ f=>
  obtain⟨_,keys,y,h1,rfl⟩:=dd h;obtain⟨_,ks,a1,keys2,a2,h2,h3,rfl,rfl⟩:=bG h1;rw[av] at h3;injection h3 with h3;injection h3 with e1 e2;subst e1 e2;rw[JK];exact⟨f,ks,a1,rfl,rfl,h2⟩
theorem FA{f off:Nat}{U:Names}{k0 k1:Jd}{s t:Vl}{ks:List (Jd×Nat)}{x a b:List Cm.Node}(h:ar (node f) false U off [(k0,s),(k1,t)]=.ok (ks,x))(hs:compile s=.ok a)(ht:compile t=.ok b)(h1:s.size<=f)(h2:t.size<=f)(hr:off+x.length<=200):
  ks=[(k0,off),(k1,off+a.length)]/\x=a.map (dI off (U++[k0]))++b.map (dI (off+a.length) (U++[k1])):=by
 obtain⟨a1,ks2,a2,e1,e2,rfl,rfl⟩:=aN h;obtain⟨b1,ks3,b2,e3,e4,rfl,rfl⟩:=aN e2;rw[ar] at e4;injection e4 with e4;injection e4 with q1 q2;subst q1 q2;rw[JK] at hr ⊢;rw[Jk] at hr;rw[Jj (by simp)] at e1 e3;have r1:=mc (by omega) e1 h1 hs;subst r1;rw[JR] at hr e3 ⊢;have r2:=mc (by omega) e3 h2 ht;subst r2;exact⟨rfl,rfl⟩
theorem xR{f off:Nat}{U:Names}{s:Vl}{ks:List (Jd×Nat)}{x a:List Cm.Node}(h:ar (node f) true U off [([],s)]=.ok (ks,x))(hs:compile s=.ok a)(h1:s.size<=f)(hr:off+x.length<=200):
  ks=[([],off)]/\x=a.map (dI off U):=by
 obtain⟨a1,ks2,a2,e1,e2,rfl,rfl⟩:=aN h;rw[ar] at e2;injection e2 with e2;injection e2 with q1 q2;subst q1 q2;rw[JK] at hr ⊢;rw[Jo rfl] at e1;exact⟨rfl,mc (by omega) e1 h1 hs⟩
theorem vE(s t:Vl):Sh.aI [s,t]=[([48],s),([49],t)]:=by
 simp only[Sh.aI,Ms,List.mapIdx_nil];rw[show Lib.decDigits 0=[48] by kernel_rfl,show Lib.decDigits (0+1)=[49] by kernel_rfl]
structure Five (s t:Vl) (a b L:List Cm.Node):Prop where
 all_:∃(q x y:Nat),L[q]? =some ⟨[b9,xM],false,false,[⟨eK,arr [s,t],[([48],x),([49],y)]⟩]⟩/\(∃Q,Seg L x Q a)/\∃Q,Seg L y Q b
 any_:∃(q x y:Nat),L[q]? =some ⟨[b9,xN],false,false,[⟨ch,arr [s,t],[([48],x),([49],y)]⟩]⟩/\(∃Q,Seg L x Q a)/\∃Q,Seg L y Q b
 items_:∃(q x:Nat),L[q]? =some ⟨[b9,aR],false,false,[⟨aR,s,[([],x)]⟩]⟩/\∃Q,Seg L x Q a
 not_:∃(q x:Nat),L[q]? =some ⟨[b9,eM],false,false,[⟨eM,s,[([],x)]⟩]⟩/\∃Q,Seg L x Q a
 one_:∃(q x y:Nat),L[q]? =some ⟨[b9,xP],false,false,[⟨cm,arr [s,t],[([48],x),([49],y)]⟩]⟩/\(∃Q,Seg L x Q a)/\∃Q,Seg L y Q b
theorem vI{L:List Cm.Node}{f off:Nat}{P:Names}{nm:Jd}{s t:Vl}{r a b:List Cm.Node}(hk:Sh.kids nm (arr [s,t])=[([48],s),([49],t)])(hsg:Sh.single nm=false)(h:node f off P (obj [(nm,arr [s,t])])=.ok r)(hp:Piece L off r)(hL:off+r.length<=200)(hs:compile s=.ok a)(ht:compile t=.ok b)(hf:s.size+t.size+1<=f):
  ∃x y,L[off]? =some ⟨P,false,false,[⟨nm,arr [s,t],[([48],x),([49],y)]⟩]⟩/\(∃Q,Seg L x Q a)/\∃Q,Seg L y Q b:=by
 obtain⟨f',ks,x,rfl,rfl,h2⟩:=yg h;rw[hk,hsg] at h2;rw[Jl] at hL;obtain⟨rfl,rfl⟩:=FA h2 hs ht (by omega) (by omega) (by omega);obtain⟨h3,h4⟩:=hp.cons;obtain⟨h5,h6⟩:=h4.app;rw[JR] at h6;exact⟨_,_,h3,⟨_,h5.seg⟩,⟨_,h6.seg⟩⟩
theorem uv{L:List Cm.Node}{f off:Nat}{P:Names}{nm:Jd}{s:Vl}{r a:List Cm.Node}(hk:Sh.kids nm s=[([],s)])(hsg:Sh.single nm=true)(h:node f off P (obj [(nm,s)])=.ok r)(hp:Piece L off r)(hL:off+r.length<=200)(hs:compile s=.ok a)(hf:s.size+1<=f):
  ∃x,L[off]? =some ⟨P,false,false,[⟨nm,s,[([],x)]⟩]⟩/\∃Q,Seg L x Q a:=by
 obtain⟨f',ks,x,rfl,rfl,h2⟩:=yg h;rw[hk,hsg] at h2;rw[Jl] at hL;obtain⟨rfl,rfl⟩:=xR h2 hs (by omega) (by omega);obtain⟨h3,h4⟩:=hp.cons;exact⟨_,h3,⟨_,h4.seg⟩⟩
theorem rn{nm:Jd}(h:Sh.kw nm=10)(s t:Vl):Sh.kids nm (arr [s,t])=[([48],s),([49],t)]:=by
 unfold arr;rw[Sh.cI,Jj (by omega),Jj (by omega),Jo h,vE]
theorem fQ{nm:Jd}(h:Sh.kw nm=8)(s:Vl):Sh.kids nm s=[([],s)]:=by
 obtain⟨k,b,n,q,l,m⟩:=s;rw[Sh.cI,Jo h]
theorem Fz{nm:Jd}(h:Sh.kw nm=9)(m:List Mem):Sh.kids nm (obj m)=m:=by
 unfold obj;rw[Sh.cI,Jj (by omega),Jo h]
theorem cJ{s t:Vl}{a b L:List Cm.Node}(hs:compile s=.ok a)(ht:compile t=.ok b)(h:compile (both s t)=.ok L)(hl:L.length<=200):Five s t a b L:=by
 have hc:=h;unfold compile at hc;rw[Jo (by rfl)] at hc;obtain⟨f,hf⟩:∃f,(both s t).size=f+1:=⟨_,(Me (size_pos _)).symm⟩;have hsz:6*s.size+4*t.size+6<=f:=by
  have:(both s t).size=6*s.size+4*t.size+11:=by simp[both,obj,arr,Vl.size,aH,aE,pF];omega
  omega
 rw[hf] at hc;obtain⟨_,keys,r,h1,rfl⟩:=dd hc;obtain⟨_,ks1,d1,keys2,r2,hk1,hm2,rfl,rfl⟩:=bG h1;obtain⟨_,ks2,p1,keys3,r3,hk2,hm3,rfl,rfl⟩:=bG hm2;rw[av] at hm3;injection hm3 with hm3;injection hm3 with e1 e2;subst e1 e2;rw[Fz (by decide)] at hk2;rw[show Sh.single b9=false by decide] at hk2;obtain⟨rA,_,p2,gA,g2,_,rfl⟩:=aN hk2;obtain⟨rY,_,p3,gY,g3,_,rfl⟩:=aN g2;obtain⟨rI,_,p4,gI,g4,_,rfl⟩:=aN g3;obtain⟨rN,_,p5,gN,g5,_,rfl⟩:=aN g4;obtain⟨rO,_,p6,gO,g6,_,rfl⟩:=aN g5;rw[ar] at g6;injection g6 with g6;injection g6 with e1 e2;subst e2;rw[Jj (by simp)] at gA gY gI gN gO;simp only[Jl,Jk,Jw] at hl;obtain⟨_,q1⟩:=(Piece.all ((⟨[],decide ((5:Int)=1),false,_⟩:Cm.Node)::(d1++((rA++(rY++(rI++(rN++(rO++[])))))++[])))).cons;obtain⟨_,q2⟩:=q1.app;obtain⟨q3,_⟩:=q2.app;obtain⟨pA,q4⟩:=q3.app;obtain⟨pY,q5⟩:=q4.app;obtain⟨pI,q6⟩:=q5.app;obtain⟨pN,q7⟩:=q6.app;obtain⟨pO,_⟩:=q7.app;refine⟨?_,?_,?_,?_,?_⟩
 .obtain⟨x,y,h⟩:=vI (rn (by decide) s t) (by decide) gA pA (by omega) hs ht (by omega);exact⟨_,x,y,h⟩
 .obtain⟨x,y,h⟩:=vI (rn (by decide) s t) (by decide) gY pY (by omega) hs ht (by omega);exact⟨_,x,y,h⟩
 .obtain⟨x,h⟩:=uv (fQ (by decide) s) (by decide) gI pI (by omega) hs (by omega);exact⟨_,x,h⟩
 .obtain⟨x,h⟩:=uv (fQ (by decide) s) (by decide) gN pN (by omega) hs (by omega);exact⟨_,x,h⟩
 .obtain⟨x,y,h⟩:=vI (rn (by decide) s t) (by decide) gO pO (by omega) hs ht (by omega);exact⟨_,x,y,h⟩
structure EC (a b L:List Cm.Node):Prop where
 all_:∀(i:Nat) N v,v.may=true->L[i]? =some N->N.at_=[b9,xM]->(valid L i v=[]↔valid a 0 v=[]/\valid b 0 v=[])
 any_:∀(i:Nat) N v,v.may=true->L[i]? =some N->N.at_=[b9,xN]->(valid L i v=[]↔valid a 0 v=[]\/valid b 0 v=[])
 one_:∀(i:Nat) N v,v.may=true->L[i]? =some N->N.at_=[b9,xP]->(valid L i v=[]↔¬(valid a 0 v=[]↔valid b 0 v=[]))
 not_:∀(i:Nat) N v,v.may=true->L[i]? =some N->N.at_=[b9,eM]->(valid L i v=[]↔¬valid a 0 v=[])
 items_:∀(i:Nat) N u,(arr u).may=true->L[i]? =some N->N.at_=[b9,aR]->(valid L i (arr u)=[]↔∀w∈u,valid a 0 w=[])
theorem nF{L:List Cm.Node}(hn:(L.map (·.at_)).Nodup){i q:Nat}{N M:Cm.Node}(hi:L[i]? =some N)(hq:L[q]? =some M)(h:N.at_=M.at_):i=q:=by
 obtain⟨h1,rfl⟩:=Jm.1 hi;obtain⟨h2,rfl⟩:=Jm.1 hq;refine(List.getElem_inj (h₀:=by rw[JR];exact h1) (h₁:=by rw[JR];exact h2) hn).1 ?_;rw[Lj,Lj];exact h
theorem oF{v:Vl}{a a2:List Cm.Node}(hv:v.may=true)(hs:v.size<=1000000)(h:compile v=.ok a)(hn:oN a)(hl:link a=.ok a2):a2=a/\Ends a:=by
 obtain⟨h1,h2⟩:=D6 hn hl;exact⟨h1,BF (tX hv hs h) h2⟩
theorem I1{s t:Vl}{a b L:List Cm.Node}(hs:compile s=.ok a)(ht:compile t=.ok b)(h:compile (both s t)=.ok L)(ea:Ends a)(eb:Ends b)(eL:Ends L)(ha:0<a.length)(hb:0<b.length)(hn:(L.map (·.at_)).Nodup)(hl:L.length<=200):EC a b L:=by
 have h5:=cJ hs ht h hl;have sa:∀{x:Nat} {v:Vl},v.may=true->(∃Q,Seg L x Q a)->(valid L x v=[]↔valid a 0 v=[]):=λ{x v} hv ⟨Q,hQ⟩=>by
  have:=uF eL ea hQ hv ha;rwa[JI] at this
 have sb:∀{x:Nat} {v:Vl},v.may=true->(∃Q,Seg L x Q b)->(valid L x v=[]↔valid b 0 v=[]):=λ{x v} hv ⟨Q,hQ⟩=>by
  have:=uF eL eb hQ hv hb;rwa[JI] at this
 refine⟨λi N v hv hi hat=>?_,λi N v hv hi hat=>?_,λi N v hv hi hat=>?_,λi N v hv hi hat=>?_,λi N u hv hi hat=>?_⟩
 .obtain⟨q,x,y,hq,hx,hy⟩:=h5.all_;obtain rfl:=nF hn hi hq hat;rw[Fm eL hv hq,sa hv hx,sb hv hy]
 .obtain⟨q,x,y,hq,hx,hy⟩:=h5.any_;obtain rfl:=nF hn hi hq hat;rw[Fo eL hv hq,sa hv hx,sb hv hy]
 .obtain⟨q,x,y,hq,hx,hy⟩:=h5.one_;obtain rfl:=nF hn hi hq hat;rw[xE eL hv hq,sa hv hx,sb hv hy]
 .obtain⟨q,x,hq,hx⟩:=h5.not_;obtain rfl:=nF hn hi hq hat;rw[Fp eL hv hq,sa hv hx]
 .obtain⟨q,x,hq,hx⟩:=h5.items_;obtain rfl:=nF hn hi hq hat;rw[zP eL hv rfl hq];have hm:∀w∈u,w.may=true:=by
   have h6:=hv;unfold arr at h6;simp only[Vl.may,JH] at h6;exact(ba u).1 (by simp_all)
  exact⟨λk w hw=>(sa (hm w hw) hx).1 (k w hw),λk w hw=>(sa (hm w hw) hx).2 (k w hw)⟩
theorem FQ{v:Vl}{a:List Cm.Node}(h:compile v=.ok a){Q:Vl->Prop}(hQ:Q v)(hm:∀k b n s l m,Q (.mk k b n s l m)->∀p∈m,¬p.1=eD/\Q p.2)(hk:∀nm v,Q v->∀p∈Sh.kids nm v,Q p.2):oN a:=by
 have hnd:∀(f off:Nat) (P:Names) (u:Vl) (a:List Cm.Node),node f off P u=.ok a->Q u->oN a:=by
  intro f
  induction f with
  |zero=>intro off P u a h;cases h
  |succ f ih=>
   intro off P u a h hu;obtain⟨k,b,n,s,l,m⟩:=u;obtain⟨_,keys,r,h1,rfl⟩:=dd h;have hkids:∀{single:Bool} {under:Names} {l:List Mem} {off:Nat} {ks:List (Jd×Nat)} {a:List Cm.Node},ar (node f) single under off l=.ok (ks,a)->(∀p∈l,Q p.2)->oN a:=by
    intro single under l
    induction l with
    |nil=>intro off ks a e _;rw[ar] at e;injection e with e;injection e with e1 e2;subst e2;exactλN hN=>by cases hN
    |cons x r ihl=>
     obtain⟨key,u⟩:=x;intro off ks a e hq;obtain⟨a1,ks2,a2,e1,e2,rfl,rfl⟩:=aN e;intro N hN;rcases Jq.1 hN with k|k
     .exact ih _ _ _ _ e1 (hq _ (Mb ..)) N k
     .exact ihl e2 (λp hp=>hq p (by simp[hp])) N k
   have hmems:∀{m:List Mem} {off:Nat} {keys:List Cm.Key} {a:List Cm.Node},av (node f) P off m=.ok (keys,a)->(∀p∈m,¬p.1=eD/\Q p.2)->(∀K∈keys,¬K.name=eD)/\oN a:=by
    intro m
    induction m with
    |nil=>intro off keys a e _;rw[av] at e;injection e with e;injection e with e1 e2;subst e1 e2;exact⟨λK hK=>(by cases hK),λN hN=>(by cases hN)⟩
    |cons x r ihm=>
     obtain⟨nm,w⟩:=x;intro off keys a e hq;obtain⟨_,ks,a1,keys2,a2,e1,e2,rfl,rfl⟩:=bG e;have hx:=hq (nm,w) (Mb ..);obtain⟨i1,i2⟩:=ihm e2 (λp hp=>hq p (by simp[hp]));refine⟨λK hK=>?_,λN hN=>?_⟩
     .rcases JB.1 hK with rfl|k
      .exact hx.1
      .exact i1 K k
     .rcases Jq.1 hN with k|k
      .exact hkids e1 (hk nm w hx.2) N k
      .exact i2 N k
   obtain⟨q1,q2⟩:=hmems h1 (hm _ _ _ _ _ _ hu);intro N hN;rcases JB.1 hN with rfl|k
   .exact q1
   .exact q2 N k
 unfold compile at h;split at h
 .exact hnd _ _ _ _ _ h hQ
 .cases h
end Vd
namespace Ps
open Js
mutual
def nk:Vl->Prop
 |.mk _ _ _ _ l m=>nkL l/\nkM m
def nkL:List Vl->Prop
 |[]=>True
 |v::l=>nk v/\nkL l
def nkM:List Mem->Prop
 |[]=>True
 |p::m=>nkP p/\nkM m
def nkP:Mem->Prop
 |(k,v)=>¬k=Cm.eD/\nk v
end
theorem BZ(l:List Vl):nkL l↔∀v∈l,nk v:=by
 induction l with
 |nil=>simp[nkL]
 |cons v l ih=>simp[nkL,ih]
theorem vD(m:List Mem):nkM m↔∀p∈m,¬p.1=Cm.eD/\nk p.2:=by
 induction m with
 |nil=>simp[nkM]
 |cons p m ih=>obtain⟨k,v⟩:=p;simp[nkM,nkP,ih]
def Clean(t:Jd):Prop:=∀k,k+4<=t.length->t[k]? ≠some 92/\¬Cm.eD<+:t.drop k
theorem Clean.rest{u t:Jd}(h:Clean t)(hr:Rest u t):Clean u:=by
 obtain⟨n,hn,rfl⟩:=hr;intro k hk;rw[JJ] at hk;have:=h (n+k) (by omega);rw[Kf,LR];exact this
theorem iz:∀(f:Nat) (l out:Jd) (i:Nat) {o:Jd} {p:Nat},St.run f l out i=.ok o p->i+1<=p
 |0,l,out,i,o,p,h=>by cases h
 |f+1,[],out,i,o,p,h=>by cases h
 |f+1,c::l,out,i,o,p,h=>by
  by_cases hc:c=34
  .subst hc;rw[St.dC] at h;injection h with _ h2;omega
  .cases hq:St.chr (c::l) with
   |bad k e=>rw[St.cV f out i hc hq] at h;cases h
   |ok r n=>
    rw[St.bX f out i hc hq] at h;have:=iz f _ _ _ h;omega
theorem uo:∀(f:Nat) (l out:Jd) (i:Nat) {o:Jd} {p:Nat},St.run f l out i=.ok o p->(∀k,i+k+1<p->l[k]? ≠some 92)->o=out++l.take (p-i-1)
 |0,l,out,i,o,p,h,_=>by cases h
 |f+1,[],out,i,o,p,h,_=>by cases h
 |f+1,c::l,out,i,o,p,h,hn=>by
  by_cases hc:c=34
  .subst hc;rw[St.dC] at h;injection h with h1 h2;subst h1 h2;rw[show i+1-i-1=0 by omega,List.take_zero,JK]
  .cases hq:St.chr (c::l) with
   |bad k e=>rw[St.cV f out i hc hq] at h;cases h
   |ok r n=>
    rw[St.bX f out i hc hq] at h;have hp:=iz f _ _ _ h;have h1:=(St.ma hq).1;have h92:¬c=92:=λe=>hn 0 (by omega) (by rw[e];rfl);have hen:Lib.encodeRune (r:Int)=(c::l).take n:=by
     rw[St.eV] at hq;split at hq
     .cases hq
     split at hq
     .cases hq
     .rename_i hu;injection hq with e1 e2;subst e1 e2;exact St.kN _ hu
    have:=uo f _ _ _ h (λk hk=>by
     rw[Kf];exact hn (n+k) (by omega))
    rw[this,hen,Ko,<-List.take_add,show n+(p-(i+n)-1)=p-i-1 by omega]
theorem yq{t o u:Jd}(h:bn t=.ok o u)(hc:Clean t)(hu:3<=u.length):¬o=Cm.eD:=by
 cases t with
 |nil=>cases h
 |cons c w=>
  unfold bn at h;simp only at h;split at h
  .cases hr:St.run (w.length+1) w [] 1 with
   |bad k p=>rw[hr] at h;cases h
   |ok o2 p=>
    rw[hr] at h;injection h with h1 h2;subst h1 h2;rw[JJ,Jl] at hu;have hpl:=uo _ _ _ _ hr (λk hk=>by
     have:=(hc (k+1) (by rw[Jl];omega)).1;rwa[Kr] at this)
    rw[JW] at hpl;intro e;have hlen:4<=p-1-1:=by
     have:=Kk List.length (hpl.symm.trans e);rw[JL] at this;simp only[Cm.eD,Jl,Jw] at this;omega
    refine(hc 1 (by rw[Jl];omega)).2 ?_;rw[MM,MV,<-e,hpl];exact List.take_prefix _ _
  .cases h
def Kp(t:Jd)(r:R Vl):Prop:=∀v u,r=.ok v u->Rest u t/\u.length<t.length/\nk v
theorem Kp.bad(t:Jd)(c l:Nat):Kp t (.bad c l):=λ_ _ h=>by cases h
theorem Kp.ok{t:Jd}{v:Vl}{u:Jd}(h:Rest u t)(k:u.length<t.length)(hn:nk v):Kp t (.ok v u):=λ_ _ e=>by cases e;exact⟨h,k,hn⟩
theorem Kp.bM{t:Jd}{r:R Vl}(h:Kp t r):Kp t r.bM:=by
 cases r with
 |ok v u=>obtain⟨h1,h2,h3⟩:=h _ _ rfl;have hs:=aC u;exact .ok ((Rest.skip u).trans h1) (by omega) h3
 |bad c l=>exact .bad _ _ _
theorem Kp.from{t s:Jd}{r:R Vl}(h:Kp t r)(k:Rest t s):Kp s r:=λv u e=>by
 obtain⟨h1,h2,h3⟩:=h v u e;have:=k.len;exact⟨h1.trans k,by omega,h3⟩
theorem DS(c:UInt8)(u:Jd):Kp (c::u) (single c u):=by
 intro v t h;have flat:∀k b n s,nk (.mk k b n s [] []):=λk b n s=>⟨trivial,trivial⟩;have litk:∀{w:Jd} {x:Unit},w≠[]->lit w (c::u)=.ok x t->Rest t (c::u)/\t.length<(c::u).length:=λ{w x} hw hq=>by
  have h3:=jj hq;have h4:=L5.2 hw;refine⟨⟨w.length,by rw[h3,Jk];omega,by rw[h3,MU]⟩,by rw[h3,Jk];omega⟩
 unfold single at h;split at h
 .cases hq:bn (c::u) with
  |bad k l=>rw[hq] at h;cases h
  |ok o t'=>
   rw[hq] at h;injection h with h1 h2;subst h1 h2;obtain⟨h3,_,h4⟩:=fR hq;exact⟨⟨_,by omega,h4⟩,h3,flat _ _ _ _⟩
 split at h
 .cases hq:lit [110,117,108,108] (c::u) with
  |bad k l=>rw[hq] at h;cases h
  |ok o t'=>
   rw[hq] at h;injection h with h1 h2;subst h1 h2;obtain⟨h3,h4⟩:=litk (by simp) hq;exact⟨h3,h4,flat _ _ _ _⟩
 split at h
 .cases hq:lit [116,114,117,101] (c::u) with
  |bad k l=>rw[hq] at h;cases h
  |ok o t'=>
   rw[hq] at h;injection h with h1 h2;subst h1 h2;obtain⟨h3,h4⟩:=litk (by simp) hq;exact⟨h3,h4,flat _ _ _ _⟩
 split at h
 .cases hq:lit [102,97,108,115,101] (c::u) with
  |bad k l=>rw[hq] at h;cases h
  |ok o t'=>
   rw[hq] at h;injection h with h1 h2;subst h1 h2;obtain⟨h3,h4⟩:=litk (by simp) hq;exact⟨h3,h4,flat _ _ _ _⟩
 split at h
 .cases hq:number (c::u) with
  |bad k l=>rw[hq] at h;cases h
  |ok o t'=>
   rw[hq] at h;injection h with h1 h2;subst h1 h2;obtain⟨_,h3,h4,_⟩:=lx hq;exact⟨h3,h4,flat _ _ _ _⟩
 .cases h
theorem Rest.tail(t:Jd):Rest t.tail t:=by
 cases t with
 |nil=>exact Rest.refl _
 |cons c u=>exact Rest.cons c u
theorem uC{t:Jd}{c:UInt8}(h:t.head?=some c):t.tail.length<t.length:=by
 cases t with
 |nil=>cases h
 |cons d u=>simp
theorem Iy(f:Nat):(∀d t,Clean t->Kp t (value f d t))/\(∀d u,Clean u->Kp u (arr f d u))/\(∀d t acc,Clean t->(∀x∈acc,nk x)->Kp t (elems f d t acc))/\
  (∀d u,Clean u->Kp u (obj f d u))/\(∀d t acc,Clean t->(∀p∈acc,¬p.1=Cm.eD/\nk p.2)->Kp t (ee f d t acc)):=by
 have hA:∀l:List Vl,(∀x∈l,nk x)->nk (mkA l):=λl h=>⟨(BZ l).2 h,trivial⟩;have hO:∀m:List Mem,(∀p∈m,¬p.1=Cm.eD/\nk p.2)->nk (mkO m):=λm h=>⟨trivial,(vD m).2 h⟩
 induction f with
 |zero=>
  refine⟨λd t _=>?_,λd t _=>?_,λd t acc _ _=>?_,λd t _=>?_,λd t acc _ _=>?_⟩
  .unfold value;exact .bad _ _ _
  .unfold arr;exact .bad _ _ _
  .unfold elems;exact .bad _ _ _
  .unfold obj;exact .bad _ _ _
  .unfold ee;exact .bad _ _ _
 |succ f ih=>
  obtain⟨iv,ia,ie,io,im⟩:=ih;refine⟨?_,?_,?_,?_,?_⟩
  .intro d t hd;unfold value;refine Kp.bM ?_;cases hq:skip t with
   |nil=>exact .bad _ _ _
   |cons c u=>
    have hr:Rest (c::u) t:=hq▸Rest.skip t;have hr2:=(Rest.cons c u).trans hr;simp only;split
    .exact(io d u (hd.rest hr2)).from hr2
    split
    .exact(ia d u (hd.rest hr2)).from hr2
    .exact(DS c u).from hr
  .intro d u hd;unfold arr;split
   .exact .bad _ _ _
   split
   .rename_i hh;have h1:=uC hh;have h2:=aC u;exact .ok ((Rest.tail _).trans (Rest.skip u)) (by omega) (hA [] (λ_ h=>by cases h))
   .exact(ie (d+1) (skip u) [] (hd.rest (Rest.skip u)) (λ_ h=>by cases h)).from (Rest.skip u)
  .intro d t acc hd hacc;unfold elems;have hv:=iv d t hd;cases h:value f d t with
   |bad k l=>exact .bad _ _ _
   |ok v u=>
    obtain⟨hr,hl,hg⟩:=hv _ _ h;have hacc':∀x∈acc++[v],nk x:=by
     intro x hx;rcases Jq.1 hx with hx|hx
     .exact hacc x hx
     .rw[Jt.1 hx];exact hg
    cases u with
    |nil=>exact .bad _ _ _
    |cons c u=>
     have hr2:=(Rest.cons c u).trans hr;simp only[Jl] at hl;simp only;split
     .exact(ie d u _ (hd.rest hr2) hacc').from hr2
     split
     .exact .ok hr2 (by omega) (hA _ hacc')
     .exact .bad _ _ _
  .intro d u hd;unfold obj;split
   .exact .bad _ _ _
   split
   .rename_i hh;have h1:=uC hh;have h2:=aC u;exact .ok ((Rest.tail _).trans (Rest.skip u)) (by omega) (hO [] (λ_ h=>by cases h))
   .exact(im (d+1) (skip u) [] (hd.rest (Rest.skip u)) (λ_ h=>by cases h)).from (Rest.skip u)
  .intro d t acc hd hacc;unfold ee;cases hq:bn (skip t) with
   |bad k l=>exact .bad _ _ _
   |ok key t2=>
    obtain⟨hq1,_,hq2⟩:=fR hq;have hrk:Rest t2 t:=Rest.trans ⟨_,by omega,hq2⟩ (Rest.skip t);have hs2:=aC t2;simp only;split
    .exact .bad _ _ _
    .cases h3:skip t2 with
     |nil=>exact .bad _ _ _
     |cons c t4=>
      have hr4:Rest t4 t:=(Rest.cons c t4).trans ((h3▸Rest.skip t2:Rest (c::t4) t2).trans hrk);rw[h3] at hs2;simp only[Jl] at hs2;simp only;split
      .have hv:=iv d t4 (hd.rest hr4);cases h:value f d t4 with
       |bad k l=>exact .bad _ _ _
       |ok v u=>
        obtain⟨hr,hl,hg⟩:=hv _ _ h;cases u with
        |nil=>exact .bad _ _ _
        |cons c u=>
         have hr2:=((Rest.cons c u).trans hr).trans hr4;simp only[Jl] at hl;have hacc':∀p∈ins acc key v,¬p.1=Cm.eD/\nk p.2:=by
          intro x hx;rcases vB hx with hx|rfl
          .exact hacc x hx
          .exact⟨yq hq (hd.rest (Rest.skip t)) (by omega),hg⟩
         have hsk:=aC t;simp only;split
         .exact(im d u _ (hd.rest hr2) hacc').from hr2
         split
         .exact .ok hr2 (by omega) (hO _ hacc')
         .exact .bad _ _ _
      .exact .bad _ _ _
theorem pz{s:Jd}{v:Vl}{u:Jd}(hc:Clean s)(h:parse s=.ok v u):nk v:=by
 unfold parse at h;split at h
 .cases h
 .have:=(Iy (3*s.length+1)).1 0 s hc;cases hv:value (3*s.length+1) 0 s with
  |bad k l=>rw[hv] at h;cases h
  |ok v' u'=>
   rw[hv] at h;have h2:=(this _ _ hv).2.2;cases u' with
   |nil=>injection h with h1;rw[<-h1];exact h2
   |cons c u=>cases h
def dK(v:Vl)(s:Jd):Prop:=∀(f d:Nat) (x:Jd),3*s.length+1<=f->d<=32->Stop x->skip x=x->∀v' u,value f d (s++x)=.ok v' u->v'=v/\u=x
theorem xc(f:Nat)(s:Jd):∀d,d<=32->Dp (value f 0 s) (value f d s)
 |0,_=>.inl rfl
 |d+1,h=>by
  rcases xc f s d (by omega) with h1|⟨l,h1⟩
  .rcases(ET f).1 d s (by omega) with h2|h2
   .exact .inl (h2.trans h1)
   .exact .inr h2
  .rcases(ET f).1 d s (by omega) with h2|h2
   .exact .inr ⟨l,h2.trans h1⟩
   .exact .inr h2
theorem dK.of{s:Jd}{v:Vl}{u:Jd}(h:parse s=.ok v u):dK v s:=λf d x hf hd hx hk v' u' hv=>by
 have h1:=(l6 h f hf).1;have he:=(GP hx f).1 d s;rcases xc f s d hd with h2|⟨l,h2⟩
 .rw[h1] at h2;have:=he.1 _ _ h2;rw[this,Jo rfl,hk] at hv;injection hv with e1 e2;exact⟨e1.symm,e2.symm⟩
 .rw[he.2 _ h2] at hv;cases hv
theorem yW{r:R Vl}{v:Vl}{u:Jd}(h:r.bM=.ok v u):∃u0,r=.ok v u0/\u=skip u0:=by
 cases r with
 |bad c l=>cases h
 |ok v0 u0=>
  injection h with e1 e2;exact⟨u0,by rw[e1],e2.symm⟩
theorem nP{c:UInt8}{x:Jd}(h:Nm.dig c=false/\c≠46/\c≠101/\c≠69):Stop (c::x):=by
 intro d hd;cases hd;exact h
theorem dK.pair{a b:Vl}{s t:Jd}(hs:dK a s)(ht:dK b t)(hne:∀x,skip (s++x)≠[]/\(skip (s++x)).head?≠some 93):dK (mkA [a,b]) (91::(s++44::(t++[93]))):=λf d x hf hd hx hk v' u' hv=>by
 simp only[Jl,Jk,Jw] at hf;obtain⟨g,rfl⟩:∃g,f=g+4:=⟨f-4,by omega⟩;rw[show(91::(s++44::(t++[93])))++x=91::(s++44::(t++93::x)) by simp] at hv;unfold value at hv;rw[show skip (91::(s++44::(t++93::x)))=91::(s++44::(t++93::x)) from rfl] at hv;simp only at hv;rw[Jj (by decide),Jo trivial] at hv;obtain⟨u0,h1,rfl⟩:=yW hv;unfold arr at h1;split at h1
 .cases h1
 rw[Jj (hne _).2] at h1;rw[elems,Bp] at h1;cases h2:value (g+1) (d+1) (s++44::(t++93::x)) with
 |bad c l=>rw[h2] at h1;cases h1
 |ok v1 u1=>
  obtain⟨rfl,rfl⟩:=hs _ _ (44::(t++93::x)) (by omega) (by omega) (nP (by decide)) rfl _ _ h2;rw[h2] at h1;simp only[KJ] at h1;rw[elems] at h1;cases h3:value g (d+1) (t++93::x) with
  |bad c l=>rw[h3] at h1;cases h1
  |ok v2 u2=>
   obtain⟨rfl,rfl⟩:=ht _ _ (93::x) (by omega) (by omega) (nP (by decide)) rfl _ _ h3;rw[h3] at h1;simp only at h1;rw[Jj (by decide),Jo trivial] at h1;injection h1 with e1 e2;subst e1 e2;exact⟨rfl,hk⟩
structure Ent where
 k:Jd
 s:Jd
 v:Vl
def mt:List Ent->Jd
 |[]=>[125]
 |[e]=>34::(e.k++34::58::(e.s++[125]))
 |e::r=>34::(e.k++34::58::(e.s++44::mt r))
def put(acc:List Mem):List Ent->List Mem
 |[]=>acc
 |e::r=>put (ins acc e.k e.v) r
def Pn(k:Jd):Prop:=∀r,bn (34::(k++34::r))=.ok k r
theorem Pn.of{k:Jd}(h:bn (34::(k++[34]))=.ok k []):Pn k:=λr=>by
 have:=oC r h;simpa using this
theorem BW:∀(L:List Ent),L≠[]->(∀e∈L,Pn e.k/\dK e.v e.s)->∀(f d:Nat) (acc:List Mem) (x:Jd),3*(mt L).length<=f->d<=32->∀v' u,ee f d (mt L++x) acc=.ok v' u->v'=mkO (put acc L)/\u=x
 |[],h,_=>absurd rfl h
 |[e],_,hq=>λf d acc x hf hd v' u h=>by
  obtain⟨hp,hr⟩:=hq e (Jt.2 rfl);simp only[mt,Jl,Jk,Jw] at hf;obtain⟨g,rfl⟩:∃g,f=g+1:=⟨f-1,by omega⟩;rw[show mt [e]++x=34::(e.k++34::(58::(e.s++125::x))) by simp[mt]] at h;rw[ee,show skip (34::(e.k++34::(58::(e.s++125::x))))=34::(e.k++34::(58::(e.s++125::x))) from rfl,hp] at h;simp only at h;split at h
  .cases h
  rw[show skip (58::(e.s++125::x))=58::(e.s++125::x) from rfl] at h;simp only[KJ] at h;cases h2:value g d (e.s++125::x) with
  |bad c l=>rw[h2] at h;cases h
  |ok v1 u1=>
   obtain⟨rfl,rfl⟩:=hr _ _ (125::x) (by omega) hd (nP (by decide)) rfl _ _ h2;rw[h2] at h;simp only at h;rw[Jj (by decide),Jo trivial] at h;injection h with e1 e2;exact⟨e1.symm,e2.symm⟩
 |e::e2::r,_,hq=>λf d acc x hf hd v' u h=>by
  obtain⟨hp,hr⟩:=hq e (Mb ..);have hl:(mt (e::e2::r)).length=e.k.length+e.s.length+(mt (e2::r)).length+4:=by
   simp only[mt,Jl,Jk];omega
  rw[hl] at hf;obtain⟨g,rfl⟩:∃g,f=g+1:=⟨f-1,by omega⟩;rw[show mt (e::e2::r)++x=34::(e.k++34::(58::(e.s++44::(mt (e2::r)++x)))) by simp[mt]] at h;rw[ee,show skip (34::(e.k++34::(58::(e.s++44::(mt (e2::r)++x)))))=34::(e.k++34::(58::(e.s++44::(mt (e2::r)++x)))) from rfl,hp] at h;simp only at h;split at h
  .cases h
  rw[show skip (58::(e.s++44::(mt (e2::r)++x)))=58::(e.s++44::(mt (e2::r)++x)) from rfl] at h;simp only[KJ] at h;cases h2:value g d (e.s++44::(mt (e2::r)++x)) with
  |bad c l=>rw[h2] at h;cases h
  |ok v1 u1=>
   obtain⟨rfl,rfl⟩:=hr _ _ (44::(mt (e2::r)++x)) (by omega) hd (nP (by decide)) rfl _ _ h2;rw[h2] at h;simp only[KJ] at h;exact BW (e2::r) (by simp) (λq hq2=>hq q (Lv _ hq2)) g d _ x (by omega) hd _ _ h
theorem FJ{L:List Ent}(h:L≠[])(x:Jd):∃r,mt L++x=34::r:=by
 match L,h with
 |[e],_=>exact⟨_,rfl⟩
 |e::_::_,_=>exact⟨_,rfl⟩
theorem dK.obj{L:List Ent}(hne:L≠[])(hq:∀e∈L,Pn e.k/\dK e.v e.s):dK (mkO (put [] L)) (123::mt L):=λf d x hf hd hx hk v' u' hv=>by
 simp only[Jl] at hf;obtain⟨g,rfl⟩:∃g,f=g+2:=⟨f-2,by omega⟩;obtain⟨r,hr⟩:=FJ hne x;have hsk:skip (mt L++x)=mt L++x:=by rw[hr];rfl
 rw[JS] at hv;unfold value at hv;rw[show skip (123::(mt L++x))=123::(mt L++x) from rfl] at hv;simp only[KJ] at hv;obtain⟨u0,h1,rfl⟩:=yW hv;unfold Ps.obj at h1;split at h1
 .cases h1
 rw[hsk,Jj (by rw[hr];simp)] at h1;obtain⟨rfl,rfl⟩:=BW L hne hq g (d+1) [] x (by omega) (by omega) _ _ h1;exact⟨rfl,hk⟩
theorem dK.whole{s:Jd}{v:Vl}(h:dK v s){v':Vl}{u:Jd}(hp:parse s=.ok v' u):v'=v:=by
 have h1:=(l6 hp _ (Jh _)).1;have:=h _ 0 [] (Jh _) (by omega) (λc hc=>by cases hc) rfl v' [];rw[JK] at this;exact(this h1).1
end Ps
namespace Vd
open Js Ps
def tI(s t:Jd):Jd:=
 123::mt [⟨BN,123::mt [⟨[97],s,Ps.mkN⟩,⟨[98],t,Ps.mkN⟩],Ps.mkN⟩,
  ⟨b9,123::mt [⟨xM,123::mt [⟨eK,91::(s++44::(t++[93])),Ps.mkN⟩],Ps.mkN⟩,⟨xN,123::mt [⟨ch,91::(s++44::(t++[93])),Ps.mkN⟩],Ps.mkN⟩,⟨aR,123::mt [⟨aR,s,Ps.mkN⟩],Ps.mkN⟩,⟨eM,123::mt [⟨eM,s,Ps.mkN⟩],Ps.mkN⟩,⟨xP,123::mt [⟨cm,91::(s++44::(t++[93])),Ps.mkN⟩],Ps.mkN⟩],Ps.mkN⟩]
theorem qO{s:Jd}{v:Vl}{u:Jd}(h:parse s=.ok v u)(x:Jd):skip (s++x)≠[]/\(skip (s++x)).head?≠some 93:=by
 obtain⟨n1,n2,_⟩:=zg (l6 h _ (Jh _)).1;rw[iA,Jj n1];cases hq:skip s with
 |nil=>exact absurd hq n1
 |cons c r=>rw[hq] at n2;exact⟨by simp,by simpa using n2⟩
theorem Cz{s t:Jd}{a b V:Vl}{u u' u2:Jd}(hs:parse s=.ok a u)(ht:parse t=.ok b u')(h:parse (tI s t)=.ok V u2):V=both a b:=by
 have ra:=dK.of hs;have rb:=dK.of ht;have rp:=dK.pair ra rb (qO hs);have one:∀{k:Jd} {q:Jd} {w:Vl},Pn k->dK w q->dK (mkO [(k,w)]) (123::mt [⟨k,q,Ps.mkN⟩]):=λ{k q w} hk hr=>by
  have:=dK.obj (L:=[⟨k,q,w⟩]) (by simp) (λe he=>by rw[Jt.1 he];exact⟨hk,hr⟩);exact this
 have r1:dK (mkO [([97],a),([98],b)]) (123::mt [⟨[97],s,Ps.mkN⟩,⟨[98],t,Ps.mkN⟩]):=by
  have:=dK.obj (L:=[⟨[97],s,a⟩,⟨[98],t,b⟩]) (by simp) (λe he=>by
   simp only[JB,Ky,Lk] at he;rcases he with rfl|rfl
   .exact⟨Pn.of rfl,ra⟩
   .exact⟨Pn.of rfl,rb⟩)
  exact this
 have r2:=one (Pn.of (k:=eK) rfl) rp;have r3:=one (Pn.of (k:=ch) rfl) rp;have r4:=one (Pn.of (k:=aR) rfl) ra;have r5:=one (Pn.of (k:=eM) rfl) ra;have r6:=one (Pn.of (k:=cm) rfl) rp;have r7:dK (mkO [(xM,mkO [(eK,mkA [a,b])]),(xN,mkO [(ch,mkA [a,b])]),(aR,mkO [(aR,a)]),(eM,mkO [(eM,a)]),(xP,mkO [(cm,mkA [a,b])])]) _:=
  dK.obj (L:=[⟨xM,_,_⟩,⟨xN,_,_⟩,⟨aR,_,_⟩,⟨eM,_,_⟩,⟨xP,_,_⟩]) (by simp) (λe he=>by
   simp only[JB,Ky,Lk] at he;rcases he with rfl|rfl|rfl|rfl|rfl
   .exact⟨Pn.of rfl,r2⟩
   .exact⟨Pn.of rfl,r3⟩
   .exact⟨Pn.of rfl,r4⟩
   .exact⟨Pn.of rfl,r5⟩
   .exact⟨Pn.of rfl,r6⟩)
 have r8:dK (both a b) (tI s t):=
  dK.obj (L:=[⟨BN,_,_⟩,⟨b9,_,_⟩]) (by simp) (λe he=>by
   simp only[JB,Ky,Lk] at he;rcases he with rfl|rfl
   .exact⟨Pn.of rfl,r1⟩
   .exact⟨Pn.of rfl,r7⟩)
 exact r8.whole h
end Vd
namespace Vd
open Js Ps Pt Cm Fl
theorem ER(s t:Jd):tI s t=[123,34,36,100,101,102,115,34,58,123,34,97,34,58]++s++[44,34,98,34,58]++t++[125,44,34,112,114,111,112,101,114,116,105,101,115,34,58,123,34,97,108,108,34,58,123,34,97,108,108,79,102,34,58,91]++s++[44]++t++[93,125,44,34,97,110,121,34,58,123,34,97,110,121,79,102,34,58,91]++s++[44]++t++[93,125,44,34,105,116,101,109,115,34,58,123,34,105,116,101,109,115,34,58]++s++[125,44,34,110,111,116,34,58,123,34,110,111,116,34,58]++s++[125,44,34,111,110,101,34,58,123,34,111,110,101,79,102,34,58,91]++s++[44]++t++[93,125,125,125]:=by
 simp[tI,Ps.mt,BN,b9,xM,eK,xN,ch,aR,eM,xP,cm]
theorem Hf{a b:Vl}(ha:nk a)(hb:nk b):nk (both a b):=by
 have e:∀{k:Jd},¬k=eD->∀{w:Vl},nk w->nkP (k,w):=λh _ k=>⟨h,k⟩;have o:∀{m:List Mem},nkM m->nk (obj m):=λh=>⟨trivial,h⟩;have l2:nk (arr [a,b]):=⟨⟨ha,hb,trivial⟩,trivial⟩;exact o ⟨e (by decide) (o ⟨e (by decide) ha,e (by decide) hb,trivial⟩),e (by decide) (o ⟨e (by decide) (o ⟨e (by decide) l2,trivial⟩),e (by decide) (o ⟨e (by decide) l2,trivial⟩),e (by decide) (o ⟨e (by decide) ha,trivial⟩),e (by decide) (o ⟨e (by decide) ha,trivial⟩),e (by decide) (o ⟨e (by decide) l2,trivial⟩),trivial⟩),trivial⟩
theorem rT{v:Vl}{a:List Cm.Node}(h:nk v)(hk:Cm.compile v=.ok a):oN a:=
 FQ hk (Q:=nk) h (λk b n s l m hq p hp=>(vD m).1 hq.2 p hp) (λnm w hq p hp=>by
  obtain⟨k,b,n,s,l,m⟩:=w;rw[Sh.cI] at hp;split at hp
  .obtain rfl:=Jt.1 hp;exact hq
  .split at hp
   .exact((vD m).1 hq.2 p hp).2
   .split at hp
    .obtain⟨i,hi⟩:=JP hp;obtain⟨u,hu,rfl⟩:=Sh.ef hi;exact(BZ l).1 hq.1 u (Jz hu)
    .cases hp)
theorem eW{v:Vl}{a:List Cm.Node}(h:compile v=.ok a):0<a.length/\a.length<=200:=by
 unfold compile at h;split at h
 .have:=u6 _ 0 [] v a (by omega) h;obtain⟨f,hf⟩:∃f,v.size=f+1:=⟨_,(Me (size_pos _)).symm⟩;rw[hf] at h;obtain⟨k,b,n,s,l,m⟩:=v;obtain⟨_,keys,r,_,rfl⟩:=dd h;exact⟨by simp,by omega⟩
 .cases h
theorem pj{nd:Nat->Names->Vl->Cm.Res (List Cm.Node)}{P:Names}:∀{m:List Mem} {off:Nat} {keys:List Key} {a:List Cm.Node},av nd P off m=.ok (keys,a)->keys.map (·.name)=m.map (·.1)
 |[],off,keys,a,h=>by
  rw[av] at h;injection h with h;injection h with e1 e2;subst e1;rfl
 |(nm,w)::r,off,keys,a,h=>by
  obtain⟨_,ks,a1,keys2,a2,_,h2,rfl,_⟩:=bG h;rw[Kh,Kh,pj h2]
theorem xA{v:Vl}{a:List Cm.Node}(hv:v.may=true)(h:compile v=.ok a):∃N,a[0]? =some N/\(N.keys.map (·.name)).Nodup:=by
 unfold compile at h;split at h
 .obtain⟨f,hf⟩:∃f,v.size=f+1:=⟨_,(Me (size_pos _)).symm⟩;rw[hf] at h;obtain⟨k,b,n,s,l,m⟩:=v;obtain⟨_,keys,r,h1,rfl⟩:=dd h;refine⟨_,rfl,?_⟩;rw[pj h1];exact iT (au hv).2.2.2.2.2.2.2.2.2.2.2
 .cases h
theorem AZ{s t:Jd}{va vb vl:Vl}{a a2 b b2 c L:List Cm.Node}(hs:NdT s va a a2)(ht:NdT t vb b b2)(h:NdT (tI s t) vl c L)(cs:Ps.Clean s)(ct:Ps.Clean t):
  EC a2 b2 L/\Ends a2/\Ends b2/\Ends L/\0<a2.length/\0<b2.length/\∃N,a2[0]? =some N/\(N.keys.map (·.name)).Nodup:=by
 obtain⟨u,hp⟩:=hs.parsed;obtain⟨u',hp'⟩:=ht.parsed;obtain⟨u2,hp2⟩:=h.parsed;have hv:vl=both va vb:=Cz hp hp' hp2;have na:=pz cs hp;have nb:=pz ct hp';obtain⟨rfl,ea⟩:=oF hs.wide.1 hs.wide.2.1 hs.comp (rT na hs.comp) hs.link;obtain⟨rfl,eb⟩:=oF ht.wide.1 ht.wide.2.1 ht.comp (rT nb ht.comp) ht.link;have nl:nk vl:=by rw[hv];exact Hf na nb
 obtain⟨rfl,el⟩:=oF h.wide.1 h.wide.2.1 h.comp (rT nl h.comp) h.link;have hst:=(fJ h.wide.1 h.wide.2.1 h.comp).2.1;have hc:=h.comp;rw[hv] at hc;exact⟨I1 hs.comp ht.comp hc ea eb el (eW hs.comp).1 (eW ht.comp).1 hst (eW hc).2,ea,eb,el,(eW hs.comp).1,(eW ht.comp).1,xA hs.wide.1 hs.comp⟩
end Vd
