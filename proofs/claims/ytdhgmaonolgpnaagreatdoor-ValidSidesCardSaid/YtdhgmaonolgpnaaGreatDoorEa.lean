import Derived.Test.YtdhgmaonolgpnaaGreatDoorDi
set_option linter.unusedSimpArgs false
set_option linter.unusedVariables false
set_option maxHeartbeats 4000000
set_option maxRecDepth 100000
namespace Go.Proofs.YtdhgmaonolgpnaaGreatDoor
namespace Cm
open Js Pt
def eD:Jd:=[36,114,101,102]
def mC:List Jd:=[eD,[97,108,108,79,102],[97,110,121,79,102],[111,110,101,79,102],[110,111,116]]
def place(nm:Jd):Bool:=mC.contains nm
def bW(K:Key):List Nat:=if place K.name=true then K.kids.map (·.2) else[]
def yc(N:Node):List Nat:=N.keys.flatMap bW
def Step(l:List Node)(a b:Nat):Prop:=∃N,l[a]? =some N/\b∈yc N
inductive cy (l:List Node):Nat->Nat->Prop where
 |one {a b:Nat}:Step l a b->cy l a b
 |more {a b c:Nat}:cy l a b->Step l b c->cy l a c
theorem cy.on{l:List Node}{a b c:Nat}(h:a=b\/cy l a b)(k:Step l b c):cy l a c:=by
 rcases h with rfl|h
 .exact .one k
 .exact .more h k
def fS(l:List Node):Prop:=∀N∈l,∀K∈N.keys,∀p∈K.kids,p.2<l.length
theorem fS.next{l:List Node}(h:fS l){a b:Nat}(k:Step l a b):b<l.length:=by
 obtain⟨N,hN,hb⟩:=k;unfold yc at hb;obtain⟨K,hK,hb⟩:=KB.1 hb;unfold bW at hb;split at hb
 .obtain⟨p,hp,rfl⟩:=JQ.1 hb;exact h N (Jz hN) K hK p hp
 .cases hb
theorem tX{v:Vl}{a:List Node}(hv:v.may=true)(hs:v.size<=1000000)(h:compile v=.ok a):fS a:=λN hN K hK p hp=>by
 obtain⟨_,_,_,_,_,hab⟩:=fJ hv hs h;obtain⟨i,hi⟩:=JP hN;have:=(hab i N hi K hK p hp).2;omega
structure ey (l:List Node) (i:Nat) (out:List Bool) (todo:List Nat):Prop where
 len:out.length=l.length
 sound:∀n,out[n]? =some true->cy l i n
 from_:∀n∈todo,n<l.length/\(n=i\/out[n]? =some true)
 closed:∀n,(n=i\/out[n]? =some true)->n∈todo\/∀m,Step l n m->out[m]? =some true
structure fT (l:List Node) (i x:Nat) (done:List Nat) (out:List Bool) (todo:List Nat):Prop where
 len:out.length=l.length
 sound:∀n,out[n]? =some true->cy l i n
 from_:∀n∈todo,n<l.length/\(n=i\/out[n]? =some true)
 closed:∀n,(n=i\/out[n]? =some true)->n∈todo\/n=x\/∀m,Step l n m->out[m]? =some true
 here:x=i\/out[x]? =some true
 met:∀m∈done,out[m]? =some true
section
variable {l:List Node} {i x:Nat} {done:List Nat} {out:List Bool} {todo:List Nat}
theorem ey.start(hi:i<l.length):ey l i (List.replicate l.length false) [i] where
 len:=by simp
 sound:=λn h=>by
  obtain⟨hn,e⟩:=Jm.1 h;rw[NM] at e;cases e
 from_:=λn hn=>by rw[Jt.1 hn];exact⟨hi,.inl rfl⟩
 closed:=λn hn=>by
  rcases hn with rfl|h
  .exact .inl (by simp)
  .obtain⟨hn,e⟩:=Jm.1 h;rw[NM] at e;cases e
theorem ey.pop(h:ey l i out (x::todo)):fT l i x [] out todo where
 len:=h.len
 sound:=h.sound
 from_:=λn hn=>h.from_ n (by simp[hn])
 closed:=λn hn=>by
  rcases h.closed n hn with k|k
  .rcases JB.1 k with k|k
   .exact .inr (.inl k)
   .exact .inl k
  .exact .inr (.inr k)
 here:=(h.from_ x (by simp)).2
 met:=λm hm=>by cases hm
theorem fT.old(h:fT l i x done out todo){m:Nat}(hm:out[m]? =some true):fT l i x (done++[m]) out todo:=
 ⟨h.len,h.sound,h.from_,h.closed,h.here,λq hq=>by
  rcases Jq.1 hq with k|k
  .exact h.met q k
  .rw[Jt.1 k];exact hm⟩
theorem fT.mark(h:fT l i x done out todo){m:Nat}(hs:Step l x m)(hm:m<l.length):fT l i x (done++[m]) (out.set m true) (todo++[m]):=by
 have hl:m<out.length:=by rw[h.len];exact hm
 have hset:∀n,out[n]? =some true->(out.set m true)[n]? =some true:=λn hn=>by
  rw[List.getElem?_set];split
  .rename_i e;subst e;simp
  .exact hn
 have hget:∀n,(out.set m true)[n]? =some true->n=m\/out[n]? =some true:=λn hn=>by
  rw[List.getElem?_set] at hn;split at hn
  .rename_i e;exact .inl e.symm
  .exact .inr hn
 have hmm:(out.set m true)[m]? =some true:=by rw[Kw hl]
 refine⟨by rw[KF];exact h.len,λn hn=>?_,λn hn=>?_,λn hn=>?_,h.here.imp id (hset x),λq hq=>?_⟩
 .rcases hget n hn with rfl|k
  .exact cy.on (h.here.imp Eq.symm (h.sound x)) hs
  .exact h.sound n k
 .rcases Jq.1 hn with k|k
  .exact⟨(h.from_ n k).1,(h.from_ n k).2.imp id (hset n)⟩
  .rw[Jt.1 k];exact⟨hm,.inr hmm⟩
 .have hn':n=m\/(n=i\/out[n]? =some true):=by
   rcases hn with k|k
   .exact .inr (.inl k)
   .exact(hget n k).imp id .inr
  rcases hn' with rfl|k
  .exact .inl (by simp)
  .rcases h.closed n k with q|q|q
   .exact .inl (by simp[q])
   .exact .inr (.inl q)
   .exact .inr (.inr λm' hs'=>hset m' (q m' hs'))
 .rcases Jq.1 hq with k|k
  .exact hset q (h.met q k)
  .rw[Jt.1 k];exact hmm
theorem fT.fin(h:fT l i x done out todo)(hd:∀m,Step l x m->m∈done):ey l i out todo where
 len:=h.len
 sound:=h.sound
 from_:=h.from_
 closed:=λn hn=>by
  rcases h.closed n hn with k|k|k
  .exact .inl k
  .subst k;exact .inr λm hs=>h.met m (hd m hs)
  .exact .inr k
theorem ey.fin(h:ey l i out [])(n:Nat):out[n]? =some true↔cy l i n:=by
 refine⟨h.sound n,λk=>?_⟩;have hc:∀n,(n=i\/out[n]? =some true)->∀m,Step l n m->out[m]? =some true:=λn hn=>(h.closed n hn).elim (λq=>by cases q) id
 induction k with
 |one s=>exact hc _ (.inl rfl) _ s
 |more _ s ih=>exact hc _ (.inr ih) _ s
theorem qK:∀(out:List Bool) (m:Nat),out[m]? =some false->(out.set m true).count false+1=out.count false
 |[],m,h=>by simp at h
 |b::r,0,h=>by
  have hb:b=false:=by simpa using h
  subst hb;simp
 |b::r,m+1,h=>by
  have:=qK r m (by simpa using h);cases b<;>simp<;>omega
end
theorem Ap{N:Node}{k:Nat}{K:Key}(h:N.keys[k]? =some K):(N.keys.take (k+1)).flatMap bW=(N.keys.take k).flatMap bW++bW K:=by
 obtain⟨hk,rfl⟩:=Jm.1 h;rw[Jr hk,M0];simp
theorem yM{l:List Node}{x m:Nat}{N:Node}(hN:l[x]? =some N):Step l x m↔m∈N.keys.flatMap bW:=by
 constructor
 .rintro⟨N',h,k⟩;rw[hN] at h;injection h with h;subst h;exact k
 .intro h;exact⟨N,hN,h⟩
def jJ(l:List Node)(s:Jd):Nat->Option Nat
 |0=>none
 |j+1=>if(l[j]?).map (λN=>decide (s=35::text N.at_))=some true then some j else jJ l s j
def dM(l:List Node)(P:Names)(K:Key):Res Key:=
 if K.name=eD then(match jJ l (Sh.strOf K.v) l.length with
  |none=>.bad 12 (P++[eD])
  |some j=>.ok {K with kids:=[([],j)]})
 else .ok K
def aw(l:List Node)(P:Names):List Key->Res (List Key)
 |[]=>.ok []
 |K::r=>match dM l P K with
  |.bad c p=>.bad c p
  |.ok K'=>match aw l P r with
   |.bad c p=>.bad c p
   |.ok r'=>.ok (K'::r')
def aq(l:List Node):List Node->Res (List Node)
 |[]=>.ok []
 |N::r=>match aw l N.at_ N.keys with
  |.bad c p=>.bad c p
  |.ok ks=>match aq l r with
   |.bad c p=>.bad c p
   |.ok r'=>.ok ({N with keys:=ks}::r')
theorem sd{l:List Node}{s:Jd}:∀{f j:Nat},jJ l s f=some j->j<f/\∃N,l[j]? =some N/\s=35::text N.at_
 |0,j,h=>by cases h
 |f+1,j,h=>by
  rw[jJ] at h;split at h
  .rename_i e;injection h with h;subst h;cases hN:l[f]? with
   |none=>rw[hN] at e;cases e
   |some N=>
    rw[hN] at e;simp only[Kg,JM,JF] at e;exact⟨by omega,N,rfl,e⟩
  .obtain⟨h1,h2⟩:=sd h;exact⟨by omega,h2⟩
theorem AM{l:List Node}{s:Jd}{f:Nat}{N:Node}(hN:l[f]? =some N):jJ l s (f+1)=if s=35::text N.at_ then some f else jJ l s f:=by
 rw[jJ,hN];simp
theorem fY(l:List Node)(P:Names)(b:List Key):∀a:List Key,aw l P (a++b)=match aw l P a with
  |.bad c p=>.bad c p
  |.ok a'=>match aw l P b with
   |.bad c p=>.bad c p
   |.ok b'=>.ok (a'++b')
 |[]=>by
  rw[JW,aw];cases aw l P b<;>rfl
 |K::r=>by
  rw[JS,aw,aw];cases dM l P K with
  |bad c p=>rfl
  |ok K'=>
   simp only;rw[fY l P b r];cases aw l P r with
   |bad c p=>rfl
   |ok r'=>
    simp only;cases aw l P b<;>rfl
theorem fB(l:List Node)(b:List Node):∀a:List Node,aq l (a++b)=match aq l a with
  |.bad c p=>.bad c p
  |.ok a'=>match aq l b with
   |.bad c p=>.bad c p
   |.ok b'=>.ok (a'++b')
 |[]=>by
  rw[JW,aq];cases aq l b<;>rfl
 |N::r=>by
  rw[JS,aq,aq];cases aw l N.at_ N.keys with
  |bad c p=>rfl
  |ok K'=>
   simp only;rw[fB l b r];cases aq l r with
   |bad c p=>rfl
   |ok r'=>
    simp only;cases aq l b<;>rfl
theorem ti{l:List Node}{P:Names}{keys ks:List Key}{k:Nat}(hk:k<keys.length)(h:aw l P (keys.take k)=.ok ks):
  (∀K',dM l P keys[k]=.ok K'->aw l P (keys.take (k+1))=.ok (ks++[K']))/\(∀c p,dM l P keys[k]=.bad c p->aw l P keys=.bad c p):=by
 constructor
 .intro K' h2;rw[Jr hk,fY,h,aw,h2];rfl
 .intro c p h2;have e:keys=keys.take k++keys[k]::keys.drop (k+1):=by rw[<-List.drop_eq_getElem_cons hk,Lb]
  rw[e,fY,h,aw,h2]
theorem rD{l ns os:List Node}{k:Nat}(hk:k<ns.length)(h:aq l (ns.take k)=.ok os):
  (∀ks,aw l ns[k].at_ ns[k].keys=.ok ks->aq l (ns.take (k+1))=.ok (os++[{ns[k] with keys:=ks}]))/\(∀c p,aw l ns[k].at_ ns[k].keys=.bad c p->aq l ns=.bad c p):=by
 constructor
 .intro ks h2;rw[Jr hk,fB,h,aq,h2];rfl
 .intro c p h2;have e:ns=ns.take k++ns[k]::ns.drop (k+1):=by rw[<-List.drop_eq_getElem_cons hk,Lb]
  rw[e,fB,h,aq,h2]
def zn(n:Nat)(K K':Key):Prop:=K'.name=K.name/\K'.v=K.v/\((K.name=eD/\∃j,j<n/\K'.kids=[([],j)])\/(¬K.name=eD/\K'.kids=K.kids))
theorem Ag{l:List Node}{P:Names}{K K':Key}(h:dM l P K=.ok K'):zn l.length K K':=by
 unfold dM at h;split at h
 .rename_i hr;split at h
  .cases h
  .rename_i j hj;injection h with h;subst h;exact⟨rfl,rfl,.inl ⟨hr,j,(sd hj).1,rfl⟩⟩
 .rename_i hr;injection h with h;subst h;exact⟨rfl,rfl,.inr ⟨hr,rfl⟩⟩
theorem iP{l:List Node}{P:Names}:∀{keys ks:List Key},aw l P keys=.ok ks->ks.length=keys.length/\∀(k:Nat) K,keys[k]? =some K->∃K',ks[k]? =some K'/\zn l.length K K'
 |[],ks,h=>by
  rw[aw] at h;injection h with h;subst h
  exact⟨rfl,λk K hk=>by simp at hk⟩
 |K::r,ks,h=>by
  rw[aw] at h;cases h1:dM l P K with
  |bad c p=>rw[h1] at h;cases h
  |ok K'=>
   rw[h1] at h;simp only at h;cases h2:aw l P r with
   |bad c p=>rw[h2] at h;cases h
   |ok r'=>
    rw[h2] at h;simp only[Res.ok.injEq] at h;subst h;obtain⟨q1,q2⟩:=iP h2;refine⟨by simp[q1],λk X hX=>?_⟩;cases k with
    |zero=>
     have:K=X:=by simpa using hX
     subst this;exact⟨K',rfl,Ag h1⟩
    |succ k=>exact q2 k X (by simpa using hX)
theorem gi{l:List Node}:∀{ns os:List Node},aq l ns=.ok os->os.length=ns.length/\∀(k:Nat) N,ns[k]? =some N->∃ks,os[k]? =some {N with keys:=ks}/\aw l N.at_ N.keys=.ok ks
 |[],os,h=>by
  rw[aq] at h;injection h with h;subst h
  exact⟨rfl,λk K hk=>by simp at hk⟩
 |N::r,os,h=>by
  rw[aq] at h;cases h1:aw l N.at_ N.keys with
  |bad c p=>rw[h1] at h;cases h
  |ok ks=>
   rw[h1] at h;simp only at h;cases h2:aq l r with
   |bad c p=>rw[h2] at h;cases h
   |ok r'=>
    rw[h2] at h;simp only[Res.ok.injEq] at h;subst h;obtain⟨q1,q2⟩:=gi h2;refine⟨by simp[q1],λk X hX=>?_⟩;cases k with
    |zero=>
     have:N=X:=by simpa using hX
     subst this;exact⟨ks,rfl,h1⟩
    |succ k=>exact q2 k X (by simpa using hX)
theorem lR{l os:List Node}(hi:fS l)(h:aq l l=.ok os):fS os/\os.length=l.length:=by
 obtain⟨h1,h2⟩:=gi h;refine⟨λN' hN' K' hK' p hp=>?_,h1⟩;obtain⟨k,hk⟩:=JP hN';have hkl:k<l.length:=by have:=(Jm.1 hk).1;omega
 obtain⟨ks,e1,e2⟩:=h2 k _ (Jg hkl);rw[hk] at e1;injection e1 with e1;subst e1;obtain⟨q1,q2⟩:=iP e2;obtain⟨j,hj⟩:=JP hK';have hj0:ks[j]? =some K':=hj;have hjl:j<l[k].keys.length:=by have:=(Jm.1 hj0).1;omega
 obtain⟨K2,e3,_,_,hkd⟩:=q2 j _ (Jg hjl);rw[hj0] at e3;injection e3 with e3;subst e3;rw[h1];rcases hkd with⟨_,j',hj',e⟩|⟨_,e⟩
 .rw[e] at hp;rw[Jt.1 hp];exact hj'
 .rw[e] at hp;exact hi _ (Jv hkl) _ (Jv hjl) p hp
open Classical in
noncomputable def eF(out:List Node):Nat->Nat->Option Nat
 |_,0=>none
 |i,f+1=>if cy out i i then some i else eF out (i+1) f
theorem oE{out:List Node}:∀{f i j:Nat},eF out i f=some j->i<=j/\j<i+f/\cy out j j/\∀q,i<=q->q<j->¬cy out q q
 |0,i,j,h=>by cases h
 |f+1,i,j,h=>by
  rw[eF] at h;split at h
  .rename_i hl;injection h with h;subst h;exact⟨Jh _,by omega,hl,λq h1 h2=>absurd h2 (by omega)⟩
  .rename_i hl;obtain⟨h1,h2,h3,h4⟩:=oE h;refine⟨by omega,by omega,h3,λq q1 q2=>?_⟩;by_cases e:q=i
   .subst e;exact hl
   .exact h4 q (by omega) q2
theorem lD{out:List Node}:∀{f i:Nat},eF out i f=none->∀q,i<=q->q<i+f->¬cy out q q
 |0,i,_,q,h1,h2=>absurd h2 (by omega)
 |f+1,i,h,q,h1,h2=>by
  rw[eF] at h;split at h
  .cases h
  .rename_i hl;by_cases e:q=i
   .subst e;exact hl
   .exact lD h q (by omega) (by omega)
theorem C9{out:List Node}{j:Nat}(hj:j<out.length)(h:cy out j j)(hf:∀q,q<j->¬cy out q q):eF out 0 out.length=some j:=by
 cases e:eF out 0 out.length with
 |none=>exact absurd h (lD e j (JE _) (by omega))
 |some i=>
  obtain⟨_,h2,h3,h4⟩:=oE e;rcases Ni i j with k|k|k
  .exact absurd h3 (hf i k)
  .rw[k]
  .exact absurd h (h4 j (JE _) k)
theorem sn{out:List Node}(hf:∀q,q<out.length->¬cy out q q):eF out 0 out.length=none:=by
 cases e:eF out 0 out.length with
 |none=>rfl
 |some i=>
  obtain⟨_,h2,h3,_⟩:=oE e;exact absurd h3 (hf i (by omega))
noncomputable def link(l:List Node):Res (List Node):=
 match aq l l with
 |.bad c p=>.bad c p
 |.ok out=>match eF out 0 out.length with
  |some i=>.bad 13 ((out[i]?).map (·.at_)).get!
  |none=>.ok out
end Cm
section
open Go.RowKit Js Pt
theorem vO(nm:Jd)(w:World):Calls Tryz.prog 85 #[.string ⟨nm.toArray⟩] w λe w'=>e=.returned (.bool (Cm.place nm))/\w'=w:=by
 by_cases h1:nm=[36,114,101,102]
 .subst h1;go_enter Tryz.func85,Tryz.ntmps85;go_wp2_with fail;go_ret;exact⟨by kernel_rfl,rfl⟩
 by_cases h2:nm=[97,108,108,79,102]
 .subst h2;go_enter Tryz.func85,Tryz.ntmps85;go_wp2_with fail;go_ret;exact⟨by kernel_rfl,rfl⟩
 by_cases h3:nm=[97,110,121,79,102]
 .subst h3;go_enter Tryz.func85,Tryz.ntmps85;go_wp2_with fail;go_ret;exact⟨by kernel_rfl,rfl⟩
 by_cases h4:nm=[111,110,101,79,102]
 .subst h4;go_enter Tryz.func85,Tryz.ntmps85;go_wp2_with fail;go_ret;exact⟨by kernel_rfl,rfl⟩
 by_cases h5:nm=[110,111,116]
 .subst h5;go_enter Tryz.func85,Tryz.ntmps85;go_wp2_with fail;go_ret;exact⟨by kernel_rfl,rfl⟩
 have HN:=Jf (show Cm.place nm=false by
  unfold Cm.place Cm.mC Cm.eD;simp[h1,h2,h3,h4,h5])
 have e1:(nm==[36,114,101,102])=false:=by simpa using h1
 have e2:(nm==[97,108,108,79,102])=false:=by simpa using h2
 have e3:(nm==[97,110,121,79,102])=false:=by simpa using h3
 have e4:(nm==[111,110,101,79,102])=false:=by simpa using h4
 have e5:(nm==[110,111,116])=false:=by simpa using h5
 clear h1 h2 h3 h4 h5;go_enter Tryz.func85,Tryz.ntmps85;go_wp2_with fail;go_ret;exact⟨by rw[HN.out];rfl,rfl⟩
theorem tW{P:Program}{t:TypeId}{z:Value}{s b:Nat}(h:(P.info? t).map (λi=>(i.zero,i.size,i.bytes))=some (some z,s,b)):∃i,P.info? t=some i/\i.zero=some z/\i.size=s/\i.bytes=b:=by
 cases hq:P.info? t with
 |none=>rw[hq] at h;cases h
 |some i=>
  rw[hq] at h;simp only[Kg,JM,Kl] at h;exact⟨i,rfl,h.1,h.2.1,h.2.2⟩
theorem CX:∃i,Tryz.prog.info? 3=some i/\i.zero=some (.int .i64 0)/\i.size=1/\i.bytes=8:=tW (by kernel_rfl)
theorem zS:∃i,Tryz.prog.info? 4=some i/\i.zero=some (.bool false)/\i.size=1/\i.bytes=1:=tW (by kernel_rfl)
def marks(out:List Bool):Array Value:=(out.map Value.bool).toArray
theorem D9(L:Nat):madeCells #[.bool false] (L*1)=marks (List.replicate L false):=by
 rw[LZ];refine Array.ext (by rw[LU];simp[marks]) (λi h1 h2=>?_);simp[madeCells,marks,Nat.mod_one]
def jw(W:World)(go:Nat)(out:List Bool):Prop:=Blk W go 4 (marks out)
theorem jw.cell{W:World}{go:Nat}{out:List Bool}(h:jw W go out){n:Nat}{b:Bool}(hn:out[n]? =some b):W.cell? ⟨go,n,none⟩=some (.bool b):=by
 have h2:Blk W go 4 (marks out):=h;rw[h2.cell];unfold marks;rw[Mw,JZ,hn];rfl
theorem jw.mark{W:World}{go:Nat}{out:List Bool}(h:jw W go out)(n:Nat):jw (W.setCell ⟨go,n,none⟩ (.bool true)) go (out.set n true):=by
 have:=Blk.ei (l:=out.map Value.bool) h n (.bool true);rw[<-List.map_set] at this;exact this
def fZ(todo:List Nat):List Value:=todo.map λq:Nat=>Value.int .i64 (q:Int)
structure dG (W:World) (B g off cap:Nat) (cs:List Value) (todo:List Nat):Prop where
 blk:Blk W g 3 cs.toArray
 at_:B<=g
 room:off+cap<=cs.length
 few:todo.length<=cap
 cells:∀(j:Nat) n,todo[j]? =some n->cs[off+j]? =some (.int .i64 (n:Int))
section
variable {W W':World} {B g off cap:Nat} {cs:List Value} {todo:List Nat}
theorem dG.on(h:dG W B g off cap cs todo)(hb:Below W.heap.size W W'):dG W' B g off cap cs todo:=⟨h.blk.on hb,h.at_,h.room,h.few,h.cells⟩
theorem dG.far(h:dG W B g off cap cs todo)(hb:W'.heap[g]? =W.heap[g]?):dG W' B g off cap cs todo:=⟨hb.trans h.blk,h.at_,h.room,h.few,h.cells⟩
theorem dG.cell(h:dG W B g off cap cs todo){j n:Nat}(hj:todo[j]? =some n):W.cell? ⟨g,off+j,none⟩=some (.int .i64 (n:Int)):=by
 rw[h.blk.cell,Mw];exact h.cells j n hj
theorem dG.pop{x:Nat}(h:dG W B g off cap cs (x::todo)):dG W B g (off+1) (cap-1) cs todo:=by
 have hf:=h.few;have hr:=h.room;rw[Jl] at hf;refine⟨h.blk,h.at_,by omega,by omega,λj n hj=>?_⟩;rw[show off+1+j=off+(j+1) by omega];exact h.cells (j+1) n (by simpa using hj)
end
theorem dG.push{W:World}{B g off cap:Nat}{cs:List Value}{todo:List Nat}(h:dG W B g off cap cs todo)(n:Nat)(hr:todo.length+1<=cap):
  dG (W.setCells g (off+todo.length) [.int .i64 (n:Int)]) B g off cap (cs.set (off+todo.length) (.int .i64 (n:Int))) (todo++[n]):=by
 have hro:=h.room;refine⟨?_,h.at_,by rw[KF];exact hro,by rw[Jk];exact hr,λj m hj=>?_⟩
 .exact Blk.ei h.blk (off+todo.length) _
 .by_cases hjl:j<todo.length
  .rw[JD hjl] at hj;rw[KA (by omega)];exact h.cells j m hj
  .have hj1:=(Jm.1 hj).1;rw[Jk,Jy] at hj1;obtain rfl:j=todo.length:=by omega
   rw[Jx (Jh _)] at hj;obtain rfl:n=m:=by simpa using hj
   rw[Kw (by omega)]
theorem dG.grown{W:World}{B base:Nat}{todo:List Nat}{n:Nat}{v:Value}(hB:B<=base)(h:W.ownsRow base 3 1 v (todo.length+1) ((fZ todo)++[.int .i64 (n:Int)])):
  ∃(g cap:Nat) (cs:List Value),v=.slice (some ⟨g,0,none⟩) (todo.length+1) cap/\base<=g/\dG W B g 0 cap cs (todo++[n]):=by
 obtain⟨hl,⟨_,h0⟩|⟨g,cap,cur,hv,hb,hc,q1,q2,q3,q4⟩⟩:=h
 .omega
 .refine⟨g,cap,cur.toList,hv,hb,⟨by rw[Array.toArray_toList];exact hc,by omega,by rw[KV];omega,by rw[Jk];exact q1,λj m hj=>?_⟩⟩;have hx:((fZ todo)++[.int .i64 (n:Int)])[j]? =some (.int .i64 (m:Int)):=by
   have:(fZ todo)++[.int .i64 (n:Int)]=fZ (todo++[n]):=by simp[fZ]
   rw[this,fZ,JZ,hj];rfl
  rw[<-q4,KN] at hx;split at hx
  .rw[JI];exact hx
  .cases hx
def isFalse:Value->Bool
 |.bool false=>true
 |_=>false
def qJ(W:World)(g:Nat):Nat:=match W.heap[g]? with
 |some (.cells cs _ _)=>cs.toList.countP isFalse
 |_=>0
def lenOf:Value->Nat
 |.slice _ n _=>n
 |_=>0
theorem jw.Ff{W:World}{go:Nat}{out:List Bool}(h:jw W go out):qJ W go=out.count false:=by
 have h2:W.heap[go]? =some (.cells (marks out) 4 (0,0)):=h;unfold qJ;rw[h2];show(marks out).toList.countP isFalse=_;unfold marks;rw[List.toList_toArray,Le,List.count]
 congr 1
 funext b
 cases b<;>rfl
structure Rch (w:World) (go L g off cap:Nat) (cs:List Value) (todo:List Nat) (out:List Bool) (W:World):Prop where
 below:Below w.heap.size w W
 out_:jw W go out
 todo_:dG W (go+1) g off cap cs todo
 new:w.heap.size<=go
 fuel:todo.length+out.count false<=L+1
theorem Rch.on{w:World}{go L g off cap:Nat}{cs:List Value}{todo:List Nat}{out:List Bool}{W W':World}(h:Rch w go L g off cap cs todo out W)(hb:Below W.heap.size W W'):Rch w go L g off cap cs todo out W':=
 ⟨h.below.trans (hb.mono h.below.size),Blk.on h.out_ hb,h.todo_.on hb,h.new,h.fuel⟩
theorem Rch.pop{w:World}{go L g off cap x:Nat}{cs:List Value}{todo:List Nat}{out:List Bool}{W:World}(h:Rch w go L g off cap cs (x::todo) out W):Rch w go L g (off+1) (cap-1) cs todo out W:=
 ⟨h.below,h.out_,h.todo_.pop,h.new,by have:=h.fuel;rw[Jl] at this;omega⟩
theorem vP(l:List Cm.Node)(A:Option Addr)(cA i:Nat)(w:World)(hs:SlN w.cell? A l)(h1:l.length<=cA)(h2:cA<=maxLen)(hl:l.length<=1000000)(hin:Cm.fS l)(hi:i<l.length):
  Calls Tryz.prog 48 #[.slice A l.length cA,.int .i64 i] w λe w'=>∃(g:Nat) (out:List Bool),e=.returned (.slice (some ⟨g,0,none⟩) l.length l.length)/\jw w' g out/\out.length=l.length/\(∀n,out[n]? =some true↔Cm.cy l i n)/\Below w.heap.size w w':=by
 have HS:=Jf hs;have HIN:=Jf hin;have HR0:=Jf (Cm.ey.start hi);unfold maxLen at h2;obtain⟨i0,hi0,hz0,hz1,hz2⟩:=zS;have hmk:∀W:World,(Instr.makeSlice 110 (.int .i64 (l.length:Int)) (.int .i64 (l.length:Int))).run Tryz.prog W=.ok (.slice (some ⟨W.heap.size,0,none⟩) l.length l.length) (W.alloc (.cells (marks (List.replicate l.length false)) 4)):=λW=>by
  have:=Nw (P:=Tryz.prog) W 110 4 i0 (.bool false) Tryz.underlying110 hi0 hz0 .i64 .i64 l.length l.length (by omega) (Mj _) (by rw[hz2];omega) (by omega);rw[hz1] at this;simp only[Ku] at this;rw[show(Value.bool false).cells=#[.bool false] from rfl,D9] at this;exact this
 have HB0:=Jf ((Ji w.heap.size w).alloc (Jh _) (.cells (marks (List.replicate l.length false)) 4));have HO0:=Jf (show jw (w.alloc (.cells (marks (List.replicate l.length false)) 4)) w.heap.size (List.replicate l.length false) from Blk.new w _ _);clear hs hin hi;go_enter Tryz.func48,Tryz.ntmps48;go_upto_region 2 with(fail);generalize w.alloc (.cells (marks (List.replicate l.length false)) 4)=w1 at*
 obtain⟨go,hgo⟩:∃go,w.heap.size=go:=⟨_,rfl⟩;have HO1:=Jf (show jw w1 go (List.replicate l.length false) by rw[<-hgo];exact HO0.out);have hol:go<w1.heap.size:=Blk.lt HO1.out;have HRC:=Jf (show Rch w go l.length w1.heap.size 0 1 [.int .i64 (i:Int)] [i] (List.replicate l.length false) (w1.alloc (.cells #[.int .i64 (i:Int)] 3)) from
  ⟨HB0.out.alloc HB0.out.size _,Blk.alloc HO1.out _,⟨Blk.new w1 _ _,hol,by simp,by simp,λj n hj=>by
   have hj0:=(Jm.1 hj).1
   obtain rfl:j=0:=by simpa using hj0
   obtain rfl:i=n:=by simpa using hj
   rfl⟩,by omega,by simp;omega⟩)
 rw[hgo];clear HO0 HO1 HB0 hmk hi0 hz0 hz1 hz2 hol;go_wp2_with fail;generalize w1.alloc (.cells #[.int .i64 (i:Int)] 3)=w2 at*
 generalize w1.heap.size=g2 at*
 go_loopw [6] (λt wr=>∃(g off cap:Nat) (cs:List Value) (todo:List Nat) (out:List Bool),t=.slice (some ⟨g,off,none⟩) todo.length cap/\Cm.ey l i out todo/\Rch w go l.length g off cap cs todo out wr) (λt wr=>lenOf t+qJ wr go)
 case atStart=>exact⟨g2,0,1,_,[i],_,rfl,HR0.out,HRC.out⟩
 case round=>
  obtain⟨g,off,cap,cs,todo,out,rfl,hre,hrc⟩:=hrel;have HRE:=Jf hre;have HRC:=Jf hrc;clear hre hrc HR0;cases todo with
  |nil=>
   go_wp2_with fail;go_ret;exact⟨go,out,rfl,HRC.out.out_,HRE.out.len,HRE.out.fin,HRC.out.below⟩
  |cons x r=>
   have hxl:=(HRE.out.from_ x (by simp)).1;have hxc:=HRC.out.todo_.cell (j:=0) (n:=x) rfl;have hgl:=Jn _ _ hxc;have hfw:=HRC.out.todo_.few;obtain⟨gA,oA,csN,rfl,hit,hcN⟩:=HS.out x _ (Jg hxl);obtain⟨A2,c2,rfl,hk2,hl2,hm2⟩:=hit;have e0:=(aa HRC.out.below) _ _ (hcN 0 _ rfl);have e1:=(aa HRC.out.below) _ _ (hcN 1 _ rfl);have e2:=(aa HRC.out.below) _ _ (hcN 2 _ rfl);have e3:=(aa HRC.out.below) _ _ (hcN 3 _ rfl);have hgl2:=Jn _ _ e0;have HKY:=Jf hk2;have HNX:=Jf (show l[x]? =some l[x] from Jg hxl);have hxi:(x:Int)<(l.length:Int):=by omega
   rw[Jl] at hfw;have hfi:(1:Int)<=(r.length:Int)+1:=by omega
   simp only[Kx] at hxc e0;clear hk2 hcN;generalize l[x]'hxl=N at*
   obtain⟨P,nall,npass,keys⟩:=N;simp only at hl2 e0 e1 e2 e3 HKY;unfold maxLen at hm2;generalize text P=tx at*
   have hb1:=(Ji wr.heap.size wr).alloc (Jh _) (.cells #[tx,nall,npass,.slice A2 keys.length c2] 39);have HB1:=Jf (Blk.new wr 39 #[tx,nall,npass,.slice A2 keys.length c2]);have HRC1:=Jf ((HRC.out.on hb1).pop);clear hb1;go_upto_region 5 with(fail);generalize wr.alloc (.cells #[tx,nall,npass,.slice A2 keys.length c2] 39)=wb at*
   obtain⟨gb,hgb⟩:∃gb,wr.heap.size=gb:=⟨_,rfl⟩;have HBX:=Jf (show Blk wb gb 39 #[tx,nall,npass,.slice A2 keys.length c2] by rw[<-hgb];exact HB1.out);have HGG:=Jf (show¬g=gb by have:=HRC.out.todo_.blk.lt;omega);have HGO:=Jf (show¬go=gb by have:=Blk.lt HRC.out.out_;omega);rw[hgb];clear e0 e1 e2 e3 hgl hgl2 hxc HB1 hgb;have HPA:=Jf (HRE.out.pop);have HFO:=Jf (jw.Ff HRC.out.out_);obtain⟨wo,hwo⟩:∃W,W=wr:=⟨_,rfl⟩;subst hwo;have HZ:=Jf (λ(h:cap=1)=>show Rch w go l.length g off 0 cs r out wb from by
    have hr0:r=[]:=K6 (by omega);have k:=HRC1.out;have kr:=HRC.out.todo_.room;subst hr0;exact⟨k.below,k.out_,⟨k.todo_.blk,k.todo_.at_,by omega,Jh _,λj n hj=>by simp at hj⟩,k.new,k.fuel⟩)
   go_cut [6] from 17 to 27 (λv6 wc=>wc=wb/\∃(off' cap':Nat),v6=.slice (some ⟨g,off',none⟩) r.length cap'/\Rch w go l.length g off' cap' cs r out wb);case first=>
    go_wp2_with fail
    .have hc1:cap=1:=by assumption
     have hr0:r.length=0:=by omega
     go_meet
     case rel=>exact⟨rfl,off,0,rfl,HZ.out hc1⟩
    .go_meet
     case rel=>exact⟨rfl,off+1,cap-1,rfl,HRC1.out⟩
   case rest=>
   obtain⟨rfl,off',cap',rfl,hrc1⟩:=hcut;have HRC3:=Jf hrc1;clear hrc1 HZ HRC1 hfw hfi;obtain⟨wb2,hwb2⟩:∃W,W=wc:=⟨_,rfl⟩;subst hwb2;go_wp2_with fail
   go_loopw [6,8] (λt k wr=>∃(g off cap kq:Nat) (cs:List Value) (todo:List Nat) (out2:List Bool),t=.slice (some ⟨g,off,none⟩) todo.length cap/\k=.int .i64 kq/\kq<=keys.length/\Cm.fT l i x ((keys.take kq).flatMap Cm.bW) out2 todo/\Rch w go l.length g off cap cs todo out2 wr/\Blk wr gb 39 #[tx,nall,npass,.slice A2 keys.length c2]/\¬g=gb/\todo.length+out2.count false<=r.length+out.count false) (λ_ k _=>keys.length-(intOf k).toNat)
   case atStart=>exact⟨g,off',cap',0,cs,r,out,rfl,rfl,JE _,HPA.out,HRC3.out,HBX.out,HGG.out,Jh _⟩
   case round=>
    obtain⟨g,off,cap,kq,cs,todo,out2,rfl,rfl,hkq,hpa,hrc,hbx,hgg,hfu⟩:=hrel;have HPA2:=Jf hpa;have HRC2:=Jf hrc;have HBX2:=Jf hbx;have HGG2:=Jf hgg;have HFU2:=Jf hfu;have b3:=hbx.cell 3;have hbl:=hbx.lt;clear hpa hrc hbx hgg hfu;by_cases hkl:kq<keys.length
    .obtain⟨g3,o3,cs3,rfl,hi3,hc3⟩:=HKY.out kq _ (Jg hkl);obtain⟨j_1,j_2,j_3,j_4,j_5,j_6,j_7,j_8,j_9,j_a,j_b,j_c,A4,c4,rfl,_,hk4,hl4,hm4⟩:=hi3.cells;have d0:=(aa HRC2.out.below) _ _ (hc3 0 _ rfl);have HE9:=Jf (hc3 9 _ rfl);have HL4:=Jf hk4;have HKI:=Jf (show keys[kq]? =some keys[kq] from Jg hkl);have hkqi:(kq:Int)<(keys.length:Int):=by omega
     have hgl3:=Jn _ _ d0;simp only[Kx] at d0;clear hi3 hc3 hk4;generalize keys[kq]'hkl=K at*
     obtain⟨nm,kv,kids⟩:=K;simp only at hl4 d0 HE9 HL4 HKI;unfold maxLen at hm4;have HPL:=Jf (vO nm);obtain⟨pb,hpb⟩:∃pb,Cm.place nm=pb:=⟨_,rfl⟩;rw[hpb] at HPL;have HKN:=Jf (show Cm.bW ⟨nm,kv,kids⟩=if pb=true then kids.map (·.2) else[] by unfold Cm.bW;rw[show Cm.place (Cm.Key.mk nm kv kids).name=pb from hpb]);have HNT:=Jf (Cm.Ap (N:=⟨P,nall,npass,keys⟩) HKI.out);have HMK:=Jf (Jz HKI.out);clear hpb;go_wp2_with fail;refine(HPL.out _).mono ?_;rintro e5 w5 ⟨rfl,hw5⟩;rw[hw5];clear hw5 w5 HPL;go_wp2_with fail;obtain⟨wo2,hwo2⟩:∃W,W=wr:=⟨_,rfl⟩;subst hwo2
     go_loopw [6,10] (λt j4 wr=>∃(g off cap jq:Nat) (cs:List Value) (todo:List Nat) (out3:List Bool),t=.slice (some ⟨g,off,none⟩) todo.length cap/\j4=.int .i64 jq/\jq<=kids.length/\Cm.fT l i x ((keys.take kq).flatMap Cm.bW++(if pb=true then(kids.take jq).map (·.2) else[])) out3 todo/\Rch w go l.length g off cap cs todo out3 wr/\Blk wr gb 39 #[tx,nall,npass,.slice (some ⟨g3,o3,none⟩) keys.length c2]/\¬g=gb/\todo.length+out3.count false<=r.length+out.count false) (λ_ j4 _=>kids.length-(intOf j4).toNat)
     case atStart=>exact⟨g,off,cap,0,cs,todo,out2,rfl,rfl,JE _,by rw[show(if pb=true then(kids.take 0).map (·.2) else[])=([]:List Nat) by split<;>simp,JK];exact HPA2.out,HRC2.out,HBX2.out,HGG2.out,HFU2.out⟩
     case round=>
      obtain⟨g,off,cap,jq,cs,todo,out3,rfl,rfl,hjq,hpa,hrc,hbx,hgg,hfu⟩:=hrel;have HPA3:=Jf hpa;have HRC4:=Jf hrc;have HBX3:=Jf hbx;have HGG3:=Jf hgg;have HFU3:=Jf hfu;have b3:=hbx.cell 3;have hbl:=hbx.lt;have e9:=(aa hrc.below) _ _ HE9.out;have hgl4:=Jn _ _ e9;clear hpa hrc hbx hgg hfu;by_cases hgo:jq<kids.length/\pb=true
      .obtain⟨hjl,hpb1⟩:=hgo;obtain⟨g5,o5,rfl,h50,h51⟩:=HL4.out jq _ (Jg hjl);have s1:=(aa HRC4.out.below) _ _ h51;have hstep:Cm.Step l x (kids[jq]).2:=(Cm.yM HNX.out).2 (KB.2 ⟨_,HMK.out,by rw[HKN.out,Jo hpb1];exact JQ.2 ⟨_,Jv hjl,rfl⟩⟩);have HTK:=Jf (show(kids.take (jq+1)).map (·.2)=(kids.take jq).map (·.2)++[(kids[jq]).2] by rw[Jr hjl,JX];rfl);clear h50 h51;generalize (kids[jq]'hjl).2=kn at*
       have hjqi:(jq:Int)<(kids.length:Int):=by omega
       have hgl5:=Jn _ _ s1;have hknl:kn<l.length:=HIN.out.next hstep;have hkni:(kn:Int)<(l.length:Int):=by omega
       obtain⟨b,hb⟩:∃b,out3[kn]? =some b:=⟨_,Jg (by rw[HPA3.out.len];exact hknl)⟩;have hoc:=HRC4.out.out_.cell hb;have hofz:=Blk.frozen HRC4.out.out_ kn;have hol:=Blk.lt HRC4.out.out_;have HPB:=Jf hpb1;cases b with
       |true=>
        have HP4:=Jf (HPA3.out.old hb);clear hstep hb;go_wp2_with fail;go_roundw;case rel=>exact⟨g,off,cap,jq+1,cs,todo,out3,rfl,by go_num,by omega,by have:=HP4.out;rw[Jo HPB.out] at this ⊢;rw[HTK.out,<-List.append_assoc];exact this,HRC4.out,HBX3.out,HGG3.out,HFU3.out⟩
        case measure=>simp[intOf];omega
       |false=>
        have HP4:=Jf (HPA3.out.mark hstep hknl);have hfs:=Cm.qK out3 kn hb;have hgne:¬g=go:=by have:=HRC4.out.todo_.at_;omega
        have hfu4:=HRC4.out.fuel;obtain⟨w5,hw5⟩:∃W,W=wr.setCell ⟨go,kn,none⟩ (.bool true):=⟨_,rfl⟩;have hfar:∀b,¬b=go->w5.heap[b]? =wr.heap[b]? :=λb hb=>by rw[hw5];exact JG wr ⟨go,kn,none⟩ _ b hb
        have HRC5:=Jf (show Rch w go l.length g off cap cs todo (out3.set kn true) w5 from⟨by rw[hw5];exact HRC4.out.below.setCell (p:=⟨go,kn,none⟩) HRC4.out.new _,by rw[hw5];exact HRC4.out.out_.mark kn,HRC4.out.todo_.far (hfar g hgne),HRC4.out.new,by omega⟩);have HBX5:=Jf (show Blk w5 gb 39 #[tx,nall,npass,.slice (some ⟨g3,o3,none⟩) keys.length c2] from(hfar gb (λe=>HGO.out e.symm)).trans HBX3.out);have HW5:=Jf hw5;clear hstep hb hfar hw5;go_upto_region 16 with(fail);rw[<-HW5.out];have HRC6:=Jf (HRC5.out.on ((Ji w5.heap.size w5).alloc (Jh _) (.cells #[.int .i64 (kn:Int)] 3)));have HBX6:=Jf (HBX5.out.on ((Ji w5.heap.size w5).alloc (Jh _) (.cells #[.int .i64 (kn:Int)] 3)));have HNW:=Jf (Blk.new w5 3 #[.int .i64 (kn:Int)]);obtain⟨i0,hi0,hz0,hz1,hz2⟩:=CX;have hfew:=HRC4.out.todo_.few;clear HW5 HRC4 HRC5 HBX5 HBX3 b3 hbl e9 hgl4 s1 hgl5 hoc hofz hol;by_cases hroom:todo.length+1<=cap
        .go_wp2_with (refine wpList_append_arg _ rfl _ _ _ rfl 3 i0 _ 1 8 Tryz.underlying58 hi0 hz0 hz1 hz2 rfl (by decide) g off todo.length cap (fZ todo) rfl (by simp[fZ]) (λj u hj=>by rw[fZ,JZ] at hj;obtain⟨n,hn,rfl⟩:=Kd.1 hj;exact HRC6.out.todo_.cell hn) ⟨w5.heap.size,0,none⟩ 1 1 [.int .i64 (kn:Int)] rfl rfl (JU HNW.out) (by simp[Value.oneCell']) (λ_ j hj=>by
          have hj0:j=0:=by simpa using hj
          subst hj0;have hrm:=HRC6.out.todo_.room;refine⟨?_,HRC6.out.todo_.blk.frozen _⟩;rw[HRC6.out.todo_.blk.cell,Mw,Jg (by omega)];rfl) (by unfold maxLen;omega) (by omega) (λ_=>?_) (λh=>absurd hroom (by omega)))
         have HRC7:=Jf (show Rch w go l.length g off cap (cs.set (off+todo.length) (.int .i64 (kn:Int))) (todo++[kn]) (out3.set kn true) ((w5.alloc (.cells #[.int .i64 (kn:Int)] 3)).setCells g (off+todo.length) [.int .i64 (kn:Int)]) from⟨HRC6.out.below.setCell (p:=⟨g,off+todo.length,none⟩) (by have:=HRC6.out.todo_.at_;have:=HRC6.out.new;show w.heap.size<=g;omega) _,(JG _ ⟨g,off+todo.length,none⟩ _ go (λe=>hgne e.symm)).trans HRC6.out.out_,HRC6.out.todo_.push kn hroom,HRC6.out.new,by rw[Jk,Jy];omega⟩);have HBX7:=Jf (show Blk ((w5.alloc (.cells #[.int .i64 (kn:Int)] 3)).setCells g (off+todo.length) [.int .i64 (kn:Int)]) gb 39 #[tx,nall,npass,.slice (some ⟨g3,o3,none⟩) keys.length c2] from(JG _ ⟨g,off+todo.length,none⟩ _ gb (λe=>HGG3.out e.symm)).trans HBX6.out);generalize (w5.alloc (.cells #[.int .i64 (kn:Int)] 3)).setCells g (off+todo.length) [.int .i64 (kn:Int)]=w7 at*
         go_wp2_with fail;go_roundw;case rel=>exact⟨g,off,cap,jq+1,_,todo++[kn],⟨⟨rfl,rfl⟩,by simp,rfl⟩,by omega,by omega,_,by have:=HP4.out;rw[Jo HPB.out] at this;rw[<-List.map_take,HTK.out,<-List.append_assoc];exact this,HRC7.out,HBX7.out,HGG3.out,by have:=HFU3.out;rw[Jk,Jy];omega⟩
         case measure=>simp[intOf];omega
        .go_wp2_with (refine wpList_append_arg _ rfl _ _ _ rfl 3 i0 _ 1 8 Tryz.underlying58 hi0 hz0 hz1 hz2 rfl (by decide) g off todo.length cap (fZ todo) rfl (by simp[fZ]) (λj u hj=>by rw[fZ,JZ] at hj;obtain⟨n,hn,rfl⟩:=Kd.1 hj;exact HRC6.out.todo_.cell hn) ⟨w5.heap.size,0,none⟩ 1 1 [.int .i64 (kn:Int)] rfl rfl (JU HNW.out) (by simp[Value.oneCell']) (λh=>absurd h hroom) (by unfold maxLen;omega) (by omega) (λh=>absurd h hroom) (λ_ v7 w7 hown hgr=>?_));have hbg:Below (w5.alloc (.cells #[.int .i64 (kn:Int)] 3)).heap.size (w5.alloc (.cells #[.int .i64 (kn:Int)] 3)) w7:=⟨hgr.os,hgr.tape,hgr.output,hgr.size,λk hk=>hgr.block k hk (by simp)⟩;obtain⟨g7,cap7,cs7,rfl,hg7,hto7⟩:=dG.grown (B:=go+1) (todo:=todo) (n:=kn) (by have:=Blk.lt HRC6.out.out_;omega) hown;have HRC7:=Jf (show Rch w go l.length g7 0 cap7 cs7 (todo++[kn]) (out3.set kn true) w7 from⟨(HRC6.out.on hbg).below,(HRC6.out.on hbg).out_,hto7,HRC6.out.new,by rw[Jk,Jy];omega⟩);have HBX7:=Jf (HBX6.out.on hbg);have HG7:=Jf (show¬g7=gb by have:=HBX6.out.lt;omega);clear hown hgr hbg hto7;go_wp2_with fail;go_roundw;case rel=>exact⟨g7,0,cap7,jq+1,cs7,todo++[kn],by rw[Jk];rfl,by omega,by omega,_,by have:=HP4.out;rw[Jo HPB.out] at this;rw[<-List.map_take,HTK.out,<-List.append_assoc];exact this,HRC7.out,HBX7.out,HG7.out,by have:=HFU3.out;rw[Jk,Jy];omega⟩
         case measure=>simp[intOf];omega
      .have HEX:=Jf (show Cm.fT l i x ((keys.take (kq+1)).flatMap Cm.bW) out3 todo from by
        have hN:(keys.take (kq+1)).flatMap Cm.bW=(keys.take kq).flatMap Cm.bW++Cm.bW ⟨nm,kv,kids⟩:=HNT.out;rw[hN,HKN.out];have:=HPA3.out;by_cases hpb:pb=true
        .have hje:jq=kids.length:=by have hnl:¬jq<kids.length:=λh=>hgo ⟨h,hpb⟩;omega
         rw[hje,JC] at this;exact this
        .rw[Jj hpb] at this ⊢;exact this)
       by_cases hjl:jq<kids.length
       .have hpf:pb=false:=by
         rcases Np pb with k|k
         .exact absurd ⟨hjl,k⟩ hgo
         .exact k
        have hjqi:(jq:Int)<(kids.length:Int):=by omega
        clear hgo;go_wp2_with fail;go_roundw;case rel=>exact⟨g,off,cap,kq+1,cs,todo,out3,rfl,by go_num,by omega,HEX.out,HRC4.out,HBX3.out,HGG3.out,HFU3.out⟩
        case measure=>simp[intOf];omega
       .obtain rfl:jq=kids.length:=by omega
        clear hgo;go_wp2_with fail;go_roundw;case rel=>exact⟨g,off,cap,kq+1,cs,todo,out3,rfl,by go_num,by omega,HEX.out,HRC4.out,HBX3.out,HGG3.out,HFU3.out⟩
        case measure=>simp[intOf];omega
    .obtain rfl:kq=keys.length:=by omega
     have HRF:=Jf (show Cm.ey l i out2 todo from HPA2.out.fin (λm hm=>by rw[JC];exact(Cm.yM HNX.out).1 hm));have HF2:=Jf (jw.Ff HRC2.out.out_);go_wp2_with fail;go_roundw;case rel=>exact⟨g,off,cap,cs,todo,out2,rfl,HRF.out,HRC2.out⟩
     case measure=>
      rw[HF2.out,HFO.out];have:=HFU2.out;show todo.length+_<r.length+1+_;omega
end
namespace Cm
open Js Pt
section
variable {Q:Vl->Prop}
theorem rm{nd:Nat->Names->Vl->Res (List Node)}(hnd:∀off P u a,nd off P u=.ok a->Q u->∀N∈a,∀K∈N.keys,Q K.v){single:Bool}{under:Names}:∀{l:List Mem} {off:Nat} {ks:List (Jd×Nat)} {a:List Node},ar nd single under off l=.ok (ks,a)->(∀p∈l,Q p.2)->∀N∈a,∀K∈N.keys,Q K.v
 |[],off,ks,a,e,_,N,hN,_,_=>by
  rw[ar] at e;injection e with e;injection e with e1 e2;subst e1 e2
  cases hN
 |(key,u)::r,off,ks,a,e,hq,N,hN,K,hK=>by
  obtain⟨a1,ks2,a2,h1,h2,rfl,rfl⟩:=aN e;rcases Jq.1 hN with k|k
  .exact hnd _ _ _ _ h1 (hq (key,u) (by simp)) N k K hK
  .exact rm hnd h2 (λp hp=>hq p (by simp[hp])) N k K hK
theorem rQ{nd:Nat->Names->Vl->Res (List Node)}(hnd:∀off P u a,nd off P u=.ok a->Q u->∀N∈a,∀K∈N.keys,Q K.v)(hk:∀nm v,Q v->∀p∈Sh.kids nm v,Q p.2){P:Names}:∀{m:List Mem} {off:Nat} {keys:List Key} {a:List Node},av nd P off m=.ok (keys,a)->(∀p∈m,Q p.2)->(∀K∈keys,Q K.v)/\∀N∈a,∀K∈N.keys,Q K.v
 |[],off,keys,a,e,_=>by
  rw[av] at e;injection e with e;injection e with e1 e2;subst e1 e2
  exact⟨(λK h=>by cases h),λN h=>by cases h⟩
 |(nm,w)::r,off,keys,a,e,hq=>by
  obtain⟨_,ks,a1,keys2,a2,h1,h2,rfl,rfl⟩:=bG e;have hw:Q w:=hq (nm,w) (by simp);obtain⟨h3,h4⟩:=rQ hnd hk h2 (λp hp=>hq p (by simp[hp]));refine⟨λK hK=>?_,λN hN K hK=>?_⟩
  .rcases JB.1 hK with rfl|k
   .exact hw
   .exact h3 K k
  .rcases Jq.1 hN with k|k
   .exact rm hnd h1 (hk nm w hw) N k K hK
   .exact h4 N k K hK
theorem Ds(hm:∀k b n s l m,Q (.mk k b n s l m)->∀p∈m,Q p.2)(hk:∀nm v,Q v->∀p∈Sh.kids nm v,Q p.2)(f:Nat):∀off P u a,node f off P u=.ok a->Q u->∀N∈a,∀K∈N.keys,Q K.v:=by
 induction f with
 |zero=>intro off P u a h;cases h
 |succ f ih=>
  intro off P u a h hu;obtain⟨k,b,n,s,l,m⟩:=u;obtain⟨_,keys,r,h1,rfl⟩:=dd h;obtain⟨h2,h3⟩:=rQ ih hk h1 (hm _ _ _ _ _ _ hu);intro N hN K hK;rcases JB.1 hN with rfl|q
  .exact h2 K hK
  .exact h3 N q K hK
theorem mR(hm:∀k b n s l m,Q (.mk k b n s l m)->∀p∈m,Q p.2)(hk:∀nm v,Q v->∀p∈Sh.kids nm v,Q p.2){v:Vl}{a:List Node}(h:compile v=.ok a)(hv:Q v):∀N∈a,∀K∈N.keys,Q K.v:=by
 unfold compile at h;split at h
 .exact Ds hm hk _ _ _ _ _ h hv
 .cases h
end
theorem mQ{v:Vl}{a:List Node}(h:compile v=.ok a)(hv:v.bL 1000000)(hz:v.size<=1000000):∀N∈a,∀K∈N.keys,K.v.bL 1000000/\K.v.size<=1000000:=by
 refine mR (Q:=λv=>v.bL 1000000/\v.size<=1000000) ?_ ?_ h ⟨hv,hz⟩
 .intro k b n s l m ⟨h1,h2⟩ p hp;simp only[Vl.bL] at h1;simp only[Vl.size] at h2;have:=er hp;exact⟨((dE _ m).1 h1.2.2.2 p hp).2,by omega⟩
 .intro nm v ⟨h1,h2⟩ p hp;have:=jE hp;exact⟨(kW (by omega) h1 h2 hp).2,by omega⟩
theorem E4{v:Vl}{N:Nat}(h:v.bL N):(Sh.strOf v).length<=N:=by
 obtain⟨k,b,n,s,l,m⟩:=v;simp only[Vl.bL] at h;exact h.2.1
theorem oU:∀(n:Nat) (l:List Nat),(∀x∈l,x<n)->(∀x,l.count x<=1)->l.length<=n
 |0,l,h,_=>by
  cases l with
  |nil=>simp
  |cons x r=>exact absurd (h x (by simp)) (Kt _)
 |n+1,l,h,hc=>by
  have h1:=oU n (l.filter λx=> !(x==n)) (λx hx=>by
   obtain⟨h2,h3⟩:=L0.1 hx;have:=h x h2;have h4:¬x=n:=by simpa using h3
   omega) (λx=>JA (List.Sublist.count_le _ O5) (hc x))
  have h2:=List.length_eq_countP_add_countP (λx=>x==n) (l:=l);have h3:=hc n;rw[List.count] at h3;rw[<-List.countP_eq_length_filter] at h1;have h4:List.countP (λx=> !(x==n)) l=List.countP (λa=>decide ¬(a==n)=true) l:=by
   congr 1
   funext a
   cases a==n<;>rfl
  omega
theorem Fy{a:List Node}(ho:Ez 0 a){N:Node}{K:Key}(hN:N∈a)(hK:K∈N.keys):K.kids.length<=a.length:=by
 have hc:∀x,(K.kids.map (·.2)).count x<=one (0+1) (0+a.length) x:=λx=>by
  rw[<-ho x];obtain⟨s,t,rfl⟩:=N0 hN;obtain⟨P,b1,b2,keys⟩:=N;obtain⟨s2,t2,rfl⟩:=N0 (show K∈keys from hK);rw[jh,oW,KY,KY,te,xQ,KY,KY];omega
 have:=oU a.length (K.kids.map (·.2)) (λx hx=>by
  have h1:=hc x;have h2:=List.count_pos_iff.2 hx;unfold one at h1;split at h1
  .omega
  .omega) (λx=>by
   have h1:=hc x;unfold one at h1;split at h1<;>omega)
 rwa[JR] at this
section
variable {l:List Node} {i x:Nat} {out:List Bool} {todo:List Nat}
end
end Cm
