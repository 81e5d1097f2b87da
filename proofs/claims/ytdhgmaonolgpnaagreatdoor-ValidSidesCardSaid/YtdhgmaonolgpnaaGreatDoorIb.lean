import Derived.Test.YtdhgmaonolgpnaaGreatDoorGa
set_option linter.unusedSimpArgs false
namespace Go.Proofs.YtdhgmaonolgpnaaGreatDoor
namespace Vd
open Js Pt Cm Fl
theorem eY{α β γ:Type}(g:β->γ)(f:Nat->α->β)(l:List α):(l.mapIdx f).map g=l.mapIdx λi a=>g (f i a):=by
 apply Lu;intro i;rw[JZ,KX,KX,Option.map_map];rfl
theorem vz{α β γ:Type}(g:α->β)(f:Nat->β->γ)(l:List α):(l.map g).mapIdx f=l.mapIdx λi a=>f i (g a):=by
 apply Lu;intro i;rw[KX,KX,JZ,Option.map_map];rfl
theorem sI{l:List F}:sort l=[]↔l=[]:=by
 constructor
 .intro h;cases l with
  |nil=>rfl
  |cons x r=>
   have:x∈sort (x::r):=l9.2 (by simp);rw[h] at this;cases this
 .intro h;subst h;rfl
def l8(d:Nat)(K:Cm.Key):Cm.Key:=⟨K.name,K.v,K.kids.map λp=>(p.1,p.2+d)⟩
def dI(d:Nat)(P:Names)(N:Cm.Node):Cm.Node:=⟨P++N.at_,N.all,N.pass,N.keys.map (l8 d)⟩
def vW(d:Nat)(x:Ask):Ask:=⟨x.key,x.node+d,x.here,x.name,x.at_⟩
theorem xX(d:Nat)(P:Names)(N:Cm.Node)(key:Jd):named (dI d P N) key=named N key:=by
 unfold named dI;simp only[List.any_map]
 congr 1
 funext K
 simp only[Function.comp,l8,List.any_map];rfl
theorem tg(d:Nat)(P:Names)(N:Cm.Node)(v:Vl)(i:Nat)(nm:Jd)(kid:Jd×Nat):cU (dI d P N) v i nm (kid.1,kid.2+d)=(cU N v i nm kid).map (vW d):=by
 unfold cU;rw[JX,JX]
 congr 1
 .split<;>rfl
 .congr 1
  .split
   .unfold ig;rw[eY];rfl
   .rfl
  .rw[Nr,eY]
   congr 2
   funext j p
   simp only[Function.comp,jZ,xX];split<;>rfl
theorem zx(d:Nat)(P:Names)(N:Cm.Node)(v:Vl):asks (dI d P N) v=(asks N v).map (vW d):=by
 unfold asks;rw[Nr,eY];show((N.keys.map (l8 d)).mapIdx (cH (dI d P N) v)).flatten=_;rw[vz]
 congr 2
 funext i K
 simp only[Function.comp,cH,l8];rw[List.flatMap_map,List.map_flatMap]
 congr 1
 funext kid
 exact tg d P N v i K.name kid
theorem DC(d:Nat)(P:Names)(N:Cm.Node)(v:Vl):Ow.own (dI d P N) v=Ow.own N v:=by
 unfold Ow.own dI;simp only;split
 .rfl
 .rw[List.filter_map,Ns];rfl
abbrev Xs:=List (Ask×List F)
theorem du{i:Nat}{nm:Jd}{xs:Xs}:eX i nm xs=[]↔∀p∈xs,p.1.key=i->kh nm p.1=true->p.2=[]:=by
 unfold eX;rw[List.flatMap_eq_nil_iff];constructor
 .intro h p hp hk hq;have:=h p (L0.2 ⟨hp,by simp[hk,hq]⟩);exact MO.1 this
 .intro h p hp;obtain⟨h1,h2⟩:=L0.1 hp;simp only[JH,JF] at h2;rw[h p h1 h2.1 h2.2];rfl
theorem jA{α β:Type}{f:Nat->α->List β}{l:List α}:(l.mapIdx f).flatten=[]↔∀i a,l[i]? =some a->f i a=[]:=by
 rw[List.flatten_eq_nil_iff];constructor
 .intro h i a hi;obtain⟨hl,rfl⟩:=Jm.1 hi;exact h _ (Lr.2 ⟨i,hl,rfl⟩)
 .intro h x hx;obtain⟨i,hi,rfl⟩:=Lr.1 hx;exact h i _ (Jg hi)
theorem CC{N:Cm.Node}{xs:Xs}:wX N xs=[]↔∀i K,N.keys[i]? =some K->comb K.name (eA i xs) (gg i xs)=false:=by
 unfold wX;rw[jA];constructor
 .intro h i K hK;have:=h i K hK;split at this
  .cases this
  .rename_i hc;simpa using hc
 .intro h i K hK;rw[h i K hK];rfl
theorem ml{N:Cm.Node}{v:Vl}{xs:Xs}:jV N v xs=[]↔Ow.own N v=[]/\∀i K,N.keys[i]? =some K->eX i K.name xs=[]/\comb K.name (eA i xs) (gg i xs)=false:=by
 unfold jV;rw[NJ,jA,MO,NJ,CC];constructor
 .rintro⟨h1,h2,h3⟩;exact⟨h2,λi K hK=>⟨h1 i K hK,h3 i K hK⟩⟩
 .rintro⟨h1,h2⟩;exact⟨λi K hK=>(h2 i K hK).1,h1,λi K hK=>(h2 i K hK).2⟩
def zm(d:Nat)(xs xs':Xs):Prop:=∃l:List (Ask×(List F×List F)),xs=l.map (λp=>(p.1,p.2.1))/\xs'=l.map (λp=>(vW d p.1,p.2.2))/\∀p∈l,(p.2.1=[]↔p.2.2=[])
theorem zm.eA{d:Nat}{xs xs':Xs}(h:zm d xs xs')(i:Nat):Vd.eA i xs'=Vd.eA i xs:=by
 obtain⟨l,rfl,rfl,hl⟩:=h;unfold Vd.eA;rw[Le,Le];refine List.countP_congr λp hp=>?_;have:=hl p hp;simp only[Function.comp,vW,JH,Mq];rw[this];exact Oa
theorem zm.gg{d:Nat}{xs xs':Xs}(h:zm d xs xs')(i:Nat):Vd.gg i xs'=Vd.gg i xs:=by
 obtain⟨l,rfl,rfl,hl⟩:=h;unfold Vd.gg;rw[Le,Le];rfl
theorem zm.I3{d:Nat}{xs xs':Xs}(h:zm d xs xs')(i:Nat)(nm:Jd):eX i nm xs'=[]↔eX i nm xs=[]:=by
 obtain⟨l,rfl,rfl,hl⟩:=h;rw[du,du];constructor
 .intro h p hp hk hq;obtain⟨y,hy,rfl⟩:=JQ.1 hp;exact(hl y hy).2 (h _ (JQ.2 ⟨y,hy,rfl⟩) hk hq)
 .intro h p hp hk hq;obtain⟨y,hy,rfl⟩:=JQ.1 hp;exact(hl y hy).1 (h _ (JQ.2 ⟨y,hy,rfl⟩) hk hq)
theorem xz{d:Nat}{P:Names}{N:Cm.Node}{v:Vl}{xs xs':Xs}(h:zm d xs xs'):jV (dI d P N) v xs'=[]↔jV N v xs=[]:=by
 rw[ml,ml,DC];have hk:∀i:Nat,(dI d P N).keys[i]? =(N.keys[i]?).map (l8 d):=λi=>by
  show(N.keys.map (l8 d))[i]? =_;rw[JZ]
 constructor
 .rintro⟨h1,h2⟩;refine⟨h1,λi K hK=>?_⟩;have:=h2 i (l8 d K) (by rw[hk,hK];rfl);rw[h.I3,h.eA,h.gg] at this;exact this
 .rintro⟨h1,h2⟩;refine⟨h1,λi K hK=>?_⟩;rw[hk] at hK;obtain⟨K0,hK0,rfl⟩:=Kd.1 hK;rw[h.I3,h.eA,h.gg];exact h2 i K0 hK0
def Seg(L:List Cm.Node)(d:Nat)(P:Names)(a:List Cm.Node):Prop:=∀i N,a[i]? =some N->L[i+d]? =some (dI d P N)
theorem tR{L a:List Cm.Node}{d:Nat}{P:Names}(h:Seg L d P a)(ha:fS a):∀(f i:Nat) (v:Vl),i<a.length->(found f L (i+d) v=[]↔found f a i v=[])
 |0,_,_,_=>Oa
 |f+1,i,v,hi=>by
  have hN:=Jg hi;rw[found,found,h i _ hN,hN];simp only;rw[sI,sI,zx];refine xz ⟨(asks a[i] v).map λx=>(x,(found f a x.node (bQ v x),found f L (x.node+d) (bQ v x))),?_,?_,?_⟩
  .rw[Ns];rfl
  .rw[Ns,Ns];rfl
  .intro p hp;obtain⟨x,hx,rfl⟩:=JQ.1 hp;obtain⟨k,K,kid,hK,hkid,_,hn,_⟩:=fO hx;have hlt:x.node<a.length:=by rw[hn];exact ha _ (Jv hi) _ (Jz hK) _ hkid
   exact(tR h ha f x.node (bQ v x) hlt).symm
theorem uF{L a:List Cm.Node}{d:Nat}{P:Names}(hL:Ends L)(ha:Ends a)(h:Seg L d P a){i:Nat}{v:Vl}(hv:v.may=true)(hi:i<a.length):valid L (i+d) v=[]↔valid a i v=[]:=by
 have h1:=(iM hL (i+d) hv).mono (f':=fuel L v+fuel a v) (by omega);have h2:=(iM ha i hv).mono (f':=fuel L v+fuel a v) (by omega);rw[<-iO hL hv h1,<-iO ha hv h2];exact tR h ha.1 _ i v hi
theorem EM(P:Names)(nm:Jd)(kv v:Vl)(kids:List (Jd×Nat)):asks ⟨P,false,false,[⟨nm,kv,kids⟩]⟩ v=kids.flatMap (cU ⟨P,false,false,[⟨nm,kv,kids⟩]⟩ v 0 nm):=by
 unfold asks cH;simp
theorem kT{L:List Cm.Node}(hL:Ends L){i:Nat}{v:Vl}(hv:v.may=true){P:Names}{nm:Jd}{kv:Vl}{kids:List (Jd×Nat)}(hN:L[i]? =some ⟨P,false,false,[⟨nm,kv,kids⟩]⟩)(hnm:Ow.pP nm=0):
  valid L i v=[]↔eX 0 nm ((kids.flatMap (cU ⟨P,false,false,[⟨nm,kv,kids⟩]⟩ v 0 nm)).map λx=>(x,valid L x.node (bQ v x)))=[]/\comb nm (eA 0 ((kids.flatMap (cU ⟨P,false,false,[⟨nm,kv,kids⟩]⟩ v 0 nm)).map λx=>(x,valid L x.node (bQ v x)))) (gg 0 ((kids.flatMap (cU ⟨P,false,false,[⟨nm,kv,kids⟩]⟩ v 0 nm)).map λx=>(x,valid L x.node (bQ v x))))=false:=by
 rw[sP hL hv hN,sI,ml,EM];have ho:Ow.own ⟨P,false,false,[⟨nm,kv,kids⟩]⟩ v=[]:=by
  unfold Ow.own;rw[Jj (by simp)];simp only[List.filter_cons,List.filter_nil,Ow.aZ,hnm];rfl
 constructor
 .rintro⟨_,h⟩;exact h 0 _ rfl
 .intro h;refine⟨ho,λk K hK=>?_⟩;cases k with
  |zero=>
   obtain rfl:(⟨nm,kv,kids⟩:Cm.Key)=K:=by simpa using hK
   exact h
  |succ k=>simp at hK
theorem tf{N:Cm.Node}{v:Vl}{i:Nat}{nm:Jd}{kid:Jd×Nat}(h1:place nm=true)(h2:¬nm=aR)(h3:¬nm=b9)(h4:¬nm=lO):cU N v i nm kid=[⟨i,kid.2,true,[],0⟩]:=by
 unfold cU;rw[Jo h1,Jj h2];rw[show((cq v).mapIdx (jZ N i nm kid)).flatten=[] from jA.2 λj p _=>by
  unfold jZ;rw[Jj (by rintro(⟨h,_⟩|⟨h,_⟩);exact h3 h;exact h4 h)]]
 rfl
theorem hJ{N:Cm.Node}{v:Vl}{i:Nat}{nm:Jd}(h1:place nm=true)(h2:¬nm=aR)(h3:¬nm=b9)(h4:¬nm=lO)(kids:List (Jd×Nat)):kids.flatMap (cU N v i nm)=kids.map λkid=>⟨i,kid.2,true,[],0⟩:=by
 rw[show cU N v i nm=λkid=>[⟨i,kid.2,true,[],0⟩] from funext λkid=>tf h1 h2 h3 h4]
 induction kids with
 |nil=>rfl
 |cons x r ih=>rw[KK,ih];rfl
section
variable {L:List Cm.Node} {i x y:Nat} {v:Vl} {P:Names} {kv:Vl} {a b:Jd}
theorem Fm(hL:Ends L)(hv:v.may=true)(hN:L[i]? =some ⟨P,false,false,[⟨eK,kv,[(a,x),(b,y)]⟩]⟩):valid L i v=[]↔valid L x v=[]/\valid L y v=[]:=by
 rw[kT hL hv hN (by decide),hJ (by decide) (by decide) (by decide) (by decide),du];constructor
 .rintro⟨h,_⟩;exact⟨h (⟨0,x,true,[],0⟩,valid L x v) (by simp[bQ]) rfl (by simp[kh]),h (⟨0,y,true,[],0⟩,valid L y v) (by simp[bQ]) rfl (by simp[kh])⟩
 .rintro⟨h1,h2⟩;refine⟨λp hp _ _=>?_,by unfold comb;simp[eK,ch,cm,eM,aR]⟩;simp[bQ] at hp;rcases hp with rfl|rfl
  .exact h1
  .exact h2
theorem Fo(hL:Ends L)(hv:v.may=true)(hN:L[i]? =some ⟨P,false,false,[⟨ch,kv,[(a,x),(b,y)]⟩]⟩):valid L i v=[]↔valid L x v=[]\/valid L y v=[]:=by
 rw[kT hL hv hN (by decide),hJ (by decide) (by decide) (by decide) (by decide),du];have hg:eA 0 (([(a,x),(b,y)].map λkid:Jd×Nat=>(⟨0,kid.2,true,[],0⟩:Ask)).map λz=>(z,valid L z.node (bQ v z)))=(if valid L x v=[] then 1 else 0)+(if valid L y v=[] then 1 else 0):=by
  simp[eA,bQ,L8];split<;>split<;>simp_all
 rw[hg];constructor
 .rintro⟨_,h⟩;unfold comb at h;by_cases h1:valid L x v=[]
  .exact .inl h1
  .by_cases h2:valid L y v=[]
   .exact .inr h2
   .rw[Jj h1,Jj h2] at h;exact absurd h (by simp)
 .intro h;refine⟨λp hp _ hq=>?_,?_⟩
  .simp[bQ] at hp;rcases hp with rfl|rfl<;>exact absurd hq (by simp[kh,eK,ch,cm,eM,eD])
  .unfold comb;rw[show decide (ch=cm)=false by decide,show decide (ch=eM)=false by decide];rcases h with h|h
   .rw[Jo h];simp
   .rw[Jo h];simp
theorem xE(hL:Ends L)(hv:v.may=true)(hN:L[i]? =some ⟨P,false,false,[⟨cm,kv,[(a,x),(b,y)]⟩]⟩):valid L i v=[]↔¬(valid L x v=[]↔valid L y v=[]):=by
 rw[kT hL hv hN (by decide),hJ (by decide) (by decide) (by decide) (by decide),du];have hg:eA 0 (([(a,x),(b,y)].map λkid:Jd×Nat=>(⟨0,kid.2,true,[],0⟩:Ask)).map λz=>(z,valid L z.node (bQ v z)))=(if valid L x v=[] then 1 else 0)+(if valid L y v=[] then 1 else 0):=by
  simp[eA,bQ,L8];split<;>split<;>simp_all
 rw[hg];constructor
 .rintro⟨_,h⟩;unfold comb at h;intro hiff;by_cases h1:valid L x v=[]
  .rw[Jo h1,Jo (hiff.1 h1)] at h;exact absurd h (by simp)
  .rw[Jj h1,Jj (λk=>h1 (hiff.2 k))] at h;exact absurd h (by simp)
 .intro h;refine⟨λp hp _ hq=>?_,?_⟩
  .simp[bQ] at hp;rcases hp with rfl|rfl<;>exact absurd hq (by simp[kh,eK,ch,cm,eM,eD])
  .unfold comb;rw[show decide (cm=ch)=false by decide,show decide (cm=eM)=false by decide];by_cases h1:valid L x v=[]
   .have h2:¬valid L y v=[]:=λk=>h ⟨λ_=>k,λ_=>h1⟩;rw[Jo h1,Jj h2];simp
   .have h2:valid L y v=[]:=by
     by_cases k:valid L y v=[]
     .exact k
     .exact absurd ⟨λz=>absurd z h1,λz=>absurd z k⟩ h
    rw[Jj h1,Jo h2];simp
theorem Fp(hL:Ends L)(hv:v.may=true)(hN:L[i]? =some ⟨P,false,false,[⟨eM,kv,[(a,x)]⟩]⟩):valid L i v=[]↔¬valid L x v=[]:=by
 rw[kT hL hv hN (by decide),hJ (by decide) (by decide) (by decide) (by decide),du];have hg:eA 0 (([(a,x)].map λkid:Jd×Nat=>(⟨0,kid.2,true,[],0⟩:Ask)).map λz=>(z,valid L z.node (bQ v z)))=(if valid L x v=[] then 1 else 0):=by
  simp[eA,bQ,L8]
 have hm:gg 0 (([(a,x)].map λkid:Jd×Nat=>(⟨0,kid.2,true,[],0⟩:Ask)).map λz=>(z,valid L z.node (bQ v z)))=1:=by
  simp[gg]
 rw[hg,hm];constructor
 .rintro⟨_,h⟩ h1;unfold comb at h;rw[Jo h1] at h;exact absurd h (by decide)
 .intro h;refine⟨λp hp _ hq=>?_,?_⟩
  .simp[bQ] at hp;subst hp;exact absurd hq (by simp[kh,eK,ch,cm,eM,eD])
  .unfold comb;rw[Jj h];decide
theorem zP(hL:Ends L)(hv:v.may=true){u:List Vl}(hu:v=.mk 4 false Nm.Num.zero [] u [])(hN:L[i]? =some ⟨P,false,false,[⟨aR,kv,[(a,x)]⟩]⟩):valid L i v=[]↔∀w∈u,valid L x w=[]:=by
 rw[kT hL hv hN (by decide),du];subst hu;have ha:[(a,x)].flatMap (cU ⟨P,false,false,[⟨aR,kv,[(a,x)]⟩]⟩ (.mk 4 false Nm.Num.zero [] u []) 0 aR)=ig 0 x u:=by
  rw[KK,Mp,JK];unfold cU;rw[Jj (by decide),Jo rfl];show[]++(ig 0 x u++[])=_;rw[JW,JK]
 rw[ha];constructor
 .rintro⟨h,_⟩ w hw;obtain⟨j,hj⟩:=JP hw;obtain⟨hjl,rfl⟩:=Jm.1 hj;have hm:(⟨0,x,false,Lib.decDigits j,j⟩:Ask)∈ig 0 x u:=Lr.2 ⟨j,hjl,rfl⟩;have:=h _ (JQ.2 ⟨_,hm,rfl⟩) rfl (by rfl);simpa[bQ,Sh.kindOf,Ow.bU,hj] using this
 .intro h;refine⟨λp hp _ _=>?_,by unfold comb;simp[eK,ch,cm,eM,aR]⟩;obtain⟨z,hz,rfl⟩:=JQ.1 hp;obtain⟨j,hj,rfl⟩:=Lr.1 hz;have:=h _ (Jv hj);simpa[bQ,Sh.kindOf,Ow.bU,Jg hj] using this
end
def Ie(d:Nat)(Q:Names)(nd:Nat->Names->Vl->Res (List Cm.Node)):Prop:=∀off P u a',off+d<=200->nd (off+d) (Q++P) u=.ok a'->off+d+a'.length<=200/\∃a,nd off P u=.ok a/\a'=a.map (dI d Q)
theorem oZ{d:Nat}{Q:Names}{nd:Nat->Names->Vl->Res (List Cm.Node)}(hnd:Ie d Q nd){single:Bool}{under:Names}:∀{l:List Mem} {off:Nat} {ks':List (Jd×Nat)} {a':List Cm.Node},off+d<=200->ar nd single (Q++under) (off+d) l=.ok (ks',a')->
  off+d+a'.length<=200/\∃ks a,ar nd single under off l=.ok (ks,a)/\ks'=ks.map (λp=>(p.1,p.2+d))/\a'=a.map (dI d Q)
 |[],off,ks',a',h,e=>by
  rw[ar] at e;injection e with e;injection e with e1 e2;subst e1 e2
  exact⟨by simpa using h,[],[],rfl,rfl,rfl⟩
 |(key,u)::r,off,ks',a',h,e=>by
  obtain⟨a1',ks2',a2',h1,h2,rfl,rfl⟩:=aN e;have h1':nd (off+d) (Q++(if single=true then under else under++[key])) u=.ok a1':=by
   rw[<-h1]
   congr 1
   split<;>simp
  obtain⟨hr1,a1,e1,rfl⟩:=hnd _ _ _ _ h h1';rw[JR] at hr1 h2;have h2':ar nd single (Q++under) (off+a1.length+d) r=.ok (ks2',a2'):=by rw[<-h2];congr 1;omega
  obtain⟨hr2,ks2,a2,e2,rfl,rfl⟩:=oZ hnd (by omega) h2';refine⟨by simp only[Jk,JR] at hr2 ⊢;omega,(key,off)::ks2,a1++a2,?_,rfl,by rw[JX]⟩;rw[ar,e1];simp only;rw[e2]
theorem pk{d:Nat}{Q:Names}{nd:Nat->Names->Vl->Res (List Cm.Node)}(hnd:Ie d Q nd){P:Names}:∀{m:List Mem} {off:Nat} {keys':List Cm.Key} {a':List Cm.Node},off+d<=200->av nd (Q++P) (off+d) m=.ok (keys',a')->
  off+d+a'.length<=200/\∃keys a,av nd P off m=.ok (keys,a)/\keys'=keys.map (l8 d)/\a'=a.map (dI d Q)
 |[],off,keys',a',h,e=>by
  rw[av] at e;injection e with e;injection e with e1 e2;subst e1 e2
  exact⟨by simpa using h,[],[],rfl,rfl,rfl⟩
 |(nm,w)::r,off,keys',a',h,e=>by
  obtain⟨h0,ks',a1',keys2',a2',h1,h2,rfl,rfl⟩:=bG e;rw[Ko] at h1;obtain⟨hr1,ks,a1,e1,rfl,rfl⟩:=oZ hnd h h1;rw[JR] at hr1 h2;have h2':av nd (Q++P) (off+a1.length+d) r=.ok (keys2',a2'):=by rw[<-h2];congr 1;omega
  obtain⟨hr2,keys2,a2,e2,rfl,rfl⟩:=pk hnd (by omega) h2';refine⟨by simp only[Jk,JR] at hr2 ⊢;omega,⟨nm,w,ks⟩::keys2,a1++a2,?_,rfl,by rw[JX]⟩;rw[av,Jo h0,e1];simp only;rw[e2]
theorem As(d:Nat)(Q:Names)(f:Nat):Ie d Q (node f):=by
 induction f with
 |zero=>intro off P u a' _ h;cases h
 |succ f ih=>
  intro off P u a' hd h;obtain⟨k,b,n,s,l,m⟩:=u;obtain⟨h0,keys',r',h1,rfl⟩:=dd h;rw[show off+d+1=off+1+d by omega] at h1;obtain⟨hr,keys,r,e1,rfl,rfl⟩:=pk ih (by omega) h1;refine⟨by simp only[Jl,JR] at hr ⊢;omega,⟨P,decide (k=1),b,keys⟩::r,?_,rfl⟩;rw[node,Jj (by omega),e1]
theorem mc{f d:Nat}{Q:Names}{u:Vl}{a a':List Cm.Node}(hd:d<=200)(h:node f d Q u=.ok a')(hf:u.size<=f)(hs:compile u=.ok a):a'=a.map (dI d Q):=by
 have h':node f (0+d) (Q++[]) u=.ok a':=by rw[JI,JK];exact h
 obtain⟨_,a0,e0,rfl⟩:=As d Q f 0 [] u a' (by omega) h';have hc:=hs;unfold compile at hc;split at hc
 .rw[Dj f u.size u 0 [] hf (Jh _),hc] at e0;injection e0 with e0;rw[e0]
 .cases hc
def oN(a:List Cm.Node):Prop:=∀N∈a,∀K∈N.keys,¬K.name=eD
theorem lQ{l:List Cm.Node}{P:Names}:∀{keys:List Cm.Key},(∀K∈keys,¬K.name=eD)->aw l P keys=.ok keys
 |[],_=>rfl
 |K::r,h=>by
  rw[aw,show dM l P K=.ok K by unfold dM;exact Jj (h K (by simp))];simp only;rw[lQ (λK hK=>h K (by simp[hK]))]
theorem kX{l:List Cm.Node}:∀{ns:List Cm.Node},oN ns->aq l ns=.ok ns
 |[],_=>rfl
 |N::r,h=>by
  rw[aq,lQ (h N (by simp))];simp only;rw[kX (λN hN=>h N (by simp[hN]))]
theorem D6{a:List Cm.Node}(h:oN a){b:List Cm.Node}(hl:link a=.ok b):b=a/\∀q,q<a.length->¬cy a q q:=by
 unfold link at hl;rw[kX h] at hl;simp only at hl;split at hl
 .cases hl
 .rename_i hr;injection hl with hl;subst hl;exact⟨rfl,λq hq=>lD hr q (JE _) (by omega)⟩
theorem FB{L:List Cm.Node}{a b:Nat}(h:cy L a b):a<L.length:=by
 induction h with
 |one s=>obtain⟨N,hN,_⟩:=s;exact(Jm.1 hN).1
 |more _ _ ih=>exact ih
theorem BF{L:List Cm.Node}(hi:fS L)(h:∀q,q<L.length->¬cy L q q):Ends L:=⟨hi,λq k=>h q (FB k) k⟩
theorem CJ{a b:List Cm.Node}(hi:fS a)(hl:link a=.ok b):Ends b:=by
 unfold link at hl;split at hl
 .cases hl
 .rename_i out ho;split at hl
  .cases hl
  .rename_i hr;injection hl with hl;subst hl;exact BF (lR hi ho).1 λq hq=>lD hr q (JE _) (by omega)
theorem Ip{v u:Vl}{j:Nat}{ns:Names}(h:(Ow.bU v)[j]? =some u)(hk:Sh.kindOf v=4)(hj:(Ow.bU v).length<=1000000):get v (Lib.decDigits j::ns)=get u ns:=by
 obtain⟨k,b,n,s,l,m⟩:=v;simp only[Sh.kindOf] at hk;subst hk;simp only[Ow.bU] at h hj;have hil:=(Jm.1 h).1;rw[Ed.ni,Ed.ot,Jo rfl,Ed.nt (Ed.x9 j (by omega)) (by rw[Nm.iX];exact hil) false,Nm.iX,Jo rfl,h];rfl
theorem get_mem{v:Vl}{j:Nat}{p:Mem}{ns:Names}(hv:v.may=true)(h:(cq v)[j]? =some p)(hk:Sh.kindOf v=5):get v (p.1::ns)=get p.2 ns:=by
 obtain⟨k,b,n,s,l,m⟩:=v;simp only[Sh.kindOf] at hk;subst hk;rw[Pt.get,Jj (by decide)];have hr:bO (m.map (·.1))=true:=by
  have:=(au hv).2.2.2.2.2.2.2.2;exact this.2.2.2
 rw[show(Vl.mk 5 b n s l m).find p.1=Js.find m p.1 from rfl,vg hr h]
def IZ(v:Vl)(y:F):Prop:=∃ns x,y.inst=text ns/\get v ns=some x
theorem kS{L:List Cm.Node}:∀(f i:Nat) (v:Vl),v.may=true->v.size<=1000000->∀y∈found f L i v,IZ v y
 |0,_,_,_,_,y,hy=>by cases hy
 |f+1,i,v,hv,hz,y,hy=>by
  rw[found] at hy;cases hN:L[i]? with
  |none=>rw[hN] at hy;cases hy
  |some N=>
   rw[hN] at hy;simp only at hy;rw[l9] at hy;unfold jV at hy;rcases Jq.1 hy with hy|hy
   .obtain⟨k,K,_,hy⟩:=cR.1 hy;unfold eX at hy;obtain⟨p,hp,hy⟩:=KB.1 hy;obtain⟨hp,_⟩:=L0.1 hp;obtain⟨x,hx,rfl⟩:=JQ.1 hp;obtain⟨z,hz2,rfl⟩:=JQ.1 hy;by_cases hh:x.here=true
    .have hat:bQ v x=v:=by unfold bQ;rw[Jo hh]
     simp only[hat] at hz2;obtain⟨ns,w,e1,e2⟩:=kS f x.node v hv hz z hz2;refine⟨ns,w,?_,e2⟩;show text (under x)++z.inst=_;unfold under;rw[Jo hh,e1];rfl
    .have hh':x.here=false:=by simpa using hh
     obtain⟨h1,h2,h3⟩:=mP hv hx hh';obtain⟨ns,w,e1,e2⟩:=kS f x.node (bQ v x) h2 (by omega) z hz2;refine⟨x.name::ns,w,?_,?_⟩
     .show text (under x)++z.inst=_;unfold under;rw[Jj hh,e1,fH,fH];simp[text]
     .rcases h3 with⟨u,hu,e3,e4,e5⟩|⟨p,hp,e3,e4,e5⟩
      .rw[e4,Ip hu e5 (by
        obtain⟨k,b,n,s,l,m⟩:=v;have:l.length<=aH l:=cS l;simp only[Vl.size] at hz;simp only[Ow.bU];omega),<-e3]
       exact e2
      .rw[e4,get_mem hv hp e5,<-e3];exact e2
   .obtain⟨nm,_,rfl⟩:=JQ.1 hy;exact⟨[],v,rfl,rfl⟩
theorem nQ{α:Type}[DecidableEq α]:∀{a b:List α},a.Nodup->(∀x∈a,x∈b)->a.length<=b.length
 |[],b,_,_=>JE _
 |x::r,b,h,hs=>by
  obtain⟨h1,h2⟩:=LK.1 h;have hx:=hs x (by simp);have:=nQ (b:=b.erase x) h2 (λy hy=>(List.mem_erase_of_ne (λe=>h1 (by rw[<-e];exact hy))).2 (hs y (by simp[hy])));rw[List.length_erase_of_mem hx] at this;have:=List.length_pos_of_mem hx;rw[Jl];omega
theorem DB{N:Cm.Node}{v:Vl}(h:(N.keys.map (·.name)).Nodup):(Ow.own N v).Nodup:=by
 unfold Ow.own;split
 .simp
 .exact(List.Sublist.map _ O5).nodup h
theorem ai{L:List Cm.Node}(hL:Ends L){i:Nat}{N:Cm.Node}{v:Vl}(hv:v.may=true)(hN:L[i]? =some N)(hk:(N.keys.map (·.name)).Nodup):(Ow.own N v).length<=(valid L i v).length:=by
 have h1:=nQ (a:=(Ow.own N v).map (fM N)) (b:=valid L i v) ?_ ?_
 .rwa[JR] at h1
 .exact List.Pairwise.map (fM N) (λa b hab e=>hab (by unfold fM at e;injection e)) (DB hk)
 .intro y hy;rw[sP hL hv hN,l9];unfold jV;rw[JX];simp[hy]
end Vd
