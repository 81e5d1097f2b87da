import Derived.Lib.AppendZeros
import Derived.Test.YtdhgmaonolgpnaaGreatDoorIl
import Derived.Test.YtdhgmaonolgpnaaGreatDoorFa
set_option linter.unusedSimpArgs false
namespace Go.Proofs.YtdhgmaonolgpnaaGreatDoor
section
open Go.RowKit Js
theorem vY{w:World}{B:Nat}{e:TypeId}{size:Nat}{v:Value}{n:Nat}{xs:List Value}(h:w.ownsRow B e size v n xs):∃A c,v=.slice A n c:=by
 rcases h.2 with⟨rfl,rfl⟩|⟨g,cap,cur,rfl,_⟩
 .exact⟨_,_,rfl⟩
 .exact⟨_,_,rfl⟩
abbrev IW:Array Value:=#[.int .i64 0,.bool false,.bool false,.string ⟨#[]⟩,.int .i64 0,.string ⟨#[]⟩,.slice none 0 0,.slice none 0 0]
theorem GY{P:Program}{t:TypeId}{z:Value}{s b:Nat}(h:(P.info? t).map (λi=>(i.zero,i.size,i.bytes))=some (some z,s,b)):∃i,P.info? t=some i/\i.zero=some z/\i.size=s/\i.bytes=b:=by
 cases hq:P.info? t with
 |none=>rw[hq] at h;cases h
 |some i=>
  rw[hq] at h;simp only[Kg,JM,Kl] at h;exact⟨i,rfl,h.1,h.2.1,h.2.2⟩
theorem Is:∃i,Tryz.prog.info? 31=some i/\i.zero=some (.agg IW)/\i.size=8/\i.bytes=112:=GY (by kernel_rfl)
def qk(w:World)(A:Option Addr)(n:Nat)(news:List Value):Prop:=
 (A=none->n=0)/\∀ad,A=some ad->∀(j:Nat) u,news[j]? =some u->w.cell? (ad.add j)=some u
theorem qk.keep{w w':World}{A:Option Addr}{n:Nat}{news:List Value}(h:qk w A n news)(hb:Below w.heap.size w w'):qk w' A n news:=
 ⟨h.1,λad ha j u hu=>by
  have hc:=h.2 ad ha j u hu
  rw[hb.cell (Jn w _ hc)];exact hc⟩
theorem lJ{P:Program}(w:World)(base:Nat)(t ty e:TypeId)(i:TypeInfo)(size:Nat)(ht:P.underlying t=some (.slice e))(hi:P.info? e=some i)
  (v:Value) (n:Nat) (xs:List Value) (hown:w.ownsRow base e size v n xs) (c:Nat):
  (Builtin.append_ #[t,t] ty #[v,.slice none 0 c]).run P w=.ok v w:=by
 rcases hown.2 with⟨rfl,rfl⟩|⟨g,cap,cur,rfl,_,_,hnc,_⟩
 .simp[Builtin.append_,NV ht,sizeOf,typeInfo,hi,Builtin.lenOf,Builtin.firstCells]
 .simp[Builtin.append_,NV ht,sizeOf,typeInfo,hi,Builtin.lenOf,Builtin.firstCells,hnc,storeCells]
theorem bN{P:Program}(w:World){ops:Array Oper}{rest:List Oper}{o:Oper}{a:Act}{Q:Exit->Act->World->Prop}(hgd:o.guard=none)(s x:Operand)(t:TypeId)
  (ho:o.op=.call {callee:=.builtin .append,args:=#[s,x],argTypes:=#[t,t]})
  (base:Nat) (e:TypeId) (i:TypeInfo) (z:Value) (size bytes:Nat) (ht:P.underlying t=some (.slice e)) (hi:P.info? e=some i) (hz:i.zero=some z)
  (hsize:i.size=size) (hby:i.bytes=bytes) (hzs:z.cells.size=size) (hsz:0<size)
  (v:Value) (n:Nat) (xs:List Value) (hs:a.eval s=v) (hown:w.ownsRow base e size v n xs)
  (A:Option Addr) (m c:Nat) (news:List Value) (hx:a.eval x=.slice A m c) (hl:news.length=m*size) (hsrc:qk w A m news) (h1:∀u∈news,u.oneCell'=true)
  (h63:n+m<=maxLen) (hbytes:(n+m)*bytes<=140737488355328) (hbase:base<=w.heap.size) (N:Nat) (hN:n+m=N)
  (h:∀A' c' w',w'.ownsRow base e size (.slice A' N c') N (xs++news)->w.grownBy w' v.ownBlock->wpList P ops Q rest (a.put o.dst (.slice A' N c')) w'):
  wpList P ops Q (o::rest) a w:=by
 refine wpList_plain hgd λK hK=>?_;subst hN;obtain⟨v',w',hrun,k1,k2⟩:∃v' w',(Builtin.append_ #[t,t] o.type #[v,.slice A m c]).run P w=.ok v' w'/\w'.ownsRow base e size v' (n+m) (xs++news)/\w.grownBy w' v.ownBlock:=by
  cases A with
  |none=>
   have h0:=hsrc.1 rfl;subst h0;have hn:news=[]:=K6 (by rw[hl,Lp]);subst hn;exact⟨v,w,lJ w base t o.type e i size ht hi v n xs hown c,by simpa using hown,World.grownBy.refl w _⟩
  |some ad=>
   obtain⟨v',w',r1,r2,r3,_,r5⟩:=run_append_own_at (P:=P) w base t o.type e i z size bytes ht hi hz hsize hby hzs hsz v n xs hown ad m c news hl (hsrc.2 ad rfl) h1 h63 hbytes hbase;exact⟨v',w',r1,r2,r3⟩
 obtain⟨A',c',rfl⟩:=vY k1;unfold Oper.wp;simp[execOp,ho,resolve,invoke,builtin,hs,hx,hrun,Result.andThen];exact hK _ _ (h A' c' w' k1 k2)
def NewV(w:World)(N:Nat)(flat:List Value)(e:Ending)(w':World):Prop:=
 ∃A c,e=.returned (.slice A N c)/\w'.ownsRow w.heap.size 31 8 (.slice A N c) N flat/\Below w.heap.size w w'
theorem C1(w:World)(S:Nat->Prop):Cl.le (w.on S) w.cell?:=λ_ _ hp=>(ah.1 hp).2
def eu(c:Cl)(m:List Js.Mem)(flat:List Value):Prop:=
 flat.length=m.length*9/\(∀u∈flat,u.oneCell'=true)/\∀i p,m[i]? =some p->∃y,p.2.In c y/\flat[i*9]? =some (.string ⟨p.1.toArray⟩)/\∀(j:Nat) u,y.cells[j]? =some u->flat[i*9+1+j]? =some u
def cK(c:Cl)(l:List Vl)(flat:List Value):Prop:=
 flat.length=l.length*8/\(∀u∈flat,u.oneCell'=true)/\∀i v,l[i]? =some v->∃y,v.In c y/\∀(j:Nat) u,y.cells[j]? =some u->flat[i*8+j]? =some u
theorem eu.nil(c:Cl):eu c [] []:=⟨rfl,(λu h=>by cases h),λi p h=>by simp at h⟩
theorem cK.nil(c:Cl):cK c [] []:=⟨rfl,(λu h=>by cases h),λi p h=>by simp at h⟩
theorem eu.keep{c c':Cl}(hc:c.le c'){m:List Js.Mem}{f:List Value}(h:eu c m f):eu c' m f:=
 ⟨h.1,h.2.1,λi p hi=>by obtain⟨y,h1,h2,h3⟩:=h.2.2 i p hi;exact⟨y,In.keep hc _ _ h1,h2,h3⟩⟩
theorem cK.keep{c c':Cl}(hc:c.le c'){l:List Vl}{f:List Value}(h:cK c l f):cK c' l f:=
 ⟨h.1,h.2.1,λi p hi=>by obtain⟨y,h1,h2⟩:=h.2.2 i p hi;exact⟨y,In.keep hc _ _ h1,h2⟩⟩
theorem rr{f g:List Value}{i:Nat}{u:Value}(h:f[i]? =some u):(f++g)[i]? =some u:=by
 rw[JD (Jm.1 h).1];exact h
theorem eu.append{c:Cl}{m n:List Js.Mem}{f g:List Value}(h:eu c m f)(k:eu c n g):eu c (m++n) (f++g):=by
 refine⟨by rw[Jk,Jk,h.1,k.1,Ly],λu hu=>(Jq.1 hu).elim (h.2.1 u) (k.2.1 u),λi p hi=>?_⟩;by_cases hlt:i<m.length
 .rw[JD hlt] at hi;obtain⟨y,h1,h2,h3⟩:=h.2.2 i p hi;exact⟨y,h1,rr h2,λj u hj=>rr (h3 j u hj)⟩
 .rw[Jx (by omega)] at hi;obtain⟨y,h1,h2,h3⟩:=k.2.2 _ p hi;have e:∀r,i*9+r=f.length+((i-m.length)*9+r):=λr=>by rw[h.1,Nat.sub_mul];have:m.length*9<=i*9:=K9 _ (by omega);omega
  refine⟨y,h1,?_,λj u hj=>?_⟩
  .have:=e 0;rw[Kx,Kx] at this;rw[this,Jx (by omega),Kz];exact h2
  .rw[O1,e,Jx (by omega),Kz,<-Nat.add_assoc];exact h3 j u hj
theorem cK.append{c:Cl}{m n:List Vl}{f g:List Value}(h:cK c m f)(k:cK c n g):cK c (m++n) (f++g):=by
 refine⟨by rw[Jk,Jk,h.1,k.1,Ly],λu hu=>(Jq.1 hu).elim (h.2.1 u) (k.2.1 u),λi p hi=>?_⟩;by_cases hlt:i<m.length
 .rw[JD hlt] at hi;obtain⟨y,h1,h3⟩:=h.2.2 i p hi;exact⟨y,h1,λj u hj=>rr (h3 j u hj)⟩
 .rw[Jx (by omega)] at hi;obtain⟨y,h1,h3⟩:=k.2.2 _ p hi;have e:∀r,i*8+r=f.length+((i-m.length)*8+r):=λr=>by rw[h.1,Nat.sub_mul];have:m.length*8<=i*8:=K9 _ (by omega);omega
  refine⟨y,h1,λj u hj=>?_⟩;rw[e,Jx (by omega),Kz];exact h3 j u hj
theorem qs{c:Cl}{v:Vl}{y:Value}(h:v.In c y):y.cells.toList.length=8/\∀u∈y.cells.toList,u.oneCell'=true:=by
 obtain⟨k1,b1,n1,g1,x1,s1,A1,l1,p1,B1,m1,d1,rfl⟩:=In.cells h;refine⟨rfl,λu hu=>?_⟩;simp only[Value.cells,JB,Ky,Lk] at hu;rcases hu with rfl|rfl|rfl|rfl|rfl|rfl|rfl|rfl<;>rfl
theorem eu.one{c:Cl}{p:Js.Mem}{y:Value}(h:p.2.In c y):eu c [p] (.string ⟨p.1.toArray⟩::y.cells.toList):=by
 obtain⟨h8,h1⟩:=qs h;refine⟨by simp only[Jl,h8,Jw],λu hu=>?_,λi q hi=>?_⟩
 .rcases JB.1 hu with rfl|hu
  .rfl
  .exact h1 u hu
 .have hl:=(Jm.1 hi).1;obtain rfl:i=0:=by simpa using hl
  obtain rfl:p=q:=by simpa using hi
  refine⟨y,h,rfl,λj u hj=>?_⟩;rw[show 0*9+1+j=j+1 by omega,Kr,LO];exact hj
theorem cK.one{c:Cl}{v:Vl}{y:Value}(h:v.In c y):cK c [v] y.cells.toList:=by
 obtain⟨h8,h1⟩:=qs h;refine⟨by simp only[h8,Jl,Jw],h1,λi q hi=>?_⟩;have hl:=(Jm.1 hi).1;obtain rfl:i=0:=by simpa using hl
 obtain rfl:v=q:=by simpa using hi
 refine⟨y,h,λj u hj=>?_⟩;rw[Lp,JI,LO];exact hj
theorem tJ{c:Cl}{y:Value}{g o:Nat}(hc:bP c g o y)(j:Nat)(u:Value)(hj:y.cells.toList[j]? =some u):c ⟨g,o+j,none⟩=some u:=
 hc j u (by rw[LO] at hj;exact hj)
theorem eu.of{c:Cl}{g:Nat}:∀(m:List Js.Mem) (o:Nat),(∀i p,m[i]? =some p->∃y,p.2.In c y/\c ⟨g,o+i*9,none⟩=some (.string ⟨p.1.toArray⟩)/\bP c g (o+i*9+1) y)->
  ∃f,eu c m f/\∀(j:Nat) u,f[j]? =some u->c ⟨g,o+j,none⟩=some u
 |[],o,_=>⟨[],eu.nil c,λj u h=>by simp at h⟩
 |p::m,o,h=>by
  obtain⟨y,h1,h2,h3⟩:=h 0 p rfl;obtain⟨f,k1,k2⟩:=eu.of m (o+9) (λi q hi=>by
   obtain⟨z,q1,q2,q3⟩:=h (i+1) q (by simpa using hi);rw[show o+(i+1)*9=o+9+i*9 by omega] at q2 q3;exact⟨z,q1,q2,q3⟩)
  refine⟨(.string ⟨p.1.toArray⟩::y.cells.toList)++f,(eu.one h1).append k1,λj u hj=>?_⟩;obtain⟨h8,_⟩:=qs h1;rw[Lp,Kx] at h2 h3;by_cases hlt:j<9
  .rw[JD (by simp only[Jl,h8];omega)] at hj;cases j with
   |zero=>
    rw[Lh] at hj;injection hj with hj;subst hj;exact h2
   |succ j=>
    rw[Kr] at hj;rw[show o+(j+1)=o+1+j by omega];exact tJ h3 j u hj
  .rw[Jx (by simp only[Jl,h8];omega)] at hj;simp only[Jl,h8] at hj;have:=k2 _ u hj;rw[show o+9+(j-(8+1))=o+j by omega] at this;exact this
theorem cK.of{c:Cl}{g:Nat}:∀(m:List Vl) (o:Nat),(∀i p,m[i]? =some p->∃y,p.In c y/\bP c g (o+i*8) y)->
  ∃f,cK c m f/\∀(j:Nat) u,f[j]? =some u->c ⟨g,o+j,none⟩=some u
 |[],o,_=>⟨[],cK.nil c,λj u h=>by simp at h⟩
 |p::m,o,h=>by
  obtain⟨y,h1,h3⟩:=h 0 p rfl;obtain⟨f,k1,k2⟩:=cK.of m (o+8) (λi q hi=>by
   obtain⟨z,q1,q3⟩:=h (i+1) q (by simpa using hi);rw[show o+(i+1)*8=o+8+i*8 by omega] at q3;exact⟨z,q1,q3⟩)
  refine⟨y.cells.toList++f,(cK.one h1).append k1,λj u hj=>?_⟩;obtain⟨h8,_⟩:=qs h1;rw[Lp,Kx] at h3;by_cases hlt:j<8
  .rw[JD (by rw[h8];exact hlt)] at hj;exact tJ h3 j u hj
  .rw[Jx (by rw[h8];omega),h8] at hj;have:=k2 _ u hj;rw[show o+8+(j-8)=o+j by omega] at this;exact this
theorem lY(g o j:Nat):(⟨g,o,none⟩:Addr).add j=⟨g,o+j,none⟩:=by
 unfold Addr.add;by_cases hj0:j=0<;>simp[hj0]
def uL(A:Option Addr)(d l k:Nat):Option Addr:=if d=l then A else A.map (·.add (l*k))
theorem SlM.flat{w:World}{S:Nat->Prop}{A:Option Addr}{m:List Js.Mem}(h:SlM (w.on S) A m):∃f,eu (w.on S) m f/\qk w A m.length f:=by
 cases m with
 |nil=>exact⟨[],eu.nil _,λ_=>rfl,λad _ j u hj=>by simp at hj⟩
 |cons p m=>
  obtain⟨g,o,_,rfl,_,_,_⟩:=h 0 p rfl;obtain⟨f,k1,k2⟩:=eu.of (c:=w.on S) (g:=g) (p::m) o (λi q hi=>by
   obtain⟨g',o',y,e,q1,q2,q3⟩:=h i q hi;injection e with e;injection e with e1 e2;subst e1 e2;exact⟨y,q1,q2,q3⟩)
  exact⟨f,k1,(λe=>by cases e),λad e j u hj=>by injection e with e;subst e;rw[lY];exact C1 _ _ _ _ (k2 j u hj)⟩
theorem eu.sl{w:World}{B:Nat}{A:Option Addr}{N c:Nat}{r:Cl}{m:List Js.Mem}{f:List Value}(h:eu r m f)(hr:∀g j u,B<=g->w.cell? ⟨g,j,none⟩=some u->r ⟨g,j,none⟩=some u)(hown:w.ownsRow B 95 9 (.slice A N c) N f):SlM r A m:=λi p hi=>by
 obtain⟨y,h1,h2,h3⟩:=h.2.2 i p hi;have hil:=(Jm.1 hi).1;rcases hown.2 with⟨_,h0⟩|⟨g,cap,cur,e,hbg,_⟩
 .have:=hown.1;have:=h.1;omega
 .injection e with e1 e2 e3;subst e1;have hc:=hown.cells (g:=g) rfl;refine⟨g,0,y,rfl,h1,?_,λj u hj=>?_⟩
  .have:=hc _ _ h2;rw[lY] at this;exact hr _ _ _ hbg this
  .have:=hc _ _ (h3 j u hj);rw[lY] at this;rw[show 0+i*9+1+j=0+(i*9+1+j) by omega];exact hr _ _ _ hbg this
theorem SlM.take{c:Cl}{A:Option Addr}{m:List Js.Mem}(h:SlM c A m)(i:Nat):SlM c A (m.take i):=λk p hk=>by
 have hkl:=(Jm.1 hk).1;rw[LB (by simp at hkl;omega)] at hk;exact h k p hk
theorem SlM.drop{c:Cl}{A:Option Addr}{m:List Js.Mem}(h:SlM c A m){j d:Nat}(hd:m.length<=d):SlM c (uL A d j 9) (m.drop j):=λk p hk=>by
 rw[Kf] at hk;have hkl:=(Jm.1 hk).1;obtain⟨g,o,y,rfl,h1,h2,h3⟩:=h _ p hk;refine⟨g,o+j*9,y,?_,h1,?_,?_⟩
 .unfold uL;rw[Jj (by omega),Kg,lY]
 .rw[show o+j*9+k*9=o+(j+k)*9 by omega];exact h2
 .rw[show o+j*9+k*9=o+(j+k)*9 by omega];exact h3
theorem ED{w:World}{S:Nat->Prop}{A:Option Addr}{m:List Vl}(h:SlL (w.on S) A m):∃f,cK (w.on S) m f/\qk w A m.length f:=by
 cases m with
 |nil=>exact⟨[],cK.nil _,λ_=>rfl,λad _ j u hj=>by simp at hj⟩
 |cons p m=>
  obtain⟨g,o,_,rfl,_,_⟩:=h 0 p rfl;obtain⟨f,k1,k2⟩:=cK.of (c:=w.on S) (g:=g) (p::m) o (λi q hi=>by
   obtain⟨g',o',y,e,q1,q3⟩:=h i q hi;injection e with e;injection e with e1 e2;subst e1 e2;exact⟨y,q1,q3⟩)
  exact⟨f,k1,(λe=>by cases e),λad e j u hj=>by injection e with e;subst e;rw[lY];exact C1 _ _ _ _ (k2 j u hj)⟩
theorem cK.sl{w:World}{B:Nat}{A:Option Addr}{N c:Nat}{r:Cl}{m:List Vl}{f:List Value}(h:cK r m f)(hr:∀g j u,B<=g->w.cell? ⟨g,j,none⟩=some u->r ⟨g,j,none⟩=some u)(hown:w.ownsRow B 31 8 (.slice A N c) N f):SlL r A m:=λi p hi=>by
 obtain⟨y,h1,h3⟩:=h.2.2 i p hi;have hil:=(Jm.1 hi).1;rcases hown.2 with⟨_,h0⟩|⟨g,cap,cur,e,hbg,_⟩
 .have:=hown.1;have:=h.1;omega
 .injection e with e1 e2 e3;subst e1;have hc:=hown.cells (g:=g) rfl;refine⟨g,0,y,rfl,h1,λj u hj=>?_⟩;have:=hc _ _ (h3 j u hj);rw[lY] at this;rw[show 0+i*8+j=0+(i*8+j) by omega];exact hr _ _ _ hbg this
theorem SlL.take{c:Cl}{A:Option Addr}{m:List Vl}(h:SlL c A m)(i:Nat):SlL c A (m.take i):=λk p hk=>by
 have hkl:=(Jm.1 hk).1;rw[LB (by simp at hkl;omega)] at hk;exact h k p hk
theorem SlL.drop{c:Cl}{A:Option Addr}{m:List Vl}(h:SlL c A m){j d:Nat}(hd:m.length<=d):SlL c (uL A d j 8) (m.drop j):=λk p hk=>by
 rw[Kf] at hk;have hkl:=(Jm.1 hk).1;obtain⟨g,o,y,rfl,h1,h3⟩:=h _ p hk;refine⟨g,o+j*8,y,?_,h1,?_⟩
 .unfold uL;rw[Jj (by omega),Kg,lY]
 .rw[show o+j*8+k*8=o+(j+k)*8 by omega];exact h3
end
namespace Ed
open Js Pt
open Ps (less)
end Ed
section
open Go.RowKit Js
def aB(t:List Jd):List Value:=t.map λn=>Value.string ⟨n.toArray⟩
def aG(W:World)(B:Nat)(A:Option Addr)(c:Nat)(t:List Jd):Prop:=W.ownsRow B 9 1 (.slice A t.length c) t.length (aB t)
section
variable {W W':World} {B:Nat} {A:Option Addr} {c:Nat} {t:List Jd}
theorem aG.nil(W:World)(B:Nat):aG W B none 0 []:=KT W B _ 1
theorem aG.on(h:aG W B A c t)(hb:Below W.heap.size W W'):aG W' B A c t:=aA h (λk _ hk=>hb.block k hk)
theorem aG.le(h:aG W B A c t):t.length<=c/\c<=maxLen/\∀ad,A=some ad->∃g,ad=⟨g,0,none⟩/\B<=g/\g<W.heap.size:=by
 have hl:=ai h;exact⟨hl.1,hl.2.1,hl.2.2.2⟩
theorem aG.less{B':Nat}(h:aG W B A c t)(hB:B'<=B):aG W B' A c t:=by
 obtain⟨q1,q2⟩:=h;refine⟨q1,q2.imp id ?_⟩;rintro⟨g,cap,cur,r1,r2,r3⟩;exact⟨g,cap,cur,r1,by omega,r3⟩
theorem iB(t:List Jd):∀u∈aB t,u.oneCell'=true:=λu hu=>by
 obtain⟨n,_,rfl⟩:=JQ.1 hu;rfl
theorem aG.strs(h:aG W B A c t):Strs W.cell? A t:=λi n hi=>by
 have hl:=ai h;have hil:=(Jm.1 hi).1;cases hA:A with
 |none=>have:=(hl.2.2.1 hA).1;omega
 |some ad=>
  obtain⟨g,rfl,_⟩:=hl.2.2.2 ad hA;subst hA;refine⟨g,0,rfl,?_⟩;rw[JI];exact ax h i _ (by unfold aB;rw[JZ,hi];rfl)
end
theorem jC:∃i,Tryz.prog.info? 9=some i/\i.zero=some (.string ⟨#[]⟩)/\i.size=1/\i.bytes=16:=by
 have h:(Tryz.prog.info? 9).map (λi=>(i.zero,i.size,i.bytes))=some (some (.string ⟨#[]⟩),1,16):=by kernel_rfl
 cases hq:Tryz.prog.info? 9 with
 |none=>rw[hq] at h;cases h
 |some i=>
  rw[hq] at h;simp only[Kg,JM,Kl] at h;exact⟨i,rfl,h.1,h.2.1,h.2.2⟩
def Ow.jU(keys:List Cm.Key)(v:Vl):List Jd:=(keys.filter λk=>Ow.aZ k.name k.v v).map (·.name)
theorem Ow.uZ{keys:List Cm.Key}{v:Vl}{k:Nat}(h:k<keys.length):Ow.jU (keys.take (k+1)) v=Ow.jU (keys.take k) v++(if Ow.aZ keys[k].name keys[k].v v=true then[keys[k].name] else[]):=by
 unfold Ow.jU;rw[Jr h,List.filter_append,JX]
 congr 1
 simp only[List.filter_cons,List.filter_nil];split<;>rfl
theorem Ow.xp(keys:List Cm.Key)(v:Vl):(Ow.jU keys v).length<=keys.length:=by
 unfold Ow.jU;rw[JR];exact Mx _ _
end
section
open Go.RowKit Go.Maps Go.ChangeMaps Go.MapKept Js Pt
def j0(x:Vd.Ask):List Value:=[.int .i64 (x.key:Int),.int .i64 (x.node:Int),.bool x.here,.string ⟨x.name.toArray⟩,.int .i64 (x.at_:Int)]
def eU(l:List Vd.Ask):List Value:=l.flatMap j0
theorem nW(a b:List Vd.Ask):eU (a++b)=eU a++eU b:=by simp[eU]
theorem tE(l:List Vd.Ask):∀u∈eU l,u.oneCell'=true:=by
 intro u hu;obtain⟨f,_,hf⟩:=KB.1 hu;simp only[j0,JB,Ky,Lk] at hf;rcases hf with rfl|rfl|rfl|rfl|rfl<;>rfl
theorem jx:∀{l:List Vd.Ask} {i:Nat} {f:Vd.Ask},l[i]? =some f->∀q u,(j0 f)[q]? =some u->(eU l)[i*5+q]? =some u
 |[],i,f,h,_,_,_=>by simp at h
 |x::r,0,f,h,q,u,hu=>by
  simp only[Lh,JM] at h;subst h;show(j0 x++eU r)[0*5+q]? =_;have hq:q<5:=(Jm.1 hu).1;rw[JD (by show 0*5+q<5;omega),Lp,JI];exact hu
 |x::r,i+1,f,h,q,u,hu=>by
  simp only[Kr] at h;show(j0 x++eU r)[(i+1)*5+q]? =_;rw[Jx (by show 5<=(i+1)*5+q;omega),show(i+1)*5+q-(j0 x).length=i*5+q by show(i+1)*5+q-5=_;omega];exact jx h q u hu
def az(W:World)(B:Nat)(A:Option Addr)(c:Nat)(l:List Vd.Ask):Prop:=W.ownsRow B 121 5 (.slice A l.length c) l.length (eU l)
def cT(t:List Nat):List Value:=t.map λn:Nat=>Value.int .i64 (n:Int)
def Ints(W:World)(B:Nat)(A:Option Addr)(c:Nat)(t:List Nat):Prop:=W.ownsRow B 3 1 (.slice A t.length c) t.length (cT t)
def mE(g:Nat):Value:=.pointer (some ⟨g,0,none⟩)
def dO(t:List Nat):List Value:=t.map mE
def gR(W:World)(B:Nat)(A:Option Addr)(c:Nat)(t:List Nat):Prop:=W.ownsRow B 54 1 (.slice A t.length c) t.length (dO t)
theorem rW{α:Type}{f:α->Value}(hf:∀a,(f a).oneCell'=true)(t:List α):∀u∈t.map f,u.oneCell'=true:=λu hu=>by
 obtain⟨n,_,rfl⟩:=JQ.1 hu;exact hf n
theorem l5{w:World}{B:Nat}{e:TypeId}{c:Nat}{A:Option Addr}{α:Type}{f:α->Value}{t:List α}(h:w.ownsRow B e 1 (.slice A t.length c) t.length (t.map f)){j:Nat}{x:α}(hj:t[j]? =some x):∃g,A=some ⟨g,0,none⟩/\B<=g/\g<w.heap.size/\w.cell? ⟨g,j,none⟩=some (f x):=by
 have hl:=ai h;have hil:=(Jm.1 hj).1;cases hA:A with
 |none=>have:=(hl.2.2.1 hA).1;omega
 |some ad=>
  obtain⟨g,rfl,h1,h2⟩:=hl.2.2.2 ad hA;subst hA;exact⟨g,rfl,h1,h2,ax h j _ (by rw[JZ,hj];rfl)⟩
theorem az.item{w:World}{B:Nat}{A:Option Addr}{c:Nat}{l:List Vd.Ask}(h:az w B A c l){j:Nat}{x:Vd.Ask}(hj:l[j]? =some x):∃g,A=some ⟨g,0,none⟩/\B<=g/\g<w.heap.size/\w.cell? ⟨g,j*5,none⟩=some (.int .i64 (x.key:Int))/\w.cell? ⟨g,j*5+1,none⟩=some (.int .i64 (x.node:Int))/\w.cell? ⟨g,j*5+2,none⟩=some (.bool x.here)/\w.cell? ⟨g,j*5+3,none⟩=some (.string ⟨x.name.toArray⟩)/\w.cell? ⟨g,j*5+4,none⟩=some (.int .i64 (x.at_:Int)):=by
 have hl:=ai h;have hil:=(Jm.1 hj).1;cases hA:A with
 |none=>have:=(hl.2.2.1 hA).1;omega
 |some ad=>
  obtain⟨g,rfl,h1,h2⟩:=hl.2.2.2 ad hA;subst hA;exact⟨g,rfl,h1,h2,ax h _ _ (jx hj 0 _ rfl),ax h _ _ (jx hj 1 _ rfl),ax h _ _ (jx hj 2 _ rfl),ax h _ _ (jx hj 3 _ rfl),ax h _ _ (jx hj 4 _ rfl)⟩
theorem az.on{W W':World}{B:Nat}{A:Option Addr}{c:Nat}{l:List Vd.Ask}(h:az W B A c l)(hb:Below W.heap.size W W'):az W' B A c l:=aA h (λk _ hk=>hb.block k hk)
theorem az.nil(W:World)(B:Nat):az W B none 0 []:=KT W B _ 5
theorem az.less{W:World}{B B':Nat}{A:Option Addr}{c:Nat}{l:List Vd.Ask}(h:az W B A c l)(hB:B'<=B):az W B' A c l:=by
 obtain⟨q1,q2⟩:=h;refine⟨q1,q2.imp id ?_⟩;rintro⟨g,cap,cur,r1,r2,r3⟩;exact⟨g,cap,cur,r1,by omega,r3⟩
theorem Ints.on{W W':World}{B:Nat}{A:Option Addr}{c:Nat}{t:List Nat}(h:Ints W B A c t)(hb:Below W.heap.size W W'):Ints W' B A c t:=aA h (λk _ hk=>hb.block k hk)
theorem Ints.nil(W:World)(B:Nat):Ints W B none 0 []:=KT W B _ 1
theorem gR.on{W W':World}{B:Nat}{A:Option Addr}{c:Nat}{t:List Nat}(h:gR W B A c t)(hb:Below W.heap.size W W'):gR W' B A c t:=aA h (λk _ hk=>hb.block k hk)
theorem gR.nil(W:World)(B:Nat):gR W B none 0 []:=KT W B _ 1
theorem gR.pop{W:World}{B:Nat}{A:Option Addr}{c:Nat}{t:List Nat}{x:Nat}(h:gR W B A c (t++[x])):∃g,A=some ⟨g,0,none⟩/\B<=g/\g<W.heap.size/\W.cell? ⟨g,t.length,none⟩=some (mE x)/\t.length+1<=c/\gR W B (some ⟨g,0,none⟩) c t:=by
 have h0:=h;obtain⟨h1,⟨_,h2⟩|⟨g,cap,cur,e,hb,hc,q1,q2,q3,q4⟩⟩:=h0
 .rw[Jk] at h2;simp at h2
 .injection e with e1 e2 e3;subst e1 e3;have hlt:g<W.heap.size:=by
   rcases KW g W.heap.size with k|k
   .exact k
   .rw[Ll k] at hc;cases hc
  have hn:(t++[x]).length=t.length+1:=by simp
  rw[hn] at q1;have hap:dO (t++[x])=dO t++[mE x]:=by simp[dO]
  have hlen:(dO t).length=t.length*1:=by simp[dO]
  refine⟨g,rfl,hb,hlt,?_,q1,hlen,.inr ⟨g,c,cur,rfl,hb,hc,by omega,q2,q3,?_⟩⟩
  .refine ax h t.length _ ?_;rw[hap,Jx (by omega),hlen];simp
  .have:=Kk (List.take (t.length*1)) q4;rw[List.take_take,hn,MD (by omega)] at this;rw[this,hap,MI (by omega),L7 (by omega)]
def cX(w:World)(b:Nat)(m:Nat->Option Value):Prop:=∃n S,iE Tryz.prog 3 w b n S/\∀i:Nat,S (.int .i64 (i:Int))=m i
theorem Hz{P:Program}{K:TypeId}(hK:P.underlying K=some (.int .i64)){i:Nat}(hi:i<=1000000000000000000):keyOf P K (.int .i64 (i:Int))=some (.int .i64 (i:Int)):=keyOf_int_mk hK (by
 simp only[Lit.wf,JH,JF];have e1:IntKind.min .i64= -9223372036854775808:=by decide
 have e2:IntKind.max .i64=9223372036854775807:=by decide
 rw[e1,e2];omega)
section
variable {w w':World} {b:Nat} {m:Nat->Option Value}
theorem cX.new(w:World):cX (w.alloc (.map #[] 0)) w.heap.size (λ_=>none):=⟨0,_,iE.new w,λ_=>rfl⟩
theorem cX.lt(h:cX w b m):b<w.heap.size:=by obtain⟨n,S,h,_⟩:=h;exact h.lt
theorem cX.far(h:cX w b m)(hb:w'.heap[b]? =w.heap[b]?):cX w' b m:=by obtain⟨n,S,h,h2⟩:=h;exact⟨n,S,h.far hb,h2⟩
theorem cX.on(h:cX w b m)(hb:Below w.heap.size w w'):cX w' b m:=h.far (hb.block b h.lt)
theorem cX.off(h:cX w b m){g:Nat}{cs:Array Value}{t:TypeId}(hg:Blk w g t cs):¬b=g:=λe=>by
 obtain⟨n,S,⟨es,clock,h1,_⟩,_⟩:=h;subst e;rw[show w.heap[b]? =some (.cells cs t) from hg] at h1;cases h1
theorem cX.ox(h:cX w b m){B:Nat}{e:TypeId}{size n c:Nat}{A:Option Addr}{xs:List Value}(hr:w.ownsRow B e size (.slice A n c) n xs):¬Bk A b:=by
 rintro⟨ad,rfl,rfl⟩;obtain⟨_,⟨e0,_⟩|⟨g,cap,cur,e0,_,hc,_⟩⟩:=hr
 .injection e0 with e0;cases e0
 .injection e0 with e0;injection e0 with e0;subst e0;obtain⟨n,S,⟨es,clock,h1,_⟩,_⟩:=h;rw[hc] at h1;cases h1
theorem cX.look{T E:TypeId}(h:cX w b m)(hT:Tryz.prog.underlying T=some (.map 3 E)){z:Value}(hz:(zeroValue E).run Tryz.prog w=.ok z w){i:Nat}(hi:i<=1000000000000000000)(c:Bool):
  (Instr.lookup T (.map (some b)) (.int .i64 (i:Int)) c).run Tryz.prog w=.ok (if c then .tuple #[(m i).getD z,.bool (m i).isSome] else(m i).getD z) w:=by
 obtain⟨n,S,h,h2⟩:=h;have:=h.look (int_keyed Tryz.underlying3) hT hz (Hz Tryz.underlying3 hi) c;rw[h2] at this;exact this
theorem cX.put{T E:TypeId}(h:cX w b m)(hT:Tryz.prog.underlying T=some (.map 3 E)){i:Nat}(hi:i<=1000000000000000000)(x:Value):
  ∃w',(Instr.mapUpdate T (.map (some b)) (.int .i64 (i:Int)) x).run Tryz.prog w=.ok () w'/\cX w' b (λj=>if j=i then some x else m j)/\w.grownBy w' (some b):=by
 obtain⟨n,S,h,h2⟩:=h;obtain⟨w',h3,h4,h5⟩:=h.put (int_keyed Tryz.underlying3) hT (Hz Tryz.underlying3 hi) (v:=x) (S':=λy=>open Classical in if(Value.int .i64 (i:Int))=y then some x else S y) (by simp) (λy hy=>by simp[hy]);refine⟨w',h3,⟨_,_,h4,λj=>?_⟩,h5⟩;by_cases e:j=i
 .subst e;simp
 .have:¬(Value.int .i64 (i:Int))=.int .i64 (j:Int):=by
   intro k;injection k with _ k;omega
  simp only[Jj this,Jj e];exact h2 j
end
inductive cg (c:Cl):Value->Cm.Names->Prop
 |nil:cg c (.pointer none) []
 |snoc {g:Nat} {pv:Value} {ns:Cm.Names} {nm:Jd}:c ⟨g,0,none⟩=some pv->cg c pv ns->c ⟨g,1,none⟩=some (.string ⟨nm.toArray⟩)->cg c (mE g) (ns++[nm])
def C5:Value->Bool
 |.pointer _=>true
 |.string _=>true
 |.slice _ _ _=>true
 |_=>false
theorem cg.plain{c:Cl}{pv:Value}{ns:Cm.Names}(h:cg c pv ns):C5 pv=true:=by cases h<;>rfl
def leN(c c':Cl):Prop:=∀p u,c p=some u->C5 u=true->c' p=some u
theorem leN.of{c c':Cl}(h:c.le c'):leN c c':=λp u hu _=>h p u hu
theorem leN.trans{c c' c'':Cl}(h:leN c c')(h':leN c' c''):leN c c'':=λp u hu hn=>h' p u (h p u hu hn) hn
theorem cg.keep{c c':Cl}(h:leN c c'){pv:Value}{ns:Cm.Names}(hp:cg c pv ns):cg c' pv ns:=by
 induction hp with
 |nil=>exact .nil
 |@snoc g pv ns nm h1 h2 h3 ih=>exact .snoc (h _ _ h1 h2.plain) ih (h _ _ h3 rfl)
theorem cg.same{c:Cl}{pv:Value}{ns ns':Cm.Names}(h:cg c pv ns)(h':cg c pv ns'):ns=ns':=by
 induction h generalizing ns' with
 |nil=>
  generalize hv:Value.pointer none=v at h';cases h' with
  |nil=>rfl
  |snoc=>cases hv
 |@snoc g pv ns nm h1 h2 h3 ih=>
  generalize hv:mE g=v at h';cases h' with
  |nil=>cases hv
  |@snoc g' pv' ns' nm' k1 k2 k3=>
   have hg:g=g':=by simpa[mE] using hv
   subst hg;rw[h1] at k1;injection k1 with k1;subst k1;rw[h3] at k3;injection k3 with k3;injection k3 with k3;injection k3 with k3;rw[ih k2,show nm=nm' from by simpa using Kk Array.toList k3]
def kF(c:Cl)(s:Vd.Fd):Prop:=∃pv A cA D cD,c ⟨s.g,0,none⟩=some pv/\cg c pv s.ns/\c ⟨s.g,1,none⟩=some (.string ⟨s.path.toArray⟩)/\c ⟨s.g,2,none⟩=some (.slice A s.names.length cA)/\s.names.length<=cA/\cA<=maxLen/\Strs c A s.names/\c ⟨s.g,3,none⟩=some (.slice D s.on.length cD)/\s.on.length<=cD/\cD<=maxLen/\∀(j:Nat) u,s.on[j]? =some u->∃b o,D=some ⟨b,o,none⟩/\c ⟨b,o+j,none⟩=some (mE u.g)
theorem kF.keep{c c':Cl}(h:leN c c'){s:Vd.Fd}(hs:kF c s):kF c' s:=by
 obtain⟨pv,A,cA,D,cD,h1,h2,h3,h4,h5,h6,h7,h8,h9,h10,h11⟩:=hs;refine⟨pv,A,cA,D,cD,h _ _ h1 h2.plain,h2.keep h,h _ _ h3 rfl,h _ _ h4 rfl,h5,h6,λi n hi=>?_,h _ _ h8 rfl,h9,h10,λj u hu=>?_⟩
 .obtain⟨g,o,e1,e2⟩:=h7 i n hi;exact⟨g,o,e1,h _ _ e2 rfl⟩
 .obtain⟨b,o,e1,e2⟩:=h11 j u hu;exact⟨b,o,e1,h _ _ e2 rfl⟩
theorem E5{c:Cl}{A:Option Addr}{l l':List Jd}(h:Strs c A l)(h':Strs c A l')(hl:l.length=l'.length):l=l':=by
 refine Nq hl λi h1 h2=>?_;obtain⟨g,o,e1,e2⟩:=h i _ (Jg h1);obtain⟨g',o',e3,e4⟩:=h' i _ (Jg h2);rw[e1] at e3;injection e3 with e3;injection e3 with e3 e5;subst e3 e5;rw[e2] at e4;injection e4 with e4;injection e4 with e4;injection e4 with e4;simpa using Kk Array.toList e4
theorem GR{c:Cl}(s:Vd.Fd):∀s':Vd.Fd,(∀x∈s.dz,kF c x)->(∀x∈s'.dz,kF c x)->s.g=s'.g->s=s':=by
 refine Vd.Fd.ind (P:=λs=>∀s':Vd.Fd,(∀x∈s.dz,kF c x)->(∀x∈s'.dz,kF c x)->s.g=s'.g->s=s') ?_ s;intro g ns p n l ih s' h h' hg;obtain⟨g',ns',p',n',l'⟩:=s';obtain rfl:g=g':=hg;obtain⟨pv,A,cA,D,cD,h1,h2,h3,h4,h5,h6,h7,h8,h9,h10,h11⟩:=h _ (Vd.Fd.dF _);obtain⟨pv',A',cA',D',cD',k1,k2,k3,k4,k5,k6,k7,k8,k9,k10,k11⟩:=h' _ (Vd.Fd.dF _);simp only[Vd.Fd.g,Vd.Fd.ns,Vd.Fd.path,Vd.Fd.names,Vd.Fd.on] at*
 rw[h1] at k1;injection k1 with k1;subst k1;rw[h3] at k3;injection k3 with k3;injection k3 with k3;injection k3 with k3;rw[h4] at k4;injection k4 with k4;injection k4 with k4 k4b k4c;subst k4 k4c;rw[h8] at k8;injection k8 with k8;injection k8 with k8 k8b k8c;subst k8 k8c;have e1:=h2.same k2;have e2:p=p':=by simpa using Kk Array.toList k3
 have e3:=E5 h7 k7 k4b;have e4:l=l':=by
  refine Nq k8b λi i1 i2=>?_;obtain⟨b,o,q1,q2⟩:=h11 i _ (Jg i1);obtain⟨b',o',q3,q4⟩:=k11 i _ (Jg i2);rw[q1] at q3;injection q3 with q3;injection q3 with q3 q5;subst q3 q5;rw[q2] at q4;injection q4 with q4;injection q4 with q4;injection q4 with q4;injection q4 with q4;exact ih _ (Jv i1) _ (λx hx=>h x (Vd.Fd.df.2 (.inr ⟨_,Jv i1,hx⟩))) (λx hx=>h' x (Vd.Fd.df.2 (.inr ⟨_,Jv i2,hx⟩))) q4
 rw[e1,e2,e3,e4]
def GF(s:Vd.Fd):Prop:=s.names.length<=5000/\(∀n∈s.names,n.length<=1000000)/\(text s.ns).length<=10000000/\s.path.length<=10000000000000
def nU(w:World)(B:Nat)(U:List Nat)(t:Vd.Fd):Prop:=∀s∈t.dz,kF w.cell? s/\s.g∈U/\B<=s.g/\w.cell? ⟨s.g,4,none⟩=some (.bool false)/\GF s/\w.frozen? ⟨s.g,4,none⟩=false
theorem kK{w w':World}(hb:Below w.heap.size w w'){p:Addr}{u:Value}(hp:w.cell? p=some u):w'.frozen? p=w.frozen? p:=by
 unfold World.frozen?;rw[hb.block p.block (Jn _ _ hp)]
theorem nU.keep{w w':World}{B B':Nat}{U U':List Nat}{t:Vd.Fd}(h:nU w B U t)(hn:leN w.cell? w'.cell?)(hf:∀p,w.cell? p=some (.bool false)->w'.cell? p=some (.bool false)/\w'.frozen? p=w.frozen? p)(hB:B'<=B)(hU:∀g∈U,g∈U'):nU w' B' U' t:=λs hs=>by
 obtain⟨h1,h2,h3,h4,h5,h6⟩:=h s hs;exact⟨h1.keep hn,hU _ h2,JA hB h3,(hf _ h4).1,h5,(hf _ h4).2.trans h6⟩
theorem nU.on{w w':World}{B B':Nat}{U U':List Nat}{t:Vd.Fd}(h:nU w B U t)(hb:Below w.heap.size w w')(hB:B'<=B)(hU:∀g∈U,g∈U'):nU w' B' U' t:=h.keep (leN.of (aa hb)) (λ_ hp=>⟨aa hb _ _ hp,kK hb hp⟩) hB hU
def bB(w:World)(B:Nat)(U:List Nat)(m:Nat->Option Value)(L:List Cm.Node)(i:Nat)(v:Vl)(ns:Cm.Names):Prop:=
 (Vd.valid L i v=[]/\m i=none)\/∃t,m i=some (mE t.g)/\Vd.Ic t L i v ns/\nU w B U t
theorem bB.keep{w w':World}{B B':Nat}{U U':List Nat}{m:Nat->Option Value}{L:List Cm.Node}{i:Nat}{v:Vl}{ns:Cm.Names}(h:bB w B U m L i v ns)(hn:leN w.cell? w'.cell?)(hf:∀p,w.cell? p=some (.bool false)->w'.cell? p=some (.bool false)/\w'.frozen? p=w.frozen? p)(hB:B'<=B)(hU:∀g∈U,g∈U'):bB w' B' U' m L i v ns:=
 h.imp id λ⟨t,h1,h2,h3⟩=>⟨t,h1,h2,h3.keep hn hf hB hU⟩
theorem bB.on{w w':World}{B B':Nat}{U U':List Nat}{m:Nat->Option Value}{L:List Cm.Node}{i:Nat}{v:Vl}{ns:Cm.Names}(h:bB w B U m L i v ns)(hb:Below w.heap.size w w')(hB:B'<=B)(hU:∀g∈U,g∈U'):bB w' B' U' m L i v ns:=
 h.imp id λ⟨t,h1,h2,h3⟩=>⟨t,h1,h2,h3.on hb hB hU⟩
end
