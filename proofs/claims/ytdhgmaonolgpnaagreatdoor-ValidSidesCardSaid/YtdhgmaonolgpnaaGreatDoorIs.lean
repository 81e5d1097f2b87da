import Derived.Test.YtdhgmaonolgpnaaGreatDoorIr
set_option linter.unusedSimpArgs false
set_option linter.unusedVariables false
set_option maxHeartbeats 16000000
set_option maxRecDepth 100000
namespace Go.Proofs.YtdhgmaonolgpnaaGreatDoor
section
open Go.RowKit Go.Maps Js Pt
def Vd.partsOf(v:Vl):List Vl:=Ow.bU v++(Vd.cq v).map (·.2)
def Vd.dU(v:Vl)(j:Nat):Jd:=if Sh.kindOf v=4 then Lib.decDigits j else(((Vd.cq v)[j]?).map (·.1)).getD []
theorem Vd.wO{N:Cm.Node}{v:Vl}(hv:v.may=true){x:Vd.Ask}(h:x∈Vd.asks N v)(hh:x.here=false):(Vd.partsOf v)[x.at_]? =some (Vd.bQ v x)/\x.name=Vd.dU v x.at_:=by
 obtain⟨_,_,hc⟩:=Vd.mP hv h hh;obtain⟨kd,b,nn,s,l,m⟩:=v;obtain⟨_,_,_,_,_,h4,h5,_⟩:=au hv;rcases hc with⟨u,h1,h2,h3,hk⟩|⟨p,h1,h2,h3,hk⟩
 .have hk':kd=4:=hk;have hm:m=[]:=h5 (by omega);subst hm;refine⟨?_,by unfold Vd.dU;rw[Jo hk];exact h3⟩;unfold Vd.partsOf;rw[h2];show(l++([]:List Js.Mem).map (·.2))[x.at_]? =some u;rw[Lo,JK];exact h1
 .have hk':kd=5:=hk;have hl:l=[]:=h4 (by omega);subst hl;refine⟨?_,by
   unfold Vd.dU;rw[Jj (by rw[hk];decide),h1,h3];rfl⟩
  unfold Vd.partsOf;rw[h2];show([]++m.map (·.2))[x.at_]? =_;rw[JW,JZ];have:(Vd.cq (.mk kd b nn s [] m))[x.at_]? =m[x.at_]? :=rfl;rw[<-this,h1];rfl
theorem Vd.uf{kd:Int}{b:Bool}{nn:Nm.Num}{s:Jd}{l:List Vl}{m:List Js.Mem}:(Vd.partsOf (.mk kd b nn s l m)).length=l.length+m.length:=by
 unfold Vd.partsOf;rw[Jk,JR];rfl
structure ew (w:World) (B g n:Nat) (Nm:Nat->Jd) (T:Nat->List Nat):Prop where
 hg:B<=g
 blk:∃cs,Blk w g 125 cs/\cs.size=n*2
 item:∀j,j<n->∃(A:Option Addr) (c:Nat),w.cell? ⟨g,j*2,none⟩=some (.string ⟨(Nm j).toArray⟩)/\w.cell? ⟨g,j*2+1,none⟩=some (.slice A (T j).length c)/\Ints w B A c (T j)
 apart:∀(j k:Nat) (A:Option Addr) (c:Nat) (A':Option Addr) (c':Nat),j<n->k<n->¬j=k->w.cell? ⟨g,j*2+1,none⟩=some (.slice A (T j).length c)->w.cell? ⟨g,k*2+1,none⟩=some (.slice A' (T k).length c')->∀b,Bk A b->¬Bk A' b
section
variable {w w':World} {B g n:Nat} {Nm:Nat->Jd} {T:Nat->List Nat}
theorem ew.lt(h:ew w B g n Nm T):g<w.heap.size:=by obtain⟨cs,hb,_⟩:=h.blk;exact hb.lt
theorem jy{w w':World}{p:Addr}(hb:w'.heap[p.block]? =w.heap[p.block]?):w'.cell? p=w.cell? p:=by unfold World.cell?;rw[hb]
theorem ew.far(h:ew w B g n Nm T){X:Nat->Prop}(hb:But X w w')(h1:¬X g)(h2:∀b,B<=b->X b->∀j A c,j<n->w.cell? ⟨g,j*2+1,none⟩=some (.slice A (T j).length c)->¬Bk A b):ew w' B g n Nm T:=by
 have hs:∀o,w'.cell? ⟨g,o,none⟩=w.cell? ⟨g,o,none⟩:=λo=>jy (hb.block g h.lt h1);refine⟨h.hg,?_,λj hj=>?_,λj k A c A' c' hj hk hne e1 e2=>?_⟩
 .obtain⟨cs,k1,k2⟩:=h.blk;exact⟨cs,hb.blk k1 h1,k2⟩
 .obtain⟨A,c,e1,e2,e3⟩:=h.item j hj;refine⟨A,c,by rw[hs];exact e1,by rw[hs];exact e2,bH hb e3 λb hk hx=>?_⟩;obtain⟨ad,rfl,rfl⟩:=hk;obtain⟨g',rfl,q1,_⟩:=(ai e3).2.2.2 ad rfl;exact h2 _ q1 hx j _ c hj e2 ⟨_,rfl,rfl⟩
 .rw[hs] at e1 e2;exact h.apart j k A c A' c' hj hk hne e1 e2
theorem ew.on(h:ew w B g n Nm T)(hb:Below w.heap.size w w'):ew w' B g n Nm T:=h.far (X:=λ_=>False) (But.of hb) (λh=>h) (λ_ _ h=>h.elim)
theorem ew.setName(h:ew w B g n Nm T){j:Nat}(hj:j<n)(nm:Jd):ew (w.setCell ⟨g,j*2,none⟩ (.string ⟨nm.toArray⟩)) B g n (λq=>if q=j then nm else Nm q) T:=by
 obtain⟨cs,k1,k2⟩:=h.blk;have hb:But (λb=>b=g) w (w.setCell ⟨g,j*2,none⟩ (.string ⟨nm.toArray⟩)):=(But.refl (λb=>b=g) w).set (p:=⟨g,j*2,none⟩) (.inr rfl) _;have hkb:=k1.set (j*2) (.string ⟨nm.toArray⟩);have hc:∀o,(w.setCell ⟨g,j*2,none⟩ (.string ⟨nm.toArray⟩)).cell? ⟨g,o,none⟩=if o=j*2 then some (.string ⟨nm.toArray⟩) else w.cell? ⟨g,o,none⟩:=λo=>by
  rw[hkb.cell,k1.cell,MR];by_cases e:j*2=o
  .subst e;simp;omega
  .rw[Jj e,Jj (λq=>e q.symm)]
 refine⟨h.hg,⟨_,hkb,by simp[k2]⟩,λq hq=>?_,λq k A c A' c' hq hk hne e1 e2=>?_⟩
 .obtain⟨A,c,e1,e2,e3⟩:=h.item q hq;refine⟨A,c,?_,by rw[hc,Jj (by omega)];exact e2,bH hb e3 λb hk hx=>by subst hx;exact ay k1 e3 (by decide) hk⟩;rw[hc];by_cases e:q=j
  .subst e;simp
  .rw[Jj (by omega)];simp only[Jj e];exact e1
 .rw[hc,Jj (by omega)] at e1 e2;exact h.apart q k A c A' c' hq hk hne e1 e2
theorem ew.push(h:ew w B g n Nm T){j:Nat}(hj:j<n){A:Option Addr}{c:Nat}(hc0:w.cell? ⟨g,j*2+1,none⟩=some (.slice A (T j).length c))(x:Nat){w1 x8:World}{A8:Option Addr}{c8:Nat}(hB:B<=w.heap.size)(h1:Below w.heap.size w w1)(hown:x8.ownsRow B 3 1 (.slice A8 ((T j).length+1) c8) ((T j).length+1) (cT (T j)++cT [x]))(hgr:w1.grownBy x8 (Value.slice A (T j).length c).ownBlock)(hat:(Value.slice A8 ((T j).length+1) c8).ownBlock=(Value.slice A (T j).length c).ownBlock\/(Value.slice A8 ((T j).length+1) c8).ownBlock=some w1.heap.size):
  (∃u,x8.cell? ⟨g,j*2+1,none⟩=some u)/\(∀o,x8.frozen? ⟨g,o,none⟩=false)/\g<x8.heap.size/\Below B w x8/\ew (x8.setCell ⟨g,j*2+1,none⟩ (.slice A8 ((T j).length+1) c8)) B g n Nm (λq=>if q=j then T j++[x] else T q):=by
 obtain⟨cs,k1,k2⟩:=h.blk;obtain⟨A1,c1,i1,i2,i3⟩:=h.item j hj;rw[hc0] at i2;injection i2 with i2;injection i2 with i2 _ i4;subst i2 i4;obtain⟨hb8,hr8⟩:=ss (But.refl (Bk A) w) (aW.refl A w) h1 hgr hat;have hoff:¬Bk A g:=ay k1 i3 (by decide);have k8:Blk x8 g 125 cs:=hb8.blk k1 hoff;have hoff8:¬Bk A8 g:=ay k8 hown (by decide);have hset:But (λb=>b=g) x8 (x8.setCell ⟨g,j*2+1,none⟩ (.slice A8 ((T j).length+1) c8)):=(But.refl (λb=>b=g) x8).set (p:=⟨g,j*2+1,none⟩) (.inr rfl) _;have hkb:=k8.set (j*2+1) (.slice A8 ((T j).length+1) c8);have hc:∀o,(x8.setCell ⟨g,j*2+1,none⟩ (.slice A8 ((T j).length+1) c8)).cell? ⟨g,o,none⟩=if o=j*2+1 then some (.slice A8 ((T j).length+1) c8) else w.cell? ⟨g,o,none⟩:=λo=>by
  rw[hkb.cell,k1.cell,MR];by_cases e:j*2+1=o
  .subst e;simp;omega
  .rw[Jj e,Jj (λq=>e q.symm)]
 have hBA:∀b,Bk A b->B<=b:=λb ⟨ad,e1,e2⟩=>by
  subst e1 e2;obtain⟨g',rfl,q1,_⟩:=(ai i3).2.2.2 ad rfl;exact q1
 refine⟨⟨_,by rw[k8.cell,Array.getElem?_eq_getElem (by omega)]⟩,k8.frozen,k8.lt,hb8.below hB (λb hb hk=>by have:=hBA b hk;omega),h.hg,⟨_,hkb,by simp[k2]⟩,λq hq=>?_,λq k A2 c2 A' c' hq hk hne e1 e2 b hk1 hk2=>?_⟩
 .by_cases e:q=j
  .subst e;refine⟨A8,c8,by rw[hc,Jj (by omega)];exact i1,by rw[hc,Jo rfl];simp,?_⟩;simp only[Jo];unfold Ints;rw[Jk,Jy,show cT (T q++[x])=cT (T q)++cT [x] by simp[cT]];exact bH hset hown (λb hk e=>by subst e;exact hoff8 hk)
  .obtain⟨A2,c2,e1,e2,e3⟩:=h.item q hq;refine⟨A2,c2,by rw[hc,Jj (by omega)];exact e1,by rw[hc,Jj (by omega)];simp only[Jj e];exact e2,?_⟩;simp only[Jj e];have e4:=bH hb8 e3 (λb hk hx=>h.apart q j A2 c2 A c hq hj e e2 hc0 b hk hx);exact bH hset e4 (λb hk hx=>by subst hx;exact ay k8 e4 (by decide) hk)
 .have hnew:∀(k:Nat) (A2:Option Addr) (c2:Nat) b,k<n->¬k=j->w.cell? ⟨g,k*2+1,none⟩=some (.slice A2 (T k).length c2)->Bk A2 b->¬Bk A8 b:=λk A2 c2 b hk hne e1 hb2 hb8'=>by
   rcases hr8 b hb8' with h9|h9
   .exact h.apart k j A2 c2 A c hk hj hne e1 hc0 b hb2 h9
   .obtain⟨A3,c3,_,f2,f3⟩:=h.item k hk;rw[e1] at f2;injection f2 with f2;injection f2 with f2;subst f2;obtain⟨ad,rfl,rfl⟩:=hb2;obtain⟨g',rfl,_,q2⟩:=(ai f3).2.2.2 ad rfl;have q2:(⟨g',0,none⟩:Addr).block<w.heap.size:=q2;omega
  rw[hc] at e1 e2;by_cases e:q=j
  .subst e;rw[Jo rfl] at e1;injection e1 with e1;injection e1 with e1;subst e1;rw[Jj (by omega)] at e2;simp only[Jj (λp=>hne (p:k=q).symm)] at e2;exact hnew k A' c' b hk (λp=>hne p.symm) e2 hk2 hk1
  .rw[Jj (by omega)] at e1;simp only[Jj e] at e1;by_cases e':k=j
   .subst e';rw[Jo rfl] at e2;injection e2 with e2;injection e2 with e2;subst e2;exact hnew q A2 c2 b hq e e1 hk1 hk2
   .rw[Jj (by omega)] at e2;simp only[Jj e'] at e2;exact h.apart q k A2 c2 A' c' hq hk hne e1 e2 b hk1 hk2
end
theorem Ft:∃i,Tryz.prog.info? 125=some i/\i.zero=some (.agg #[.string ⟨#[]⟩,.slice none 0 0])/\i.size=2/\i.bytes=40:=by
 have h:(Tryz.prog.info? 125).map (λi=>(i.zero,i.size,i.bytes))=some (some (.agg #[.string ⟨#[]⟩,.slice none 0 0]),2,40):=by kernel_rfl
 cases hq:Tryz.prog.info? 125 with
 |none=>rw[hq] at h;cases h
 |some i=>
  rw[hq] at h;simp only[Kg,JM,Kl] at h;exact⟨i,rfl,h.1,h.2.1,h.2.2⟩
theorem ew.new(w:World)(B n:Nat)(hB:B<=w.heap.size):ew (w.alloc (.cells (madeCells #[.string ⟨#[]⟩,.slice none 0 0] (n*2)) 125)) B w.heap.size n (λ_=>[]) (λ_=>[]):=by
 have hb:=Blk.new w 125 (madeCells #[.string ⟨#[]⟩,.slice none 0 0] (n*2));have hc:∀j,j<n->(madeCells #[Value.string ⟨#[]⟩,.slice none 0 0] (n*2))[j*2]? =some (.string ⟨#[]⟩)/\(madeCells #[Value.string ⟨#[]⟩,.slice none 0 0] (n*2))[j*2+1]? =some (.slice none 0 0):=λj hj=>by
  unfold madeCells;rw[Array.getElem?_map,Array.getElem?_map,NW,NW,Jo (by omega),Jo (by omega)];simp only[Kg];rw[show(#[Value.string ⟨#[]⟩,.slice none 0 0]:Array Value).size=2 from rfl,show j*2%2=0 by omega,show(j*2+1)%2=1 by omega];exact⟨rfl,rfl⟩
 refine⟨hB,⟨_,hb,LU _ _⟩,λj hj=>⟨none,0,by rw[hb.cell];exact(hc j hj).1,by rw[hb.cell];exact(hc j hj).2,Ints.nil _ _⟩,λj k A c A' c' hj hk hne e1 e2 b hk1=>?_⟩;rw[hb.cell,(hc j hj).2] at e1;injection e1 with e1;injection e1 with e1;subst e1;obtain⟨ad,e,_⟩:=hk1;cases e
def eS(L:List Cm.Node)(v:Vl)(Q:List Nat)(l:List Vd.Ask)(j q:Nat):Prop:=(∃i∈Q,∃N,L[i]? =some N/\∃x∈Vd.asks N v,x.here=false/\x.at_=j/\x.node=q)\/∃x∈l,x.here=false/\x.at_=j/\x.node=q
def lL(v:Vl)(n:Nat)(In:Nat->Nat->Prop)(Nm:Nat->Jd)(T:Nat->List Nat)(z:Nat):Prop:=(∀j,j<n->∀q,q∈T j↔In j q)/\(∀j,j<n->T j≠[]->Nm j=Vd.dU v j)/\∀j,(T j).length<=z
theorem lL.more{v:Vl}{n:Nat}{In In':Nat->Nat->Prop}{Nm:Nat->Jd}{T:Nat->List Nat}{z xa xn:Nat}(h:lL v n In Nm T z)(hi:∀j q,In' j q↔In j q\/(j=xa/\q=xn)):lL v n In' (λq=>if q=xa then Vd.dU v xa else Nm q) (λq=>if q=xa then T xa++[xn] else T q) (z+1):=by
 refine⟨λj hj q=>?_,λj hj ht=>?_,λj=>?_⟩
 .rw[hi];by_cases e:j=xa
  .subst e;simp only[Jo,Jq,Jt,h.1 j hj q,true_and]
  .have h1:=h.1 j hj q;simp only[e,false_and,Lk,Kq];exact h1
 .by_cases e:j=xa
  .simp only[e,KJ]
  .simp only[Jj e] at ht ⊢;exact h.2.1 j hj ht
 .have h1:=h.2.2 xa;have h2:=h.2.2 j;by_cases e:j=xa
  .simp only[Jo e,Jk,Jy];omega
  .simp only[Jj e];omega
theorem lL.same{v:Vl}{n:Nat}{In In':Nat->Nat->Prop}{Nm:Nat->Jd}{T:Nat->List Nat}{z z':Nat}(h:lL v n In Nm T z)(hi:∀j q,In' j q↔In j q)(hz:z<=z'):lL v n In' Nm T z':=⟨λj hj q=>(h.1 j hj q).trans (hi j q).symm,h.2.1,λj=>JA (h.2.2 j) hz⟩
theorem DG(L:List Cm.Node)(hL:wJ L)(v:Vl)(hv:v.may=true)(hsz:v.size<=5000)(w0 w:World)(gq bm:Nat)(A:Option Addr)(c:Nat)(Q:List Nat)(m:Nat->Option Value)(hQ:QAt L v w0 w gq bm A c Q m)(n:Nat)(hn:n=(Vd.partsOf v).length):
  Calls Tryz.prog 58 #[.pointer (some ⟨gq,0,none⟩),.int .i64 (n:Int)] w λe w'=>∃(g:Nat) (Nm:Nat->Jd) (T:Nat->List Nat),e=.returned (.slice (some ⟨g,0,none⟩) n n)/\ew w' w.heap.size g n Nm T/\lL v n (eS L v Q []) Nm T 400000000000/\Below w.heap.size w w':=by
 have hnb:n<=5000:=by
  obtain⟨kd,b,nn,s,l,mm⟩:=v;rw[hn,Vd.uf];have h1:=cS l;have h2:=ep mm;simp only[Vl.size] at hsz;omega
 have HQ:=Jf hQ;have HL:=Jf hL;have HV:=Jf hv;have HN:=Jf hn;have HSZV:=Jf hsz;have HFEW:=Jf hL.few;obtain⟨i0,hi0,hz0,hz1,hz2⟩:=Ft;have hmk:∀W:World,(Instr.makeSlice 122 (.int .i64 (n:Int)) (.int .i64 (n:Int))).run Tryz.prog W=.ok (.slice (some ⟨W.heap.size,0,none⟩) n n) (W.alloc (.cells (madeCells #[.string ⟨#[]⟩,.slice none 0 0] (n*2)) 125)):=λW=>by
  have:=Nw (P:=Tryz.prog) W 122 125 i0 (.agg #[.string ⟨#[]⟩,.slice none 0 0]) Tryz.underlying122 hi0 hz0 .i64 .i64 n n (by omega) (Mj _) (by rw[hz2];omega) (by omega);rw[hz1] at this;simp only[Ku] at this;exact this
 have HP0:=Jf (ew.new w w.heap.size n (Jh _));have HB0:=Jf ((Ji w.heap.size w).alloc (Jh _) (.cells (madeCells #[.string ⟨#[]⟩,.slice none 0 0] (n*2)) 125));have hz:∀W,(zeroValue 86).run Tryz.prog W=.ok (.slice none 0 0) W:=λW=>by kernel_rfl
 have HQL:=Jf (show Q.length<=200 from by
  have h1:=Vd.nQ HQ.out.nodup (b:=List.range L.length) (λx hx=>by
   obtain⟨k,hk⟩:=JP hx;obtain⟨N',h2,_⟩:=HQ.out.ok k x hk;exact MW.2 (Jm.1 h2).1)
  rw[Mh] at h1;exact JA h1 HFEW.out)
 clear hQ hv hsz hn;go_enter Tryz.func58,Tryz.ntmps58;go_upto_region 2 with(fail);generalize w.alloc (.cells (madeCells #[.string ⟨#[]⟩,.slice none 0 0] (n*2)) 125)=w1 at*
 obtain⟨g,hg⟩:∃g,w.heap.size=g:=⟨_,rfl⟩;have HPG:=Jf (show ew w1 w.heap.size g n (λ_=>[]) (λ_=>[]) by rw[<-hg];exact HP0.out);rw[hg];clear HP0 hmk hg hi0 hz0 hz1 hz2;have HQ1:=Jf (HQ.out.on HB0.out);have q0:=HQ1.out.blk.cell 0;have ql:=HQ1.out.blk.lt;have hcm:=(ai HQ.out.nums).2.1;have hcl:=(ai HQ.out.nums).1;unfold maxLen at hcm;go_wp2_with fail
 go_loopw [17] (λv17 wr=>∃(k:Nat) (Nm:Nat->Jd) (T:Nat->List Nat),v17=.int .i64 k/\k<=Q.length/\ew wr w.heap.size g n Nm T/\lL v n (eS L v (Q.take k) []) Nm T (k*2000000000)/\Below w.heap.size w wr) (λv17 _=>Q.length-(intOf v17).toNat)
 case atStart=>exact⟨0,_,_,rfl,JE _,HPG.out,⟨λj _ q=>by simp[eS],λj _ h=>absurd rfl h,λj=>by simp⟩,HB0.out⟩
 case round=>
  obtain⟨k,Nm,T,rfl,hkq,hpt,hok,hb⟩:=hrel;have HPT:=Jf hpt;have HOK:=Jf hok;have HB:=Jf hb;have HQR:=Jf (HQ.out.on hb);clear hpt hok hb q0 ql HQ1 HB0 HPG;by_cases hkl:k<Q.length
  .obtain⟨gn,rfl,_,hgn,d0⟩:=l5 HQR.out.nums (Jg hkl);have hki:(k:Int)<(Q.length:Int):=by omega
   obtain⟨i,hi⟩:∃i,Q[k]=i:=⟨_,rfl⟩;have HQI:=Jf (show Q[k]? =some i by rw[Jg hkl,hi]);rw[hi] at d0;have him:i∈Q:=hi▸Jv hkl;obtain⟨xm,hxm⟩:∃x,m i=some x:=Nv.1 (HQR.out.met i him);obtain⟨N,A6,c6,hN,rfl,ha6⟩:=HQR.out.asks i _ hxm;have HNI:=Jf hN;have HA6:=Jf ha6;have hil:i<L.length:=(Jm.1 hN).1;have q0:=HQR.out.blk.cell 0;have q1:=HQR.out.blk.cell 1;have ql:=HQR.out.blk.lt;have hlk:=HQR.out.map.look (T:=79) Tryz.underlying79 (hz _) (i:=i) (by have:=HFEW.out;omega) false;rw[hxm] at hlk;simp only[Ki,Kq,Nu] at hlk;have hl6:=(ai ha6).1;have hm6:=(ai ha6).2.1;unfold maxLen at hm6;have HLE:=Jf (show(Vd.asks N v).length<=2000000000 from by
    have h1:=Vd.jO (N:=N) (v:=v) (HL.out.kids N (Jz HNI.out)) HSZV.out N.keys.length (Jh _);rw[Vd.lZ] at h1;have h2:=HL.out.keys N (Jz HNI.out);have h3:=K9 (200*5000) h2;omega)
   have HTK:=Jf (show Q.take (k+1)=Q.take k++[i] by rw[Jr hkl,hi]);clear hi him hxm ha6 hN;go_wp2_with fail;obtain⟨wz,hwz⟩:∃W,W=wr:=⟨_,rfl⟩;subst hwz;clear q0 q1 ql hlk d0 hgn
   go_loopw [28] (λv28 wr=>∃(j:Nat) (Nx:Nat->Jd) (TX:Nat->List Nat),v28=.int .i64 j/\j<=(Vd.asks N v).length/\ew wr w.heap.size g n Nx TX/\lL v n (eS L v (Q.take k) ((Vd.asks N v).take j)) Nx TX (k*2000000000+j)/\Below w.heap.size w wr/\az wr w0.heap.size A6 c6 (Vd.asks N v)) (λv28 _=>(Vd.asks N v).length-(intOf v28).toNat)
   case atStart=>exact⟨0,Nm,T,rfl,JE _,HPT.out,by simpa using HOK.out,HB.out,HA6.out⟩
   case round=>
    obtain⟨j,Nx,TX,rfl,hj,hpt,hok,hb,hak⟩:=hrel;have HPX:=Jf hpt;have HOX:=Jf hok;have HBX:=Jf hb;have HAX:=Jf hak;clear hpt hok hb hak;by_cases hlt:j<(Vd.asks N v).length
    .obtain⟨g7,hg7,_,hgl7,c0,c1,c2',c3',c4'⟩:=az.item HAX.out (Jg hlt);have hji:(j:Int)<((Vd.asks N v).length:Int):=by omega
     obtain⟨a7,ha7⟩:∃a,(Vd.asks N v)[j]=a:=⟨_,rfl⟩;have HX7:=Jf (show(Vd.asks N v)[j]? =some a7 by rw[Jg hlt,ha7]);rw[ha7] at c0 c1 c2' c3' c4';clear ha7;obtain⟨xk,xn,xh,xs,xa⟩:=a7;simp only at c0 c1 c2' c3' c4';have hb1:=(Ji wr.heap.size wr).alloc (Jh _) (.cells #[.int .i64 (xk:Int),.int .i64 (xn:Int),xh,xs,.int .i64 (xa:Int)] 121);have HXB:=Jf (Blk.new wr 121 #[.int .i64 (xk:Int),.int .i64 (xn:Int),xh,xs,.int .i64 (xa:Int)]);have HPK:=Jf (HPX.out.on hb1);have HAK:=Jf (HAX.out.on hb1);have HBK:=Jf (HBX.out.trans (hb1.mono HBX.out.size));have HGR:=Jf (show wr.heap.size≠g fromλe=>by have:=HPX.out.lt;omega);have HTJ:=Jf (show(Vd.asks N v).take (j+1)=(Vd.asks N v).take j++[⟨xk,xn,xh,xs,xa⟩] from by
      have:=dy (λx:Vd.Ask=>x) HX7.out;rwa[LC,LC] at this)
     subst hg7;clear hb1;go_upto_region 8 with(fail);generalize wr.alloc (.cells #[.int .i64 (xk:Int),.int .i64 (xn:Int),xh,xs,.int .i64 (xa:Int)] 121)=wk at*
     clear c0 c1 c2' c3' c4' hgl7;have x1:=HXB.out.cell 1;have x2:=HXB.out.cell 2;have x3:=HXB.out.cell 3;have x4:=HXB.out.cell 4;have xl:=HXB.out.lt;cases xh with
     |true=>
      have HIN:=Jf (show∀q p,eS L v (Q.take k) ((Vd.asks N v).take (j+1)) q p↔eS L v (Q.take k) ((Vd.asks N v).take j) q p fromλq p=>by
       rw[HTJ.out];unfold eS;refine or_congr_right ⟨?_,?_⟩
       .rintro⟨x,hx,h2,h3⟩;rcases Jq.1 hx with h|h
        .exact⟨x,h,h2,h3⟩
        .rw[Jt.1 h] at h2;cases h2
       .rintro⟨x,hx,h2⟩;exact⟨x,Jq.2 (.inl hx),h2⟩)
      go_wp2_with fail;go_roundw;case rel=>exact⟨j+1,Nx,TX,by go_num,by omega,HPK.out,HOX.out.same HIN.out (by omega),HBK.out,HAK.out⟩
      case measure=>simp[intOf];omega
     |false=>
      have hask:=Vd.wO HV.out (Jz HX7.out) rfl;have HXS:=Jf (show xs=Vd.dU v xa from hask.2);have hxa:xa<n:=by rw[HN.out];exact(Jm.1 hask.1).1
      have HIN:=Jf (show∀q p,eS L v (Q.take k) ((Vd.asks N v).take (j+1)) q p↔eS L v (Q.take k) ((Vd.asks N v).take j) q p\/(q=xa/\p=xn) fromλq p=>by
       rw[HTJ.out];unfold eS;constructor
       .rintro(h|⟨x,hx,h2,h3,h4⟩)
        .exact .inl (.inl h)
        .rcases Jq.1 hx with h|h
         .exact .inl (.inr ⟨x,h,h2,h3,h4⟩)
         .rw[Jt.1 h] at h3 h4;exact .inr ⟨h3.symm,h4.symm⟩
       .rintro((h|⟨x,hx,h2⟩)|⟨rfl,rfl⟩)
        .exact .inl h
        .exact .inr ⟨x,Jq.2 (.inl hx),h2⟩
        .exact .inr ⟨_,Jq.2 (.inr (Jt.2 rfl)),rfl,rfl,rfl⟩)
      have hxi:(xa:Int)<(n:Int):=by omega
      obtain⟨Aj0,cj0,i1,i2,_⟩:=HPK.out.item xa hxa;have hgl:=HPK.out.lt;have bf:∀o,wk.frozen? ⟨g,o,none⟩=false:=by obtain⟨cs,h1,_⟩:=HPK.out.blk;exact h1.frozen
      clear hask;go_upto_region 10 with(fail);have HPN:=Jf (HPK.out.setName hxa xs);have HXN:=Jf (show Blk (wk.setCell ⟨g,xa*2,none⟩ (.string ⟨xs.toArray⟩)) wr.heap.size 121 #[.int .i64 (xk:Int),.int .i64 (xn:Int),false,xs,.int .i64 (xa:Int)] from HXB.out.far HGR.out);have HAN:=Jf (show az (wk.setCell ⟨g,xa*2,none⟩ (.string ⟨xs.toArray⟩)) w0.heap.size (some ⟨g7,0,none⟩) c6 (Vd.asks N v) from bH ((But.refl (λb=>b=g) wk).set (p:=⟨g,xa*2,none⟩) (.inr rfl) _) HAK.out (λb hk e=>by subst e;obtain⟨cs,h1,_⟩:=HPK.out.blk;exact ay h1 HAK.out (by decide) hk));have HBN0:=Jf (HBK.out.setCell (p:=⟨g,xa*2,none⟩) HPK.out.hg (.string ⟨xs.toArray⟩));clear i1 i2 hgl bf x1 x2 x3 x4 xl;generalize wk.setCell ⟨g,xa*2,none⟩ (.string ⟨xs.toArray⟩)=w8 at*
      refine JT (S:=λW9=>Blk W9 wr.heap.size 121 #[.int .i64 (xk:Int),.int .i64 (xn:Int),false,xs,.int .i64 (xa:Int)]) (by kernel_rfl) HXN.out (λht=>?_);have HP9:=Jf (HPN.out.on (Ji w8.heap.size w8).drew);have HX9:=Jf (HXN.out.on (Ji w8.heap.size w8).drew);have HA9:=Jf (HAN.out.on (Ji w8.heap.size w8).drew);have HBN:=Jf (HBN0.out.drew);clear HPN HXN HAN HBN0;generalize w8.drew=w9 at*
      obtain⟨Aj,cj,j1,j2,j3⟩:=HP9.out.item xa hxa;have hgl:=HP9.out.lt;have hb9:=(Ji w9.heap.size w9).alloc (Jh _) (.cells #[.int .i64 (xn:Int)] 3);have HB9:=Jf hb9;have HRW:=Jf (j3.on hb9);have HJ2:=Jf j2;have HNW:=Jf (Blk.new w9 3 #[.int .i64 (xn:Int)]);have HSR1:=Jf (show Src (w9.alloc (.cells #[.int .i64 (xn:Int)] 3)) (some ⟨w9.heap.size,0,none⟩) 1 1 (cT [xn]) from .inr ⟨_,rfl,λj u hu=>JU HNW.out j u hu⟩);have HSZ:=Jf (show w.heap.size<=(w9.alloc (.cells #[.int .i64 (xn:Int)] 3)).heap.size from JA HBN.out.size hb9.size);have HLN:=Jf (show(TX xa).length+1<=maxLen/\((TX xa).length+1)*8<=140737488355328 from by
       have h1:=HOX.out.2.2 xa;have h2:=HLE.out;have h3:=HQL.out;have h4:k*2000000000<=200*2000000000:=K9 _ (by omega);unfold maxLen;omega)
      have HBT:=Jf (λ(x8:World) (hg:(w9.alloc (.cells #[.int .i64 (xn:Int)] 3)).grownBy x8 (Value.slice Aj (TX xa).length cj).ownBlock)=>(show But (Bk Aj) w9 x8 from(But.of hb9).grown hg (λq hq=>.inr (jH hq))));have HSA:=Jf (λx8 hg=>(HBT.out x8 hg).blk HX9.out (ay HX9.out j3 (by decide)));have HAA:=Jf (λx8 hg=>bH (HBT.out x8 hg) HA9.out (λb h1 h2=>iy HA9.out j3 (by decide) h1 h2));have HGB:=Jf (λ(x8:World) hg=>(show∃cs,Blk x8 g 125 cs by obtain⟨cs,h1,_⟩:=HP9.out.blk;exact⟨cs,(HBT.out x8 hg).blk h1 (ay h1 j3 (by decide))⟩));have HPU:=Jf (λ(w1 x8:World) (A8:Option Addr) (c8:Nat) q1 q2 q3 q4=>HP9.out.push hxa j2 xn HBN.out.size (w1:=w1) (x8:=x8) (A8:=A8) (c8:=c8) q1 q2 q3 q4);have HXA2:=Jf (HX9.out.on hb9);have HGL9:=Jf (show g<(w9.alloc (.cells #[.int .i64 (xn:Int)] 3)).heap.size from JN hgl hb9.size);obtain⟨i0,hi0,hz0,hz1,hz2⟩:=oj;clear j1 j2 j3 hb9;refine af 0 (.slice (some ⟨g,0,none⟩) n n) ht ?_ ?_
      .intro W9 hSw;go_simp
      try simp only[ab]
      refine af 1 (.pointer (some ⟨wr.heap.size,4,none⟩)) ht ?_ ?_
      .intro W9 hSw;go_simp
      try simp only[ab]
      refine af 2 (.int .i64 xa) ht ?_ ?_
      .intro W9 hSw;have y4:=(show Blk W9 wr.heap.size 121 _ from hSw).cell 4;go_simp
      try simp only[ab]
      refine af 3 (.slice (some ⟨g,0,none⟩) n n) ht ?_ ?_
      .intro W9 hSw;go_simp
      try simp only[ab]
      refine af 4 (.pointer (some ⟨wr.heap.size,4,none⟩)) ht ?_ ?_
      .intro W9 hSw;go_simp
      try simp only[ab]
      refine af 5 (.int .i64 xa) ht ?_ ?_
      .intro W9 hSw;have y4:=(show Blk W9 wr.heap.size 121 _ from hSw).cell 4;go_simp
      try simp only[ab]
      refine af 6 (.pointer (some ⟨g,xa*2,none⟩)) ht ?_ ?_
      .intro W9 hSw;go_simp
      try simp only[ab]
      refine af 7 (.pointer (some ⟨g,xa*2+1,none⟩)) ht ?_ ?_
      .intro W9 hSw;go_simp
      try simp only[ab]
      refine af 9 (.pointer (some ⟨wr.heap.size,1,none⟩)) ht ?_ ?_
      .intro W9 hSw;go_simp
      try simp only[ab]
      refine af 10 (.int .i64 xn) ht ?_ ?_
      .intro W9 hSw;have y1:=(show Blk W9 wr.heap.size 121 _ from hSw).cell 1;go_simp
      try simp only[ab]
      refine MG (rs:=[8,11]) (by kernel_rfl) (by simp) ?_;refine La (o:=⟨some _,_,_,_,_,_⟩) rfl (λK hK=>?_) (La (o:=⟨some _,_,_,_,_,_⟩) rfl (λK hK=>?_) Mm)
      .have z2:=HJ2.out;go_simp;clear z2;refine hK.out _ _ ht (λht=>?_);clear hK K;try simp only[ab]
       refine bz 11 λK hK=>?_;go_simp;refine hK.out _ _ HXA2.out (λht=>?_);clear hK K;try simp only[ab]
       refine bz 12 λK hK=>?_;refine dD _ rfl _ _ _ rfl w.heap.size 3 i0 _ 1 8 Tryz.underlying58 hi0 hz0 hz1 hz2 rfl (by decide) (.slice Aj (TX xa).length cj) (TX xa).length (cT (TX xa)) rfl HRW.out (some ⟨w9.heap.size,0,none⟩) 1 1 (cT [xn]) rfl rfl HSR1.out (rW (λ_=>rfl) _) HLN.out.1 HLN.out.2 HSZ.out ((TX xa).length+1) rfl ?_;intro A8 c8 x8 hown hgr hat;obtain⟨⟨uz,p1⟩,p2,p3,p4,p5⟩:=HPU.out _ _ _ _ HB9.out hown hgr hat;have hs8:=HSA.out _ hgr;have HAF:=Jf (HAA.out _ hgr);have HGX:=Jf (HGB.out _ hgr);have HP5:=Jf p5;have HBF:=Jf ((HBN.out.trans p4).setCell (p:=⟨g,xa*2+1,none⟩) HP9.out.hg (.slice A8 ((TX xa).length+1) c8));clear hown hgr hat p4 p5;refine hK.out _ _ hs8 (λht=>?_);clear hK K;try simp only[ab]
       refine af 13 (.pointer (some ⟨g,xa*2,none⟩)) ht ?_ ?_
       .intro W9 hSw;go_simp
       try simp only[ab]
       refine af 14 (.pointer (some ⟨g,xa*2+1,none⟩)) ht ?_ ?_
       .intro W9 hSw;go_simp
       try simp only[ab]
       refine bz 15 λK hK=>?_;go_simp;refine hK.out _ _ ((show Blk x8 wr.heap.size 121 _ from hs8).far HGR.out) (λht=>?_);clear hK K ht;try simp only[ab]
       refine Ke (by kernel_rfl) ?_ _;have HAG:=Jf (show az (x8.setCell ⟨g,xa*2+1,none⟩ (.slice A8 ((TX xa).length+1) c8)) w0.heap.size (some ⟨g7,0,none⟩) c6 (Vd.asks N v) from bH ((But.refl (λb=>b=g) x8).set (p:=⟨g,xa*2+1,none⟩) (.inr rfl) _) HAF.out (λb hk e=>by subst e;obtain⟨cs,h1⟩:=HGX.out;exact ay h1 HAF.out (by decide) hk));go_wp2_with fail;go_roundw;case rel=>exact⟨j+1,_,_,by go_num,by omega,HP5.out,by have h:=HOX.out.more (In':=eS L v (Q.take k) ((Vd.asks N v).take (j+1))) HIN.out;rw[<-HXS.out] at h;exact h.same (λ_ _=>Oa) (by omega),HBF.out,HAG.out⟩
       case measure=>simp[intOf];omega
      .go_simp;refine hK.out _ _ HXA2.out (λht=>?_);clear hK K;try simp only[ab]
       have z2:=aa HB9.out _ _ HJ2.out;have z3:=HGL9.out;refine bz 8 λK hK=>?_;go_simp;refine hK.out _ _ ht (λht=>?_);clear hK K z2 z3;try simp only[ab]
       refine bz 12 λK hK=>?_;refine dD _ rfl _ _ _ rfl w.heap.size 3 i0 _ 1 8 Tryz.underlying58 hi0 hz0 hz1 hz2 rfl (by decide) (.slice Aj (TX xa).length cj) (TX xa).length (cT (TX xa)) rfl HRW.out (some ⟨w9.heap.size,0,none⟩) 1 1 (cT [xn]) rfl rfl HSR1.out (rW (λ_=>rfl) _) HLN.out.1 HLN.out.2 HSZ.out ((TX xa).length+1) rfl ?_;intro A8 c8 x8 hown hgr hat;obtain⟨⟨uz,p1⟩,p2,p3,p4,p5⟩:=HPU.out _ _ _ _ HB9.out hown hgr hat;have hs8:=HSA.out _ hgr;have HAF:=Jf (HAA.out _ hgr);have HGX:=Jf (HGB.out _ hgr);have HP5:=Jf p5;have HBF:=Jf ((HBN.out.trans p4).setCell (p:=⟨g,xa*2+1,none⟩) HP9.out.hg (.slice A8 ((TX xa).length+1) c8));clear hown hgr hat p4 p5;refine hK.out _ _ hs8 (λht=>?_);clear hK K;try simp only[ab]
       refine af 13 (.pointer (some ⟨g,xa*2,none⟩)) ht ?_ ?_
       .intro W9 hSw;go_simp
       try simp only[ab]
       refine af 14 (.pointer (some ⟨g,xa*2+1,none⟩)) ht ?_ ?_
       .intro W9 hSw;go_simp
       try simp only[ab]
       refine bz 15 λK hK=>?_;go_simp;refine hK.out _ _ ((show Blk x8 wr.heap.size 121 _ from hs8).far HGR.out) (λht=>?_);clear hK K ht;try simp only[ab]
       refine Ke (by kernel_rfl) ?_ _;have HAG:=Jf (show az (x8.setCell ⟨g,xa*2+1,none⟩ (.slice A8 ((TX xa).length+1) c8)) w0.heap.size (some ⟨g7,0,none⟩) c6 (Vd.asks N v) from bH ((But.refl (λb=>b=g) x8).set (p:=⟨g,xa*2+1,none⟩) (.inr rfl) _) HAF.out (λb hk e=>by subst e;obtain⟨cs,h1⟩:=HGX.out;exact ay h1 HAF.out (by decide) hk));go_wp2_with fail;go_roundw;case rel=>exact⟨j+1,_,_,by go_num,by omega,HP5.out,by have h:=HOX.out.more (In':=eS L v (Q.take k) ((Vd.asks N v).take (j+1))) HIN.out;rw[<-HXS.out] at h;exact h.same (λ_ _=>Oa) (by omega),HBF.out,HAG.out⟩
       case measure=>simp[intOf];omega
    .obtain rfl:j=(Vd.asks N v).length:=by omega
     have HOE:=Jf (show lL v n (eS L v (Q.take (k+1)) []) Nx TX ((k+1)*2000000000) from HOX.out.same (λj q=>by
      rw[JC,HTK.out];unfold eS;constructor
      .rintro(⟨i',hi',N',h1,x,h2⟩|⟨x,h2,_⟩)
       .rcases Jq.1 hi' with h|h
        .exact .inl ⟨i',h,N',h1,x,h2⟩
        .rw[Jt.1 h,HNI.out] at h1;injection h1 with h1;subst h1;exact .inr ⟨x,h2.1,h2.2⟩
       .cases h2
      .rintro(⟨i',hi',N',h1,x,h2⟩|⟨x,h2,h3⟩)
       .exact .inl ⟨i',Jq.2 (.inl hi'),N',h1,x,h2⟩
       .exact .inl ⟨i,by simp,N,HNI.out,x,h2,h3⟩) (by have:=HLE.out;omega))
     go_wp2_with fail;go_roundw;case rel=>exact⟨k+1,Nx,TX,by go_num,by omega,HPX.out,HOE.out,HBX.out⟩
     case measure=>simp[intOf];omega
  .obtain rfl:k=Q.length:=by omega
   go_wp2_with fail;go_ret;exact⟨g,Nm,T,rfl,HPT.out,HOK.out.same (λj q=>by rw[JC]) (by have:=HQL.out;omega),HB.out⟩
theorem zd(v:Vl)(xv:Value)(j:Nat)(u:Vl)(w:World)(hv:v.may=true)(hx:v.In w.cell? xv)(hj:(Vd.partsOf v)[j]? =some u):Calls Tryz.prog 59 #[xv,.int .i64 (j:Int)] w λe w'=>∃y,e=.returned y/\u.In w'.cell? y/\Below w.heap.size w w':=by
 obtain⟨kd,b,nn,s,l,m⟩:=v;obtain⟨A,e,B,d,rfl,q1,q2,q3,q4,q5,q6⟩:=In.form hx;obtain⟨_,_,_,_,_,h4,h5,_⟩:=au hv;have H5:=Jf (show SlL w.cell? A l from q5);have H6:=Jf (show SlM w.cell? B m from q6);have HB:=Jf (((Ji w.heap.size w).alloc (Jh _) (.cells #[.int .i64 kd,b,nn.neg,nn.digits,.int .i64 nn.exp,s,.slice A l.length e,.slice B m.length d] 31)).alloc ((Ji w.heap.size w).alloc (Jh _) (.cells #[.int .i64 kd,b,nn.neg,nn.digits,.int .i64 nn.exp,s,.slice A l.length e,.slice B m.length d] 31)).size (.cells #[.int .i64 0,false,false,.string ⟨#[]⟩,.int .i64 0,.string ⟨#[]⟩,.slice none 0 0,.slice none 0 0] 31));have HZ:=Jf (Blk.cW w (.cells #[.int .i64 kd,b,nn.neg,nn.digits,.int .i64 nn.exp,s,.slice A l.length e,.slice B m.length d] 31) 31 #[.int .i64 0,false,false,.string ⟨#[]⟩,.int .i64 0,.string ⟨#[]⟩,.slice none 0 0,.slice none 0 0]);have HX:=Jf ((Blk.new w 31 #[.int .i64 kd,b,nn.neg,nn.digits,.int .i64 nn.exp,s,.slice A l.length e,.slice B m.length d]).alloc (.cells #[.int .i64 0,false,false,.string ⟨#[]⟩,.int .i64 0,.string ⟨#[]⟩,.slice none 0 0,.slice none 0 0] 31));unfold maxLen at q2 q4;have HK4:=Jf h4;have HK5:=Jf h5;clear q5 q6 hx hv h4 h5;by_cases hk:kd=4
 .have t1:(kd==4)=true:=by simpa using hk
  have hm:m=[]:=HK5.out (by omega);have hju:l[j]? =some u:=by
   subst hm;have:(Vd.partsOf (.mk kd b nn s l []))[j]? =(l++([]:List Js.Mem).map (·.2))[j]? :=rfl;rw[this,Lo,JK] at hj;exact hj
  have hjl:=(Jm.1 hju).1;have hji:(j:Int)<(l.length:Int):=by omega
  obtain⟨g,o,y,rfl,hy,hc⟩:=H5.out j _ hju;obtain⟨k_1,k_2,k_3,k_4,k_5,k_6,k_7,k_8,k_9,k_a,k_b,k_c,rfl⟩:=In.cells hy;have HY:=Jf hy;have HC:=Jf hc;clear hy hc hju hj hm hk;go_enter Tryz.func59,Tryz.ntmps59;go_upto_region 1 with(fail);generalize (w.alloc (.cells #[.int .i64 kd,b,nn.neg,nn.digits,.int .i64 nn.exp,s,.slice (some ⟨g,o,none⟩) l.length e,.slice B m.length d] 31)).alloc (.cells #[.int .i64 0,false,false,.string ⟨#[]⟩,.int .i64 0,.string ⟨#[]⟩,.slice none 0 0,.slice none 0 0] 31)=w2 at*
  obtain⟨e0,e1,e2,e3,e4,e5,e6,e7⟩:=(HC.out.keep (aa HB.out)).eight;have hgl:=Jn _ _ e0;obtain⟨z0,z1,z2,z3,z4,z5,z6,z7⟩:=HZ.out.eight;have zf:=HZ.out.frozen;have zl:=HZ.out.lt;have x0:=HX.out.cell 0;have x6:=HX.out.cell 6;have xl:=HX.out.lt;go_wp2_with fail;refine Ju (aj (l:=[_,_,_,_,_,_,_,_]) rfl _ _ _ rfl (HZ.out.bg _ _ _ _ _ _ _ _) Tryz.underlying31 rfl (by kernel_rfl)) rfl ?_;have hbb:=aX HB.out (g:=w.heap.size+1) (by omega) (.int .i64 k_1) (.bool k_2) (.bool k_3) (.string ⟨k_4.toArray⟩) (.int .i64 k_5) (.string ⟨k_6.toArray⟩) (.slice k_7 k_8 k_9) (.slice k_a k_b k_c);exact⟨_,rfl,In.keep (aa hbb) _ _ HY.out,hbb⟩
 .have t1:(kd==4)=false:=by simpa using hk
  have hl:l=[]:=HK4.out hk;have hju:(m.map (·.2))[j]? =some u:=by
   subst hl;have:(Vd.partsOf (.mk kd b nn s [] m))[j]? =([]++m.map (·.2))[j]? :=rfl;rw[this,JW] at hj;exact hj
  rw[JZ] at hju;obtain⟨p,hp,rfl⟩:=Kd.1 hju;have hjl:=(Jm.1 hp).1;have hji:(j:Int)<(m.length:Int):=by omega
  obtain⟨g,o,y,rfl,hy,hk0,hc⟩:=H6.out j _ hp;obtain⟨k_1,k_2,k_3,k_4,k_5,k_6,k_7,k_8,k_9,k_a,k_b,k_c,rfl⟩:=In.cells hy;have HY:=Jf hy;have HC:=Jf hc;clear hy hc hju hj hl hk0 hp hk;go_enter Tryz.func59,Tryz.ntmps59;go_upto_region 1 with(fail);generalize (w.alloc (.cells #[.int .i64 kd,b,nn.neg,nn.digits,.int .i64 nn.exp,s,.slice A l.length e,.slice (some ⟨g,o,none⟩) m.length d] 31)).alloc (.cells #[.int .i64 0,false,false,.string ⟨#[]⟩,.int .i64 0,.string ⟨#[]⟩,.slice none 0 0,.slice none 0 0] 31)=w2 at*
  obtain⟨e0,e1,e2,e3,e4,e5,e6,e7⟩:=(HC.out.keep (aa HB.out)).eight;have hgl:=Jn _ _ e0;obtain⟨z0,z1,z2,z3,z4,z5,z6,z7⟩:=HZ.out.eight;have zf:=HZ.out.frozen;have zl:=HZ.out.lt;have x0:=HX.out.cell 0;have x7:=HX.out.cell 7;have xl:=HX.out.lt;go_wp2_with fail;refine Ju (aj (l:=[_,_,_,_,_,_,_,_]) rfl _ _ _ rfl (HZ.out.bg _ _ _ _ _ _ _ _) Tryz.underlying31 rfl (by kernel_rfl)) rfl ?_;have hbb:=aX HB.out (g:=w.heap.size+1) (by omega) (.int .i64 k_1) (.bool k_2) (.bool k_3) (.string ⟨k_4.toArray⟩) (.int .i64 k_5) (.string ⟨k_6.toArray⟩) (.slice k_7 k_8 k_9) (.slice k_a k_b k_c);exact⟨_,rfl,In.keep (aa hbb) _ _ HY.out,hbb⟩
end
