import Derived.Test.YtdhgmaonolgpnaaGreatDoorDh
import Derived.Test.YtdhgmaonolgpnaaGreatDoorMe
set_option linter.unusedSimpArgs false
set_option linter.unusedVariables false
set_option maxHeartbeats 2000000
set_option maxRecDepth 100000
namespace Go.Proofs.YtdhgmaonolgpnaaGreatDoor
section
open Go.RowKit Js Pt
theorem IV(v:Vl):1<=v.size:=by obtain⟨k,b,n,s,l,m⟩:=v;simp only[Vl.size];omega
theorem yd:∀f,Eu f
 |0=>λv hv=>absurd (IV v) (by omega)
 |f+1=>Dr f (yd f)
theorem Mk.start(w:World):Mk w.heap.size (λ_=>False) none 0 [] 0 [] (w.alloc (.cells #[.slice none 0 0,.int .i64 0,.string ⟨#[]⟩] 105)) where
 blk:=Blk.new w _ _
 row:=bI.nil _ _
 few:=JE _
 apart:=λb e=>by obtain⟨ad,e,_⟩:=e;cases e
 ng:=λk=>k
 yl:=λb k=>k.elim
theorem BV{gm b:Nat}(h:b<gm):¬LX gm none b:=λk=>by
 rcases k with k|k
 .omega
 .obtain⟨ad,e,_⟩:=k;cases e
def wG(r:Cm.Res (List Cm.Node))(w:World)(e:Ending)(w':World):Prop:=
 Below w.heap.size w w'/\((∃(a:List Cm.Node) (A:Option Addr) (cp:Nat),r=.ok a/\e=.returned (.tuple #[.slice A a.length cp,.int .i64 0,.string ⟨#[]⟩])/\SlN w'.cell? A a/\a.length<=cp/\cp<=maxLen)\/
  (∃(c:Nat) (p:Cm.Names),r=.bad c p/\¬c=0/\c<=14/\e=.returned (.tuple #[.slice none 0 0,.int .i64 c,.string ⟨(text p).toArray⟩])))
theorem se(v:Vl)(x:Value)(w:World)(hx:v.In w.cell? x)(hsl:v.bL 1000000)(hsz:v.size<=1000000):Calls Tryz.prog 24 #[x] w (wG (Cm.compile v) w):=by
 have hx0:=hx;obtain⟨k_1,k_2,k_3,k_4,k_5,k_6,k_7,k_8,k_9,k_a,k_b,k_c,rfl⟩:=In.cells hx;have hb1:=(Ji w.heap.size w).alloc (Jh _) (.cells #[.int .i64 k_1,k_2,k_3,k_4,.int .i64 k_5,k_6,.slice k_7 k_8 k_9,.slice k_a k_b k_c] 31);have HB:=Jf hb1;have HK:=Jf (Blk.new w 31 #[.int .i64 k_1,k_2,k_3,k_4,.int .i64 k_5,k_6,.slice k_7 k_8 k_9,.slice k_a k_b k_c]);have HSC:=Jf (jr v _ (w.alloc (.cells #[.int .i64 k_1,k_2,k_3,k_4,.int .i64 k_5,k_6,.slice k_7 k_8 k_9,.slice k_a k_b k_c] 31)) (In.keep (aa hb1) _ _ hx0));have HX:=Jf hx0;have HSL:=Jf hsl;obtain⟨sb,hsb⟩:∃sb,Sh.jD v=sb:=⟨_,rfl⟩;rw[hsb] at HSC;have HC:=Jf (show Cm.compile v=if sb=true then Cm.node v.size 0 [] v else .bad 14 [] by unfold Cm.compile;rw[hsb]);clear hx hx0 hb1 hsb hsl;go_enter Tryz.func24,Tryz.ntmps24;go_upto_region 1 with(fail);generalize w.alloc (.cells #[.int .i64 k_1,k_2,k_3,k_4,.int .i64 k_5,k_6,.slice k_7 k_8 k_9,.slice k_a k_b k_c] 31)=w0 at*
 obtain⟨a0,a1,a2,a3,a4,a5,a6,a7⟩:=HK.out.eight;have hkl:=HK.out.lt;go_wp2_with fail;refine HSC.out.mono ?_;rintro e1 w1 ⟨rfl,hb2⟩;have HB1:=Jf (HB.out.trans (hb2.mono HB.out.size));have HK1:=Jf (HK.out.on hb2);clear hb2 HSC HB HK a0 a1 a2 a3 a4 a5 a6 a7 hkl;cases sb with
 |false=>
  go_wp2_with fail
  go_ret3
  exact⟨HB1.out,.inr ⟨14,[],by rw[HC.out];rfl,by decide,by decide,rfl⟩⟩
 |true=>
  have hb3:=(Ji w1.heap.size w1).alloc (Jh _) (.cells #[.slice none 0 0,.int .i64 0,.string ⟨#[]⟩] 105);have HB2:=Jf (HB1.out.trans (hb3.mono HB1.out.size));have HK2:=Jf (HK1.out.on hb3);have HM:=Jf (Mk.start w1);have HGM:=Jf (show w.heap.size<=w1.heap.size from HB1.out.size);clear hb3 HK1 HB1;go_upto_region 5 with(fail);generalize w1.alloc (.cells #[.slice none 0 0,.int .i64 0,.string ⟨#[]⟩] 105)=w2 at*
  generalize w1.heap.size=gm at*
  have HN:=Jf (yd v.size v (Jh _) HSL.out hsz gm (λ_=>False) none 0 [] [] [] w2 _ (λb=>b<w.heap.size) HM.out (λb hb=>⟨JN hb HB2.out.size,BV (JN hb HGM.out),λk=>k⟩) (In.keep (λp u hp=>ah.2 ⟨Jn _ _ hp,aa HB2.out _ _ hp⟩) _ _ HX.out) (by show 0+_<=_;omega));rw[show(text []).toArray=#[] from rfl] at HN;obtain⟨a0,a1,a2,a3,a4,a5,a6,a7⟩:=HK2.out.eight;have hkl:=HK2.out.lt;go_wp2_with fail;refine HN.out.mono ?_;rintro e3 w3 ⟨rfl,A',cp',acc',bad',p',hL,hR⟩;have HL:=Jf hL;have HR:=Jf hR;have HB3:=Jf (HB2.out.trans (hL.but.below (B:=w.heap.size) HB2.out.size (λb hb=>BV (JN hb HGM.out))));clear hL hR a0 a1 a2 a3 a4 a5 a6 a7 hkl;obtain⟨t0,t1,t2,t3,t4,t5⟩:=HL.out.maker.blk.three;have hml:=HL.out.maker.lt;by_cases h0:bad'=0
  .subst h0;go_wp2_with fail
   go_ret3
   refine⟨HB3.out,.inl ⟨acc',A',cp',?_,rfl,HL.out.maker.row.slN,HL.out.maker.row.le.1,HL.out.maker.row.le.2.1⟩⟩;rw[HC.out,Jo (by simp)];rcases HR.out with⟨a,h1,h2,_,_⟩|⟨c,q,_,h2,_,h4,_,_⟩
   .rw[JW] at h2;rw[h2];exact h1
   .exact absurd h4.symm h2
  .have hbb:((bad':Int) !=0)=true:=by simpa using h0
   go_upto_region 7 with(fail);go_quiet (fail);go_wp2_with fail
   go_ret3
   rcases HR.out with⟨a,_,_,h3,_⟩|⟨c,q,h1,h2,h3,h4,h5,_⟩
   .exact absurd h3 h0
   .subst h4 h5;exact⟨below_drewN HB3.out _,.inr ⟨bad',q,by rw[HC.out,Jo (by simp)];exact h1,h2,h3,rfl⟩⟩
theorem dh.cells{c:Cl}{k:Cm.Key}{cs:List Value}(h:dh c k cs):∃(j_1:Int) (j_2 j_3:Bool) (j_4:Jd) (j_5:Int) (j_6:Jd) (j_7:Option Addr) (j_8 j_9:Nat) (j_a:Option Addr) (j_b j_c:Nat) (A:Option Addr) (cp:Nat),
  cs=[.string ⟨k.name.toArray⟩,.int .i64 j_1,.bool j_2,.bool j_3,.string ⟨j_4.toArray⟩,.int .i64 j_5,.string ⟨j_6.toArray⟩,.slice j_7 j_8 j_9,.slice j_a j_b j_c,.slice A k.kids.length cp]/\k.v.In c (.agg #[.int .i64 j_1,j_2,j_3,j_4,.int .i64 j_5,j_6,.slice j_7 j_8 j_9,.slice j_a j_b j_c])/\qj c A k.kids/\k.kids.length<=cp/\cp<=maxLen:=by
 obtain⟨r,A,cp,rfl,h2,h3,h4,h5⟩:=h;obtain⟨j_1,j_2,j_3,j_4,j_5,j_6,j_7,j_8,j_9,j_a,j_b,j_c,hr⟩:=In.cells h2;injection hr with hr;subst hr;exact⟨j_1,j_2,j_3,j_4,j_5,j_6,j_7,j_8,j_9,j_a,j_b,j_c,A,cp,rfl,h2,h3,h4,h5⟩
end
section
open Go.RowKit Js
def sV(v:Vl):Prop:=v.may=true/\v.size<=2000/\v.depth<=32/\v.levels<=32/\v.bL 80000
theorem BJ{s:Jd}{v:Vl}{u:Jd}(hs:s.length<=2000)(h:Ps.parse s=.ok v u):sV v:=by
 have ht:=Ps.ir s;rw[h] at ht;have hl:=Ai v ht.1.1;have h1:=ht.1.2;have h2:=ht.2;exact⟨ht.1.1,by omega,by omega,by omega,Ps.mB h⟩
mutual
theorem fG{N M:Nat}(h:N<=M):∀v:Vl,v.bL N->v.bL M
 |.mk k b n s l m,hv=>by
  simp only[Vl.bL] at hv ⊢;exact⟨by omega,by omega,sD h l hv.2.2.1,sE h m hv.2.2.2⟩
theorem sD{N M:Nat}(h:N<=M):∀l:List Vl,fh N l->fh M l
 |[],_=>trivial
 |v::l,hv=>by
  simp only[fh] at hv ⊢;exact⟨fG h v hv.1,sD h l hv.2⟩
theorem sE{N M:Nat}(h:N<=M):∀m:List Js.Mem,fj N m->fj M m
 |[],_=>trivial
 |p::m,hv=>by
  simp only[fj] at hv ⊢;exact⟨B9 h p hv.1,sE h m hv.2⟩
theorem B9{N M:Nat}(h:N<=M):∀p:Js.Mem,uy N p->uy M p
 |(k,v),hv=>by
  simp only[uy] at hv ⊢;exact⟨by omega,fG h v hv.2⟩
end
def Told(w:World)(e:Ending)(w':World):Prop:=
 ∃v x c,e=.returned (.tuple #[x,.int .i64 c])/\v.In w'.cell? x/\Below w.heap.size w w'/\(c=0\/(c=1/\sV v))
theorem sR(s:ByteArray)(hs:s.size<=1000000000000000000)(w:World):Calls Tryz.prog 6 #[.string s] w (Told w):=by
 refine(Ef s hs w).mono ?_;rintro e w' ⟨hb,⟨x,rfl,hin⟩|⟨v,u,x,hsz,hp,rfl,hin⟩⟩
 .exact⟨_,x,0,rfl,In.keep (xS _ _) _ _ hin,hb,.inl rfl⟩
 .exact⟨v,x,1,rfl,In.keep (xS _ _) _ _ hin,hb,.inr ⟨rfl,BJ (by rw[<-Lib.size_eq];exact hsz) hp⟩⟩
section
variable {w w':World} {g:Nat} {c0 c1 c2 c3 c4 c5 c6 c7:Value}
end
def EF(G:World->Prop):Prop:=∀w w':World,G w->Below w.heap.size w w'->G w'
def iZ(v:Vl):Prop:=v.may=true/\v.size<=1000000/\v.bL 1000000
theorem sV.wide{v:Vl}(h:sV v):iZ v:=⟨h.1,by have:=h.2.1;omega,fG (by omega) v h.2.2.2.2⟩
def Sh.exV:Vl:=Ps.mkS [105,110,116,101,103,101,114]
end
section
open Go.RowKit Js Pt
def Cm.pS:Cm.Res (List Cm.Node)->List Cm.Node
 |.ok a=>a
 |.bad _ _=>[]
def Cm.AG:Cm.Res (List Cm.Node)->Nat
 |.ok _=>0
 |.bad c _=>c
def Cm.outP:Cm.Res (List Cm.Node)->Jd
 |.ok _=>[]
 |.bad _ p=>text p
theorem wG.out{r:Cm.Res (List Cm.Node)}{w:World}{e:Ending}{w':World}(h:wG r w e w'):
  ∃(A:Option Addr) (cp:Nat),e=.returned (.tuple #[.slice A (Cm.pS r).length cp,.int .i64 (Cm.AG r),.string ⟨(Cm.outP r).toArray⟩])/\SlN w'.cell? A (Cm.pS r)/\(Cm.pS r).length<=cp/\cp<=maxLen/\Below w.heap.size w w':=by
 obtain⟨hb,⟨a,A,cp,rfl,rfl,h1,h2,h3⟩|⟨c,p,rfl,_,_,rfl⟩⟩:=h
 .exact⟨A,cp,rfl,h1,h2,h3,hb⟩
 .exact⟨none,0,rfl,λi N h=>by simp[Cm.pS] at h,Jh _,by unfold maxLen;omega,hb⟩
def Cm.exV:Vl:=.mk 1 true Nm.Num.zero [] [] []
theorem Cm.zK:Cm.compile Cm.exV=.ok [⟨[],true,true,[]⟩]:=by kernel_rfl
theorem Cm.wC{s:Jd}{v:Vl}{u:Jd}(hs:s.length<=20000)(h:Ps.parse s=.ok v u):iZ v:=by
 have ht:=Ps.ir s;have hl:=Ps.mB h;rw[h] at ht;have h2:=ht.2;exact⟨ht.1.1,by omega,fG (by omega) v hl⟩
end
namespace Cm
open Js Pt
theorem lH:∀{l:Jd},(∀c∈l,c.toNat<128)->St.Txt l
 |[],_=>.nil
 |c::t,h=>by
  have hc:c.toNat<128:=h c (by simp);have e:St.utf8 (c::t)=1:=by
   unfold St.utf8 St.width;rw[Jo (by show(List.getD (c::t) 0 0).toNat<128;exact hc),Jo (by simp)]
  refine .cons _ (by rw[e];decide) ?_;rw[e];exact lH (λd hd=>h d (Lw hd))
theorem lu:∀{l:Jd},(∀c∈l,128<=c.toNat)->name l=l
 |[],_=>rfl
 |c::t,h=>by
  have hc:128<=c.toNat:=h c (by simp);have e:esc c=[c]:=by
   unfold esc;rw[Jj (λk=>by rw[k] at hc;exact absurd hc (by decide)),Jj (λk=>by rw[k] at hc;exact absurd hc (by decide))]
  show esc c++name t=c::t;rw[e,lu (λd hd=>h d (by simp[hd]))];rfl
theorem Gm{l:Jd}(h:St.Txt l):St.Txt (name l):=by
 induction h with
 |nil=>exact .nil
 |cons l h _ ih=>
  have e:name l=name (l.take (St.utf8 l))++name (l.drop (St.utf8 l)):=by
   unfold name;rw[<-List.flatMap_append,Lb]
  rw[e];refine St.Txt.append ?_ ih;have hr:St.Txt (l.take (St.utf8 l)):=by rw[<-St.kN l h];exact St.Txt.encode (St.pC l h)
  rcases St.sM l h with⟨q,h0,_,hl⟩|⟨q,h0,_,h1,_,_,hl⟩|⟨q,h0,_,h1,h2,_,_,_,hl⟩|⟨q,h0,_,h1,h2,h3,_,_,_,hl⟩
  .obtain⟨a,ht,ha⟩:=St.Ce l hl;rw[q,ht];refine lH (λc hc=>?_);simp only[name,KK,Mp,JK] at hc;unfold esc at hc;split at hc
   .rcases JB.1 hc with k|k
    .rw[k];decide
    .rw[Jt.1 k];decide
   .split at hc
    .rcases JB.1 hc with k|k
     .rw[k];decide
     .rw[Jt.1 k];decide
    .rw[Jt.1 hc];omega
  .obtain⟨a,b,ht,ha,hb⟩:=St.Cf l hl;rw[q,ht] at hr ⊢;rw[lu (λc hc=>by simp only[JB,Ky,Lk] at hc;rcases hc with rfl|rfl<;>omega)];exact hr
  .obtain⟨a,b,c,ht,ha,hb,hc⟩:=St.Cg l hl;rw[q,ht] at hr ⊢;rw[lu (λd hd=>by simp only[JB,Ky,Lk] at hd;rcases hd with rfl|rfl|rfl<;>omega)];exact hr
  .obtain⟨a,b,c,d,ht,ha,hb,hc,hd⟩:=St.Ci l hl;rw[q,ht] at hr ⊢;rw[lu (λe he=>by simp only[JB,Ky,Lk] at he;rcases he with rfl|rfl|rfl|rfl<;>omega)];exact hr
theorem E7:∀{P:Names},(∀n∈P,St.text n=true)->St.text (text P)=true:=by
 intro P h;refine Ps.iW ?_
 induction P with
 |nil=>exact .nil
 |cons n t ih=>
  show St.Txt ((47::name n)++text t);refine St.Txt.append ?_ (ih (λq hq=>h q (by simp[hq])));show St.Txt ([47]++name n);exact St.Txt.append (lH (λc hc=>by rw[Jt.1 hc];decide)) (Gm (St.Gk (h n (by simp))))
theorem Bg{l m:Names}(h:text l=text m):l=m:=by
 have h1:=iq l;rw[h,iq m] at h1;injection h1 with h1;exact h1.symm
theorem qS:∀(ns:Names) (v x:Vl),v.may=true->get v ns=some x->∀n∈ns,St.text n=true
 |[],_,_,_,_=>λn hn=>by cases hn
 |nm::ns,.mk k b n s l m,x,hm,h=>by
  simp only[Vl.may,JH] at hm;rw[Pt.get] at h;split at h
  .split at h
   .rename_i y hy;split at h
    .rename_i hi;intro q hq;rcases JB.1 hq with rfl|hq
     .rcases Ed.qV hi with⟨h1,_⟩|⟨_,hg,_⟩
      .cases h1
      .refine Ps.iW (lH (λc hc=>?_));unfold Ed.pM at hg;have hd:q.all Nm.dig=true:=by
        rcases Np (q.all Nm.dig) with k|k
        .exact k
        .exact absurd (.inr (.inl (by rw[k];decide))) hg
       have:=Km.1 hd c hc;simp only[Nm.dig,JH,JF] at this;obtain⟨h1,h2⟩:=this;have h3:c.toNat<=57:=h2;omega
     .exact qS ns y x ((ba l).1 hm.1.2 y (Jz hy)) h q hq
    .cases h
   .cases h
  .split at h
   .rename_i y hy;rw[Ed.od] at hy;split at hy
    .unfold find at hy;obtain⟨p,hp,rfl⟩:=Kd.1 hy;have hpm:=KI hp;have hpe:p.1=nm:=by simpa using M5 hp
     have hmm:=(br m).1 hm.2.1 p hpm;intro q hq;rcases JB.1 hq with rfl|hq
     .rw[<-hpe];exact hmm.1
     .exact qS ns p.2 x hmm.2 h q hq
    .cases hy
   .cases h
theorem gH{N:Nat}(hN:18<=N):∀(ns:Names) (v x:Vl),v.bL N->get v ns=some x->ns.length<=v.size/\(∀n∈ns,n.length<=N)/\x.size<=v.size
 |[],v,x,_,h=>by
  rw[Pt.get] at h;injection h with h;subst h;exact⟨JE _,(λn hn=>by cases hn),Jh _⟩
 |nm::ns,.mk k b n s l m,x,hs,h=>by
  simp only[Vl.bL] at hs;rw[Pt.get] at h;simp only[Vl.size];split at h
  .split at h
   .rename_i y hy;split at h
    .rename_i hi;have hy2:=Jz hy;have hz:=lE hy2;obtain⟨h1,h2,h3⟩:=gH hN ns y x ((jL N l).1 hs.2.2.1 y hy2) h;refine⟨by simp only[Jl];omega,λq hq=>?_,by omega⟩;rcases JB.1 hq with rfl|hq
     .rcases Ed.qV hi with⟨h1,_⟩|⟨_,hg,_⟩
      .cases h1
      .unfold Ed.pM at hg;rcases KW 18 q.length with k|k
       .exact absurd (.inr (.inr (.inr k))) hg
       .omega
     .exact h2 q hq
    .cases h
   .cases h
  .split at h
   .rename_i y hy;rw[Ed.od] at hy;split at hy
    .unfold find at hy;obtain⟨p,hp,rfl⟩:=Kd.1 hy;have hpm:=KI hp;have hpe:p.1=nm:=by simpa using M5 hp
     have hz:=er hpm;have hsl:=(dE N m).1 hs.2.2.2 p hpm;obtain⟨h1,h2,h3⟩:=gH hN ns p.2 x hsl.2 h;refine⟨by simp only[Jl];omega,λq hq=>?_,by omega⟩;rcases JB.1 hq with rfl|hq
     .rw[<-hpe];exact hsl.1
     .exact h2 q hq
    .cases hy
   .cases h
theorem xQ(K:Key)(r:List Key):fA (K::r)=K.kids.map (·.2)++fA r:=by simp[fA]
theorem te(a b:List Key):fA (a++b)=fA a++fA b:=by simp[fA]
end Cm
section
open Go.RowKit Js Pt
def Er(P:Cm.Names)(w:World)(e:Ending)(w':World):Prop:=
 Below w.heap.size w w'/\∃(A:Option Addr) (cp:Nat),
  ((text P).length<=500/\e=.returned (.tuple #[.slice A P.length cp,.int .i64 1])/\Strs w'.cell? A P/\P.length<=cp/\cp<=maxLen)\/(¬(text P).length<=500/\e=.returned (.tuple #[.slice none 0 0,.int .i64 0]))
theorem ou(P:Cm.Names)(w:World)(hP:∀n∈P,St.text n=true)(ht:(text P).length<=1000000000000000000):Calls Tryz.prog 9 #[.string ⟨(text P).toArray⟩] w (Er P w):=by
 have HTX:=Jf (Gj ⟨(text P).toArray⟩ w (by rw[K7];exact ht));have htx:(⟨(text P).toArray⟩:ByteArray).data.toList=text P:=rfl;rw[htx,Cm.E7 hP] at HTX;have HPT:=Jf (iq P);clear htx;go_enter Tryz.func9,Tryz.ntmps9;go_wp2_with fail;refine HTX.out.mono ?_;rintro e w1 ⟨rfl,hw⟩;subst hw;clear HTX;by_cases g1:500<(text P).length
 .have g1':(500:Int)<((text P).length:Int):=by omega
  go_wp2_with fail
  go_ret2
  exact⟨Ji _ _,none,0,.inr ⟨by omega,rfl⟩⟩
 have g1':¬(500:Int)<((text P).length:Int):=by omega
 have HP:=Jf (sf (text P) w (by omega));go_wp2_with fail;refine HP.out.mono ?_;rintro e2 w2 ⟨hb,⟨l,A,cp,hp,rfl,ho⟩|⟨p,hp,rfl⟩⟩
 .obtain⟨o1,o2,o3,o4⟩:=DA ho;obtain rfl:P=l:=by have:=HPT.out;rw[hp] at this;injection this with this;exact this.symm
  have HF:=Jf (show Er P w (.returned (.tuple #[.slice A P.length cp,.int .i64 1])) w2 from⟨hb,A,cp,.inl ⟨by omega,rfl,o1,o2,o3⟩⟩);clear ho o1 o2 o3 o4 hb;go_wp2_with fail
  go_ret2
  exact HF.out
 .exact absurd (HPT.out.symm.trans hp) (by simp)
end
