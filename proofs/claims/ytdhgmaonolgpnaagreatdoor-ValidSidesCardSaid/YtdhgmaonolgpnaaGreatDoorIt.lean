import Derived.Test.YtdhgmaonolgpnaaGreatDoorIs
import Derived.Test.YtdhgmaonolgpnaaGreatDoorHn
set_option linter.unusedSimpArgs false
set_option linter.unusedVariables false
set_option maxHeartbeats 16000000
set_option maxRecDepth 100000
namespace Go.Proofs.YtdhgmaonolgpnaaGreatDoor
section
open Go.RowKit Go.Maps Js Pt
theorem BS{α β:Type}(P:α->β->Prop):∀l:List α,(∀x∈l,∃y,P x y)->∃r:List β,r.length=l.length/\∀(j:Nat) x y,l[j]? =some x->r[j]? =some y->P x y
 |[],_=>⟨[],rfl,λj x y h=>by simp at h⟩
 |a::l,h=>by
  obtain⟨y,hy⟩:=h a (by simp);obtain⟨r,h1,h2⟩:=BS P l (λx hx=>h x (by simp[hx]));refine⟨y::r,by simp[h1],λj x z hj hz=>?_⟩;cases j with
  |zero=>
   obtain rfl:a=x:=by simpa using hj
   obtain rfl:y=z:=by simpa using hz
   exact hy
  |succ j=>exact h2 j x z (by simpa using hj) (by simpa using hz)
theorem Ow.ud{N:Cm.Node}{v:Vl}:(Ow.own N v).length<=N.keys.length+1/\∀n∈Ow.own N v,n=Ow.mr\/∃K∈N.keys,n=K.name:=by
 unfold Ow.own;split
 .exact⟨by simp,λn hn=>.inl (Jt.1 hn)⟩
 .refine⟨by rw[JR];exact Mi (Mx _ _),λn hn=>?_⟩;obtain⟨K,hK,rfl⟩:=JQ.1 hn;exact .inr ⟨K,(L0.1 hK).1,rfl⟩
theorem zT:∃i,Tryz.prog.info? 4=some i/\i.zero=some (.bool false)/\i.size=1/\i.bytes=1:=by
 have h:(Tryz.prog.info? 4).map (λi=>(i.zero,i.size,i.bytes))=some (some (.bool false),1,1):=by kernel_rfl
 cases hq:Tryz.prog.info? 4 with
 |none=>rw[hq] at h;cases h
 |some i=>
  rw[hq] at h;simp only[Kg,JM,Kl] at h;exact⟨i,rfl,h.1,h.2.1,h.2.2⟩
theorem om:∃i,Tryz.prog.info? 54=some i/\i.zero=some (.pointer none)/\i.size=1/\i.bytes=8:=by
 have h:(Tryz.prog.info? 54).map (λi=>(i.zero,i.size,i.bytes))=some (some (.pointer none),1,8):=by kernel_rfl
 cases hq:Tryz.prog.info? 54 with
 |none=>rw[hq] at h;cases h
 |some i=>
  rw[hq] at h;simp only[Kg,JM,Kl] at h;exact⟨i,rfl,h.1,h.2.1,h.2.2⟩
def Vd.onX(N:Cm.Node)(x:Vd.Ask):Option Vd.Fd->List Vd.Fd
 |some t=>if Vd.ga N x=true then[t] else[]
 |none=>[]
theorem nH{w:World}{B B':Nat}{e:TypeId}{size n:Nat}{v:Value}{xs:List Value}(h:w.ownsRow B e size v n xs)(hB:B'<=B):w.ownsRow B' e size v n xs:=by
 obtain⟨q1,q2⟩:=h;refine⟨q1,q2.imp id ?_⟩;rintro⟨g,cap,cur,r1,r2,r3⟩;exact⟨g,cap,cur,r1,by omega,r3⟩
def Hw(w:World)(B:Nat)(U:List Nat)(L:List Cm.Node)(v:Vl)(ns:Cm.Names)(bh gw:Nat)(x:Vd.Ask)(r:Option Vd.Fd):Prop:=
 (∀ns',ns'=ns++Vd.under x->Vd.Res L x.node (Vd.bQ v x) ns' r)/\(∀t,r=some t->nU w B U t)/\∃b m,(x.here=true->b=bh)/\(x.here=false->w.cell? ⟨gw,x.at_,none⟩=some (.map (some b)))/\cX w b m/\m x.node=r.map λt=>mE t.g
def Bt(w:World)(B:Nat)(U:List Nat)(L:List Cm.Node)(v:Vl)(ns:Cm.Names)(mh:Nat->Option Value)(gw nw:Nat)(x:Vd.Ask):Prop:=
 (x.here=true->bB w B U mh L x.node v ns)/\(x.here=false->x.at_<nw/\∃b m,w.cell? ⟨gw,x.at_,none⟩=some (.map (some b))/\cX w b m/\bB w B U m L x.node (Vd.bQ v x) (ns++[x.name]))
theorem Bt.known{w:World}{B:Nat}{U:List Nat}{L:List Cm.Node}{v:Vl}{ns:Cm.Names}{bh gw nw:Nat}{mh:Nat->Option Value}{x:Vd.Ask}(hm:cX w bh mh)(h:Bt w B U L v ns mh gw nw x):∃r,Hw w B U L v ns bh gw x r:=by
 have hcase:∃b m vv nn,(x.here=true->b=bh)/\(x.here=false->w.cell? ⟨gw,x.at_,none⟩=some (.map (some b)))/\cX w b m/\bB w B U m L x.node vv nn/\vv=Vd.bQ v x/\nn=ns++Vd.under x:=by
  by_cases hh:x.here=true
  .exact⟨bh,mh,v,ns,λ_=>rfl,(λk=>by rw[hh] at k;cases k),hm,h.1 hh,by unfold Vd.bQ;rw[Jo hh],by unfold Vd.under;rw[Jo hh,JK]⟩
  .have hh':x.here=false:=by simpa using hh
   obtain⟨_,b,m,h1,h2,h3⟩:=h.2 hh';exact⟨b,m,_,_,(λk=>absurd k hh),(λ_=>h1),h2,h3,rfl,by unfold Vd.under;rw[Jj hh]⟩
 obtain⟨b,m,vv,nn,h1,h2,h3,h4,rfl,rfl⟩:=hcase;rcases h4 with⟨e1,e2⟩|⟨t,e1,e2,e3⟩
 .exact⟨none,(λ_ e=>.inl ⟨rfl,e1⟩),(λt e=>by cases e),b,m,h1,h2,h3,e2⟩
 .exact⟨some t,(λ_ e=>.inr ⟨t,rfl,e▸e2⟩),(λt' e=>by injection e with e;exact e▸e3),b,m,h1,h2,h3,e1⟩
def Gy(L:List Cm.Node)(i:Nat)(N:Cm.Node)(v:Vl)(ns:Cm.Names)(B:Nat)(U:List Nat)(w:World)(e:Ending)(w':World):Prop:=
 ∃(gf:Nat) (names:List Jd) (on:List Vd.Fd) (An:Option Addr) (cn:Nat) (Dn:Option Addr) (dn:Nat),e=.returned (.pointer (some ⟨gf,0,none⟩))/\w.heap.size<=gf/\Blk w' gf 89 #[.pointer none,.string ⟨(text N.at_).toArray⟩,.slice An names.length cn,.slice Dn on.length dn,false]/\aG w' w.heap.size An cn names/\gR w' w.heap.size Dn dn (on.map Vd.Fd.g)/\(∀t∈on,nU w B U t)/\names.length<=5000/\(∀n∈names,n.length<=1000000)/\Below w.heap.size w w'/\
  ((names=[]/\on=[])↔Vd.valid L i v=[])/\∀g f,(Vd.Fd.mk g ns (text N.at_) names on).all f↔∃y∈Vd.valid L i v,f=Vd.up ns y
theorem zO(L:List Cm.Node)(hL:wJ L)(i:Nat)(N:Cm.Node)(hN:L[i]? =some N)(AN:Option Addr)(cN:Nat)(v:Vl)(xv:Value)(w:World)(hT:Tab w)(hkN:gS w.cell? AN N.keys)(hlN:N.keys.length<=cN)(hmN:cN<=maxLen)(hw:iZ v)(hsz:v.size<=5000)(hx:v.In w.cell? xv)(Aa:Option Addr)(ca Ba:Nat)(ha:az w Ba Aa ca (Vd.asks N v))(bh:Nat)(mh:Nat->Option Value)(hm:cX w bh mh)(gw nw:Nat)(hnw:nw<=5000)(B:Nat)(U:List Nat)(ns:Cm.Names)(hf:∀x∈Vd.asks N v,Bt w B U L v ns mh gw nw x):
  Calls Tryz.prog 30 #[.agg #[.string ⟨(text N.at_).toArray⟩,.bool N.all,.bool N.pass,.slice AN N.keys.length cN],xv,.slice Aa (Vd.asks N v).length ca,.map (some bh),.slice (some ⟨gw,0,none⟩) nw nw] w (Gy L i N v ns B U w):=by
 obtain⟨rs,hrl,hrs⟩:=BS (Hw w B U L v ns bh gw) (Vd.asks N v) (λx hx=>(hf x hx).known hm);have hNm:=Jz hN;have HSAY:=Jf (λ(names:List Jd) (hn:names=Ow.own N v++Vd.bp N (Vd.asks N v) (rs.map Option.isSome)) (g:Nat)=>Vd.CQ (L:=L) hL.ends (i:=i) hw.1 hN (hL.one N hNm) (ns:=ns) hrl (λj x r h1 h2=>(hrs j x r h1 h2).1) hn (g:=g));have HRS:=Jf (λ(j:Nat) x r (h1:(Vd.asks N v)[j]? =some x) (h2:rs[j]? =some r)=>(hrs j x r h1 h2).2);have HRL:=Jf hrl;have HAT:=Jf (λ(j:Nat) x (h1:(Vd.asks N v)[j]? =some x)=>(hf x (Jz h1)).2);have HNX:=Jf (λx (h1:x∈Vd.asks N v)=>hL.node hN h1);have HKX:=Jf (λx (h1:x∈Vd.asks N v)=>(show∃K,N.keys[x.key]? =some K by obtain⟨q,K,_,hK,_,e,_⟩:=Vd.fO h1;exact⟨K,by rw[e];exact hK⟩));have HFEW:=Jf hL.few;have HKF:=Jf (hL.keys N hNm);have HNM:=Jf (show(∀n∈Ow.own N v,n.length<=1000000)/\(Ow.own N v).length<=2001 from⟨λn hn=>by
  rcases Ow.ud.2 n hn with rfl|⟨K,hK,rfl⟩
  .decide
  .exact hL.names N hNm K hK,by have:=(Ow.ud (N:=N) (v:=v)).1;have:=hL.keys N hNm;omega⟩)
 have HFM:=Jf (show∀wl,(∀n∈Vd.bp N (Vd.asks N v) wl,n.length<=1000000)/\(Vd.bp N (Vd.asks N v) wl).length<=2000 fromλwl=>⟨λn hn=>by
  obtain⟨K,hK,rfl⟩:=Vd.uY hn;exact hL.names N hNm K hK,JA (Vd.qH N _ wl _) (hL.keys N hNm)⟩)
 have HOWN:=Jf (λ(W:World) (hb:Below w.heap.size w W)=>(show Calls Tryz.prog 11 #[.agg #[.string ⟨(text N.at_).toArray⟩,.bool N.all,.bool N.pass,.slice AN N.keys.length cN],xv] W (λe w'=>∃(A:Option Addr) (c:Nat),e=.returned (.slice A (Ow.own N v).length c)/\aG w' W.heap.size A c (Ow.own N v)/\Below W.heap.size W w') from uc N.at_ (text N.at_) N.all N.pass N.keys AN cN v xv W (hT.keep hb) (hkN.keep (aa hb)) hlN hmN (by have:=hL.keys N hNm;omega) (hL.wide N hNm) hw (In.keep (aa hb) _ _ hx) (hL.bare N hNm)));have HAL:=Jf (show(Vd.asks N v).length<=2000000000 from by
  have h1:=Vd.jO (N:=N) (v:=v) (hL.kids N hNm) hsz N.keys.length (Jh _);rw[Vd.lZ] at h1;have h2:=hL.keys N hNm;have h3:=K9 (200*5000) h2;omega)
 have HFAI:=Jf (λ(W:World) (wl:List Bool) (Bw:Nat) (Aw:Option Addr) (cw:Nat) (hb:Below w.heap.size w W) (hbw:Bu W Bw Aw cw wl) (hl:wl.length=(Vd.asks N v).length)=>(show Calls Tryz.prog 62 #[.agg #[.string ⟨(text N.at_).toArray⟩,.bool N.all,.bool N.pass,.slice AN N.keys.length cN],.slice Aa (Vd.asks N v).length ca,.slice Aw wl.length cw] W (Et W (Vd.bp N (Vd.asks N v) wl)) from zN N.at_ (text N.at_) N.all N.pass N.keys AN cN (Vd.asks N v) Ba Aa ca wl Bw Aw cw W (hkN.keep (aa hb)) hlN hmN (by have:=hL.keys N hNm;omega) (ha.on hb) hbw hl (λx hx=>by obtain⟨q,K,_,hK,_,e,_⟩:=Vd.fO hx;rw[e];exact(Jm.1 hK).1) (by have:=HAL.out;omega)));have HA:=Jf ha;have HK:=Jf hkN;have hcm:=(ai ha).2.1;have hcl:=(ai ha).1;unfold maxLen at hcm hmN;obtain⟨k_1,k_2,k_3,k_4,k_5,k_6,k_7,k_8,k_9,k_a,k_b,k_c,rfl⟩:=In.cells hx;have hb0:=(Ji w.heap.size w).alloc (Jh _) (.cells #[.string ⟨(text N.at_).toArray⟩,N.all,N.pass,.slice AN N.keys.length cN] 39);have HB0:=Jf (hb0.alloc hb0.size (.cells #[.int .i64 k_1,k_2,k_3,k_4,.int .i64 k_5,k_6,.slice k_7 k_8 k_9,.slice k_a k_b k_c] 31));have HX0:=Jf ((Blk.new w 39 #[.string ⟨(text N.at_).toArray⟩,N.all,N.pass,.slice AN N.keys.length cN]).alloc (.cells #[.int .i64 k_1,k_2,k_3,k_4,.int .i64 k_5,k_6,.slice k_7 k_8 k_9,.slice k_a k_b k_c] 31));have HY0:=Jf (Blk.cW w (.cells #[.string ⟨(text N.at_).toArray⟩,N.all,N.pass,.slice AN N.keys.length cN] 39) 31 #[.int .i64 k_1,k_2,k_3,k_4,.int .i64 k_5,k_6,.slice k_7 k_8 k_9,.slice k_a k_b k_c]);clear hb0 hL hN hT hkN hw hsz hx ha hm hf hrs hrl hNm;generalize hON:Vd.asks N v=aks at*
 obtain⟨i0,hi0,hz0,hz1,hz2⟩:=zT;have hlx:aks.length<=2000000000:=HAL.out;have hmk:∀W:World,(Instr.makeSlice 110 (.int .i64 (aks.length:Int)) (.int .i64 (aks.length:Int))).run Tryz.prog W=.ok (.slice (some ⟨W.heap.size,0,none⟩) aks.length aks.length) (W.alloc (.cells (madeCells #[.bool false] aks.length) 4)):=λW=>by
  have:=Nw (P:=Tryz.prog) W 110 4 i0 (.bool false) Tryz.underlying110 hi0 hz0 .i64 .i64 aks.length aks.length (by omega) (Mj _) (by rw[hz2];omega) (by omega);rw[hz1] at this;simp only[Ku,LZ] at this;exact this
 go_enter Tryz.func30,Tryz.ntmps30;go_upto_region 1 with(fail);generalize (w.alloc (.cells #[.string ⟨(text N.at_).toArray⟩,N.all,N.pass,.slice AN N.keys.length cN] 39)).alloc (.cells #[.int .i64 k_1,k_2,k_3,k_4,.int .i64 k_5,k_6,.slice k_7 k_8 k_9,.slice k_a k_b k_c] 31)=w2 at*
 have x0:=HX0.out.cell 0;have xl:=HX0.out.lt;go_upto_region 2 with(fail);have HF2:=Jf (Blk.new w2 89 #[.pointer none,.string ⟨(text N.at_).toArray⟩,.slice none 0 0,.slice none 0 0,false]);have HB2:=Jf ((Ji w2.heap.size w2).alloc (Jh _) (.cells #[.pointer none,.string ⟨(text N.at_).toArray⟩,.slice none 0 0,.slice none 0 0,false] 89));generalize w2.alloc (.cells #[.pointer none,.string ⟨(text N.at_).toArray⟩,.slice none 0 0,.slice none 0 0,false] 89)=w3 at*
 clear x0 xl;go_upto_region 3 with(fail);have hb3:=(Ji w3.heap.size w3).alloc (Jh _) (.cells (madeCells #[.bool false] aks.length) 4);have HOW:=Jf (show(w3.alloc (.cells (madeCells #[.bool false] aks.length) 4)).ownsRow w2.heap.size 4 1 (.slice (some ⟨w3.heap.size,0,none⟩) aks.length aks.length) aks.length (List.replicate aks.length (.bool false)) by
  have:=Kv w3 (base:=w2.heap.size) (e:=4) (size:=1) (madeCells #[.bool false] aks.length) aks.length HB2.out.size (by unfold maxLen;omega) (by rw[LU,LZ]);rw[MF] at this;exact this)
 have HF4:=Jf (HF2.out.on hb3);have HB4:=Jf (HB2.out.trans (hb3.mono HB2.out.size));have HZ4:=Jf (gR.nil (w3.alloc (.cells (madeCells #[.bool false] aks.length) 4)) w2.heap.size);generalize w3.alloc (.cells (madeCells #[.bool false] aks.length) 4)=w4 at*
 generalize w3.heap.size=gb at*
 clear hmk hi0 hz0 hz1 hz2 hb3 HF2 HB2;obtain⟨gf,hgf⟩:∃g,w2.heap.size=g:=⟨_,rfl⟩;have HGF:=Jf hgf;rw[hgf] at HF4 ⊢;clear hgf;go_wp2_with fail
 go_loopw [26] (λv26 wr=>∃(j:Nat) (D3:Option Addr) (d3:Nat) (fl:List Value),v26=.int .i64 j/\j<=aks.length/\Blk wr gf 89 #[.pointer none,.string ⟨(text N.at_).toArray⟩,.slice none 0 0,.slice D3 (Vd.dT N (aks.take j) (rs.take j)).length d3,false]/\gR wr w2.heap.size D3 d3 ((Vd.dT N (aks.take j) (rs.take j)).map Vd.Fd.g)/\wr.ownsRow w2.heap.size 4 1 (.slice (some ⟨gb,0,none⟩) aks.length aks.length) aks.length fl/\fl.take j=qp ((rs.take j).map Option.isSome)/\Below w2.heap.size w2 wr) (λv26 _=>aks.length-(intOf v26).toNat)
 case atStart=>exact⟨0,none,0,_,rfl,JE _,by simpa[Vd.dT] using HF4.out,by simpa[Vd.dT] using HZ4.out,HOW.out,by simp[qp],HB4.out⟩
 case round=>
  obtain⟨j,D3,d3,fl,rfl,hj,hgf,hpd,how,hfl,hb⟩:=hrel;obtain⟨onj,honj⟩:∃o,Vd.dT N (aks.take j) (rs.take j)=o:=⟨_,rfl⟩;rw[honj] at hgf hpd;have HONJ:=Jf honj;have HGB:=Jf hgf;have HPD:=Jf hpd;have HOR:=Jf how;have HFL:=Jf hfl;have HB:=Jf hb;have HBW:=Jf (HB0.out.trans (hb.mono HB0.out.size));clear honj hgf hpd how hfl hb HF4 HB4 HZ4 HOW;by_cases hlt:j<aks.length
  .obtain⟨g7,hg7,_,hgl7,c0,c1,c2',c3',c4'⟩:=az.item (HA.out.on HBW.out) (Jg hlt);have hji:(j:Int)<(aks.length:Int):=by omega
   obtain⟨a7,ha7⟩:∃a,aks[j]=a:=⟨_,rfl⟩;have HX7:=Jf (show aks[j]? =some a7 by rw[Jg hlt,ha7]);rw[ha7] at c0 c1 c2' c3' c4';clear ha7;obtain⟨xk,xn,xh,xs,xa⟩:=a7;simp only at c0 c1 c2' c3' c4';obtain⟨r,hr⟩:∃r,rs[j]? =some r:=⟨_,Jg (by have:=HRL.out;omega)⟩;have HRJ:=Jf hr;obtain⟨_,bx,mx,hbh,hbw,himx,hmx⟩:=HRS.out j _ r HX7.out hr;obtain⟨K,hK⟩:=HKX.out _ (Jz HX7.out);have hxnl:=HNX.out _ (Jz HX7.out);have HXN:=Jf (show xn<=1000000000000000000 by have h1:xn<L.length:=hxnl;have:=HFEW.out;omega);have HATJ:=Jf (HAT.out j _ HX7.out);have HBH:=Jf hbh;have HBWX:=Jf hbw;have HIM:=Jf himx;have HMX:=Jf (show mx xn=r.map λt=>mE t.g from hmx);have HKK:=Jf (show N.keys[xk]? =some K from hK);have HONX:=Jf (show Vd.dT N (aks.take (j+1)) (rs.take (j+1))=onj++Vd.onX N ⟨xk,xn,xh,xs,xa⟩ r by
    have h1:=dy (λx:Vd.Ask=>x) HX7.out;have h2:=dy (λx:Option Vd.Fd=>x) hr;rw[LC,LC] at h1 h2;rw[h1,h2,Vd.oy (by rw[JL,JL];have:=HRL.out;omega),HONJ.out];cases r<;>rfl)
   have HFLX:=Jf (show∀b,b=r.isSome->(fl.set j (.bool b)).take (j+1)=qp ((rs.take (j+1)).map Option.isSome) fromλb hb=>by
    have h2:=dy (λx:Option Vd.Fd=>x) hr;rw[LC,LC] at h2;rw[h2,JX];unfold qp;rw[JX];have hfl:j<fl.length:=by have:=HOR.out.1;omega
    rw[Jr (by rw[KF];exact hfl),NR,O7 (Jh _),HFL.out];subst hb;rfl)
   have hb1:=(Ji wr.heap.size wr).alloc (Jh _) (.cells #[.int .i64 (xk:Int),.int .i64 (xn:Int),xh,xs,.int .i64 (xa:Int)] 121);have HXB:=Jf (Blk.new wr 121 #[.int .i64 (xk:Int),.int .i64 (xn:Int),xh,xs,.int .i64 (xa:Int)]);have HB5:=Jf (HB.out.trans (hb1.mono HB.out.size));have HBW5:=Jf (HBW.out.trans (hb1.mono HBW.out.size));have HO5:=Jf (aA HOR.out (λb _ hb=>hb1.block b hb));have HP5:=Jf (HPD.out.on hb1);have HG5:=Jf (HGB.out.on hb1);have HNGR:=Jf (show¬wr.heap.size=gb fromλe=>by have:=(HOR.out.lt gb rfl).2;omega);subst hg7;clear hb1 hr hbh hbw himx hmx hK hxnl;go_upto_region 7 with(fail);generalize wr.alloc (.cells #[.int .i64 (xk:Int),.int .i64 (xn:Int),xh,xs,.int .i64 (xa:Int)] 121)=wk at*
   clear c0 c1 c2' c3' c4' hgl7;have x2:=HXB.out.cell 2;have x4:=HXB.out.cell 4;have xl:=HXB.out.lt;go_upto_if 34 with fail
   go_cut [15] from 35 to 39 (λv15 wc=>v15=.map (some bx)/\wc=wk);case first=>
    cases xh with
    |true=>
     have HE:=Jf (HBH.out rfl);go_wp2_with fail
     go_meet
     case rel=>exact⟨by rw[HE.out],rfl⟩
    |false=>
     have e1:=(aa HBW5.out) _ _ (HBWX.out rfl);have e2:=Jn _ _ e1;have e3:xa<nw:=(HATJ.out rfl).1;have e4:(xa:Int)<(nw:Int):=by omega
     go_wp2_with fail
     go_meet
     case rel=>exact⟨rfl,rfl⟩
   case rest=>
   obtain⟨rfl,rfl⟩:=hcut;clear x2 x4;have x1:=HXB.out.cell 1;have hz:∀W,(zeroValue 54).run Tryz.prog W=.ok (.pointer none) W:=λW=>by kernel_rfl
   have hlk:=(HIM.out.on HBW5.out).look (T:=56) Tryz.underlying56 (hz _) (i:=xn) HXN.out false;rw[HMX.out] at hlk;have hgb0:wc.cell? ⟨gb,j,none⟩=some (fl[j]'(by have:=HOR.out.1;omega)):=(HO5.out.cellAt j (by omega)).trans (Jg _);have hgf0:=HO5.out.frozenAt;have hgl0:=(HO5.out.lt gb rfl).2;cases r with
   |none=>
    simp only[Ki,Kq,Option.map_none,Option.getD_none] at hlk;go_upto_region 11 with(fail);have HO6:=Jf (eZ HO5.out j (.bool false));have HS6:=Jf ((But.refl (λb=>b=gb) wc).set (p:=⟨gb,j,none⟩) (.inr rfl) (.bool false));have HB6:=Jf (HB5.out.setCell (p:=⟨gb,j,none⟩) (HO5.out.lt gb rfl).1 (.bool false));have HG6:=Jf (HS6.out.blk HG5.out (λe=>by subst e;exact ay HG5.out HO5.out (by decide) ⟨_,rfl,rfl⟩));have HP6:=Jf (show gR (wc.setCell ⟨gb,j,none⟩ (.bool false)) w2.heap.size D3 d3 (onj.map Vd.Fd.g) from bH HS6.out HP5.out (λb hk e=>by subst e;exact iy HP5.out HO5.out (by decide) hk ⟨_,rfl,rfl⟩));have hb0:(wc.setCell ⟨gb,j,none⟩ (.bool false)).cell? ⟨gb,j,none⟩=some (.bool false):=(HO6.out.cellAt j (by omega)).trans (Kw (by have:=HOR.out.1;omega));clear hgb0 hgf0 hlk x1 hgl0;have hgl0:=(HO6.out.lt gb rfl).2;generalize wc.setCell ⟨gb,j,none⟩ (.bool false)=wq at*
    go_wp2_with fail;go_roundw;case rel=>exact⟨j+1,D3,d3,_,by go_num,by omega,by rw[HONX.out,show Vd.onX N _ none=[] from rfl,JK];exact HG6.out,by rw[HONX.out,show Vd.onX N _ none=[] from rfl,JK];exact HP6.out,HO6.out,HFLX.out _ rfl,HB6.out⟩
    case measure=>simp[intOf];omega
   |some t=>
    simp only[Ki,Kq,Kg,Nu] at hlk;unfold mE at hlk;go_upto_region 11 with(fail);have HO6:=Jf (eZ HO5.out j (.bool true));have HS6:=Jf ((But.refl (λb=>b=gb) wc).set (p:=⟨gb,j,none⟩) (.inr rfl) (.bool true));have HB6:=Jf (HB5.out.setCell (p:=⟨gb,j,none⟩) (HO5.out.lt gb rfl).1 (.bool true));have HG6:=Jf (HS6.out.blk HG5.out (λe=>by subst e;exact ay HG5.out HO5.out (by decide) ⟨_,rfl,rfl⟩));have HP6:=Jf (show gR (wc.setCell ⟨gb,j,none⟩ (.bool true)) w2.heap.size D3 d3 (onj.map Vd.Fd.g) from bH HS6.out HP5.out (λb hk e=>by subst e;exact iy HP5.out HO5.out (by decide) hk ⟨_,rfl,rfl⟩));have HX6:=Jf (HS6.out.blk HXB.out HNGR.out);have hb0:(wc.setCell ⟨gb,j,none⟩ (.bool true)).cell? ⟨gb,j,none⟩=some (.bool true):=(HO6.out.cellAt j (by omega)).trans (Kw (by have:=HOR.out.1;omega));clear hgb0 hgf0 hlk x1 hgl0 xl;have hgl0:=(HO6.out.lt gb rfl).2;have HBW6:=Jf (HB0.out.trans (HB6.out.mono HB0.out.size));generalize wc.setCell ⟨gb,j,none⟩ (.bool true)=wq at*
    obtain⟨g3,o3,cs3,hg3,hi3,hc3⟩:=HK.out xk K HKK.out;obtain⟨z_1,z_2,z_3,z_4,z_5,z_6,z_7,z_8,z_9,z_a,z_b,z_c,A4,c4,rfl,_,_,_,_⟩:=hi3.cells;have d0:wq.cell? ⟨g3,o3+xk*10,none⟩=_:=(aa HBW6.out) _ _ (hc3 0 _ rfl);have hgl3:=Jn _ _ d0;have hxk:xk<N.keys.length:=(Jm.1 HKK.out).1;have hxki:(xk:Int)<(N.keys.length:Int):=by omega
    have n0:=(HX0.out.on HB6.out).cell 3;have nl:=(HX0.out.on HB6.out).lt;have y0:=HX6.out.cell 0;have yl:=HX6.out.lt;have HPO:=Jf (vJ K.name wq);have HPA:=Jf (show Vd.ga N ⟨xk,xn,xh,xs,xa⟩=Vd.ff K.name by unfold Vd.ga;rw[show N.keys[(⟨xk,xn,xh,xs,xa⟩:Vd.Ask).key]? =some K from HKK.out]);obtain⟨pb,hpb⟩:∃b,Vd.ff K.name=b:=⟨_,rfl⟩;rw[hpb] at HPO HPA;subst hg3;clear hi3 hc3 hpb;cases pb with
    |false=>
     have HONE:=Jf (show Vd.dT N (aks.take (j+1)) (rs.take (j+1))=onj by rw[HONX.out];simp[Vd.onX,HPA.out]);go_wp2_with (refine HPO.out.mono ?_;rintro e2 wv ⟨rfl,hbv⟩;have HBV:=Jf hbv;clear hbv);go_roundw;case rel=>exact⟨j+1,D3,d3,_,by go_num,by omega,by rw[HONE.out];exact HG6.out.on HBV.out,by rw[HONE.out];exact HP6.out.on HBV.out,aA HO6.out (λb _ hb=>HBV.out.block b hb),HFLX.out _ rfl,HB6.out.trans (HBV.out.mono HB6.out.size)⟩
     case measure=>simp[intOf];omega
    |true=>
     have HONE:=Jf (show Vd.dT N (aks.take (j+1)) (rs.take (j+1))=onj++[t] by rw[HONX.out];simp[Vd.onX,HPA.out]);have HONL:=Jf (show onj.length<=2000000000 by
      have h1:∀(a:List Vd.Ask) (r:List (Option Vd.Fd)),(Vd.dT N a r).length<=a.length:=by
       intro a
       induction a with
       |nil=>intro r;simp[Vd.dT]
       |cons x a ih=>
        intro r;cases r with
        |nil=>simp[Vd.dT]
        |cons q r=>
         have:=ih r;cases q with
         |none=>simp only[Vd.dT,Jl];omega
         |some t=>simp only[Vd.dT];split<;>simp only[Jl]<;>omega
      have:=h1 (aks.take j) (rs.take j);rw[HONJ.out,JL] at this;have:=HAL.out;omega)
     go_wp2_with fail;refine HPO.out.mono ?_;rintro e2 wv ⟨rfl,hbv⟩;have HBV:=Jf hbv;clear hbv;have HG7:=Jf (HG6.out.on HBV.out);have HP7:=Jf (HP6.out.on HBV.out);have HO7:=Jf (aA HO6.out (λb _ hb=>HBV.out.block b hb));have HB7:=Jf (HB6.out.trans (HBV.out.mono HB6.out.size));clear d0 hgl3 hxki n0 nl y0 yl hb0 hgl0;have y3:=HG7.out.cell 3;have yl:=HG7.out.lt;have hb8:=(Ji wv.heap.size wv).alloc (Jh _) (.cells #[.pointer (some ⟨t.g,0,none⟩)] 54);have HB8:=Jf hb8;have HS8:=Jf (show(wv.alloc (.cells #[.pointer (some ⟨t.g,0,none⟩)] 54)).ownsRow w2.heap.size 54 1 (.slice D3 onj.length d3) onj.length (dO (onj.map Vd.Fd.g)) by
      have:=HP7.out.on hb8;unfold gR at this;rw[JR] at this;exact this)
     have HNW:=Jf (Blk.new wv 54 #[.pointer (some ⟨t.g,0,none⟩)]);have HSR1:=Jf (show Src (wv.alloc (.cells #[.pointer (some ⟨t.g,0,none⟩)] 54)) (some ⟨wv.heap.size,0,none⟩) 1 1 (dO [t.g]) from .inr ⟨_,rfl,λj u hu=>JU HNW.out j u hu⟩);have HSZ:=Jf (show w2.heap.size<=(wv.alloc (.cells #[.pointer (some ⟨t.g,0,none⟩)] 54)).heap.size from JA HB7.out.size hb8.size);have HLN:=Jf (show onj.length+1<=maxLen/\(onj.length+1)*8<=140737488355328 from by have:=HONL.out;unfold maxLen;omega);have HBT:=Jf (λ(x8:World) (hg:(wv.alloc (.cells #[.pointer (some ⟨t.g,0,none⟩)] 54)).grownBy x8 (Value.slice D3 onj.length d3).ownBlock)=>(show But (Bk D3) wv x8 from(But.of hb8).grown hg (λq hq=>.inr (jH hq))));have HGK:=Jf (λx8 hg=>(HBT.out x8 hg).blk HG7.out (ay HG7.out HP7.out (by decide)));have HOK:=Jf (λx8 hg=>bH (HBT.out x8 hg) HO7.out (λb h1 h2=>iy HO7.out HP7.out (by decide) h1 h2));have HBL:=Jf (λx8 hg=>(HBT.out x8 hg).below HB7.out.size (λb hb hk=>by obtain⟨ad,e1,e2⟩:=hk;subst e1 e2;obtain⟨g',rfl,q1,_⟩:=(ai HP7.out).2.2.2 ad rfl;have q1:w2.heap.size<=(⟨g',0,none⟩:Addr).block:=q1;omega));obtain⟨i0,hi0,hz0,hz1,hz2⟩:=om;clear hb8;go_wp2_with (at_builtin;refine aP _ rfl _ _ _ rfl w2.heap.size 54 i0 _ 1 8 Tryz.underlying87 hi0 hz0 hz1 hz2 rfl (by decide) (.slice D3 onj.length d3) onj.length (dO (onj.map Vd.Fd.g)) rfl HS8.out (some ⟨wv.heap.size,0,none⟩) 1 1 (dO [t.g]) rfl rfl HSR1.out (rW (λ_=>rfl) _) HLN.out.1 HLN.out.2 HSZ.out (onj.length+1) rfl ?_;intro A8 c8 x8 hown hgr hat;have HOW8:=Jf hown;have HG8:=Jf (HGK.out _ hgr);have HO8:=Jf (HOK.out _ hgr);have HBE:=Jf (HB7.out.trans (HBL.out _ hgr));have k3:=HG8.out.cell 3;have kf:=HG8.out.frozen;have kl:=HG8.out.lt;clear hown hgr hat y3 yl);have HST:=Jf ((But.refl (λb=>b=gf) x8).set (p:=⟨gf,3,none⟩) (.inr rfl) (.slice A8 (onj.length+1) c8));go_roundw;case rel=>exact⟨j+1,A8,c8,_,by go_num,by omega,by rw[HONE.out,Jk,Jy];exact HG8.out.set 3 _,by
      rw[HONE.out];unfold gR;rw[JX,Jk,JR,show dO (onj.map Vd.Fd.g++[t].map Vd.Fd.g)=dO (onj.map Vd.Fd.g)++dO [t.g] by simp[dO]];exact bH HST.out HOW8.out (λb hk e=>by subst e;exact ay HG8.out HOW8.out (by decide) hk),bH HST.out HO8.out (λb hk e=>by subst e;exact ay HG8.out HO8.out (by decide) hk),HFLX.out _ rfl,HBE.out.setCell (p:=⟨gf,3,none⟩) (Nat.le_of_eq HGF.out) _⟩
     case measure=>simp[intOf];omega
  .obtain rfl:j=aks.length:=by omega
   obtain⟨wl,hwl⟩:∃l,rs.map Option.isSome=l:=⟨_,rfl⟩;have hwll:wl.length=aks.length:=by rw[<-hwl,JR];exact HRL.out
   have HOE:=Jf (show onj=Vd.dT N aks rs by rw[<-HONJ.out,JC,<-HRL.out,JC]);have HBO:=Jf (show Bu wr w2.heap.size (some ⟨gb,0,none⟩) aks.length wl by
    have h:=HFL.out;rw[L7 (by have:=HOR.out.1;omega),<-HRL.out,JC,hwl] at h;unfold Bu;rw[hwll,<-h];exact HOR.out)
   have HWL:=Jf hwl;have HWLL:=Jf hwll;have HXR:=Jf (HX0.out.on HB.out);have HYR:=Jf (HY0.out.on HB.out);have hne1:¬w.heap.size=gf:=by have:=HX0.out.lt;have:=HGF.out;omega
   have hne2:¬w.heap.size+1=gf:=by have:=HY0.out.lt;have:=HGF.out;omega
   have HRX:=Jf (λ(W9:World) (h:But (λb=>b=gf) wr W9)=>h.blk HXR.out hne1);have HRY:=Jf (λ(W9:World) (h:But (λb=>b=gf) wr W9)=>h.blk HYR.out hne2);clear hwl hwll hne1 hne2;go_upto_region 14 with(fail);refine JT (S:=λW9=>But (λb=>b=gf) wr W9) (by kernel_rfl) (But.of (Ji _ _).drew) (λht=>?_);refine af 0 (.pointer (some ⟨gf,0,none⟩)) ht ?_ ?_
   .intro W9 hSw;go_simp
   try simp only[ab]
   refine af 1 (.agg #[.string ⟨(text N.at_).toArray⟩,N.all,N.pass,.slice AN N.keys.length cN]) ht ?_ ?_
   .intro W9 hSw;have y0:=(HRX.out W9 hSw).cell 0;have y1:=(HRX.out W9 hSw).cell 1;have y2:=(HRX.out W9 hSw).cell 2;have y3:=(HRX.out W9 hSw).cell 3;have yl:=(HRX.out W9 hSw).lt;go_simp
   try simp only[ab]
   refine af 2 (.agg #[.int .i64 k_1,k_2,k_3,k_4,.int .i64 k_5,k_6,.slice k_7 k_8 k_9,.slice k_a k_b k_c]) ht ?_ ?_
   .intro W9 hSw;obtain⟨y0,y1,y2,y3,y4,y5,y6,y7⟩:=(HRY.out W9 hSw).eight;have yl:=(HRY.out W9 hSw).lt;go_simp
   try simp only[ab]
   refine af 4 (.agg #[.string ⟨(text N.at_).toArray⟩,N.all,N.pass,.slice AN N.keys.length cN]) ht ?_ ?_
   .intro W9 hSw;have y0:=(HRX.out W9 hSw).cell 0;have y1:=(HRX.out W9 hSw).cell 1;have y2:=(HRX.out W9 hSw).cell 2;have y3:=(HRX.out W9 hSw).cell 3;have yl:=(HRX.out W9 hSw).lt;go_simp
   try simp only[ab]
   refine af 5 (.slice Aa aks.length ca) ht ?_ ?_
   .intro W9 hSw;go_simp
   try simp only[ab]
   refine af 6 (.slice (some ⟨gb,0,none⟩) aks.length aks.length) ht ?_ ?_
   .intro W9 hSw;go_simp
   try simp only[ab]
   refine bz 3 λK hK=>?_;go_simp;refine(HOWN.out _ (HBW.out.trans ((Ji wr.heap.size wr).drew.mono HBW.out.size))).mono ?_;rintro e5 w5 ⟨A5,c5,rfl,h5,hb5⟩;have hb25:=(Ji wr.heap.size wr).drew.trans (show Below wr.heap.size wr.drew w5 from hb5);have H5:=Jf h5;have HB25:=Jf hb25;have HBW5:=Jf (HBW.out.trans (hb25.mono HBW.out.size));clear h5 hb5 ht;go_wp2_with fail;refine hK.out _ _ (But.of hb25) (λht=>?_);clear hK K hb25;try simp only[ab]
   have HFC:=Jf (HFAI.out w5 wl w2.heap.size (some ⟨gb,0,none⟩) aks.length HBW5.out (aA HBO.out (λb _ hb=>HB25.out.block b hb)) HWLL.out);rw[HWLL.out] at HFC;refine bz 7 λK hK=>?_;go_simp;refine HFC.out.mono ?_;rintro e6 w6 ⟨A6,c6,rfl,h6,hb6⟩;have H6:=Jf (show aG w6 w5.heap.size A6 c6 _ from h6);have H56:=Jf (H5.out.on hb6);have HB26:=Jf (HB25.out.trans (hb6.mono HB25.out.size));clear h6 hb6 ht HFC;go_wp2_with fail;refine hK.out _ _ (But.of HB26.out) (λht=>?_);clear hK K;try simp only[ab]
   refine bz 8 λK hK=>?_;go_simp;have hb7:=(Ji w6.heap.size w6).alloc (Jh _) (.cells #[.slice A5 (Ow.own N v).length c5,.slice A6 (Vd.bp N aks wl).length c6] 40);have HB27:=Jf (HB26.out.trans (hb7.mono HB26.out.size));have HCC:=Jf (wY (Blk.new w6 40 #[.slice A5 (Ow.own N v).length c5,.slice A6 (Vd.bp N aks wl).length c6]) (H56.out.on hb7).texts (H6.out.on hb7).texts (by have:=HNM.out.2;omega) (by have:=(HFM.out wl).2;omega));obtain⟨names,hnm⟩:∃l,Ow.own N v++Vd.bp N aks wl=l:=⟨_,rfl⟩;rw[hnm] at HCC;have HNME:=Jf hnm;refine hK.out _ _ (But.of HB27.out) (λht=>?_);clear hK K hb7 hnm;generalize w6.alloc (.cells #[.slice A5 (Ow.own N v).length c5,.slice A6 (Vd.bp N aks wl).length c6] 40)=w7 at*
   try simp only[ab]
   refine bz 9 λK hK=>?_;go_simp;refine HCC.out.mono ?_;rintro e8 w8 ⟨A8,c8,rfl,h8,hb8⟩;have H8:=Jf (show aG w8 w7.heap.size A8 c8 _ from h8);have HB28:=Jf (HB27.out.trans (hb8.mono HB27.out.size));clear h8 hb8 HCC;go_wp2_with fail;refine hK.out _ _ (But.of HB28.out) (λht=>?_);clear hK K;try simp only[ab]
   refine af 10 (.pointer (some ⟨gf,0,none⟩)) ht ?_ ?_
   .intro W9 hSw;go_simp
   try simp only[ab]
   refine af 11 (.pointer (some ⟨gf,2,none⟩)) ht ?_ ?_
   .intro W9 hSw;go_simp
   try simp only[ab]
   have HG8:=Jf (HGB.out.on HB28.out);have y2:=HG8.out.cell 2;have yf:=HG8.out.frozen;have yl:=HG8.out.lt;refine bz 12 λK hK=>?_;go_simp;have HST:=Jf ((But.refl (λb=>b=gf) w8).set (p:=⟨gf,2,none⟩) (.inr rfl) (.slice A8 names.length c8));refine hK.out _ _ ((But.of (X:=λb=>b=gf) HB28.out).trans HST.out (λ_ _ h=>h)) (λht=>?_);clear hK K;try simp only[ab]
   refine Ke (by kernel_rfl) ?_ _;clear ht y2 yf yl;go_wp2_with fail;go_ret;have H8n:aG w8 w7.heap.size A8 c8 names:=H8.out;have hsay:=HSAY.out names (by rw[HWL.out];exact HNME.out.symm);rw[<-HOE.out] at hsay;refine⟨gf,names,onj,A8,c8,D3,d3,rfl,by have:=HX0.out.lt;have:=HGF.out;omega,HG8.out.set 2 _,bH HST.out (nH H8n (JA HBW.out.size HB27.out.size)) (λb hk e=>by subst e;exact ay HG8.out H8n (by decide) hk),bH HST.out (nH (HPD.out.on HB28.out) HB0.out.size) (λb hk e=>by subst e;exact ay HG8.out (HPD.out.on HB28.out) (by decide) hk),λt ht=>?_,?_,λn hn=>?_,(HBW.out.trans (HB28.out.mono HBW.out.size)).setCell (p:=⟨gf,2,none⟩) (by have:=HX0.out.lt;have:=HGF.out;show w.heap.size<=gf;omega) _,(hsay 0).1,λg=>(hsay g).2⟩
   .rw[HOE.out] at ht;obtain⟨q,x,h1,h2,_⟩:=Vd.jF.1 ht;exact(HRS.out q x _ h1 h2).1 t rfl
   .rw[<-HNME.out,Jk];have:=HNM.out.2;have:=(HFM.out wl).2;omega
   .rw[<-HNME.out] at hn;rcases Jq.1 hn with h|h
    .exact HNM.out.1 n h
    .exact(HFM.out wl).1 n h
end
