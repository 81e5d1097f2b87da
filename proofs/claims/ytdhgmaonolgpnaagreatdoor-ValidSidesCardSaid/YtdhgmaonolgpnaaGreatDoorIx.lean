import Derived.Test.YtdhgmaonolgpnaaGreatDoorIw
import Derived.Test.YtdhgmaonolgpnaaGreatDoorIk
set_option linter.unusedSimpArgs false
set_option linter.unusedVariables false
set_option maxHeartbeats 8000000
set_option maxRecDepth 100000
namespace Go.Proofs.YtdhgmaonolgpnaaGreatDoor
section
open Go.RowKit Go.Maps Js Pt
namespace Cm
theorem tY{nd:Nat->Names->Vl->Res (List Node)}{single:Bool}{under:Names}:∀{l:List Mem} {off:Nat} {ks:List (Jd×Nat)} {a:List Node},ar nd single under off l=.ok (ks,a)->ks.length=l.length
 |[],off,ks,a,h=>by
  rw[ar] at h;injection h with h;injection h with h1 h2;subst h1;rfl
 |(key,u)::r,off,ks,a,h=>by
  obtain⟨a1,ks2,a2,_,h2,rfl,rfl⟩:=aN h;rw[Jl,Jl,tY h2]
def qh(K:Key):Prop:=K.kids.length=(Sh.kids K.name K.v).length/\K.name.length<=1000000
def Small(v:Vl):Prop:=v.bL 1000000/\v.size<=1000000
theorem rh{nd:Nat->Names->Vl->Res (List Node)}(hnd:∀off P u a,nd off P u=.ok a->Small u->∀N∈a,∀K∈N.keys,qh K){single:Bool}{under:Names}:∀{l:List Mem} {off:Nat} {ks:List (Jd×Nat)} {a:List Node},ar nd single under off l=.ok (ks,a)->(∀p∈l,Small p.2)->∀N∈a,∀K∈N.keys,qh K
 |[],off,ks,a,e,_=>by
  rw[ar] at e;injection e with e;injection e with e1 e2;subst e1 e2
  exactλN h=>by cases h
 |(key,u)::r,off,ks,a,e,hq=>by
  intro N hN K hK;obtain⟨a1,ks2,a2,h1,h2,rfl,rfl⟩:=aN e;rcases Jq.1 hN with k|k
  .exact hnd _ _ _ _ h1 (hq (key,u) (by simp)) N k K hK
  .exact rh hnd h2 (λp hp=>hq p (by simp[hp])) N k K hK
theorem rL{nd:Nat->Names->Vl->Res (List Node)}(hnd:∀off P u a,nd off P u=.ok a->Small u->∀N∈a,∀K∈N.keys,qh K){P:Names}:∀{m:List Mem} {off:Nat} {keys:List Key} {a:List Node},av nd P off m=.ok (keys,a)->(∀p∈m,p.1.length<=1000000/\Small p.2)->(∀K∈keys,qh K)/\∀N∈a,∀K∈N.keys,qh K
 |[],off,keys,a,e,_=>by
  rw[av] at e;injection e with e;injection e with e1 e2;subst e1 e2
  exact⟨(λK h=>by cases h),λN h=>by cases h⟩
 |(nm,w)::r,off,keys,a,e,hq=>by
  obtain⟨_,ks,a1,keys2,a2,h1,h2,rfl,rfl⟩:=bG e;have hw:=hq (nm,w) (by simp);obtain⟨h3,h4⟩:=rL hnd h2 (λp hp=>hq p (by simp[hp]));refine⟨λK hK=>?_,λN hN K hK=>?_⟩
  .rcases JB.1 hK with rfl|k
   .exact⟨tY h1,hw.1⟩
   .exact h3 K k
  .rcases Jq.1 hN with k|k
   .refine rh hnd h1 (λp hp=>?_) N k K hK;have:=jE hp;exact⟨(kW (by omega) hw.2.1 hw.2.2 hp).2,by have:=hw.2.2;simp only at this;omega⟩
   .exact h4 N k K hK
theorem Dl(f:Nat):∀off P u a,node f off P u=.ok a->Small u->∀N∈a,∀K∈N.keys,qh K:=by
 induction f with
 |zero=>intro off P u a h;cases h
 |succ f ih=>
  intro off P u a h hu;obtain⟨k,b,n,s,l,m⟩:=u;obtain⟨_,keys,r,h1,rfl⟩:=dd h;obtain⟨h2,h3⟩:=rL ih h1 (λp hp=>by
   obtain⟨q1,q2⟩:=hu;simp only[Vl.bL] at q1;simp only[Vl.size] at q2;have:=er hp;have:=(dE _ m).1 q1.2.2.2 p hp;exact⟨this.1,this.2,by omega⟩)
  intro N hN K hK;rcases JB.1 hN with rfl|q
  .exact h2 K hK
  .exact h3 N q K hK
theorem uT{v:Vl}{a:List Node}(h:compile v=.ok a)(hv:Small v):∀N∈a,∀K∈N.keys,qh K:=by
 unfold compile at h;split at h
 .exact Dl _ _ _ _ _ h hv
 .cases h
end Cm
theorem Nds.nd15{L:List Cm.Node}(h:Nds L):wJ L:=by
 obtain⟨s,v,a,h⟩:=h;have hnw:=Cm.rS h;have hgd:=Cm.vj h.wide h.comp;have hst:=Cm.fJ h.wide.1 h.wide.2.1 h.comp;have hky:=Cm.uT h.comp ⟨h.wide.2.2,h.wide.2.1⟩;have hsz:v.size<=2000:=by
  obtain⟨u,hu⟩:=h.parsed;exact(BJ h.short hu).2.1
 have hkl:∀N∈a,N.keys.length<=2000:=λN hN=>by
  obtain⟨x,hx,ho⟩:=hst.1 N hN;have hsm:=Cm.gH (N:=1000000) (by omega) _ _ _ h.wide.2.2 hx;obtain⟨k,b,n,s,l,m⟩:=x;have h3:=ho.2.2;have h4:m.length<=aE m:=ep m;have h5:=hsm.2.2;simp only[Vl.size] at h5;omega
 have hends:=Vd.CJ hgd.inside h.link;have hl:=h.link;unfold Cm.link at hl;split at hl
 .cases hl
 .rename_i out ho;split at hl
  .cases hl
  .injection hl with hl;subst hl;obtain⟨hle,hq⟩:=Cm.gi ho;have hback:∀N'∈out,∃N∈a,N'.at_=N.at_/\N'.keys.length=N.keys.length/\∀K'∈N'.keys,∃K∈N.keys,Cm.zn a.length K K':=λN' hN'=>by
    obtain⟨k,hk⟩:=JP hN';have hkl:k<a.length:=by have:=(Jm.1 hk).1;omega
    obtain⟨ks,e1,e2⟩:=hq k _ (Jg hkl);rw[hk] at e1;injection e1 with e1;subst e1;obtain⟨q1,q2⟩:=Cm.iP e2;refine⟨_,Jv hkl,rfl,q1,λK' hK'=>?_⟩;obtain⟨j,hj⟩:=JP hK';have hj0:ks[j]? =some K':=hj;have hjl:j<a[k].keys.length:=by have:=(Jm.1 hj0).1;omega
    obtain⟨K2,e3,hlk⟩:=q2 j _ (Jg hjl);rw[hj0] at e3;injection e3 with e3;subst e3;exact⟨_,Jv hjl,hlk⟩
   refine⟨hends,by rw[hle];exact hgd.few,λN' hN'=>?_,λN' hN' K' hK'=>?_,λN' hN'=>(hnw N' hN').2.1,λN' hN'=>(hnw N' hN').2.2,λN' hN' K' hK' hnm=>?_,λN' hN' K' hK'=>?_,λN' hN'=>?_⟩
   .obtain⟨N,h1,_,h2,_⟩:=hback N' hN';rw[h2];exact hkl N h1
   .obtain⟨N,h1,_,_,h3⟩:=hback N' hN';obtain⟨K,h4,_,_,h5⟩:=h3 K' hK';rcases h5 with⟨_,j,_,e⟩|⟨_,e⟩
    .rw[e];simp
    .rw[e];exact hgd.kids N h1 K h4
   .obtain⟨N,h1,_,_,h3⟩:=hback N' hN';obtain⟨K,h4,e1,_,h5⟩:=h3 K' hK';rcases h5 with⟨e,_⟩|⟨_,e⟩
    .rw[e1,e] at hnm;exact absurd hnm (by decide)
    .rw[e,(hky N h1 K h4).1,e1.symm,hnm,Vd.fQ (by decide)];rfl
   .obtain⟨N,h1,_,_,h3⟩:=hback N' hN';obtain⟨K,h4,e1,_⟩:=h3 K' hK';rw[e1];exact(hky N h1 K h4).2
   .obtain⟨N,h1,e,_⟩:=hback N' hN';rw[e];exact hgd.paths N h1
def zq(w:World):Prop:=Tab w/\lW w
theorem Hs:EF zq:=λ_ _ h hb=>⟨h.1.keep hb,h.2.on hb⟩
theorem Ja:Ib zq:=λP tx nall npass keys A2 c2 v xv w hg=>FY P tx nall npass keys A2 c2 v xv w hg.1
theorem zb:zr zq:=by
 intro L i A cp v xv w hg hS hl hm hnd hi hv hx;have hL:=hnd.nd15;have hlook:=xU L hL A cp hl hm (v.size+1) v (L9 _) ⟨hv.1,hv.2.1,hv.2.2.2⟩;have hb0:=(Ji w.heap.size w).alloc (Jh _) (.cells #[] 31);obtain⟨k_1,k_2,k_3,k_4,k_5,k_6,k_7,k_8,k_9,k_a,k_b,k_c,rfl⟩:=In.cells hx;have hb1:=(Ji w.heap.size w).alloc (Jh _) (.cells #[.int .i64 k_1,k_2,k_3,k_4,.int .i64 k_5,k_6,.slice k_7 k_8 k_9,.slice k_a k_b k_c] 31);have hb2:=hb1.alloc hb1.size (.cells #[.int .i64 (i:Int)] 3);have HBV:=Jf ((Blk.new w 31 #[.int .i64 k_1,k_2,k_3,k_4,.int .i64 k_5,k_6,.slice k_7 k_8 k_9,.slice k_a k_b k_c]));have HLK:=Jf (show Calls Tryz.prog 15 #[.slice A L.length cp,.pointer none,.agg #[.int .i64 k_1,.bool k_2,.bool k_3,.string ⟨k_4.toArray⟩,.int .i64 k_5,.string ⟨k_6.toArray⟩,.slice k_7 k_8 k_9,.slice k_a k_b k_c],.slice (some ⟨(w.alloc (.cells #[.int .i64 k_1,.bool k_2,.bool k_3,.string ⟨k_4.toArray⟩,.int .i64 k_5,.string ⟨k_6.toArray⟩,.slice k_7 k_8 k_9,.slice k_a k_b k_c] 31)).heap.size,0,none⟩) 1 1] ((w.alloc (.cells #[.int .i64 k_1,k_2,k_3,k_4,.int .i64 k_5,k_6,.slice k_7 k_8 k_9,.slice k_a k_b k_c] 31)).alloc (.cells #[.int .i64 (i:Int)] 3)) (Bx L v [] [i] ((w.alloc (.cells #[.int .i64 k_1,k_2,k_3,k_4,.int .i64 k_5,k_6,.slice k_7 k_8 k_9,.slice k_a k_b k_c] 31)).alloc (.cells #[.int .i64 (i:Int)] 3))) from hlook _ (.pointer none) [] [i] _ 1 w.heap.size _ (hg.1.keep hb2) (hS.keep (aa hb2)) (In.keep (aa hb2) _ _ hx) .nil (by have:=hv.2.2.1;simp only[text,Mp,Jw];omega) (Kv (w.alloc (.cells #[.int .i64 k_1,k_2,k_3,k_4,.int .i64 k_5,k_6,.slice k_7 k_8 k_9,.slice k_a k_b k_c] 31)) #[.int .i64 (i:Int)] 1 hb1.size (by unfold maxLen;omega) rfl) (λq hq=>by rw[Jt.1 hq];exact hi));have HB2:=Jf hb2;have HI18:=Jf (show i<=1000000000000000000 by have:=hL.few;omega);have HFEW:=Jf (show v.size*L.length<=1000000 from JA (Nat.mul_le_mul hv.2.1 hL.few) (by decide));have HMX:=Jf (λ(W:World) (hb:Below w.heap.size w W)=>hg.2.on hb);have HRI:=Jf (Vd.zc L i v);unfold maxLen at hm;clear hb0 hb1 hb2 hg hS hnd hi hv hx hL hlook;go_enter Tryz.func8,Tryz.ntmps8;go_upto_region 1 with(fail);generalize w.alloc (.cells #[.int .i64 k_1,k_2,k_3,k_4,.int .i64 k_5,k_6,.slice k_7 k_8 k_9,.slice k_a k_b k_c] 31)=wa at*
 obtain⟨y0,y1,y2,y3,y4,y5,y6,y7⟩:=HBV.out.eight;have yl:=HBV.out.lt;go_wp2_with fail;refine HLK.out.mono ?_;rintro e5 w5 ⟨bh,mh,U,rfl,him,hfd,hul,hb5⟩;have HIM:=Jf him;have HFD:=Jf (hfd i (by simp));have HUL:=Jf hul;have HB5:=Jf (HB2.out.trans (hb5.mono HB2.out.size));clear y0 y1 y2 y3 y4 y5 y6 y7 yl him hfd hul hb5 HLK;have hz:∀W,(zeroValue 54).run Tryz.prog W=.ok (.pointer none) W:=λW=>by kernel_rfl
 have hlk:=HIM.out.look (T:=56) Tryz.underlying56 (hz _) (i:=i) HI18.out true;simp only[KJ] at hlk;have hfd:=HFD.out;rcases hfd with⟨hv0,hm0⟩|⟨t,hmt,hsays,hlies⟩
 .rw[hm0] at hlk;have HV0:=Jf hv0;clear hv0 hm0;go_wp2_with fail;go_ret;refine⟨none,0,by rw[HV0.out];rfl,by rw[HV0.out];exact⟨λi f h=>by simp at h,Jh _,by unfold maxLen;omega,λ_=>rfl⟩,HB5.out⟩
 .rw[hmt] at hlk;unfold mE at hlk;have HSY:=Jf hsays;have HLT:=Jf (Gi t w5 w.heap.size (U.filter λg=>decide (g<w5.heap.size)) (λW hb=>HMX.out W (HB5.out.trans hb)) (λs hs=>by
   obtain⟨h1,h2,h3,h4,h5⟩:=hlies s hs;exact⟨h1,L0.2 ⟨h2,K5 (Jn _ _ h4)⟩,JA HB2.out.size h3,h4,h5⟩) (λg hg=>KU (L0.1 hg).2) (JA (Mx _ _) (JA HUL.out HFEW.out)) HB5.out.size)
  clear hmt hsays hlies;go_wp2_with fail;refine HLT.out.mono ?_;rintro e6 w6 ⟨l,A6,c6,rfl,hfa,hmem,hll,hb6⟩;have HSO:=Jf (yJ l A6 c6 w6 hfa hll);have HB6:=Jf (HB5.out.trans hb6);have HEQ:=Jf (Vd.DM HSY.out HRI.out hmem);clear hfa hmem hb6 HLT;go_wp2_with fail;refine HSO.out.mono ?_;rintro e7 w7 ⟨A7,c7,rfl,hf7,hb7⟩;have HF7:=Jf hf7;have HB7:=Jf (HB6.out.trans (hb7.mono HB6.out.size));clear hf7 hb7 HSO;go_wp2_with fail;go_ret;exact⟨A7,c7,by rw[HEQ.out];rfl,by rw[<-HEQ.out];exact HF7.out,HB7.out⟩
end
