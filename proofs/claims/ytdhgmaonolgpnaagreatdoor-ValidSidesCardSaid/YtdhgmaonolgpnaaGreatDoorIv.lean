import Derived.Test.YtdhgmaonolgpnaaGreatDoorIu
set_option linter.unusedSimpArgs false
set_option linter.unusedVariables false
set_option maxHeartbeats 16000000
set_option maxRecDepth 100000
namespace Go.Proofs.YtdhgmaonolgpnaaGreatDoor
section
open Go.RowKit Go.Maps Js Pt
theorem Dt{L:List Cm.Node}{v:Vl}{w0 w:World}{gq bm:Nat}{A:Option Addr}{c:Nat}{Q:List Nat}{m:Nat->Option Value}(h:QAt L v w0 w gq bm A c Q m):Q.length<=L.length:=by
 have h1:=Vd.nQ h.nodup (b:=List.range L.length) (λx hx=>by
  obtain⟨k,hk⟩:=JP hx;obtain⟨N',h2,_⟩:=h.ok k x hk;exact MW.2 (Jm.1 h2).1)
 rwa[Mh] at h1
theorem IB{w w':World}{b:Nat}{m:Nat->Option Value}(h:cX w b m)(hb:But (λq=>q=b) w w'):Cl.le w.cell? w'.cell?:=λp u hp=>hb.cell hp λe=>by
 obtain⟨n,S,⟨es,clock,h1,_⟩,_⟩:=h;unfold World.cell? at hp;rw[e,h1] at hp;cases hp
theorem BQ{w w':World}{b:Nat}{m:Nat->Option Value}(h:cX w b m)(hb:But (λq=>q=b) w w'){p:Addr}{u:Value}(hp:w.cell? p=some u):w'.frozen? p=w.frozen? p:=by
 unfold World.frozen?;rw[hb.block p.block (Jn _ _ hp) (λe=>by
  obtain⟨n,S,⟨es,clock,h1,_⟩,_⟩:=h;unfold World.cell? at hp;rw[e,h1] at hp;cases hp)]
theorem bB.congr{w:World}{B:Nat}{U:List Nat}{m m':Nat->Option Value}{L:List Cm.Node}{i:Nat}{v:Vl}{ns:Cm.Names}(h:bB w B U m L i v ns)(hm:m' i=m i):bB w B U m' L i v ns:=by
 unfold bB;rw[hm];exact h
theorem xU(L:List Cm.Node)(hL:wJ L)(AL:Option Addr)(cL:Nat)(hl:L.length<=cL)(hm:cL<=maxLen):∀(n:Nat) (v:Vl),v.size<n->qg v->Bz L AL cL v
 |0,_,h,_=>absurd h (Kt _)
 |n+1,v,hz,hv=>by
  intro xv pv ns nodes An cn Bn w hT hS hx hp hd hnd hlt;have HADD:=Jf (λ(i:Nat) (hi:i<L.length) (W:World) (gq bm:Nat) (A:Option Addr) (c:Nat) (Q:List Nat) (m:Nat->Option Value) (hQ:QAt L v w W gq bm A c Q m) (hw:∀j,(m j).isSome=true->j∈Q\/Cm.cy L j i)=>BB L hL AL cL v xv w hT hS hl hm hv.1.1 hv.2.1 hx (Vd.ys L i+1) i (L9 _) hi W gq bm A c Q m hQ hw);have HWI:=Jf (λ(W:World) (gq bm:Nat) (A:Option Addr) (c:Nat) (Q:List Nat) (m:Nat->Option Value) (hQ:QAt L v w W gq bm A c Q m)=>wE L hL AL cL hl hm v hv (λu hu hf=>xU L hL AL cL hl hm n u (by omega) hf) xv pv ns w W gq bm A c Q m hQ (hT.keep hQ.below) (hS.keep (aa hQ.below)) (In.keep (aa hQ.below) _ _ hx) (hp.keep (leN.of (aa hQ.below))) hd (Vd.partsOf v).length rfl);obtain⟨np,hnp⟩:∃k,(Vd.partsOf v).length=k:=⟨_,rfl⟩;rw[hnp] at HWI;have hnp5:np<=5000:=by
   have h1:=lF v;have h2:=hv.2.1;have h3:∀l:List Vl,l.length<=(l.map Vl.size).sum:=by
    intro l
    induction l with
    |nil=>simp
    |cons u r ih=>
     have:1<=u.size:=by cases u;simp only[Vl.size];omega
     simp only[Jl,Kh,N9];omega
   have h4:=h3 (Vd.partsOf v);unfold iV at h1;rw[JC] at h1;omega
  have HFI:=Jf (λ(i:Nat) (N:Cm.Node) (hN:L[i]? =some N) (AN:Option Addr) (cN:Nat) (W:World) (hb:Below w.heap.size w W) (hkN:gS W.cell? AN N.keys) (hlN:N.keys.length<=cN) (hmN:cN<=maxLen) (Aa:Option Addr) (ca Ba:Nat) (ha:az W Ba Aa ca (Vd.asks N v)) (bh:Nat) (mh:Nat->Option Value) (him:cX W bh mh) (gw:Nat) (U:List Nat) (hf:∀x∈Vd.asks N v,Bt W w.heap.size U L v ns mh gw np x)=>zO L hL i N hN AN cN v xv W (hT.keep hb) hkN hlN hmN hv.1 hv.2.1 (In.keep (aa hb) _ _ hx) Aa ca Ba ha bh mh him gw np hnp5 w.heap.size U ns hf);obtain⟨pa,rfl⟩:∃pa,pv=.pointer pa:=by rcases hp.inv with⟨h,_⟩|⟨g,_,_,_,h,_⟩<;>exact⟨_,h⟩
  have HSL:=Jf (λ(W:World) (hb:Below w.heap.size w W)=>hS.keep (aa hb));have HPL:=Jf (λ(W:World) (hb:Below w.heap.size w W)=>hp.keep (leN.of (aa hb)));have HLT:=Jf hlt;have HND:=Jf hnd;have HL:=Jf hL;have HFEW:=Jf hL.few;have HTX:=Jf (show(text ns).length<=10000000 by omega);have HSZ:=Jf (show 1<=v.size by have:=lF v;omega);have hnm:=(ai hnd).2.1;have hnl:=(ai hnd).1;unfold maxLen at hm hnm;obtain⟨k_1,k_2,k_3,k_4,k_5,k_6,k_7,k_8,k_9,k_a,k_b,k_c,rfl⟩:=In.cells hx;have HBA:=Jf ((Ji w.heap.size w).alloc (Jh _) (.cells #[.int .i64 k_1,k_2,k_3,k_4,.int .i64 k_5,k_6,.slice k_7 k_8 k_9,.slice k_a k_b k_c] 31));have HVB:=Jf (Blk.new w 31 #[.int .i64 k_1,k_2,k_3,k_4,.int .i64 k_5,k_6,.slice k_7 k_8 k_9,.slice k_a k_b k_c]);have hmk:∀W:World,(Instr.makeMap 79 none).run Tryz.prog W=.ok (.map (some W.heap.size)) (W.alloc (.map #[] 0)):=λW=>run_makeMap _ W;clear hT hS hx hp hd hnd hlt hv hL hnp;go_enter Tryz.func15,Tryz.ntmps15;go_upto_region 1 with(fail);generalize w.alloc (.cells #[.int .i64 k_1,k_2,k_3,k_4,.int .i64 k_5,k_6,.slice k_7 k_8 k_9,.slice k_a k_b k_c] 31)=wa at*
  have hba:=(Ji wa.heap.size wa).alloc (Jh _) (.map #[] 0);have hgy:(wa.alloc (.map #[] 0)).heap.size=wa.heap.size+1:=by show(wa.heap.push _).size=_;exact LH _
  have hbb:=hba.alloc hba.size (.cells #[.slice none 0 0,.map (some wa.heap.size)] 81);have HQ0:=Jf (show QAt L v w ((wa.alloc (.map #[] 0)).alloc (.cells #[.slice none 0 0,.map (some wa.heap.size)] 81)) (wa.heap.size+1) wa.heap.size none 0 [] (λ_=>none) from⟨HBA.out.trans (hbb.mono HBA.out.size),Mi HBA.out.size,HBA.out.size,by have:=Blk.new (wa.alloc (.map #[] 0)) 81 #[.slice none 0 0,.map (some wa.heap.size)];rwa[hgy] at this,Ints.nil _ _,(cX.new wa).on ((Ji _ _).alloc (Jh _) _),(λi x h=>by cases h),(λk i h=>by simp at h),List.nodup_nil,(λi h=>by cases h)⟩);have HV2:=Jf (HVB.out.on hbb);go_upto_region 2 with(fail);clear hba hbb hgy;generalize (wa.alloc (.map #[] 0)).alloc (.cells #[.slice none 0 0,.map (some wa.heap.size)] 81)=w2 at*
  generalize wa.heap.size=bm at*
  obtain⟨gq,hgq⟩:∃g,bm+1=g:=⟨_,rfl⟩;rw[hgq] at HQ0;try rw[hgq]
  clear hgq hmk;go_wp2_with fail
  go_loopw [21] (λv21 wr=>∃(j:Nat) (A3:Option Addr) (c3:Nat) (Q:List Nat) (m:Nat->Option Value),v21=.int .i64 j/\j<=nodes.length/\QAt L v w wr gq bm A3 c3 Q m/\(∀q∈nodes.take j,q∈Q)/\(∀q,(m q).isSome=true->q∈Q)/\Blk wr w.heap.size 31 #[.int .i64 k_1,k_2,k_3,k_4,.int .i64 k_5,k_6,.slice k_7 k_8 k_9,.slice k_a k_b k_c]) (λv21 _=>nodes.length-(intOf v21).toNat)
  case atStart=>exact⟨0,none,0,[],_,rfl,JE _,HQ0.out,(λq h=>by simp at h),(λq h=>by simp at h),HV2.out⟩
  case round=>
   obtain⟨j,A3,c3,Q,m,rfl,hj,hq,hall,hmq,hbv⟩:=hrel;have HQ:=Jf hq;have HALL:=Jf hall;have HMQ:=Jf hmq;have HBV:=Jf hbv;clear hq hall hmq hbv HQ0 HV2;by_cases hjl:j<nodes.length
   .obtain⟨gn,rfl,_,hgn,d0⟩:=l5 (HND.out.on HQ.out.below) (Jg hjl);have hji:(j:Int)<(nodes.length:Int):=by omega
    have hil:=HLT.out _ (Jv hjl);have HTK:=Jf (show nodes.take (j+1)=nodes.take j++[nodes[j]] from Jr hjl);generalize nodes[j]=i at*
    have HCA:=Jf (HADD.out i hil wr gq bm A3 c3 Q m HQ.out (λq h=>.inl (HMQ.out q h)));obtain⟨y0,y1,y2,y3,y4,y5,y6,y7⟩:=HBV.out.eight;have yl:=HBV.out.lt;go_wp2_with fail;refine HCA.out.mono ?_;rintro e5 w5 ⟨rfl,A5,c5,Q5,m5,hq5,hbt5,_,_,hm5b,_,hm5d⟩;have HQ5:=Jf hq5;have HV5:=Jf (HQ.out.box hbt5 HBV.out (by decide) (by decide));have H5B:=Jf hm5b;have H5D:=Jf hm5d;clear hq5 hbt5 hm5b hm5d HCA y0 y1 y2 y3 y4 y5 y6 y7 yl d0 hgn;go_wp2_with fail;go_roundw;case rel=>exact⟨j+1,A5,c5,Q++Q5,m5,by go_num,by omega,HQ5.out,(λq hq=>by
     rw[HTK.out] at hq;rcases Jq.1 hq with h|h
     .exact Jq.2 (.inl (HALL.out q h))
     .rw[Jt.1 h];exact H5D.out),(λq hq=>by
     rcases H5B.out q hq with h|h
     .exact Jq.2 (.inl (HMQ.out q h))
     .exact Jq.2 (.inr h)),HV5.out⟩
    case measure=>simp[intOf];omega
   .obtain rfl:j=nodes.length:=by omega
    have HALN:=Jf (show∀q∈nodes,q∈Q by have:=HALL.out;rwa[JC] at this);have HQL:=Jf (Dt HQ.out);have HWC:=Jf (HWI.out wr gq bm A3 c3 Q m HQ.out);obtain⟨y0,y1,y2,y3,y4,y5,y6,y7⟩:=HBV.out.eight;have yl:=HBV.out.lt;have q0:=HQ.out.blk.cell 0;have q1:=HQ.out.blk.cell 1;have ql:=HQ.out.blk.lt;clear HALL;go_wp2_with fail;refine HWC.out.mono ?_;rintro e5 w5 ⟨gw,U1,rfl,hu1,hb5,hwf⟩;have HQ5:=Jf (HQ.out.on hb5);have HV5:=Jf (HBV.out.on hb5);have HU1:=Jf hu1;have HWF:=Jf (λi (hi:i∈Q) N (hN:L[i]? =some N) x (hx:x∈Vd.asks N v) (hh:x.here=false)=>(show x.at_<np/\∃b m,w5.cell? ⟨gw,x.at_,none⟩=some (.map (some b))/\cX w5 b m/\bB w5 w.heap.size U1 m L x.node (Vd.bQ v x) (ns++[x.name]) by
     obtain⟨h1,b,m,h2,h3,h4⟩:=hwf i hi N hN x hx hh;exact⟨h1,b,m,h2,h3,h4.on (Ji _ _) HQ.out.below.size (λ_ h=>h)⟩))
    clear hu1 hb5 hwf y0 y1 y2 y3 y4 y5 y6 y7 yl q0 q1 ql HWC;have hmk:∀W:World,(Instr.makeMap 56 none).run Tryz.prog W=.ok (.map (some W.heap.size)) (W.alloc (.map #[] 0)):=λW=>run_makeMap _ W;have HI6:=Jf (cX.new w5);have HB6:=Jf ((Ji w5.heap.size w5).alloc (Jh _) (.map #[] 0));go_upto_region 9 with(fail);generalize w5.alloc (.map #[] 0)=w6 at*
    have q0:=(HQ5.out.on HB6.out).blk.cell 0;have ql:=(HQ5.out.on HB6.out).blk.lt;have hcm:=(ai HQ.out.nums).2.1;have hcl:=(ai HQ.out.nums).1;unfold maxLen at hcm;clear hmk;go_wp2_with fail
    go_loopw [39] (λv39 wr=>∃(k:Nat) (mh:Nat->Option Value) (U:List Nat),v39=.int .i64 k/\k<=Q.length/\cX wr w5.heap.size mh/\(∀i∈Q.take k,bB wr w.heap.size U mh L i v ns)/\(∀i,¬i∈Q.take k->mh i=none)/\U.length<=U1.length+k/\(∀g∈U1,g∈U)/\Below w5.heap.size w5 wr) (λv39 _=>Q.length-(intOf v39).toNat)
    case atStart=>exact⟨0,_,U1,rfl,JE _,HI6.out,(λi h=>by simp at h),(λi _=>rfl),Jh _,(λ_ h=>h),HB6.out⟩
    case round=>
     obtain⟨k,mh,U,rfl,hk,him,hfd,hno,hul,hus,hb⟩:=hrel;have HIM:=Jf him;have HFD:=Jf hfd;have HNO:=Jf hno;have HUL:=Jf hul;have HUS:=Jf hus;have HB:=Jf hb;have HQR:=Jf (HQ5.out.on hb);clear him hfd hno hul hus hb q0 ql HI6 HB6;by_cases hkl:k<Q.length
     .obtain⟨gn,hgA,_,hgn,d0⟩:=l5 HQR.out.nums (Jg hkl);have hki:(k:Int)<(Q.length:Int):=by omega
      obtain⟨i,hi⟩:∃i,Q[k]=i:=⟨_,rfl⟩;have HQI:=Jf (show Q[k]? =some i by rw[Jg hkl,hi]);have HTK:=Jf (show Q.take (k+1)=Q.take k++[i] by rw[Jr hkl,hi]);have HNI:=Jf (show¬i∈Q.take k fromλh=>by
       obtain⟨k',hk'⟩:=JP h;have h1:=(Jm.1 hk').1;rw[JL] at h1;rw[LB (by omega)] at hk';have h2:=(Jm.1 hk').2;exact Ld.1 HQ5.out.nodup k' k (by omega) hkl (by omega) (h2.trans hi.symm))
      rw[hi] at d0;have himm:i∈Q:=hi▸Jv hkl;obtain⟨xm,hxm⟩:∃x,m i=some x:=Nv.1 (HQR.out.met i himm);obtain⟨N,A6,c6,hN,rfl,ha6⟩:=HQR.out.asks i _ hxm;obtain⟨gL,oL,AN,cN,hAL,hkN,hlN,hmN,n0,n1,n2,n3⟩:=Gb (HSL.out wr HQR.out.below) hN;have HMI:=Jf hxm;have HIQ:=Jf himm;have HNN:=Jf hN;have hil:i<L.length:=(Jm.1 hN).1;have hii:(i:Int)<(L.length:Int):=by omega
      have HI18:=Jf (show i<=1000000000000000000 by have:=HFEW.out;omega);have HRD:=Jf (λ(W9:World) (h:Below wr.heap.size wr W9)=>(show W9.cell? ⟨gL,oL+i*4,none⟩=some (.string ⟨(text N.at_).toArray⟩)/\W9.cell? ⟨gL,oL+i*4+1,none⟩=some (.bool N.all)/\W9.cell? ⟨gL,oL+i*4+2,none⟩=some (.bool N.pass)/\W9.cell? ⟨gL,oL+i*4+3,none⟩=some (.slice AN N.keys.length cN)/\gL<W9.heap.size/\W9.cell? ⟨gq,1,none⟩=some (.map (some bm))/\gq<W9.heap.size from⟨aa h _ _ n0,aa h _ _ n1,aa h _ _ n2,aa h _ _ n3,Jn _ _ (aa h _ _ n0),(HQR.out.blk.on h).cell 1,(HQR.out.blk.on h).lt⟩));have HRV:=Jf (λ(W9:World) (h:Below wr.heap.size wr W9)=>(HV5.out.on HB.out).on h);have hz:∀W,(zeroValue 86).run Tryz.prog W=.ok (.slice none 0 0) W:=λW=>by kernel_rfl
      have HLK:=Jf (λ(W9:World) (h:Below wr.heap.size wr W9)=>(show(Instr.lookup 79 (.map (some bm)) (.int .i64 (i:Int)) false).run Tryz.prog W9=.ok (.slice A6 (Vd.asks N v).length c6) W9 by
       have:=(HQR.out.map.on h).look (T:=79) Tryz.underlying79 (hz W9) (i:=i) HI18.out false;rw[HMI.out] at this;exact this))
      have HFC:=Jf (HFI.out i N hN AN cN wr.drew HQR.out.below.drew hkN hlN hmN A6 c6 w.heap.size (ha6.on (Ji _ _).drew) w5.heap.size mh (HIM.out.on (Ji _ _).drew) gw U (λx hx=>⟨λhh=>by
       obtain⟨N',h1,h2⟩:=HQ5.out.ok k i HQI.out;rw[hN] at h1;injection h1 with h1;subst h1;obtain⟨k',h3,h4⟩:=h2 x hx hh;exact(HFD.out x.node (Jz (by rw[LB h3];exact h4))).on (Ji _ _).drew (Jh _) (λ_ h=>h),λhh=>by
       obtain⟨h1,b,mb,h2,h3,h4⟩:=HWF.out i HIQ.out N hN x hx hh;exact⟨h1,b,mb,aa HB.out.drew _ _ h2,h3.on HB.out.drew,h4.on HB.out.drew (Jh _) HUS.out⟩⟩))
      subst hAL;clear hi himm hxm ha6 hN hkN n0 n1 n2 n3 hgn;subst hgA;go_upto_region 12 with(fail);clear d0;refine JT (S:=λW9=>Below wr.heap.size wr W9) (by kernel_rfl) (Ji _ _).drew (λht=>?_);refine af 0 (.slice (some ⟨gL,oL,none⟩) L.length cL) ht ?_ ?_
      .intro W9 hSw;go_simp
      try simp only[ab]
      refine af 1 (.int .i64 i) ht ?_ ?_
      .intro W9 hSw;go_simp
      try simp only[ab]
      refine af 2 (.pointer (some ⟨gL,oL+i*4,none⟩)) ht ?_ ?_
      .intro W9 hSw;go_simp
      try simp only[ab]
      refine af 3 (.agg #[.string ⟨(text N.at_).toArray⟩,N.all,N.pass,.slice AN N.keys.length cN]) ht ?_ ?_
      .intro W9 hSw;obtain⟨y0,y1,y2,y3,yl,_,_⟩:=HRD.out W9 hSw;go_simp
      try simp only[ab]
      refine af 4 (.agg #[.int .i64 k_1,k_2,k_3,k_4,.int .i64 k_5,k_6,.slice k_7 k_8 k_9,.slice k_a k_b k_c]) ht ?_ ?_
      .intro W9 hSw;obtain⟨y0,y1,y2,y3,y4,y5,y6,y7⟩:=(HRV.out W9 hSw).eight;have yl:=(HRV.out W9 hSw).lt;go_simp
      try simp only[ab]
      refine af 5 (.pointer (some ⟨gq,1,none⟩)) ht ?_ ?_
      .intro W9 hSw;go_simp
      try simp only[ab]
      refine af 6 (.map (some bm)) ht ?_ ?_
      .intro W9 hSw;obtain⟨_,_,_,_,_,y1,yl⟩:=HRD.out W9 hSw;go_simp
      try simp only[ab]
      refine af 7 (.int .i64 i) ht ?_ ?_
      .intro W9 hSw;go_simp
      try simp only[ab]
      refine af 8 (.slice A6 (Vd.asks N v).length c6) ht ?_ ?_
      .intro W9 hSw;have y1:=HLK.out W9 hSw;go_simp
      try simp only[ab]
      refine af 9 (.map (some w5.heap.size)) ht ?_ ?_
      .intro W9 hSw;go_simp
      try simp only[ab]
      refine af 10 (.slice (some ⟨gw,0,none⟩) np np) ht ?_ ?_
      .intro W9 hSw;go_simp
      try simp only[ab]
      refine bz 11 λK hK=>?_;go_simp;refine HFC.out.mono ?_;rintro e7 w7 ⟨gf,names,on,An2,cn2,Dn,dn,rfl,hgf,hblk,hst,hpt,hli,hn1,hn2,hb7,hiff,hall7⟩;have HGF:=Jf (show wr.heap.size<=gf from hgf);have HBK:=Jf hblk;have HST:=Jf hst;have HPT:=Jf hpt;have HLI:=Jf hli;have HN1:=Jf hn1;have HN2:=Jf hn2;have HB7:=Jf ((Ji wr.heap.size wr).drew.trans (show Below wr.heap.size wr.drew w7 from hb7));have HIFF:=Jf hiff;have HALL7:=Jf hall7;clear hgf hblk hst hpt hli hn1 hn2 hb7 hiff hall7 HFC ht;go_wp2_with fail;refine hK.out _ _ HB7.out (λht=>?_);clear hK K;try simp only[ab]
      refine af 12 (.pointer (some ⟨gf,0,none⟩)) ht ?_ ?_
      .intro W9 hSw;go_simp
      try simp only[ab]
      refine Ke (by kernel_rfl) ?_ _;clear ht;have hcn:=(ai HST.out).2.1;have hcd:=(ai HPT.out).2.1;have g0:=HBK.out.cell 0;have g2:=HBK.out.cell 2;have g3:=HBK.out.cell 3;have gfz:=HBK.out.frozen;have gl:=HBK.out.lt;by_cases hbo:names=[]/\on=[]
      .have hval:=HIFF.out.1 hbo;have HVAL:=Jf hval;obtain⟨rfl,rfl⟩:=hbo;clear hval;have g2:w7.cell? ⟨gf,2,none⟩=some (.slice An2 0 cn2):=g2;have g3:w7.cell? ⟨gf,3,none⟩=some (.slice Dn 0 dn):=g3;go_wp2_with fail;go_roundw;case rel=>exact⟨k+1,mh,U,by go_num,by omega,HIM.out.on HB7.out,(λq hq=>by
        rw[HTK.out] at hq;rcases Jq.1 hq with h|h
        .exact(HFD.out q h).on HB7.out (Jh _) (λ_ h=>h)
        .rw[Jt.1 h];exact .inl ⟨HVAL.out,HNO.out i HNI.out⟩),(λq hq=>HNO.out q (λh=>hq (by rw[HTK.out];exact Jq.2 (.inl h)))),by have:=HUL.out;omega,HUS.out,HB.out.trans (HB7.out.mono HB.out.size)⟩
       case measure=>simp[intOf];omega
      .have HVAL:=Jf (show¬Vd.valid L i v=[] fromλh=>hbo (HIFF.out.2 h));have hoff:=(HIM.out.on HB7.out).off HBK.out;have HB8:=Jf ((But.of (X:=λb=>b=w5.heap.size) HB7.out).set (p:=⟨gf,0,none⟩) (.inl HGF.out) (.pointer pa));have HI8:=Jf ((HIM.out.on HB7.out).far (JG w7 ⟨gf,0,none⟩ (.pointer pa) _ hoff));obtain⟨wp,hput,him2,hgr⟩:=HI8.out.put (T:=56) Tryz.underlying56 (i:=i) HI18.out (.pointer (some ⟨gf,0,none⟩));have HBP:=Jf (show But (λb=>b=w5.heap.size) wr wp from HB8.out.grown hgr (λq hq=>by injection hq with hq;exact .inr hq.symm));have HBX:=Jf (show But (λb=>b=w5.heap.size\/b=gf) w7 wp from((But.refl _ w7).set (p:=⟨gf,0,none⟩) (.inr (.inr rfl)) (.pointer pa)).grown hgr (λq hq=>by injection hq with hq;exact .inr (.inl hq.symm)));have HI2:=Jf him2;have hgb:Blk wp gf 89 #[.pointer pa,.string ⟨(text N.at_).toArray⟩,.slice An2 names.length cn2,.slice Dn on.length dn,false]:=by
        have h1:=HBK.out.set 0 (.pointer pa);have h2:wp.heap[gf]? =(w7.setCell ⟨gf,0,none⟩ (.pointer pa)).heap[gf]? :=hgr.block gf h1.lt (λe=>hoff (by injection e with e;exact e.symm));exact h2.trans h1
       have hgs:aG wp wr.drew.heap.size An2 cn2 names:=bH HBX.out HST.out (λb hk e=>by
        rcases e with e|e
        .subst e;exact(HIM.out.on HB7.out).ox HST.out hk
        .subst e;exact ay HBK.out HST.out (by decide) hk)
       have hgp:gR wp wr.drew.heap.size Dn dn (on.map Vd.Fd.g):=bH HBX.out HPT.out (λb hk e=>by
        rcases e with e|e
        .subst e;exact(HIM.out.on HB7.out).ox HPT.out hk
        .subst e;exact ay HBK.out HPT.out (by decide) hk)
       have hle:=IB HIM.out HBP.out;have HFN:=Jf (show bB wp w.heap.size (U++[gf]) (λj=>if j=i then some (.pointer (some ⟨gf,0,none⟩)) else mh j) L i v ns from .inr ⟨.mk gf ns (text N.at_) names on,by simp[Vd.Fd.g,mE],⟨HVAL.out,HALL7.out gf⟩,λs hs=>by
        rcases Vd.Fd.df.1 hs with rfl|⟨u,hu,hs⟩
        .refine⟨⟨.pointer pa,An2,cn2,Dn,dn,hgb.cell 0,(HPL.out wr HQR.out.below).keep (leN.of hle),hgb.cell 1,hgb.cell 2,(ai hgs).1,hcn,hgs.strs,hgb.cell 3,by have:=(ai hgp).1;rw[JR] at this;exact this,hcd,λj u hu=>?_⟩,by simp[Vd.Fd.g],JA HQR.out.below.size HGF.out,hgb.cell 4,⟨HN1.out,HN2.out,HTX.out,HL.out.paths N (Jz HNN.out)⟩,hgb.frozen 4⟩;have hju:(on.map Vd.Fd.g)[j]? =some u.g:=by rw[JZ,show on[j]? =some u from hu];rfl
         obtain⟨b,h1,_,_,h2⟩:=l5 hgp hju;exact⟨b,0,h1,by rw[JI];exact h2⟩
        .have h1:nU wr w.heap.size U u:=by
          have h2:=HLI.out u hu
          exactλs hs=>h2 s hs
         exact h1.keep (leN.of hle) (λ_ hp=>⟨hle _ _ hp,BQ HIM.out HBP.out hp⟩) (Jh _) (λg hg=>Jq.2 (.inl hg)) s hs⟩)
       have HREL:=Jf (show∃(k':Nat) (mh:Nat->Option Value) (U:List Nat),Value.int .i64 ((k+1:Nat):Int)=.int .i64 k'/\k'<=Q.length/\cX wp w5.heap.size mh/\(∀i∈Q.take k',bB wp w.heap.size U mh L i v ns)/\(∀i,¬i∈Q.take k'->mh i=none)/\U.length<=U1.length+k'/\(∀g∈U1,g∈U)/\Below w5.heap.size w5 wp from⟨k+1,_,U++[gf],rfl,by omega,HI2.out,(λq hq=>by
        rw[HTK.out] at hq;rcases Jq.1 hq with h|h
        .have hne:¬q=i:=λe=>HNI.out (e▸h);exact((HFD.out q h).keep (leN.of hle) (λ_ hp=>⟨hle _ _ hp,BQ HIM.out HBP.out hp⟩) (Jh _) (λg hg=>Jq.2 (.inl hg))).congr (by simp[hne])
        .rw[Jt.1 h];exact HFN.out),(λq hq=>by
        rw[HTK.out] at hq;have hne:¬q=i:=λe=>hq (Jq.2 (.inr (by rw[e];simp)));simp only[Jj hne];exact HNO.out q (λh=>hq (Jq.2 (.inl h)))),by rw[Jk,Jy];have:=HUL.out;omega,(λg hg=>Jq.2 (.inl (HUS.out g hg))),(HB.out.trans (HBP.out.below HB.out.size (λb hb e=>by omega)))⟩)
       clear hgb hgs hgp hle him2 hgr hoff;by_cases hne:names=[]
       .have hon:¬on=[]:=λh=>hbo ⟨hne,h⟩;have hol:((on.length:Int)>0):=by have:=L5.2 hon;omega
        have hnl0:names.length=0:=by rw[hne];rfl
        rw[hnl0] at g2;clear hbo hne hon hnl0;go_wp2_with fail;go_roundw;case rel=>simpa using HREL.out
        case measure=>simp[intOf];omega
       .have hpos:=L5.2 hne;have hol:((names.length:Int)>0):=by omega
        have hdc:decide ((names.length:Int)>0)=true:=K5 hol;obtain⟨nl,hnl9⟩:∃k,names.length=k:=⟨_,rfl⟩;rw[hnl9] at g2 hpos hol hdc;clear hbo hne hnl9;go_wp2_with fail;go_roundw;case rel=>simpa using HREL.out
        case measure=>simp[intOf];omega
     .obtain rfl:k=Q.length:=by omega
      go_wp2_with fail;go_ret;refine⟨w5.heap.size,mh,U,rfl,HIM.out,λi hi=>?_,?_,HQR.out.below⟩
      .have:=HFD.out i;rw[JC] at this;exact this (HALN.out i hi)
      .have h1:=HU1.out;have h2:=HUL.out;have h3:=HQL.out;have h4:=HSZ.out;have h5:(v.size-1)*L.length+L.length=v.size*L.length:=by rw[<-Nat.succ_mul];congr 1;omega
       omega
end
