import Derived.Test.YtdhgmaonolgpnaaGreatDoorId
set_option linter.unusedSimpArgs false
set_option linter.unusedVariables false
set_option maxHeartbeats 32000000
set_option maxRecDepth 100000
namespace Go.Proofs.YtdhgmaonolgpnaaGreatDoor
section
open Go.RowKit Js Pt
def Nds(L:List Cm.Node):Prop:=∃s v a,NdT s v a L
def Low(v:Vl):Prop:=iZ v/\v.size<=5000/\v.depth<=40/\v.bL 80000
theorem sV.low{v:Vl}(h:sV v):Low v:=⟨h.wide,by have:=h.2.1;omega,by have:=h.2.2.1;omega,h.2.2.2.2⟩
theorem D8{v y:Vl}(hv:sV v)(hy:sV y):Low (.mk 4 false Nm.Num.zero [] [y,v] []):=
 ⟨Bs hv hy,by have:=hv.2.1;have:=hy.2.1;simp only[Vl.size,aH,aE];omega,by have:=hv.2.2.1;have:=hy.2.2.1;simp only[Vl.depth,fV,fW];simp;omega,by simp only[Vl.bL,fh,fj];exact⟨by simp[Nm.Num.zero],by simp,⟨hy.2.2.2.2,hv.2.2.2.2,trivial⟩,trivial⟩⟩
def zr(G:World->Prop):Prop:=∀(L:List Cm.Node) (i:Nat) (A:Option Addr) (cp:Nat) (v:Vl) (xv:Value) (w:World),G w->SlN w.cell? A L->L.length<=cp->cp<=maxLen->Nds L->i<L.length->Low v->v.In w.cell? xv->
 Calls Tryz.prog 8 #[.slice A L.length cp,.int .i64 (i:Int),xv] w (FP (Vd.valid L i v) w)
theorem NdT.nds{s:Jd}{v:Vl}{a L:List Cm.Node}(h:NdT s v a L):Nds L:=⟨s,v,a,h⟩
theorem ji(s:Jd)(w:World)(hs:s.length<=100000000000000000):Calls Tryz.prog 5 #[.string ⟨s.toArray⟩] w λe w'=>∃(L:List Cm.Node) (A:Option Addr) (cp:Nat) (c:Int),e=.returned (.tuple #[.slice A L.length cp,.int .i64 c])/\SlN w'.cell? A L/\L.length<=cp/\cp<=maxLen/\(c=0\/(c=1/\∃v a,NdT s v a L))/\Below w.heap.size w w':=by
 refine(nv ⟨s.toArray⟩ w (by rw[K7];omega)).mono ?_;rintro e w' ⟨hb,⟨rfl,_⟩|⟨v,a,L,A,cp,rfl,hnd,hs,hl,hm⟩⟩
 .exact⟨[],none,0,0,rfl,λi N h=>by simp at h,Jh _,by unfold maxLen;omega,.inl rfl,hb⟩
 .exact⟨L,A,cp,1,rfl,hs,hl,hm,.inr ⟨rfl,v,a,hnd⟩,hb⟩
theorem Bl{L:List Cm.Node}{i:Nat}{v:Vl}(hv:iZ v){f:Fl.F}(hf:f∈Vd.valid L i v):∃ns x,f.inst=text ns/\get v ns=some x/\(∀n∈ns,St.text n=true)/\(∀n∈ns,n.length<=1000000)/\ns.length<=1000000/\(text ns).length<=100000000000000000:=by
 obtain⟨ns,x,h1,h2⟩:=Vd.kS _ i v hv.1 hv.2.1 f hf;have h3:=Cm.qS ns v x hv.1 h2;have h4:=Cm.gH (N:=1000000) (by omega) ns v x hv.2.2 h2;have h5:=eG 1000000 ns h4.2.1;have h6:ns.length<=1000000:=JA h4.1 hv.2.1;refine⟨ns,x,h1,h2,h3,h4.2.1,h6,JA h5 ?_⟩;have:ns.length*(2*1000000+1)<=1000000*(2*1000000+1):=K9 _ h6;omega
theorem fI{B:Nat}{a w:World}{g:Nat}(h:Below B a w)(hg:B<=g)(v0 v1 v2 v3 v4 v5 v6 v7:Value):Below B a (bg w g v0 v1 v2 v3 v4 v5 v6 v7):=
 (((((((h.setCell (p:=⟨g,0,none⟩) hg v0).setCell (p:=⟨g,1,none⟩) hg v1).setCell (p:=⟨g,2,none⟩) hg v2).setCell (p:=⟨g,3,none⟩) hg v3).setCell (p:=⟨g,4,none⟩) hg v4).setCell (p:=⟨g,5,none⟩) hg v5).setCell (p:=⟨g,6,none⟩) hg v6).setCell (p:=⟨g,7,none⟩) hg v7
def Sw15(L:List Cm.Node)(i:Nat)(w:World)(g:Nat)(v25:Value)(wc:World):Prop:=
 ∃(want:Bool) (y:Vl) (z_1:Int) (z_2 z_3:Bool) (z_4:Jd) (z_5:Int) (z_6:Jd) (z_7:Option Addr) (z_8 z_9:Nat) (z_a:Option Addr) (z_b z_c:Nat),v25=.bool want/\Blk wc g 31 #[.int .i64 z_1,z_2,z_3,z_4,.int .i64 z_5,z_6,.slice z_7 z_8 z_9,.slice z_a z_b z_c]/\y.In wc.cell? (.agg #[.int .i64 z_1,z_2,z_3,z_4,.int .i64 z_5,z_6,.slice z_7 z_8 z_9,.slice z_a z_b z_c])/\Low y/\(Vd.valid L i y=[]↔want=true)/\Below w.heap.size w wc
def Vd.kP:Vl:=.mk 3 false Nm.Num.zero [110,117,108,108] [] []
def Vd.kTy:Jd:=[116,121,112,101]
def Vd.exV:Vl:=.mk 5 false Nm.Num.zero [] [] [(Vd.aR,.mk 5 false Nm.Num.zero [] [] [(Vd.kTy,Vd.kP)])]
def Vd.exN:List Cm.Node:=[⟨[],false,false,[⟨Vd.aR,.mk 5 false Nm.Num.zero [] [] [(Vd.kTy,Vd.kP)],[([],1)]⟩]⟩,⟨[Vd.aR],false,false,[⟨Vd.kTy,Vd.kP,[]⟩]⟩]
def Vd.exS:Jd:=[123,34,105,116,101,109,115,34,58,123,34,116,121,112,101,34,58,34,110,117,108,108,34,125,125]
def Vd.qG:Vl:=.mk 4 false Nm.Num.zero [] [Ow.FW] []
def Vd.exF:Fl.F:=⟨[47,48],[47,105,116,101,109,115,47,116,121,112,101],[116,121,112,101]⟩
theorem Vd.kQ:Ps.parse Vd.exS=.ok Vd.exV []:=by kernel_rfl
theorem Vd.zK:Ps.parse [91,49,93]=.ok Vd.qG []:=by kernel_rfl
theorem Vd.mW:Cm.compile Vd.exV=.ok Vd.exN:=by kernel_rfl
theorem Vd.BH{a b:Nat}:¬Cm.Step Vd.exN a b:=λ⟨N,hN,hb⟩=>by
 have ha:=(Jm.1 hN).1;rcases(show a=0\/a=1 by simp[Vd.exN] at ha;omega) with rfl|rfl
 .obtain rfl:(⟨[],false,false,[⟨Vd.aR,.mk 5 false Nm.Num.zero [] [] [(Vd.kTy,Vd.kP)],[([],1)]⟩]⟩:Cm.Node)=N:=by simpa[Vd.exN] using hN
  revert hb
  rw[show Cm.yc (⟨[],false,false,[⟨Vd.aR,.mk 5 false Nm.Num.zero [] [] [(Vd.kTy,Vd.kP)],[([],1)]⟩]⟩:Cm.Node)=[] by kernel_rfl];intro hb;cases hb
 .obtain rfl:(⟨[Vd.aR],false,false,[⟨Vd.kTy,Vd.kP,[]⟩]⟩:Cm.Node)=N:=by simpa[Vd.exN] using hN
  revert hb
  rw[show Cm.yc (⟨[Vd.aR],false,false,[⟨Vd.kTy,Vd.kP,[]⟩]⟩:Cm.Node)=[] by kernel_rfl];intro hb;cases hb
theorem Vd.mX:Cm.link Vd.exN=.ok Vd.exN:=by
 unfold Cm.link;rw[show Cm.aq Vd.exN Vd.exN=.ok Vd.exN by kernel_rfl];simp only;rw[Cm.sn (out:=Vd.exN) (λq hq h=>by
  cases h with
  |one k=>exact Vd.BH k
  |more _ k=>exact Vd.BH k)]
theorem Vd.zL:Cm.iH Vd.exS=(Vd.exN,0,-1):=by
 unfold Cm.iH;rw[Vd.kQ];simp only;rw[Vd.mW];simp only;rw[Vd.mX];rfl
theorem Vd.F9:Vd.valid Vd.exN 0 Vd.qG=[Vd.exF]:=by kernel_rfl
theorem Vd.Gu:iZ Vd.exV:=⟨by decide,by decide,by simp[Vd.exV,Vd.kP,Vd.aR,Vd.kTy,Vl.bL,fh,fj,uy,Nm.Num.zero]⟩
theorem Vd.D7:Low Vd.qG:=⟨⟨by decide,by decide,by simp[Vd.qG,Ow.FW,Vl.bL,fh,fj,Nm.Num.zero]⟩,by decide,by decide,by simp[Vd.qG,Ow.FW,Vl.bL,fh,fj,Nm.Num.zero]⟩
theorem Gp{G:World->Prop}(hG:EF G)(hV:zr G)(w:World)(hg:G w):Calls Tryz.prog 4 #[] w λe w'=>e=.returned (.bool true)/\Below w.heap.size w w':=by
 have HND:=Jf (th ⟨#[123,34,105,116,101,109,115,34,58,123,34,116,121,112,101,34,58,34,110,117,108,108,34,125,125]⟩ w (by decide) Vd.zL);have HVS:=Jf (λW=>wB ⟨#[91,49,93]⟩ Vd.qG [] (by decide) Vd.zK W);have HG:=Jf (λ(W:World) (h:Below w.heap.size w W)=>hG _ _ hg h);have HV:=Jf hV;clear hG hV hg;go_enter Tryz.func4,Tryz.ntmps4;go_wp2_with fail;refine HND.out.mono ?_;rintro e1 w1 ⟨A,cp,rfl,hs1,hl1,hm1,hb1⟩;have HB1:=Jf hb1;have HS1:=Jf hs1;have hl1':2<=cp:=hl1;rw[show Vd.exN.length=2 from rfl];clear hs1 hb1 HND hl1;go_wp2_with fail;refine(HVS.out w1).mono ?_;rintro e2 w2 ⟨x,rfl,hx,hb2⟩;obtain⟨k_1,k_2,k_3,k_4,k_5,k_6,k_7,k_8,k_9,k_a,k_b,k_c,rfl⟩:=In.cells hx;have hb3:=hb2.alloc hb2.size (.cells #[.int .i64 k_1,k_2,k_3,k_4,.int .i64 k_5,k_6,.slice k_7 k_8 k_9,.slice k_a k_b k_c] 31);have HBZ:=Jf (HB1.out.trans (hb3.mono HB1.out.size));have HBX:=Jf (Blk.new w2 31 #[.int .i64 k_1,k_2,k_3,k_4,.int .i64 k_5,k_6,.slice k_7 k_8 k_9,.slice k_a k_b k_c]);have HXV:=Jf (In.keep (aT w2 (.cells #[.int .i64 k_1,k_2,k_3,k_4,.int .i64 k_5,k_6,.slice k_7 k_8 k_9,.slice k_a k_b k_c] 31)) _ _ hx);have HS2:=Jf (HS1.out.keep (aa hb3));clear hx hb2 hb3 HS1 HVS HB1;go_upto_region 3 with(fail);generalize w2.alloc (.cells #[.int .i64 k_1,k_2,k_3,k_4,.int .i64 k_5,k_6,.slice k_7 k_8 k_9,.slice k_a k_b k_c] 31)=wz at*
 generalize w2.heap.size=gv at*
 have hv1:=HV.out Vd.exN 0 A cp Vd.qG _ wz (HG.out _ HBZ.out) HS2.out hl1' hm1 ⟨Vd.exS,Vd.exV,Vd.exN,by decide,⟨[],Vd.kQ⟩,Vd.Gu,Vd.mW,Vd.mX,Vd.zL⟩ (by decide) Vd.D7 HXV.out;rw[Vd.F9] at hv1;have HV1:=Jf (show Calls Tryz.prog 8 #[.slice A 2 cp,.int .i64 0,.agg #[.int .i64 k_1,.bool k_2,.bool k_3,.string ⟨k_4.toArray⟩,.int .i64 k_5,.string ⟨k_6.toArray⟩,.slice k_7 k_8 k_9,.slice k_a k_b k_c]] wz (FP [Vd.exF] wz) from hv1);obtain⟨b0,b1,b2,b3,b4,b5,b6,b7⟩:=HBX.out.eight;have bl:=HBX.out.lt;clear hv1 HV;go_wp2_with fail;refine HV1.out.mono ?_;rintro e3 w3 ⟨A3,c3,rfl,hf3,hb3⟩;have hba:=(Ji w3.heap.size w3).alloc (Jh _) (.cells #[.string ⟨#[47,48]⟩,.string ⟨#[47,105,116,101,109,115,47,116,121,112,101]⟩,.string ⟨#[116,121,112,101]⟩] 44);have HSM:=Jf (IP [Vd.exF] A3 c3 (some ⟨w3.heap.size,0,none⟩) 1 (w3.alloc (.cells #[.string ⟨#[47,48]⟩,.string ⟨#[47,105,116,101,109,115,47,116,121,112,101]⟩,.string ⟨#[116,121,112,101]⟩] 44)) (hf3.on hba) (GQ w3 [Vd.exF] (by decide)));rw[show([Vd.exF]:List Fl.F).length=1 from rfl] at HSM ⊢;have HB3:=Jf ((HBZ.out.trans (hb3.mono HBZ.out.size)).trans (hba.mono (JA HBZ.out.size hb3.size)));clear hf3 hb3 hba b0 b1 b2 b3 b4 b5 b6 b7 bl HV1;go_wp2_with fail;refine HSM.out.mono ?_;rintro e4 w4 ⟨rfl,hb4⟩;have HB4:=Jf (HB3.out.trans (hb4.mono HB3.out.size));clear hb4;go_wp2_with fail;go_ret;exact⟨rfl,HB4.out⟩
theorem sO{G:World->Prop}(hG:EF G)(hV:zr G)(hO:Ib G)(s t p q:Jd)(w:World)(hg:G w)(hs:s.length<=100000000000000000)(ht:t.length<=100000000000000000)(hp:p.length<=100000000000000000)(hq:q.length<=100000000000000000):
  Calls Tryz.prog 3 #[.string ⟨s.toArray⟩,.string ⟨t.toArray⟩,.string ⟨p.toArray⟩,.string ⟨q.toArray⟩] w λe w'=>e=.returned (.bool true)/\Below w.heap.size w w':=by
 have HU:=Jf (Gp hG hV w hg);have HG0:=Jf (λ(W:World) (h:Below w.heap.size w W)=>hG _ _ hg h);have HV0:=Jf hV;have HO0:=Jf hO;have HNS:=Jf (λW=>ji s W (by omega));have HNT:=Jf (λW=>ji t W (by omega));have HVP:=Jf (λW=>sR ⟨p.toArray⟩ (by rw[K7];omega) W);have HVQ:=Jf (λW=>sR ⟨q.toArray⟩ (by rw[K7];omega) W);have HBS:=Jf (λW=>wQ s W (by omega));have HBT:=Jf (λW=>wQ t W (by omega));unfold tC at HBS HBT;obtain⟨bs,hbs⟩:∃r,iL s=r:=⟨_,rfl⟩;obtain⟨bt,hbt⟩:∃r,iL t=r:=⟨_,rfl⟩;have hlbs:bs.length<=150:=by rw[<-hbs];exact tH s
 have hlbt:bt.length<=150:=by rw[<-hbt];exact tH t
 rw[hbs] at HBS;rw[hbt] at HBT;have HBSE:=Jf hbs;have HBTE:=Jf hbt;have HLBS:=Jf hlbs;have HLBT:=Jf hlbt;clear hG hV hO hg hs ht hp hq hbs hbt hlbs hlbt;go_enter Tryz.func3,Tryz.ntmps3;go_wp2_with fail;refine HU.out.mono ?_;rintro e0 w0 ⟨rfl,hb0⟩;have HB0:=Jf hb0;clear hb0 HU;go_wp2_with fail;refine(HNS.out w0).mono ?_;rintro e1 w1 ⟨L1,A1,cp1,c1,rfl,hs1,hl1,hm1,hc1,hb1⟩;have HS1:=Jf hs1;have HC1:=Jf hc1;have HB1:=Jf (HB0.out.trans (hb1.mono HB0.out.size));clear hs1 hc1 hb1 HNS HB0;go_wp2_with fail;refine(HNT.out w1).mono ?_;rintro e2 w2 ⟨L2,A2,cp2,c2,rfl,hs2,hl2,hm2,hc2,hb2⟩;have HS2:=Jf hs2;have HC2:=Jf hc2;have HS1b:=Jf (HS1.out.keep (aa hb2));have HB2:=Jf (HB1.out.trans (hb2.mono HB1.out.size));clear hs2 hc2 hb2 HNT HB1 HS1;go_wp2_with fail;refine(HVP.out w2).mono ?_;rintro e3 w3 ⟨v,xv,cv,rfl,hx,hb3,hcv⟩;obtain⟨k_1,k_2,k_3,k_4,k_5,k_6,k_7,k_8,k_9,k_a,k_b,k_c,rfl⟩:=In.cells hx;have hb3a:=hb3.alloc hb3.size (.cells #[.int .i64 k_1,k_2,k_3,k_4,.int .i64 k_5,k_6,.slice k_7 k_8 k_9,.slice k_a k_b k_c] 31);have HB3:=Jf (HB2.out.trans (hb3a.mono HB2.out.size));have HBV1:=Jf (Blk.new w3 31 #[.int .i64 k_1,k_2,k_3,k_4,.int .i64 k_5,k_6,.slice k_7 k_8 k_9,.slice k_a k_b k_c]);have HXV1:=Jf (In.keep (aT w3 (.cells #[.int .i64 k_1,k_2,k_3,k_4,.int .i64 k_5,k_6,.slice k_7 k_8 k_9,.slice k_a k_b k_c] 31)) _ _ hx);have HS1c:=Jf (HS1b.out.keep (aa hb3a));have HS2c:=Jf (HS2.out.keep (aa hb3a));have HCV:=Jf hcv;clear hx hb3 hb3a hcv HVP HB2 HS1b HS2;go_upto_region 5 with(fail);generalize w3.alloc (.cells #[.int .i64 k_1,k_2,k_3,k_4,.int .i64 k_5,k_6,.slice k_7 k_8 k_9,.slice k_a k_b k_c] 31)=w3a at*
 generalize w3.heap.size=gV at*
 go_wp2_with fail;refine(HVQ.out w3a).mono ?_;rintro e4 w4 ⟨x,xx,cx,rfl,hx,hb4,hcx⟩;obtain⟨m_1,m_2,m_3,m_4,m_5,m_6,m_7,m_8,m_9,m_a,m_b,m_c,rfl⟩:=In.cells hx;have hb4a:=hb4.alloc hb4.size (.cells #[.int .i64 m_1,m_2,m_3,m_4,.int .i64 m_5,m_6,.slice m_7 m_8 m_9,.slice m_a m_b m_c] 31);have HB4:=Jf (HB3.out.trans (hb4a.mono HB3.out.size));have HBX:=Jf (Blk.new w4 31 #[.int .i64 m_1,m_2,m_3,m_4,.int .i64 m_5,m_6,.slice m_7 m_8 m_9,.slice m_a m_b m_c]);have HXX:=Jf (In.keep (aT w4 (.cells #[.int .i64 m_1,m_2,m_3,m_4,.int .i64 m_5,m_6,.slice m_7 m_8 m_9,.slice m_a m_b m_c] 31)) _ _ hx);have HBV2:=Jf (HBV1.out.on hb4a);have HXV2:=Jf (In.keep (aa hb4a) _ _ HXV1.out);have HS1d:=Jf (HS1c.out.keep (aa hb4a));have HS2d:=Jf (HS2c.out.keep (aa hb4a));have HCX:=Jf hcx;clear hx hb4 hb4a hcx HVQ HB3 HBV1 HXV1 HS1c HS2c;go_upto_region 6 with(fail);generalize w4.alloc (.cells #[.int .i64 m_1,m_2,m_3,m_4,.int .i64 m_5,m_6,.slice m_7 m_8 m_9,.slice m_a m_b m_c] 31)=w4a at*
 generalize w4.heap.size=gX at*
 obtain⟨U0,hU0⟩:∃r:Jd,[123,34,36,100,101,102,115,34,58,123,34,97,34,58]++bs=r:=⟨_,rfl⟩;obtain⟨U1,hU1⟩:∃r:Jd,U0++[44,34,98,34,58]=r:=⟨_,rfl⟩;obtain⟨U2,hU2⟩:∃r:Jd,U1++bt=r:=⟨_,rfl⟩;obtain⟨U3,hU3⟩:∃r:Jd,U2++[125,44,34,112,114,111,112,101,114,116,105,101,115,34,58,123,34,97,108,108,34,58,123,34,97,108,108,79,102,34,58,91]=r:=⟨_,rfl⟩;obtain⟨U4,hU4⟩:∃r:Jd,U3++bs=r:=⟨_,rfl⟩;obtain⟨U5,hU5⟩:∃r:Jd,U4++[44]=r:=⟨_,rfl⟩;obtain⟨U6,hU6⟩:∃r:Jd,U5++bt=r:=⟨_,rfl⟩;obtain⟨U7,hU7⟩:∃r:Jd,U6++[93,125,44,34,97,110,121,34,58,123,34,97,110,121,79,102,34,58,91]=r:=⟨_,rfl⟩;obtain⟨U8,hU8⟩:∃r:Jd,U7++bs=r:=⟨_,rfl⟩;obtain⟨U9,hU9⟩:∃r:Jd,U8++[44]=r:=⟨_,rfl⟩;obtain⟨U10,hU10⟩:∃r:Jd,U9++bt=r:=⟨_,rfl⟩;obtain⟨U11,hU11⟩:∃r:Jd,U10++[93,125,44,34,105,116,101,109,115,34,58,123,34,105,116,101,109,115,34,58]=r:=⟨_,rfl⟩;obtain⟨U12,hU12⟩:∃r:Jd,U11++bs=r:=⟨_,rfl⟩;obtain⟨U13,hU13⟩:∃r:Jd,U12++[125,44,34,110,111,116,34,58,123,34,110,111,116,34,58]=r:=⟨_,rfl⟩;obtain⟨U14,hU14⟩:∃r:Jd,U13++bs=r:=⟨_,rfl⟩;obtain⟨U15,hU15⟩:∃r:Jd,U14++[125,44,34,111,110,101,34,58,123,34,111,110,101,79,102,34,58,91]=r:=⟨_,rfl⟩;obtain⟨U16,hU16⟩:∃r:Jd,U15++bs=r:=⟨_,rfl⟩;obtain⟨U17,hU17⟩:∃r:Jd,U16++[44]=r:=⟨_,rfl⟩;obtain⟨U18,hU18⟩:∃r:Jd,U17++bt=r:=⟨_,rfl⟩;obtain⟨U19,hU19⟩:∃r:Jd,U18++[93,125,125,125]=r:=⟨_,rfl⟩;have lU0:U0.length<=200:=by rw[<-hU0,Jk];have:=HLBS.out;have:=HLBT.out;(try simp only[Jl,Jw]);omega
 have lU1:U1.length<=400:=by rw[<-hU1,Jk];have:=HLBS.out;have:=HLBT.out;(try simp only[Jl,Jw]);omega
 have lU2:U2.length<=600:=by rw[<-hU2,Jk];have:=HLBS.out;have:=HLBT.out;(try simp only[Jl,Jw]);omega
 have lU3:U3.length<=800:=by rw[<-hU3,Jk];have:=HLBS.out;have:=HLBT.out;(try simp only[Jl,Jw]);omega
 have lU4:U4.length<=1000:=by rw[<-hU4,Jk];have:=HLBS.out;have:=HLBT.out;(try simp only[Jl,Jw]);omega
 have lU5:U5.length<=1200:=by rw[<-hU5,Jk];have:=HLBS.out;have:=HLBT.out;(try simp only[Jl,Jw]);omega
 have lU6:U6.length<=1400:=by rw[<-hU6,Jk];have:=HLBS.out;have:=HLBT.out;(try simp only[Jl,Jw]);omega
 have lU7:U7.length<=1600:=by rw[<-hU7,Jk];have:=HLBS.out;have:=HLBT.out;(try simp only[Jl,Jw]);omega
 have lU8:U8.length<=1800:=by rw[<-hU8,Jk];have:=HLBS.out;have:=HLBT.out;(try simp only[Jl,Jw]);omega
 have lU9:U9.length<=2000:=by rw[<-hU9,Jk];have:=HLBS.out;have:=HLBT.out;(try simp only[Jl,Jw]);omega
 have lU10:U10.length<=2200:=by rw[<-hU10,Jk];have:=HLBS.out;have:=HLBT.out;(try simp only[Jl,Jw]);omega
 have lU11:U11.length<=2400:=by rw[<-hU11,Jk];have:=HLBS.out;have:=HLBT.out;(try simp only[Jl,Jw]);omega
 have lU12:U12.length<=2600:=by rw[<-hU12,Jk];have:=HLBS.out;have:=HLBT.out;(try simp only[Jl,Jw]);omega
 have lU13:U13.length<=2800:=by rw[<-hU13,Jk];have:=HLBS.out;have:=HLBT.out;(try simp only[Jl,Jw]);omega
 have lU14:U14.length<=3000:=by rw[<-hU14,Jk];have:=HLBS.out;have:=HLBT.out;(try simp only[Jl,Jw]);omega
 have lU15:U15.length<=3200:=by rw[<-hU15,Jk];have:=HLBS.out;have:=HLBT.out;(try simp only[Jl,Jw]);omega
 have lU16:U16.length<=3400:=by rw[<-hU16,Jk];have:=HLBS.out;have:=HLBT.out;(try simp only[Jl,Jw]);omega
 have lU17:U17.length<=3600:=by rw[<-hU17,Jk];have:=HLBS.out;have:=HLBT.out;(try simp only[Jl,Jw]);omega
 have lU18:U18.length<=3800:=by rw[<-hU18,Jk];have:=HLBS.out;have:=HLBT.out;(try simp only[Jl,Jw]);omega
 have lU19:U19.length<=4000:=by rw[<-hU19,Jk];have:=HLBS.out;have:=HLBT.out;(try simp only[Jl,Jw]);omega
 have kU0:∀W:World,(Op.stringOp .add ⟨([123,34,36,100,101,102,115,34,58,123,34,97,34,58]:Jd).toArray⟩ ⟨(bs:Jd).toArray⟩).run Tryz.prog W=.ok (.string ⟨U0.toArray⟩) W:=λW=>by rw[<-hU0];exact bR W _ _ (by have:=HLBS.out;have:=HLBT.out;(try simp only[Jl,Jw]);omega)
 have kU1:∀W:World,(Op.stringOp .add ⟨(U0:Jd).toArray⟩ ⟨([44,34,98,34,58]:Jd).toArray⟩).run Tryz.prog W=.ok (.string ⟨U1.toArray⟩) W:=λW=>by rw[<-hU1];exact bR W _ _ (by have:=HLBS.out;have:=HLBT.out;(try simp only[Jl,Jw]);omega)
 have kU2:∀W:World,(Op.stringOp .add ⟨(U1:Jd).toArray⟩ ⟨(bt:Jd).toArray⟩).run Tryz.prog W=.ok (.string ⟨U2.toArray⟩) W:=λW=>by rw[<-hU2];exact bR W _ _ (by have:=HLBS.out;have:=HLBT.out;(try simp only[Jl,Jw]);omega)
 have kU3:∀W:World,(Op.stringOp .add ⟨(U2:Jd).toArray⟩ ⟨([125,44,34,112,114,111,112,101,114,116,105,101,115,34,58,123,34,97,108,108,34,58,123,34,97,108,108,79,102,34,58,91]:Jd).toArray⟩).run Tryz.prog W=.ok (.string ⟨U3.toArray⟩) W:=λW=>by rw[<-hU3];exact bR W _ _ (by have:=HLBS.out;have:=HLBT.out;(try simp only[Jl,Jw]);omega)
 have kU4:∀W:World,(Op.stringOp .add ⟨(U3:Jd).toArray⟩ ⟨(bs:Jd).toArray⟩).run Tryz.prog W=.ok (.string ⟨U4.toArray⟩) W:=λW=>by rw[<-hU4];exact bR W _ _ (by have:=HLBS.out;have:=HLBT.out;(try simp only[Jl,Jw]);omega)
 have kU5:∀W:World,(Op.stringOp .add ⟨(U4:Jd).toArray⟩ ⟨([44]:Jd).toArray⟩).run Tryz.prog W=.ok (.string ⟨U5.toArray⟩) W:=λW=>by rw[<-hU5];exact bR W _ _ (by have:=HLBS.out;have:=HLBT.out;(try simp only[Jl,Jw]);omega)
 have kU6:∀W:World,(Op.stringOp .add ⟨(U5:Jd).toArray⟩ ⟨(bt:Jd).toArray⟩).run Tryz.prog W=.ok (.string ⟨U6.toArray⟩) W:=λW=>by rw[<-hU6];exact bR W _ _ (by have:=HLBS.out;have:=HLBT.out;(try simp only[Jl,Jw]);omega)
 have kU7:∀W:World,(Op.stringOp .add ⟨(U6:Jd).toArray⟩ ⟨([93,125,44,34,97,110,121,34,58,123,34,97,110,121,79,102,34,58,91]:Jd).toArray⟩).run Tryz.prog W=.ok (.string ⟨U7.toArray⟩) W:=λW=>by rw[<-hU7];exact bR W _ _ (by have:=HLBS.out;have:=HLBT.out;(try simp only[Jl,Jw]);omega)
 have kU8:∀W:World,(Op.stringOp .add ⟨(U7:Jd).toArray⟩ ⟨(bs:Jd).toArray⟩).run Tryz.prog W=.ok (.string ⟨U8.toArray⟩) W:=λW=>by rw[<-hU8];exact bR W _ _ (by have:=HLBS.out;have:=HLBT.out;(try simp only[Jl,Jw]);omega)
 have kU9:∀W:World,(Op.stringOp .add ⟨(U8:Jd).toArray⟩ ⟨([44]:Jd).toArray⟩).run Tryz.prog W=.ok (.string ⟨U9.toArray⟩) W:=λW=>by rw[<-hU9];exact bR W _ _ (by have:=HLBS.out;have:=HLBT.out;(try simp only[Jl,Jw]);omega)
 have kU10:∀W:World,(Op.stringOp .add ⟨(U9:Jd).toArray⟩ ⟨(bt:Jd).toArray⟩).run Tryz.prog W=.ok (.string ⟨U10.toArray⟩) W:=λW=>by rw[<-hU10];exact bR W _ _ (by have:=HLBS.out;have:=HLBT.out;(try simp only[Jl,Jw]);omega)
 have kU11:∀W:World,(Op.stringOp .add ⟨(U10:Jd).toArray⟩ ⟨([93,125,44,34,105,116,101,109,115,34,58,123,34,105,116,101,109,115,34,58]:Jd).toArray⟩).run Tryz.prog W=.ok (.string ⟨U11.toArray⟩) W:=λW=>by rw[<-hU11];exact bR W _ _ (by have:=HLBS.out;have:=HLBT.out;(try simp only[Jl,Jw]);omega)
 have kU12:∀W:World,(Op.stringOp .add ⟨(U11:Jd).toArray⟩ ⟨(bs:Jd).toArray⟩).run Tryz.prog W=.ok (.string ⟨U12.toArray⟩) W:=λW=>by rw[<-hU12];exact bR W _ _ (by have:=HLBS.out;have:=HLBT.out;(try simp only[Jl,Jw]);omega)
 have kU13:∀W:World,(Op.stringOp .add ⟨(U12:Jd).toArray⟩ ⟨([125,44,34,110,111,116,34,58,123,34,110,111,116,34,58]:Jd).toArray⟩).run Tryz.prog W=.ok (.string ⟨U13.toArray⟩) W:=λW=>by rw[<-hU13];exact bR W _ _ (by have:=HLBS.out;have:=HLBT.out;(try simp only[Jl,Jw]);omega)
 have kU14:∀W:World,(Op.stringOp .add ⟨(U13:Jd).toArray⟩ ⟨(bs:Jd).toArray⟩).run Tryz.prog W=.ok (.string ⟨U14.toArray⟩) W:=λW=>by rw[<-hU14];exact bR W _ _ (by have:=HLBS.out;have:=HLBT.out;(try simp only[Jl,Jw]);omega)
 have kU15:∀W:World,(Op.stringOp .add ⟨(U14:Jd).toArray⟩ ⟨([125,44,34,111,110,101,34,58,123,34,111,110,101,79,102,34,58,91]:Jd).toArray⟩).run Tryz.prog W=.ok (.string ⟨U15.toArray⟩) W:=λW=>by rw[<-hU15];exact bR W _ _ (by have:=HLBS.out;have:=HLBT.out;(try simp only[Jl,Jw]);omega)
 have kU16:∀W:World,(Op.stringOp .add ⟨(U15:Jd).toArray⟩ ⟨(bs:Jd).toArray⟩).run Tryz.prog W=.ok (.string ⟨U16.toArray⟩) W:=λW=>by rw[<-hU16];exact bR W _ _ (by have:=HLBS.out;have:=HLBT.out;(try simp only[Jl,Jw]);omega)
 have kU17:∀W:World,(Op.stringOp .add ⟨(U16:Jd).toArray⟩ ⟨([44]:Jd).toArray⟩).run Tryz.prog W=.ok (.string ⟨U17.toArray⟩) W:=λW=>by rw[<-hU17];exact bR W _ _ (by have:=HLBS.out;have:=HLBT.out;(try simp only[Jl,Jw]);omega)
 have kU18:∀W:World,(Op.stringOp .add ⟨(U17:Jd).toArray⟩ ⟨(bt:Jd).toArray⟩).run Tryz.prog W=.ok (.string ⟨U18.toArray⟩) W:=λW=>by rw[<-hU18];exact bR W _ _ (by have:=HLBS.out;have:=HLBT.out;(try simp only[Jl,Jw]);omega)
 have kU19:∀W:World,(Op.stringOp .add ⟨(U18:Jd).toArray⟩ ⟨([93,125,125,125]:Jd).toArray⟩).run Tryz.prog W=.ok (.string ⟨U19.toArray⟩) W:=λW=>by rw[<-hU19];exact bR W _ _ (by have:=HLBS.out;have:=HLBT.out;(try simp only[Jl,Jw]);omega)
 have HUL:=Jf lU19;have HUE:=Jf (show([123,34,36,100,101,102,115,34,58,123,34,97,34,58]++bs++[44,34,98,34,58]++bt++[125,44,34,112,114,111,112,101,114,116,105,101,115,34,58,123,34,97,108,108,34,58,123,34,97,108,108,79,102,34,58,91]++bs++[44]++bt++[93,125,44,34,97,110,121,34,58,123,34,97,110,121,79,102,34,58,91]++bs++[44]++bt++[93,125,44,34,105,116,101,109,115,34,58,123,34,105,116,101,109,115,34,58]++bs++[125,44,34,110,111,116,34,58,123,34,110,111,116,34,58]++bs++[125,44,34,111,110,101,34,58,123,34,111,110,101,79,102,34,58,91]++bs++[44]++bt++[93,125,125,125]:Jd)=U19 by rw[hU0,hU1,hU2,hU3,hU4,hU5,hU6,hU7,hU8,hU9,hU10,hU11,hU12,hU13,hU14,hU15,hU16,hU17,hU18,hU19]);clear hU0 lU0 hU1 lU1 hU2 lU2 hU3 lU3 hU4 lU4 hU5 lU5 hU6 lU6 hU7 lU7 hU8 lU8 hU9 lU9 hU10 lU10 hU11 lU11 hU12 lU12 hU13 lU13 hU14 lU14 hU15 lU15 hU16 lU16 hU17 lU17 hU18 lU18 hU19 lU19;go_wp2_with fail;refine(HBS.out _).mono ?_;rintro e w' ⟨rfl,rfl⟩;go_wp2_with fail;refine(HBT.out _).mono ?_;rintro e w' ⟨rfl,rfl⟩;go_wp2_with fail;refine(HBS.out _).mono ?_;rintro e w' ⟨rfl,rfl⟩;go_wp2_with fail;refine(HBT.out _).mono ?_;rintro e w' ⟨rfl,rfl⟩;go_wp2_with fail;refine(HBS.out _).mono ?_;rintro e w' ⟨rfl,rfl⟩;go_wp2_with fail;refine(HBT.out _).mono ?_;rintro e w' ⟨rfl,rfl⟩;go_wp2_with fail;refine(HBS.out _).mono ?_;rintro e w' ⟨rfl,rfl⟩;go_wp2_with fail;refine(HBS.out _).mono ?_;rintro e w' ⟨rfl,rfl⟩;go_wp2_with fail;refine(HBS.out _).mono ?_;rintro e w' ⟨rfl,rfl⟩;go_wp2_with fail;refine(HBT.out _).mono ?_;rintro e w' ⟨rfl,rfl⟩;obtain⟨w5,hw5⟩:∃W,W=w':=⟨_,rfl⟩;subst hw5;have HNU:=Jf (ji U19 w5 (by have:=HUL.out;omega));go_wp2_with fail;clear kU0 kU1 kU2 kU3 kU4 kU5 kU6 kU7 kU8 kU9 kU10 kU11 kU12 kU13 kU14 kU15 kU16 kU17 kU18 kU19;refine HNU.out.mono ?_;rintro e6 w6 ⟨L3,A3,cp3,c3,rfl,hs3,hl3,hm3,hc3,hb6⟩;have HS3:=Jf hs3;have HC3:=Jf hc3;have HB6:=Jf (HB4.out.trans (hb6.mono HB4.out.size));have HS1:=Jf (HS1d.out.keep (aa hb6));have HS2:=Jf (HS2d.out.keep (aa hb6));have HBV:=Jf (HBV2.out.on hb6);have HXV:=Jf (In.keep (aa hb6) _ _ HXV2.out);have HBY:=Jf (HBX.out.on hb6);have HXY:=Jf (In.keep (aa hb6) _ _ HXX.out);clear hs3 hc3 hb6 HNU HB4 HS1d HS2d HBV2 HXV2 HBX HXX;rcases HC1.out with rfl|⟨rfl,hn1⟩
 .go_wp2_with fail;go_ret;exact⟨rfl,HB6.out⟩
 rcases HC2.out with rfl|⟨rfl,hn2⟩
 .go_wp2_with fail;go_ret;exact⟨rfl,HB6.out⟩
 rcases HCV.out with rfl|⟨rfl,hfv⟩
 .go_wp2_with fail;go_ret;exact⟨rfl,HB6.out⟩
 rcases HCX.out with rfl|⟨rfl,hfx⟩
 .go_wp2_with fail;go_ret;exact⟨rfl,HB6.out⟩
 rcases HC3.out with rfl|⟨rfl,hn3⟩
 .go_wp2_with fail;go_ret;exact⟨rfl,HB6.out⟩
 have HN1:=Jf hn1;have HN2:=Jf hn2;have HN3:=Jf hn3;have HFV:=Jf hfv;have HFX:=Jf hfx;clear hn1 hn2 hn3 hfv hfx HC1 HC2 HC3 HCV HCX;go_wp2_with fail;refine(HBS.out _).mono ?_;rintro e w' ⟨rfl,rfl⟩;obtain⟨w7,hw7⟩:∃W,W=w':=⟨_,rfl⟩;subst hw7;by_cases hbs:bs=s
 rotate_left
 .have e1:(bs==s)=false:=Jp.2 hbs;have e2:(bs !=s)=true:=LV.2 hbs;clear hbs;go_wp2_with fail;go_ret;exact⟨rfl,HB6.out⟩
 have HBS2:=Jf hbs;have e1:(bs==s)=true:=Ln.2 hbs;have e2:(bs !=s)=false:=by rw[bne,e1];rfl
 clear hbs;go_wp2_with fail;refine(HBT.out _).mono ?_;rintro e w' ⟨rfl,rfl⟩;obtain⟨w8,hw8⟩:∃W,W=w':=⟨_,rfl⟩;subst hw8;clear e1 e2;by_cases hbt:bt=t
 rotate_left
 .have e1:(bt==t)=false:=Jp.2 hbt;have e2:(bt !=t)=true:=LV.2 hbt;clear hbt;go_wp2_with fail;go_ret;exact⟨rfl,HB6.out⟩
 have HBT2:=Jf hbt;have e1:(bt==t)=true:=Ln.2 hbt;have e2:(bt !=t)=false:=by rw[bne,e1];rfl
 clear hbt;have HSD:=Jf (show Vd.EC L1 L2 L3/\Vd.Ends L1/\Vd.Ends L2/\Vd.Ends L3/\0<L1.length/\0<L2.length/\∃N,L1[0]? =some N/\(N.keys.map (·.name)).Nodup from by
  obtain⟨va,a,h1⟩:=HN1.out;obtain⟨vb,b,h2⟩:=HN2.out;obtain⟨vc,c,h3⟩:=HN3.out;have hbe:Vd.tI s t=U19:=by
   rw[Vd.ER,<-HUE.out,HBS2.out,HBT2.out]
  rw[<-hbe] at h3;exact Vd.AZ h1 h2 h3 (qo (HBSE.out.trans HBS2.out)).1 (qo (HBTE.out.trans HBT2.out)).1)
 have HVA:=Jf (λ(L:List Cm.Node) (A:Option Addr) (cp:Nat) (W:World) (y:Vl) (xy:Value) (hg:G W) (hS:SlN W.cell? A L) (h1:L.length<=cp) (h2:cp<=maxLen) (hn:∃sx v a,NdT sx v a L) (hp:0<L.length) (hw:Low y) (hx:y.In W.cell? xy)=>(show Calls Tryz.prog 8 #[.slice A L.length cp,.int .i64 0,xy] W (FP (Vd.valid L 0 y) W) from HV0.out L 0 A cp y xy W hg hS h1 h2 (by obtain⟨_,_,_,h⟩:=hn;exact h.nds) hp hw hx));have HWV:=Jf HFV.out.low;have HWX:=Jf HFX.out.low;have HG:=Jf (λ(W:World) (h:Below w8.heap.size w8 W)=>HG0.out W (HB6.out.trans (h.mono HB6.out.size)));have HV1:=Jf (HVA.out L1 A1 cp1 w8 v _ (HG.out _ (Ji _ _)) HS1.out hl1 hm1 ⟨s,HN1.out⟩ HSD.out.2.2.2.2.1 HWV.out HXV.out);obtain⟨b0,b1,b2,b3,b4,b5,b6,b7⟩:=HBV.out.eight;have bl:=HBV.out.lt;go_wp2_with fail;refine HV1.out.mono ?_;rintro e9 w9 ⟨A9,c9,rfl,hf9,hb9⟩;have HB9:=Jf hb9;clear hf9 hb9 HV1 e1 e2 b0 b1 b2 b3 b4 b5 b6 b7 bl;obtain⟨l1,hl1e⟩:∃l,Vd.valid L1 0 v=l:=⟨_,rfl⟩;rw[hl1e];have HL1:=Jf hl1e;obtain⟨one,hone⟩:∃b,((l1.length:Int)==0)=b:=⟨_,rfl⟩;have HONE:=Jf (show l1=[]↔one=true by rw[<-hone,Ln,<-List.length_eq_zero_iff];omega);have HV2:=Jf (HVA.out L2 A2 cp2 w9 v _ (HG.out _ HB9.out) (HS2.out.keep (aa HB9.out)) hl2 hm2 ⟨t,HN2.out⟩ HSD.out.2.2.2.2.2.1 HWV.out (In.keep (aa HB9.out) _ _ HXV.out));obtain⟨b0,b1,b2,b3,b4,b5,b6,b7⟩:=(HBV.out.on HB9.out).eight;have bl:=(HBV.out.on HB9.out).lt;clear hl1e;go_wp2_with fail;refine HV2.out.mono ?_;rintro e10 w10 ⟨A10,c10,rfl,hf10,hb10⟩;have HB10:=Jf (HB9.out.trans (hb10.mono HB9.out.size));clear hf10 hb10 HV2 hone b0 b1 b2 b3 b4 b5 b6 b7 bl;obtain⟨l2,hl2e⟩:∃l,Vd.valid L2 0 v=l:=⟨_,rfl⟩;rw[hl2e];have HL2:=Jf hl2e;obtain⟨two,htwo⟩:∃b,((l2.length:Int)==0)=b:=⟨_,rfl⟩;have HTWO:=Jf (show l2=[]↔two=true by rw[<-htwo,Ln,<-List.length_eq_zero_iff];omega);have HV3:=Jf (HVA.out L1 A1 cp1 w10 x _ (HG.out _ HB10.out) (HS1.out.keep (aa HB10.out)) hl1 hm1 ⟨s,HN1.out⟩ HSD.out.2.2.2.2.1 HWX.out (In.keep (aa HB10.out) _ _ HXY.out));obtain⟨b0,b1,b2,b3,b4,b5,b6,b7⟩:=(HBY.out.on HB10.out).eight;have bl:=(HBY.out.on HB10.out).lt;clear hl2e;go_wp2_with fail;refine HV3.out.mono ?_;rintro e11 w11 ⟨A11,c11,rfl,hf11,hb11⟩;have HB11:=Jf (HB10.out.trans (hb11.mono HB10.out.size));clear hf11 hb11 HV3 htwo b0 b1 b2 b3 b4 b5 b6 b7 bl;obtain⟨l3,hl3e⟩:∃l,Vd.valid L1 0 x=l:=⟨_,rfl⟩;rw[hl3e];have HL3:=Jf hl3e;obtain⟨other,hother⟩:∃b,((l3.length:Int)==0)=b:=⟨_,rfl⟩;have HOTH:=Jf (show l3=[]↔other=true by rw[<-hother,Ln,<-List.length_eq_zero_iff];omega);obtain⟨b0,b1,b2,b3,b4,b5,b6,b7⟩:=(HBV.out.on HB11.out).eight;have bl:=(HBV.out.on HB11.out).lt;obtain⟨d0,d1,d2,d3,d4,d5,d6,d7⟩:=(HBY.out.on HB11.out).eight;have dl:=(HBY.out.on HB11.out).lt;have HBL:=Jf (Blk.new w11 31 #[.int .i64 k_1,k_2,k_3,k_4,.int .i64 k_5,k_6,.slice k_7 k_8 k_9,.slice k_a k_b k_c,.int .i64 m_1,m_2,m_3,m_4,.int .i64 m_5,m_6,.slice m_7 m_8 m_9,.slice m_a m_b m_c]);have hbl:=(Ji w11.heap.size w11).alloc (Jh _) (.cells #[.int .i64 k_1,k_2,k_3,k_4,.int .i64 k_5,k_6,.slice k_7 k_8 k_9,.slice k_a k_b k_c,.int .i64 m_1,m_2,m_3,m_4,.int .i64 m_5,m_6,.slice m_7 m_8 m_9,.slice m_a m_b m_c] 31);have hbz:=hbl.alloc hbl.size (.cells #[.int .i64 4,false,false,.string ⟨#[]⟩,.int .i64 0,.string ⟨#[]⟩,.slice (some ⟨w11.heap.size,0,none⟩) 2 2,.slice none 0 0] 31);clear hl3e;go_upto_region 13 with(fail);have HBL2:=Jf (HBL.out.alloc (.cells #[.int .i64 4,false,false,.string ⟨#[]⟩,.int .i64 0,.string ⟨#[]⟩,.slice (some ⟨w11.heap.size,0,none⟩) 2 2,.slice none 0 0] 31));have HBQ:=Jf (Blk.cW w11 (.cells #[.int .i64 k_1,k_2,k_3,k_4,.int .i64 k_5,k_6,.slice k_7 k_8 k_9,.slice k_a k_b k_c,.int .i64 m_1,m_2,m_3,m_4,.int .i64 m_5,m_6,.slice m_7 m_8 m_9,.slice m_a m_b m_c] 31) 31 #[.int .i64 4,false,false,.string ⟨#[]⟩,.int .i64 0,.string ⟨#[]⟩,.slice (some ⟨w11.heap.size,0,none⟩) 2 2,.slice none 0 0]);have HBZ:=Jf (HB11.out.trans (hbz.mono HB11.out.size));clear hbl hbz b0 b1 b2 b3 b4 b5 b6 b7 bl d0 d1 d2 d3 d4 d5 d6 d7 dl HBL HB11 HB10 HB9 hother;generalize (w11.alloc (.cells #[.int .i64 k_1,k_2,k_3,k_4,.int .i64 k_5,k_6,.slice k_7 k_8 k_9,.slice k_a k_b k_c,.int .i64 m_1,m_2,m_3,m_4,.int .i64 m_5,m_6,.slice m_7 m_8 m_9,.slice m_a m_b m_c] 31)).alloc (.cells #[.int .i64 4,false,false,.string ⟨#[]⟩,.int .i64 0,.string ⟨#[]⟩,.slice (some ⟨w11.heap.size,0,none⟩) 2 2,.slice none 0 0] 31)=wz at*
 generalize w11.heap.size+1=gQ at*
 generalize w11.heap.size=gL at*
 have HXQ:=Jf (EI (DX HBL2.out (In.keep (aa HBZ.out) _ _ HXV.out) (In.keep (aa HBZ.out) _ _ HXY.out)) rfl (Jh 2) (by unfold maxLen;omega));have HWQ:=Jf (D8 HFX.out HFV.out);go_wp2_with fail
 go_loopw [24] (λv24 wr=>∃i:Nat,v24=.int .i64 i/\i<=L3.length/\Below wz.heap.size wz wr) (λv24 _=>L3.length-(intOf v24).toNat)
 case atStart=>exact⟨0,rfl,JE _,Ji _ _⟩
 case round=>
  obtain⟨i,rfl,hi,hbr⟩:=hrel;obtain⟨wr2,hwr2⟩:∃W,W=wr:=⟨_,rfl⟩;subst hwr2;have HBR:=Jf hbr;have HBRZ:=Jf (HBZ.out.trans (hbr.mono HBZ.out.size));clear hbr;by_cases hlt:i<L3.length
  .have hii:(i:Int)<(L3.length:Int):=by omega
   obtain⟨N,hN⟩:∃N,L3[i]'hlt=N:=⟨_,rfl⟩;have HNI:=Jf (show L3[i]? =some N by rw[Jg hlt,hN]);obtain⟨g3,o3,cs,rfl,⟨A4,c4,rfl,_,_,_⟩,hcN⟩:=(HS3.out.keep (aa HBRZ.out)) i _ HNI.out;have n0:wr2.cell? ⟨g3,o3+i*4,none⟩=some (.string ⟨(text N.at_).toArray⟩):=hcN 0 _ rfl;have ngl:=Jn _ _ n0;clear hcN hN;obtain⟨tx,htx⟩:∃r,text N.at_=r:=⟨_,rfl⟩;rw[htx] at n0;have HTX:=Jf htx;clear htx;obtain⟨b0,b1,b2,b3,b4,b5,b6,b7⟩:=(HBV.out.on HBRZ.out).eight;have bl:=(HBV.out.on HBRZ.out).lt;have HB26:=Jf (Blk.new wr2 31 #[.int .i64 k_1,k_2,k_3,k_4,.int .i64 k_5,k_6,.slice k_7 k_8 k_9,.slice k_a k_b k_c]);have hb26:=(Ji wr2.heap.size wr2).alloc (Jh _) (.cells #[.int .i64 k_1,k_2,k_3,k_4,.int .i64 k_5,k_6,.slice k_7 k_8 k_9,.slice k_a k_b k_c] 31);have n1:=(aa hb26) _ _ n0;go_upto_region 18 with(fail);have HBW:=Jf hb26;have HBVs:=Jf ((HBV.out.on HBRZ.out).on hb26);have HBQs:=Jf ((HBQ.out.on HBR.out).on hb26);have n2:=ngl;clear hb26 n0 b0 b1 b2 b3 b4 b5 b6 b7 bl ngl;obtain⟨ws,hws⟩:∃W,W=wr2.alloc (.cells #[.int .i64 k_1,k_2,k_3,k_4,.int .i64 k_5,k_6,.slice k_7 k_8 k_9,.slice k_a k_b k_c] 31):=⟨_,rfl⟩;rw[<-hws] at n1 HB26 HBW HBVs HBQs ⊢;have n3:g3<ws.heap.size:=Jn _ _ n1;have HG26:=Jf (Jh wr2.heap.size);have HLT26:=Jf HB26.out.lt;clear hws n2;obtain⟨g26,hg26⟩:∃g,g=wr2.heap.size:=⟨_,rfl⟩;rw[<-hg26] at HB26 HLT26 ⊢;have HG6:=Jf hg26;clear hg26;have hmi:(i:Int)+1<=9223372036854775807:=by unfold maxLen at hm3;omega
   have hway:(tx=[47,112,114,111,112,101,114,116,105,101,115,47,97,108,108]\/tx=[47,112,114,111,112,101,114,116,105,101,115,47,97,110,121]\/tx=[47,112,114,111,112,101,114,116,105,101,115,47,111,110,101]\/tx=[47,112,114,111,112,101,114,116,105,101,115,47,110,111,116]\/tx=[47,112,114,111,112,101,114,116,105,101,115,47,105,116,101,109,115])\/(¬tx=[47,112,114,111,112,101,114,116,105,101,115,47,97,108,108]/\¬tx=[47,112,114,111,112,101,114,116,105,101,115,47,97,110,121]/\¬tx=[47,112,114,111,112,101,114,116,105,101,115,47,111,110,101]/\¬tx=[47,112,114,111,112,101,114,116,105,101,115,47,110,111,116]/\¬tx=[47,112,114,111,112,101,114,116,105,101,115,47,105,116,101,109,115]):=by
    by_cases q0:tx=[47,112,114,111,112,101,114,116,105,101,115,47,97,108,108]
    .exact .inl (.inl q0)
    by_cases q1:tx=[47,112,114,111,112,101,114,116,105,101,115,47,97,110,121]
    .exact .inl (.inr (.inl q1))
    by_cases q2:tx=[47,112,114,111,112,101,114,116,105,101,115,47,111,110,101]
    .exact .inl (.inr (.inr (.inl q2)))
    by_cases q3:tx=[47,112,114,111,112,101,114,116,105,101,115,47,110,111,116]
    .exact .inl (.inr (.inr (.inr (.inl q3))))
    by_cases q4:tx=[47,112,114,111,112,101,114,116,105,101,115,47,105,116,101,109,115]
    .exact .inl (.inr (.inr (.inr (.inr (q4)))))
    exact .inr ⟨q0,q1,q2,q3,q4⟩
   rcases hway with hway|⟨q0,q1,q2,q3,q4⟩
   rotate_left
   .have f0:(tx==[47,112,114,111,112,101,114,116,105,101,115,47,97,108,108])=false:=Jp.2 q0;have f1:(tx==[47,112,114,111,112,101,114,116,105,101,115,47,97,110,121])=false:=Jp.2 q1;have f2:(tx==[47,112,114,111,112,101,114,116,105,101,115,47,111,110,101])=false:=Jp.2 q2;have f3:(tx==[47,112,114,111,112,101,114,116,105,101,115,47,110,111,116])=false:=Jp.2 q3;have f4:(tx==[47,112,114,111,112,101,114,116,105,101,115,47,105,116,101,109,115])=false:=Jp.2 q4;clear q0 q1 q2 q3 q4;go_wp2_with fail;go_roundw;case rel=>exact⟨i+1,by go_num,by omega,HBR.out.trans (HBW.out.mono HBR.out.size)⟩
    case measure=>simp[intOf];omega
   have HWAY:=Jf hway;clear hway
   go_upto_block 2 with fail
   clear n1 n3;go_cut [25] from 160 to 187 (λv25 wc=>Sw15 L3 i wr2 g26 v25 wc);case first=>
    have HAT:=Jf (λ(P:Cm.Names) (h:tx=text P)=>Cm.Bg (HTX.out.trans h));rcases HWAY.out with hw|hw|hw|hw|hw
    .have hat:=HAT.out [Vd.b9,Vd.xM] (by rw[hw];decide);have e0:(tx==[47,112,114,111,112,101,114,116,105,101,115,47,97,108,108])=true:=by rw[hw];decide
     clear hw;have hsd:=HSD.out.1.all_ i N v HWV.out.1.1 HNI.out hat;rw[HL1.out] at hsd;rw[HL2.out] at hsd;rw[HONE.out] at hsd;rw[HTWO.out] at hsd;have HSS:=Jf hsd;clear hsd hat;cases one with
     |false=>
      cases two with
      |false=>
       go_wp2_with fail
       go_meet
       case rel=>exact⟨false,v,k_1,k_2,k_3,k_4,k_5,k_6,k_7,k_8,k_9,k_a,k_b,k_c,rfl,HB26.out,In.keep (aa (HBRZ.out.trans (HBW.out.mono HBRZ.out.size))) _ _ HXV.out,HWV.out,by rw[HSS.out];decide,HBW.out⟩
      |true=>
       go_wp2_with fail
       go_meet
       case rel=>exact⟨false,v,k_1,k_2,k_3,k_4,k_5,k_6,k_7,k_8,k_9,k_a,k_b,k_c,rfl,HB26.out,In.keep (aa (HBRZ.out.trans (HBW.out.mono HBRZ.out.size))) _ _ HXV.out,HWV.out,by rw[HSS.out];decide,HBW.out⟩
     |true=>
      cases two with
      |false=>
       go_wp2_with fail
       go_meet
       case rel=>exact⟨false,v,k_1,k_2,k_3,k_4,k_5,k_6,k_7,k_8,k_9,k_a,k_b,k_c,rfl,HB26.out,In.keep (aa (HBRZ.out.trans (HBW.out.mono HBRZ.out.size))) _ _ HXV.out,HWV.out,by rw[HSS.out];decide,HBW.out⟩
      |true=>
       go_wp2_with fail
       go_meet
       case rel=>exact⟨true,v,k_1,k_2,k_3,k_4,k_5,k_6,k_7,k_8,k_9,k_a,k_b,k_c,rfl,HB26.out,In.keep (aa (HBRZ.out.trans (HBW.out.mono HBRZ.out.size))) _ _ HXV.out,HWV.out,by rw[HSS.out];decide,HBW.out⟩
    .have hat:=HAT.out [Vd.b9,Vd.xN] (by rw[hw];decide);have e0:(tx==[47,112,114,111,112,101,114,116,105,101,115,47,97,108,108])=false:=by rw[hw];decide
     have e1:(tx==[47,112,114,111,112,101,114,116,105,101,115,47,97,110,121])=true:=by rw[hw];decide
     clear hw;have hsd:=HSD.out.1.any_ i N v HWV.out.1.1 HNI.out hat;rw[HL1.out] at hsd;rw[HL2.out] at hsd;rw[HONE.out] at hsd;rw[HTWO.out] at hsd;have HSS:=Jf hsd;clear hsd hat;cases one with
     |false=>
      cases two with
      |false=>
       go_wp2_with fail
       go_meet
       case rel=>exact⟨false,v,k_1,k_2,k_3,k_4,k_5,k_6,k_7,k_8,k_9,k_a,k_b,k_c,rfl,HB26.out,In.keep (aa (HBRZ.out.trans (HBW.out.mono HBRZ.out.size))) _ _ HXV.out,HWV.out,by rw[HSS.out];decide,HBW.out⟩
      |true=>
       go_wp2_with fail
       go_meet
       case rel=>exact⟨true,v,k_1,k_2,k_3,k_4,k_5,k_6,k_7,k_8,k_9,k_a,k_b,k_c,rfl,HB26.out,In.keep (aa (HBRZ.out.trans (HBW.out.mono HBRZ.out.size))) _ _ HXV.out,HWV.out,by rw[HSS.out];decide,HBW.out⟩
     |true=>
      cases two with
      |false=>
       go_wp2_with fail
       go_meet
       case rel=>exact⟨true,v,k_1,k_2,k_3,k_4,k_5,k_6,k_7,k_8,k_9,k_a,k_b,k_c,rfl,HB26.out,In.keep (aa (HBRZ.out.trans (HBW.out.mono HBRZ.out.size))) _ _ HXV.out,HWV.out,by rw[HSS.out];decide,HBW.out⟩
      |true=>
       go_wp2_with fail
       go_meet
       case rel=>exact⟨true,v,k_1,k_2,k_3,k_4,k_5,k_6,k_7,k_8,k_9,k_a,k_b,k_c,rfl,HB26.out,In.keep (aa (HBRZ.out.trans (HBW.out.mono HBRZ.out.size))) _ _ HXV.out,HWV.out,by rw[HSS.out];decide,HBW.out⟩
    .have hat:=HAT.out [Vd.b9,Vd.xP] (by rw[hw];decide);have e0:(tx==[47,112,114,111,112,101,114,116,105,101,115,47,97,108,108])=false:=by rw[hw];decide
     have e1:(tx==[47,112,114,111,112,101,114,116,105,101,115,47,97,110,121])=false:=by rw[hw];decide
     have e2:(tx==[47,112,114,111,112,101,114,116,105,101,115,47,111,110,101])=true:=by rw[hw];decide
     clear hw;have hsd:=HSD.out.1.one_ i N v HWV.out.1.1 HNI.out hat;rw[HL1.out] at hsd;rw[HL2.out] at hsd;rw[HONE.out] at hsd;rw[HTWO.out] at hsd;have HSS:=Jf hsd;clear hsd hat;cases one with
     |false=>
      cases two with
      |false=>
       go_wp2_with fail
       go_meet
       case rel=>exact⟨false,v,k_1,k_2,k_3,k_4,k_5,k_6,k_7,k_8,k_9,k_a,k_b,k_c,rfl,HB26.out,In.keep (aa (HBRZ.out.trans (HBW.out.mono HBRZ.out.size))) _ _ HXV.out,HWV.out,by rw[HSS.out];decide,HBW.out⟩
      |true=>
       go_wp2_with fail
       go_meet
       case rel=>exact⟨true,v,k_1,k_2,k_3,k_4,k_5,k_6,k_7,k_8,k_9,k_a,k_b,k_c,rfl,HB26.out,In.keep (aa (HBRZ.out.trans (HBW.out.mono HBRZ.out.size))) _ _ HXV.out,HWV.out,by rw[HSS.out];decide,HBW.out⟩
     |true=>
      cases two with
      |false=>
       go_wp2_with fail
       go_meet
       case rel=>exact⟨true,v,k_1,k_2,k_3,k_4,k_5,k_6,k_7,k_8,k_9,k_a,k_b,k_c,rfl,HB26.out,In.keep (aa (HBRZ.out.trans (HBW.out.mono HBRZ.out.size))) _ _ HXV.out,HWV.out,by rw[HSS.out];decide,HBW.out⟩
      |true=>
       go_wp2_with fail
       go_meet
       case rel=>exact⟨false,v,k_1,k_2,k_3,k_4,k_5,k_6,k_7,k_8,k_9,k_a,k_b,k_c,rfl,HB26.out,In.keep (aa (HBRZ.out.trans (HBW.out.mono HBRZ.out.size))) _ _ HXV.out,HWV.out,by rw[HSS.out];decide,HBW.out⟩
    .have hat:=HAT.out [Vd.b9,Vd.eM] (by rw[hw];decide);have e0:(tx==[47,112,114,111,112,101,114,116,105,101,115,47,97,108,108])=false:=by rw[hw];decide
     have e1:(tx==[47,112,114,111,112,101,114,116,105,101,115,47,97,110,121])=false:=by rw[hw];decide
     have e2:(tx==[47,112,114,111,112,101,114,116,105,101,115,47,111,110,101])=false:=by rw[hw];decide
     have e3:(tx==[47,112,114,111,112,101,114,116,105,101,115,47,110,111,116])=true:=by rw[hw];decide
     clear hw;have hsd:=HSD.out.1.not_ i N v HWV.out.1.1 HNI.out hat;rw[HL1.out] at hsd;rw[HONE.out] at hsd;have HSS:=Jf hsd;clear hsd hat;cases one with
     |false=>
      go_wp2_with fail
      go_meet
      case rel=>exact⟨true,v,k_1,k_2,k_3,k_4,k_5,k_6,k_7,k_8,k_9,k_a,k_b,k_c,rfl,HB26.out,In.keep (aa (HBRZ.out.trans (HBW.out.mono HBRZ.out.size))) _ _ HXV.out,HWV.out,by rw[HSS.out];decide,HBW.out⟩
     |true=>
      go_wp2_with fail
      go_meet
      case rel=>exact⟨false,v,k_1,k_2,k_3,k_4,k_5,k_6,k_7,k_8,k_9,k_a,k_b,k_c,rfl,HB26.out,In.keep (aa (HBRZ.out.trans (HBW.out.mono HBRZ.out.size))) _ _ HXV.out,HWV.out,by rw[HSS.out];decide,HBW.out⟩
    .have hat:=HAT.out [Vd.b9,Vd.aR] (by rw[hw];decide);have e0:(tx==[47,112,114,111,112,101,114,116,105,101,115,47,97,108,108])=false:=by rw[hw];decide
     have e1:(tx==[47,112,114,111,112,101,114,116,105,101,115,47,97,110,121])=false:=by rw[hw];decide
     have e2:(tx==[47,112,114,111,112,101,114,116,105,101,115,47,111,110,101])=false:=by rw[hw];decide
     have e3:(tx==[47,112,114,111,112,101,114,116,105,101,115,47,110,111,116])=false:=by rw[hw];decide
     have e4:(tx==[47,112,114,111,112,101,114,116,105,101,115,47,105,116,101,109,115])=true:=by rw[hw];decide
     clear hw;have hsd:=HSD.out.1.items_ i N [v,x] HWQ.out.1.1 HNI.out hat;simp only[JB,Ky,Lk,forall_eq_or_imp,forall_eq] at hsd;rw[HL1.out] at hsd;rw[HL3.out] at hsd;rw[HONE.out] at hsd;rw[HOTH.out] at hsd;have HSS:=Jf hsd;clear hsd hat;cases one with
     |false=>
      cases other with
      |false=>
       obtain⟨b0,b1,b2,b3,b4,b5,b6,b7⟩:=HBQs.out.eight;have bl:=HBQs.out.lt;obtain⟨d0,d1,d2,d3,d4,d5,d6,d7⟩:=HB26.out.eight;have dl:=HB26.out.lt;have fz0:=HB26.out.frozen 0;have fz1:=HB26.out.frozen 1;have fz2:=HB26.out.frozen 2;have fz3:=HB26.out.frozen 3;have fz4:=HB26.out.frozen 4;have fz5:=HB26.out.frozen 5;have fz6:=HB26.out.frozen 6;have fz7:=HB26.out.frozen 7;have hS8:∃wt,wt=bg ws g26 (.int .i64 4) (.bool false) (.bool false) (.string ⟨#[]⟩) (.int .i64 0) (.string ⟨#[]⟩) (.slice (some ⟨gL,0,none⟩) 2 2) (.slice none 0 0)/\Blk wt g26 31 #[.int .i64 4,false,false,.string ⟨#[]⟩,.int .i64 0,.string ⟨#[]⟩,.slice (some ⟨gL,0,none⟩) 2 2,.slice none 0 0]/\Below wr2.heap.size wr2 wt:=⟨_,rfl,HB26.out.bg _ _ _ _ _ _ _ _,fI HBW.out (by rw[HG6.out];exact Jh _) _ _ _ _ _ _ _ _⟩;obtain⟨wt,hwt,hbk,hbw⟩:=hS8;have HBK:=Jf hbk;have HBT8:=Jf hbw;have HWT:=Jf hwt;clear hbk hbw hwt;go_wp2_with fail;rw[show((((((((ws.setCell ⟨g26,0,none⟩ (.int .i64 4)).setCell ⟨g26,1,none⟩ (.bool false)).setCell ⟨g26,2,none⟩ (.bool false)).setCell ⟨g26,3,none⟩ (.string ⟨#[]⟩)).setCell ⟨g26,4,none⟩ (.int .i64 0)).setCell ⟨g26,5,none⟩ (.string ⟨#[]⟩)).setCell ⟨g26,6,none⟩ (.slice (some ⟨gL,0,none⟩) 2 2)).setCell ⟨g26,7,none⟩ (.slice none 0 0))=wt from HWT.out.symm]
       go_meet
       case rel=>
        exact⟨false,Vd.arr [v,x],4,false,false,[],0,[],some ⟨gL,0,none⟩,2,2,none,0,0,rfl,HBK.out,In.keep (aa (HBR.out.trans (HBT8.out.mono HBR.out.size))) _ _ HXQ.out,HWQ.out,by rw[HSS.out];decide,HBT8.out⟩
      |true=>
       obtain⟨b0,b1,b2,b3,b4,b5,b6,b7⟩:=HBQs.out.eight;have bl:=HBQs.out.lt;obtain⟨d0,d1,d2,d3,d4,d5,d6,d7⟩:=HB26.out.eight;have dl:=HB26.out.lt;have fz0:=HB26.out.frozen 0;have fz1:=HB26.out.frozen 1;have fz2:=HB26.out.frozen 2;have fz3:=HB26.out.frozen 3;have fz4:=HB26.out.frozen 4;have fz5:=HB26.out.frozen 5;have fz6:=HB26.out.frozen 6;have fz7:=HB26.out.frozen 7;have hS8:∃wt,wt=bg ws g26 (.int .i64 4) (.bool false) (.bool false) (.string ⟨#[]⟩) (.int .i64 0) (.string ⟨#[]⟩) (.slice (some ⟨gL,0,none⟩) 2 2) (.slice none 0 0)/\Blk wt g26 31 #[.int .i64 4,false,false,.string ⟨#[]⟩,.int .i64 0,.string ⟨#[]⟩,.slice (some ⟨gL,0,none⟩) 2 2,.slice none 0 0]/\Below wr2.heap.size wr2 wt:=⟨_,rfl,HB26.out.bg _ _ _ _ _ _ _ _,fI HBW.out (by rw[HG6.out];exact Jh _) _ _ _ _ _ _ _ _⟩;obtain⟨wt,hwt,hbk,hbw⟩:=hS8;have HBK:=Jf hbk;have HBT8:=Jf hbw;have HWT:=Jf hwt;clear hbk hbw hwt;go_wp2_with fail;rw[show((((((((ws.setCell ⟨g26,0,none⟩ (.int .i64 4)).setCell ⟨g26,1,none⟩ (.bool false)).setCell ⟨g26,2,none⟩ (.bool false)).setCell ⟨g26,3,none⟩ (.string ⟨#[]⟩)).setCell ⟨g26,4,none⟩ (.int .i64 0)).setCell ⟨g26,5,none⟩ (.string ⟨#[]⟩)).setCell ⟨g26,6,none⟩ (.slice (some ⟨gL,0,none⟩) 2 2)).setCell ⟨g26,7,none⟩ (.slice none 0 0))=wt from HWT.out.symm]
       go_meet
       case rel=>
        exact⟨false,Vd.arr [v,x],4,false,false,[],0,[],some ⟨gL,0,none⟩,2,2,none,0,0,rfl,HBK.out,In.keep (aa (HBR.out.trans (HBT8.out.mono HBR.out.size))) _ _ HXQ.out,HWQ.out,by rw[HSS.out];decide,HBT8.out⟩
     |true=>
      cases other with
      |false=>
       obtain⟨b0,b1,b2,b3,b4,b5,b6,b7⟩:=HBQs.out.eight;have bl:=HBQs.out.lt;obtain⟨d0,d1,d2,d3,d4,d5,d6,d7⟩:=HB26.out.eight;have dl:=HB26.out.lt;have fz0:=HB26.out.frozen 0;have fz1:=HB26.out.frozen 1;have fz2:=HB26.out.frozen 2;have fz3:=HB26.out.frozen 3;have fz4:=HB26.out.frozen 4;have fz5:=HB26.out.frozen 5;have fz6:=HB26.out.frozen 6;have fz7:=HB26.out.frozen 7;have hS8:∃wt,wt=bg ws g26 (.int .i64 4) (.bool false) (.bool false) (.string ⟨#[]⟩) (.int .i64 0) (.string ⟨#[]⟩) (.slice (some ⟨gL,0,none⟩) 2 2) (.slice none 0 0)/\Blk wt g26 31 #[.int .i64 4,false,false,.string ⟨#[]⟩,.int .i64 0,.string ⟨#[]⟩,.slice (some ⟨gL,0,none⟩) 2 2,.slice none 0 0]/\Below wr2.heap.size wr2 wt:=⟨_,rfl,HB26.out.bg _ _ _ _ _ _ _ _,fI HBW.out (by rw[HG6.out];exact Jh _) _ _ _ _ _ _ _ _⟩;obtain⟨wt,hwt,hbk,hbw⟩:=hS8;have HBK:=Jf hbk;have HBT8:=Jf hbw;have HWT:=Jf hwt;clear hbk hbw hwt;go_wp2_with fail;rw[show((((((((ws.setCell ⟨g26,0,none⟩ (.int .i64 4)).setCell ⟨g26,1,none⟩ (.bool false)).setCell ⟨g26,2,none⟩ (.bool false)).setCell ⟨g26,3,none⟩ (.string ⟨#[]⟩)).setCell ⟨g26,4,none⟩ (.int .i64 0)).setCell ⟨g26,5,none⟩ (.string ⟨#[]⟩)).setCell ⟨g26,6,none⟩ (.slice (some ⟨gL,0,none⟩) 2 2)).setCell ⟨g26,7,none⟩ (.slice none 0 0))=wt from HWT.out.symm]
       go_meet
       case rel=>
        exact⟨false,Vd.arr [v,x],4,false,false,[],0,[],some ⟨gL,0,none⟩,2,2,none,0,0,rfl,HBK.out,In.keep (aa (HBR.out.trans (HBT8.out.mono HBR.out.size))) _ _ HXQ.out,HWQ.out,by rw[HSS.out];decide,HBT8.out⟩
      |true=>
       obtain⟨b0,b1,b2,b3,b4,b5,b6,b7⟩:=HBQs.out.eight;have bl:=HBQs.out.lt;obtain⟨d0,d1,d2,d3,d4,d5,d6,d7⟩:=HB26.out.eight;have dl:=HB26.out.lt;have fz0:=HB26.out.frozen 0;have fz1:=HB26.out.frozen 1;have fz2:=HB26.out.frozen 2;have fz3:=HB26.out.frozen 3;have fz4:=HB26.out.frozen 4;have fz5:=HB26.out.frozen 5;have fz6:=HB26.out.frozen 6;have fz7:=HB26.out.frozen 7;have hS8:∃wt,wt=bg ws g26 (.int .i64 4) (.bool false) (.bool false) (.string ⟨#[]⟩) (.int .i64 0) (.string ⟨#[]⟩) (.slice (some ⟨gL,0,none⟩) 2 2) (.slice none 0 0)/\Blk wt g26 31 #[.int .i64 4,false,false,.string ⟨#[]⟩,.int .i64 0,.string ⟨#[]⟩,.slice (some ⟨gL,0,none⟩) 2 2,.slice none 0 0]/\Below wr2.heap.size wr2 wt:=⟨_,rfl,HB26.out.bg _ _ _ _ _ _ _ _,fI HBW.out (by rw[HG6.out];exact Jh _) _ _ _ _ _ _ _ _⟩;obtain⟨wt,hwt,hbk,hbw⟩:=hS8;have HBK:=Jf hbk;have HBT8:=Jf hbw;have HWT:=Jf hwt;clear hbk hbw hwt;go_wp2_with fail;rw[show((((((((ws.setCell ⟨g26,0,none⟩ (.int .i64 4)).setCell ⟨g26,1,none⟩ (.bool false)).setCell ⟨g26,2,none⟩ (.bool false)).setCell ⟨g26,3,none⟩ (.string ⟨#[]⟩)).setCell ⟨g26,4,none⟩ (.int .i64 0)).setCell ⟨g26,5,none⟩ (.string ⟨#[]⟩)).setCell ⟨g26,6,none⟩ (.slice (some ⟨gL,0,none⟩) 2 2)).setCell ⟨g26,7,none⟩ (.slice none 0 0))=wt from HWT.out.symm]
       go_meet
       case rel=>
        exact⟨true,Vd.arr [v,x],4,false,false,[],0,[],some ⟨gL,0,none⟩,2,2,none,0,0,rfl,HBK.out,In.keep (aa (HBR.out.trans (HBT8.out.mono HBR.out.size))) _ _ HXQ.out,HWQ.out,by rw[HSS.out];decide,HBT8.out⟩
   case rest=>
    obtain⟨want,y,z_1,z_2,z_3,z_4,z_5,z_6,z_7,z_8,z_9,z_a,z_b,z_c,rfl,hbk,hin,hwy,hiff,hbw⟩:=hcut;obtain⟨wk,hwk⟩:∃W,W=wc:=⟨_,rfl⟩;subst hwk;have HBK:=Jf hbk;have HIN:=Jf hin;have HWY:=Jf hwy;have HBW2:=Jf (HBR.out.trans (hbw.mono HBR.out.size));have HBWZ:=Jf (HBZ.out.trans (HBW2.out.mono HBZ.out.size));clear hbk hin hwy hbw HBW HBVs HBQs HB26 HG26 HLT26 HG6 HWAY HTX;have HV4:=Jf (HV0.out L3 i (some ⟨g3,o3,none⟩) cp3 y _ wk (HG.out _ HBWZ.out) (HS3.out.keep (aa HBWZ.out)) hl3 hm3 (by obtain⟨_,_,h⟩:=HN3.out;exact h.nds) hlt HWY.out HIN.out);obtain⟨l4,hl4⟩:∃l,Vd.valid L3 i y=l:=⟨_,rfl⟩;rw[hl4] at HV4 hiff;have HL4:=Jf hl4;have hwl:((l4.length:Int)==0)=want:=by
     have h1:((l4.length:Int)==0)=true↔want=true:=by rw[<-hiff,Ln,<-List.length_eq_zero_iff];omega
     cases want
     .rw[LM];intro h;exact absurd (h1.1 h) (by decide)
     .exact h1.2 rfl
    have hww:(want !=want)=false:=by cases want<;>rfl
    clear hiff hl4;obtain⟨b0,b1,b2,b3,b4,b5,b6,b7⟩:=HBK.out.eight;have bl:=HBK.out.lt;go_wp2_with fail;refine HV4.out.mono ?_;rintro e20 wm ⟨A20,c20,rfl,hf20,hb20⟩;have HF20:=Jf hf20;have HBM:=Jf (HBW2.out.trans (hb20.mono HBW2.out.size));have HBKm:=Jf (HBK.out.on hb20);have HINm:=Jf (In.keep (aa hb20) _ _ HIN.out);have hc20:=hf20.le;have hc21:=hf20.max;unfold maxLen at hc21;clear hf20 hb20 HV4 HBK HIN b0 b1 b2 b3 b4 b5 b6 b7 bl;go_wp2_with fail;clear hwl hww
    go_loopw [28] (λv28 wr=>∃j:Nat,v28=.int .i64 j/\j<=l4.length/\Below wm.heap.size wm wr) (λv28 _=>l4.length-(intOf v28).toNat)
    case atStart=>exact⟨0,rfl,JE _,Ji _ _⟩
    case round=>
     obtain⟨j,rfl,hj,hbj⟩:=hrel;obtain⟨wj,hwj⟩:∃W,W=wr:=⟨_,rfl⟩;subst hwj;have HBJ:=Jf hbj;clear hbj;by_cases hjl:j<l4.length
     .have hjj:(j:Int)<(l4.length:Int):=by omega
      have hmj:(j:Int)+1<=9223372036854775807:=by omega
      obtain⟨f,hf⟩:∃f,l4[j]'hjl=f:=⟨_,rfl⟩;obtain⟨g5,o5,rfl,c0,_,_⟩:=(HF20.out.on HBJ.out).sl j f (by rw[Jg hjl,hf]);obtain⟨ns,xq,h1,h2,h3,h4,h5,h6⟩:=Bl (L:=L3) (i:=i) HWY.out.1 (show f∈Vd.valid L3 i y by rw[HL4.out,<-hf];exact Jv hjl);rw[h1] at c0;have HGX:=Jf h2;have HNL:=Jf h4;have HPT:=Jf (ou ns wj h3 (by omega));have hgl:=Jn _ _ c0;clear h1 h2 h3 h4 h5 h6 hf;go_wp2_with fail;refine HPT.out.mono ?_;intro e4 w4x h4;obtain⟨ms,A5,cp5,cc,u,rfl,hst5,hl5,hm5,hgu,hu5,hsm5,hb4⟩:∃(ms:Cm.Names) (A5:Option Addr) (cp5:Nat) (cc:Int) (u:Vl),e4=.returned (.tuple #[.slice A5 ms.length cp5,.int .i64 cc])/\Strs w4x.cell? A5 ms/\ms.length<=cp5/\cp5<=maxLen/\get y ms=some u/\(((text ns).length<=500/\cc=1)\/¬(text ns).length<=500)/\(∀n∈ms,n.length<=1000000)/\Below wj.heap.size wj w4x:=by
       obtain⟨hb4,A5,cp5,⟨q1,q2,q3,q4,q5⟩|⟨q1,q2⟩⟩:=h4
       .exact⟨ns,A5,cp5,1,_,q2,q3,q4,q5,HGX.out,.inl ⟨q1,rfl⟩,HNL.out,hb4⟩
       .exact⟨[],none,0,0,y,q2,λi n h=>by simp at h,Jh _,by unfold maxLen;omega,rfl,.inr q1,(λn hn=>by cases hn),hb4⟩
      have HU5:=Jf hu5;have HB4x:=Jf (HBJ.out.trans (hb4.mono HBJ.out.size));have HGT:=Jf (mF ms wm.cell? y _ A5 cp5 w4x (aa HB4x.out) HINm.out hst5 hl5 hm5 hsm5 HWY.out.1.2.1);rw[hgu] at HGT;replace c0:=aa hb4 _ _ c0;have HC0:=Jf c0;clear h4 hst5 hl5 hm5 hgu hu5 hsm5 hb4 HPT c0 hgl HGX HNL;obtain⟨b0,b1,b2,b3,b4,b5,b6,b7⟩:=(HBKm.out.on HB4x.out).eight;have bl:=(HBKm.out.on HB4x.out).lt;go_wp2_with fail;refine HGT.out.mono ?_;rintro e5 w5x ⟨hb5,⟨u',y5,hu',rfl,hy5⟩|⟨hn,_⟩⟩
      rotate_left
      .cases hn
      obtain⟨uk,ub,un,us,ul,um⟩:=u';obtain⟨B6,e6,C6,d6,rfl,_,_,_,_,_,_⟩:=In.form hy5;have hb6:=(Ji w5x.heap.size w5x).alloc (Jh _) (.cells #[.int .i64 uk,ub,un.neg,un.digits,.int .i64 un.exp,us,.slice B6 ul.length e6,.slice C6 um.length d6] 31);have HB6x:=Jf ((HB4x.out.trans (hb5.mono HB4x.out.size)).trans (hb6.mono (JA HB4x.out.size hb5.size)));have c0:=aa hb6 _ _ (aa hb5 _ _ HC0.out);have hgl:=Jn _ _ c0;clear hb5 hb6 hy5 HGT hu' HC0 b0 b1 b2 b3 b4 b5 b6 b7 bl;go_upto_region 38 with(fail);generalize w5x.alloc (.cells #[.int .i64 uk,ub,un.neg,un.digits,.int .i64 un.exp,us,.slice B6 ul.length e6,.slice C6 um.length d6] 31)=w6x at*
      generalize w5x.heap.size=g6x at*
      generalize text ns=tn at*
      rcases HU5.out with⟨h500,rfl⟩|h500
      .have i500:(tn.length:Int)<=500:=by omega
       go_wp2_with fail;go_roundw;case rel=>exact⟨j+1,by go_num,by omega,HB6x.out⟩
       case measure=>simp[intOf];omega
      .have i500:¬(tn.length:Int)<=500:=by omega
       go_wp2_with fail;go_roundw;case rel=>exact⟨j+1,by go_num,by omega,HB6x.out⟩
       case measure=>simp[intOf];omega
     .obtain rfl:j=l4.length:=by omega
      go_wp2_with fail;go_roundw;case rel=>exact⟨i+1,by go_num,by omega,HBM.out.trans (HBJ.out.mono HBM.out.size)⟩
      case measure=>simp[intOf];omega
  .obtain rfl:i=L3.length:=by omega
   obtain⟨N1,hN1,hnd1⟩:=HSD.out.2.2.2.2.2.2;obtain⟨g1,o1,cs,rfl,⟨A4,c4,rfl,hk4,hl4,hm4⟩,hcN⟩:=(HS1.out.keep (aa HBRZ.out)) 0 _ hN1;simp only[Lp,Kx] at hcN;have HD:=Jf (λ(W:World) (h:Below wr2.heap.size wr2 W)=>(show W.cell? ⟨g1,o1,none⟩=some (.string ⟨(text N1.at_).toArray⟩)/\W.cell? ⟨g1,o1+1,none⟩=some (.bool N1.all)/\W.cell? ⟨g1,o1+2,none⟩=some (.bool N1.pass)/\W.cell? ⟨g1,o1+3,none⟩=some (.slice A4 N1.keys.length c4) from⟨(aa h) _ _ (hcN 0 _ rfl),(aa h) _ _ (hcN 1 _ rfl),(aa h) _ _ (hcN 2 _ rfl),(aa h) _ _ (hcN 3 _ rfl)⟩));have HWN:=Jf (show N1.keys.length<=1000000/\(∀K∈N1.keys,iZ K.v)/\(N1.all=true->N1.keys=[]) from by obtain⟨_,_,h⟩:=HN1.out;exact Cm.rS h N1 (Jz hN1));have HOWN:=Jf (λ(W:World) (h:Below wr2.heap.size wr2 W)=>HO0.out N1.at_ (text N1.at_) N1.all N1.pass N1.keys A4 c4 v _ W (HG.out _ (HBRZ.out.trans (h.mono HBRZ.out.size))) (hk4.keep (aa h)) hl4 hm4 HWN.out.1 HWN.out.2.1 HWV.out.1 (In.keep (aa (HBRZ.out.trans (h.mono HBRZ.out.size))) _ _ HXV.out) HWN.out.2.2);have HVAL:=Jf (λ(W:World) (h:Below wr2.heap.size wr2 W)=>HVA.out L1 (some ⟨g1,o1,none⟩) cp1 W v _ (HG.out _ (HBRZ.out.trans (h.mono HBRZ.out.size))) (HS1.out.keep (aa (HBRZ.out.trans (h.mono HBRZ.out.size)))) hl1 hm1 ⟨s,HN1.out⟩ HSD.out.2.2.2.2.1 HWV.out (In.keep (aa (HBRZ.out.trans (h.mono HBRZ.out.size))) _ _ HXV.out));have hole:=Vd.ai (v:=v) HSD.out.2.1 HWV.out.1.1 hN1 hnd1;obtain⟨m1,hm1e⟩:∃n,(Ow.own N1 v).length=n:=⟨_,rfl⟩;obtain⟨m2,hm2e⟩:∃n,(Vd.valid L1 0 v).length=n:=⟨_,rfl⟩;have HM1:=Jf hm1e;have HM2:=Jf hm2e;rw[hm1e,hm2e] at hole;have HPOS:=Jf HSD.out.2.2.2.2.1;have hpos:(0:Int)<(L1.length:Int):=by have:=HPOS.out;omega
   have hpos2:0<L1.length:=HPOS.out;have HFIN:=Jf (HB6.out.trans (HBRZ.out.mono HB6.out.size));clear hcN hk4 hl4 hm4 hN1 hnd1 hm1e hm2e;obtain⟨n1,hn1⟩:∃r,text N1.at_=r:=⟨_,rfl⟩;rw[hn1] at HD HOWN;have hN1e:(⟨N1.at_,N1.all,N1.pass,N1.keys⟩:Cm.Node)=N1:=rfl;rw[hN1e] at HOWN;clear hn1 hN1e;go_upto_region 40 with(fail);refine JT (S:=λW9=>Below wr2.heap.size wr2 W9) (by kernel_rfl) (show Below wr2.heap.size wr2 wr2.drew from below_drewN (Ji _ _) 1) (λht=>?_);generalize wr2.drew=wd at*
   refine af 0 (.bool true) ht ?_ ?_
   .intro W9 hSw;go_simp
   try simp only[ab]
   refine af 1 (.bool true) ht ?_ ?_
   .intro W9 hSw;go_simp
   try simp only[ab]
   refine af 2 (.slice (some ⟨g1,o1,none⟩) L1.length cp1) ht ?_ ?_
   .intro W9 hSw;go_simp
   try simp only[ab]
   refine af 3 (.pointer (some ⟨g1,o1,none⟩)) ht ?_ ?_
   .intro W9 hSw;go_simp
   try simp only[ab]
   refine af 4 (.agg #[n1,N1.all,N1.pass,.slice A4 N1.keys.length c4]) ht ?_ ?_
   .intro W9 hSw;obtain⟨d0,d1,d2,d3⟩:=HD.out W9 hSw;have dl:=Jn _ _ d0;go_simp
   try simp only[ab]
   refine af 5 (.agg #[.int .i64 k_1,k_2,k_3,k_4,.int .i64 k_5,k_6,.slice k_7 k_8 k_9,.slice k_a k_b k_c]) ht ?_ ?_
   .intro W9 hSw;obtain⟨b0,b1,b2,b3,b4,b5,b6,b7⟩:=(HBV.out.on (HBRZ.out.trans (hSw.mono HBRZ.out.size))).eight;have bl:=(HBV.out.on (HBRZ.out.trans (hSw.mono HBRZ.out.size))).lt;go_simp
   try simp only[ab]
   refine af 8 (.slice (some ⟨g1,o1,none⟩) L1.length cp1) ht ?_ ?_
   .intro W9 hSw;go_simp
   try simp only[ab]
   refine af 9 (.agg #[.int .i64 k_1,k_2,k_3,k_4,.int .i64 k_5,k_6,.slice k_7 k_8 k_9,.slice k_a k_b k_c]) ht ?_ ?_
   .intro W9 hSw;obtain⟨b0,b1,b2,b3,b4,b5,b6,b7⟩:=(HBV.out.on (HBRZ.out.trans (hSw.mono HBRZ.out.size))).eight;have bl:=(HBV.out.on (HBRZ.out.trans (hSw.mono HBRZ.out.size))).lt;go_simp
   try simp only[ab]
   refine bz 6 λK hK=>?_;go_simp;refine(HOWN.out _ ht).mono ?_;rintro e30 w30 ⟨A30,c30,rfl,_,_,_,hb30⟩;rw[HM1.out];have hs30:=ht.trans (hb30.mono ht.size);clear ht hb30;go_wp2_with fail;refine hK.out _ _ hs30 (λht=>?_);clear hK K hs30;try simp only[ab]
   refine af 7 (.int .i64 (m1:Int)) ht ?_ ?_
   .intro W9 hSw;go_simp
   try simp only[ab]
   refine bz 10 λK hK=>?_;go_simp;refine(HVAL.out _ ht).mono ?_;rintro e31 w31 ⟨A31,c31,rfl,_,hb31⟩;rw[HM2.out];have hs31:=ht.trans (hb31.mono ht.size);clear ht hb31;go_wp2_with fail;refine hK.out _ _ hs31 (λht=>?_);clear hK K hs31;try simp only[ab]
   refine af 11 (.int .i64 (m2:Int)) ht ?_ ?_
   .intro W9 hSw;go_simp
   try simp only[ab]
   refine af 12 (.bool true) ht ?_ ?_
   .intro W9 hSw;go_simp
   try simp only[ab]
   refine af 13 (.bool true) ht ?_ ?_
   .intro W9 hSw;go_simp
   try simp only[ab]
   refine af 14 (.bool true) ht ?_ ?_
   .intro W9 hSw;go_simp
   try simp only[ab]
   refine Ke (by kernel_rfl) ?_ _;have HE:=Jf (HFIN.out.trans (ht.mono HFIN.out.size));clear ht;go_wp2_with fail;go_ret;exact⟨rfl,HE.out⟩
end
