import Derived.Test.YtdhgmaonolgpnaaGreatDoorIp
set_option linter.unusedSimpArgs false
set_option linter.unusedVariables false
set_option maxHeartbeats 8000000
set_option maxRecDepth 100000
namespace Go.Proofs.YtdhgmaonolgpnaaGreatDoor
section
open Go.RowKit Js Pt
def Et(w:World)(l:List Jd)(e:Ending)(w':World):Prop:=
 ∃(A:Option Addr) (c:Nat),e=.returned (.slice A l.length c)/\w'.ownsRow w.heap.size 9 1 (.slice A l.length c) l.length (aB l)/\Below w.heap.size w w'
theorem kA(l:List Jd):(aB l).length=l.length*1:=by simp[aB]
theorem kz(a b:List Jd):aB (a++b)=aB a++aB b:=by simp[aB]
structure iJ (w:World) (A:Option Addr) (l:List Jd) (c:Nat):Prop where
 strs:Strs w.cell? A l
 le:l.length<=c
 max:c<=maxLen
 nil:A=none->c=0
theorem aG.texts{w:World}{B:Nat}{A:Option Addr}{c:Nat}{l:List Jd}(h:aG w B A c l):iJ w A l c:=⟨h.strs,h.le.1,h.le.2.1,λe=>((ai h).2.2.1 e).2⟩
theorem iJ.on{w w':World}{A:Option Addr}{l:List Jd}{c:Nat}(h:iJ w A l c)(hb:Below w.heap.size w w'):iJ w' A l c:=⟨h.strs.keep (aa hb),h.le,h.max,h.nil⟩
theorem iJ.src{w:World}{A:Option Addr}{l:List Jd}{c:Nat}(h:iJ w A l c):Src w A l.length c (aB l):=by
 cases hA:A with
 |none=>
  have h0:=h.nil hA;have h1:=h.le;have:l=[]:=K6 (by omega);subst this;exact .inl ⟨rfl,rfl,h0,rfl⟩
 |some ad=>
  refine .inr ⟨ad,rfl,λj u hu=>?_⟩;have hj:j<l.length:=by have:=(Jm.1 hu).1;rw[kA] at this;omega
  obtain⟨g,o,e1,e2⟩:=h.strs j _ (Jg hj);rw[hA] at e1;injection e1 with e1;subst e1;rw[BC];unfold aB at hu;rw[JZ,Jg hj] at hu;injection hu with hu;rw[<-hu];exact e2
theorem CU(N:Nat)(w:World)(hN:N<=10000000):Calls Tryz.prog 90 #[.slice none 0 0,.int .i64 (N:Int)] w (Et w []):=by
 by_cases h0:N=0
 .subst h0;go_enter Tryz.func90,Tryz.ntmps90
  go_wp2
  go_ret;exact⟨none,0,rfl,KT _ _ _ _,Ji _ _⟩
 .have h1:¬((N:Int)<0):=by omega
  have h4:(N:Int)>0:=by omega
  obtain⟨i0,hi0,hz0,hz1,hz2⟩:=jC;have hr:=Lib.run_append_nil_zeros (P:=Tryz.prog) w 40 3 40 9 i0 _ .i64 .i64 Tryz.underlying40 Tryz.underlying3 hi0 hz0 N (by omega) (by rw[hz1];decide) (by omega) (by rw[hz2];omega);have hge:=grownCap_ge w N 0 9;have hle:=grownCap_le_maxLen w N 0 9 (by unfold maxLen;omega);generalize grownCap w N 0 9=Q at*
  have HG:=Jf hge;have HL:=Jf hle;have hg63:Q<=9223372036854775807:=by unfold maxLen at hle;omega
  clear hge hle;go_enter Tryz.func90,Tryz.ntmps90;go_wp2_with (at_builtin;refine Lib.wpList_append_run _ rfl _ _ _ _ rfl _ _ rfl rfl _ _ hr ?_);go_ret;refine⟨_,Q,rfl,⟨by simp[aB],.inr ⟨w.heap.size,Q,_,rfl,Jh _,Lc w.drew _,JE _,HL.out,?_,by simp[aB]⟩⟩,(Ji _ _).drew.alloc (Jh _) _⟩;have hz:(Value.string ⟨#[]⟩).cells.size=1:=rfl;simp only[Array.size_append,size_zeroCells,hz,<-Nat.add_mul]
  congr 1
  have:=HG.out;omega
def CatS(w:World)(a b:List Jd)(v6 v27:Value)(wr:World):Prop:=
 ∃(j:Nat) (A:Option Addr) (N c:Nat) (acc:List Jd),v27=.int .i64 j/\v6=.slice A N c/\wr.ownsRow w.heap.size 9 1 (.slice A N c) N (aB acc)/\Below w.heap.size w wr/\
  ((j=0/\0=N/\[]=acc)\/(j=1/\a.length=N/\a=acc)\/(j=2/\a.length+b.length=N/\a++b=acc))
theorem wY{w:World}{g:Nat}{a b:List Jd}{A1 A2:Option Addr}{c1 c2:Nat}(hb:Blk w g 40 #[.slice A1 a.length c1,.slice A2 b.length c2])(ha:iJ w A1 a c1)(hb2:iJ w A2 b c2)(h1:a.length<=3000000)(h2:b.length<=3000000):
  Calls Tryz.prog 61 #[.slice (some ⟨g,0,none⟩) 2 2] w (Et w (a++b)):=by
 obtain⟨b0,b1⟩:w.cell? ⟨g,0,none⟩=some (.slice A1 a.length c1)/\w.cell? ⟨g,1,none⟩=some (.slice A2 b.length c2):=⟨hb.cell 0,hb.cell 1⟩;have hgl:=hb.lt;have HFA:=Jf ha;have HFB:=Jf hb2;have HAB:=Jf (show(a++b).length=a.length+b.length from Jk);unfold Et;clear hb ha hb2;go_enter Tryz.func61,Tryz.ntmps61;go_wp2_with fail
 go_loopw [3,11] (λv3 v11 wr=>((v11=.int .i64 0/\v3=.int .i64 0)\/(v11=.int .i64 1/\v3=.int .i64 a.length)\/(v11=.int .i64 2/\v3=.int .i64 (a.length+b.length:Nat)))/\w=wr) (λ_ v11 _=>2-(intOf v11).toNat)
 case atStart=>exact⟨.inl ⟨rfl,rfl⟩,by first|rfl|trivial⟩
 case round=>
  obtain⟨hs,rfl⟩:=hrel;rcases hs with⟨rfl,rfl⟩|⟨rfl,rfl⟩|⟨rfl,rfl⟩
  .go_wp2_with fail;go_roundw;case rel=>exact⟨.inr (.inl ⟨rfl,by simp⟩),by first|rfl|trivial⟩
   case measure=>simp[intOf]
  .have hn:¬((a.length:Int)+(b.length:Int)<0):=by omega
   go_wp2_with fail;go_roundw;case rel=>exact⟨.inr (.inr ⟨rfl,by go_num⟩),by first|rfl|trivial⟩
   case measure=>simp[intOf]
  .have HG:=Jf (CU (a.length+b.length) w (by omega));go_wp2_with fail;refine HG.out.mono ?_;rintro e w1 ⟨A,c,rfl,hown,hb⟩;have HOWN:=Jf hown;have HB:=Jf hb;clear hown hb HG;rw[show([]:List Jd).length=0 from rfl] at HOWN ⊢;go_wp2_with fail
   go_loopw [6,27] (CatS w a b) (λ_ v27 _=>2-(intOf v27).toNat)
   case atStart=>exact⟨0,A,0,c,[],rfl,rfl,HOWN.out,HB.out,.inl ⟨rfl,rfl,rfl⟩⟩
   case round=>
    obtain⟨j,A,N,c,acc,rfl,rfl,hown,hb,hj⟩:=hrel;obtain⟨wz,hwz⟩:∃W,W=wr:=⟨_,rfl⟩;subst hwz;have HOWN:=Jf hown;have HB:=Jf hb;clear hown;obtain⟨i0,hi0,hz0,hz1,hz2⟩:=jC;have HNEW:=Jf (λk (hk:(Value.slice A N c).ownBlock=some k)=>(show w.heap.size<=k by have:=vH HOWN.out (k:=k);exact Nat.le_of_not_lt (λhlt=>this hlt hk.symm)));have e0:=(hb.cell (p:=⟨g,0,none⟩) hgl).trans b0;have e1:=(hb.cell (p:=⟨g,1,none⟩) hgl).trans b1;have hbs:=hb.size;clear hb;rcases hj with⟨rfl,rfl,rfl⟩|⟨rfl,rfl,rfl⟩|⟨rfl,rfl,rfl⟩
    .have HS:=Jf ((HFA.out.on HB.out).src);go_wp2_with (at_builtin;refine aP _ rfl _ _ _ rfl w.heap.size 9 i0 _ 1 16 Tryz.underlying40 hi0 hz0 hz1 hz2 rfl (by omega) (.slice A 0 c) 0 [] rfl HOWN.out A1 a.length c1 (aB a) rfl (kA _) HS.out (iB _) (by unfold maxLen;omega) (by omega) hbs a.length (by omega) ?_;intro A9 c9 wx hown9 hg9 hat9;have HOWN9:=Jf (show wx.ownsRow w.heap.size 9 1 (.slice A9 a.length c9) a.length (aB a) from hown9);have HB9:=Jf (HB.out.grown hg9 hbs HNEW.out);clear hown9 hg9 hat9);go_roundw;case rel=>exact⟨1,A9,_,c9,_,rfl,rfl,HOWN9.out,HB9.out,.inr (.inl ⟨rfl,rfl,rfl⟩)⟩
     case measure=>simp[intOf]
    .have HS:=Jf ((HFB.out.on HB.out).src);obtain⟨NN,hNN⟩:∃N,a.length+b.length=N:=⟨_,rfl⟩;have HNN:=Jf hNN;clear hNN;go_wp2_with (at_builtin;refine aP _ rfl _ _ _ rfl w.heap.size 9 i0 _ 1 16 Tryz.underlying40 hi0 hz0 hz1 hz2 rfl (by omega) (.slice A a.length c) a.length (aB a) rfl HOWN.out A2 b.length c2 (aB b) rfl (kA _) HS.out (iB _) (by unfold maxLen;omega) (by omega) hbs NN HNN.out ?_;intro A9 c9 wx hown9 hg9 hat9;have HOWN9:=Jf (show wx.ownsRow w.heap.size 9 1 (.slice A9 NN c9) NN (aB (a++b)) by rw[kz];exact hown9);have HB9:=Jf (HB.out.grown hg9 hbs HNEW.out);clear hown9 hg9 hat9);go_roundw;case rel=>exact⟨2,A9,_,c9,_,rfl,rfl,HOWN9.out,HB9.out,.inr (.inr ⟨rfl,HNN.out,rfl⟩)⟩
     case measure=>simp[intOf]
    .obtain⟨NN,hNN⟩:∃N,N=a.length+b.length:=⟨_,rfl⟩;rw[<-hNN] at HOWN ⊢;have HNN:=Jf hNN;clear hNN;go_wp2_with fail;go_ret;refine⟨A,c,by rw[HAB.out,HNN.out];rfl,by rw[HAB.out,<-HNN.out];exact HOWN.out,HB.out⟩
theorem Vd.yz{a:List Vd.Ask}{wr:List Bool}{j:Nat}{x:Vd.Ask}{b:Bool}(ha:a[j]? =some x)(hw:wr[j]? =some b)(i:Nat):Vd.dH (a.take (j+1)) (wr.take (j+1)) i=Vd.dH (a.take j) (wr.take j) i+if x.key=i/\b=false then 1 else 0:=by
 obtain⟨h1,rfl⟩:=Jm.1 ha;obtain⟨h2,rfl⟩:=Jm.1 hw;unfold Vd.dH;rw[Jr h1,Jr h2,List.zip_append (by rw[JL,JL];omega),List.countP_append]
 congr 1
 simp only[List.zip_cons_cons,List.zip_nil_right,L8,List.countP_nil,JI];by_cases h:(a[j]).key=i<;>cases wr[j]<;>simp[h]
theorem Vd.DI(a:List Vd.Ask)(wr:List Bool)(i:Nat):Vd.dH a wr i<=a.length:=by
 unfold Vd.dH;exact JA Mu (by rw[List.length_zip];omega)
def qp(t:List Bool):List Value:=t.map Value.bool
def Bu(W:World)(B:Nat)(A:Option Addr)(c:Nat)(t:List Bool):Prop:=W.ownsRow B 4 1 (.slice A t.length c) t.length (qp t)
theorem oj:∃i,Tryz.prog.info? 3=some i/\i.zero=some (.int .i64 0)/\i.size=1/\i.bytes=8:=by
 have h:(Tryz.prog.info? 3).map (λi=>(i.zero,i.size,i.bytes))=some (some (.int .i64 0),1,8):=by kernel_rfl
 cases hq:Tryz.prog.info? 3 with
 |none=>rw[hq] at h;cases h
 |some i=>
  rw[hq] at h;simp only[Kg,JM,Kl] at h;exact⟨i,rfl,h.1,h.2.1,h.2.2⟩
theorem zN(P:Cm.Names)(tx:Jd)(nall npass:Bool)(keys:List Cm.Key)(A2:Option Addr)(c2:Nat)(a:List Vd.Ask)(Ba:Nat)(Aa:Option Addr)(ca:Nat)(wl:List Bool)(Bw:Nat)(Aw:Option Addr)(cw:Nat)(w:World)(hk:gS w.cell? A2 keys)(h1:keys.length<=c2)(h2:c2<=maxLen)(h3:keys.length<=1000000)(ha:az w Ba Aa ca a)(hw:Bu w Bw Aw cw wl)(hl:wl.length=a.length)(hin:∀x∈a,x.key<keys.length)(hal:a.length<=1000000000000):
  Calls Tryz.prog 62 #[.agg #[.string ⟨tx.toArray⟩,.bool nall,.bool npass,.slice A2 keys.length c2],.slice Aa a.length ca,.slice Aw wl.length cw] w (Et w (Vd.bp ⟨P,nall,npass,keys⟩ a wl)):=by
 have HK:=Jf hk;have HA:=Jf ha;have HW:=Jf hw;have HIN:=Jf hin;have HAL:=Jf hal;have HL:=Jf hl;have HNX:=Jf (λ(k:Nat) (K:Cm.Key) (h:keys[k]? =some K)=>Vd.xo (N:=⟨P,nall,npass,keys⟩) (a:=a) (wr:=wl) h);have HFN:=Jf (show Vd.bp ⟨P,nall,npass,keys⟩ a wl=Vd.fy ⟨P,nall,npass,keys⟩ a wl keys.length from rfl);have HFL:=Jf (λk=>(show(Vd.fy ⟨P,nall,npass,keys⟩ a wl k).length<=keys.length from Vd.qH _ a wl k));have HF0:=Jf (show Vd.fy ⟨P,nall,npass,keys⟩ a wl 0=[] by simp[Vd.fy]);have HRN:=Jf (λ(j:Nat) (x:Vd.Ask) (b:Bool) (e1:a[j]? =some x) (e2:wl[j]? =some b) (i:Nat)=>Vd.yz e1 e2 i);have HRL:=Jf (λ(j i:Nat)=>(show Vd.dH (a.take j) (wl.take j) i<=a.length from JA (Vd.DI _ _ i) (by rw[JL];omega)));have HRR:=Jf (show∀i,Vd.dH (a.take 0) (wl.take 0) i=0 fromλi=>by simp[Vd.dH]);have HRE:=Jf (show∀i,Vd.dH (a.take a.length) (wl.take a.length) i=Vd.dH a wl i fromλi=>by rw[JC,<-hl,JC]);have hcm:=(ai ha).2.1;have hcl:=(ai ha).1;have hwm:=(ai hw).2.1;have hwl:=(ai hw).1;unfold maxLen at h2 hcm hwm;obtain⟨i0,hi0,hz0,hz1,hz2⟩:=oj;have hmk:∀W:World,(Instr.makeSlice 58 (.int .i64 (keys.length:Int)) (.int .i64 (keys.length:Int))).run Tryz.prog W=.ok (.slice (some ⟨W.heap.size,0,none⟩) keys.length keys.length) (W.alloc (.cells (madeCells #[.int .i64 0] keys.length) 3)):=λW=>by
  have:=Nw (P:=Tryz.prog) W 58 3 i0 (.int .i64 0) Tryz.underlying58 hi0 hz0 .i64 .i64 keys.length keys.length (by omega) (Mj _) (by rw[hz2];omega) (by omega);rw[hz1] at this;simp only[Ku,LZ] at this;exact this
 have hb0:=(Ji w.heap.size w).alloc (Jh _) (.cells #[tx,nall,npass,.slice A2 keys.length c2] 39);have HB0:=Jf hb0;have HX0:=Jf (Blk.new w 39 #[tx,nall,npass,.slice A2 keys.length c2]);generalize Vd.bp ⟨P,nall,npass,keys⟩ a wl=R at*
 generalize Vd.fy ⟨P,nall,npass,keys⟩ a wl=TT at*
 clear hk ha hw hin hal hl hb0;go_enter Tryz.func62,Tryz.ntmps62;go_upto_region 1 with(fail);generalize w.alloc (.cells #[tx,nall,npass,.slice A2 keys.length c2] 39)=w0 at*
 have hx3:=HX0.out.cell 3;have hxl:=HX0.out.lt;go_upto_region 2 with(fail);have HOW:=Jf (show(w0.alloc (.cells (madeCells #[.int .i64 0] keys.length) 3)).ownsRow w0.heap.size 3 1 (.slice (some ⟨w0.heap.size,0,none⟩) keys.length keys.length) keys.length (cT (List.replicate keys.length 0)) by
  have:=Kv w0 (base:=w0.heap.size) (e:=3) (size:=1) (madeCells #[.int .i64 0] keys.length) keys.length (Jh _) (by unfold maxLen;omega) (by rw[LU,LZ]);rw[MF] at this;unfold cT;rw[List.map_replicate];exact this)
 have HB1:=Jf ((Ji w0.heap.size w0).alloc (Jh _) (.cells (madeCells #[.int .i64 0] keys.length) 3));generalize w0.alloc (.cells (madeCells #[.int .i64 0] keys.length) 3)=w1 at*
 clear hmk hi0 hz0 hz1 hz2 hx3 hxl;go_wp2_with fail
 go_loopw [19] (λv19 wr2=>∃(j:Nat) (cnt:List Nat),v19=.int .i64 j/\j<=a.length/\cnt.length=keys.length/\(∀i,i<keys.length->cnt[i]? =some (Vd.dH (a.take j) (wl.take j) i))/\Below w0.heap.size w0 wr2/\wr2.ownsRow w0.heap.size 3 1 (.slice (some ⟨w0.heap.size,0,none⟩) keys.length keys.length) keys.length (cT cnt)) (λv19 _=>a.length-(intOf v19).toNat)
 case atStart=>exact⟨0,List.replicate keys.length 0,rfl,JE _,by simp,λi hi=>by rw[HRR.out,List.getElem?_replicate,Jo hi],HB1.out,HOW.out⟩
 case round=>
  obtain⟨j,cnt,rfl,hj,hcn,hct,hb,how⟩:=hrel;have HB:=Jf hb;have HOR:=Jf how;have HCT:=Jf hct;have HCN:=Jf hcn;clear hb how hct hcn HB1 HOW;have HBW:=Jf (HB0.out.trans (HB.out.mono HB0.out.size));by_cases hlt:j<a.length
  .obtain⟨g7,rfl,_,hgl7,c0,c1,c2',c3',c4'⟩:=az.item (HA.out.on HBW.out) (Jg hlt);have hlt2:j<wl.length:=by have:=HL.out;omega
   obtain⟨g8,rfl,_,hgl8,d0⟩:=l5 (aA HW.out (λk _ hk=>HBW.out.block k hk)) (Jg hlt2);have hji:(j:Int)<(a.length:Int):=by omega
   have hjw:(j:Int)<(wl.length:Int):=by omega
   have hxk:=HIN.out _ (Jv hlt);have HR:=Jf (HRN.out j _ _ (Jg hlt) (Jg hlt2));obtain⟨a7,ha7⟩:∃x,a[j]=x:=⟨_,rfl⟩;rw[ha7] at c0 c1 c2' c3' c4' hxk HR;clear ha7;obtain⟨xk,xn,xh,xs,xa⟩:=a7;simp only at c0 c1 c2' c3' c4' hxk HR;have hb1:=(Ji wr.heap.size wr).alloc (Jh _) (.cells #[.int .i64 (xk:Int),.int .i64 (xn:Int),xh,xs,.int .i64 (xa:Int)] 121);have HB3:=Jf (HB.out.trans (hb1.mono HB.out.size));have HXB:=Jf (Blk.new wr 121 #[.int .i64 (xk:Int),.int .i64 (xn:Int),xh,xs,.int .i64 (xa:Int)]);have HO3:=Jf (aA HOR.out (λk _ hk=>hb1.block k hk));have HD3:=Jf (aa hb1 _ _ d0);have hg83:g8<(wr.alloc (.cells #[.int .i64 (xk:Int),.int .i64 (xn:Int),xh,xs,.int .i64 (xa:Int)] 121)).heap.size:=JN hgl8 hb1.size;have HBQ:=Jf hb1;clear hb1;go_upto_region 5 with(fail);generalize wr.alloc (.cells #[.int .i64 (xk:Int),.int .i64 (xn:Int),xh,xs,.int .i64 (xa:Int)] 121)=wk at*
   clear c0 c1 c2' c3' c4' hgl7 d0 hgl8;have d0:=HD3.out;obtain⟨bb,hbb⟩:∃b,wl[j]=b:=⟨_,rfl⟩;rw[hbb] at d0 HR;clear hbb HD3;have x0:=HXB.out.cell 0;have xl:=HXB.out.lt;cases bb with
   |true=>
    go_wp2_with fail;go_roundw;case rel=>exact⟨j+1,cnt,by go_num,by omega,HCN.out,λi hi=>by rw[HR.out i,HCT.out i hi];simp,HB3.out,HO3.out⟩
    case measure=>simp[intOf];omega
   |false=>
    obtain⟨cv,hcv⟩:∃c,cnt[xk]? =some c:=⟨_,HCT.out xk hxk⟩;have hcv2:cv<=a.length:=by
     have:=HCT.out xk hxk;rw[hcv] at this;injection this with this;rw[this];exact HRL.out j xk
    have hcv3:=HAL.out;have r0:wk.cell? ⟨w0.heap.size,xk,none⟩=some (.int .i64 (cv:Int)):=by
     refine ax HO3.out xk _ ?_;unfold cT;rw[JZ,hcv];rfl
    have rf:=HO3.out.frozenAt;have rl:w0.heap.size<wk.heap.size:=(HO3.out.lt _ rfl).2;have hxi:(xk:Int)<(keys.length:Int):=by omega
    have HCV:=Jf hcv;clear hcv;go_wp2_with fail;have HO4:=eZ HO3.out xk (.int .i64 ((cv+1:Nat):Int));have hset:(cT cnt).set xk (.int .i64 ((cv+1:Nat):Int))=cT (cnt.set xk (cv+1)):=by unfold cT;rw[List.map_set]
    rw[hset] at HO4;have HB4:=HB3.out.setCell (p:=⟨w0.heap.size,xk,none⟩) (Jh _) (.int .i64 ((cv+1:Nat):Int));go_roundw;case rel=>exact⟨j+1,cnt.set xk (cv+1),by go_num,by omega,by rw[KF];exact HCN.out,λi hi=>by
     rw[HR.out i];by_cases e:xk=i
     .subst e;rw[Kw (by rw[HCN.out];exact hi),Jo ⟨rfl,rfl⟩];have:=HCT.out xk hi;rw[HCV.out] at this;injection this with this;rw[this]
     .rw[KA e,HCT.out i hi,Jj (λq=>e q.1)];simp,by simpa using HB4,by simpa using HO4⟩
    case measure=>simp[intOf];omega
  .obtain rfl:j=a.length:=by omega
   have HCE:=Jf (show∀i,i<keys.length->cnt[i]? =some (Vd.dH a wl i) fromλi hi=>by rw[HCT.out i hi,HRE.out]);have HX1:=Jf (HX0.out.on HB.out);have hx3:=HX1.out.cell 3;have hxl:=HX1.out.lt;have HZ:=Jf (aG.nil wr wr.heap.size);clear HCT;go_wp2_with fail;obtain⟨wm,hwm⟩:∃W,W=wr:=⟨_,rfl⟩;subst hwm
   go_loopw [10,40] (λo10 i40 wr=>∃(k:Nat) (A3:Option Addr) (c3:Nat) (t:List Jd),o10=.slice A3 t.length c3/\i40=.int .i64 k/\k<=keys.length/\t=TT k/\Below wm.heap.size wm wr/\aG wr wm.heap.size A3 c3 t) (λ_ i40 _=>keys.length-(intOf i40).toNat)
   case atStart=>exact⟨0,none,0,[],rfl,rfl,JE _,HF0.out.symm,Ji _ _,HZ.out⟩
   case round=>
    obtain⟨k,A3,c3,t,rfl,rfl,hkq,ht,hb,hnu⟩:=hrel;have HB2:=Jf hb;have HBK:=Jf (HBW.out.trans (hb.mono HBW.out.size));have HNU:=Jf hnu;have HT:=Jf ht;have HO2:=Jf (aA HOR.out (λk _ hk=>hb.block k hk));clear hb hnu ht HZ hx3 hxl;by_cases hkl:k<keys.length
    .obtain⟨g3,o3,cs3,rfl,hi3,hc3⟩:=HK.out k _ (Jg hkl);obtain⟨j_1,j_2,j_3,j_4,j_5,j_6,j_7,j_8,j_9,j_a,j_b,j_c,A4,c4,rfl,_,hk4,hl4,hm4⟩:=hi3.cells;have d0:wr.cell? ⟨g3,o3+k*10,none⟩=_:=(aa HBK.out) _ _ (hc3 0 _ rfl);have d1:wr.cell? ⟨g3,o3+k*10+1,none⟩=_:=(aa HBK.out) _ _ (hc3 1 _ rfl);have d2:wr.cell? ⟨g3,o3+k*10+2,none⟩=_:=(aa HBK.out) _ _ (hc3 2 _ rfl);have d3:wr.cell? ⟨g3,o3+k*10+3,none⟩=_:=(aa HBK.out) _ _ (hc3 3 _ rfl);have d4:wr.cell? ⟨g3,o3+k*10+4,none⟩=_:=(aa HBK.out) _ _ (hc3 4 _ rfl);have d5:wr.cell? ⟨g3,o3+k*10+5,none⟩=_:=(aa HBK.out) _ _ (hc3 5 _ rfl);have d6:wr.cell? ⟨g3,o3+k*10+6,none⟩=_:=(aa HBK.out) _ _ (hc3 6 _ rfl);have d7:wr.cell? ⟨g3,o3+k*10+7,none⟩=_:=(aa HBK.out) _ _ (hc3 7 _ rfl);have d8:wr.cell? ⟨g3,o3+k*10+8,none⟩=_:=(aa HBK.out) _ _ (hc3 8 _ rfl);have d9:wr.cell? ⟨g3,o3+k*10+9,none⟩=_:=(aa HBK.out) _ _ (hc3 9 _ rfl);have hki:(k:Int)<(keys.length:Int):=by omega
     have hgl3:=Jn _ _ d0;have hb1:=(Ji wr.heap.size wr).alloc (Jh _) (.cells #[.string ⟨(keys[k]).name.toArray⟩,.int .i64 j_1,j_2,j_3,j_4,.int .i64 j_5,j_6,.slice j_7 j_8 j_9,.slice j_a j_b j_c,.slice A4 (keys[k]).kids.length c4] 68);have HB5:=Jf (HB2.out.trans (hb1.mono HB2.out.size));have HKB:=Jf (Blk.new wr 68 #[.string ⟨(keys[k]).name.toArray⟩,.int .i64 j_1,j_2,j_3,j_4,.int .i64 j_5,j_6,.slice j_7 j_8 j_9,.slice j_a j_b j_c,.slice A4 (keys[k]).kids.length c4]);have HN5:=Jf (HNU.out.on hb1);have HO5:=Jf (aA HO2.out (λk _ hk=>hb1.block k hk));have HNXK:=Jf (HNX.out k _ (Jg hkl));have HTL:=Jf (show t.length<=1000000 by have:=HFL.out k;rw[<-HT.out] at this;omega);clear hi3 hc3 hk4 hb1 HNU;generalize (keys[k]).kids=kids at*
     generalize (keys[k]).name=nm at*
     obtain⟨cv,hcv⟩:∃c,Vd.dH a wl k=c:=⟨_,rfl⟩;rw[hcv] at HNXK;have HRC:=Jf (show∀W,Below wm.heap.size wm W->W.cell? ⟨w0.heap.size,k,none⟩=some (.int .i64 (cv:Int)) fromλW h=>by
      refine ax (aA HOR.out (λk _ hk=>h.block k hk)) k _ ?_;unfold cT;rw[JZ,HCE.out k hkl,hcv];rfl)
     have HFB:=Jf (λW=>xu nm cv W);obtain⟨fb,hfb⟩:∃b,Vd.dt nm cv=b:=⟨_,rfl⟩;rw[hfb] at HFB HNXK;clear hcv hfb;go_upto_region 12 with(fail);generalize wr.alloc (.cells #[nm,.int .i64 j_1,j_2,j_3,j_4,.int .i64 j_5,j_6,.slice j_7 j_8 j_9,.slice j_a j_b j_c,.slice A4 kids.length c4] 68)=wk at*
     clear d0 d1 d2 d3 d4 d5 d6 d7 d8 d9 hgl3;have hgk:wr.heap.size<wk.heap.size:=HKB.out.lt;have HS5:=Jf (show wk.cell? ⟨wr.heap.size,0,none⟩=some (.string ⟨nm.toArray⟩)/\wk.cell? ⟨w0.heap.size,k,none⟩=some (.int .i64 (cv:Int)) from⟨HKB.out.cell 0,HRC.out _ HB5.out⟩);refine JT (S:=λW9=>W9.cell? ⟨wr.heap.size,0,none⟩=some (.string ⟨nm.toArray⟩)/\W9.cell? ⟨w0.heap.size,k,none⟩=some (.int .i64 (cv:Int))) (by kernel_rfl) HS5.out (λht=>?_);refine af 0 (.pointer (some ⟨wr.heap.size,0,none⟩)) ht ?_ ?_
     .intro W9 hSw;go_simp
     try simp only[ab]
     refine af 1 (.string ⟨nm.toArray⟩) ht ?_ ?_
     .intro W9 hSw;have y1:=hSw.1;go_simp
     try simp only[ab]
     refine af 2 (.slice (some ⟨w0.heap.size,0,none⟩) keys.length keys.length) ht ?_ ?_
     .intro W9 hSw;go_simp
     try simp only[ab]
     refine af 3 (.int .i64 k) ht ?_ ?_
     .intro W9 hSw;go_simp
     try simp only[ab]
     refine af 4 (.pointer (some ⟨w0.heap.size,k,none⟩)) ht ?_ ?_
     .intro W9 hSw;go_simp
     try simp only[ab]
     refine af 5 (.int .i64 cv) ht ?_ ?_
     .intro W9 hSw;have y1:=hSw.2;go_simp
     try simp only[ab]
     refine bz 6 λK hK=>?_;go_simp;refine(HFB.out _).mono ?_;rintro e6 w6 ⟨rfl,hb6⟩;have hb26:=(Ji wk.heap.size wk).drew.trans (show Below wk.heap.size wk.drew w6 from hb6);have HB6:=Jf (HB5.out.trans (hb26.mono HB5.out.size));have HN6:=Jf (HN5.out.on hb26);have HK6:=Jf (HKB.out.on hb26);have hs6:=And.intro (aa hb26 _ _ HS5.out.1) (aa hb26 _ _ HS5.out.2);clear hb6 hb26 ht;go_wp2_with fail;refine hK.out _ _ hs6 (λht=>?_);clear hK K hs6;try simp only[ab]
     refine Ke (by kernel_rfl) ?_ _;clear ht;cases fb with
     |false=>
      go_wp2_with fail;go_roundw;case rel=>exact⟨k+1,A3,c3,t,rfl,by go_num,by omega,by rw[HNXK.out,HT.out];simp,HB6.out,HN6.out⟩
      case measure=>simp[intOf];omega
     |true=>
      have y0:=HK6.out.cell 0;have yl:=HK6.out.lt;have hb7:=(Ji w6.heap.size w6).alloc (Jh _) (.cells #[.string ⟨nm.toArray⟩] 9);have HB7:=Jf (HB6.out.trans (hb7.mono HB6.out.size));have HS7:=Jf (HN6.out.on hb7);have HNW:=Jf (Blk.new w6 9 #[.string ⟨nm.toArray⟩]);have HSR1:=Jf (show qk (w6.alloc (.cells #[.string ⟨nm.toArray⟩] 9)) (some ⟨w6.heap.size,0,none⟩) 1 (aB [nm]) from⟨(λe=>by cases e),λad e j u hu=>by injection e with e;subst e;exact JU HNW.out j u hu⟩);have HSZ:=Jf HB7.out.size;have HLN:=Jf (show t.length+1<=maxLen/\(t.length+1)*16<=140737488355328 from by have:=HTL.out;unfold maxLen;omega);obtain⟨i0,hi0,hz0,hz1,hz2⟩:=jC;clear hb7;go_wp2_with (at_builtin;refine bN _ rfl _ _ _ rfl wm.heap.size 9 i0 _ 1 16 Tryz.underlying40 hi0 hz0 hz1 hz2 rfl (by decide) (.slice A3 t.length c3) t.length (aB t) rfl HS7.out (some ⟨w6.heap.size,0,none⟩) 1 1 (aB [nm]) rfl rfl HSR1.out (iB _) HLN.out.1 HLN.out.2 HSZ.out (t.length+1) rfl ?_;intro A8 c8 x8 hown hgr;have HOWN:=Jf hown;have HGR:=Jf hgr;clear hown hgr);have HB8:=Jf (show Below wm.heap.size wm x8 from HB7.out.grown HGR.out HSZ.out (λq hq=>(HS7.out.lt q hq).1));have HS8:=Jf (show aG x8 wm.heap.size A8 c8 (t++[nm]) by
       unfold aG;rw[kz,Jk,Jy];exact HOWN.out)
      go_roundw;case rel=>exact⟨k+1,A8,c8,t++[nm],by rw[Jk];rfl,by go_num,by omega,by rw[HNXK.out,HT.out];simp,HB8.out,HS8.out⟩
      case measure=>simp[intOf];omega
    .obtain rfl:k=keys.length:=by omega
     have HF:=Jf (show t=R by rw[HT.out,HFN.out]);go_wp2_with fail;go_ret;exact⟨A3,c3,by rw[HF.out];rfl,by rw[<-HF.out];exact HNU.out.less HBW.out.size,HBK.out⟩
theorem ve(inst path:Jd)(names:List Jd)(A:Option Addr)(c:Nat)(w:World)(hT:lW w)(hs:Strs w.cell? A names)(hl:names.length<=c)(hm:c<=maxLen)(hn:names.length<=3000000)(h1:∀n∈names,n.length<=1000000)(hp:path.length<=10000000000000):
  Calls Tryz.prog 33 #[inst,path,.slice A names.length c] w (GB w (names.map λnm=>(⟨inst,path++text [nm],nm⟩:Fl.F))):=by
 have HS:=Jf hs;have HT:=Jf hT;have H1:=Jf h1;have HZ:=Jf (KT w w.heap.size 44 3);have HMN:=Jf (λ(k:Nat) (nm:Jd) (h:names[k]? =some nm)=>dy (λnm=>(⟨inst,path++text [nm],nm⟩:Fl.F)) h);generalize hFF:(λnm=>(⟨inst,path++text [nm],nm⟩:Fl.F))=FF at*
 have HFF:=Jf (show∀nm,FF nm=⟨inst,path++text [nm],nm⟩ fromλnm=>by rw[<-hFF]);unfold maxLen at hm;clear hs hT h1 hFF;go_enter Tryz.func33,Tryz.ntmps33;go_wp2_with fail
 go_loopw [7,12] (λo7 i12 wr=>∃(k:Nat) (A3:Option Addr) (c3:Nat) (t:List Fl.F),o7=.slice A3 t.length c3/\i12=.int .i64 k/\k<=names.length/\t.length=k/\t=(names.take k).map FF/\Below w.heap.size w wr/\wr.ownsRow w.heap.size 44 3 (.slice A3 t.length c3) t.length (aD t)) (λ_ i12 _=>names.length-(intOf i12).toNat)
 case atStart=>exact⟨0,none,0,[],rfl,rfl,JE _,rfl,rfl,Ji _ _,HZ.out⟩
 case round=>
  obtain⟨k,A3,c3,t,rfl,rfl,hkq,htl,ht,hb,hnu⟩:=hrel;have HB:=Jf hb;have HNU:=Jf hnu;have HTT:=Jf ht;have HTL:=Jf htl;clear hb hnu ht HZ htl;by_cases hkl:k<names.length
  .obtain⟨g,o,rfl,c0⟩:=HS.out k _ (Jg hkl);have d0:wr.cell? ⟨g,o+k,none⟩=_:=(aa HB.out) _ _ c0;have hgl:=Jn _ _ d0;have hki:(k:Int)<(names.length:Int):=by omega
   have hnl:=H1.out _ (Jv hkl);have HMK:=Jf (HMN.out k _ (Jg hkl));generalize names[k]=nm at*
   have hb1:=(Ji wr.heap.size wr).alloc (Jh _) (.cells #[.string ⟨nm.toArray⟩] 9);have HB1:=Jf (HB.out.trans (hb1.mono HB.out.size));have HN1:=Jf (aA HNU.out (λk _ hk=>hb1.block k hk));have htx:(text [nm]).length<=2000001:=by have:=eG 1000000 [nm] (λn hn=>by rw[Jt.1 hn];exact hnl);simpa using this
   have HSH:=Jf (show Calls Tryz.prog 66 #[.slice (some ⟨wr.heap.size,0,none⟩) 1 1] (wr.alloc (.cells #[.string ⟨nm.toArray⟩] 9)) _ from pB [nm] (some ⟨wr.heap.size,0,none⟩) 1 _ (HT.out.on HB1.out) (Be wr 9 nm) (Jh _) (by unfold maxLen;omega) (by omega));have hcat:=λW=>cu W path (text [nm]) (by omega);have HFN:=Jf (HFF.out nm);generalize text [nm]=tx at*
   clear c0 hb1 hnl;go_wp2_with fail;refine HSH.out.mono ?_;rintro e5 w5 ⟨rfl,hb5⟩;have HB5:=Jf (HB1.out.trans (hb5.mono HB1.out.size));have HN5:=Jf (aA HN1.out (λk _ hk=>hb5.block k hk));have hb7:=(Ji w5.heap.size w5).alloc (Jh _) (.cells #[.string ⟨inst.toArray⟩,.string ⟨(path++tx).toArray⟩,.string ⟨nm.toArray⟩] 44);have HB7:=Jf (HB5.out.trans (hb7.mono HB5.out.size));have HS7:=Jf (aA HN5.out (λk _ hk=>hb7.block k hk));have HNW:=Jf (Blk.new w5 44 #[.string ⟨inst.toArray⟩,.string ⟨(path++tx).toArray⟩,.string ⟨nm.toArray⟩]);have HSR1:=Jf (show qk (w5.alloc (.cells #[.string ⟨inst.toArray⟩,.string ⟨(path++tx).toArray⟩,.string ⟨nm.toArray⟩] 44)) (some ⟨w5.heap.size,0,none⟩) 1 (aD [⟨inst,path++tx,nm⟩]) from⟨(λe=>by cases e),λad e j u hu=>by injection e with e;subst e;exact JU HNW.out j u hu⟩);have HSZ:=Jf HB7.out.size;have HLN:=Jf (show t.length+1<=maxLen/\(t.length+1)*48<=140737488355328 from by have:=HTL.out;unfold maxLen;omega);obtain⟨i0,hi0,hz0,hz1,hz2⟩:=jB;clear hb5 hb7 HSH;go_wp2_with (at_builtin;refine bN _ rfl _ _ _ rfl w.heap.size 44 i0 _ 3 48 Tryz.underlying35 hi0 hz0 hz1 hz2 rfl (by decide) (.slice A3 t.length c3) t.length (aD t) rfl HS7.out (some ⟨w5.heap.size,0,none⟩) 1 1 (aD [⟨inst,path++tx,nm⟩]) rfl rfl HSR1.out (oc _) HLN.out.1 HLN.out.2 HSZ.out (t.length+1) rfl ?_;intro A8 c8 x8 hown hgr;have HOWN:=Jf hown;have HGR:=Jf hgr;clear hown hgr);have HB8:=Jf (show Below w.heap.size w x8 from HB7.out.grown HGR.out HSZ.out (λq hq=>(HS7.out.lt q hq).1));have HS8:=Jf (show x8.ownsRow w.heap.size 44 3 (.slice A8 (t++[(⟨inst,path++tx,nm⟩:Fl.F)]).length c8) (t++[(⟨inst,path++tx,nm⟩:Fl.F)]).length (aD (t++[⟨inst,path++tx,nm⟩])) by
    rw[jT,Jk,Jy];exact HOWN.out)
   go_roundw;case rel=>exact⟨k+1,A8,c8,t++[⟨inst,path++tx,nm⟩],by rw[Jk];rfl,by go_num,by omega,by rw[Jk,HTL.out];rfl,by rw[HMK.out,HTT.out],HB8.out,HS8.out⟩
   case measure=>simp[intOf];omega
  .obtain rfl:k=names.length:=by omega
   have HF:=Jf (show t=names.map FF by rw[HTT.out,JC]);go_wp2_with fail;go_ret;exact⟨A3,c3,by rw[HF.out];rfl,by rw[<-HF.out];exact HNU.out,HB.out⟩
theorem cg.inv{c:Cl}{pv:Value}{ns:Cm.Names}(h:cg c pv ns):(pv=.pointer none/\ns=[])\/∃g qv a nm,pv=.pointer (some ⟨g,0,none⟩)/\ns=a++[nm]/\c ⟨g,0,none⟩=some qv/\cg c qv a/\c ⟨g,1,none⟩=some (.string ⟨nm.toArray⟩):=by
 cases h with
 |nil=>exact .inl ⟨rfl,rfl⟩
 |@snoc g qv a nm h1 h2 h3=>exact .inr ⟨g,qv,a,nm,rfl,rfl,h1,h2,h3⟩
theorem yy{w:World}{B:Nat}{A:Option Addr}{c:Nat}{t:List Jd}(h:aG w B A c t)(hB:B<=w.heap.size)(hl:t.length<=9223372036854775807):
  Calls Tryz.prog 67 #[.slice A t.length c] w λe w'=>e=.returned (.tuple #[])/\aG w' B A c t.reverse/\Below B w w':=by
 have hle:=ai h;cases hA:A with
 |none=>
  have h0:=(hle.2.2.1 hA).1;have ht:t=[]:=K6 h0;subst ht;subst hA;refine(Tryz.slices_Reverse_string_empty none c w).mono ?_;rintro e w' ⟨rfl,rfl⟩;exact⟨rfl,h,Ji _ _⟩
 |some ad=>
  obtain⟨g,rfl,hg,hgl⟩:=hle.2.2.2 ad hA;subst hA;have hc:∀i,i<t.length->w.cell? ⟨g,0+i,none⟩=some (.string ((λi=>(⟨(t.getD i []).toArray⟩:ByteArray)) i)):=λi hi=>by
   rw[JI];refine ax h i _ ?_;unfold aB;rw[JZ,Jg hi];simp[List.getD,Jg hi]
  refine(Tryz.slices_Reverse_string_cells g 0 t.length c (λi=>⟨(t.getD i []).toArray⟩) w hl hc (λj hj=>h.frozenAt _)).mono ?_;rintro e w' ⟨rfl,q,rfl⟩;have hst:Lib.strsOf (λi=>(⟨(t.getD i []).toArray⟩:ByteArray)) t.length=t:=by
   unfold Lib.strsOf;refine Nq (by simp) λi h1 h2=>?_;rw[Lj,List.getElem_range];simp[List.getD,Jg h2]
  rw[hst];have h1:=fc (aB t.reverse) (w.drewN q) (aB t) 0 (show(w.drewN q).ownsRow B _ 1 _ _ _ from h);have h2:=mG (aB t.reverse) (aB t) 0 (by simp[aB]);have h3:gE (aB t) 0 (aB t.reverse)=aB t.reverse:=by
   have h4:=h2.1;rw[L7 (by rw[h2.2];simp[aB])] at h4;rw[h4];simp
  rw[h3] at h1;refine⟨rfl,?_,fu hg _ (below_drewN (Ji _ _) q)⟩;unfold aG;rw[M1];exact h1
def Hq:Value->Nat
 |.slice _ n _=>n
 |_=>0
theorem ru:∀ns:List Jd,ns.length<=(text ns).length
 |[]=>JE _
 |n::r=>by
  have:=ru r;rw[fH,Jl,Jl,Jk];omega
theorem yo(ns:Cm.Names)(pv:Value)(w:World)(hT:lW w)(hp:cg w.cell? pv ns)(hlen:(text ns).length<=10000000):Calls Tryz.prog 34 #[pv] w λe w'=>e=.returned (.string ⟨(text ns).toArray⟩)/\Below w.heap.size w w':=by
 have hnl:=JA (ru ns) hlen;have HP:=Jf hp;have HT:=Jf hT;have HLN:=Jf hlen;have HZ:=Jf (aG.nil w w.heap.size);clear hp hT hlen;go_enter Tryz.func34,Tryz.ntmps34;go_wp2_with fail
 go_loopw [0,3] (λp o3 wr=>∃(a t:Cm.Names) (A3:Option Addr) (c3:Nat),ns=a++t.reverse/\cg w.cell? p a/\o3=.slice A3 t.length c3/\Below w.heap.size w wr/\aG wr w.heap.size A3 c3 t) (λ_ o3 _=>ns.length-Hq o3)
 case atStart=>exact⟨ns,[],none,0,by simp,HP.out,rfl,Ji _ _,HZ.out⟩
 case round=>
  obtain⟨a,t,A3,c3,hns,hpl,rfl,hb,hnu⟩:=hrel;have HB:=Jf hb;have HNU:=Jf hnu;have HNS:=Jf hns;have HTL:=Jf (show t.length+a.length=ns.length by rw[hns,Jk,M1];omega);clear hb hnu hns HZ HP;rcases hpl.inv with⟨rfl,rfl⟩|⟨g,qv,a2,nm,rfl,rfl,c0,hp2,c1⟩
  .have HRV:=Jf (yy HNU.out HB.out.size (by have:=HTL.out;simp at this;omega));have HNE:=Jf (show t.reverse=ns by rw[HNS.out];rfl);clear hpl;go_wp2_with fail;refine HRV.out.mono ?_;rintro e5 w5 ⟨rfl,h5,hb5⟩;have HB5:=Jf (HB.out.trans hb5);have HSH:=Jf (pB ns A3 c3 w5 (HT.out.on HB5.out) (by rw[<-HNE.out];exact h5.strs) (by have:=h5.le.1;rw[HNE.out] at this;exact this) h5.le.2.1 HLN.out);have HTE:=Jf (show t.length=ns.length by rw[<-HNE.out,M1]);clear h5 hb5 HRV;go_wp2_with fail;rw[HTE.out];refine HSH.out.mono ?_;rintro e6 w6 ⟨rfl,hb6⟩;have HB6:=Jf (HB5.out.trans (hb6.mono HB5.out.size));clear HSH hb6;go_wp2_with fail;go_ret;exact⟨rfl,HB6.out⟩
  .have HP2:=Jf hp2;have d0:=aa HB.out _ _ c0;have d1:=aa HB.out _ _ c1;have hgl:=Jn _ _ d0;have hb7:=(Ji wr.heap.size wr).alloc (Jh _) (.cells #[.string ⟨nm.toArray⟩] 9);have HB7:=Jf (HB.out.trans (hb7.mono HB.out.size));have HS7:=Jf (HNU.out.on hb7);have HNW:=Jf (Blk.new wr 9 #[.string ⟨nm.toArray⟩]);have HSR1:=Jf (show qk (wr.alloc (.cells #[.string ⟨nm.toArray⟩] 9)) (some ⟨wr.heap.size,0,none⟩) 1 (aB [nm]) from⟨(λe=>by cases e),λad e j u hu=>by injection e with e;subst e;exact JU HNW.out j u hu⟩);have HSZ:=Jf HB7.out.size;have HBND:=Jf (show t.length+1<=maxLen/\(t.length+1)*16<=140737488355328/\t.length<ns.length from by have:=HTL.out;simp at this;unfold maxLen;omega);have HQ:=Jf (λ(W:World) (hb:Below w.heap.size w W)=>And.intro (aa hb _ _ c0) (Jn _ _ (aa hb _ _ c0)));obtain⟨i0,hi0,hz0,hz1,hz2⟩:=jC;clear hb7 hp2 hpl c0 c1;go_wp2_with (at_builtin;refine bN _ rfl _ _ _ rfl w.heap.size 9 i0 _ 1 16 Tryz.underlying40 hi0 hz0 hz1 hz2 rfl (by decide) (.slice A3 t.length c3) t.length (aB t) rfl HS7.out (some ⟨wr.heap.size,0,none⟩) 1 1 (aB [nm]) rfl rfl HSR1.out (iB _) HBND.out.1 HBND.out.2.1 HSZ.out (t.length+1) rfl ?_;intro A8 c8 x8 hown hgr;have HOWN:=Jf hown;have HGR:=Jf hgr;have HB8:=Jf (show Below w.heap.size w x8 from HB7.out.grown HGR.out HSZ.out (λq hq=>(HS7.out.lt q hq).1));obtain⟨k0,kl⟩:=HQ.out _ HB8.out;clear hown hgr d0 d1 hgl);have HS8:=Jf (show aG x8 w.heap.size A8 c8 (t++[nm]) by
    unfold aG;rw[kz,Jk,Jy];exact HOWN.out)
   go_roundw;case rel=>exact⟨a2,t++[nm],A8,c8,by rw[HNS.out];simp,HP2.out,by rw[Jk];rfl,HB8.out,HS8.out⟩
   case measure=>have:=HBND.out.2.2;simp[Hq];omega
end
