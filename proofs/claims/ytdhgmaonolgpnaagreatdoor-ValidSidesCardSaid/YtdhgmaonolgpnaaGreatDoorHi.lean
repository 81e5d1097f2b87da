import Derived.Test.YtdhgmaonolgpnaaGreatDoorEc
import Derived.Test.YtdhgmaonolgpnaaGreatDoorLa
set_option linter.unusedSimpArgs false
set_option linter.unusedVariables false
set_option maxHeartbeats 8000000
set_option maxRecDepth 100000
namespace Go.Proofs.YtdhgmaonolgpnaaGreatDoor
section
open Go.RowKit Js Pt
noncomputable def Cm.iH(s:Jd):List Cm.Node×Nat×Int:=match Ps.parse s with
 |.bad c l=>([],c,(s.length:Int)-l)
 |.ok v _=>match Cm.compile v with
  |.bad c _=>([],c,-1)
  |.ok a=>(Cm.pS (Cm.link a),Cm.AG (Cm.link a),-1)
def SchP(s:Jd)(w:World)(e:Ending)(w':World):Prop:=
 ∃(A:Option Addr) (cp:Nat),e=.returned (.tuple #[.slice A (Cm.iH s).1.length cp,.int .i64 (Cm.iH s).2.1,.int .i64 (Cm.iH s).2.2])/\SlN w'.cell? A (Cm.iH s).1/\(Cm.iH s).1.length<=cp/\cp<=maxLen/\Below w.heap.size w w'
theorem wC{s:Jd}{v:Vl}{u:Jd}(hs:s.length<=1000000)(h:Ps.parse s=.ok v u):iZ v:=by
 have ht:=Ps.ir s;rw[h] at ht;exact⟨ht.1.1,by have:=ht.2;omega,fG (by omega) v (Ps.mB h)⟩
theorem Cm.CD{v:Vl}{w:World}{e:Ending}{w':World}(h:wG (Cm.compile v) w e w'){c:Nat}{p:Cm.Names}(hc:Cm.compile v=.bad c p):¬c=0:=by
 obtain⟨_,⟨a,A,cp,h3,_⟩|⟨c1,p1,h3,h4,_⟩⟩:=h
 .rw[hc] at h3;cases h3
 .rw[hc] at h3;injection h3 with h3 _;subst h3;exact h4
theorem Cm.s7{s:Jd}{c l:Nat}(h:Ps.parse s=.bad c l):1<=c:=by
 have ht:=Ps.ir s;rw[h] at ht;exact ht.1
theorem si(s:ByteArray)(w:World)(hs:s.size<=1000000):Calls Tryz.prog 13 #[.string s] w (SchP s.data.toList w):=by
 have HP:=Jf (km s (by omega) w);have HSZ:=Jf (show s.data.toList.length<=1000000 by rw[<-Lib.size_eq];exact hs);have HSE:=Jf (L6 s);go_enter Tryz.func13,Tryz.ntmps13;go_wp2_with fail;refine HP.out.mono ?_;rintro e1 w1 ⟨v,x,c,p,rfl,hx0,hb1,hr⟩;have hx:=In.keep (my _ _) _ _ hx0;obtain⟨k_1,k_2,k_3,k_4,k_5,k_6,k_7,k_8,k_9,k_a,k_b,k_c,rfl⟩:=In.cells hx;have hba:=hb1.alloc hb1.size (.cells #[.int .i64 k_1,k_2,k_3,k_4,.int .i64 k_5,k_6,.slice k_7 k_8 k_9,.slice k_a k_b k_c] 31);have HB:=Jf hba;have HX:=Jf (In.keep (aT w1 (.cells #[.int .i64 k_1,k_2,k_3,k_4,.int .i64 k_5,k_6,.slice k_7 k_8 k_9,.slice k_a k_b k_c] 31)) _ _ hx);have HK:=Jf (Blk.new w1 31 #[.int .i64 k_1,k_2,k_3,k_4,.int .i64 k_5,k_6,.slice k_7 k_8 k_9,.slice k_a k_b k_c]);have HR:=Jf hr;clear hx hx0 hb1 hba HP hr;go_upto_region 2 with(fail);generalize w1.alloc (.cells #[.int .i64 k_1,k_2,k_3,k_4,.int .i64 k_5,k_6,.slice k_7 k_8 k_9,.slice k_a k_b k_c] 31)=wa at*
 generalize w1.heap.size=g1 at*
 obtain⟨a0,a1,a2,a3,a4,a5,a6,a7⟩:=HK.out.eight;have hkl:=HK.out.lt;obtain⟨pr,hpr⟩:∃r,Ps.parse s.data.toList=r:=⟨_,rfl⟩;have HPR:=Jf hpr;rw[hpr] at HR;clear hpr;cases pr with
 |bad c0 l0=>
  obtain⟨hv,hc,hp⟩:=HR.out;have hc0:(c !=0)=true:=by rw[LV,hc];have:=Cm.s7 HPR.out;omega
  have HSR:=Jf (show Cm.iH s.data.toList=([],c0,(s.data.toList.length:Int)-l0) by unfold Cm.iH;rw[HPR.out]);have HCC:=Jf hc;have HPP:=Jf hp;clear hv hc hp HR;go_wp2_with fail
  go_ret3
  refine⟨none,0,?_,?_⟩
  .rw[HSR.out,HCC.out,HPP.out,HSE.out];rfl
  .rw[HSR.out];exact⟨λi N h=>by simp at h,Jh _,by unfold maxLen;omega,HB.out⟩
 |ok v0 u0=>
  obtain⟨hv,hc,hp⟩:=HR.out;subst hv hc hp;have HW:=Jf (wC HSZ.out HPR.out);have HRC:=Jf (se v _ wa HX.out HW.out.2.2 HW.out.2.1);clear HR;go_wp2_with fail;refine HRC.out.mono ?_;intro e2 w2 h2;have HR2:=Jf h2;obtain⟨B1,cq1,rfl,hs2,hl2,hm2,hb2⟩:=h2.out;have HB2:=Jf (HB.out.trans (hb2.mono HB.out.size));have HS2:=Jf hs2;obtain⟨r,hr⟩:∃r,Cm.compile v=r:=⟨_,rfl⟩;rw[hr] at HS2 hl2 ⊢;have HRE:=Jf hr;have HBD:=Jf (λc0 p0 (e:r=.bad c0 p0)=>Cm.CD HR2.out (hr.trans e));clear hs2 hb2 h2 hr HRC a0 a1 a2 a3 a4 a5 a6 a7 hkl HK HX HB HR2;cases r with
  |bad c0 p0=>
   have hc0:(((Cm.AG (.bad c0 p0):Nat):Int) !=0)=true:=by rw[LV];have:=HBD.out c0 p0 rfl;show((c0:Nat):Int)≠0;omega
   have HSR:=Jf (show Cm.iH s.data.toList=([],c0,-1) by unfold Cm.iH;rw[HPR.out];simp only;rw[HRE.out]);go_wp2_with fail
   go_ret3
   refine⟨none,0,?_,?_⟩
   .rw[HSR.out];rfl
   .rw[HSR.out];exact⟨λi N h=>by simp at h,Jh _,by unfold maxLen;omega,HB2.out⟩
  |ok a=>
   have HGD:=Jf (Cm.vj HW.out HRE.out);have HS3:=Jf (show SlN w2.cell? B1 a from HS2.out);rw[show Cm.pS (.ok a)=a from rfl,show Cm.AG (.ok a)=0 from rfl];change a.length<=cq1 at hl2;have HSR:=Jf (show Cm.iH s.data.toList=(Cm.pS (Cm.link a),Cm.AG (Cm.link a),-1) by unfold Cm.iH;rw[HPR.out];simp only;rw[HRE.out]);have HRL:=Jf (yx a B1 cq1 w2 HS3.out hl2 hm2 (by have:=HGD.out.few;omega) HGD.out.inside HGD.out.keys HGD.out.paths);generalize Cm.link a=r at HRL HSR;clear HS2 HBD HRE;go_wp2_with fail;refine HRL.out.mono ?_;intro e4 w4 h4;obtain⟨B4,cq4,rfl,hs4,hl4,hm4,hb4⟩:=h4.out;have HS4:=Jf hs4;have HB4:=Jf (HB2.out.trans (hb4.mono HB2.out.size));clear hs4 hb4 h4 HRL;go_wp2_with fail
   go_ret3
   refine⟨B4,cq4,?_,?_⟩
   .rw[HSR.out];rfl
   .rw[HSR.out];exact⟨HS4.out,hl4,hm4,HB4.out⟩
structure NdT (s:Jd) (v:Vl) (a L:List Cm.Node):Prop where
 short:s.length<=2000
 parsed:∃u,Ps.parse s=.ok v u
 wide:iZ v
 comp:Cm.compile v=.ok a
 link:Cm.link a=.ok L
 sch:Cm.iH s=(L,0,-1)
def I9(s:Jd)(w:World)(e:Ending)(w':World):Prop:=
 Below w.heap.size w w'/\((e=.returned (.tuple #[.slice none 0 0,.int .i64 0])/\(2000<s.length\/¬(Cm.iH s).2.1=0))\/∃(v:Vl) (a L:List Cm.Node) (A:Option Addr) (cp:Nat),e=.returned (.tuple #[.slice A L.length cp,.int .i64 1])/\NdT s v a L/\SlN w'.cell? A L/\L.length<=cp/\cp<=maxLen)
theorem Cm.D5{a:List Cm.Node}{c:Nat}{p:Cm.Names}(h:Cm.link a=.bad c p):¬c=0:=by
 unfold Cm.link at h;split at h
 .rename_i c' p' hn;injection h with h1 _;subst h1;have hk:∀(ks:List Cm.Key) (P:Cm.Names) {c:Nat} {p:Cm.Names},Cm.aw a P ks=.bad c p->c=12:=by
   intro ks
   induction ks with
   |nil=>intro P c p h;cases h
   |cons K r ih=>
    intro P c p h;rw[Cm.aw] at h;cases h1:Cm.dM a P K with
    |bad c1 p1=>
     rw[h1] at h;injection h with h2 _;subst h2;unfold Cm.dM at h1;split at h1
     .split at h1
      .injection h1 with h1 _;exact h1.symm
      .cases h1
     .cases h1
    |ok K'=>
     rw[h1] at h;simp only at h;cases h2:Cm.aw a P r with
     |bad c2 p2=>rw[h2] at h;injection h with h3 _;subst h3;exact ih P h2
     |ok r'=>rw[h2] at h;cases h
  have hns:∀(ns:List Cm.Node) {c:Nat} {p:Cm.Names},Cm.aq a ns=.bad c p->c=12:=by
   intro ns
   induction ns with
   |nil=>intro c p h;cases h
   |cons N r ih=>
    intro c p h;rw[Cm.aq] at h;cases h1:Cm.aw a N.at_ N.keys with
    |bad c1 p1=>rw[h1] at h;injection h with h3 _;subst h3;exact hk _ _ h1
    |ok K'=>
     rw[h1] at h;simp only at h;cases h2:Cm.aq a r with
     |bad c2 p2=>rw[h2] at h;injection h with h3 _;subst h3;exact ih h2
     |ok r'=>rw[h2] at h;cases h
  have:=hns _ hn;omega
 .split at h
  .injection h with h1 _;omega
  .cases h
theorem Cm.qZ{nd:Nat->Cm.Names->Vl->Cm.Res (List Cm.Node)}(hnd:∀off P u c p,nd off P u=.bad c p->¬c=0){single:Bool}{under:Cm.Names}:∀{l:List Js.Mem} {off c:Nat} {p:Cm.Names},Cm.ar nd single under off l=.bad c p->¬c=0
 |[],off,c,p,h=>by rw[Cm.ar] at h;cases h
 |(key,u)::r,off,c,p,h=>by
  rw[Cm.ar] at h;cases h1:nd off (if single=true then under else under++[key]) u with
  |bad c1 p1=>rw[h1] at h;injection h with h2 _;subst h2;exact hnd _ _ _ _ _ h1
  |ok a=>
   rw[h1] at h;simp only at h;cases h2:Cm.ar nd single under (off+a.length) r with
   |bad c2 p2=>rw[h2] at h;injection h with h3 _;subst h3;exact Cm.qZ hnd h2
   |ok x=>rw[h2] at h;cases h
theorem Cm.rJ{nd:Nat->Cm.Names->Vl->Cm.Res (List Cm.Node)}(hnd:∀off P u c p,nd off P u=.bad c p->¬c=0){P:Cm.Names}:∀{m:List Js.Mem} {off c:Nat} {p:Cm.Names},Cm.av nd P off m=.bad c p->¬c=0
 |[],off,c,p,h=>by rw[Cm.av] at h;cases h
 |(nm,w)::r,off,c,p,h=>by
  rw[Cm.av] at h;split at h
  .cases h1:Cm.ar nd (Sh.single nm) (P++[nm]) off (Sh.kids nm w) with
   |bad c1 p1=>rw[h1] at h;injection h with h2 _;subst h2;exact Cm.qZ hnd h1
   |ok x=>
    obtain⟨ks,a⟩:=x;rw[h1] at h;simp only at h;cases h2:Cm.av nd P (off+a.length) r with
    |bad c2 p2=>rw[h2] at h;injection h with h3 _;subst h3;exact Cm.rJ hnd h2
    |ok x=>rw[h2] at h;cases h
  .rename_i hs;injection h with h _;subst h;exact hs
theorem Cm.Dg(f:Nat):∀off P u c p,Cm.node f off P u=.bad c p->¬c=0:=by
 induction f with
 |zero=>intro off P u c p h;rw[Cm.node] at h;injection h with h _;omega
 |succ f ih=>
  intro off P u c p h;obtain⟨k,b,n,s,l,m⟩:=u;rw[Cm.node] at h;split at h
  .injection h with h _;omega
  .cases h1:Cm.av (Cm.node f) P (off+1) m with
   |bad c1 p1=>rw[h1] at h;injection h with h2 _;subst h2;exact Cm.rJ ih h1
   |ok x=>rw[h1] at h;cases h
theorem Cm.DP(s:Jd):¬(Cm.iH s).2.1=0\/∃v u a L,Ps.parse s=.ok v u/\Cm.compile v=.ok a/\Cm.link a=.ok L/\Cm.iH s=(L,0,-1):=by
 unfold Cm.iH;cases hp:Ps.parse s with
 |bad c l=>left;have:=Cm.s7 hp;simp only;omega
 |ok v u=>
  simp only;cases hc:Cm.compile v with
  |bad c p=>
   left
   have h1:¬c=0:=by
    unfold Cm.compile at hc;split at hc
    .exact Cm.Dg _ _ _ _ _ _ hc
    .injection hc with hc _;omega
   exact h1
  |ok a=>
   simp only;cases hl:Cm.link a with
   |bad c p=>left;exact Cm.D5 hl
   |ok L=>right;exact⟨v,u,a,L,rfl,hc,hl,rfl⟩
theorem nv(s:ByteArray)(w:World)(hs:s.size<=1000000000000000000):Calls Tryz.prog 5 #[.string s] w (I9 s.data.toList w):=by
 have HSE:=Jf (L6 s);by_cases hl:2000<s.size
 .have tl:decide ((2000:Int)<(s.size:Int))=true:=K5 (by omega);have HLL:=Jf (show 2000<s.data.toList.length by rw[<-HSE.out];exact hl);clear hl;go_enter Tryz.func5,Tryz.ntmps5;go_wp2_with fail
  go_ret2
  exact⟨Ji _ _,.inl ⟨rfl,.inl HLL.out⟩⟩
 .have tl:decide ((2000:Int)<(s.size:Int))=false:=JV (by omega);have HLL:=Jf (show s.data.toList.length<=2000 by rw[<-HSE.out];omega);have HSC:=Jf (si s w (by omega));clear hl;go_enter Tryz.func5,Tryz.ntmps5;go_wp2_with fail;refine HSC.out.mono ?_;rintro e1 w1 ⟨A,cp,rfl,hs1,hl1,hm1,hb1⟩;have HB:=Jf hb1;have HS:=Jf hs1;have HCA:=Jf (Cm.DP s.data.toList);clear hs1 hb1 HSC;obtain⟨R,hR⟩:∃R,Cm.iH s.data.toList=R:=⟨_,rfl⟩;rw[hR] at HS HCA hl1 ⊢;have HRR:=Jf hR;obtain⟨L,c,pl⟩:=R;simp only at HS HCA hl1 ⊢;clear hR;by_cases hc:c=0
  .have hcb:((c:Int) !=0)=false:=by simp[hc]
   have HND:=Jf (show∃v a,NdT s.data.toList v a L from by
    rcases HCA.out with h|⟨v,u,a,L',h1,h2,h3,h4⟩
    .exact absurd hc h
    .injection h4 with h4 h5;subst h4;exact⟨v,a,HLL.out,⟨u,h1⟩,wC (by have:=HLL.out;omega) h1,h2,h3,by rw[HRR.out,hc];injection h5 with _ h6;rw[h6]⟩)
   clear hc HCA;go_wp2_with fail
   go_ret2
   obtain⟨v,a,hnd⟩:=HND.out;exact⟨HB.out,.inr ⟨v,a,L,A,cp,rfl,hnd,HS.out,hl1,hm1⟩⟩
  .have hcb:((c:Int) !=0)=true:=by rw[LV];omega
   have HCN:=Jf hc;clear hc HCA;go_wp2_with fail
   go_ret2
   exact⟨HB.out,.inl ⟨rfl,.inr (by rw[HRR.out];exact HCN.out)⟩⟩
def OwnP(l:List Jd)(w:World)(e:Ending)(w':World):Prop:=∃(A:Option Addr) (c:Nat),e=.returned (.slice A l.length c)/\Strs w'.cell? A l/\l.length<=c/\c<=maxLen/\Below w.heap.size w w'
def Ib(G:World->Prop):Prop:=∀(P:Cm.Names) (tx:Jd) (nall npass:Bool) (keys:List Cm.Key) (A2:Option Addr) (c2:Nat) (v:Vl) (xv:Value) (w:World),G w->gS w.cell? A2 keys->keys.length<=c2->c2<=maxLen->keys.length<=1000000->(∀K∈keys,iZ K.v)->iZ v->v.In w.cell? xv->(nall=true->keys=[])->
 Calls Tryz.prog 11 #[.agg #[.string ⟨tx.toArray⟩,.bool nall,.bool npass,.slice A2 keys.length c2],xv] w (OwnP (Ow.own ⟨P,nall,npass,keys⟩ v) w)
theorem wB(s:ByteArray)(v:Vl)(u:Jd)(hs:s.size<=2000)(hp:Ps.parse s.data.toList=.ok v u)(w:World):
  Calls Tryz.prog 6 #[.string s] w λe w'=>∃x,e=.returned (.tuple #[x,.int .i64 1])/\v.In w'.cell? x/\Below w.heap.size w w':=by
 have HPS:=Jf hp;have HZ:=Jf (Blk.new w 31 ag);have HB:=Jf (show Below w.heap.size w (w.alloc (.cells ag 31)) from(Ji _ _).alloc (Jh _) _);have HP:=Jf (km s (by omega) (w.alloc (.cells ag 31)));have hsz:(w.alloc (.cells ag 31)).heap.size=w.heap.size+1:=by simp
 have t1:decide ((2000:Int)<(s.size:Int))=false:=by simp;omega
 clear hp;go_enter Tryz.func6,Tryz.ntmps6;go_wp2_with fail;refine HP.out.mono ?_;rintro e w3 ⟨v3,x,c,p,rfl,hin,hb3,hp3⟩;rw[HPS.out] at hp3;obtain⟨rfl,rfl,_⟩:=hp3;obtain⟨k_1,k_2,k_3,k_4,k_5,k_6,k_7,k_8,k_9,k_a,k_b,k_c,rfl⟩:=In.cells hin;rw[hsz] at hin hb3;have hb4:=(Ji w3.heap.size w3).alloc (Jh _) (.cells #[.int .i64 k_1,k_2,k_3,k_4,.int .i64 k_5,k_6,.slice k_7 k_8 k_9,.slice k_a k_b k_c] 31);have HZ4:=Jf ((HZ.out.below hb3 (by omega)).on hb4);have HB4:=Jf ((HB.out.trans (hb3.mono (by omega))).trans (hb4.mono (by have:=hb3.size;have:=HB.out.size;omega)));have BOX:=Jf (Blk.new w3 31 #[.int .i64 k_1,k_2,k_3,k_4,.int .i64 k_5,k_6,.slice k_7 k_8 k_9,.slice k_a k_b k_c]);have HIN:=Jf (show v3.In ((w3.alloc (.cells #[.int .i64 k_1,k_2,k_3,k_4,.int .i64 k_5,k_6,.slice k_7 k_8 k_9,.slice k_a k_b k_c] 31)).on (w.heap.size+1<=·)) (.agg #[.int .i64 k_1,k_2,k_3,k_4,.int .i64 k_5,k_6,.slice k_7 k_8 k_9,.slice k_a k_b k_c]) from In.keep (dN (λ_ h _=>h) (λb _ h2=>hb4.block b h2)) _ _ hin);clear hin hb3 hb4 HP HB HZ;go_upto_region 4 with(fail);generalize w3.alloc (.cells #[.int .i64 k_1,k_2,k_3,k_4,.int .i64 k_5,k_6,.slice k_7 k_8 k_9,.slice k_a k_b k_c] 31)=w4 at*
 obtain⟨z0,z1,z2,z3,z4,z5,z6,z7⟩:=HZ4.out.eight;have zf:=HZ4.out.frozen;have zl:=HZ4.out.lt;obtain⟨y0,y1,y2,y3,y4,y5,y6,y7⟩:=BOX.out.eight;go_wp2_with fail;refine Ju (aM (l:=[_,_,_,_,_,_,_,_]) rfl _ _ _ rfl (HZ4.out.bg _ _ _ _ _ _ _ _) Tryz.underlying31 rfl (by kernel_rfl)) rfl ?_;exact⟨_,rfl,In.keep (xS _ _) _ _ (nr HIN.out (L9 _) (KD _) _ _ _ _ _ _ _ _),aX HB4.out (Jh _) _ _ _ _ _ _ _ _⟩
def Ow.two:Vl:=.mk 2 false ⟨false,[50],0⟩ [] [] []
def Ow.FW:Vl:=.mk 2 false ⟨false,[49],0⟩ [] [] []
def Ow.exV:Vl:=.mk 5 false Nm.Num.zero [] [] [(Ow.D0,Ow.two)]
def Ow.exN:List Cm.Node:=[⟨[],false,false,[⟨Ow.D0,Ow.two,[]⟩]⟩]
def Ow.exS:Jd:=[123,34,109,105,110,105,109,117,109,34,58,50,125]
theorem Ow.kQ:Ps.parse Ow.exS=.ok Ow.exV []:=by kernel_rfl
theorem Ow.zK:Ps.parse [49]=.ok Ow.FW []:=by kernel_rfl
theorem Ow.mW:Cm.compile Ow.exV=.ok Ow.exN:=by kernel_rfl
theorem Ow.mX:Cm.link Ow.exN=.ok Ow.exN:=by
 unfold Cm.link;rw[show Cm.aq Ow.exN Ow.exN=.ok Ow.exN by kernel_rfl];simp only;rw[Cm.sn (out:=Ow.exN) (λq hq h=>by
  have hs:∀a b,¬Cm.Step Ow.exN a b:=λa b ⟨N,hN,hb⟩=>by
   have ha:a=0:=by have:=(Jm.1 hN).1;simp[Ow.exN] at this;exact this
   subst ha;obtain rfl:(⟨[],false,false,[⟨Ow.D0,Ow.two,[]⟩]⟩:Cm.Node)=N:=by simpa[Ow.exN] using hN
   simp[Cm.yc,Cm.bW] at hb
  cases h with
  |one k=>exact hs _ _ k
  |more _ k=>exact hs _ _ k)]
theorem Ow.zL:Cm.iH Ow.exS=(Ow.exN,0,-1):=by
 unfold Cm.iH;rw[Ow.kQ];simp only;rw[Ow.mW];simp only;rw[Ow.mX];rfl
theorem th(s:ByteArray)(w:World)(hs:s.size<=2000){L:List Cm.Node}(h:Cm.iH s.data.toList=(L,0,-1)):Calls Tryz.prog 5 #[.string s] w λe w'=>∃(A:Option Addr) (cp:Nat),e=.returned (.tuple #[.slice A L.length cp,.int .i64 1])/\SlN w'.cell? A L/\L.length<=cp/\cp<=maxLen/\Below w.heap.size w w':=by
 refine(nv s w (by omega)).mono ?_;rintro e w' ⟨hb,⟨rfl,h2⟩|⟨v,a,L',A,cp,rfl,hnd,h1,h2,h3⟩⟩
 .exfalso
  rcases h2 with h2|h2
  .rw[<-Lib.size_eq] at h2;omega
  .exact h2 (by rw[h])
 .have h4:=hnd.sch;rw[h] at h4;injection h4 with h4 _;subst h4;exact⟨A,cp,rfl,h1,h2,h3,hb⟩
theorem Cm.re{nd:Nat->Cm.Names->Vl->Cm.Res (List Cm.Node)}(hnd:∀off P u a,nd off P u=.ok a->u.may=true->∀N∈a,N.all=true->N.keys=[]){single:Bool}{under:Cm.Names}:∀{l:List Js.Mem} {off:Nat} {ks:List (Jd×Nat)} {a:List Cm.Node},Cm.ar nd single under off l=.ok (ks,a)->(∀p∈l,p.2.may=true)->∀N∈a,N.all=true->N.keys=[]
 |[],off,ks,a,e,_,N,hN=>by
  rw[Cm.ar] at e;injection e with e;injection e with e1 e2;subst e1 e2
  cases hN
 |(key,u)::r,off,ks,a,e,hq,N,hN=>by
  obtain⟨a1,ks2,a2,h1,h2,rfl,rfl⟩:=Cm.aN e;rcases Jq.1 hN with k|k
  .exact hnd _ _ _ _ h1 (hq (key,u) (by simp)) N k
  .exact Cm.re hnd h2 (λp hp=>hq p (by simp[hp])) N k
theorem Cm.rK{nd:Nat->Cm.Names->Vl->Cm.Res (List Cm.Node)}(hnd:∀off P u a,nd off P u=.ok a->u.may=true->∀N∈a,N.all=true->N.keys=[]){P:Cm.Names}:∀{m:List Js.Mem} {off:Nat} {keys:List Cm.Key} {a:List Cm.Node},Cm.av nd P off m=.ok (keys,a)->(∀p∈m,p.2.may=true)->∀N∈a,N.all=true->N.keys=[]
 |[],off,keys,a,e,_,N,hN=>by
  rw[Cm.av] at e;injection e with e;injection e with e1 e2;subst e1 e2
  cases hN
 |(nm,w)::r,off,keys,a,e,hq,N,hN=>by
  obtain⟨_,ks,a1,keys2,a2,h1,h2,rfl,rfl⟩:=Cm.bG e;rcases Jq.1 hN with k|k
  .exact Cm.re hnd h1 (λp hp=>Cm.rq (hq (nm,w) (by simp)) hp) N k
  .exact Cm.rK hnd h2 (λp hp=>hq p (by simp[hp])) N k
theorem Cm.Dh(f:Nat):∀off P u a,Cm.node f off P u=.ok a->u.may=true->∀N∈a,N.all=true->N.keys=[]:=by
 induction f with
 |zero=>intro off P u a h;cases h
 |succ f ih=>
  intro off P u a h hu;obtain⟨k,b,n,s,l,m⟩:=u;obtain⟨_,keys,r,h1,rfl⟩:=Cm.dd h;have hm:=(br m).1 (au hu).2.2.2.2.2.2.2.2.2.2.1;have h6:=(au hu).2.2.2.2.2.2.1;intro N hN ha;rcases JB.1 hN with rfl|q
  .have hk:k=1:=by simpa using ha
   have hm0:=h6 (by omega);subst hm0;rw[Cm.av] at h1;injection h1 with h1;injection h1 with h1 _;exact h1.symm
  .exact Cm.rK ih h1 (λp hp=>(hm p hp).2) N q ha
theorem Cm.uS{v:Vl}{a:List Cm.Node}(h:Cm.compile v=.ok a)(hv:v.may=true):∀N∈a,N.all=true->N.keys=[]:=by
 unfold Cm.compile at h;split at h
 .exact Cm.Dh _ _ _ _ _ h hv
 .cases h
theorem Cm.rS{s:Jd}{v:Vl}{a L:List Cm.Node}(h:NdT s v a L):∀N∈L,N.keys.length<=1000000/\(∀K∈N.keys,iZ K.v)/\(N.all=true->N.keys=[]):=by
 have hgd:=Cm.vj h.wide h.comp;have hw:∀N∈a,∀K∈N.keys,iZ K.v:=λN hN K hK=>by
  have:=Cm.mQ h.comp h.wide.2.2 h.wide.2.1 N hN K hK;have hm:=Cm.mR (Q:=λv=>v.may=true) (λk b n s l m hv p hp=>by
   simp only[Vl.may,JH] at hv;exact((br m).1 (by simp_all) p hp).2) (λnm v hv p hp=>Cm.rq hv hp) h.comp h.wide.1 N hN K hK
  exact⟨hm,this.2,this.1⟩
 have hl:=h.link;unfold Cm.link at hl;split at hl
 .cases hl
 .rename_i out ho;split at hl
  .cases hl
  .injection hl with hl;subst hl;obtain⟨hle,hq⟩:=Cm.gi ho;intro N' hN';obtain⟨k,hk⟩:=JP hN';have hkl:k<a.length:=by have:=(Jm.1 hk).1;omega
   obtain⟨ks,e1,e2⟩:=hq k _ (Jg hkl);rw[hk] at e1;injection e1 with e1;subst e1;obtain⟨q1,q2⟩:=Cm.iP e2;refine⟨by show ks.length<=_;rw[q1];exact hgd.keys _ (Jv hkl),λK' hK'=>?_,λhall=>?_⟩
   .obtain⟨j,hj⟩:=JP hK';have hj0:ks[j]? =some K':=hj;have hjl:j<a[k].keys.length:=by have:=(Jm.1 hj0).1;omega
    obtain⟨K2,e3,_,hv2,_⟩:=q2 j _ (Jg hjl);rw[hj0] at e3;injection e3 with e3;subst e3;rw[hv2];exact hw _ (Jv hkl) _ (Jv hjl)
   .have h0:=Cm.uS h.comp h.wide.1 _ (Jv hkl) hall;rw[h0] at q1;exact K6 q1
theorem DX{w:World}{g:Nat}{t:TypeId}{v y:Vl}{c0 c1 c2 c3 c4 c5 c6 c7 d0 d1 d2 d3 d4 d5 d6 d7:Value}(hb:Blk w g t #[c0,c1,c2,c3,c4,c5,c6,c7,d0,d1,d2,d3,d4,d5,d6,d7])(hv:v.In w.cell? (.agg #[c0,c1,c2,c3,c4,c5,c6,c7]))(hy:y.In w.cell? (.agg #[d0,d1,d2,d3,d4,d5,d6,d7])):SlL w.cell? (some ⟨g,0,none⟩) [v,y]:=λi x hi=>by
 have hl:=(Jm.1 hi).1;rcases(show i=0\/i=1 by simp at hl;omega) with rfl|rfl
 .obtain rfl:v=x:=by simpa using hi
  refine⟨g,0,_,rfl,hv,λq z hz=>?_⟩;have hq:q<8:=(KE.1 hz).1;rw[show 0+0*8+q=q by omega,hb.cell,<-hz]
  match q,hq with
  |0,_=>rfl
  |1,_=>rfl
  |2,_=>rfl
  |3,_=>rfl
  |4,_=>rfl
  |5,_=>rfl
  |6,_=>rfl
  |7,_=>rfl
 .obtain rfl:y=x:=by simpa using hi
  refine⟨g,0,_,rfl,hy,λq z hz=>?_⟩;have hq:q<8:=(KE.1 hz).1;rw[show 0+1*8+q=8+q by omega,hb.cell,<-hz]
  match q,hq with
  |0,_=>rfl
  |1,_=>rfl
  |2,_=>rfl
  |3,_=>rfl
  |4,_=>rfl
  |5,_=>rfl
  |6,_=>rfl
  |7,_=>rfl
theorem EI{c:Cl}{A:Option Addr}{l:List Vl}{e n:Nat}(h:SlL c A l)(hn:n=l.length)(h1:l.length<=e)(h2:e<=maxLen):(Vl.mk 4 false Nm.Num.zero [] l []).In c (.agg #[.int .i64 4,false,false,.string ⟨#[]⟩,.int .i64 0,.string ⟨#[]⟩,.slice A n e,.slice none 0 0]):=by
 subst hn;exact In.mk' (k:=4) (b:=false) (n:=Nm.Num.zero) (s:=[]) h (λi p hp=>by simp at hp) h1 h2 (Jh _) (JE _)
end
section
open Go.RowKit Pt Js
theorem zh{l:List Vl}(hm:pQ l=true)(hz:aH l<=999999)(hs:fh 1000000 l):iZ (.mk 4 false Nm.Num.zero [] l []):=
 ⟨by simp only[Vl.may,hm];simp[s0,rG,bO];exact⟨by decide,by decide⟩,by simp only[Vl.size,aE];omega,⟨by decide,by decide,hs,trivial⟩⟩
theorem Bs{v y:Vl}(hv:sV v)(hy:sV y):iZ (.mk 4 false Nm.Num.zero [] [y,v] []):=
 zh (by simp[pQ,hv.1,hy.1]) (by have:=hv.2.1;have:=hy.2.1;simp only[aH];omega) ⟨fG (by omega) y hy.2.2.2.2,fG (by omega) v hv.2.2.2.2,trivial⟩
end
