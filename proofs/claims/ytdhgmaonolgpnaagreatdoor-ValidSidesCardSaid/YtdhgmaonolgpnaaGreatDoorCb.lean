import Derived.Test.YtdhgmaonolgpnaaGreatDoorPw
set_option linter.unusedSimpArgs false
set_option linter.unusedVariables false
set_option maxHeartbeats 2000000
set_option maxRecDepth 100000
namespace Go.Proofs.YtdhgmaonolgpnaaGreatDoor
section
open Go.RowKit Js
theorem eE(nm:Jd)(w:World):Calls Tryz.prog 84 #[.string ⟨nm.toArray⟩] w λe w'=>e=.returned (.bool (Sh.single nm))/\w'=w:=by
 by_cases h1:nm=[105,116,101,109,115]
 .subst h1;go_enter Tryz.func84,Tryz.ntmps84;go_wp2_with fail;go_ret;exact⟨by kernel_rfl,rfl⟩
 by_cases h2:nm=[97,100,100,105,116,105,111,110,97,108,80,114,111,112,101,114,116,105,101,115]
 .subst h2;go_enter Tryz.func84,Tryz.ntmps84;go_wp2_with fail;go_ret;exact⟨by kernel_rfl,rfl⟩
 by_cases h3:nm=[110,111,116]
 .subst h3;go_enter Tryz.func84,Tryz.ntmps84;go_wp2_with fail;go_ret;exact⟨by kernel_rfl,rfl⟩
 have HN:=Jf (show Sh.single nm=false from JV (Sh.pV [[105,116,101,109,115],[97,100,100,105,116,105,111,110,97,108,80,114,111,112,101,114,116,105,101,115],[110,111,116]] (by decide) (by simp[h1,h2,h3]) (by decide)));have e1:(nm==[105,116,101,109,115])=false:=by simpa using h1
 have e2:(nm==[97,100,100,105,116,105,111,110,97,108,80,114,111,112,101,114,116,105,101,115])=false:=by simpa using h2
 have e3:(nm==[110,111,116])=false:=by simpa using h3
 clear h1 h2 h3;go_enter Tryz.func84,Tryz.ntmps84;go_wp2_with fail;go_ret;exact⟨by rw[HN.out];rfl,rfl⟩
theorem jr(v:Vl)(x:Value)(w:World)(hx:v.In w.cell? x):Calls Tryz.prog 45 #[x] w λe w'=>e=.returned (.bool (Sh.jD v))/\Below w.heap.size w w':=by
 obtain⟨k,b,n,s,l,m⟩:=v;obtain⟨A,e,B,d,rfl,-,-,-,-,-,-⟩:=In.form hx;have HB:=Jf ((Ji w.heap.size w).alloc (Jh _) (.cells #[.int .i64 k,b,n.neg,n.digits,.int .i64 n.exp,s,.slice A l.length e,.slice B m.length d] 31));clear hx;by_cases h1:k=1
 .have t1:(k==1)=true:=by simpa using h1
  have HS:=Jf (show Sh.jD (.mk k b n s l m)=true by simp[Sh.jD,Sh.kindOf,h1]);clear h1;go_enter Tryz.func45,Tryz.ntmps45;go_wp2_with fail;go_ret;exact⟨by rw[HS.out];rfl,HB.out⟩
 .have t1:(k==1)=false:=by simpa using h1
  have HS:=Jf (show Sh.jD (.mk k b n s l m)=decide (k=5) from(Kk (·||decide (k=5)) (JV h1)).trans (N7 _));clear h1;by_cases h5:k=5
  .have t5:(k==5)=true:=by simpa using h5
   have HD:=Jf (show decide (k=5)=true from K5 h5);clear h5;go_enter Tryz.func45,Tryz.ntmps45;go_wp2_with fail;go_ret;exact⟨by rw[HS.out,HD.out];rfl,HB.out⟩
  .have t5:(k==5)=false:=by simpa using h5
   have HD:=Jf (show decide (k=5)=false from JV h5);clear h5;go_enter Tryz.func45,Tryz.ntmps45;go_wp2_with fail;go_ret;exact⟨by rw[HS.out,HD.out];rfl,HB.out⟩
theorem nJ(v:Vl)(x:Value)(w:World)(hx:v.In w.cell? x):Calls Tryz.prog 114 #[x] w λe w'=>e=.returned (.bool (Sh.isName v))/\Below w.heap.size w w':=by
 obtain⟨k,b,n,s,l,m⟩:=v;obtain⟨A,e,B,d,rfl,-,-,-,-,-,-⟩:=In.form hx;have HY:=Jf (λj hj h3 he=>Sh.zW (k:=k) (b:=b) (n:=n) (s:=s) (l:=l) (m:=m) (j:=j) hj h3 he);have HNO:=Jf (λh=>Sh.CZ (k:=k) (b:=b) (n:=n) (s:=s) (l:=l) (m:=m) h);have HB0:=Jf (show aL w k b n.neg n.digits n.exp s (.slice A l.length e) (.slice B m.length d) ((w.alloc (.cells #[.int .i64 k,b,n.neg,n.digits,.int .i64 n.exp,s,.slice A l.length e,.slice B m.length d] 31)).alloc (.cells #[.string ⟨#[110,117,108,108]⟩,.string ⟨#[98,111,111,108,101,97,110]⟩,.string ⟨#[110,117,109,98,101,114]⟩,.string ⟨#[105,110,116,101,103,101,114]⟩,.string ⟨#[115,116,114,105,110,103]⟩,.string ⟨#[97,114,114,97,121]⟩,.string ⟨#[111,98,106,101,99,116]⟩] 9)) from
  aL.start.next ((Ji _ _).alloc (Jh _) _))
 have HN0:=Jf (show∀p (hp:p<Sh.typeNames.length),((w.alloc (.cells #[.int .i64 k,b,n.neg,n.digits,.int .i64 n.exp,s,.slice A l.length e,.slice B m.length d] 31)).alloc (.cells #[.string ⟨#[110,117,108,108]⟩,.string ⟨#[98,111,111,108,101,97,110]⟩,.string ⟨#[110,117,109,98,101,114]⟩,.string ⟨#[105,110,116,101,103,101,114]⟩,.string ⟨#[115,116,114,105,110,103]⟩,.string ⟨#[97,114,114,97,121]⟩,.string ⟨#[111,98,106,101,99,116]⟩] 9)).cell? ⟨w.heap.size+1,p,none⟩=some (.string ⟨(Sh.typeNames[p]'hp).toArray⟩) fromλp hp=>by
  rw[(Blk.cW w _ 9 #[.string ⟨#[110,117,108,108]⟩,.string ⟨#[98,111,111,108,101,97,110]⟩,.string ⟨#[110,117,109,98,101,114]⟩,.string ⟨#[105,110,116,101,103,101,114]⟩,.string ⟨#[115,116,114,105,110,103]⟩,.string ⟨#[97,114,114,97,121]⟩,.string ⟨#[111,98,106,101,99,116]⟩]).cell p];have h7:p<7:=hp;rcases(show p=0\/p=1\/p=2\/p=3\/p=4\/p=5\/p=6 by omega) with rfl|rfl|rfl|rfl|rfl|rfl|rfl<;>rfl)
 clear hx;go_enter Tryz.func114,Tryz.ntmps114;go_wp2_with fail
 go_loopw [4] (λi wr=>∃j:Nat,j<=7/\i=.int .i64 j/\aL w k b n.neg n.digits n.exp s (.slice A l.length e) (.slice B m.length d) wr/\(∀p (hp:p<Sh.typeNames.length),wr.cell? ⟨w.heap.size+1,p,none⟩=some (.string ⟨(Sh.typeNames[p]'hp).toArray⟩))/\∀p (hp:p<Sh.typeNames.length),p<j->¬(k=3/\s=Sh.typeNames[p]'hp)) (λi _=>7-(intOf i).toNat)
 case atStart=>exact⟨0,by omega,rfl,HB0.out,HN0.out,λp _ h=>absurd h (Kt _)⟩
 case round=>
  obtain⟨j,hj,rfl,hW,hN,hno⟩:=hrel;have HW:=Jf hW;have HN:=Jf hN;have HX:=Jf hno;obtain⟨f0,f1,f2,f3,f4,f5,f6,f7⟩:=hW.cells;clear hW hN hno HB0 HN0;by_cases hlt:j<7
  .have hc:=HN.out j hlt;have HYJ:=Jf (HY.out j hlt);have hgl:=Jn _ _ hc;have HNX:=Jf (show¬(k=3/\s=Sh.typeNames[j]'hlt)->∀p (hp:p<Sh.typeNames.length),p<j+1->¬(k=3/\s=Sh.typeNames[p]'hp) fromλh p hp hpj=>by
    by_cases e:p=j
    .subst e;exact h
    .exact HX.out p hp (by omega))
   have hj7:(j:Int)<7:=by omega
   generalize Sh.typeNames[j]'hlt=t at*
   by_cases hk:k=3
   .have t3:(k==3)=true:=by simpa using hk
    by_cases hs:s=t
    .have hsb:(s==t)=true:=by simpa using hs
     have HF:=Jf (HYJ.out hk hs);clear hs hk;go_upto_region 5 with(fail);go_quiet (fail);go_wp2_with fail;go_ret;exact⟨by rw[HF.out];rfl,below_drewN HW.out.below _⟩
    .have hsb:(s==t)=false:=by simpa using hs
     have HF:=Jf (HNX.out (λh=>hs h.2));clear hs hk;go_upto_region 5 with(fail);go_quiet (fail);go_wp2_with fail;go_roundw;case rel=>exact⟨j+1,by omega,by go_num,HW.out.next (below_drewN (Ji _ _) _),HN.out,HF.out⟩
     case measure=>simp[intOf];omega
   .have t3:(k==3)=false:=by simpa using hk
    have HF:=Jf (HNX.out (λh=>hk h.1));clear hk;go_upto_region 5 with(fail);go_quiet (fail);go_wp2_with fail;go_roundw;case rel=>exact⟨j+1,by omega,by go_num,HW.out.next (below_drewN (Ji _ _) _),HN.out,HF.out⟩
    case measure=>simp[intOf];omega
  .obtain rfl:j=7:=by omega
   have HF:=Jf (HNO.out (λp hp=>HX.out p hp hp));go_wp2_with fail;go_ret;exact⟨by rw[HF.out];rfl,HW.out.below⟩
theorem xe{c:Cl}{A:Option Addr}{l:List Vl}(h:SlL c A l){j:Nat}{u:Vl}(hj:l[j]? =some u):∃(g o:Nat) (k:Int) (b:Bool) (n:Nm.Num) (s:Jd) (l1:List Vl) (m1:List Js.Mem) (A1:Option Addr) (e1:Nat) (B1:Option Addr) (d1:Nat),
  A=some ⟨g,o,none⟩/\u=.mk k b n s l1 m1/\bP c g (o+j*8) (.agg #[.int .i64 k,b,n.neg,n.digits,.int .i64 n.exp,s,.slice A1 l1.length e1,.slice B1 m1.length d1]):=by
 obtain⟨g,o,y,hA,hy,hc⟩:=h j u hj;obtain⟨k,b,n,s,l1,m1⟩:=u;obtain⟨A1,e1,B1,d1,rfl,-,-,-,-,-,-⟩:=In.form hy;exact⟨g,o,k,b,n,s,l1,m1,A1,e1,B1,d1,hA,rfl,hc⟩
theorem nI(v:Vl)(x:Value)(w:World)(hx:v.In w.cell? x):Calls Tryz.prog 113 #[x] w λe w'=>e=.returned (.bool (Sh.texts v))/\Below w.heap.size w w':=by
 obtain⟨k,b,n,s,l,m⟩:=v;obtain⟨A,e,B,d,rfl,q1,q2,q3,q4,q5,q6⟩:=In.form hx;unfold maxLen at q2 q4;have H5:=Jf (show SlL w.cell? A l from q5);have HT:=Jf (show Sh.texts (.mk k b n s l m)=(Sh.dJ l&&decide (k=4)) from rfl);clear hx q5 q6;go_enter Tryz.func113,Tryz.ntmps113;go_wp2_with fail
 go_loopw [3] (λi wr=>∃j:Nat,j<=l.length/\i=.int .i64 j/\aL w k b n.neg n.digits n.exp s (.slice A l.length e) (.slice B m.length d) wr/\Sh.dJ (l.take j)=true) (λi _=>l.length-(intOf i).toNat)
 case atStart=>exact⟨0,by omega,rfl,aL.start,Sh.Bi⟩
 case round=>
  obtain⟨j,hj,rfl,hW,htx⟩:=hrel;have HW:=Jf hW;have HTX:=Jf htx;obtain⟨f0,f1,f2,f3,f4,f5,f6,f7⟩:=hW.cells;clear hW htx;by_cases hlt:j<l.length
  .obtain⟨g,o,kj,bj,nj,sj,lj,mj,Aj,ej,Bj,dj,hA,hu,hc⟩:=xe H5.out (Jg hlt);subst hA;have HC:=Jf hc;have HU:=Jf hu;have hjj:(j:Int)<(l.length:Int):=by omega
   clear hc hu;obtain⟨wo,hwo⟩:∃W,W=wr:=⟨_,rfl⟩;subst hwo;go_wp2_with fail
   go_loopw [4] (λi wr=>∃q:Nat,q<=j/\i=.int .i64 q/\aL w k b n.neg n.digits n.exp s (.slice (some ⟨g,o,none⟩) l.length e) (.slice B m.length d) wr/\∀p u,p<q->l[p]? =some u->¬Sh.strOf u=sj) (λi _=>j-(intOf i).toNat)
   case atStart=>exact⟨0,by omega,rfl,HW.out,λp u h=>absurd h (Kt _)⟩
   case round=>
    clear f0 f1 f2 f3 f4 f5 f6 f7;obtain⟨q,hq,rfl,hW2,hno⟩:=hrel;have HW2:=Jf hW2;have HNO:=Jf hno;obtain⟨f0,f1,f2,f3,f4,f5,f6,f7⟩:=hW2.cells;have hcj:=(HC.out.keep hW2.le).eight;obtain⟨e0,e1,e2,e3,e4,e5,e6,e7⟩:=hcj;have hgl:=Jn _ _ e0;clear hW2 hno;by_cases hqj:q<j
    .obtain⟨g2,o2,kq,bq,nq',sq,lq,mq,Aq,eq,Bq,dq,hA,hu,hc⟩:=xe H5.out (Jg (show q<l.length by omega));injection hA with hA;injection hA with hg ho _;subst hg ho;have HQ:=Jf hu;obtain⟨d0,d1,d2,d3,d4,d5,d6,d7⟩:=(hc.keep HW2.out.le).eight;have hqi:(q:Int)<(j:Int):=by omega
     have hql:(q:Int)<(l.length:Int):=by omega
     clear hc hu;by_cases hs:sj=sq
     .have hsb:(sj==sq)=true:=by simpa using hs
      have HF:=Jf (show Sh.dJ l=false from Sh.Bh hqj hlt (by rw[HQ.out,HU.out];exact hs.symm));clear hs;go_upto_region 7 with(fail);go_quiet (fail);go_wp2_with fail;go_ret;exact⟨by rw[HT.out,HF.out];rfl,below_drewN HW2.out.below _⟩
     .have hsb:(sj==sq)=false:=by simpa using hs
      have HF:=Jf (show∀p u,p<q+1->l[p]? =some u->¬Sh.strOf u=sj fromλp u hp hpu=>by
       by_cases e:p=q
       .subst e;rw[Jg (show p<l.length by omega),HQ.out] at hpu;injection hpu with hpu;rw[<-hpu]
        exactλh=>hs h.symm
       .exact HNO.out p u (by omega) hpu)
      clear hs;go_upto_region 7 with(fail);go_quiet (fail);go_wp2_with fail;go_roundw;case rel=>exact⟨q+1,by omega,by go_num,HW2.out.next (below_drewN (Ji _ _) _),HF.out⟩
      case measure=>simp[intOf];omega
    .obtain rfl:q=j:=by omega
     by_cases h3:kj=3
     .have t3:(kj==3)=true:=by simpa using h3
      have t3':(kj !=3)=false:=by simpa using h3
      have HF:=Jf (show Sh.dJ (l.take (q+1))=true from Sh.yU hlt HTX.out (by rw[HU.out];exact h3) (λp hp h=>HNO.out p _ hp (Jg _) (by rw[h,HU.out];rfl)));clear h3;go_wp2_with fail;go_roundw;case rel=>exact⟨q+1,by omega,by go_num,HW2.out,HF.out⟩
      case measure=>simp[intOf];omega
     .have t3:(kj==3)=false:=by simpa using h3
      have t3':(kj !=3)=true:=by simpa using h3
      have HF:=Jf (show Sh.dJ l=false from Sh.yT hlt (by rw[HU.out];exact h3));clear h3;go_wp2_with fail;go_ret;exact⟨by rw[HT.out,HF.out];rfl,HW2.out.below⟩
  .obtain rfl:j=l.length:=by omega
   have hl:Sh.dJ l=true:=by have:=HTX.out;rwa[JC] at this
   have HF:=Jf (show Sh.texts (.mk k b n s l m)=decide (k=4) by rw[HT.out,hl];rfl);clear hl;by_cases h4:k=4
   .have t4:(k==4)=true:=by simpa using h4
    have HD:=Jf (show decide (k=4)=true from K5 h4);clear h4;go_wp2_with fail;go_ret;exact⟨by rw[HF.out,HD.out];rfl,HW.out.below⟩
   .have t4:(k==4)=false:=by simpa using h4
    have HD:=Jf (show decide (k=4)=false from JV h4);clear h4;go_wp2_with fail;go_ret;exact⟨by rw[HF.out,HD.out];rfl,HW.out.below⟩
theorem s9(m:List Js.Mem)(A:Option Addr)(cp:Nat)(w:World)(hs:SlM w.cell? A m)(hl:m.length<=cp)(hm:cp<=maxLen):Calls Tryz.prog 116 #[.slice A m.length cp] w λe w'=>e=.returned (.bool (Sh.allM m))/\Below w.heap.size w w':=by
 have HS:=Jf hs;unfold maxLen at hm;clear hs;go_enter Tryz.func116,Tryz.ntmps116;go_wp2_with fail
 go_loopw [3] (λi wr=>∃j:Nat,j<=m.length/\i=.int .i64 j/\Below w.heap.size w wr/\Sh.allM (m.take j)=true) (λi _=>m.length-(intOf i).toNat)
 case atStart=>exact⟨0,by omega,rfl,Ji _ _,rfl⟩
 case round=>
  obtain⟨j,hj,rfl,hb,hal⟩:=hrel;have HB:=Jf hb;have HAL:=Jf hal;clear hb hal;by_cases hlt:j<m.length
  .obtain⟨g,o,y,rfl,hy,hk,hc⟩:=HS.out j _ (Jg hlt);obtain⟨k1,b1,n1,g1,x1,s1,A1,l1,p1,B1,m1,d1,rfl⟩:=In.cells hy;have HSC:=Jf (jr (m[j]).2 _ wr (In.keep (aa HB.out) _ _ hy));obtain⟨e0,e1,e2,e3,e4,e5,e6,e7⟩:=(hc.keep (aa HB.out)).eight;have HN:=Jf (λh=>Sh.Cx hlt HAL.out h);have HX:=Jf (λh=>Sh.EH (m:=m) hlt h);have hjj:(j:Int)<(m.length:Int):=by omega
   have hgl:=Jn _ _ e0;clear hy hk hc;obtain⟨sb,hsb⟩:∃sb,Sh.jD (m[j]).2=sb:=⟨_,rfl⟩;rw[hsb] at HSC HN HX;clear hsb;go_wp2_with fail;refine HSC.out.mono ?_;rintro e2 w2 ⟨rfl,hb2⟩;have HB2:=Jf (HB.out.trans (hb2.mono HB.out.size));clear hb2 HSC;cases sb with
   |true=>
    go_wp2_with fail;go_roundw;case rel=>exact⟨j+1,by omega,by go_num,HB2.out,HN.out (by simp)⟩
    case measure=>simp[intOf];omega
   |false=>
    go_wp2_with fail;go_ret;exact⟨by rw[HX.out (by simp)];rfl,HB2.out⟩
  .obtain rfl:j=m.length:=by omega
   have HF:=Jf (show Sh.allM m=true by have:=HAL.out;rwa[JC] at this);go_wp2_with fail;go_ret;exact⟨by rw[HF.out];rfl,HB.out⟩
theorem tv(n:Nat)(w:World)(h:n<=1000000):Calls Tryz.prog 117 #[.int .i64 n] w λe w'=>e=.returned (.string ⟨(Lib.decDigits n).toArray⟩)/\Below w.heap.size w w':=by
 have HI:=Jf (tz n w h);clear h;go_enter Tryz.func117,Tryz.ntmps117;go_wp2_with fail;refine HI.out.mono ?_;rintro e w1 ⟨rfl,hb⟩;go_wp2_with fail;go_ret;exact⟨rfl,hb⟩
def wH(S:Nat->Prop)(r:List Js.Mem)(w:World)(e:Ending)(w':World):Prop:=
 ∃(A:Option Addr) (cp:Nat),e=.returned (.slice A r.length cp)/\SlM (w'.on λb=>S b\/w.heap.size<=b) A r/\r.length<=cp/\cp<=maxLen/\Below w.heap.size w w'
theorem jN{K:Act->World->Prop}{a:Act}{w':World}(F:World->Prop)(hF:F w')(h:∀W,F W->K a W):K a w':=h w' hF
theorem iF.more{α:Type}{It:Cl->α->List Value->Prop}{T:TypeId}{k:Nat}{S:Nat->Prop}(hmono:∀{c c':Cl},c.le c'->∀{a cs},It c a cs->It c' a cs){w:World}{B:Nat}{A:Option Addr}{cp j:Nat}{acc:List α}(hj:acc.length=j)(h:iF It T k S w B A cp acc):
  ∃flat,w.ownsRow B T k (.slice A j cp) j flat/\∀{w6:World} {a:α} {cs:List Value} {g cap:Nat},It (w.on (wL S B A)) a cs->(∀u∈cs,u.oneCell'=true)->w6.ownsRow B T k (.slice (some ⟨g,0,none⟩) (j+1) cap) (j+1) (flat++cs)->w.grownBy w6 (Value.slice A j cp).ownBlock->((Value.slice A j cp).ownBlock=some g\/g=w.heap.size)->iF It T k S w6 B (some ⟨g,0,none⟩) cap (acc++[a]):=by
 subst hj;obtain⟨flat,hown,hone,hel⟩:=h;exact⟨flat,hown,λha hcs h6 hg hat=>iF.push hmono hown hone hel (Ji _ _) ha hcs h6 hg hat⟩
theorem DY{w:World}{S:Nat->Prop}{g:Nat}{t:TypeId}{nm:Jd}{x:Vl}{c0 c1 c2 c3 c4 c5 c6 c7:Value}(hb:Blk w g t #[.string ⟨nm.toArray⟩,c0,c1,c2,c3,c4,c5,c6,c7])(hg:S g)
  (hx:x.In (w.on S) (.agg #[c0,c1,c2,c3,c4,c5,c6,c7])):SlM (w.on S) (some ⟨g,0,none⟩) [(nm,x)]:=λi p hi=>by
 have hl:=(Jm.1 hi).1;obtain rfl:i=0:=by simpa using hl
 obtain rfl:(nm,x)=p:=by simpa using hi
 refine⟨g,0,_,rfl,hx,ah.2 ⟨hg,hb.cell 0⟩,λj u hu=>ah.2 ⟨hg,?_⟩⟩;rw[hb.cell];have e:(#[.string ⟨nm.toArray⟩,c0,c1,c2,c3,c4,c5,c6,c7]:Array Value)=#[.string ⟨nm.toArray⟩]++#[c0,c1,c2,c3,c4,c5,c6,c7]:=rfl;rw[e,show 0+0*9+1+j=1+j by omega,MZ (by simp)];simpa[Value.cells] using hu
theorem aL.GV{w w' w6:World}{k:Int}{b neg:Bool}{dg:Jd}{ex:Int}{s:Jd}{lv mv:Value}{row:Option Nat}(h:aL w k b neg dg ex s lv mv w')(hg:w'.grownBy w6 row)(hr:∀q,row=some q->w.heap.size+1<=q):aL w k b neg dg ex s lv mv w6:=by
 have h2:Below _ _ w':=h;exact h2.grown hg (by have:=h2.size;simp at this;omega) hr
theorem aL.IU{w w':World}{k:Int}{b neg:Bool}{dg:Jd}{ex:Int}{s:Jd}{lv mv:Value}(h:aL w k b neg dg ex s lv mv w'):w.heap.size+1<=w'.heap.size:=by
 have h2:Below _ _ w':=h;have:=h2.size;simp at this;omega
theorem gC(S:Nat->Prop)(nm:Jd)(h10:nm=[97,108,108,79,102]\/nm=[97,110,121,79,102]\/nm=[111,110,101,79,102])(k:Int)(b:Bool)(n:Nm.Num)(s:Jd)(l:List Vl)(m:List Js.Mem)(A:Option Addr)(e:Nat)(B:Option Addr)(d:Nat)(w:World)(hS:∀b,S b->b<w.heap.size)(q1:l.length<=e)(q2:e<=maxLen)(hs5:SlL (w.on S) A l)(hsz:l.length<=1000000):
  Calls Tryz.prog 83 #[nm,.agg #[.int .i64 k,.bool b,.bool n.neg,.string ⟨n.digits.toArray⟩,.int .i64 n.exp,.string ⟨s.toArray⟩,.slice A l.length e,.slice B m.length d]] w (wH S (Sh.aI l) w):=by
 have H5:=Jf hs5;have HS:=Jf hS;have HSG:=Jf (eE nm);unfold maxLen at q2;clear hs5 hS;rcases h10 with rfl|rfl|rfl;all_goals
  rw[show Sh.single _=false by decide] at HSG;go_enter Tryz.func83,Tryz.ntmps83;go_wp2_with fail;refine(HSG.out _).mono ?_;rintro e1 w1 ⟨rfl,rfl⟩;go_wp2_with fail
  go_loopw [6,7] (λo6 i7 wr=>∃(j:Nat) (A1:Option Addr) (c1:Nat) (acc:List Js.Mem),o6=.slice A1 j c1/\i7=.int .i64 j/\j<=l.length/\acc=Sh.aI (l.take j)/\acc.length=j/\aL w k b n.neg n.digits n.exp s (.slice A l.length e) (.slice B m.length d) wr/\iF ItM 95 9 S wr (w.heap.size+1) A1 c1 acc) (λ_ i _=>l.length-(intOf i).toNat)
  case atStart=>exact⟨0,none,0,[],rfl,rfl,by omega,rfl,rfl,aL.start,iF.nil _ _⟩
  case round=>
   obtain⟨j,A1,c1,acc,rfl,rfl,hj,hacc,hlen,hW,hrow⟩:=hrel;have HW:=Jf hW;have HROW:=Jf hrow;have HACC:=Jf hacc;have HLEN:=Jf hlen;have hrl:=hrow.le;rw[hlen] at hrl;obtain⟨f0,f1,f2,f3,f4,f5,f6,f7⟩:=hW.cells;clear hW hrow hacc hlen;by_cases hlt:j<l.length
   .obtain⟨g,o,y,rfl,hy,hc⟩:=H5.out j _ (Jg hlt);obtain⟨y_1,y_2,y_3,y_4,y_5,y_6,y_7,y_8,y_9,y_a,y_b,y_c,rfl⟩:=In.cells hy;have HDG:=Jf (λW=>tv j W (by omega));have HC:=Jf (show bP w.cell? g (o+j*8) (.agg #[.int .i64 y_1,y_2,y_3,y_4,.int .i64 y_5,y_6,.slice y_7 y_8 y_9,.slice y_a y_b y_c]) from hc.keep (my w S));have HY:=Jf hy;have HNX:=Jf (Sh.tm l j hlt);obtain⟨i0,hi0,hz0,hz1,hz2⟩:=Fs;have hjj:(j:Int)<(l.length:Int):=by omega
    have HB0:=Jf HW.out.below;clear hy hc f0 f1 f2 f3 f4 f5 f7;obtain⟨e0,e1,e2,e3,e4,e5,e6,e7⟩:=(HC.out.keep HW.out.le).eight;have hgl:=Jn _ _ e0;clear e0 e1 e2 e3 e4 e5 e6 e7;go_upto_region 11 with(fail);clear f6;refine JT (S:=aL w k b n.neg n.digits n.exp s (.slice (some ⟨g,o,none⟩) l.length e) (.slice B m.length d)) (by kernel_rfl) (HW.out.next (below_drewN (Ji _ _) 1)) (λht=>?_);refine af 0 (.slice A1 j c1) ht ?_ ?_
    .intro W9 hSw;go_simp
    try simp only[ab]
    refine af 1 (.int .i64 j) ht ?_ ?_
    .intro W9 hSw;go_simp
    try simp only[ab]
    refine af 3 (.pointer (some ⟨w.heap.size,6,none⟩)) ht ?_ ?_
    .intro W9 hSw;go_simp
    try simp only[ab]
    refine af 4 (.slice (some ⟨g,o,none⟩) l.length e) ht ?_ ?_
    .intro W9 hSw;obtain⟨f0,f1,f2,f3,f4,f5,f6,f7⟩:=hSw.cells;go_simp
    try simp only[ab]
    refine af 5 (.int .i64 j) ht ?_ ?_
    .intro W9 hSw;go_simp
    try simp only[ab]
    refine af 6 (.pointer (some ⟨g,o+j*8,none⟩)) ht ?_ ?_
    .intro W9 hSw;go_simp
    try simp only[ab]
    refine af 7 (.agg #[.int .i64 y_1,y_2,y_3,y_4,.int .i64 y_5,y_6,.slice y_7 y_8 y_9,.slice y_a y_b y_c]) ht ?_ ?_
    .intro W9 hSw;obtain⟨e0,e1,e2,e3,e4,e5,e6,e7⟩:=(HC.out.keep hSw.le).eight;go_simp
    try simp only[ab]
    refine bz 2 λK hK=>?_;go_simp;refine(HDG.out _).mono ?_;rintro e2 w2 ⟨rfl,hb2⟩;have hs:=ht.next hb2;have HR2:=Jf (HROW.out.below (It:=ItM) (λh=>ItM.mono h) ((below_drewN (Ji _ _) 1).trans hb2));have HB2:=Jf (HB0.out.trans (((below_drewN (Ji _ _) 1).trans hb2).mono HB0.out.size));clear hb2 ht;go_wp2_with fail;refine hK.out _ _ hs (λht=>?_);clear hK K hs;try simp only[ab]
    refine af 8 (.agg #[.string ⟨(Lib.decDigits j).toArray⟩,.int .i64 y_1,y_2,y_3,y_4,.int .i64 y_5,y_6,.slice y_7 y_8 y_9,.slice y_a y_b y_c]) ht ?_ ?_
    .intro W9 hSw;go_simp
    try simp only[ab]
    refine bz 9 λK hK=>?_;go_simp;refine jN (K:=K) (λW9=>aL w k b n.neg n.digits n.exp s (.slice (some ⟨g,o,none⟩) l.length e) (.slice B m.length d) W9/\Blk W9 w2.heap.size 95 #[.string ⟨(Lib.decDigits j).toArray⟩,.int .i64 y_1,y_2,y_3,y_4,.int .i64 y_5,y_6,.slice y_7 y_8 y_9,.slice y_a y_b y_c]/\iF ItM 95 9 S W9 (w.heap.size+1) A1 c1 acc) ⟨ht.next ((Ji _ _).alloc (Jh _) _),Blk.new w2 _ _,HR2.out.below (It:=ItM) (λh=>ItM.mono h) ((Ji _ _).alloc (Jh _) _)⟩ ?_;rintro w3 ⟨ht3,hn,hr3⟩;have HN:=Jf hn;have HR3:=Jf hr3;clear hn hr3 ht HR2 HB2;refine hK.out _ _ ht3 (λht=>?_);clear hK K ht3;try simp only[ab]
    obtain⟨gN,hgN⟩:∃g,g=w2.heap.size:=⟨_,rfl⟩;rw[<-hgN] at HN ⊢;clear hgN;obtain⟨flat,hown,hpush⟩:=iF.more (It:=ItM) (λh=>ItM.mono h) HLEN.out HR3.out;have hsz3:w.heap.size+1<=w3.heap.size:=ht.IU;have hit:ItM (w3.on (wL S (w.heap.size+1) A1)) (Lib.decDigits j,l[j]) (#[.string ⟨(Lib.decDigits j).toArray⟩,.int .i64 y_1,y_2,y_3,y_4,.int .i64 y_5,y_6,.slice y_7 y_8 y_9,.slice y_a y_b y_c]:Array Value).toList:=⟨#[.int .i64 y_1,.bool y_2,.bool y_3,.string ⟨y_4.toArray⟩,.int .i64 y_5,.string ⟨y_6.toArray⟩,.slice y_7 y_8 y_9,.slice y_a y_b y_c],rfl,In.keep (II HS.out (by omega) ht.below (λad h=>(hrl.2.2.2 ad h).1)) _ _ HY.out⟩;refine bz 10 λK hK=>?_;refine LF _ rfl _ _ _ rfl (w.heap.size+1) 95 i0 _ 9 128 Tryz.underlying29 hi0 hz0 hz1 hz2 rfl (by omega) (.slice A1 j c1) j flat rfl hown ⟨gN,0,none⟩ 1 1 (#[.string ⟨(Lib.decDigits j).toArray⟩,.int .i64 y_1,y_2,y_3,y_4,.int .i64 y_5,y_6,.slice y_7 y_8 y_9,.slice y_a y_b y_c]:Array Value).toList rfl rfl (JU HN.out) (by simp[Value.oneCell']) (by omega) (by unfold maxLen;omega) (by omega) hsz3 _ rfl ?_;intro g6 cap6 w6 hown6 hgr6 hat6 hlt6;have HR6:=Jf (hpush hit (by simp[Value.oneCell']) hown6 hgr6 hat6);have hkr:∀q,(Value.slice A1 j c1).ownBlock=some q->w.heap.size+1<=q:=λq hq=>C2 (λad h=>(hrl.2.2.2 ad h).1) hq;have ht6:=ht.GV hgr6 hkr;clear hown6 hgr6 hat6 hit hown hpush ht;refine hK.out _ _ ht6 (λht=>?_);clear hK K ht6;try simp only[ab]
    refine af 11 (.slice (some ⟨g6,0,none⟩) (j+1) cap6) ht ?_ ?_
    .intro W9 hSw;go_simp
    try simp only[ab]
    refine Ke (by kernel_rfl) ?_ _;have HX:=Jf ht;clear ht;go_wp2_with fail;go_roundw;case rel=>exact⟨j+1,_,cap6,acc++[(Lib.decDigits j,l[j])],rfl,by go_num,by omega,by rw[HNX.out,HACC.out],by rw[Jk,HLEN.out];rfl,HX.out,HR6.out⟩
    case measure=>simp[intOf];omega
   .obtain rfl:j=l.length:=by omega
    have HE:=Jf (show acc=Sh.aI l by rw[HACC.out,JC]);go_wp2_with fail;go_ret;refine⟨A1,c1,by rw[Sh.ke];rfl,?_,by rw[Sh.ke];exact hrl.1,hrl.2.1,HW.out.below⟩;have h:=HROW.out.slM;rw[HE.out] at h;exact h.keep (AE λb hb=>hb.imp id (λk=>by omega))
theorem ix(S:Nat->Prop)(nm:Jd)(hn:nm=[105,116,101,109,115]\/nm=[97,100,100,105,116,105,111,110,97,108,80,114,111,112,101,114,116,105,101,115]\/nm=[110,111,116])(k:Int)(b:Bool)(n:Nm.Num)(s:Jd)(l:List Vl)(m:List Js.Mem)(A:Option Addr)(e:Nat)(B:Option Addr)(d:Nat)(w:World)(hS:∀b,S b->b<w.heap.size)(hx:(Vl.mk k b n s l m).In (w.on S) (.agg #[.int .i64 k,b,n.neg,n.digits,.int .i64 n.exp,s,.slice A l.length e,.slice B m.length d])):
  Calls Tryz.prog 83 #[nm,.agg #[.int .i64 k,.bool b,.bool n.neg,.string ⟨n.digits.toArray⟩,.int .i64 n.exp,.string ⟨s.toArray⟩,.slice A l.length e,.slice B m.length d]] w (wH S (Sh.kids nm (.mk k b n s l m)) w):=by
 have HKS:=Jf (show Sh.kids nm (.mk k b n s l m)=[([],.mk k b n s l m)] by rw[Sh.cI,Jo (by rcases hn with rfl|rfl|rfl<;>decide)]);have HX:=Jf hx;have HS:=Jf hS;have HSG:=Jf (eE nm);have HB:=Jf (((Ji w.heap.size w).alloc (Jh _) (.cells #[.int .i64 k,b,n.neg,n.digits,.int .i64 n.exp,s,.slice A l.length e,.slice B m.length d] 31)).alloc (by simp) (.cells #[.string ⟨#[]⟩,.int .i64 k,b,n.neg,n.digits,.int .i64 n.exp,s,.slice A l.length e,.slice B m.length d] 95));have HN:=Jf (Blk.cW w (.cells #[.int .i64 k,b,n.neg,n.digits,.int .i64 n.exp,s,.slice A l.length e,.slice B m.length d] 31) 95 #[.string ⟨([]:Jd).toArray⟩,.int .i64 k,b,n.neg,n.digits,.int .i64 n.exp,s,.slice A l.length e,.slice B m.length d]);clear hx hS;rcases hn with rfl|rfl|rfl;all_goals
  rw[show Sh.single _=true by decide] at HSG;go_enter Tryz.func83,Tryz.ntmps83;go_wp2_with fail;refine(HSG.out _).mono ?_;rintro e1 w1 ⟨rfl,rfl⟩;go_wp2_with fail;go_ret;rw[HKS.out];exact⟨some ⟨w.heap.size+1,0,none⟩,1,rfl,DY HN.out (.inr (KD _)) (In.keep (dN (λb h _=>.inl h) (λb h _=>HB.out.block b (HS.out b h))) _ _ HX.out),Jh _,by unfold maxLen;omega,HB.out⟩
theorem kC(S:Nat->Prop)(nm:Jd)(hn:nm=[112,114,111,112,101,114,116,105,101,115]\/nm=[36,100,101,102,115])(k:Int)(b:Bool)(n:Nm.Num)(s:Jd)(l:List Vl)(m:List Js.Mem)(A:Option Addr)(e:Nat)(B:Option Addr)(d:Nat)(w:World)(hS:∀b,S b->b<w.heap.size)(q3:m.length<=d)(q4:d<=maxLen)(q6:SlM (w.on S) B m):
  Calls Tryz.prog 83 #[nm,.agg #[.int .i64 k,.bool b,.bool n.neg,.string ⟨n.digits.toArray⟩,.int .i64 n.exp,.string ⟨s.toArray⟩,.slice A l.length e,.slice B m.length d]] w (wH S (Sh.kids nm (.mk k b n s l m)) w):=by
 have HKS:=Jf (show Sh.kids nm (.mk k b n s l m)=m by rw[Sh.cI,Jj (by rcases hn with rfl|rfl<;>decide),Jo (by rcases hn with rfl|rfl<;>decide)]);have H6:=Jf q6;have HS:=Jf hS;have HSG:=Jf (eE nm);have HB:=Jf ((Ji w.heap.size w).alloc (Jh _) (.cells #[.int .i64 k,b,n.neg,n.digits,.int .i64 n.exp,s,.slice A l.length e,.slice B m.length d] 31));clear q6 hS;rcases hn with rfl|rfl;all_goals
  rw[show Sh.single _=false by decide] at HSG;go_enter Tryz.func83,Tryz.ntmps83;go_wp2_with fail;refine(HSG.out _).mono ?_;rintro e1 w1 ⟨rfl,rfl⟩;go_wp2_with fail;go_ret;rw[HKS.out];exact⟨B,d,rfl,H6.out.keep (dN (λb h _=>.inl h) (λb h _=>HB.out.block b (HS.out b h))),q3,q4,HB.out⟩
theorem vM(S:Nat->Prop)(nm:Jd)(hn:¬nm∈[[105,116,101,109,115],[97,100,100,105,116,105,111,110,97,108,80,114,111,112,101,114,116,105,101,115],[110,111,116],[112,114,111,112,101,114,116,105,101,115],[36,100,101,102,115],[97,108,108,79,102],[97,110,121,79,102],[111,110,101,79,102]])(k:Int)(b:Bool)(n:Nm.Num)(s:Jd)(l:List Vl)(m:List Js.Mem)(A:Option Addr)(e:Nat)(B:Option Addr)(d:Nat)(w:World)(hS:∀b,S b->b<w.heap.size):
  Calls Tryz.prog 83 #[nm,.agg #[.int .i64 k,.bool b,.bool n.neg,.string ⟨n.digits.toArray⟩,.int .i64 n.exp,.string ⟨s.toArray⟩,.slice A l.length e,.slice B m.length d]] w (wH S (Sh.kids nm (.mk k b n s l m)) w):=by
 have h8:¬Sh.kw nm=8:=Sh.pV _ (by decide) hn (by decide);have h9:¬Sh.kw nm=9:=Sh.pV _ (by decide) hn (by decide);have h10:¬Sh.kw nm=10:=Sh.pV _ (by decide) hn (by decide);have HKS:=Jf (show Sh.kids nm (.mk k b n s l m)=[] by rw[Sh.cI,Jj h8,Jj h9,Jj h10]);have HSG:=Jf (eE nm);rw[show Sh.single nm=false from JV h8] at HSG;have HB:=Jf ((Ji w.heap.size w).alloc (Jh _) (.cells #[.int .i64 k,b,n.neg,n.digits,.int .i64 n.exp,s,.slice A l.length e,.slice B m.length d] 31));have e0:(nm==[112,114,111,112,101,114,116,105,101,115])=false:=by rw[Jp];rintro rfl;exact hn (by simp)
 have e1:(nm==[36,100,101,102,115])=false:=by rw[Jp];rintro rfl;exact hn (by simp)
 have e2:(nm==[97,108,108,79,102])=false:=by rw[Jp];rintro rfl;exact hn (by simp)
 have e3:(nm==[97,110,121,79,102])=false:=by rw[Jp];rintro rfl;exact hn (by simp)
 have e4:(nm==[111,110,101,79,102])=false:=by rw[Jp];rintro rfl;exact hn (by simp)
 clear hn hS h8 h9 h10;go_enter Tryz.func83,Tryz.ntmps83;go_wp2_with fail;refine(HSG.out _).mono ?_;rintro e1 w1 ⟨rfl,rfl⟩;go_wp2_with fail;go_ret;rw[HKS.out];exact⟨none,0,rfl,(λi p h=>by simp at h),Jh _,JE _,HB.out⟩
theorem yw(S:Nat->Prop)(nm:Jd)(v:Vl)(x:Value)(w:World)(hS:∀b,S b->b<w.heap.size)(hx:v.In (w.on S) x)(hsz:v.size<=1000000):
  Calls Tryz.prog 83 #[.string ⟨nm.toArray⟩,x] w (wH S (Sh.kids nm v) w):=by
 obtain⟨k,b,n,s,l,m⟩:=v;obtain⟨A,e,B,d,rfl,q1,q2,q3,q4,q5,q6⟩:=In.form hx;have hl:l.length<=1000000:=by
  have h:l.length<=aH l:=cS l;simp only[Vl.size] at hsz;omega
 by_cases hn:nm∈[[105,116,101,109,115],[97,100,100,105,116,105,111,110,97,108,80,114,111,112,101,114,116,105,101,115],[110,111,116],[112,114,111,112,101,114,116,105,101,115],[36,100,101,102,115],[97,108,108,79,102],[97,110,121,79,102],[111,110,101,79,102]]
 .simp only[JB,Ky,Lk] at hn;rcases hn with h|h|h|h|h|h|h|h
  .exact ix S nm (.inl h) k b n s l m A e B d w hS hx
  .exact ix S nm (.inr (.inl h)) k b n s l m A e B d w hS hx
  .exact ix S nm (.inr (.inr h)) k b n s l m A e B d w hS hx
  .exact kC S nm (.inl h) k b n s l m A e B d w hS q3 q4 q6
  .exact kC S nm (.inr h) k b n s l m A e B d w hS q3 q4 q6
  .have hk:Sh.kids nm (.mk k b n s l m)=Sh.aI l:=by subst h;rw[Sh.cI,Jj (by decide),Jj (by decide),Jo (by decide)]
   rw[hk];exact gC S nm (.inl h) k b n s l m A e B d w hS q1 q2 q5 hl
  .have hk:Sh.kids nm (.mk k b n s l m)=Sh.aI l:=by subst h;rw[Sh.cI,Jj (by decide),Jj (by decide),Jo (by decide)]
   rw[hk];exact gC S nm (.inr (.inl h)) k b n s l m A e B d w hS q1 q2 q5 hl
  .have hk:Sh.kids nm (.mk k b n s l m)=Sh.aI l:=by subst h;rw[Sh.cI,Jj (by decide),Jj (by decide),Jo (by decide)]
   rw[hk];exact gC S nm (.inr (.inr h)) k b n s l m A e B d w hS q1 q2 q5 hl
 .exact vM S nm hn k b n s l m A e B d w hS
theorem Sh.de{nm:Jd}{q:Nat}{v:Vl}(h:Sh.kw nm=q)(hq:¬q=0)(ho:Sh.jl q v=true):Sh.shape nm v=0:=by rw[Sh.yD v h hq,ho];rfl
theorem Sh.bZ{nm:Jd}{q:Nat}{v:Vl}(h:Sh.kw nm=q)(hq:¬q=0)(ho:Sh.jl q v=false):Sh.shape nm v=11:=by rw[Sh.yD v h hq,ho];rfl
theorem AV(nm:Jd)(hn:nm=[101,110,117,109])(k:Int)(b neg:Bool)(dg:Jd)(ex:Int)(s:Jd)(l:List Vl)(m:List Js.Mem)(A:Option Addr)(e:Nat)(B:Option Addr)(d:Nat)(w:World)(hx:(Vl.mk k b ⟨neg,dg,ex⟩ s l m).In w.cell? (.agg #[.int .i64 k,b,neg,dg,.int .i64 ex,s,.slice A l.length e,.slice B m.length d]))(q1:l.length<=e)(q2:e<=maxLen)(q3:m.length<=d)(q4:d<=maxLen)(q5:SlL w.cell? A l)(q6:SlM w.cell? B m)(hsz:l.length<=1000000):
  Calls Tryz.prog 82 #[nm,.agg #[.int .i64 k,.bool b,.bool neg,.string ⟨dg.toArray⟩,.int .i64 ex,.string ⟨s.toArray⟩,.slice A l.length e,.slice B m.length d]] w λe w'=>e=.returned (.int .i64 (Sh.shape nm (.mk k b ⟨neg,dg,ex⟩ s l m)))/\Below w.heap.size w w':=by
 have HQ:=Jf (show Sh.kw nm=2 by rcases hn with rfl<;>decide);subst hn;unfold maxLen at q2 q4;clear hx q5 q6 hsz;by_cases h4:k=4
 .have t4:(k==4)=true:=by simpa using h4
  by_cases hl:0<l.length
  .have tl:decide ((0:Int)<(l.length:Int))=true:=K5 (by omega);have tn:decide (0<l.length)=true:=K5 hl;have HF:=Jf (Sh.de (v:=(.mk k b ⟨neg,dg,ex⟩ s l m)) HQ.out (by decide) (by simp only[Sh.jl,K5 h4,K5 hl];rfl));clear h4 hl;go_enter Tryz.func82,Tryz.ntmps82;go_wp2_with fail;go_ret;exact⟨by rw[HF.out];rfl,aL.start.below⟩
  .have tl:decide ((0:Int)<(l.length:Int))=false:=JV (by omega);have tn:decide (0<l.length)=false:=JV hl;have HF:=Jf (Sh.bZ (v:=(.mk k b ⟨neg,dg,ex⟩ s l m)) HQ.out (by decide) (by simp only[Sh.jl,JV hl,Li]));clear h4 hl;go_enter Tryz.func82,Tryz.ntmps82;go_wp2_with fail;go_ret;exact⟨by rw[HF.out];rfl,aL.start.below⟩
 .have t4:(k==4)=false:=by simpa using h4
  have HF:=Jf (Sh.bZ (v:=(.mk k b ⟨neg,dg,ex⟩ s l m)) HQ.out (by decide) (by simp only[Sh.jl,JV h4,Lz]));clear h4;go_enter Tryz.func82,Tryz.ntmps82;go_wp2_with fail;go_ret;exact⟨by rw[HF.out];rfl,aL.start.below⟩
theorem yC(nm:Jd)(hn:nm=[99,111,110,115,116])(k:Int)(b neg:Bool)(dg:Jd)(ex:Int)(s:Jd)(l:List Vl)(m:List Js.Mem)(A:Option Addr)(e:Nat)(B:Option Addr)(d:Nat)(w:World)(hx:(Vl.mk k b ⟨neg,dg,ex⟩ s l m).In w.cell? (.agg #[.int .i64 k,b,neg,dg,.int .i64 ex,s,.slice A l.length e,.slice B m.length d]))(q1:l.length<=e)(q2:e<=maxLen)(q3:m.length<=d)(q4:d<=maxLen)(q5:SlL w.cell? A l)(q6:SlM w.cell? B m)(hsz:l.length<=1000000):
  Calls Tryz.prog 82 #[nm,.agg #[.int .i64 k,.bool b,.bool neg,.string ⟨dg.toArray⟩,.int .i64 ex,.string ⟨s.toArray⟩,.slice A l.length e,.slice B m.length d]] w λe w'=>e=.returned (.int .i64 (Sh.shape nm (.mk k b ⟨neg,dg,ex⟩ s l m)))/\Below w.heap.size w w':=by
 have HQ:=Jf (show Sh.kw nm=3 by rcases hn with rfl<;>decide);subst hn;unfold maxLen at q2 q4;clear hx q5 q6 hsz;have HF:=Jf (Sh.de (v:=(.mk k b ⟨neg,dg,ex⟩ s l m)) HQ.out (by decide) (rfl));go_enter Tryz.func82,Tryz.ntmps82;go_wp2_with fail;go_ret;exact⟨by rw[HF.out];rfl,aL.start.below⟩
theorem nM(nm:Jd)(hn:nm=[109,105,110,105,109,117,109]\/nm=[109,97,120,105,109,117,109])(k:Int)(b neg:Bool)(dg:Jd)(ex:Int)(s:Jd)(l:List Vl)(m:List Js.Mem)(A:Option Addr)(e:Nat)(B:Option Addr)(d:Nat)(w:World)(hx:(Vl.mk k b ⟨neg,dg,ex⟩ s l m).In w.cell? (.agg #[.int .i64 k,b,neg,dg,.int .i64 ex,s,.slice A l.length e,.slice B m.length d]))(q1:l.length<=e)(q2:e<=maxLen)(q3:m.length<=d)(q4:d<=maxLen)(q5:SlL w.cell? A l)(q6:SlM w.cell? B m)(hsz:l.length<=1000000):
  Calls Tryz.prog 82 #[nm,.agg #[.int .i64 k,.bool b,.bool neg,.string ⟨dg.toArray⟩,.int .i64 ex,.string ⟨s.toArray⟩,.slice A l.length e,.slice B m.length d]] w λe w'=>e=.returned (.int .i64 (Sh.shape nm (.mk k b ⟨neg,dg,ex⟩ s l m)))/\Below w.heap.size w w':=by
 have HQ:=Jf (show Sh.kw nm=4 by rcases hn with rfl|rfl<;>decide);rcases hn with rfl|rfl;all_goals
  unfold maxLen at q2 q4;clear hx q5 q6 hsz;by_cases h2:k=2
  .have t2:(k==2)=true:=by simpa using h2
   have HF:=Jf (Sh.de (v:=(.mk k b ⟨neg,dg,ex⟩ s l m)) HQ.out (by decide) (K5 h2));clear h2;go_enter Tryz.func82,Tryz.ntmps82;go_wp2_with fail;go_ret;exact⟨by rw[HF.out];rfl,aL.start.below⟩
  .have t2:(k==2)=false:=by simpa using h2
   have HF:=Jf (Sh.bZ (v:=(.mk k b ⟨neg,dg,ex⟩ s l m)) HQ.out (by decide) (JV h2));clear h2;go_enter Tryz.func82,Tryz.ntmps82;go_wp2_with fail;go_ret;exact⟨by rw[HF.out];rfl,aL.start.below⟩
theorem AU(nm:Jd)(hn:nm=[117,110,105,113,117,101,73,116,101,109,115])(k:Int)(b neg:Bool)(dg:Jd)(ex:Int)(s:Jd)(l:List Vl)(m:List Js.Mem)(A:Option Addr)(e:Nat)(B:Option Addr)(d:Nat)(w:World)(hx:(Vl.mk k b ⟨neg,dg,ex⟩ s l m).In w.cell? (.agg #[.int .i64 k,b,neg,dg,.int .i64 ex,s,.slice A l.length e,.slice B m.length d]))(q1:l.length<=e)(q2:e<=maxLen)(q3:m.length<=d)(q4:d<=maxLen)(q5:SlL w.cell? A l)(q6:SlM w.cell? B m)(hsz:l.length<=1000000):
  Calls Tryz.prog 82 #[nm,.agg #[.int .i64 k,.bool b,.bool neg,.string ⟨dg.toArray⟩,.int .i64 ex,.string ⟨s.toArray⟩,.slice A l.length e,.slice B m.length d]] w λe w'=>e=.returned (.int .i64 (Sh.shape nm (.mk k b ⟨neg,dg,ex⟩ s l m)))/\Below w.heap.size w w':=by
 have HQ:=Jf (show Sh.kw nm=6 by rcases hn with rfl<;>decide);subst hn;unfold maxLen at q2 q4;clear hx q5 q6 hsz;by_cases h1:k=1
 .have t1:(k==1)=true:=by simpa using h1
  have HF:=Jf (Sh.de (v:=(.mk k b ⟨neg,dg,ex⟩ s l m)) HQ.out (by decide) (K5 h1));clear h1;go_enter Tryz.func82,Tryz.ntmps82;go_wp2_with fail;go_ret;exact⟨by rw[HF.out];rfl,aL.start.below⟩
 .have t1:(k==1)=false:=by simpa using h1
  have HF:=Jf (Sh.bZ (v:=(.mk k b ⟨neg,dg,ex⟩ s l m)) HQ.out (by decide) (JV h1));clear h1;go_enter Tryz.func82,Tryz.ntmps82;go_wp2_with fail;go_ret;exact⟨by rw[HF.out];rfl,aL.start.below⟩
theorem DQ(nm:Jd)(hn:nm=[36,114,101,102])(k:Int)(b neg:Bool)(dg:Jd)(ex:Int)(s:Jd)(l:List Vl)(m:List Js.Mem)(A:Option Addr)(e:Nat)(B:Option Addr)(d:Nat)(w:World)(hx:(Vl.mk k b ⟨neg,dg,ex⟩ s l m).In w.cell? (.agg #[.int .i64 k,b,neg,dg,.int .i64 ex,s,.slice A l.length e,.slice B m.length d]))(q1:l.length<=e)(q2:e<=maxLen)(q3:m.length<=d)(q4:d<=maxLen)(q5:SlL w.cell? A l)(q6:SlM w.cell? B m)(hsz:l.length<=1000000):
  Calls Tryz.prog 82 #[nm,.agg #[.int .i64 k,.bool b,.bool neg,.string ⟨dg.toArray⟩,.int .i64 ex,.string ⟨s.toArray⟩,.slice A l.length e,.slice B m.length d]] w λe w'=>e=.returned (.int .i64 (Sh.shape nm (.mk k b ⟨neg,dg,ex⟩ s l m)))/\Below w.heap.size w w':=by
 have HQ:=Jf (show Sh.kw nm=11 by rcases hn with rfl<;>decide);subst hn;unfold maxLen at q2 q4;clear hx q5 q6 hsz;by_cases h3:k=3
 .have t3:(k==3)=true:=by simpa using h3
  have HF:=Jf (Sh.de (v:=(.mk k b ⟨neg,dg,ex⟩ s l m)) HQ.out (by decide) (K5 h3));clear h3;go_enter Tryz.func82,Tryz.ntmps82;go_wp2_with fail;go_ret;exact⟨by rw[HF.out];rfl,aL.start.below⟩
 .have t3:(k==3)=false:=by simpa using h3
  have HF:=Jf (Sh.bZ (v:=(.mk k b ⟨neg,dg,ex⟩ s l m)) HQ.out (by decide) (JV h3));clear h3;go_enter Tryz.func82,Tryz.ntmps82;go_wp2_with fail;go_ret;exact⟨by rw[HF.out];rfl,aL.start.below⟩
theorem iU(nm:Jd)(hn:nm=[109,105,110,76,101,110,103,116,104]\/nm=[109,97,120,76,101,110,103,116,104]\/nm=[109,105,110,73,116,101,109,115]\/nm=[109,97,120,73,116,101,109,115])(k:Int)(b neg:Bool)(dg:Jd)(ex:Int)(s:Jd)(l:List Vl)(m:List Js.Mem)(A:Option Addr)(e:Nat)(B:Option Addr)(d:Nat)(w:World)(hx:(Vl.mk k b ⟨neg,dg,ex⟩ s l m).In w.cell? (.agg #[.int .i64 k,b,neg,dg,.int .i64 ex,s,.slice A l.length e,.slice B m.length d]))(q1:l.length<=e)(q2:e<=maxLen)(q3:m.length<=d)(q4:d<=maxLen)(q5:SlL w.cell? A l)(q6:SlM w.cell? B m)(hsz:l.length<=1000000):
  Calls Tryz.prog 82 #[nm,.agg #[.int .i64 k,.bool b,.bool neg,.string ⟨dg.toArray⟩,.int .i64 ex,.string ⟨s.toArray⟩,.slice A l.length e,.slice B m.length d]] w λe w'=>e=.returned (.int .i64 (Sh.shape nm (.mk k b ⟨neg,dg,ex⟩ s l m)))/\Below w.heap.size w w':=by
 have HQ:=Jf (show Sh.kw nm=5 by rcases hn with rfl|rfl|rfl|rfl<;>decide);rcases hn with rfl|rfl|rfl|rfl;all_goals
  unfold maxLen at q2 q4;clear hx q5 q6 hsz;have HWH:=Jf (λW=>vR neg dg ex W);obtain⟨wb,hwb⟩:∃wb,(dg.isEmpty||decide (0<=ex))=wb:=⟨_,rfl⟩;rw[hwb] at HWH;have HWB:=Jf hwb;clear hwb;go_enter Tryz.func82,Tryz.ntmps82;go_wp2_with fail;refine(HWH.out _).mono ?_;rintro e1 w1 ⟨rfl,hb1⟩;have HB1:=Jf (aL.start.next hb1:aL w k b neg dg ex s (.slice A l.length e) (.slice B m.length d) w1);clear hb1;obtain⟨f0,f1,f2,f3,f4,f5,f6,f7⟩:=HB1.out.cells;by_cases h2:k=2
  .have t2:(k==2)=true:=by simpa using h2
   cases wb with
   |true=>
    cases neg with
    |false=>
     have HF:=Jf (Sh.de (v:=(.mk k b ⟨false,dg,ex⟩ s l m)) HQ.out (by decide) (by simp only[Sh.jl,K5 h2,HWB.out];rfl));clear h2;go_wp2_with fail;go_ret;exact⟨by rw[HF.out];rfl,HB1.out.below⟩
    |true=>
     have HF:=Jf (Sh.bZ (v:=(.mk k b ⟨true,dg,ex⟩ s l m)) HQ.out (by decide) (by simp only[Sh.jl,Bool.not_true,Li]));clear h2;go_wp2_with fail;go_ret;exact⟨by rw[HF.out];rfl,HB1.out.below⟩
   |false=>
    have HF:=Jf (Sh.bZ (v:=(.mk k b ⟨neg,dg,ex⟩ s l m)) HQ.out (by decide) (by simp only[Sh.jl,HWB.out,Li,Lz]));clear h2;go_wp2_with fail;go_ret;exact⟨by rw[HF.out];rfl,HB1.out.below⟩
  .have t2:(k==2)=false:=by simpa using h2
   have HF:=Jf (Sh.bZ (v:=(.mk k b ⟨neg,dg,ex⟩ s l m)) HQ.out (by decide) (by simp only[Sh.jl,JV h2,Lz]));clear h2;go_wp2_with fail;go_ret;exact⟨by rw[HF.out];rfl,HB1.out.below⟩
theorem yE(nm:Jd)(hn:nm=[114,101,113,117,105,114,101,100])(k:Int)(b neg:Bool)(dg:Jd)(ex:Int)(s:Jd)(l:List Vl)(m:List Js.Mem)(A:Option Addr)(e:Nat)(B:Option Addr)(d:Nat)(w:World)(hx:(Vl.mk k b ⟨neg,dg,ex⟩ s l m).In w.cell? (.agg #[.int .i64 k,b,neg,dg,.int .i64 ex,s,.slice A l.length e,.slice B m.length d]))(q1:l.length<=e)(q2:e<=maxLen)(q3:m.length<=d)(q4:d<=maxLen)(q5:SlL w.cell? A l)(q6:SlM w.cell? B m)(hsz:l.length<=1000000):
  Calls Tryz.prog 82 #[nm,.agg #[.int .i64 k,.bool b,.bool neg,.string ⟨dg.toArray⟩,.int .i64 ex,.string ⟨s.toArray⟩,.slice A l.length e,.slice B m.length d]] w λe w'=>e=.returned (.int .i64 (Sh.shape nm (.mk k b ⟨neg,dg,ex⟩ s l m)))/\Below w.heap.size w w':=by
 have HQ:=Jf (show Sh.kw nm=7 by rcases hn with rfl<;>decide);subst hn;have HC:=Jf (nI (.mk k b ⟨neg,dg,ex⟩ s l m) _ (w.alloc (.cells #[.int .i64 k,b,neg,dg,.int .i64 ex,s,.slice A l.length e,.slice B m.length d] 31)) (In.keep (aT w _) _ _ hx));unfold maxLen at q2 q4;clear hx q5 q6 hsz;obtain⟨cb,hcb⟩:∃cb,Sh.texts (.mk k b ⟨neg,dg,ex⟩ s l m)=cb:=⟨_,rfl⟩;rw[hcb] at HC;have HCB:=Jf hcb;clear hcb;go_enter Tryz.func82,Tryz.ntmps82;go_wp2_with fail;refine HC.out.mono ?_;rintro e1 w1 ⟨rfl,hb1⟩;have HB1:=Jf (aL.start.next hb1:aL w k b neg dg ex s (.slice A l.length e) (.slice B m.length d) w1);clear hb1;cases cb with
 |true=>
  have HF:=Jf (Sh.de (v:=(.mk k b ⟨neg,dg,ex⟩ s l m)) HQ.out (by decide) (HCB.out));go_wp2_with fail;go_ret;exact⟨by rw[HF.out];rfl,HB1.out.below⟩
 |false=>
  have HF:=Jf (Sh.bZ (v:=(.mk k b ⟨neg,dg,ex⟩ s l m)) HQ.out (by decide) (HCB.out));go_wp2_with fail;go_ret;exact⟨by rw[HF.out];rfl,HB1.out.below⟩
theorem ku(nm:Jd)(hn:nm=[105,116,101,109,115]\/nm=[97,100,100,105,116,105,111,110,97,108,80,114,111,112,101,114,116,105,101,115]\/nm=[110,111,116])(k:Int)(b neg:Bool)(dg:Jd)(ex:Int)(s:Jd)(l:List Vl)(m:List Js.Mem)(A:Option Addr)(e:Nat)(B:Option Addr)(d:Nat)(w:World)(hx:(Vl.mk k b ⟨neg,dg,ex⟩ s l m).In w.cell? (.agg #[.int .i64 k,b,neg,dg,.int .i64 ex,s,.slice A l.length e,.slice B m.length d]))(q1:l.length<=e)(q2:e<=maxLen)(q3:m.length<=d)(q4:d<=maxLen)(q5:SlL w.cell? A l)(q6:SlM w.cell? B m)(hsz:l.length<=1000000):
  Calls Tryz.prog 82 #[nm,.agg #[.int .i64 k,.bool b,.bool neg,.string ⟨dg.toArray⟩,.int .i64 ex,.string ⟨s.toArray⟩,.slice A l.length e,.slice B m.length d]] w λe w'=>e=.returned (.int .i64 (Sh.shape nm (.mk k b ⟨neg,dg,ex⟩ s l m)))/\Below w.heap.size w w':=by
 have HQ:=Jf (show Sh.kw nm=8 by rcases hn with rfl|rfl|rfl<;>decide);rcases hn with rfl|rfl|rfl;all_goals
  have HC:=Jf (jr (.mk k b ⟨neg,dg,ex⟩ s l m) _ (w.alloc (.cells #[.int .i64 k,b,neg,dg,.int .i64 ex,s,.slice A l.length e,.slice B m.length d] 31)) (In.keep (aT w _) _ _ hx));unfold maxLen at q2 q4;clear hx q5 q6 hsz;obtain⟨cb,hcb⟩:∃cb,Sh.jD (.mk k b ⟨neg,dg,ex⟩ s l m)=cb:=⟨_,rfl⟩;rw[hcb] at HC;have HCB:=Jf hcb;clear hcb;go_enter Tryz.func82,Tryz.ntmps82;go_wp2_with fail;refine HC.out.mono ?_;rintro e1 w1 ⟨rfl,hb1⟩;have HB1:=Jf (aL.start.next hb1:aL w k b neg dg ex s (.slice A l.length e) (.slice B m.length d) w1);clear hb1;cases cb with
  |true=>
   have HF:=Jf (Sh.de (v:=(.mk k b ⟨neg,dg,ex⟩ s l m)) HQ.out (by decide) (HCB.out));go_wp2_with fail;go_ret;exact⟨by rw[HF.out];rfl,HB1.out.below⟩
  |false=>
   have HF:=Jf (Sh.bZ (v:=(.mk k b ⟨neg,dg,ex⟩ s l m)) HQ.out (by decide) (HCB.out));go_wp2_with fail;go_ret;exact⟨by rw[HF.out];rfl,HB1.out.below⟩
theorem lT(nm:Jd)(hn:nm=[112,114,111,112,101,114,116,105,101,115]\/nm=[36,100,101,102,115])(k:Int)(b neg:Bool)(dg:Jd)(ex:Int)(s:Jd)(l:List Vl)(m:List Js.Mem)(A:Option Addr)(e:Nat)(B:Option Addr)(d:Nat)(w:World)(hx:(Vl.mk k b ⟨neg,dg,ex⟩ s l m).In w.cell? (.agg #[.int .i64 k,b,neg,dg,.int .i64 ex,s,.slice A l.length e,.slice B m.length d]))(q1:l.length<=e)(q2:e<=maxLen)(q3:m.length<=d)(q4:d<=maxLen)(q5:SlL w.cell? A l)(q6:SlM w.cell? B m)(hsz:l.length<=1000000):
  Calls Tryz.prog 82 #[nm,.agg #[.int .i64 k,.bool b,.bool neg,.string ⟨dg.toArray⟩,.int .i64 ex,.string ⟨s.toArray⟩,.slice A l.length e,.slice B m.length d]] w λe w'=>e=.returned (.int .i64 (Sh.shape nm (.mk k b ⟨neg,dg,ex⟩ s l m)))/\Below w.heap.size w w':=by
 have HQ:=Jf (show Sh.kw nm=9 by rcases hn with rfl|rfl<;>decide);rcases hn with rfl|rfl;all_goals
  have HC:=Jf (s9 m B d (w.alloc (.cells #[.int .i64 k,b,neg,dg,.int .i64 ex,s,.slice A l.length e,.slice B m.length d] 31)) (q6.keep (aT w _)) q3 q4);unfold maxLen at q2 q4;clear hx q5 q6 hsz;obtain⟨cb,hcb⟩:∃cb,Sh.allM m=cb:=⟨_,rfl⟩;rw[hcb] at HC;have HCB:=Jf hcb;clear hcb;go_enter Tryz.func82,Tryz.ntmps82;go_wp2_with fail;refine HC.out.mono ?_;rintro e1 w1 ⟨rfl,hb1⟩;have HB1:=Jf (aL.start.next hb1:aL w k b neg dg ex s (.slice A l.length e) (.slice B m.length d) w1);clear hb1;obtain⟨f0,f1,f2,f3,f4,f5,f6,f7⟩:=HB1.out.cells;by_cases h5:k=5
  .have t5:(k==5)=true:=by simpa using h5
   cases cb with
   |true=>
    have HF:=Jf (Sh.de (v:=(.mk k b ⟨neg,dg,ex⟩ s l m)) HQ.out (by decide) (by simp only[Sh.jl,K5 h5,HCB.out];rfl));clear h5;go_wp2_with fail;go_ret;exact⟨by rw[HF.out];rfl,HB1.out.below⟩
   |false=>
    have HF:=Jf (Sh.bZ (v:=(.mk k b ⟨neg,dg,ex⟩ s l m)) HQ.out (by decide) (by simp only[Sh.jl,HCB.out,Li]));clear h5;go_wp2_with fail;go_ret;exact⟨by rw[HF.out];rfl,HB1.out.below⟩
  .have t5:(k==5)=false:=by simpa using h5
   have HF:=Jf (Sh.bZ (v:=(.mk k b ⟨neg,dg,ex⟩ s l m)) HQ.out (by decide) (by simp only[Sh.jl,JV h5,Lz]));clear h5;go_wp2_with fail;go_ret;exact⟨by rw[HF.out];rfl,HB1.out.below⟩
theorem mH(nm:Jd)(hn:nm=[97,108,108,79,102]\/nm=[97,110,121,79,102]\/nm=[111,110,101,79,102])(k:Int)(b neg:Bool)(dg:Jd)(ex:Int)(s:Jd)(l:List Vl)(m:List Js.Mem)(A:Option Addr)(e:Nat)(B:Option Addr)(d:Nat)(w:World)(hx:(Vl.mk k b ⟨neg,dg,ex⟩ s l m).In w.cell? (.agg #[.int .i64 k,b,neg,dg,.int .i64 ex,s,.slice A l.length e,.slice B m.length d]))(q1:l.length<=e)(q2:e<=maxLen)(q3:m.length<=d)(q4:d<=maxLen)(q5:SlL w.cell? A l)(q6:SlM w.cell? B m)(hsz:l.length<=1000000):
  Calls Tryz.prog 82 #[nm,.agg #[.int .i64 k,.bool b,.bool neg,.string ⟨dg.toArray⟩,.int .i64 ex,.string ⟨s.toArray⟩,.slice A l.length e,.slice B m.length d]] w λe w'=>e=.returned (.int .i64 (Sh.shape nm (.mk k b ⟨neg,dg,ex⟩ s l m)))/\Below w.heap.size w w':=by
 have HKI:=Jf (gC (λq9=>q9<(w.alloc (.cells #[.int .i64 k,b,neg,dg,.int .i64 ex,s,.slice A l.length e,.slice B m.length d] 31)).heap.size) nm hn k b ⟨neg,dg,ex⟩ s l m A e B d (w.alloc (.cells #[.int .i64 k,b,neg,dg,.int .i64 ex,s,.slice A l.length e,.slice B m.length d] 31)) (λ_ h=>h) q1 q2 ((q5.keep (aT w _)).keep (λ_ _ hp=>ah.2 ⟨Jn _ _ hp,hp⟩)) hsz);have HAL:=Jf (λ(A2:Option Addr) (c2:Nat) (W:World) (h:SlM W.cell? A2 (Sh.aI l)) (h1:(Sh.aI l).length<=c2) (h2:c2<=maxLen)=>s9 (Sh.aI l) A2 c2 W h h1 h2);rw[Sh.sW] at HAL;unfold maxLen at q2 q4;clear hx q5 q6 hsz;obtain⟨cb,hcb⟩:∃cb,Sh.GI l=cb:=⟨_,rfl⟩;rw[hcb] at HAL;have HCB:=Jf hcb;clear hcb;have HQ:=Jf (show Sh.kw nm=10 by rcases hn with rfl|rfl|rfl<;>decide);rcases hn with rfl|rfl|rfl;all_goals
  go_enter Tryz.func82,Tryz.ntmps82;go_wp2_with fail;refine HKI.out.mono ?_;rintro e1 w1 ⟨A2,c2,rfl,hs2,hc2,hm2,hb1⟩;have HB0:=Jf (aL.start.next hb1:aL w k b neg dg ex s (.slice A l.length e) (.slice B m.length d) w1);have HA2:=Jf (HAL.out A2 c2 w1 (hs2.keep (my _ _)) hc2 hm2);clear hb1 hs2 hc2 hm2 HAL HKI;go_wp2_with fail;refine HA2.out.mono ?_;rintro e2 w2 ⟨rfl,hb2⟩;have HB1:=Jf (HB0.out.next hb2);clear hb2 HA2 HB0;obtain⟨f0,f1,f2,f3,f4,f5,f6,f7⟩:=HB1.out.cells;by_cases h4:k=4
  .have t4:(k==4)=true:=by simpa using h4
   by_cases hl:0<l.length
   .have tl:decide ((0:Int)<(l.length:Int))=true:=K5 (by omega);have tn:decide (0<l.length)=true:=K5 hl;cases cb with
    |true=>
     have HF:=Jf (Sh.de (v:=(.mk k b ⟨neg,dg,ex⟩ s l m)) HQ.out (by decide) (by simp only[Sh.jl,K5 h4,K5 hl,HCB.out];rfl));clear h4 hl;go_wp2_with fail;go_ret;exact⟨by rw[HF.out];rfl,HB1.out.below⟩
    |false=>
     have HF:=Jf (Sh.bZ (v:=(.mk k b ⟨neg,dg,ex⟩ s l m)) HQ.out (by decide) (by simp only[Sh.jl,HCB.out,Li]));clear h4 hl;go_wp2_with fail;go_ret;exact⟨by rw[HF.out];rfl,HB1.out.below⟩
   .have tl:decide ((0:Int)<(l.length:Int))=false:=JV (by omega);have tn:decide (0<l.length)=false:=JV hl;have HF:=Jf (Sh.bZ (v:=(.mk k b ⟨neg,dg,ex⟩ s l m)) HQ.out (by decide) (by simp only[Sh.jl,JV hl,Li,Lz]));clear h4 hl;go_wp2_with fail;go_ret;exact⟨by rw[HF.out];rfl,HB1.out.below⟩
  .have t4:(k==4)=false:=by simpa using h4
   have HF:=Jf (Sh.bZ (v:=(.mk k b ⟨neg,dg,ex⟩ s l m)) HQ.out (by decide) (by simp only[Sh.jl,JV h4,Lz]));clear h4;go_wp2_with fail;go_ret;exact⟨by rw[HF.out];rfl,HB1.out.below⟩
theorem AX(nm:Jd)(hn:nm=[116,121,112,101])(k:Int)(b neg:Bool)(dg:Jd)(ex:Int)(s:Jd)(l:List Vl)(m:List Js.Mem)(A:Option Addr)(e:Nat)(B:Option Addr)(d:Nat)(w:World)(hx:(Vl.mk k b ⟨neg,dg,ex⟩ s l m).In w.cell? (.agg #[.int .i64 k,b,neg,dg,.int .i64 ex,s,.slice A l.length e,.slice B m.length d]))(q1:l.length<=e)(q2:e<=maxLen)(q3:m.length<=d)(q4:d<=maxLen)(q5:SlL w.cell? A l)(q6:SlM w.cell? B m)(hsz:l.length<=1000000):
  Calls Tryz.prog 82 #[nm,.agg #[.int .i64 k,.bool b,.bool neg,.string ⟨dg.toArray⟩,.int .i64 ex,.string ⟨s.toArray⟩,.slice A l.length e,.slice B m.length d]] w λe w'=>e=.returned (.int .i64 (Sh.shape nm (.mk k b ⟨neg,dg,ex⟩ s l m)))/\Below w.heap.size w w':=by
 have HQ:=Jf (show Sh.kw nm=1 by subst hn;decide);subst hn;have HC:=Jf (nI (.mk k b ⟨neg,dg,ex⟩ s l m) _ (w.alloc (.cells #[.int .i64 k,b,neg,dg,.int .i64 ex,s,.slice A l.length e,.slice B m.length d] 31)) (In.keep (aT w _) _ _ hx));have HTV:=Jf (λ(W:World) (h:Cl.le w.cell? W.cell?)=>nJ (.mk k b ⟨neg,dg,ex⟩ s l m) _ W (In.keep h _ _ hx));have H5:=Jf q5;unfold maxLen at q2 q4;clear hx q5 q6 hsz;obtain⟨nb,hnb⟩:∃nb,Sh.isName (.mk k b ⟨neg,dg,ex⟩ s l m)=nb:=⟨_,rfl⟩;rw[hnb] at HTV;have HNB:=Jf hnb;clear hnb;have hts:Sh.texts (.mk k b ⟨neg,dg,ex⟩ s l m)=(Sh.dJ l&&decide (k=4)):=rfl;obtain⟨tb,htb⟩:∃tb,Sh.texts (.mk k b ⟨neg,dg,ex⟩ s l m)=tb:=⟨_,rfl⟩;rw[htb] at HC;have HTB:=Jf (hts.symm.trans htb);clear hts htb;go_enter Tryz.func82,Tryz.ntmps82;go_wp2_with fail;refine HC.out.mono ?_;rintro e1 w1 ⟨rfl,hb1⟩;have HB1:=Jf (aL.start.next hb1:aL w k b neg dg ex s (.slice A l.length e) (.slice B m.length d) w1);clear hb1;obtain⟨c0,hc0⟩:∃c0,(tb&&decide (0<l.length))=c0:=⟨_,rfl⟩;have HC0:=Jf (show(Sh.dJ l&&decide (k=4)&&decide (0<l.length))=c0 by rw[HTB.out];exact hc0);have HZ:=Jf (show(c0&&Sh.jk (l.take 0))=c0 by rw[List.take_zero];exact Ls _);have HCC:=Jf hc0;clear hc0;obtain⟨f0,f1,f2,f3,f4,f5,f6,f7⟩:=HB1.out.cells;go_upto_region 6 with(fail);go_cut [5] from 5 to 5 (λv5 wc=>v5=.bool c0/\wc=w1);case first=>
  cases tb with
  |false=>
   have HV:=Jf (show c0=false from HCC.out.symm);go_wp2_with fail
   go_meet
   case rel=>exact⟨by rw[HV.out],rfl⟩
  |true=>
   by_cases hl:0<l.length
   .have tl:decide ((0:Int)<(l.length:Int))=true:=K5 (by omega);have tn:decide (0<l.length)=true:=K5 hl;have HV:=Jf (show c0=true by rw[<-HCC.out,K5 hl];rfl);clear hl;go_wp2_with fail
    go_meet
    case rel=>exact⟨by rw[HV.out],rfl⟩
   .have tl:decide ((0:Int)<(l.length:Int))=false:=JV (by omega);have tn:decide (0<l.length)=false:=JV hl;have HV:=Jf (show c0=false by rw[<-HCC.out,JV hl];rfl);clear hl;go_wp2_with fail
    go_meet
    case rel=>exact⟨by rw[HV.out],rfl⟩
 case rest=>
 obtain⟨rfl,rfl⟩:=hcut;go_wp2_with fail;have HXX:=Jf HB1.out;clear HB1
 go_loopw [5,7] (λo5 i7 wr=>∃j:Nat,j<=l.length/\o5=.bool (c0&&Sh.jk (l.take j))/\i7=.int .i64 j/\aL w k b neg dg ex s (.slice A l.length e) (.slice B m.length d) wr) (λ_ i _=>l.length-(intOf i).toNat)
 case atStart=>exact⟨0,by omega,by rw[HZ.out],rfl,HXX.out⟩
 case round=>
  obtain⟨j,hj,rfl,rfl,hW⟩:=hrel;have HW:=Jf hW;obtain⟨f0,f1,f2,f3,f4,f5,f6,f7⟩:=hW.cells;clear hW HXX;by_cases hlt:j<l.length
  .obtain⟨g,o,y,rfl,hy,hc⟩:=H5.out j _ (Jg hlt);obtain⟨k1,b1,n1,g1,x1,s1,A1,l1,p1,B1,m1,d1,rfl⟩:=In.cells hy;have HTY:=Jf (nJ (l[j]) _ wr (In.keep HW.out.le _ _ hy));obtain⟨e0,e1,e2,e3,e4,e5,e6,e7⟩:=(hc.keep HW.out.le).eight;have hgl:=Jn _ _ e0;have hjj:(j:Int)<(l.length:Int):=by omega
   have HNX:=Jf (Sh.xY hlt);clear hy hc;obtain⟨ib,hib⟩:∃ib,Sh.isName (l[j])=ib:=⟨_,rfl⟩;rw[hib] at HTY HNX;clear hib;obtain⟨ob,hob⟩:∃ob,(c0&&Sh.jk (l.take j))=ob:=⟨_,rfl⟩;have HOB:=Jf hob;rw[hob];clear hob;go_wp2_with fail;refine HTY.out.mono ?_;rintro e2 w2 ⟨rfl,hb2⟩;have HW2:=Jf (HW.out.next hb2);have HO2:=Jf (show(c0&&Sh.jk (l.take (j+1)))=(ob&&ib) by rw[HNX.out,<-Bool.and_assoc,HOB.out]);clear hb2 HTY HNX HOB;cases ob<;>cases ib;all_goals
    go_wp2_with fail;go_roundw;case rel=>exact⟨j+1,by omega,by first|(rw[HO2.out];done)|(rw[HO2.out];rfl),by go_num,HW2.out⟩
    case measure=>simp[intOf];omega
  .obtain rfl:j=l.length:=by omega
   have HTY:=Jf (HTV.out wr HW.out.le);obtain⟨ob,hob⟩:∃ob,(c0&&Sh.jk (l.take l.length))=ob:=⟨_,rfl⟩;have HOB:=Jf (show(c0&&Sh.jk l)=ob by rw[JC] at hob;exact hob);rw[hob];clear hob;go_wp2_with fail;refine HTY.out.mono ?_;rintro e2 w2 ⟨rfl,hb2⟩;have HB2:=Jf (HW.out.next hb2).below;clear hb2 HTY;have HIS:=Jf (show Sh.jl 1 (.mk k b ⟨neg,dg,ex⟩ s l m)=(ob||nb) by rw[<-HOB.out,<-HNB.out,<-HC0.out];rfl);cases ob<;>cases nb
   .have HF:=Jf (Sh.bZ (v:=(.mk k b ⟨neg,dg,ex⟩ s l m)) HQ.out (by decide) HIS.out);go_wp2_with fail;go_ret;exact⟨by rw[HF.out];rfl,HB2.out⟩
   .have HF:=Jf (Sh.de (v:=(.mk k b ⟨neg,dg,ex⟩ s l m)) HQ.out (by decide) HIS.out);go_wp2_with fail;go_ret;exact⟨by rw[HF.out];rfl,HB2.out⟩
   .have HF:=Jf (Sh.de (v:=(.mk k b ⟨neg,dg,ex⟩ s l m)) HQ.out (by decide) HIS.out);go_wp2_with fail;go_ret;exact⟨by rw[HF.out];rfl,HB2.out⟩
   .have HF:=Jf (Sh.de (v:=(.mk k b ⟨neg,dg,ex⟩ s l m)) HQ.out (by decide) HIS.out);go_wp2_with fail;go_ret;exact⟨by rw[HF.out];rfl,HB2.out⟩
theorem AW(nm:Jd)(hn:∀p∈Sh.kws,¬p.1=nm)(k:Int)(b neg:Bool)(dg:Jd)(ex:Int)(s:Jd)(l:List Vl)(m:List Js.Mem)(A:Option Addr)(e:Nat)(B:Option Addr)(d:Nat)(w:World)(hx:(Vl.mk k b ⟨neg,dg,ex⟩ s l m).In w.cell? (.agg #[.int .i64 k,b,neg,dg,.int .i64 ex,s,.slice A l.length e,.slice B m.length d]))(q1:l.length<=e)(q2:e<=maxLen)(q3:m.length<=d)(q4:d<=maxLen)(q5:SlL w.cell? A l)(q6:SlM w.cell? B m)(hsz:l.length<=1000000):
  Calls Tryz.prog 82 #[nm,.agg #[.int .i64 k,.bool b,.bool neg,.string ⟨dg.toArray⟩,.int .i64 ex,.string ⟨s.toArray⟩,.slice A l.length e,.slice B m.length d]] w λe w'=>e=.returned (.int .i64 (Sh.shape nm (.mk k b ⟨neg,dg,ex⟩ s l m)))/\Below w.heap.size w w':=by
 have HF:=Jf (show Sh.shape nm (.mk k b ⟨neg,dg,ex⟩ s l m)=10 from Jo (Sh.Ha hn));have e0:(nm==[116,121,112,101])=false:=by rw[Jp];exactλe=>hn ([116,121,112,101],1) (by decide) e.symm
 have e1:(nm==[101,110,117,109])=false:=by rw[Jp];exactλe=>hn ([101,110,117,109],2) (by decide) e.symm
 have e2:(nm==[99,111,110,115,116])=false:=by rw[Jp];exactλe=>hn ([99,111,110,115,116],3) (by decide) e.symm
 have e3:(nm==[109,105,110,105,109,117,109])=false:=by rw[Jp];exactλe=>hn ([109,105,110,105,109,117,109],4) (by decide) e.symm
 have e4:(nm==[109,97,120,105,109,117,109])=false:=by rw[Jp];exactλe=>hn ([109,97,120,105,109,117,109],4) (by decide) e.symm
 have e5:(nm==[109,105,110,76,101,110,103,116,104])=false:=by rw[Jp];exactλe=>hn ([109,105,110,76,101,110,103,116,104],5) (by decide) e.symm
 have e6:(nm==[109,97,120,76,101,110,103,116,104])=false:=by rw[Jp];exactλe=>hn ([109,97,120,76,101,110,103,116,104],5) (by decide) e.symm
 have e7:(nm==[109,105,110,73,116,101,109,115])=false:=by rw[Jp];exactλe=>hn ([109,105,110,73,116,101,109,115],5) (by decide) e.symm
 have e8:(nm==[109,97,120,73,116,101,109,115])=false:=by rw[Jp];exactλe=>hn ([109,97,120,73,116,101,109,115],5) (by decide) e.symm
 have e9:(nm==[117,110,105,113,117,101,73,116,101,109,115])=false:=by rw[Jp];exactλe=>hn ([117,110,105,113,117,101,73,116,101,109,115],6) (by decide) e.symm
 have e10:(nm==[114,101,113,117,105,114,101,100])=false:=by rw[Jp];exactλe=>hn ([114,101,113,117,105,114,101,100],7) (by decide) e.symm
 have e11:(nm==[105,116,101,109,115])=false:=by rw[Jp];exactλe=>hn ([105,116,101,109,115],8) (by decide) e.symm
 have e12:(nm==[97,100,100,105,116,105,111,110,97,108,80,114,111,112,101,114,116,105,101,115])=false:=by rw[Jp];exactλe=>hn ([97,100,100,105,116,105,111,110,97,108,80,114,111,112,101,114,116,105,101,115],8) (by decide) e.symm
 have e13:(nm==[110,111,116])=false:=by rw[Jp];exactλe=>hn ([110,111,116],8) (by decide) e.symm
 have e14:(nm==[112,114,111,112,101,114,116,105,101,115])=false:=by rw[Jp];exactλe=>hn ([112,114,111,112,101,114,116,105,101,115],9) (by decide) e.symm
 have e15:(nm==[36,100,101,102,115])=false:=by rw[Jp];exactλe=>hn ([36,100,101,102,115],9) (by decide) e.symm
 have e16:(nm==[97,108,108,79,102])=false:=by rw[Jp];exactλe=>hn ([97,108,108,79,102],10) (by decide) e.symm
 have e17:(nm==[97,110,121,79,102])=false:=by rw[Jp];exactλe=>hn ([97,110,121,79,102],10) (by decide) e.symm
 have e18:(nm==[111,110,101,79,102])=false:=by rw[Jp];exactλe=>hn ([111,110,101,79,102],10) (by decide) e.symm
 have e19:(nm==[36,114,101,102])=false:=by rw[Jp];exactλe=>hn ([36,114,101,102],11) (by decide) e.symm
 unfold maxLen at q2 q4;clear hx q5 q6 hsz hn;go_enter Tryz.func82,Tryz.ntmps82;go_wp2_with fail;go_ret;exact⟨by rw[HF.out];rfl,aL.start.below⟩
theorem vQ(nm:Jd)(v:Vl)(x:Value)(w:World)(hx:v.In w.cell? x)(hsz:v.size<=1000000):
  Calls Tryz.prog 82 #[.string ⟨nm.toArray⟩,x] w λe w'=>e=.returned (.int .i64 (Sh.shape nm v))/\Below w.heap.size w w':=by
 obtain⟨k,b,⟨neg,dg,ex⟩,s,l,m⟩:=v;obtain⟨A,e,B,d,rfl,q1,q2,q3,q4,q5,q6⟩:=In.form hx;have hl:l.length<=1000000:=by
  have h:l.length<=aH l:=cS l;simp only[Vl.size] at hsz;omega
 by_cases hn:∀p∈Sh.kws,¬p.1=nm
 .exact AW nm hn k b neg dg ex s l m A e B d w hx q1 q2 q3 q4 q5 q6 hl
 .have hm:∃p∈Sh.kws,p.1=nm:=by
   apply Nj;intro h;exact hn (λp hp e=>h ⟨p,hp,e⟩)
  obtain⟨p,hp,rfl⟩:=hm;simp only[Sh.kws,JB,Ky,Lk] at hp;rcases hp with rfl|rfl|rfl|rfl|rfl|rfl|rfl|rfl|rfl|rfl|rfl|rfl|rfl|rfl|rfl|rfl|rfl|rfl|rfl|rfl
  .exact AX _ (rfl) k b neg dg ex s l m A e B d w hx q1 q2 q3 q4 q5 q6 hl
  .exact AV _ (rfl) k b neg dg ex s l m A e B d w hx q1 q2 q3 q4 q5 q6 hl
  .exact yC _ (rfl) k b neg dg ex s l m A e B d w hx q1 q2 q3 q4 q5 q6 hl
  .exact nM _ (.inl rfl) k b neg dg ex s l m A e B d w hx q1 q2 q3 q4 q5 q6 hl
  .exact nM _ (.inr (rfl)) k b neg dg ex s l m A e B d w hx q1 q2 q3 q4 q5 q6 hl
  .exact iU _ (.inl rfl) k b neg dg ex s l m A e B d w hx q1 q2 q3 q4 q5 q6 hl
  .exact iU _ (.inr (.inl rfl)) k b neg dg ex s l m A e B d w hx q1 q2 q3 q4 q5 q6 hl
  .exact iU _ (.inr (.inr (.inl rfl))) k b neg dg ex s l m A e B d w hx q1 q2 q3 q4 q5 q6 hl
  .exact iU _ (.inr (.inr (.inr (rfl)))) k b neg dg ex s l m A e B d w hx q1 q2 q3 q4 q5 q6 hl
  .exact AU _ (rfl) k b neg dg ex s l m A e B d w hx q1 q2 q3 q4 q5 q6 hl
  .exact yE _ (rfl) k b neg dg ex s l m A e B d w hx q1 q2 q3 q4 q5 q6 hl
  .exact ku _ (.inl rfl) k b neg dg ex s l m A e B d w hx q1 q2 q3 q4 q5 q6 hl
  .exact ku _ (.inr (.inl rfl)) k b neg dg ex s l m A e B d w hx q1 q2 q3 q4 q5 q6 hl
  .exact ku _ (.inr (.inr (rfl))) k b neg dg ex s l m A e B d w hx q1 q2 q3 q4 q5 q6 hl
  .exact lT _ (.inl rfl) k b neg dg ex s l m A e B d w hx q1 q2 q3 q4 q5 q6 hl
  .exact lT _ (.inr (rfl)) k b neg dg ex s l m A e B d w hx q1 q2 q3 q4 q5 q6 hl
  .exact mH _ (.inl rfl) k b neg dg ex s l m A e B d w hx q1 q2 q3 q4 q5 q6 hl
  .exact mH _ (.inr (.inl rfl)) k b neg dg ex s l m A e B d w hx q1 q2 q3 q4 q5 q6 hl
  .exact mH _ (.inr (.inr (rfl))) k b neg dg ex s l m A e B d w hx q1 q2 q3 q4 q5 q6 hl
  .exact DQ _ (rfl) k b neg dg ex s l m A e B d w hx q1 q2 q3 q4 q5 q6 hl
end
