import Derived.Test.YtdhgmaonolgpnaaGreatDoorLa
import Derived.Test.YtdhgmaonolgpnaaGreatDoorNc
set_option linter.unusedSimpArgs false
set_option linter.unusedVariables false
set_option maxHeartbeats 4000000
set_option maxRecDepth 100000
namespace Go.Proofs.YtdhgmaonolgpnaaGreatDoor
section
open Go.RowKit Js Pt
theorem vJ(nm:Jd)(w:World):Calls Tryz.prog 60 #[.string ⟨nm.toArray⟩] w λe w'=>e=.returned (.bool (Vd.ff nm))/\Below w.heap.size w w':=by
 have HPL:=Jf (show Vd.ff nm=((nm==[105,116,101,109,115])||((nm==[112,114,111,112,101,114,116,105,101,115])||((nm==[97,100,100,105,116,105,111,110,97,108,80,114,111,112,101,114,116,105,101,115])||((nm==[97,108,108,79,102])||(nm==[36,114,101,102]))))) by
  have h:Vd.ff nm=((nm==Vd.aR)||((nm==Vd.b9)||((nm==Vd.lO)||((nm==Vd.eK)||(nm==Cm.eD))))):=by rw[KM];simp[Vd.ff]
  exact h)
 go_enter Tryz.func60,Tryz.ntmps60;go_wp2_with fail;all_goals
  go_ret;refine⟨?_,Ji _ _⟩;rw[HPL.out];simp_all
theorem xu(nm:Jd)(r:Nat)(w:World):Calls Tryz.prog 91 #[nm,.int .i64 (r:Int)] w λe w'=>e=.returned (.bool (Vd.dt nm r))/\Below w.heap.size w w':=by
 obtain⟨b1,h1⟩:∃b,(nm==[97,110,121,79,102])=b:=⟨_,rfl⟩;obtain⟨b2,h2⟩:∃b,(nm==[111,110,101,79,102])=b:=⟨_,rfl⟩;obtain⟨b3,h3⟩:∃b,(nm==[110,111,116])=b:=⟨_,rfl⟩;have H1:=Jf h1;have H2:=Jf h2;have H3:=Jf h3;cases b1 with
 |true=>
  have HN:=Jf (show Vd.dt nm r=decide (r=0) by unfold Vd.dt;rw[Jo (show nm=Vd.ch from eq_of_beq H1.out)]);go_enter Tryz.func91,Tryz.ntmps91;go_wp2_with fail;go_ret;refine⟨?_,Ji _ _⟩;rw[HN.out];exact Kk (λb=>Ending.returned (.bool b)) (by rw[KM];simp)
 |false=>
  have N1:=Jf (show¬nm=Vd.ch from NH H1.out);cases b2 with
  |true=>
   have HN:=Jf (show Vd.dt nm r= !decide (r=1) by unfold Vd.dt;rw[Jj N1.out,Jo (show nm=Vd.cm from eq_of_beq H2.out)]);go_enter Tryz.func91,Tryz.ntmps91;go_wp2_with fail;go_ret;refine⟨?_,Ji _ _⟩;rw[HN.out];exact Kk (λb=>Ending.returned (.bool b)) (by by_cases h:r=1<;>simp[h]<;>omega)
  |false=>
   have N2:=Jf (show¬nm=Vd.cm from NH H2.out);cases b3 with
   |true=>
    have HN:=Jf (show Vd.dt nm r=decide (0<r) by unfold Vd.dt;rw[Jj N1.out,Jj N2.out,Jo (show nm=Vd.eM from eq_of_beq H3.out)]);go_enter Tryz.func91,Tryz.ntmps91;go_wp2_with fail;go_ret;refine⟨?_,Ji _ _⟩;rw[HN.out];exact Kk (λb=>Ending.returned (.bool b)) (by first|rfl|(rw[KM];simp))
   |false=>
    have N3:=Jf (show¬nm=Vd.eM from NH H3.out);have HN:=Jf (show Vd.dt nm r=false by unfold Vd.dt;rw[Jj N1.out,Jj N2.out,Jj N3.out]);go_enter Tryz.func91,Tryz.ntmps91;go_wp2_with fail;go_ret;refine⟨?_,Ji _ _⟩;rw[HN.out];exact Kk (λb=>Ending.returned (.bool b)) (rfl)
theorem D1(kk:Jd)(kn:Int)(key:Jd)(gk:Nat)(w:World)(hk:w.cell? ⟨gk,0,none⟩=some (.string ⟨key.toArray⟩)):Calls Tryz.prog 183 #[.agg #[.string ⟨kk.toArray⟩,.int .i64 kn],.pointer (some ⟨gk,0,none⟩)] w λe w'=>e=.returned (.bool (kk==key))/\Below w.heap.size w w':=by
 have HB:=Jf ((Ji w.heap.size w).alloc (Jh _) (.cells #[kk,.int .i64 kn] 109));have hgl:=Jn _ _ hk;obtain⟨b,hb⟩:∃b,(kk==key)=b:=⟨_,rfl⟩;rw[hb];cases b;all_goals
  go_enter Tryz.func183,Tryz.ntmps183;go_wp2_with fail;go_ret;exact⟨rfl,HB.out⟩
theorem vq(kids:List (Jd×Nat))(A:Option Addr)(c:Nat)(key:Jd)(gk:Nat)(w:World)(hs:qj w.cell? A kids)(hl:kids.length<=c)(hm:c<=maxLen)(hk:w.cell? ⟨gk,0,none⟩=some (.string ⟨key.toArray⟩)):
  Calls Tryz.prog 197 #[.slice A kids.length c,.func (.func 183) #[] #[.pointer (some ⟨gk,0,none⟩)]] w λe w'=>∃i:Int,e=.returned (.int .i64 i)/\decide (0<=i)=(kids.any λp=>p.1==key)/\Below w.heap.size w w':=by
 have HS:=Jf hs;have HK:=Jf hk;unfold maxLen at hm;clear hs hk;go_enter Tryz.func197,Tryz.ntmps197;go_wp2_with fail
 go_loopw [8] (λi wr=>∃j:Nat,j<=kids.length/\i=.int .i64 j/\Below w.heap.size w wr/\((kids.take j).any λp=>p.1==key)=false) (λi _=>kids.length-(intOf i).toNat)
 case atStart=>exact⟨0,by omega,rfl,Ji _ _,rfl⟩
 case round=>
  obtain⟨j,hj,rfl,hb,hal⟩:=hrel;have HB:=Jf hb;have HAL:=Jf hal;clear hb hal;by_cases hlt:j<kids.length
  .obtain⟨g,o,rfl,c0,c1⟩:=HS.out j _ (Jg hlt);have d0:wr.cell? ⟨g,o+j*2,none⟩=_:=(aa HB.out) _ _ c0;have d1:wr.cell? ⟨g,o+j*2+1,none⟩=_:=(aa HB.out) _ _ c1;have hgl:=Jn _ _ d0;have HC:=Jf (D1 (kids[j]).1 (kids[j]).2 key gk wr ((aa HB.out) _ _ HK.out));have HN:=Jf (show((kids.take (j+1)).any λp=>p.1==key)=((kids[j]).1==key) by rw[Jr hlt,List.any_append,HAL.out];simp);have HY:=Jf (λ(h:((kids[j]).1==key)=true)=>(show(kids.any λp=>p.1==key)=true from Mo.2 ⟨kids[j],Jv hlt,h⟩));obtain⟨sb,hsb⟩:∃sb,((kids[j]).1==key)=sb:=⟨_,rfl⟩;rw[hsb] at HC HN HY;clear c0 c1 hsb;have hji:(j:Int)<(kids.length:Int):=by omega
   generalize (kids[j]).1=kk at*
   generalize (kids[j]).2=kn at*
   cases sb with
   |true=>
    go_wp2_with (refine HC.out.mono ?_;rintro e2 w2 ⟨rfl,hb2⟩;have HB2:=Jf (HB.out.trans (hb2.mono HB.out.size));clear hb2);go_ret;exact⟨j,rfl,by rw[HY.out (by simp)];exact K5 (by omega),HB2.out⟩
   |false=>
    go_wp2_with (refine HC.out.mono ?_;rintro e2 w2 ⟨rfl,hb2⟩;have HB2:=Jf (HB.out.trans (hb2.mono HB.out.size));clear hb2);go_roundw;case rel=>exact⟨j+1,by omega,by go_num,HB2.out,HN.out⟩
    case measure=>simp[intOf];omega
  .obtain rfl:j=kids.length:=by omega
   have HF:=Jf (show(kids.any λp=>p.1==key)=false by have:=HAL.out;rwa[JC] at this);go_wp2_with fail;go_ret;exact⟨-1,rfl,by rw[HF.out];rfl,HB.out⟩
theorem zR(kids:List (Jd×Nat))(A:Option Addr)(c:Nat)(key:Jd)(gk:Nat)(w:World)(hs:qj w.cell? A kids)(hl:kids.length<=c)(hm:c<=maxLen)(hk:w.cell? ⟨gk,0,none⟩=some (.string ⟨key.toArray⟩)):
  Calls Tryz.prog 182 #[.slice A kids.length c,.func (.func 183) #[] #[.pointer (some ⟨gk,0,none⟩)]] w λe w'=>e=.returned (.bool (kids.any λp=>p.1==key))/\Below w.heap.size w w':=by
 have HC:=Jf (vq kids A c key gk w hs hl hm hk);clear hs hk hm;go_enter Tryz.func182,Tryz.ntmps182;go_wp2_with fail;refine HC.out.mono ?_;rintro e1 w1 ⟨i,rfl,hi,hb⟩;have HI:=Jf hi;have HB:=Jf hb;clear HC hi hb;go_wp2_with fail;go_ret;exact⟨by rw[<-HI.out];rfl,HB.out⟩
theorem qY(P:Cm.Names)(tx:Jd)(nall npass:Bool)(keys:List Cm.Key)(A2:Option Addr)(c2:Nat)(key:Jd)(w:World)(hk:gS w.cell? A2 keys)(h1:keys.length<=c2)(h2:c2<=maxLen):
  Calls Tryz.prog 155 #[.agg #[.string ⟨tx.toArray⟩,.bool nall,.bool npass,.slice A2 keys.length c2],key] w λe w'=>e=.returned (.bool (Vd.named ⟨P,nall,npass,keys⟩ key))/\Below w.heap.size w w':=by
 have HK:=Jf hk;have HNM:=Jf (show Vd.named ⟨P,nall,npass,keys⟩ key=(keys.any λK=>(K.name==[112,114,111,112,101,114,116,105,101,115])&&(K.kids.any λp=>p.1==key)) by
  have h:Vd.named ⟨P,nall,npass,keys⟩ key=(keys.any λK=>(K.name==Vd.b9)&&(K.kids.any λp=>p.1==key)):=by rw[KM];simp[Vd.named]
  exact h)
 unfold maxLen at h2;clear hk;have hb0:=(Ji w.heap.size w).alloc (Jh _) (.cells #[tx,nall,npass,.slice A2 keys.length c2] 39);have HB0:=Jf (hb0.alloc hb0.size (.cells #[.string ⟨key.toArray⟩] 9));have HX0:=Jf ((Blk.new w 39 #[tx,nall,npass,.slice A2 keys.length c2]).alloc (.cells #[.string ⟨key.toArray⟩] 9));have HY0:=Jf (Blk.new (w.alloc (.cells #[tx,nall,npass,.slice A2 keys.length c2] 39)) 9 #[.string ⟨key.toArray⟩]);clear hb0;go_enter Tryz.func155,Tryz.ntmps155;go_upto_region 1 with(fail);generalize (w.alloc (.cells #[tx,nall,npass,.slice A2 keys.length c2] 39)).alloc (.cells #[.string ⟨key.toArray⟩] 9)=w0 at*
 have hgy:(w.alloc (.cells #[tx,nall,npass,.slice A2 keys.length c2] 39)).heap.size=w.heap.size+1:=by show(w.heap.push _).size=_;exact LH _
 rw[hgy] at HY0;obtain⟨gk,hgk⟩:∃gk,w.heap.size+1=gk:=⟨_,rfl⟩;try rw[hgk]
 rw[hgk] at HY0;clear hgy hgk;have hx3:=HX0.out.cell 3;have hxl:=HX0.out.lt;go_wp2_with fail
 go_loopw [10] (λi wr=>∃k:Nat,k<=keys.length/\i=.int .i64 k/\Below w.heap.size w wr/\Blk wr gk 9 #[.string ⟨key.toArray⟩]/\((keys.take k).any λK=>(K.name==[112,114,111,112,101,114,116,105,101,115])&&(K.kids.any λp=>p.1==key))=false) (λi _=>keys.length-(intOf i).toNat)
 case atStart=>exact⟨0,by omega,rfl,HB0.out,HY0.out,rfl⟩
 case round=>
  obtain⟨k,hkq,rfl,hb,hgk,hal⟩:=hrel;have HB:=Jf hb;have HAL:=Jf hal;have HGK:=Jf hgk;clear hb hal hgk HB0 HX0 HY0 hx3 hxl;by_cases hkl:k<keys.length
  .obtain⟨g3,o3,cs3,rfl,hi3,hc3⟩:=HK.out k _ (Jg hkl);obtain⟨j_1,j_2,j_3,j_4,j_5,j_6,j_7,j_8,j_9,j_a,j_b,j_c,A4,c4,rfl,_,hk4,hl4,hm4⟩:=hi3.cells;have d0:wr.cell? ⟨g3,o3+k*10,none⟩=_:=(aa HB.out) _ _ (hc3 0 _ rfl);have d1:wr.cell? ⟨g3,o3+k*10+1,none⟩=_:=(aa HB.out) _ _ (hc3 1 _ rfl);have d2:wr.cell? ⟨g3,o3+k*10+2,none⟩=_:=(aa HB.out) _ _ (hc3 2 _ rfl);have d3:wr.cell? ⟨g3,o3+k*10+3,none⟩=_:=(aa HB.out) _ _ (hc3 3 _ rfl);have d4:wr.cell? ⟨g3,o3+k*10+4,none⟩=_:=(aa HB.out) _ _ (hc3 4 _ rfl);have d5:wr.cell? ⟨g3,o3+k*10+5,none⟩=_:=(aa HB.out) _ _ (hc3 5 _ rfl);have d6:wr.cell? ⟨g3,o3+k*10+6,none⟩=_:=(aa HB.out) _ _ (hc3 6 _ rfl);have d7:wr.cell? ⟨g3,o3+k*10+7,none⟩=_:=(aa HB.out) _ _ (hc3 7 _ rfl);have d8:wr.cell? ⟨g3,o3+k*10+8,none⟩=_:=(aa HB.out) _ _ (hc3 8 _ rfl);have d9:wr.cell? ⟨g3,o3+k*10+9,none⟩=_:=(aa HB.out) _ _ (hc3 9 _ rfl);have hki:(k:Int)<(keys.length:Int):=by omega
   have hgl3:=Jn _ _ d0;have hb1:=(Ji wr.heap.size wr).alloc (Jh _) (.cells #[.string ⟨(keys[k]).name.toArray⟩,.int .i64 j_1,j_2,j_3,j_4,.int .i64 j_5,j_6,.slice j_7 j_8 j_9,.slice j_a j_b j_c,.slice A4 (keys[k]).kids.length c4] 68);have HB1:=Jf (HB.out.trans (hb1.mono HB.out.size));have HKB:=Jf (Blk.new wr 68 #[.string ⟨(keys[k]).name.toArray⟩,.int .i64 j_1,j_2,j_3,j_4,.int .i64 j_5,j_6,.slice j_7 j_8 j_9,.slice j_a j_b j_c,.slice A4 (keys[k]).kids.length c4]);have HGK1:=Jf (HGK.out.on hb1);have HC:=Jf (zR (keys[k]).kids A4 c4 key gk _ (hk4.keep (aa HB1.out)) hl4 hm4 (HGK1.out.cell 0));have HN:=Jf (show((keys.take (k+1)).any λK=>(K.name==[112,114,111,112,101,114,116,105,101,115])&&(K.kids.any λp=>p.1==key))=(((keys[k]).name==[112,114,111,112,101,114,116,105,101,115])&&((keys[k]).kids.any λp=>p.1==key)) by rw[Jr hkl,List.any_append,HAL.out];simp);have HYY:=Jf (λ(h:(((keys[k]).name==[112,114,111,112,101,114,116,105,101,115])&&((keys[k]).kids.any λp=>p.1==key))=true)=>(show(keys.any λK=>(K.name==[112,114,111,112,101,114,116,105,101,115])&&(K.kids.any λp=>p.1==key))=true from Mo.2 ⟨keys[k],Jv hkl,h⟩));clear hi3 hc3 hk4 hb1;generalize (keys[k]).kids=kids at*
   generalize (keys[k]).name=nm at*
   obtain⟨sb,hsb⟩:∃sb,(kids.any λp=>p.1==key)=sb:=⟨_,rfl⟩;obtain⟨pb,hpb⟩:∃pb,(nm==[112,114,111,112,101,114,116,105,101,115])=pb:=⟨_,rfl⟩;rw[hsb] at HC;rw[hsb,hpb] at HN HYY;clear hsb;go_upto_region 4 with(fail);generalize wr.alloc (.cells #[nm,.int .i64 j_1,j_2,j_3,j_4,.int .i64 j_5,j_6,.slice j_7 j_8 j_9,.slice j_a j_b j_c,.slice A4 kids.length c4] 68)=wk at*
   generalize wr.heap.size=gz at*
   clear d0 d1 d2 d3 d4 d5 d6 d7 d8 d9 hgl3 HGK;obtain⟨z0,z1,z2,z3,z4,z5,z6,z7,z8,z9⟩:=HKB.out.ten;have hzl:=HKB.out.lt;cases pb with
   |false=>
    go_wp2_with fail;go_roundw;case rel=>exact⟨k+1,by omega,by go_num,HB1.out,HGK1.out,HN.out⟩
    case measure=>simp[intOf];omega
   |true=>
    cases sb with
    |false=>
     go_wp2_with (refine HC.out.mono ?_;rintro e2 w2 ⟨rfl,hb2⟩;have HB2:=Jf (HB1.out.trans (hb2.mono HB1.out.size));have HGK2:=Jf (HGK1.out.on hb2);clear hb2);go_roundw;case rel=>exact⟨k+1,by omega,by go_num,HB2.out,HGK2.out,HN.out⟩
     case measure=>simp[intOf];omega
    |true=>
     go_wp2_with (refine HC.out.mono ?_;rintro e2 w2 ⟨rfl,hb2⟩;have HB2:=Jf (HB1.out.trans (hb2.mono HB1.out.size));have HGK2:=Jf (HGK1.out.on hb2);clear hb2);go_ret;exact⟨by rw[HNM.out,HYY.out (by simp)];rfl,HB2.out⟩
  .obtain rfl:k=keys.length:=by omega
   have HF:=Jf (show Vd.named ⟨P,nall,npass,keys⟩ key=false by rw[HNM.out];have:=HAL.out;rwa[JC] at this);go_wp2_with fail;go_ret;exact⟨by rw[HF.out];rfl,HB.out⟩
end
