import Derived.Test.YtdhgmaonolgpnaaGreatDoorMo
set_option linter.unusedSimpArgs false
set_option maxHeartbeats 2000000
set_option maxRecDepth 100000
namespace Go.Proofs.YtdhgmaonolgpnaaGreatDoor
section
open Go.RowKit
structure ju (w:World) (neg:Bool) (wr:World):Prop where
 c0:wr.cell? ⟨w.heap.size+1,0,none⟩=some (.bool neg)
 c1:wr.cell? ⟨w.heap.size+1,1,none⟩=some (.string ⟨#[]⟩)
 c2:wr.cell? ⟨w.heap.size+1,2,none⟩=some (.int .i64 0)
 fz:∀o,wr.frozen? ⟨w.heap.size+1,o,none⟩=false
 below:Below (w.heap.size+1) (w.alloc (.cells #[false,.string ⟨#[]⟩,.int .i64 0] 27)) wr
 size:w.heap.size+2<=wr.heap.size
theorem ju.start(w:World):ju w false ((w.alloc (.cells #[false,.string ⟨#[]⟩,.int .i64 0] 27)).alloc (.cells #[false,.string ⟨#[]⟩,.int .i64 0] 27)):=
 ⟨by simp,by simp,by simp,λo=>by simp,(Ji _ _).alloc (by simp) _,by simp⟩
theorem ju.alloc{w:World}{neg:Bool}{wr:World}(h:ju w neg wr)(o:Obj):ju w neg (wr.alloc o):=by
 have hb:Below wr.heap.size wr (wr.alloc o):=(Ji _ _).alloc (Jh _) _;have hz:=h.size;have hc:=λk=>hb.cell (p:=⟨w.heap.size+1,k,none⟩) (by simp;omega);exact⟨(hc 0).trans h.c0,(hc 1).trans h.c1,(hc 2).trans h.c2,λk=>(hb.frozen (p:=⟨w.heap.size+1,k,none⟩) (by simp;omega)).trans (h.fz k),h.below.trans (hb.mono (by omega)),by have:=hb.size;omega⟩
theorem ju.minus{w:World}{neg:Bool}{wr:World}(h:ju w neg wr):ju w true (wr.setCell ⟨w.heap.size+1,0,none⟩ (.bool true)):=by
 refine⟨LD _ _ _ h.c0,(K8 _ _ _ _ (λe=>by cases e)).trans h.c1,(K8 _ _ _ _ (λe=>by cases e)).trans h.c2,λo=>by rw[World.frozen?_setCell];exact h.fz o,h.below.setCell (p:=⟨w.heap.size+1,0,none⟩) (Jh _) _,by simp[World.setCell];exact h.size⟩
theorem ju.full{w:World}{neg:Bool}{wr:World}(h:ju w neg wr)(R:Jd)(x:Int){w2:World}
  (hb:Below ((wr.setCell ⟨w.heap.size+1,1,none⟩ (.string ⟨R.toArray⟩)).setCell ⟨w.heap.size+1,2,none⟩ (.int .i64 x)).heap.size ((wr.setCell ⟨w.heap.size+1,1,none⟩ (.string ⟨R.toArray⟩)).setCell ⟨w.heap.size+1,2,none⟩ (.int .i64 x)) w2):
  eT w2 (w.heap.size+1) neg R x/\Below (w.heap.size+1) (w.alloc (.cells #[false,.string ⟨#[]⟩,.int .i64 0] 27)) w2/\w.heap.size+2<=w2.heap.size:=by
 have hz:((wr.setCell ⟨w.heap.size+1,1,none⟩ (.string ⟨R.toArray⟩)).setCell ⟨w.heap.size+1,2,none⟩ (.int .i64 x)).heap.size=wr.heap.size:=by simp[World.setCell]
 have hs:=h.size;have n0:eT ((wr.setCell ⟨w.heap.size+1,1,none⟩ (.string ⟨R.toArray⟩)).setCell ⟨w.heap.size+1,2,none⟩ (.int .i64 x)) (w.heap.size+1) neg R x:=by
  refine⟨?_,?_,?_⟩
  .rw[K8 _ _ _ _ (λe=>by cases e),K8 _ _ _ _ (λe=>by cases e)];exact h.c0
  .rw[K8 _ _ _ _ (λe=>by cases e)];exact LD _ _ _ h.c1
  .exact LD _ _ _ ((K8 _ _ _ _ (λe=>by cases e)).trans h.c2)
 refine⟨n0.keep hb (by omega),?_,by have:=hb.size;omega⟩;exact((h.below.setCell (p:=⟨w.heap.size+1,1,none⟩) (Jh _) _).setCell (p:=⟨w.heap.size+1,2,none⟩) (Jh _) _).trans (hb.mono (by omega))
def nT(w:World)(l:Jd)(v7 v8 v9 v10 v11 v12 v13:Value)(wr:World)(k:Nat):Prop:=
 k<=l.length/\v13=.int .i64 k/\v7=.string ⟨(Nm.scan (l.take k)).digits.toArray⟩/\v8=.int .i64 (Nm.scan (l.take k)).behind/\v9=.bool (Nm.scan (l.take k)).point/\
  v10=.int .i64 (Nm.scan (l.take k)).exp/\v11=.bool (Nm.scan (l.take k)).down/\v12=.bool (Nm.scan (l.take k)).power/\ju w (Nm.scan (l.take k)).neg wr
theorem nT.mk{w wr:World}{l:Jd}{k:Nat}{neg:Bool}{D:Jd}{beh:Nat}{pt:Bool}{ex:Int}{dn pw:Bool}(hk:k+1<=l.length)(hs:Nm.scan (l.take (k+1))=⟨neg,D,beh,pt,ex,dn,pw⟩)(hg:ju w neg wr):
  nT w l (.string ⟨D.toArray⟩) (.int .i64 beh) (.bool pt) (.int .i64 ex) (.bool dn) (.bool pw) (.int .i64 ((k:Int)+1)) wr (k+1):=by
 unfold nT;rw[hs];exact⟨hk,by go_num,rfl,rfl,rfl,rfl,rfl,rfl,hg⟩
theorem byte_back(c:UInt8):UInt8.ofNat ((c.toNat:Int).toNat)=c:=by
 rw[Ku];exact UInt8.ofNat_toNat
theorem AA(s:ByteArray)(w:World)(hs:s.size<=100000)(HNL:Nm.Ey s.data.toList):
  Calls Tryz.prog 56 #[.string s] w λe w'=>e=.returned (.tuple #[gr (Nm.parse s.data.toList).1,.int .i64 (Nm.parse s.data.toList).2])/\Below w.heap.size w w':=by
 have F0:iD s 0 s.data.toList:=⟨by omega,by omega,rfl⟩;have hsl:s.data.toList.length=s.size:=(L6 s).symm;have HSL:=Jf hsl;clear hsl;have hse:=Nm.E3 s.data.toList;go_enter Tryz.func56,Tryz.ntmps56;go_wp2_with fail;refine(BE s 0 _ _ F0 (by omega)).mono ?_;unfold Ends;rintro e w' ⟨rfl,rfl⟩;generalize Nm.bA s.data.toList=eo at hse ⊢;obtain⟨rem,ok⟩:=eo;by_cases hok:ok=true/\rem=[]
 .obtain⟨rfl,rfl⟩:=hok;have hsp:=Jf (hse.2 rfl);clear hse;go_wp2_with fail
  go_loopw [7,8,9,10,11,12,13] (λv7 v8 v9 v10 v11 v12 v13 wr=>∃k:Nat,nT w s.data.toList v7 v8 v9 v10 v11 v12 v13 wr k) (λ_ _ _ _ _ _ v13 _=>s.size-(intOf v13).toNat)
  case atStart=>exact⟨0,JE _,rfl,rfl,rfl,rfl,rfl,rfl,rfl,ju.start w⟩
  case round=>
   obtain⟨k,hk,rfl,rfl,rfl,rfl,rfl,rfl,rfl,hG⟩:=hrel;have hkl:k<=s.size:=by rw[<-HSL.out];exact hk
   clear hk;have hbd:=Nm.Hp (s.data.toList.take k);rw[JL,HSL.out] at hbd;by_cases hlt:k<s.size
   .have HSN:=Jf (Nm.DO s.data.toList k (by rw[HSL.out];exact hlt));have hix:∀h,s[k]'h=s.data.toList[k]'(by rw[HSL.out];exact hlt):=λ_=>rfl;generalize s.data.toList[k]'(by rw[HSL.out];exact hlt)=c at HSN hix;generalize Nm.scan (s.data.toList.take k)=st at HSN hbd hG ⊢;obtain⟨neg,D,beh,pt,ex,dn,pw⟩:=st;simp only at hbd hG;have hkl':k+1<=s.data.toList.length:=by rw[HSL.out];exact hlt
    have HK:=Jf hkl';obtain⟨⟨hx0,hx1⟩,hbh,hdl⟩:=hbd;have hdl':D.length<=100000:=by omega
    have hbh':beh<=100000:=by omega
    have h256:=c.toNat_lt;clear hkl' hbh hdl;cases pw
    .by_cases c45:c=45
     .have b45:((c.toNat:Int)==45)=true:=Nm.dL c45;have C45:=Jf c45;clear c45;have g0:=hG.c0;have gf:=hG.fz 0;go_wp2_with fail;exact⟨⟨k+1,nT.mk HK.out (HSN.out.trans (by simp[Nm.step,C45.out])) hG.minus⟩,by simp[intOf];omega⟩
     .have b45:((c.toNat:Int)==45)=false:=Nm.bw c45;have C45:=Jf c45;clear c45;by_cases c46:c=46
      .have b46:((c.toNat:Int)==46)=true:=Nm.dL c46;have C46:=Jf c46;clear c46;go_wp2_with fail;exact⟨⟨k+1,nT.mk HK.out (HSN.out.trans (by simp[Nm.step,C46.out])) hG⟩,by simp[intOf];omega⟩
      .have b46:((c.toNat:Int)==46)=false:=Nm.bw c46;have C46:=Jf c46;clear c46;by_cases c101:c=101
       .have b101:((c.toNat:Int)==101)=true:=Nm.dL c101;have C101:=Jf c101;clear c101;go_wp2_with fail;exact⟨⟨k+1,nT.mk HK.out (HSN.out.trans (by simp[Nm.step,C101.out])) hG⟩,by simp[intOf];omega⟩
       .have b101:((c.toNat:Int)==101)=false:=Nm.bw c101;have C101:=Jf c101;clear c101;by_cases c69:c=69
        .have b69:((c.toNat:Int)==69)=true:=Nm.dL c69;have C69:=Jf c69;clear c69;go_wp2_with fail;exact⟨⟨k+1,nT.mk HK.out (HSN.out.trans (by simp[Nm.step,C69.out])) hG⟩,by simp[intOf];omega⟩
        .have b69:((c.toNat:Int)==69)=false:=Nm.bw c69;have C69:=Jf c69;clear c69;have hcw:=one_byte (wr.alloc (.cells #[.int .u8 (c.toNat:Int)] 5)) wr.heap.size c.toNat (by simp) (by omega) (by omega);rw[byte_back] at hcw;have hadd:=λW=>bR W D [c] (by simp;omega);cases pt
         .go_wp2_with fail;exact⟨⟨k+1,nT.mk HK.out (HSN.out.trans (by simp[Nm.step,C45.out,C46.out,C101.out,C69.out])) (hG.alloc _)⟩,by simp[intOf];omega⟩
         .go_wp2_with fail;exact⟨⟨k+1,nT.mk (beh:=beh+1) HK.out (HSN.out.trans (by simp[Nm.step,C45.out,C46.out,C101.out,C69.out])) (hG.alloc _)⟩,by simp[intOf];omega⟩
    .by_cases c45:c=45
     .have b45:((c.toNat:Int)==45)=true:=Nm.dL c45;have C45:=Jf c45;have hlo:(c.toNat:Int)<48:=by rw[c45];decide
      clear c45;go_wp2_with fail;exact⟨⟨k+1,nT.mk HK.out (HSN.out.trans (by simp[Nm.step,Nm.jM,Nm.dig,C45.out])) hG⟩,by simp[intOf];omega⟩
     .have b45:((c.toNat:Int)==45)=false:=Nm.bw c45;have C45:=Jf c45;clear c45;by_cases hd:Nm.dig c=true
      .have hd':=Nm.jS hd;obtain⟨hd1,hd2⟩:=hd';have HD:=Jf hd;clear hd;go_wp2_with fail;exact⟨⟨k+1,nT.mk HK.out (HSN.out.trans (by simp[Nm.step,Nm.jM,HD.out,C45.out])) hG⟩,by simp[intOf];omega⟩
      .have hd':c.toNat<48\/57<c.toNat:=by
        simp only[Nm.dig,JH,JF] at hd;omega
       have HD:=Jf (show Nm.dig c=false from by simpa using hd);clear hd;rcases hd' with hd'|hd';all_goals
        go_wp2_with fail;exact⟨⟨k+1,nT.mk HK.out (HSN.out.trans (by simp[Nm.step,Nm.jM,HD.out,C45.out])) hG⟩,by simp[intOf];omega⟩
   .have hke:k=s.size:=by omega
    subst hke;rw[show s.data.toList.take s.size=s.data.toList from by rw[<-HSL.out,JC]] at hbd hG ⊢;clear hlt hkl;obtain⟨HDG,HPR⟩:=HNL hsp.out;have HDG':=Jf HDG;have HPR':=Jf HPR;clear HDG HPR;generalize Nm.scan s.data.toList=st at HDG' HPR' hbd hG ⊢;obtain⟨neg,D,beh,pt,ex,dn,pw⟩:=st;simp only at hbd hG;obtain⟨⟨hx0,hx1⟩,hbh,hdl⟩:=hbd;have hdl':D.length<=100000:=by omega
    have hbh':beh<=100000:=by omega
    cases dn
    .go_wp2_with fail;generalize hx0:(ex-(beh:Int))=x0;have hx1: -1200000<=x0:=by omega
     have hx2:x0<=1200000:=by omega
     have HX0:=Jf hx0;clear hx0
     go_loop [15] (λv15=>∃j:Nat,j<=D.length/\v15=.int .i64 j/\∀(i:Nat) b,i<j->D[i]? =some b->b=48) (λv15=>D.length-(intOf v15).toNat)
     case atStart=>exact⟨0,JE _,rfl,λi b hi=>absurd hi (Kt _)⟩
     case round=>
      obtain⟨j,hj,rfl,hz⟩:=hrel;have hZ:Lib.Kept (∀(i:Nat) b,i<j->D[i]? =some b->b=48):=hz;clear hz;have hstop:j<D.length/\D[j]? =some 48\/(∃hne:¬(j<D.length/\D[j]? =some 48),True):=by
       by_cases h:j<D.length/\D[j]? =some 48
       .exact .inl h
       .exact .inr ⟨h,trivial⟩
      rcases hstop with⟨hlt,hd⟩|⟨hne,-⟩
      .have hix:∀h,(⟨D.toArray⟩:ByteArray)[j]'h=48:=λh=>by
        rw[Jg hlt] at hd;exact JY hd
       have HD:=Jf hd;clear hd;go_wp2_with fail
       go_round
       case rel=>exact⟨j+1,by omega,by go_num,λi b hi hb=>(by
        by_cases e:i=j
        .subst e;rw[HD.out] at hb;exact(JY hb).symm
        .exact hZ i b (by omega) hb)⟩
       case measure=>simp[intOf];omega
      .have HTL:=Jf (Lib.trimLeftB_drop D 48 j hj hZ (λb hb e=>hne ⟨(by
        rcases KW j D.length with h|h
        .exact h
        .rw[Kb h] at hb;cases hb),by rw[hb,e]⟩))
       have hways:(¬j<D.length)\/(j<D.length/\∃b,D[j]? =some b/\b≠48):=by
        by_cases h:j<D.length
        .right
         refine⟨h,D[j],Jg h,λe=>hne ⟨h,by rw[Jg h,e]⟩⟩
        .exact .inl h
       clear hne hZ;have hpass:Lib.Kept True:=trivial;rcases hways with hge|⟨hlt,b,hb,hb48⟩
       rotate_left
       have hix:∀h,(⟨D.toArray⟩:ByteArray)[j]'h=b:=λh=>by
        rw[Jg hlt] at hb;exact JY hb
       have bb:((b.toNat:Int)==48)=false:=Nm.bw hb48;clear hb hb48;all_goals
        go_wp2_with fail
        go_loop [16,10] (λv16 v10=>∃q:Nat,j<=q/\q<=D.length/\v16=.int .i64 q/\v10=.int .i64 (x0+((D.length:Int)-q))/\∀(i:Nat) b,q<=i->D[i]? =some b->b=48) (λv16 _=>(intOf v16).toNat)
        case atStart=>exact⟨D.length,hj,Jh _,rfl,by congr 1;omega,λi b hi hb=>by rw[Kb hi] at hb;cases hb⟩
        case round=>
         obtain⟨q,hjq,hq,rfl,rfl,hz⟩:=hrel;have hZ:Lib.Kept (∀(i:Nat) b,q<=i->D[i]? =some b->b=48):=hz;clear hz;by_cases hcont:j<q/\D[q-1]? =some 48
         .obtain⟨hlt3,hd3⟩:=hcont
          (try (exfalso;omega))
          all_goals
           obtain⟨qq,rfl⟩:∃qq,q=qq+1:=⟨q-1,by omega⟩;have hlt4:qq<D.length:=by omega
           have hd4:D[qq]? =some 48:=by simpa using hd3
           have hix3:∀h,(⟨D.toArray⟩:ByteArray)[qq]'h=48:=λh=>by
            rw[Jg hlt4] at hd4;exact JY hd4
           have HD3:=Jf hd4;clear hd3 hd4;go_wp2_with fail
           go_round
           case rel=>exact⟨qq,by omega,by omega,by first|rfl|go_num|(congr 1;omega),by first|rfl|(congr 1;omega),λi b hi hb=>(by
            by_cases e:i=qq
            .subst e;rw[HD3.out] at hb;exact(JY hb).symm
            .exact hZ i b (by omega) hb)⟩
           case measure=>simp[intOf]
         .have HC:=Jf (show Nm.core D=(D.drop j).take (q-j) by
           unfold Nm.core;rw[HTL.out];refine Lib.trimRightB_take (D.drop j) 48 (q-j) (by rw[JJ];omega) (λi b hi hb=>?_) (λb h0 hb e=>hcont ⟨by omega,?_⟩)
           .rw[Kf] at hb;exact hZ (j+i) b (by omega) hb
           .rw[Kf,show j+(q-j-1)=q-1 from by omega] at hb;rw[hb,e])
          have hrl:((D.drop j).take (q-j)).length=q-j:=by rw[JL,JJ];omega
          have HF:=Jf (show Nm.parse s.data.toList=Nm.made neg ((D.drop j).take (q-j)) (x0+((D.length:Int)-q)) by
           rw[HPR'.out];unfold Nm.vN;simp only;rw[HC.out,HTL.out,hrl,JJ,<-HX0.out]
           congr 1
           simp;omega)
          have hways3:q=j\/(j<q/\∃b,D[q-1]? =some b/\b≠48):=by
           by_cases h:j<q
           .right
            have hq1:q-1<D.length:=by omega
            exact⟨h,D[q-1],Jg hq1,λe=>hcont ⟨h,by rw[Jg hq1,e]⟩⟩
           .left;omega
          clear hcont hZ HPR' HX0 HTL;obtain⟨r0,r1,r2,r3⟩:=fF hG.below;have hgs:=hG.size;have k1:w.heap.size<wr.heap.size:=by omega
          have h4:Below w.heap.size w wr:=((Ji _ _).alloc (Jh _) _).trans (hG.below.mono (KD _));rcases hways3 with rfl|⟨hlt3,b3,hb3,hb348⟩
          .go_wp2_with fail;refine Ju (v:=.tuple #[gr (Nm.parse s.data.toList).1,.int .i64 (Nm.parse s.data.toList).2]) ?_ rfl ⟨rfl,?_⟩
           .rw[HF.out];simp[results,Tryz.results56,go_sem,r0,r1,r2,Nm.made,Nm.Num.zero]
           .exact ae (ae (ae h4 (Jh _) _ _) (Jh _) _ _) (Jh _) _ _
          ·(try (exfalso;omega))
           all_goals
            obtain⟨qq,rfl⟩:∃qq,q=qq+1:=⟨q-1,by omega⟩;have hlt4:qq<D.length:=by omega
            have hd4:D[qq]? =some b3:=by simpa using hb3
            have hix3:∀h,(⟨D.toArray⟩:ByteArray)[qq]'h=b3:=λh=>by
             rw[Jg hlt4] at hd4;exact JY hd4
            have bb3:((b3.toNat:Int)==48)=false:=Nm.bw hb348;clear hb3 hd4 hb348;have hjq2:((j:Int)==(qq:Int)+1)=false:=by rw[Jp];omega
            have hext:(⟨D.toArray⟩:ByteArray).extract j (qq+1)=⟨((D.drop j).take (qq+1-j)).toArray⟩:=MT D j (qq+1);have hRne:(D.drop j).take (qq+1-j)≠[]:=λe=>by rw[e] at hrl;simp at hrl;omega
            have hRd:∀c∈(D.drop j).take (qq+1-j),Nm.dig c=true:=λc hc=>HDG'.out c (Lw (KG hc));have hRh:=Nm.nY D;have hRl:=Nm.jz D;rw[HC.out] at hRh hRl;have hRlen:((D.drop j).take (qq+1-j)).length<=1000000:=by omega
            generalize (D.drop j).take (qq+1-j)=R at hext hRne hRd hRh hRl hRlen HF;have HM:=Jf (rH neg R (x0+((D.length:Int)-(qq+1))) · hRne hRd hRh hRl hRlen);clear hRd hRh hRl HC hrl;have g0:=hG.c0;have g1:=hG.c1;have g2:=hG.c2;have f1:=hG.fz 1;have f2:=hG.fz 2;go_wp2_with fail;refine(HM.out _).mono ?_;rintro e w2 ⟨rfl,hb2⟩;obtain⟨⟨m0,m1,m2⟩,hbw,hzw⟩:=hG.full R _ hb2;obtain⟨t0,t1,t2,t3⟩:=fF hbw;have k2:w.heap.size<w2.heap.size:=by omega
            have h5:Below w.heap.size w w2:=((Ji _ _).alloc (Jh _) _).trans (hbw.mono (KD _));clear hb2 hbw g0 g1 g2 f1 f2 r0 r1 r2 r3;generalize hm:nE R.length (x0+((D.length:Int)-(qq+1)))=mb;have HMB:=Jf (show Nm.parse s.data.toList=if mb then(⟨neg,R,x0+((D.length:Int)-(qq+1))⟩,0) else(Nm.Num.zero,5) by
             rw[HF.out];unfold Nm.made;rw[Jj (by simpa using hRne),show Nm.tj R.length (x0+((D.length:Int)-((qq+1:Nat):Int)))=mb from hm];rfl)
            clear hm HF HM;cases mb
            .go_wp2_with fail;refine Ju (v:=.tuple #[gr (Nm.parse s.data.toList).1,.int .i64 (Nm.parse s.data.toList).2]) ?_ rfl ⟨rfl,?_⟩
             .rw[HMB.out];simp[results,Tryz.results56,go_sem,t0,t1,t2,Nm.Num.zero]
             .exact ae (ae (ae h5 (Jh _) _ _) (Jh _) _ _) (Jh _) _ _
            .go_wp2_with fail;refine Ju (v:=.tuple #[gr (Nm.parse s.data.toList).1,.int .i64 (Nm.parse s.data.toList).2]) ?_ rfl ⟨rfl,?_⟩
             .rw[HMB.out];simp[results,Tryz.results56,go_sem,t0,t1,t2]
             .exact ae (ae (ae h5 (Jh _) _ _) (Jh _) _ _) (Jh _) _ _
    .go_wp2_with fail;generalize hx0:(-ex-(beh:Int))=x0;have hx1: -1200000<=x0:=by omega
     have hx2:x0<=1200000:=by omega
     have HX0:=Jf hx0;clear hx0
     go_loop [15] (λv15=>∃j:Nat,j<=D.length/\v15=.int .i64 j/\∀(i:Nat) b,i<j->D[i]? =some b->b=48) (λv15=>D.length-(intOf v15).toNat)
     case atStart=>exact⟨0,JE _,rfl,λi b hi=>absurd hi (Kt _)⟩
     case round=>
      obtain⟨j,hj,rfl,hz⟩:=hrel;have hZ:Lib.Kept (∀(i:Nat) b,i<j->D[i]? =some b->b=48):=hz;clear hz;have hstop:j<D.length/\D[j]? =some 48\/(∃hne:¬(j<D.length/\D[j]? =some 48),True):=by
       by_cases h:j<D.length/\D[j]? =some 48
       .exact .inl h
       .exact .inr ⟨h,trivial⟩
      rcases hstop with⟨hlt,hd⟩|⟨hne,-⟩
      .have hix:∀h,(⟨D.toArray⟩:ByteArray)[j]'h=48:=λh=>by
        rw[Jg hlt] at hd;exact JY hd
       have HD:=Jf hd;clear hd;go_wp2_with fail
       go_round
       case rel=>exact⟨j+1,by omega,by go_num,λi b hi hb=>(by
        by_cases e:i=j
        .subst e;rw[HD.out] at hb;exact(JY hb).symm
        .exact hZ i b (by omega) hb)⟩
       case measure=>simp[intOf];omega
      .have HTL:=Jf (Lib.trimLeftB_drop D 48 j hj hZ (λb hb e=>hne ⟨(by
        rcases KW j D.length with h|h
        .exact h
        .rw[Kb h] at hb;cases hb),by rw[hb,e]⟩))
       have hways:(¬j<D.length)\/(j<D.length/\∃b,D[j]? =some b/\b≠48):=by
        by_cases h:j<D.length
        .right
         refine⟨h,D[j],Jg h,λe=>hne ⟨h,by rw[Jg h,e]⟩⟩
        .exact .inl h
       clear hne hZ;have hpass:Lib.Kept True:=trivial;rcases hways with hge|⟨hlt,b,hb,hb48⟩
       rotate_left
       have hix:∀h,(⟨D.toArray⟩:ByteArray)[j]'h=b:=λh=>by
        rw[Jg hlt] at hb;exact JY hb
       have bb:((b.toNat:Int)==48)=false:=Nm.bw hb48;clear hb hb48;all_goals
        go_wp2_with fail
        go_loop [16,10] (λv16 v10=>∃q:Nat,j<=q/\q<=D.length/\v16=.int .i64 q/\v10=.int .i64 (x0+((D.length:Int)-q))/\∀(i:Nat) b,q<=i->D[i]? =some b->b=48) (λv16 _=>(intOf v16).toNat)
        case atStart=>exact⟨D.length,hj,Jh _,rfl,by congr 1;omega,λi b hi hb=>by rw[Kb hi] at hb;cases hb⟩
        case round=>
         obtain⟨q,hjq,hq,rfl,rfl,hz⟩:=hrel;have hZ:Lib.Kept (∀(i:Nat) b,q<=i->D[i]? =some b->b=48):=hz;clear hz;by_cases hcont:j<q/\D[q-1]? =some 48
         .obtain⟨hlt3,hd3⟩:=hcont
          (try (exfalso;omega))
          all_goals
           obtain⟨qq,rfl⟩:∃qq,q=qq+1:=⟨q-1,by omega⟩;have hlt4:qq<D.length:=by omega
           have hd4:D[qq]? =some 48:=by simpa using hd3
           have hix3:∀h,(⟨D.toArray⟩:ByteArray)[qq]'h=48:=λh=>by
            rw[Jg hlt4] at hd4;exact JY hd4
           have HD3:=Jf hd4;clear hd3 hd4;go_wp2_with fail
           go_round
           case rel=>exact⟨qq,by omega,by omega,by first|rfl|go_num|(congr 1;omega),by first|rfl|(congr 1;omega),λi b hi hb=>(by
            by_cases e:i=qq
            .subst e;rw[HD3.out] at hb;exact(JY hb).symm
            .exact hZ i b (by omega) hb)⟩
           case measure=>simp[intOf]
         .have HC:=Jf (show Nm.core D=(D.drop j).take (q-j) by
           unfold Nm.core;rw[HTL.out];refine Lib.trimRightB_take (D.drop j) 48 (q-j) (by rw[JJ];omega) (λi b hi hb=>?_) (λb h0 hb e=>hcont ⟨by omega,?_⟩)
           .rw[Kf] at hb;exact hZ (j+i) b (by omega) hb
           .rw[Kf,show j+(q-j-1)=q-1 from by omega] at hb;rw[hb,e])
          have hrl:((D.drop j).take (q-j)).length=q-j:=by rw[JL,JJ];omega
          have HF:=Jf (show Nm.parse s.data.toList=Nm.made neg ((D.drop j).take (q-j)) (x0+((D.length:Int)-q)) by
           rw[HPR'.out];unfold Nm.vN;simp only;rw[HC.out,HTL.out,hrl,JJ,<-HX0.out]
           congr 1
           simp;omega)
          have hways3:q=j\/(j<q/\∃b,D[q-1]? =some b/\b≠48):=by
           by_cases h:j<q
           .right
            have hq1:q-1<D.length:=by omega
            exact⟨h,D[q-1],Jg hq1,λe=>hcont ⟨h,by rw[Jg hq1,e]⟩⟩
           .left;omega
          clear hcont hZ HPR' HX0 HTL;obtain⟨r0,r1,r2,r3⟩:=fF hG.below;have hgs:=hG.size;have k1:w.heap.size<wr.heap.size:=by omega
          have h4:Below w.heap.size w wr:=((Ji _ _).alloc (Jh _) _).trans (hG.below.mono (KD _));rcases hways3 with rfl|⟨hlt3,b3,hb3,hb348⟩
          .go_wp2_with fail;refine Ju (v:=.tuple #[gr (Nm.parse s.data.toList).1,.int .i64 (Nm.parse s.data.toList).2]) ?_ rfl ⟨rfl,?_⟩
           .rw[HF.out];simp[results,Tryz.results56,go_sem,r0,r1,r2,Nm.made,Nm.Num.zero]
           .exact ae (ae (ae h4 (Jh _) _ _) (Jh _) _ _) (Jh _) _ _
          ·(try (exfalso;omega))
           all_goals
            obtain⟨qq,rfl⟩:∃qq,q=qq+1:=⟨q-1,by omega⟩;have hlt4:qq<D.length:=by omega
            have hd4:D[qq]? =some b3:=by simpa using hb3
            have hix3:∀h,(⟨D.toArray⟩:ByteArray)[qq]'h=b3:=λh=>by
             rw[Jg hlt4] at hd4;exact JY hd4
            have bb3:((b3.toNat:Int)==48)=false:=Nm.bw hb348;clear hb3 hd4 hb348;have hjq2:((j:Int)==(qq:Int)+1)=false:=by rw[Jp];omega
            have hext:(⟨D.toArray⟩:ByteArray).extract j (qq+1)=⟨((D.drop j).take (qq+1-j)).toArray⟩:=MT D j (qq+1);have hRne:(D.drop j).take (qq+1-j)≠[]:=λe=>by rw[e] at hrl;simp at hrl;omega
            have hRd:∀c∈(D.drop j).take (qq+1-j),Nm.dig c=true:=λc hc=>HDG'.out c (Lw (KG hc));have hRh:=Nm.nY D;have hRl:=Nm.jz D;rw[HC.out] at hRh hRl;have hRlen:((D.drop j).take (qq+1-j)).length<=1000000:=by omega
            generalize (D.drop j).take (qq+1-j)=R at hext hRne hRd hRh hRl hRlen HF;have HM:=Jf (rH neg R (x0+((D.length:Int)-(qq+1))) · hRne hRd hRh hRl hRlen);clear hRd hRh hRl HC hrl;have g0:=hG.c0;have g1:=hG.c1;have g2:=hG.c2;have f1:=hG.fz 1;have f2:=hG.fz 2;go_wp2_with fail;refine(HM.out _).mono ?_;rintro e w2 ⟨rfl,hb2⟩;obtain⟨⟨m0,m1,m2⟩,hbw,hzw⟩:=hG.full R _ hb2;obtain⟨t0,t1,t2,t3⟩:=fF hbw;have k2:w.heap.size<w2.heap.size:=by omega
            have h5:Below w.heap.size w w2:=((Ji _ _).alloc (Jh _) _).trans (hbw.mono (KD _));clear hb2 hbw g0 g1 g2 f1 f2 r0 r1 r2 r3;generalize hm:nE R.length (x0+((D.length:Int)-(qq+1)))=mb;have HMB:=Jf (show Nm.parse s.data.toList=if mb then(⟨neg,R,x0+((D.length:Int)-(qq+1))⟩,0) else(Nm.Num.zero,5) by
             rw[HF.out];unfold Nm.made;rw[Jj (by simpa using hRne),show Nm.tj R.length (x0+((D.length:Int)-((qq+1:Nat):Int)))=mb from hm];rfl)
            clear hm HF HM;cases mb
            .go_wp2_with fail;refine Ju (v:=.tuple #[gr (Nm.parse s.data.toList).1,.int .i64 (Nm.parse s.data.toList).2]) ?_ rfl ⟨rfl,?_⟩
             .rw[HMB.out];simp[results,Tryz.results56,go_sem,t0,t1,t2,Nm.Num.zero]
             .exact ae (ae (ae h5 (Jh _) _ _) (Jh _) _ _) (Jh _) _ _
            .go_wp2_with fail;refine Ju (v:=.tuple #[gr (Nm.parse s.data.toList).1,.int .i64 (Nm.parse s.data.toList).2]) ?_ rfl ⟨rfl,?_⟩
             .rw[HMB.out];simp[results,Tryz.results56,go_sem,t0,t1,t2]
             .exact ae (ae (ae h5 (Jh _) _ _) (Jh _) _ _) (Jh _) _ _
 .have HP:=Jf (show Nm.parse s.data.toList=(Nm.Num.zero,1) by
   unfold Nm.parse Nm.gu;rw[Jj (λh=>hok (by have:=hse.1 h;simp only[Kl] at this;exact⟨this.2,this.1⟩))])
  have hr:ok=false\/(ok=true/\0<rem.length):=by
   cases ok
   .exact .inl rfl
   .right
    refine⟨rfl,?_⟩;rcases rem with _|⟨c,r⟩
    .exact absurd ⟨rfl,rfl⟩ hok
    .simp
  clear hok hse;rcases hr with rfl|⟨rfl,hr⟩;all_goals
   go_wp2_with fail;refine Ju (v:=.tuple #[gr (Nm.parse s.data.toList).1,.int .i64 (Nm.parse s.data.toList).2]) ?_ rfl ⟨rfl,(Ji _ _).alloc (Jh _) _⟩;rw[HP.out];simp[results,Tryz.results56,go_sem,Nm.Num.zero]
end
