import Derived.Test.YtdhgmaonolgpnaaGreatDoorDa
import Derived.Test.YtdhgmaonolgpnaaGreatDoorTg
import Derived.StillTailTactics
import Derived.Test.YtdhgmaonolgpnaaGreatDoorSf
set_option linter.unusedSimpArgs false
set_option linter.unusedVariables false
set_option maxHeartbeats 2000000
set_option maxRecDepth 100000
namespace Go.Proofs.YtdhgmaonolgpnaaGreatDoor
section
open Go.RowKit Js
def Ep(w:World)(l l':List Vl)(i:Value)(wr:World):Prop:=
 ∃j:Nat,j<=l.length/\i=.int .i64 j/\di l l'=di (l.drop j) (l'.drop j)/\Below w.heap.size w wr
theorem DK{l l':List Vl}(h:¬l.length=l'.length):di l l'=false:=by
 cases hs:di l l' with
 |false=>rfl
 |true=>
  exfalso
  induction l generalizing l' with
  |nil=>cases l'<;>simp_all[di]
  |cons v l ih=>
   cases l' with
   |nil=>simp[di] at hs
   |cons v' l'=>
    simp only[di,JH] at hs;exact ih (by simpa using h) hs.2
theorem zH(l l':List Vl)(A A':Option Addr)(e e':Nat)(w:World)(he:l.length<=e)(he':l'.length<=e')(hm:e<=maxLen)(hm':e'<=maxLen)(hs:SlL w.cell? A l)(hs':SlL w.cell? A' l')
  (HC:∀v∈l,∀v'∈l',∀x x' w,v.In w.cell? x->v'.In w.cell? x'->Calls Tryz.prog 39 #[x,x'] w λe w'=>e=.returned (.bool (v.same v'))/\Below w.heap.size w w'):
  Calls Tryz.prog 69 #[.slice A l.length e,.slice A' l'.length e',.func (.func 39) #[] #[]] w λe w'=>e=.returned (.bool (di l l'))/\Below w.heap.size w w':=by
 unfold maxLen at hm hm';have HS:=Jf hs;have HS':=Jf hs';have HCC:=Jf HC;clear hs hs' HC;go_enter Tryz.func69,Tryz.ntmps69;by_cases hlen:l.length=l'.length
 .have t1:((l.length:Int)==(l'.length:Int))=true:=by simp[hlen]
  have t2:((l.length:Int) !=(l'.length:Int))=false:=by simp[hlen]
  have HLEN:=Jf hlen;clear hlen;go_wp2_with fail
  go_loopw [17] (Ep w l l') (λi _=>l.length-(intOf i).toNat)
  case atStart=>exact⟨0,by omega,rfl,rfl,Ji _ _⟩
  case round=>
   obtain⟨j,hj,rfl,hsm,hW⟩:=hrel;have HSM:=Jf hsm;clear hsm;by_cases hlt:j<l.length
   .have hlt':j<l'.length:=by have:=HLEN.out;omega
    obtain⟨g,o,y,rfl,hy,hc⟩:=HS.out j _ (Jg hlt);obtain⟨g',o',y',rfl,hy',hc'⟩:=HS'.out j _ (Jg hlt');obtain⟨k1,b1,n1,g1,x1,s1,A1,l1,p1,B1,m1,d1,rfl⟩:=In.cells hy;obtain⟨k2,b2,n2,g2,x2,s2,A2,l2,p2,B2,m2,d2,rfl⟩:=In.cells hy';have hle:Cl.le w.cell? wr.cell?:=aa hW;obtain⟨e0,e1,e2,e3,e4,e5,e6,e7⟩:=(hc.keep hle).eight;obtain⟨f0,f1,f2,f3,f4,f5,f6,f7⟩:=(hc'.keep hle).eight;have hgl:g'<wr.heap.size:=Jn wr _ f0;have hle2:=(hle.trans (aT wr (.cells #[.int .i64 k1,b1,n1,g1,.int .i64 x1,s1,.slice A1 l1 p1,.slice B1 m1 d1] 31))).trans (aT _ (.cells #[.int .i64 k2,b2,n2,g2,.int .i64 x2,s2,.slice A2 l2 p2,.slice B2 m2 d2] 31));have HY:=Jf (In.keep hle2 _ _ hy);have HY':=Jf (In.keep hle2 _ _ hy');have HSTEP:=Jf (show di (l.drop j) (l'.drop j)=(l[j].same l'[j]&&di (l.drop (j+1)) (l'.drop (j+1))) by
     rw[JO hlt,JO hlt'];simp only[di])
    have HCALL:=Jf (HCC.out l[j] (Jv _) l'[j] (Jv _));clear hc hc' hy hy' hle hle2;generalize l[j].same l'[j]=q at HSTEP HCALL;go_wp2_with fail;refine(HCALL.out _ _ _ HY.out HY'.out).mono ?_;rintro e' w2 ⟨rfl,hb2⟩;have hb:Below w.heap.size w w2:=(hW.alloc hW.size _).alloc (by have:=hW.size;simp;omega) _ |>.trans (hb2.mono (by have:=hW.size;simp;omega));cases q with
    |true=>
     go_wp2_with fail;go_roundw;case rel=>exact⟨j+1,by omega,by go_num,by rw[HSM.out,HSTEP.out];rfl,hb⟩
     case measure=>simp[intOf];omega
    |false=>
     go_wp2_with fail;go_ret;exact⟨by rw[HSM.out,HSTEP.out];rfl,hb⟩
   .obtain rfl:j=l.length:=by omega
    have HE:=Jf (show di (l.drop l.length) (l'.drop l.length)=true by
     rw[KR,HLEN.out,KR];simp only[di])
    go_wp2_with fail;go_ret;exact⟨by rw[HSM.out,HE.out];rfl,hW⟩
 .have t1:((l.length:Int)==(l'.length:Int))=false:=by simp;omega
  have t2:((l.length:Int) !=(l'.length:Int))=true:=by simp;omega
  have HE:=Jf (DK hlen);clear hlen;go_wp2_with fail;go_ret;exact⟨by rw[HE.out];rfl,Ji _ _⟩
def Cq(w:World)(l l':List Js.Mem)(i:Value)(wr:World):Prop:=
 ∃j:Nat,j<=l.length/\i=.int .i64 j/\dm l l'=dm (l.drop j) (l'.drop j)/\Below w.heap.size w wr
theorem DL{l l':List Js.Mem}(h:¬l.length=l'.length):dm l l'=false:=by
 cases hs:dm l l' with
 |false=>rfl
 |true=>
  exfalso
  induction l generalizing l' with
  |nil=>cases l'<;>simp_all[dm]
  |cons v l ih=>
   cases l' with
   |nil=>simp[dm] at hs
   |cons v' l'=>
    simp only[dm,JH] at hs;exact ih (by simpa using h) hs.2
theorem sB(p p':Js.Mem)(k1:Int)(b1 n1:Bool)(g1:Jd)(x1:Int)(s1:Jd)(A1:Option Addr)(l1 p1:Nat)(B1:Option Addr)(m1 d1:Nat)(k2:Int)(b2 n2:Bool)(g2:Jd)(x2:Int)(s2:Jd)(A2:Option Addr)(l2 p2:Nat)(B2:Option Addr)(m2 d2:Nat)(w:World)
  (hx:p.2.In w.cell? (vlV k1 b1 n1 g1 x1 s1 (.slice A1 l1 p1) (.slice B1 m1 d1))) (hx':p'.2.In w.cell? (vlV k2 b2 n2 g2 x2 s2 (.slice A2 l2 p2) (.slice B2 m2 d2)))
  (HC:∀x x' w,p.2.In w.cell? x->p'.2.In w.cell? x'->Calls Tryz.prog 39 #[x,x'] w λe w'=>e=.returned (.bool (p.2.same p'.2))/\Below w.heap.size w w'):
  Calls Tryz.prog 71 #[.agg #[.string ⟨p.1.toArray⟩,.int .i64 k1,.bool b1,.bool n1,.string ⟨g1.toArray⟩,.int .i64 x1,.string ⟨s1.toArray⟩,.slice A1 l1 p1,.slice B1 m1 d1],.agg #[.string ⟨p'.1.toArray⟩,.int .i64 k2,.bool b2,.bool n2,.string ⟨g2.toArray⟩,.int .i64 x2,.string ⟨s2.toArray⟩,.slice A2 l2 p2,.slice B2 m2 d2]] w
   λe w'=>e=.returned (.bool (nL p p'))/\Below w.heap.size w w':=by
 obtain⟨key,v⟩:=p;obtain⟨key',v'⟩:=p';simp only at hx hx' HC;have hle2:=(aT w (.cells #[key,.int .i64 k1,b1,n1,g1,.int .i64 x1,s1,.slice A1 l1 p1,.slice B1 m1 d1] 95)).trans (aT _ (.cells #[key',.int .i64 k2,b2,n2,g2,.int .i64 x2,s2,.slice A2 l2 p2,.slice B2 m2 d2] 95));have HY:=Jf (In.keep hle2 _ _ hx);have HY':=Jf (In.keep hle2 _ _ hx');have HCC:=Jf HC;clear HC hx hx' hle2;by_cases hk:key=key'
 .have HP:=Jf (show nL (key,v) (key',v')=v.same v' by simp[nL,hk]);subst hk;go_enter Tryz.func71,Tryz.ntmps71;go_wp2_with fail;refine(HCC.out _ _ _ HY.out HY'.out).mono ?_;rintro e' w2 ⟨rfl,hb2⟩;have hb:Below w.heap.size w w2:=((Ji _ _).alloc (Jh _) _).alloc (by simp) _ |>.trans (hb2.mono (by simp;omega));go_wp2_with fail;go_ret;exact⟨by rw[HP.out];rfl,hb⟩
 .have HP:=Jf (show nL (key,v) (key',v')=false by simp[nL,hk]);have hkb:(key==key')=false:=by simpa using hk
  have hb:Below w.heap.size w _:=(((Ji _ _).alloc (Jh _) (.cells #[key,.int .i64 k1,b1,n1,g1,.int .i64 x1,s1,.slice A1 l1 p1,.slice B1 m1 d1] 95)).alloc (by simp) (.cells #[key',.int .i64 k2,b2,n2,g2,.int .i64 x2,s2,.slice A2 l2 p2,.slice B2 m2 d2] 95));go_enter Tryz.func71,Tryz.ntmps71;go_wp2_with fail;go_ret;exact⟨by rw[HP.out];rfl,hb⟩
theorem zI(l l':List Js.Mem)(A A':Option Addr)(e e':Nat)(w:World)(he:l.length<=e)(he':l'.length<=e')(hm:e<=maxLen)(hm':e'<=maxLen)(hs:SlM w.cell? A l)(hs':SlM w.cell? A' l')
  (HC:∀v∈l,∀v'∈l',∀x x' w,v.2.In w.cell? x->v'.2.In w.cell? x'->Calls Tryz.prog 39 #[x,x'] w λe w'=>e=.returned (.bool (v.2.same v'.2))/\Below w.heap.size w w'):
  Calls Tryz.prog 70 #[.slice A l.length e,.slice A' l'.length e',.func (.func 71) #[] #[]] w λe w'=>e=.returned (.bool (dm l l'))/\Below w.heap.size w w':=by
 unfold maxLen at hm hm';have HS:=Jf hs;have HS':=Jf hs';have HCC:=Jf HC;clear hs hs' HC;go_enter Tryz.func70,Tryz.ntmps70;by_cases hlen:l.length=l'.length
 .have t1:((l.length:Int)==(l'.length:Int))=true:=by simp[hlen]
  have t2:((l.length:Int) !=(l'.length:Int))=false:=by simp[hlen]
  have HLEN:=Jf hlen;clear hlen;go_wp2_with fail
  go_loopw [17] (Cq w l l') (λi _=>l.length-(intOf i).toNat)
  case atStart=>exact⟨0,by omega,rfl,rfl,Ji _ _⟩
  case round=>
   obtain⟨j,hj,rfl,hsm,hW⟩:=hrel;have HSM:=Jf hsm;clear hsm;by_cases hlt:j<l.length
   .have hlt':j<l'.length:=by have:=HLEN.out;omega
    obtain⟨g,o,y,rfl,hy,hk,hc⟩:=HS.out j _ (Jg hlt);obtain⟨g',o',y',rfl,hy',hk',hc'⟩:=HS'.out j _ (Jg hlt');obtain⟨k1,b1,n1,g1,x1,s1,A1,l1,p1,B1,m1,d1,rfl⟩:=In.cells hy;obtain⟨k2,b2,n2,g2,x2,s2,A2,l2,p2,B2,m2,d2,rfl⟩:=In.cells hy';have hle:Cl.le w.cell? wr.cell?:=aa hW;obtain⟨e0,e1,e2,e3,e4,e5,e6,e7⟩:=(hc.keep hle).eight;have ek:=hle _ _ hk;have fk:=hle _ _ hk';obtain⟨f0,f1,f2,f3,f4,f5,f6,f7⟩:=(hc'.keep hle).eight;have hgl:g'<wr.heap.size:=Jn wr _ f0;have hle2:=(hle.trans (aT wr (.cells #[l[j].1,.int .i64 k1,b1,n1,g1,.int .i64 x1,s1,.slice A1 l1 p1,.slice B1 m1 d1] 95))).trans (aT _ (.cells #[l'[j].1,.int .i64 k2,b2,n2,g2,.int .i64 x2,s2,.slice A2 l2 p2,.slice B2 m2 d2] 95));have HY:=Jf (In.keep hle2 _ _ hy);have HY':=Jf (In.keep hle2 _ _ hy');have HSTEP:=Jf (show dm (l.drop j) (l'.drop j)=(nL l[j] l'[j]&&dm (l.drop (j+1)) (l'.drop (j+1))) by
     rw[JO hlt,JO hlt'];simp only[dm])
    have HCALL:=Jf (λw=>sB (l[j]'hlt) (l'[j]'hlt') k1 b1 n1 g1 x1 s1 A1 l1 p1 B1 m1 d1 k2 b2 n2 g2 x2 s2 A2 l2 p2 B2 m2 d2 w);have HCA:=Jf (HCC.out (l[j]'hlt) (Jv hlt) (l'[j]'hlt') (Jv hlt'));clear hc hc' hy hy' hk hk' hle hle2;generalize nL l[j] l'[j]=q at HSTEP HCALL;generalize l[j].1=key at*
    generalize l'[j].1=key' at*
    go_wp2_with fail;refine(HCALL.out _ HY.out HY'.out HCA.out).mono ?_;rintro e' w2 ⟨rfl,hb2⟩;have hb:Below w.heap.size w w2:=(hW.alloc hW.size _).alloc (by have:=hW.size;simp;omega) _ |>.trans (hb2.mono (by have:=hW.size;simp;omega));cases q with
    |true=>
     go_wp2_with fail;go_roundw;case rel=>exact⟨j+1,by omega,by go_num,by rw[HSM.out,HSTEP.out];rfl,hb⟩
     case measure=>simp[intOf];omega
    |false=>
     go_wp2_with fail;go_ret;exact⟨by rw[HSM.out,HSTEP.out];rfl,hb⟩
   .obtain rfl:j=l.length:=by omega
    have HE:=Jf (show dm (l.drop l.length) (l'.drop l.length)=true by
     rw[KR,HLEN.out,KR];simp only[dm])
    go_wp2_with fail;go_ret;exact⟨by rw[HSM.out,HE.out];rfl,hW⟩
 .have t1:((l.length:Int)==(l'.length:Int))=false:=by simp;omega
  have t2:((l.length:Int) !=(l'.length:Int))=true:=by simp;omega
  have HE:=Jf (DL hlen);clear hlen;go_wp2_with fail;go_ret;exact⟨by rw[HE.out];rfl,Ji _ _⟩
theorem sC(v:Vl):∀(v':Vl) (x x':Value) (w:World),v.may=true->v'.may=true->v.In w.cell? x->v'.In w.cell? x'->
  Calls Tryz.prog 39 #[x,x'] w λe w'=>e=.returned (.bool (v.same v'))/\Below w.heap.size w w':=by
 induction v using Vl.ind with
 |h k b n s l m hl hm=>
 rintro⟨k',b',n',s',l',m'⟩ x x' w hv hv' hx hx';obtain⟨A,e,B,d,rfl,q1,q2,q3,q4,q5,q6⟩:=In.form hx;obtain⟨A',e',B',d',rfl,q1',q2',q3',q4',q5',q6'⟩:=In.form hx';obtain⟨o0,o1,o2,o3,o4,o5,o6,o7,o8,o9,o10,o11⟩:=au hv;obtain⟨r0,r1,r2,r3,r4,r5,r6,r7,r8,r9,r10,r11⟩:=au hv';obtain⟨neg,dg,ex⟩:=n;obtain⟨neg',dg',ex'⟩:=n';have HL:=Jf hl;have HM:=Jf hm;have H5:=Jf (show SlL w.cell? A l from q5);have H6:=Jf (show SlM w.cell? B m from q6);have H5':=Jf (show SlL w.cell? A' l' from q5');have H6':=Jf (show SlM w.cell? B' m' from q6');have HB:Below w.heap.size w _:=(((Ji _ _).alloc (Jh _) (.cells #[.int .i64 k,b,neg,dg,.int .i64 ex,s,.slice A l.length e,.slice B m.length d] 31)).alloc (by simp) (.cells #[.int .i64 k',b',neg',dg',.int .i64 ex',s',.slice A' l'.length e',.slice B' m'.length d'] 31));clear hl hm hx hx' q5 q6 q5' q6' hv hv';simp only;by_cases hk:k=k'
 .subst hk;have hkk:k=0\/k=1\/k=2\/k=3\/k=4\/k=5:=by omega
  rcases hkk with rfl|rfl|rfl|rfl|rfl|rfl
  .obtain rfl:=o2 (by decide);obtain rfl:=r2 (by decide);obtain e1:=o3 (by decide);obtain e1':=r3 (by decide);obtain rfl:=o4 (by decide);obtain rfl:=r4 (by decide);obtain rfl:=o5 (by decide);obtain rfl:=r5 (by decide);obtain rfl:=o6 (by decide);obtain rfl:=r6 (by decide);cases e1;cases e1';have HS:=Jf (show(Vl.mk 0 false ⟨false,[],0⟩ [] [] []).same (Vl.mk 0 false ⟨false,[],0⟩ [] [] [])=true from uu _);clear o2 o3 o4 o5 o6 o7 o8 o9 o10 o11 r2 r3 r4 r5 r6 r7 r8 r9 r10 r11;go_enter Tryz.func39,Tryz.ntmps39;go_wp2_with fail;go_ret;exact⟨by rw[show(⟨false,[],0⟩:Nm.Num)=⟨false,[],0⟩ from rfl,HS.out];rfl,HB⟩
  .obtain e1:=o3 (by decide);obtain e1':=r3 (by decide);obtain rfl:=o4 (by decide);obtain rfl:=r4 (by decide);obtain rfl:=o5 (by decide);obtain rfl:=r5 (by decide);obtain rfl:=o6 (by decide);obtain rfl:=r6 (by decide);cases e1;cases e1';have HS:=Jf (show(Vl.mk 1 b ⟨false,[],0⟩ [] [] []).same (Vl.mk 1 b' ⟨false,[],0⟩ [] [] [])=(b==b') by
    simp only[Vl.same,di,dm,Ls,LL,Lt];cases b<;>cases b'<;>rfl)
   clear o2 o3 o4 o5 o6 o7 o8 o9 o10 o11 r2 r3 r4 r5 r6 r7 r8 r9 r10 r11;go_enter Tryz.func39,Tryz.ntmps39;go_wp2_with fail;go_ret;exact⟨by rw[HS.out];rfl,HB⟩
  .obtain rfl:=o2 (by decide);obtain rfl:=r2 (by decide);obtain rfl:=o4 (by decide);obtain rfl:=r4 (by decide);obtain rfl:=o5 (by decide);obtain rfl:=r5 (by decide);obtain rfl:=o6 (by decide);obtain rfl:=r6 (by decide);have hn:=bF o7;have hn':=bF r7;have HSAME:=Jf (show(Vl.mk 2 false ⟨neg,dg,ex⟩ [] [] []).same (Vl.mk 2 false ⟨neg',dg',ex'⟩ [] [] [])=(Nm.cmp ⟨neg,dg,ex⟩ ⟨neg',dg',ex'⟩==0) by
    simp only[Vl.same,di,dm,Ls,LL,Lt];rw[KM,JF,Ln];exact(Nm.IA.same _ _ hn hn').symm)
   have HC:=Jf (λW=>jQ neg dg ex neg' dg' ex' W hn.fair hn'.fair);clear hn hn' o2 o3 o4 o5 o6 o7 o8 o9 o10 o11 r2 r3 r4 r5 r6 r7 r8 r9 r10 r11;generalize Nm.cmp ⟨neg,dg,ex⟩ ⟨neg',dg',ex'⟩=q at HSAME HC;go_enter Tryz.func39,Tryz.ntmps39;go_wp2_with fail;refine(HC.out _).mono ?_;rintro e1 w1 ⟨rfl,hb1⟩;have hb:=HB.trans (hb1.mono (by simp;omega));go_wp2_with fail;go_ret;exact⟨by rw[HSAME.out];rfl,hb⟩
  .obtain rfl:=o2 (by decide);obtain rfl:=r2 (by decide);obtain e1:=o3 (by decide);obtain e1':=r3 (by decide);obtain rfl:=o5 (by decide);obtain rfl:=r5 (by decide);obtain rfl:=o6 (by decide);obtain rfl:=r6 (by decide);cases e1;cases e1';have HS:=Jf (show(Vl.mk 3 false ⟨false,[],0⟩ s [] []).same (Vl.mk 3 false ⟨false,[],0⟩ s' [] [])=(s==s') by
    simp only[Vl.same,di,dm,Ls,LL,Lt];rw[KM,JF,Ln])
   clear o2 o3 o4 o5 o6 o7 o8 o9 o10 o11 r2 r3 r4 r5 r6 r7 r8 r9 r10 r11;go_enter Tryz.func39,Tryz.ntmps39;go_wp2_with fail;go_ret;exact⟨by rw[HS.out];rfl,HB⟩
  .obtain rfl:=o2 (by decide);obtain rfl:=r2 (by decide);obtain e1:=o3 (by decide);obtain e1':=r3 (by decide);obtain rfl:=o4 (by decide);obtain rfl:=r4 (by decide);obtain rfl:=o6 (by decide);obtain rfl:=r6 (by decide);cases e1;cases e1';have HS:=Jf (show(Vl.mk 4 false ⟨false,[],0⟩ [] l []).same (Vl.mk 4 false ⟨false,[],0⟩ [] l' [])=di l l' by
    simp only[Vl.same,di,dm,Ls,LL,Lt])
   have HEQ:=Jf (λW hs hs'=>zH l l' A A' e e' W q1 q1' q2 q2' hs hs' (λv hv v' hv' x x' w hx hx'=>HL.out v hv v' x x' w ((ba l).1 o9 v hv) ((ba l').1 r9 v' hv') hx hx'));have K1:=Jf (H5.out.keep (aa HB));have K2:=Jf (H5'.out.keep (aa HB));clear o2 o3 o4 o5 o6 o7 o8 o9 o10 o11 r2 r3 r4 r5 r6 r7 r8 r9 r10 r11;unfold maxLen at q2 q2' q4 q4';generalize di l l'=q at HS HEQ;go_enter Tryz.func39,Tryz.ntmps39;go_wp2_with fail;refine(HEQ.out _ K1.out K2.out).mono ?_;rintro e1 w1 ⟨rfl,hb1⟩;have hb:=HB.trans (hb1.mono (by simp;omega));go_wp2_with fail;go_ret;exact⟨by rw[HS.out];rfl,hb⟩
  .obtain rfl:=o2 (by decide);obtain rfl:=r2 (by decide);obtain e1:=o3 (by decide);obtain e1':=r3 (by decide);obtain rfl:=o4 (by decide);obtain rfl:=r4 (by decide);obtain rfl:=o5 (by decide);obtain rfl:=r5 (by decide);cases e1;cases e1';have HS:=Jf (show(Vl.mk 5 false ⟨false,[],0⟩ [] [] m).same (Vl.mk 5 false ⟨false,[],0⟩ [] [] m')=dm m m' by
    simp only[Vl.same,di,dm,Ls,LL,Lt])
   have HEQ:=Jf (λW hs hs'=>zI m m' B B' d d' W q3 q3' q4 q4' hs hs' (λv hv v' hv' x x' w hx hx'=>HM.out v hv v'.2 x x' w ((br m).1 o10 v hv).2 ((br m').1 r10 v' hv').2 hx hx'));have K1:=Jf (H6.out.keep (aa HB));have K2:=Jf (H6'.out.keep (aa HB));clear o2 o3 o4 o5 o6 o7 o8 o9 o10 o11 r2 r3 r4 r5 r6 r7 r8 r9 r10 r11;unfold maxLen at q2 q2' q4 q4';generalize dm m m'=q at HS HEQ;go_enter Tryz.func39,Tryz.ntmps39;go_wp2_with fail;refine(HEQ.out _ K1.out K2.out).mono ?_;rintro e1 w1 ⟨rfl,hb1⟩;have hb:=HB.trans (hb1.mono (by simp;omega));go_wp2_with fail;go_ret;exact⟨by rw[HS.out];rfl,hb⟩
 .have t1:(k==k')=false:=by simpa using hk
  have t2:(k !=k')=true:=by simpa using hk
  have HS:=Jf (show(Vl.mk k b ⟨neg,dg,ex⟩ s l m).same (Vl.mk k' b' ⟨neg',dg',ex'⟩ s' l' m')=false by simp[Vl.same,hk]);clear hk o2 o3 o4 o5 o6 o7 o8 o9 o10 o11 r2 r3 r4 r5 r6 r7 r8 r9 r10 r11;go_enter Tryz.func39,Tryz.ntmps39;go_wp2_with fail;go_ret;exact⟨by rw[HS.out];rfl,HB⟩
end
namespace Ow
open Js
def kinds:List Jd:=[[110,117,108,108],[98,111,111,108,101,97,110],[110,117,109,98,101,114],[115,116,114,105,110,103],[97,114,114,97,121],[111,98,106,101,99,116]]
def xO:Jd:=[105,110,116,101,103,101,114]
def mr:Jd:=[102,97,108,115,101]
def numOf:Vl->Nm.Num
 |.mk _ _ n _ _ _=>n
def EP:Vl->Bool
 |.mk _ b _ _ _ _=>b
def bU:Vl->List Vl
 |.mk _ _ _ _ l _=>l
def whole(n:Nm.Num):Bool:=n.digits.isEmpty||decide (0<=n.exp)
def is(v:Vl)(nm:Jd):Bool:=if nm=xO then decide (Sh.kindOf v=2)&&whole (numOf v) else kinds.getD (Sh.kindOf v).toNat []==nm
def oO(l:List Vl)(v:Vl):Bool:=l.any λu=>u.same v
def jP:Nat->Jd->Nat
 |0,_=>0
 |_+1,[]=>0
 |f+1,c::r=>jP f ((c::r).drop (max (St.utf8 (c::r)) 1))+1
def chars(s:Jd):Nat:=jP s.length s
def dup:List Vl->List Vl->Bool
 |_,[]=>false
 |seen,x::r=>oO seen x||dup (seen++[x]) r
def types(k:Vl):List Vl:=if Sh.kindOf k=3 then[k] else bU k
def gh:Nat->Vl->Vl->Bool
 |1,k,v=> !(types k).any λx=>is v (Sh.strOf x)
 |2,k,v=> !oO (bU k) v
 |3,k,v=> !k.same v
 |4,k,v=>decide (Sh.kindOf v=2)&&decide (Nm.fg (numOf v) (numOf k)<0)
 |5,k,v=>decide (Sh.kindOf v=2)&&decide (0<Nm.fg (numOf v) (numOf k))
 |6,k,v=>decide (Sh.kindOf v=3)&&decide (Nm.fg (Nm.count (chars (Sh.strOf v))) (numOf k)<0)
 |7,k,v=>decide (Sh.kindOf v=3)&&decide (0<Nm.fg (Nm.count (chars (Sh.strOf v))) (numOf k))
 |8,k,v=>decide (Sh.kindOf v=4)&&decide (Nm.fg (Nm.count (bU v).length) (numOf k)<0)
 |9,k,v=>decide (Sh.kindOf v=4)&&decide (0<Nm.fg (Nm.count (bU v).length) (numOf k))
 |10,k,v=>dup [] (bU v)&&EP k
 |11,k,v=>decide (Sh.kindOf v=5)&&(bU k).any λx=>(v.find (Sh.strOf x)).isNone
 |_,_,_=>false
def fX:List (Jd×Nat):=[
 ([116,121,112,101],1),
 ([101,110,117,109],2),
 ([99,111,110,115,116],3),
 ([109,105,110,105,109,117,109],4),
 ([109,97,120,105,109,117,109],5),
 ([109,105,110,76,101,110,103,116,104],6),
 ([109,97,120,76,101,110,103,116,104],7),
 ([109,105,110,73,116,101,109,115],8),
 ([109,97,120,73,116,101,109,115],9),
 ([117,110,105,113,117,101,73,116,101,109,115],10),
 ([114,101,113,117,105,114,101,100],11)]
def pP(nm:Jd):Nat:=((fX.find? (λp=>p.1==nm)).map (·.2)).getD 0
def aZ(nm:Jd)(k v:Vl):Bool:=gh (pP nm) k v
def own(N:Cm.Node)(v:Vl):List Jd:=
 if N.all=true/\N.pass=false then[mr] else(N.keys.filter λk=>aZ k.name k.v v).map (·.name)
def one(nm:Jd)(k:Vl):Cm.Node:=⟨[],false,false,[⟨nm,k,[]⟩]⟩
def Fw:Jd:=[99,111,110,115,116]
def D0:Jd:=[109,105,110,105,109,117,109]
def Iv:Jd:=[109,97,120,105,109,117,109]
theorem xw(k v:Vl):aZ Fw k v= !k.same v:=rfl
theorem CO(k v:Vl):aZ D0 k v=(decide (Sh.kindOf v=2)&&decide (Nm.fg (numOf v) (numOf k)<0)):=rfl
theorem CN(k v:Vl):aZ Iv k v=(decide (Sh.kindOf v=2)&&decide (0<Nm.fg (numOf v) (numOf k))):=rfl
theorem FU{v:Vl}(hv:v.may=true)(h:Sh.kindOf v=2):v=.mk 2 false (numOf v) [] [] []/\Nm.May (numOf v):=by
 obtain⟨k,b,n,s,l,m⟩:=v;obtain⟨_,_,h1,_,h3,h4,h5,h6,_⟩:=au hv;simp only[Sh.kindOf] at h;subst h;rw[h1 (by omega),h3 (by omega),h4 (by omega),h5 (by omega)];exact⟨rfl,bF h6⟩
theorem I1{v w:Vl}(hv:v.may=true)(hw:w.may=true)(h2:Sh.kindOf v=2)(k2:Sh.kindOf w=2):
  (aZ D0 w v=false\/aZ Iv w v=false)/\((aZ D0 w v=false/\aZ Iv w v=false)↔aZ Fw w v=false):=by
 obtain⟨hv1,hv2⟩:=FU hv h2;obtain⟨hw1,hw2⟩:=FU hw k2;have hc:=Nm.qy _ _ hv2 hw2;rw[CO,CN,xw,Nm.fE _ _ hv2 hw2,h2];simp only[LL,Lt,Ks,Bool.not_eq_false'];refine⟨by omega,⟨λ⟨h,h'⟩=>?_,λh=>?_⟩⟩
 .rw[dV,hv1,hw1,(hc.1 (by omega))]
 .rw[dV] at h;have:=hc.2 (by rw[h]);omega
end Ow
section
open Go.RowKit
theorem eT.new(w:World)(n:Bool)(d:Jd)(x:Int)(t:TypeId):eT (w.alloc (.cells #[n,d,.int .i64 x] t)) w.heap.size n d x:=⟨by simp,by simp,by simp⟩
theorem eT.lt{w:World}{b:Nat}{n:Bool}{d:Jd}{x:Int}(h:eT w b n d x):b<w.heap.size:=Jn w _ h.1
theorem eT.alloc{w:World}{b:Nat}{n:Bool}{d:Jd}{x:Int}(h:eT w b n d x)(o:Obj):eT (w.alloc o) b n d x:=h.keep ((Ji w.heap.size w).alloc (Jh _) o) h.lt
theorem eT.on{W w1:World}{b:Nat}{n:Bool}{d:Jd}{x:Int}(h:eT W b n d x)(hb:Below W.heap.size W w1):eT w1 b n d x:=h.keep hb h.lt
end
section
open Go.RowKit Js
theorem Nm.jR(c:Nat)(h:c<=1000000):Nm.May (Nm.count (c:Int)):=Nm.IA.countMay c (by omega) (by omega)
theorem Ow.qu:∀(f:Nat) (l:Jd),Ow.jP f l<=f
 |0,_=>Jh _
 |f+1,[]=>JE _
 |f+1,c::r=>by
  have:=Ow.qu f ((c::r).drop (max (St.utf8 (c::r)) 1));rw[Ow.jP];omega
theorem Ow.qw(s:Jd):Ow.chars s<=s.length:=Ow.qu _ _
theorem Ow.H9{nm:Jd}(h:∀x∈Ow.fX.map (·.1),nm≠x):Ow.pP nm=0:=by
 unfold Ow.pP;rw[Ma.2 (λp hp=>by
  have:=h p.1 (JQ.2 ⟨p,hp,rfl⟩);simpa usingλe=>this e.symm)]
 rfl
end
