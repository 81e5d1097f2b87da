import Derived.Test.YtdhgmaonolgpnaaGreatDoorGa
import Derived.Test.YtdhgmaonolgpnaaGreatDoorShelfq
set_option linter.unusedSimpArgs false
set_option linter.unusedVariables false
set_option maxHeartbeats 2000000
set_option maxRecDepth 100000
namespace Go.Proofs.YtdhgmaonolgpnaaGreatDoor
section
open Go.RowKit Js Pt
open Go.Sort (SWO HoldsK PermIn SortedIn grow putRowK putRow mapBlock onCells ahead)
instance:Inhabited Fl.F:=⟨⟨[],[],[]⟩⟩
def Fl.cf(a b:Fl.F):Int:=if Lib.compareBytes a.inst b.inst≠0 then Lib.compareBytes a.inst b.inst else if Lib.compareBytes a.sch b.sch≠0 then Lib.compareBytes a.sch b.sch else Lib.compareBytes a.kw b.kw
theorem Fl.dV(a b:Jd):a=b↔Lib.compareBytes a b=0:=⟨λh=>by rw[h,Nm.cF],Nm.dQ a b⟩
theorem Fl.J1(a b:Fl.F):Fl.cf a b<0↔Fl.lt a b:=by
 unfold Fl.cf Fl.lt;have r1:=Nm.cr a.inst b.inst;have r2:=Nm.cr a.sch b.sch;have r3:=Nm.cr a.kw b.kw;rw[Fl.dV a.inst,Fl.dV a.sch];generalize Lib.compareBytes a.inst b.inst=x at*
 generalize Lib.compareBytes a.sch b.sch=y at*
 generalize Lib.compareBytes a.kw b.kw=z at*
 by_cases hx:x=0
 .by_cases hy:y=0
  .rw[Jj (by omega),Jj (by omega)];omega
  .rw[Jj (by omega),Jo hy];omega
 .rw[Jo hx];omega
theorem Fl.nC(x y:Fl.F):ltOf Fl.cf x y=true↔Fl.lt x y:=by
 unfold ltOf;rw[JF];exact Fl.J1 x y
theorem Fl.rE(x y:Fl.F):ltOf Fl.cf x y=false↔¬Fl.lt x y:=by rw[<-Fl.nC,Bool.not_eq_true]
theorem Fl.swo:SWO (ltOf Fl.cf) where
 irrefl x:=(Fl.rE x x).2 (Fl.BU x)
 trans x y z h1 h2:=(Fl.nC x z).2 (Fl.lt_trans ((Fl.nC x y).1 h1) ((Fl.nC y z).1 h2))
 ntrans x y z h1 h2:=by
  rw[Fl.rE] at*
  intro h;rcases Fl.vy y z with k|k|k
  .exact h2 k
  .subst k;exact h1 h
  .exact h1 (Fl.lt_trans h k)
theorem Fl.qz(d:Array Fl.F)(hs:∀i j,i<j->j<d.size->¬Fl.lt d[j]! d[i]!):∀m,m<=d.size->Fl.iI (Lib.compactUpTo d m)/\∀x,x∈Lib.compactUpTo d m↔∃j,j<m/\d[j]! =x
 |0,_=>⟨by simp[Lib.compactUpTo,Fl.iI],by simp[Lib.compactUpTo]⟩
 |m+1,hm=>by
  obtain⟨h1,h2⟩:=Fl.qz d hs m (by omega);rw[Lib.compactUpTo_succ];by_cases hk:Lib.keeps d m=true
  .rw[Jo hk];have hk':m=0\/d[m]! ≠d[m-1]! :=by simpa[Lib.keeps] using hk
   refine⟨Lx.2 ⟨h1,by simp,λx hx y hy=>?_⟩,λx=>?_⟩
   .rw[Jt] at hy;subst hy;obtain⟨j,hj,rfl⟩:=(h2 x).1 hx;have h3:=hs j m hj (by omega);rcases Fl.vy d[j]! d[m]! with k|k|k
    .exact k
    .exfalso
     have hne:=hk'.resolve_left (by omega);have h4:=hs (m-1) m (by omega) (by omega);rcases KW j (m-1) with h|h
     .have h5:=hs j (m-1) h (by omega);rw[k] at h5;rcases Fl.vy d[m-1]! d[m]! with q|q|q
      .exact h5 q
      .exact hne q.symm
      .exact h4 q
     .obtain rfl:j=m-1:=by omega
      exact hne k.symm
    .exact absurd k h3
   .rw[Jq,h2,Jt];constructor
    .rintro(⟨j,hj,e⟩|e)
     .exact⟨j,by omega,e⟩
     .exact⟨m,by omega,e.symm⟩
    .rintro⟨j,hj,e⟩;by_cases h:j=m
     .subst h;exact .inr e.symm
     .exact .inl ⟨j,by omega,e⟩
  .rw[Jj hk,JK];have hk':0<m/\d[m]! =d[m-1]! :=by
    simp only[Lib.keeps,JF,not_or,MY,Decidable.not_not] at hk;exact⟨by omega,hk.2⟩
   refine⟨h1,λx=>?_⟩;rw[h2];constructor
   .rintro⟨j,hj,e⟩;exact⟨j,by omega,e⟩
   .rintro⟨j,hj,e⟩;by_cases h:j=m
    .subst h;exact⟨j-1,by omega,by rw[<-hk'.2];exact e⟩
    .exact⟨j,by omega,e⟩
theorem Fl.uP(d:List Fl.F){l:List Fl.F}(hs:∀i j,i<j->j<d.length->¬Fl.lt d.toArray[j]! d.toArray[i]!)(hm:∀x,x∈d↔x∈l):Lib.compactUpTo d.toArray d.length=Fl.sort l:=by
 have h:=Fl.qz d.toArray (by simpa using hs) d.length (by simp);refine(Fl.Cc h.1 λx=>?_).symm;rw[h.2,<-hm];constructor
 .rintro⟨j,hj,e⟩;rw[KH d.toArray j (by simpa using hj)] at e;rw[<-e];simp
 .intro hx;obtain⟨j,hj⟩:=JP hx;have hl:=(Jm.1 hj).1;refine⟨j,hl,?_⟩;rw[KH d.toArray j (by simpa using hl)];simpa using(Jm.1 hj).2
theorem Ht{W9:World}{gx gy:Nat}{a1 a2 a3 b1 b2 b3:Value}(hx:Blk W9 gx 44 #[a1,a2,a3])(hy:Blk W9 gy 44 #[b1,b2,b3]):
  (W9.cell? ⟨gx,0,none⟩=some a1/\W9.cell? ⟨gx,1,none⟩=some a2/\W9.cell? ⟨gx,2,none⟩=some a3/\gx<W9.heap.size)/\W9.cell? ⟨gy,0,none⟩=some b1/\W9.cell? ⟨gy,1,none⟩=some b2/\W9.cell? ⟨gy,2,none⟩=some b3/\gy<W9.heap.size:=
 ⟨⟨hx.cell 0,hx.cell 1,hx.cell 2,hx.lt⟩,hy.cell 0,hy.cell 1,hy.cell 2,hy.lt⟩
theorem FX(a b c:Int)(g:Nat)(w:World)(h:Blk w g 3 #[.int .i64 a,.int .i64 b,.int .i64 c]):Calls Tryz.prog 94 #[.slice (some ⟨g,0,none⟩) 3 3] w λe w'=>e=.returned (.int .i64 (if a≠0 then a else if b≠0 then b else c))/\w'=w:=by
 have c0:=h.cell 0;have c1:=h.cell 1;have c2:=h.cell 2;have hgl:=h.lt;clear h;have e0:w.cell? ⟨g,0,none⟩=some (.int .i64 a):=c0;have e1:w.cell? ⟨g,1,none⟩=some (.int .i64 b):=c1;have e2:w.cell? ⟨g,2,none⟩=some (.int .i64 c):=c2;clear c0 c1 c2;go_enter Tryz.func94,Tryz.ntmps94;go_wp2_with fail
 go_loopw [8] (λv8 wr=>(v8=.int .i64 0\/(v8=.int .i64 1/\a=0)\/(v8=.int .i64 2/\a=0/\b=0)\/(v8=.int .i64 3/\a=0/\b=0/\c=0))/\w=wr) (λv8 _=>3-(intOf v8).toNat)
 case atStart=>exact⟨.inl rfl,by first|rfl|trivial⟩
 case round=>
  obtain⟨hs,rfl⟩:=hrel;rcases hs with rfl|⟨rfl,rfl⟩|⟨rfl,rfl,rfl⟩|⟨rfl,rfl,rfl,rfl⟩
  .by_cases ha:a=0
   .subst ha;go_wp2_with fail;go_roundw;case rel=>exact⟨.inr (.inl ⟨rfl,(by first|rfl|trivial)⟩),by first|rfl|trivial⟩
    case measure=>simp[intOf]
   .go_wp2_with fail;go_ret;exact⟨by simp[ha],rfl⟩
  .by_cases hb:b=0
   .subst hb;go_wp2_with fail;go_roundw;case rel=>exact⟨.inr (.inr (.inl ⟨rfl,(by first|rfl|trivial),(by first|rfl|trivial)⟩)),by first|rfl|trivial⟩
    case measure=>simp[intOf]
   .go_wp2_with fail;go_ret;exact⟨by simp[hb],rfl⟩
  .by_cases hc:c=0
   .subst hc;go_wp2_with fail;go_roundw;case rel=>exact⟨.inr (.inr (.inr ⟨rfl,(by first|rfl|trivial),(by first|rfl|trivial),(by first|rfl|trivial)⟩)),by first|rfl|trivial⟩
    case measure=>simp[intOf]
   .go_wp2_with fail;go_ret;exact⟨by simp[hc],rfl⟩
  .go_wp2_with fail;go_ret;exact⟨by simp,rfl⟩
theorem ES(x y:Fl.F)(W:World):Calls Tryz.prog 64 #[.agg (aQ x).toArray,.agg (aQ y).toArray] W λe w'=>e=.returned (.int .i64 (Fl.cf x y))/\∃q os',w'=grow (W.drewN q) os':=by
 obtain⟨a1,a2,a3⟩:=x;obtain⟨b1,b2,b3⟩:=y;have hc1:=λ(W':World)=>Tryz.strings_Compare ⟨a1.toArray⟩ ⟨b1.toArray⟩ W';have hc2:=λ(W':World)=>Tryz.strings_Compare ⟨a2.toArray⟩ ⟨b2.toArray⟩ W';have hc3:=λ(W':World)=>Tryz.strings_Compare ⟨a3.toArray⟩ ⟨b3.toArray⟩ W';unfold aQ Fl.cf;simp only at hc1 hc2 hc3 ⊢;generalize Lib.compareBytes a1 b1=r1 at hc1 ⊢;generalize Lib.compareBytes a2 b2=r2 at hc2 ⊢;generalize Lib.compareBytes a3 b3=r3 at hc3 ⊢;obtain⟨R,hR⟩:∃R,R=(if r1≠0 then r1 else if r2≠0 then r2 else r3):=⟨_,rfl⟩;have HOR:=Jf (λ(g:Nat) (w:World) (h:Blk w g 3 #[.int .i64 r1,.int .i64 r2,.int .i64 r3])=>hR▸FX r1 r2 r3 g w h);rw[<-hR];clear hR;have HC4:=Jf hc1;have HC9:=Jf hc2;have HC14:=Jf hc3;clear hc1 hc2 hc3;have HBX:=Blk.new W 44 #[.string ⟨a1.toArray⟩,.string ⟨a2.toArray⟩,.string ⟨a3.toArray⟩];have HBY:=Blk.cW W (.cells #[.string ⟨a1.toArray⟩,.string ⟨a2.toArray⟩,.string ⟨a3.toArray⟩] 44) 44 #[.string ⟨b1.toArray⟩,.string ⟨b2.toArray⟩,.string ⟨b3.toArray⟩];have HBX2:=HBX.alloc (.cells #[.string ⟨b1.toArray⟩,.string ⟨b2.toArray⟩,.string ⟨b3.toArray⟩] 44);go_enter Tryz.func64,Tryz.ntmps64;go_upto_region 1 with(fail);have HC:=Jf (λ(W9:World) (h:Below ((W.alloc (.cells #[.string ⟨a1.toArray⟩,.string ⟨a2.toArray⟩,.string ⟨a3.toArray⟩] 44)).alloc (.cells #[.string ⟨b1.toArray⟩,.string ⟨b2.toArray⟩,.string ⟨b3.toArray⟩] 44)).heap.size ((W.alloc (.cells #[.string ⟨a1.toArray⟩,.string ⟨a2.toArray⟩,.string ⟨a3.toArray⟩] 44)).alloc (.cells #[.string ⟨b1.toArray⟩,.string ⟨b2.toArray⟩,.string ⟨b3.toArray⟩] 44)) W9)=>(Ht (HBX2.on h) (HBY.on h)));have hgw:(W.alloc (.cells #[.string ⟨a1.toArray⟩,.string ⟨a2.toArray⟩,.string ⟨a3.toArray⟩] 44)).alloc (.cells #[.string ⟨b1.toArray⟩,.string ⟨b2.toArray⟩,.string ⟨b3.toArray⟩] 44)=grow W #[.cells #[.string ⟨a1.toArray⟩,.string ⟨a2.toArray⟩,.string ⟨a3.toArray⟩] 44,.cells #[.string ⟨b1.toArray⟩,.string ⟨b2.toArray⟩,.string ⟨b3.toArray⟩] 44]:=by rw[N4,N4,Sort.grow_grow];rfl
 clear HBX HBY HBX2;generalize (W.alloc (.cells #[.string ⟨a1.toArray⟩,.string ⟨a2.toArray⟩,.string ⟨a3.toArray⟩] 44)).alloc (.cells #[.string ⟨b1.toArray⟩,.string ⟨b2.toArray⟩,.string ⟨b3.toArray⟩] 44)=wz at*
 generalize W.heap.size+1=gy at*
 generalize W.heap.size=gx at*
 refine JT (S:=λW9=>(∃os,W9=grow (W.drewN 1) os)/\Below wz.heap.size wz W9) (by kernel_rfl) ⟨⟨_,by rw[hgw];rfl⟩,below_drewN (Ji _ _) 1⟩ (λht=>?_);clear hgw;generalize wz.drew=w8 at*
 refine af 0 (.pointer (some ⟨gx,0,none⟩)) ht ?_ ?_
 .intro W9 hSw;go_simp
 try simp only[ab]
 refine af 1 (.string ⟨a1.toArray⟩) ht ?_ ?_
 .intro W9 hSw;obtain⟨⟨x0,x1,x2,bx⟩,y0,y1,y2,bY⟩:=HC.out W9 hSw.2;go_simp
 try simp only[ab]
 refine af 2 (.pointer (some ⟨gy,0,none⟩)) ht ?_ ?_
 .intro W9 hSw;go_simp
 try simp only[ab]
 refine af 3 (.string ⟨b1.toArray⟩) ht ?_ ?_
 .intro W9 hSw;obtain⟨⟨x0,x1,x2,bx⟩,y0,y1,y2,bY⟩:=HC.out W9 hSw.2;go_simp
 try simp only[ab]
 refine af 5 (.pointer (some ⟨gx,1,none⟩)) ht ?_ ?_
 .intro W9 hSw;go_simp
 try simp only[ab]
 refine af 6 (.string ⟨a2.toArray⟩) ht ?_ ?_
 .intro W9 hSw;obtain⟨⟨x0,x1,x2,bx⟩,y0,y1,y2,bY⟩:=HC.out W9 hSw.2;go_simp
 try simp only[ab]
 refine af 7 (.pointer (some ⟨gy,1,none⟩)) ht ?_ ?_
 .intro W9 hSw;go_simp
 try simp only[ab]
 refine af 8 (.string ⟨b2.toArray⟩) ht ?_ ?_
 .intro W9 hSw;obtain⟨⟨x0,x1,x2,bx⟩,y0,y1,y2,bY⟩:=HC.out W9 hSw.2;go_simp
 try simp only[ab]
 refine af 10 (.pointer (some ⟨gx,2,none⟩)) ht ?_ ?_
 .intro W9 hSw;go_simp
 try simp only[ab]
 refine af 11 (.string ⟨a3.toArray⟩) ht ?_ ?_
 .intro W9 hSw;obtain⟨⟨x0,x1,x2,bx⟩,y0,y1,y2,bY⟩:=HC.out W9 hSw.2;go_simp
 try simp only[ab]
 refine af 12 (.pointer (some ⟨gy,2,none⟩)) ht ?_ ?_
 .intro W9 hSw;go_simp
 try simp only[ab]
 refine af 13 (.string ⟨b3.toArray⟩) ht ?_ ?_
 .intro W9 hSw;obtain⟨⟨x0,x1,x2,bx⟩,y0,y1,y2,bY⟩:=HC.out W9 hSw.2;go_simp
 try simp only[ab]
 refine bz 4 λK hK=>?_;go_simp;refine(HC4.out _).mono ?_;rintro e4 w4 ⟨rfl,rfl⟩;have hs:=ht;clear ht;go_wp2_with fail;refine hK.out _ _ hs (λht=>?_);clear hK K hs;try simp only[ab]
 refine bz 9 λK hK=>?_;go_simp;refine(HC9.out _).mono ?_;rintro e9 w9 ⟨rfl,rfl⟩;have hs:=ht;clear ht;go_wp2_with fail;refine hK.out _ _ hs (λht=>?_);clear hK K hs;try simp only[ab]
 refine bz 14 λK hK=>?_;go_simp;refine(HC14.out _).mono ?_;rintro e14 w14 ⟨rfl,rfl⟩;have hs:=ht;clear ht;go_wp2_with fail;refine hK.out _ _ hs (λht=>?_);clear hK K hs;try simp only[ab]
 refine bz 15 λK hK=>?_;go_simp;obtain⟨os9,hos9⟩:=ht.1;refine jN (K:=K) (λW9=>((∃os,W9=grow (W.drewN 1) os)/\Below wz.heap.size wz W9)/\∃gb,Blk W9 gb 3 #[.int .i64 r1,.int .i64 r2,.int .i64 r3]/\gb=_) ⟨⟨⟨_,by rw[hos9,N4,Sort.grow_grow]⟩,ht.2.alloc ht.2.size _⟩,_,Blk.new _ _ _,rfl⟩ ?_;rintro w15 ⟨hs,gb,hgb,rfl⟩;have HGB:=Jf hgb;clear hgb ht hos9;refine hK.out _ _ hs (λht=>?_);clear hK K hs;try simp only[ab]
 refine bz 16 λK hK=>?_;go_simp;refine(HOR.out _ _ HGB.out).mono ?_;rintro e16 w16 ⟨rfl,rfl⟩;have hs:=ht;clear ht;go_wp2_with fail;refine hK.out _ _ hs (λht=>?_);clear hK K hs;try simp only[ab]
 refine af 17 (.int .i64 R) ht ?_ ?_
 .intro W9 hSw;go_simp
 try simp only[ab]
 refine Ke (by kernel_rfl) ?_ _;have hfin:=ht.1;clear ht;go_wp2_with fail;go_ret;exact⟨rfl,1,hfin⟩
theorem ym{w:World}{B g n cp:Nat}{l:List Fl.F}(h:w.ownsRow B 44 3 (.slice (some ⟨g,0,none⟩) n cp) n (aD l)):HoldsK aQ 3 w g 0 l.toArray:=by
 intro t ht;rw[Sort.size_flatK,Nh] at ht;refine⟨?_,h.frozenAt _⟩;rw[Sort.get_flatK _ _ _ _ (by simpa using ht),JI];have hq:t/3<l.length:=by omega
 have e1:l.toArray[t/3]! =l[t/3]:=by rw[KH l.toArray _ (by simpa using hq)];simp
 rw[e1];have h9:(aQ l[t/3]).length=3:=rfl;have h6:(aQ l[t/3])[t%3]? =some ((aQ l[t/3])[t%3]!):=by
  rw[KH _ _ (by rw[h9];omega)];exact Jg _
 have h7:=dS (Jg hq) (t%3) _ h6;rw[show t/3*3+t%3=t by omega] at h7;exact ax h t _ h7
theorem xH{w:World}{B g cp:Nat}{d:List Fl.F}{cur:Array Value}(hH:HoldsK aQ 3 w g 0 d.toArray)(hc:w.heap[g]? =some (.cells cur 44 (0,0)))(hs:cur.size=cp*3)(hB:B<=g)(h1:d.length<=cp)(h2:cp<=maxLen):
  w.ownsRow B 44 3 (.slice (some ⟨g,0,none⟩) d.length cp) d.length (aD d):=by
 refine⟨aV d,.inr ⟨g,cp,cur,rfl,hB,hc,h1,h2,hs,?_⟩⟩;apply Lu;intro j;by_cases hj:j<d.length*3
 .rw[KN,Jo hj];have hq:j/3<d.length:=by omega
  have h9:(aQ d[j/3]).length=3:=rfl;have h8:=hH.cell (i:=j/3) (c:=j%3) (by simpa using hq) (by omega);have e1:d.toArray[j/3]! =d[j/3]:=by rw[KH d.toArray _ (by simpa using hq)];simp
  rw[e1,KH _ _ (by rw[h9];omega),show 0+j/3*3+j%3=j by omega,Ml w g j cur _ (0,0) hc] at h8;have h7:=dS (Jg hq) (j%3) _ (Jg (by rw[h9];omega));rw[show j/3*3+j%3=j by omega] at h7;rw[h7,<-h8.1];simp
 .rw[Kb (by rw[JL];omega),Kb (by rw[aV];omega)]
theorem qT{w:World}{g n:Nat}{os:Array Obj}(d:Array Fl.F):w.grownBy (sortWorldK aQ 3 w g 0 n d os) (some g):=by
 unfold sortWorldK putRowK;refine⟨rfl,rfl,rfl,by simp,λk hk hne=>?_⟩;rw[Mc _ _ (by simpa using hk)];have:g≠k:=λe=>hne (by rw[e]);simp[putRow,mapBlock,KC,this]
theorem vZ{w:World}{g n:Nat}{os:Array Obj}{cur:Array Value}{e:TypeId}(d:Array Fl.F)(hc:w.heap[g]? =some (.cells cur e (0,0))):∃cur',(sortWorldK aQ 3 w g 0 n d os).heap[g]? =some (.cells cur' e (0,0))/\cur'.size=cur.size:=by
 have hg:g<w.heap.size:=(KE.1 hc).1;unfold sortWorldK putRowK;rw[Mc _ _ (by simpa using hg)];refine⟨Sort.putCells id 0 (Sort.flatK aQ 3 d) cur,?_,by simp[Sort.putCells]⟩;simp only[putRow,mapBlock,KC,KJ];rw[show(Sort.ahead w n).heap[g]? =some (.cells cur e (0,0)) from hc];rfl
def Fl.Ordered(d:List Fl.F):Prop:=∀i j,i<j->j<d.length->¬Fl.lt d.toArray[j]! d.toArray[i]!
theorem E1{w:World}{B:Nat}{A:Option Addr}{cp:Nat}{l:List Fl.F}(hown:w.ownsRow B 44 3 (.slice A l.length cp) l.length (aD l))(hl:l.length<=2500000000000):
  Calls Tryz.prog 63 #[.slice A l.length cp,.func (.func 64) #[] #[]] w λe w'=>e=.returned (.tuple #[])/\Below B w w'/\∃d:List Fl.F,d.length=l.length/\(∀x,x∈d↔x∈l)/\Fl.Ordered d/\w'.ownsRow B 44 3 (.slice A d.length cp) d.length (aD d):=by
 cases l with
 |nil=>
  refine(AnyF.slices_SortFunc_none Tryz.sortf A cp _ w).mono ?_;rintro e w' ⟨rfl,rfl⟩;exact⟨rfl,.refl _ _,[],rfl,λ_=>Oa,λi j _ h=>absurd h (Kt _),hown⟩
 |cons p0 l0=>
  generalize hll:p0::l0=l at*
  have hpos:0<l.length:=by rw[<-hll];simp
  clear hll;have hle:=ai hown;obtain⟨g,rfl,hg1,hg2⟩:∃g,A=some ⟨g,0,none⟩/\B<=g/\g<w.heap.size:=by
   cases A with
   |none=>have:=(hle.2.2.1 rfl).1;omega
   |some ad=>obtain⟨g,rfl,h1,h2⟩:=hle.2.2.2 ad rfl;exact⟨g,rfl,h1,h2⟩
  obtain⟨cur,hcur,hcs⟩:∃cur,w.heap[g]? =some (.cells cur 44 (0,0))/\cur.size=cp*3:=by
   rcases hown.2 with⟨h0,_⟩|⟨g',cap,cur,h1,h2,h3,_,_,h4,_⟩
   .cases h0
   .injection h1 with e1 e2 e3;injection e1 with e1;injection e1 with e1;subst e1 e3;exact⟨cur,h3,h4⟩
  have hH:=ym hown;have hds:l.toArray.size=l.length:=by simp
  have eg:∀args w,(callFunc 64 args).run Tryz.prog w=.ok (.enter 64 args) w:=enters_of Tryz.func64 (by kernel_rfl) rfl;have hcon:=AnyQ.slices_SortFunc Tryz.sortf 3 (λw=>by kernel_rfl) (λw=>by kernel_rfl) aQ (λ_=>rfl) (λx v hv=>by simp[aQ] at hv;rcases hv with rfl|rfl|rfl<;>rfl) Fl.cf Fl.swo 64 #[] g 0 cp l.toArray w eg (λ_ _ _ _ x y=>ES x y _) hH hg2 (by rw[hds];omega);rw[hds] at hcon;refine Calls.mono (show Calls Tryz.prog 63 _ _ _ from hcon) ?_;rintro e w' ⟨rfl,d',n,os,hp,hs,rfl⟩;have hgr:=qT (w:=w) (g:=g) (n:=n) (os:=os) d';have hd's:d'.size=l.length:=by rw[hp.1,hds]
  have hperm:d'.toList.Perm l:=by
   have h7:=hp.2.2;have e1:d'.extract 0 l.length=d':=by rw[<-hd's];exact M8
   have e2:l.toArray.extract 0 l.length=l.toArray:=by rw[<-hds];exact M8
   rw[e1,e2] at h7;exact h7
  have hH':HoldsK aQ 3 (sortWorldK aQ 3 w g 0 n d' os) g 0 d':=holdsK_sortWorldK_c aQ 3 w g 0 _ d' n os hH hg2 (by rw[hd's,hds]);obtain⟨cur',hcur',hcs'⟩:=vZ (n:=n) (os:=os) d' hcur;have hdl:d'.toList.length=l.length:=by rw[KV,hd's]
  refine⟨rfl,(Ji B w).grown hgr (by omega) (λk hk=>by cases hk;exact hg1),d'.toList,hdl,λx=>hperm.mem_iff,λi j hij hj=>?_,xH (by simpa using hH') hcur' (hcs'.trans hcs) hg1 (by rw[hdl];exact hle.1) hle.2.1⟩;have:=hs i j (JE _) hij (by rw[hdl] at hj;simpa using hj);rw[Fl.rE] at this;simpa using this
end
