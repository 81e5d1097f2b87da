import Derived.Test.YtdhgmaonolgpnaaGreatDoorGl
import Derived.Lib.AppendZeros
set_option linter.unusedSimpArgs false
set_option linter.unusedVariables false
set_option maxHeartbeats 2000000
set_option maxRecDepth 100000
namespace Go.Proofs.YtdhgmaonolgpnaaGreatDoor
section
open Go.RowKit Js Pt
def GB(w:World)(l:List Fl.F)(e:Ending)(w':World):Prop:=
 ∃(A:Option Addr) (c:Nat),e=.returned (.slice A l.length c)/\w'.ownsRow w.heap.size 44 3 (.slice A l.length c) l.length (aD l)/\Below w.heap.size w w'
theorem zz(l:List Fl.F)(A:Option Addr)(c:Nat)(w:World)(h:FAt w A l c)(hn:l.length<=2500000000000):Calls Tryz.prog 32 #[.slice A l.length c] w (GB w l):=by
 have hnil:∀W,(binOp .eql 35 (.slice A l.length c) (.slice none 0 0)).run Tryz.prog W=.ok (.bool A.isNone) W:=λW=>LP W _ 44 A l.length c 0 0 Tryz.underlying35;cases A with
 |none=>
  have h0:=h.nil rfl;have h1:=h.le;have hl:l=[]:=K6 (by omega);subst hl;subst h0;clear hnil h1;have hnil:∀W,(binOp .eql 35 (.slice none 0 0) (.slice none 0 0)).run Tryz.prog W=.ok (.bool true) W:=λW=>LP W _ 44 none 0 0 0 0 Tryz.underlying35;rw[show([]:List Fl.F).length=0 from rfl];have HW:=Jf (show GB w [] (.returned (.slice none 0 0)) w from⟨none,0,rfl,KT _ _ _ _,Ji _ _⟩);clear h;go_enter Tryz.func32,Tryz.ntmps32;go_wp2_with fail;go_ret;exact HW.out
 |some ad=>
  obtain⟨i0,hi0,hz0,hz1,hz2⟩:=jB;have HBE:=Jf ((Ji w.heap.size w).alloc (Jh _) (.cells #[] 44));have HOWE:=Jf (show(w.alloc (.cells #[] 44)).ownsRow w.heap.size 44 3 (.slice (some ⟨w.heap.size,0,none⟩) 0 0) 0 [] from Kv w #[] 0 (Jh _) (by unfold maxLen;omega) rfl);have HS:=Jf ((h.on HBE.out).src);clear h;go_enter Tryz.func32,Tryz.ntmps32;go_wp2_with (at_builtin;refine aP _ rfl _ _ _ rfl w.heap.size 44 i0 _ 3 48 Tryz.underlying35 hi0 hz0 hz1 hz2 rfl (by omega) (.slice (some ⟨w.heap.size,0,none⟩) 0 0) 0 [] rfl HOWE.out (some ad) l.length c (aD l) rfl (aV _) HS.out (oc _) (by unfold maxLen;omega) (by omega) (by simp) l.length (by omega) ?_;intro A1 c1 w1 hown1 hg1 hat1;have HOW1:=Jf (show w1.ownsRow w.heap.size 44 3 (.slice A1 l.length c1) l.length (aD l) from hown1);have HB1:=Jf (HBE.out.grown hg1 HBE.out.size (λb hb=>by rw[tt hb];exact Jh _));clear hown1 hg1 hat1);go_ret;exact⟨A1,c1,rfl,HOW1.out,HB1.out⟩
def gE:List Value->Nat->List Value->List Value
 |xs,_,[]=>xs
 |xs,o,v::r=>gE (xs.set o v) (o+1) r
theorem pD:∀(r xs:List Value) (o j:Nat),j<o->(gE xs o r)[j]? =xs[j]?
 |[],_,_,_,_=>rfl
 |v::r,xs,o,j,h=>by rw[gE,pD r _ _ _ (by omega),KA (by omega)]
theorem fc{base:Nat}{e:TypeId}{size g n cap:Nat}:∀(r:List Value) (w:World) (xs:List Value) (o:Nat),w.ownsRow base e size (.slice (some ⟨g,0,none⟩) n cap) n xs->(w.setCells g o r).ownsRow base e size (.slice (some ⟨g,0,none⟩) n cap) n (gE xs o r)
 |[],_,_,_,h=>h
 |v::r,_,_,o,h=>fc r _ _ _ (eZ h o v)
theorem fu{B g:Nat}{a:World}(hg:B<=g)(vs:List Value):∀{w:World} {o:Nat},Below B a w->Below B a (w.setCells g o vs):=by
 induction vs with
 |nil=>intro w o h;exact h
 |cons v r ih=>intro w o h;exact ih (h.setCell (p:=⟨g,o,none⟩) hg v)
theorem tO:∀(l:List Fl.F) (i:Nat) (x:Fl.F),(((aD l).set (i*3) (.string ⟨x.inst.toArray⟩)).set (i*3+1) (.string ⟨x.sch.toArray⟩)).set (i*3+2) (.string ⟨x.kw.toArray⟩)=aD (l.set i x)
 |[],i,x=>by simp[aD]
 |y::r,0,x=>by
  show(((aQ y++aD r).set 0 _).set 1 _).set 2 _=aQ x++aD r;simp[aQ]
 |y::r,i+1,x=>by
  have ih:=tO r i x;show(((aQ y++aD r).set ((i+1)*3) _).set ((i+1)*3+1) _).set ((i+1)*3+2) _=aQ y++aD (r.set i x);rw[<-ih,show(i+1)*3=i*3+3 by omega,show i*3+3+1=i*3+1+3 by omega,show i*3+3+2=i*3+2+3 by omega];simp[aQ]
theorem kZ{w:World}{B g n c:Nat}{l:List Fl.F}(h:w.ownsRow B 44 3 (.slice (some ⟨g,0,none⟩) n c) n (aD l)){i:Nat}{x:Fl.F}(hi:l[i]? =some x):
  (w.cell? ⟨g,i*3,none⟩=some (.string ⟨x.inst.toArray⟩)/\w.cell? ⟨g,i*3+1,none⟩=some (.string ⟨x.sch.toArray⟩)/\w.cell? ⟨g,i*3+2,none⟩=some (.string ⟨x.kw.toArray⟩))/\g<w.heap.size:=
 ⟨⟨ax h _ _ (dS hi 0 _ rfl),ax h _ _ (dS hi 1 _ rfl),ax h _ _ (dS hi 2 _ rfl)⟩,Jn _ _ (ax h _ _ (dS hi 0 _ rfl))⟩
theorem pG(W:World)(g n cp k:Nat)(hk:k<=n)(hc:k<cp):(Instr.slice 35 (.slice (some ⟨g,0,none⟩) n cp) (some (.int .i64 (k:Int))) none none).run Tryz.prog W=.ok (.slice (some ⟨g,k*3,none⟩) (n-k) (cp-k)) W:=by
 rw[run_slice_l W 35 _ n cp (by simp[Program.elem,Tryz.underlying35]) .i64 (k:Int) (by omega) (by omega)];obtain⟨i0,hi0,hz0,hz1,hz2⟩:=jB;rw[show Tryz.prog.elem 35=44 by simp[Program.elem,Tryz.underlying35]];have hne:¬cp=k:=by omega
 simp[sizeOf,typeInfo,hi0,hz1,sliced,hne,gT,Result.andThen]
theorem DZ(W:World)(g n cp k:Nat)(hk:k<=cp):(Instr.slice 35 (.slice (some ⟨g,0,none⟩) n cp) none (some (.int .i64 (k:Int))) none).run Tryz.prog W=.ok (.slice (some ⟨g,0,none⟩) k cp) W:=by
 rw[run_slice_h W 35 _ n cp (by simp[Program.elem,Tryz.underlying35]) .i64 (k:Int) (by omega) (by omega)];obtain⟨i0,hi0,hz0,hz1,hz2⟩:=jB;rw[show Tryz.prog.elem 35=44 by simp[Program.elem,Tryz.underlying35]];simp[sizeOf,typeInfo,hi0,hz1,sliced,gT,Result.andThen]
theorem GM(W:World)(g o n c:Nat)(hn:0<n)(hc:∀j,j<n*3->(W.cell? ⟨g,o+j,none⟩).isSome=true)(hf:∀j,j<n*3->W.frozen? ⟨g,o+j,none⟩=false):
  ∃r:List Value,∀ty,(Builtin.clear_ #[35] ty #[.slice (some ⟨g,o,none⟩) n c]).run Tryz.prog W=.ok (.tuple #[]) (W.setCells g o r):=by
 have hv:∀w,(zeroValue 44).run Tryz.prog w=.ok (.agg #[.string ⟨#[]⟩,.string ⟨#[]⟩,.string ⟨#[]⟩]) w:=λw=>by kernel_rfl
 refine⟨(Builtin.zeroCells #[.string ⟨#[]⟩,.string ⟨#[]⟩,.string ⟨#[]⟩] n).toList,λty=>?_⟩;have hl:(Builtin.zeroCells #[.string ⟨#[]⟩,.string ⟨#[]⟩,.string ⟨#[]⟩] n).toList.length=n*3:=by rw[KV,size_zeroCells];rfl
 have hst:=run_storeCells_cells (P:=Tryz.prog) g o (Builtin.zeroCells #[.string ⟨#[]⟩,.string ⟨#[]⟩,.string ⟨#[]⟩] n).toList 0 W (by rw[hl];simpa using hc) (by rw[hl];simpa using hf) (by
  intro v hv';simp only[Builtin.zeroCells,Array.toList_map,JQ] at hv';obtain⟨j,_,rfl⟩:=hv';have hm:j%3<3:=Nat.mod_lt _ (by omega);show(#[Value.string ⟨#[]⟩,Value.string ⟨#[]⟩,Value.string ⟨#[]⟩][j%3]!).oneCell'=true;generalize j%3=q at hm
  match q,hm with
  |0,_=>rfl
  |1,_=>rfl
  |2,_=>rfl)
 simp only[Kx] at hst;obtain⟨m,rfl⟩:∃m,n=m+1:=⟨n-1,by omega⟩;simp[Builtin.clear_,NV Tryz.underlying35,hv,hst,Value.cells,Result.andThen]
theorem FM{p:Prop}[Decidable p](h:(!decide p)=false):p:=by simpa using h
theorem FN{p:Prop}[Decidable p](h:(!decide p)=true):¬p:=by simpa using h
theorem hY{dk:Array Fl.F}{j:Nat}(h:j<dk.size):dk.toList[j]? =some dk[j]! :=by
 rw[KH dk j h];simp[h]
theorem sX{wv:World}{B g n cp kk:Nat}{dk:Array Fl.F}{r:List Fl.F}{L:List Value}(hown:wv.ownsRow B 44 3 (.slice (some ⟨g,0,none⟩) n cp) n (aD dk.toList))(hlen:r.length=kk)(hkn:kk<=n)(hlow:∀j,j<kk->r[j]? =some dk[j]!):FAt (wv.setCells g (kk*3) L) (some ⟨g,0,none⟩) r cp:=by
 have hle:=ai hown;have hdl:dk.size=n:=by have:=hown.1;rw[aV,KV] at this;omega
 refine⟨λi f hi=>?_,by omega,hle.2.1,λh=>by cases h⟩;have hil:=(Jm.1 hi).1;rw[hlow i (by omega)] at hi;injection hi with hi;have hc:=λq u (hu:(aQ f)[q]? =some u)=>ax (fc L _ _ (kk*3) hown) (i*3+q) u (by
  have hq:q<3:=(Jm.1 hu).1;rw[pD L _ _ _ (by omega)];exact dS (by rw[hY (by omega),hi]) q u hu)
 exact⟨g,0,rfl,by rw[JI];exact hc 0 _ rfl,by rw[JI];exact hc 1 _ rfl,by rw[JI];exact hc 2 _ rfl⟩
theorem uO{w:World}{B:Nat}{A:Option Addr}{cp:Nat}{d:List Fl.F}(hown:w.ownsRow B 44 3 (.slice A d.length cp) d.length (aD d))(hB:B<=w.heap.size)(hl:d.length<=2500000000000){r:List Fl.F}(hr:Lib.compactUpTo d.toArray d.length=r):
  Calls Tryz.prog 65 #[.slice A d.length cp] w λe w'=>∃(A':Option Addr) (c':Nat),e=.returned (.slice A' r.length c')/\FAt w' A' r c'/\Below B w w':=by
 have hall:(∀j,j<d.length->Lib.keeps d.toArray j=true)->r=d:=λh=>by
  rw[<-hr,Lib.compactUpTo_all _ _ h];have:=Lib.range_map_get d.toArray;simpa using this
 by_cases h2:d.length<2
 .have hrd:=hall (λj hj=>Lib.keeps_lt_one _ j (by omega));subst hrd;have HF:=Jf (vd hown).1;clear hown hr hall;have hi:(r.length:Int)<2:=by omega
  go_enter Tryz.func65,Tryz.ntmps65;go_wp2_with fail;go_ret;exact⟨A,cp,rfl,HF.out,Ji _ _⟩
 have hi2:¬(d.length:Int)<2:=by omega
 obtain⟨hle1,hle2,hle3,hle4⟩:=ai hown;obtain⟨g,rfl,hg1,hg2⟩:∃g,A=some ⟨g,0,none⟩/\B<=g/\g<w.heap.size:=by
  cases A with
  |none=>have:=(hle3 rfl).1;omega
  |some ad=>obtain⟨g,rfl,h1,h2⟩:=hle4 ad rfl;exact⟨g,rfl,h1,h2⟩
 unfold maxLen at hle2;have HOWN:=Jf hown;have HALL:=Jf hall;have HR:=Jf hr;have hds:d.toArray.size=d.length:=by simp
 have HDS:=Jf hds;clear hown hall hle3 hle4 hr hds;go_enter Tryz.func65,Tryz.ntmps65;go_wp2_with fail
 go_loopw [3] (λs3 wr=>∃k:Nat,s3=.int .i64 k/\1<=k/\k<=d.length/\(∀j,j<k->Lib.keeps d.toArray j=true)/\Below w.heap.size w wr) (λs3 _=>d.length-(intOf s3).toNat)
 case atStart=>exact⟨1,rfl,Jh _,by omega,Lib.keeps_lt_one _,Ji _ _⟩
 case round=>
  obtain⟨k,rfl,hk1,hk2,hkeep,hbr⟩:=hrel;obtain⟨wz,hwz⟩:∃W,W=wr:=⟨_,rfl⟩;subst hwz;have HB:=Jf hbr;have HK:=Jf hkeep;have HO:=Jf (aA HOWN.out (λb _ hb=>hbr.block b hb));clear hbr hkeep;by_cases hlt:k<d.length
  .have hii:(k:Int)<(d.length:Int):=by omega
   obtain⟨x,hx⟩:∃x,d[k]'hlt=x:=⟨_,rfl⟩;obtain⟨y,hy⟩:∃y,d[k-1]'(by omega)=y:=⟨_,rfl⟩;have HX:=Jf (show d.toArray[k]! =x by rw[KH d.toArray k (by simpa using hlt)];simpa using hx);have HY:=Jf (show d.toArray[k-1]! =y by rw[KH d.toArray (k-1) (by simp;omega)];simpa using hy);obtain⟨⟨c0,c1,c2⟩,hgl⟩:=kZ HO.out (show d[k]? =some x by rw[Jg hlt,hx]);obtain⟨⟨b0,b1,b2⟩,_⟩:=kZ HO.out (show d[k-1]? =some y by rw[Jg (by omega),hy]);clear hx hy;obtain⟨x1,x2,x3⟩:=x;obtain⟨y1,y2,y3⟩:=y;simp only at c0 c1 c2 b0 b1 b2;obtain⟨eb,heb⟩:∃eb,decide ((⟨x1,x2,x3⟩:Fl.F)=⟨y1,y2,y3⟩)=eb:=⟨_,rfl⟩;have HEB:=Jf heb;clear heb;go_upto_region 6 with(fail);go_cut [25] from 16 to 25 (λv25 wc=>v25=.bool eb/\Below wz.heap.size wz wc);case first=>
    cases eb with
    |true=>
     obtain⟨rfl,rfl,rfl⟩:=Fl.F.eq_iff.1 (KU HEB.out);go_quiet (fail);go_wp2_with fail
     go_meet
     case rel=>exact⟨rfl,below_drewN (Ji _ _) _⟩
    |false=>
     have hne:¬x1=y1\/(x1=y1/\¬x2=y2)\/(x1=y1/\x2=y2/\¬x3=y3):=by
      have hxy:=of_decide_eq_false HEB.out;by_cases h1:x1=y1
      .by_cases h2:x2=y2
       .exact .inr (.inr ⟨h1,h2,λh3=>hxy (Fl.F.eq_iff.2 ⟨h1,h2,h3⟩)⟩)
       .exact .inr (.inl ⟨h1,h2⟩)
      .exact .inl h1
     rcases hne with h1|⟨rfl,h1⟩|⟨rfl,rfl,h1⟩;all_goals
      have e1:=Jp.2 h1;go_quiet (fail);go_wp2_with fail
      go_meet
      case rel=>exact⟨rfl,below_drewN (Ji _ _) _⟩
   case rest=>
    obtain⟨rfl,hbc⟩:=hcut;obtain⟨wy,hwy⟩:∃W,W=wc:=⟨_,rfl⟩;subst hwy;have HBY:=Jf (HB.out.trans (hbc.mono HB.out.size));have HOY:=Jf (aA HOWN.out (λb _ hb=>HBY.out.block b hb));clear hbc c0 c1 c2 b0 b1 b2 hgl HB HO;cases eb with
    |false=>
     have hkn:=Lib.keeps_pos (d:=d.toArray) (m:=k) (by rw[HX.out,HY.out];exact of_decide_eq_false HEB.out);have HKN:=Jf hkn;clear hkn;go_wp2_with fail;go_roundw;case rel=>exact⟨k+1,by go_num,by omega,by omega,(λj hj=>by
      by_cases e:j=k
      .subst e;exact HKN.out
      .exact HK.out j (by omega)),HBY.out⟩
     case measure=>simp[intOf];omega
    |true=>
     have HST:=Jf (Lib.CompInv.start HK.out (Lib.keeps_neg (d:=d.toArray) (m:=k) (by omega) (by rw[HX.out,HY.out];exact KU HEB.out)));have hs7:∀W:World,(Instr.slice 35 (.slice (some ⟨g,0,none⟩) d.length cp) (some (.int .i64 (k:Int))) none none).run Tryz.prog W=.ok (.slice (some ⟨g,k*3,none⟩) (d.length-k) (cp-k)) W:=λW=>pG W g d.length cp k (by omega) (by omega);go_wp2_with fail
     go_loopw [3,5] (λs3 s5 wr=>∃(kk k2:Nat) (dk:Array Fl.F),s3=.int .i64 kk/\s5=.int .i64 k2/\1<=k2/\k+k2<=d.length/\Lib.CompInv d.toArray (k+k2) kk dk/\wr.ownsRow B 44 3 (.slice (some ⟨g,0,none⟩) d.length cp) d.length (aD dk.toList)/\Below B w wr) (λ_ s5 _=>d.length-(intOf s5).toNat)
     case atStart=>exact⟨k,1,d.toArray,rfl,rfl,Jh _,by omega,HST.out,HOY.out,HBY.out.mono hB⟩
     case round=>
      obtain⟨kk,k2,dk,rfl,rfl,hk3,hk4,hI,hown,hbr⟩:=hrel;obtain⟨wv,hwv⟩:∃W,W=wr:=⟨_,rfl⟩;subst hwv;have hkk:=hI.lt;have hdsz:dk.size=d.length:=by rw[hI.size];exact HDS.out
      have HI:=Jf hI;have HOW:=Jf hown;have HBW:=Jf hbr;clear hI hown hbr;by_cases hlt2:k+k2<d.length
      .have hjj:(k2:Int)<((d.length-k:Nat):Int):=by omega
       obtain⟨u,hu⟩:∃u,d.toArray[k+k2]! =u:=⟨_,rfl⟩;obtain⟨v,hv⟩:∃v,d.toArray[k+k2-1]! =v:=⟨_,rfl⟩;obtain⟨⟨c0,c1,c2⟩,hgl⟩:=kZ HOW.out (show dk.toList[k+k2]? =some u by rw[hY (by omega),HI.out.high (k+k2) (by omega),hu]);obtain⟨⟨b0,b1,b2⟩,_⟩:=kZ HOW.out (show dk.toList[k+k2-1]? =some v by rw[hY (by omega),HI.out.high (k+k2-1) (by omega),hv]);rw[show(k+k2)*3=k*3+k2*3 by omega] at c0 c1 c2;rw[show(k+k2-1)*3=k*3+(k2-1)*3 by omega] at b0 b1 b2;have HU:=Jf hu;have HV:=Jf hv;have HDK:=Jf hdsz;clear hu hv hdsz;obtain⟨u1,u2,u3⟩:=u;obtain⟨v1,v2,v3⟩:=v;simp only at c0 c1 c2 b0 b1 b2;obtain⟨nb,hnb⟩:∃nb,(!decide ((⟨u1,u2,u3⟩:Fl.F)=⟨v1,v2,v3⟩))=nb:=⟨_,rfl⟩;have HNB:=Jf hnb;clear hnb;go_upto_region 11 with(fail);go_cut [44] from 35 to 44 (λv44 wc=>v44=.bool nb/\Below wv.heap.size wv wc);case first=>
        cases nb with
        |false=>
         obtain⟨rfl,rfl,rfl⟩:=Fl.F.eq_iff.1 (FM HNB.out);go_quiet (fail);go_wp2_with fail
         go_meet
         case rel=>exact⟨rfl,below_drewN (Ji _ _) _⟩
        |true=>
         have hne:¬u1=v1\/(u1=v1/\¬u2=v2)\/(u1=v1/\u2=v2/\¬u3=v3):=by
          have hxy:¬(⟨u1,u2,u3⟩:Fl.F)=⟨v1,v2,v3⟩:=FN HNB.out;by_cases h1:u1=v1
          .by_cases h2:u2=v2
           .exact .inr (.inr ⟨h1,h2,λh3=>hxy (Fl.F.eq_iff.2 ⟨h1,h2,h3⟩)⟩)
           .exact .inr (.inl ⟨h1,h2⟩)
          .exact .inl h1
         rcases hne with h1|⟨rfl,h1⟩|⟨rfl,rfl,h1⟩;all_goals
          have e1:=Jp.2 h1;go_quiet (fail);go_wp2_with fail
          go_meet
          case rel=>exact⟨rfl,below_drewN (Ji _ _) _⟩
       case rest=>
        obtain⟨rfl,hbc⟩:=hcut;obtain⟨wy2,hwy2⟩:∃W,W=wc:=⟨_,rfl⟩;subst hwy2;have HOY2:=Jf (aA HOW.out (λb _ hb=>hbc.block b hb));have HBY2:=Jf (HBW.out.trans (hbc.mono (JA hB HBW.out.size)));clear b0 b1 b2 hgl;cases nb with
        |false=>
         have HSK:=Jf (HI.out.skip (Lib.keeps_neg (d:=d.toArray) (m:=k+k2) (by omega) (by rw[HU.out,HV.out];exact FM HNB.out)));clear c0 c1 c2 hbc;go_wp2_with fail;go_roundw;case rel=>exact⟨kk,k2+1,dk,rfl,by go_num,by omega,by omega,HSK.out,HOY2.out,HBY2.out⟩
         case measure=>simp[intOf];omega
        |true=>
         have hkp:=HI.out.keep (by rw[HDS.out];exact hlt2) (Lib.keeps_pos (d:=d.toArray) (m:=k+k2) (by rw[HU.out,HV.out];exact FN HNB.out));rw[HU.out] at hkp;have HKP:=Jf hkp;have hst:=eZ (eZ (eZ HOY2.out (kk*3) (.string ⟨u1.toArray⟩)) (kk*3+1) (.string ⟨u2.toArray⟩)) (kk*3+2) (.string ⟨u3.toArray⟩);have hst2:=tO dk.toList kk ⟨u1,u2,u3⟩;simp only at hst2;rw[hst2,<-Array.toList_setIfInBounds] at hst;have HSTR:=Jf hst;have HBST:=Jf (((HBY2.out.setCell (p:=⟨g,kk*3,none⟩) hg1 (.string ⟨u1.toArray⟩)).setCell (p:=⟨g,kk*3+1,none⟩) hg1 (.string ⟨u2.toArray⟩)).setCell (p:=⟨g,kk*3+2,none⟩) hg1 (.string ⟨u3.toArray⟩));clear hkp hst hst2;replace c0:=aa hbc _ _ c0;replace c1:=aa hbc _ _ c1;replace c2:=aa hbc _ _ c2;obtain⟨⟨b0,b1,b2⟩,hgl⟩:=kZ HOY2.out (show dk.toList[kk]? =some dk[kk]! by rw[hY (by rw[HDK.out];omega)]);have f0:=HOY2.out.frozenAt (kk*3);have f1:=HOY2.out.frozenAt (kk*3+1);have f2:=HOY2.out.frozenAt (kk*3+2);have hkl:(kk:Int)<(d.length:Int):=by omega
         clear hbc;go_wp2_with fail;go_roundw;case rel=>exact⟨kk+1,k2+1,_,by go_num,by go_num,by omega,by omega,HKP.out,HSTR.out,HBST.out⟩
         case measure=>simp[intOf];omega
      .have hend:k+k2=d.length:=by omega
       have hlow:=HI.out.low;have hlen:=HI.out.len;rw[hend,HR.out] at hlow hlen;have HFIN:=Jf (λ(L:List Value)=>sX (L:=L) HOW.out hlen (by omega) hlow);have hcs:=λ(j:Nat) (hj:j<(d.length-kk)*3)=>(show(wv.cell? ⟨g,kk*3+j,none⟩).isSome=true by
        have hq:(kk*3+j)/3<dk.size:=by omega
        have h7:=dS (hY hq) ((kk*3+j)%3) _ (Jg (show(kk*3+j)%3<(aQ dk[(kk*3+j)/3]!).length by show(kk*3+j)%3<3;omega));rw[show(kk*3+j)/3*3+(kk*3+j)%3=kk*3+j by omega] at h7;rw[ax HOW.out _ _ h7];rfl)
       obtain⟨L,hcl⟩:=GM wv g (kk*3) (d.length-kk) (cp-kk) (by omega) hcs (λj _=>HOW.out.frozenAt _);have HBL:=Jf (fu hg1 L (o:=kk*3) HBW.out);have HLEN:=Jf hlen;have hs14:∀W:World,(Instr.slice 35 (.slice (some ⟨g,0,none⟩) d.length cp) (some (.int .i64 (kk:Int))) none none).run Tryz.prog W=.ok (.slice (some ⟨g,kk*3,none⟩) (d.length-kk) (cp-kk)) W:=λW=>pG W g d.length cp kk (by omega) (by omega);have hs15:∀W:World,(Instr.slice 35 (.slice (some ⟨g,0,none⟩) d.length cp) none (some (.int .i64 (kk:Int))) none).run Tryz.prog W=.ok (.slice (some ⟨g,0,none⟩) kk cp) W:=λW=>DZ W g d.length cp kk (by omega);clear hlow hlen hcs hs7;have hnl:¬(k2:Int)<((d.length-k:Nat):Int):=by omega
       go_wp2_with fail;go_ret;rw[HLEN.out];exact⟨_,cp,rfl,HFIN.out _,HBL.out⟩
  .obtain rfl:k=d.length:=by omega
   have hrd:=HALL.out HK.out;have HF:=Jf (vd HO.out).1;go_wp2_with fail;go_ret;rw[hrd];exact⟨_,cp,rfl,HF.out,HB.out.mono hB⟩
end
