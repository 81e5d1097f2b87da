import Derived.Test.YtdhgmaonolgpnaaGreatDoorWa
import Derived.Lib.SmallJoins
import Derived.Lib.AppendIntMem
import Derived.Test.YtdhgmaonolgpnaaGreatDoorMb
import Derived.Lib.ValidLaws
import Derived.Lib.IfaceEq
set_option linter.unusedSimpArgs false
set_option maxHeartbeats 4000000
set_option maxRecDepth 100000
namespace Go.Proofs.YtdhgmaonolgpnaaGreatDoor
section
open Go.RowKit
abbrev fe(p:Nm.bV):Value:=.agg #[.bool p.neg,.string ⟨p.whole.toArray⟩,.string ⟨p.frac.toArray⟩,.bool p.expNeg,.string ⟨p.exp.toArray⟩]
theorem E2(s:ByteArray)(w:World)(hs:s.size<=maxLen):
  Calls Tryz.prog 102 #[.string s] w λe w'=>e=.returned (.tuple #[fe (Nm.split s.data.toList).1,.bool (Nm.split s.data.toList).2])/\Below w.heap.size w w':=by
 go_enter Tryz.func102,Tryz.ntmps102;go_wp2_with fail;refine(Tryz.strings_HasPrefix _ _ _).mono ?_;rintro e w' ⟨rfl,rfl⟩;generalize hneg:Lib.hasPrefix s.data.toList _=neg;have HN:=Jf hneg;clear hneg;go_wp2_with fail;refine(Tryz.strings_TrimPrefix _ _ _).mono ?_;rintro e w' ⟨rfl,rfl⟩;generalize h1:Lib.trimPrefix s.data.toList _=s1;have H1:=Jf h1;clear h1;have hl:s.data.toList.length<=maxLen:=by rw[<-Lib.size_eq];exact hs
 have hl1:s1.length<=maxLen:=by rw[<-H1.out];exact JA (Nm.yX _ _) hl
 go_wp2_with fail;refine(fK _ _ (by rw[K7];exact hl1)).mono ?_;rintro e w' ⟨rfl,rfl⟩;rw[show(⟨s1.toArray⟩:ByteArray).data.toList=s1 from rfl];have hl2:(Nm.suf s1).length<=maxLen:=JA (Nm.Cd _) hl1;generalize hwh:Nm.pre s1=wh;generalize hs2:Nm.suf s1=s2 at hl2 ⊢;have HW:=Jf hwh;have HS2:=Jf hs2;clear hwh hs2;have HE:=Jf (Nm.yL H1.out HN.out HW.out HS2.out);clear HN H1 HW HS2 hl hl1 hs;rcases wh with _|⟨c,r⟩
 .go_wp2
  rw[HE.out];exact Ju (v:=.tuple #[fe Nm.bV.zero,.bool false]) (by simp[results,Tryz.results102,go_sem,fe,Nm.bV.zero]) rfl ⟨rfl,cE _ _ _⟩
 .have hix:∀h,(⟨(c::r).toArray⟩:ByteArray)[0]'h=c:=λ_=>rfl;by_cases hbad:0<r.length/\c=48
  .obtain⟨hr,rfl⟩:=hbad;have he:Nm.cC (48::r)=true:=by simp[Nm.cC];omega
   rw[Jo he] at HE
   go_wp2
   rw[HE.out];exact Ju (v:=.tuple #[fe Nm.bV.zero,.bool false]) (by simp[results,Tryz.results102,go_sem,fe,Nm.bV.zero]) rfl ⟨rfl,cE _ _ _⟩
  .have he:Nm.cC (c::r)=false:=by
    simp only[Nm.cC,Mg,N7,KZ,Jl,Lq,Ks,Jp,MY,JM];by_cases e:c=48
    .left;have:¬0<r.length:=λh=>hbad ⟨h,e⟩;omega
    .right;exact e
   rw[Jj (by rw[he];decide)] at HE;have hq:¬0<r.length\/(0<r.length/\((c.toNat:Int)==48)=false):=by
    by_cases h:0<r.length
    .exact .inr ⟨h,Nm.bw (k:=48) (λe=>hbad ⟨h,e⟩)⟩
    .exact .inl h
   clear he hbad;rcases hq with hq|⟨hq,hq'⟩;all_goals
    go_wp2_with fail;refine(Tryz.strings_HasPrefix _ _ _).mono ?_;rintro e w' ⟨rfl,rfl⟩;rw[show Lib.hasPrefix (⟨s2.toArray⟩:ByteArray).data.toList (⟨#[46]⟩:ByteArray).data.toList=(s2.head?==some 46) from Nm.mD 46 s2];by_cases hd:s2.head?=some 46
    .obtain⟨t,rfl⟩:∃t,s2=46::t:=by
      cases s2 with
      |nil=>cases hd
      |cons d t=>exact⟨t,by rw[JY hd]⟩
     clear hd;rw[show((46::t:Jd).head?==some 46)=true from rfl];have ht:t.length+1<=maxLen:=by simpa using hl2
     rw[Nm.fs] at HE;go_wp2_with fail;rw[Nm.kB 46 t (t.length+1) (by omega)];refine(fK _ _ (by rw[K7];omega)).mono ?_;rintro e w' ⟨rfl,rfl⟩;rw[show(⟨t.toArray⟩:ByteArray).data.toList=t from rfl];have hl3:(Nm.suf t).length<=maxLen:=JA (Nm.Cd _) (by omega);generalize Nm.pre t=f at HE ⊢;generalize Nm.suf t=s3 at HE hl3 ⊢;clear ht hl2;rcases f with _|⟨y,f⟩
     .go_wp2
      exact Ju (v:=.tuple #[fe (Nm.split s.data.toList).1,.bool (Nm.split s.data.toList).2]) (by rw[HE.out];simp[results,Tryz.results102,go_sem,Nm.tail,Nm.bV.zero]) rfl ⟨rfl,by with_reducible first|exact aY _ _ _|exact cE _ _ _|exact dp _ _ _|(refine LI (ae (ae (ae (ae (ae (ae (ae (dr _ _ _ _) ?_ _ _) ?_ _ _) ?_ _ _) ?_ _ _) ?_ _ _) ?_ _ _) ?_ _ _)<;>omega)⟩
     .rw[Jj (by simp)] at HE;rcases s3 with _|⟨x,u⟩
      .go_wp2
       exact Ju (v:=.tuple #[fe (Nm.split s.data.toList).1,.bool (Nm.split s.data.toList).2]) (by rw[HE.out];simp[results,Tryz.results102,go_sem,Nm.tail,Nm.bV.zero]) rfl ⟨rfl,by with_reducible first|exact aY _ _ _|exact cE _ _ _|exact dp _ _ _|(refine LI (ae (ae (ae (ae (ae (ae (ae (dr _ _ _ _) ?_ _ _) ?_ _ _) ?_ _ _) ?_ _ _) ?_ _ _) ?_ _ _) ?_ _ _)<;>omega)⟩
      .have hix2:∀h,(⟨(x::u).toArray⟩:ByteArray)[0]'h=x:=λ_=>rfl;have hu:u.length+1<=maxLen:=by simpa using hl3
       by_cases hx:x=101\/x=69
       .rw[Nm.lf _ _ _ _ _ hx] at HE;have hb:((x.toNat:Int) !=101)=false\/((x.toNat:Int) !=101)=true/\((x.toNat:Int) !=69)=false:=by
         rcases hx with rfl|rfl
         .left;decide
         .right;decide
        clear hx;rcases hb with hb|⟨hb,hb'⟩;all_goals
         go_wp2_with fail;rw[Nm.kB x u (u.length+1) (by omega)];refine(oS _ _ (by rw[K7];omega)).mono ?_;rintro e w' ⟨rfl,nd,rfl⟩;rw[show(⟨u.toArray⟩:ByteArray).data.toList=u from rfl];have hv:(Nm.aU u).length<=maxLen:=JA (Nm.oJ u) (by omega);generalize Nm.aU u=v at HE hv ⊢;generalize Nm.sgn u=sg at HE ⊢;go_wp2_with fail;refine(fK _ _ (by rw[K7];exact hv)).mono ?_;rintro e w' ⟨rfl,rfl⟩;rw[show(⟨v.toArray⟩:ByteArray).data.toList=v from rfl];generalize Nm.pre v=pe at HE ⊢;generalize Nm.suf v=s5 at HE ⊢;rcases pe with _|⟨y,pe⟩
         .go_wp2
          exact Ju (v:=.tuple #[fe (Nm.split s.data.toList).1,.bool (Nm.split s.data.toList).2]) (by rw[HE.out];simp[results,Tryz.results102,go_sem,Nm.tail,Nm.bV.zero]) rfl ⟨rfl,by with_reducible first|exact aY _ _ _|exact cE _ _ _|exact dp _ _ _|(refine LI (ae (ae (ae (ae (ae (ae (ae (dr _ _ _ _) ?_ _ _) ?_ _ _) ?_ _ _) ?_ _ _) ?_ _ _) ?_ _ _) ?_ _ _)<;>omega)⟩
         .rcases s5 with _|⟨z,s5⟩;all_goals
           go_wp2
           exact Ju (v:=.tuple #[fe (Nm.split s.data.toList).1,.bool (Nm.split s.data.toList).2]) (by rw[HE.out];simp[results,Tryz.results102,go_sem,Nm.tail,Nm.bV.zero]) rfl ⟨rfl,by with_reducible first|exact aY _ _ _|exact cE _ _ _|exact dp _ _ _|(refine LI (ae (ae (ae (ae (ae (ae (ae (dr _ _ _ _) ?_ _ _) ?_ _ _) ?_ _ _) ?_ _ _) ?_ _ _) ?_ _ _) ?_ _ _)<;>omega)⟩
       .rw[Nm.nR _ _ _ _ _ hx] at HE;have hb1:((x.toNat:Int)==101)=false:=Nm.bw (k:=101) (λe=>hx (.inl e));have hb2:((x.toNat:Int)==69)=false:=Nm.bw (k:=69) (λe=>hx (.inr e));have hb3:((x.toNat:Int) !=101)=true:=by rw[bne,hb1];rfl
        have hb4:((x.toNat:Int) !=69)=true:=by rw[bne,hb2];rfl
        clear hx
        go_wp2
        exact Ju (v:=.tuple #[fe (Nm.split s.data.toList).1,.bool (Nm.split s.data.toList).2]) (by rw[HE.out];simp[results,Tryz.results102,go_sem,Nm.tail,Nm.bV.zero]) rfl ⟨rfl,by with_reducible first|exact aY _ _ _|exact cE _ _ _|exact dp _ _ _|(refine LI (ae (ae (ae (ae (ae (ae (ae (dr _ _ _ _) ?_ _ _) ?_ _ _) ?_ _ _) ?_ _ _) ?_ _ _) ?_ _ _) ?_ _ _)<;>omega)⟩
    .rw[show(s2.head?==some 46)=false from by simpa using hd];rw[Nm.eH _ _ _ hd] at HE;clear hd;have hl3:=hl2;clear hl2;generalize s2=s3 at HE hl3 ⊢;rcases s3 with _|⟨x,u⟩
     .go_wp2
      exact Ju (v:=.tuple #[fe (Nm.split s.data.toList).1,.bool (Nm.split s.data.toList).2]) (by rw[HE.out];simp[results,Tryz.results102,go_sem,Nm.tail,Nm.bV.zero]) rfl ⟨rfl,by with_reducible first|exact aY _ _ _|exact cE _ _ _|exact dp _ _ _|(refine LI (ae (ae (ae (ae (ae (ae (ae (dr _ _ _ _) ?_ _ _) ?_ _ _) ?_ _ _) ?_ _ _) ?_ _ _) ?_ _ _) ?_ _ _)<;>omega)⟩
     .have hix2:∀h,(⟨(x::u).toArray⟩:ByteArray)[0]'h=x:=λ_=>rfl;have hu:u.length+1<=maxLen:=by simpa using hl3
      by_cases hx:x=101\/x=69
      .rw[Nm.lf _ _ _ _ _ hx] at HE;have hb:((x.toNat:Int) !=101)=false\/((x.toNat:Int) !=101)=true/\((x.toNat:Int) !=69)=false:=by
        rcases hx with rfl|rfl
        .left;decide
        .right;decide
       clear hx;rcases hb with hb|⟨hb,hb'⟩;all_goals
        go_wp2_with fail;rw[Nm.kB x u (u.length+1) (by omega)];refine(oS _ _ (by rw[K7];omega)).mono ?_;rintro e w' ⟨rfl,nd,rfl⟩;rw[show(⟨u.toArray⟩:ByteArray).data.toList=u from rfl];have hv:(Nm.aU u).length<=maxLen:=JA (Nm.oJ u) (by omega);generalize Nm.aU u=v at HE hv ⊢;generalize Nm.sgn u=sg at HE ⊢;go_wp2_with fail;refine(fK _ _ (by rw[K7];exact hv)).mono ?_;rintro e w' ⟨rfl,rfl⟩;rw[show(⟨v.toArray⟩:ByteArray).data.toList=v from rfl];generalize Nm.pre v=pe at HE ⊢;generalize Nm.suf v=s5 at HE ⊢;rcases pe with _|⟨y,pe⟩
        .go_wp2
         exact Ju (v:=.tuple #[fe (Nm.split s.data.toList).1,.bool (Nm.split s.data.toList).2]) (by rw[HE.out];simp[results,Tryz.results102,go_sem,Nm.tail,Nm.bV.zero]) rfl ⟨rfl,by with_reducible first|exact aY _ _ _|exact cE _ _ _|exact dp _ _ _|(refine LI (ae (ae (ae (ae (ae (ae (ae (dr _ _ _ _) ?_ _ _) ?_ _ _) ?_ _ _) ?_ _ _) ?_ _ _) ?_ _ _) ?_ _ _)<;>omega)⟩
        .rcases s5 with _|⟨z,s5⟩;all_goals
          go_wp2
          exact Ju (v:=.tuple #[fe (Nm.split s.data.toList).1,.bool (Nm.split s.data.toList).2]) (by rw[HE.out];simp[results,Tryz.results102,go_sem,Nm.tail,Nm.bV.zero]) rfl ⟨rfl,by with_reducible first|exact aY _ _ _|exact cE _ _ _|exact dp _ _ _|(refine LI (ae (ae (ae (ae (ae (ae (ae (dr _ _ _ _) ?_ _ _) ?_ _ _) ?_ _ _) ?_ _ _) ?_ _ _) ?_ _ _) ?_ _ _)<;>omega)⟩
      .rw[Nm.nR _ _ _ _ _ hx] at HE;have hb1:((x.toNat:Int)==101)=false:=Nm.bw (k:=101) (λe=>hx (.inl e));have hb2:((x.toNat:Int)==69)=false:=Nm.bw (k:=69) (λe=>hx (.inr e));have hb3:((x.toNat:Int) !=101)=true:=by rw[bne,hb1];rfl
       have hb4:((x.toNat:Int) !=69)=true:=by rw[bne,hb2];rfl
       clear hx
       go_wp2
       exact Ju (v:=.tuple #[fe (Nm.split s.data.toList).1,.bool (Nm.split s.data.toList).2]) (by rw[HE.out];simp[results,Tryz.results102,go_sem,Nm.tail,Nm.bV.zero]) rfl ⟨rfl,by with_reducible first|exact aY _ _ _|exact cE _ _ _|exact dp _ _ _|(refine LI (ae (ae (ae (ae (ae (ae (ae (dr _ _ _ _) ?_ _ _) ?_ _ _) ?_ _ _) ?_ _ _) ?_ _ _) ?_ _ _) ?_ _ _)<;>omega)⟩
theorem uX(a b:Bool)(p1 p2 p3:Jd)(w:World)(hp:∀c∈p3,Nm.dig c=true)(hl:p3.length<=maxLen):
  Calls Tryz.prog 104 #[.agg #[.bool a,.string ⟨p1.toArray⟩,.string ⟨p2.toArray⟩,.bool b,.string ⟨p3.toArray⟩]] w
   λe w'=>e=.returned (.int .i64 (Nm.fP ⟨a,p1,p2,b,p3⟩))/\Below w.heap.size w w':=by
 unfold maxLen at hl;have HP:=Jf hp;clear hp;go_enter Tryz.func104,Tryz.ntmps104
 go_wp2
 go_loop [3,8] (λv i=>∃k:Nat,k<=p3.length/\i=.int .i64 k/\v=.int .i64 (Nm.mY (p3.take k))) (λ_ i=>p3.length-(intOf i).toNat)
 case atStart=>exact⟨0,JE _,rfl,rfl⟩
 case round=>
  obtain⟨k,hk,rfl,rfl⟩:=hrel;by_cases hlt:k<p3.length
  .have hx:=Nm.pU (p3.take k) (λc hc=>HP.out c (KG hc));have hs:=Nm.CM p3 k hlt;have HS:=Jf hs;clear hs;have hd:=Nm.jS (HP.out p3[k] (Jv hlt));obtain⟨hx1,hx2⟩:=hx;obtain⟨hd1,hd2⟩:=hd;have hix:∀h,(⟨p3.toArray⟩:ByteArray)[k]'h=p3[k]:=λ_=>rfl;generalize Nm.mY (p3.take k)=ex at HS hx1 hx2 ⊢
   go_wp2
   go_round
   case rel=>exact⟨k+1,by omega,by go_num,(by rw[HS.out];unfold Nm.far;congr 2)⟩
   case measure=>simp[intOf];omega
  .have hke:k=p3.length:=by omega
   subst hke;rw[JC];have hx:=Nm.pU p3 HP.out;obtain⟨hx1,hx2⟩:=hx;cases b;all_goals
    go_wp2
    go_ret;exact⟨rfl,(Ji _ _).alloc (Jh _) _⟩
abbrev gr(n:Nm.Num):Value:=.agg #[n.neg,n.digits,.int .i64 n.exp]
theorem CA(s:ByteArray)(w:World)(hs:s.size<=281474976710656):
  Calls Tryz.prog 143 #[.string s] w λe w'=>e=.returned (.string s)/\Below w.heap.size w w':=by
 go_enter Tryz.func143,Tryz.ntmps143;go_wp2_with fail;refine(Tryz.stringslite_Clone _ _ hs).mono ?_;rintro e w' ⟨rfl,hb⟩
 go_wp2
 go_ret;exact⟨rfl,hb⟩
theorem Ax(neg:Bool)(d:Jd)(x:Int)(w:World)(hd:d.length<=1000000000000000)(hx1: -4000000000000000<=x)(hx2:x<=4000000000000000):
  Calls Tryz.prog 103 #[neg,d,.int .i64 x] w
   λe w'=>e=.returned (.tuple #[gr (Nm.normal neg d x).1,.bool (Nm.normal neg d x).2])/\Below w.heap.size w w':=by
 go_enter Tryz.func103,Tryz.ntmps103;go_wp2_with fail;refine(Tryz.strings_TrimLeft_one _ 48 (by decide) _).mono ?_;rintro e w' ⟨rfl,rfl⟩;rw[show(⟨d.toArray⟩:ByteArray).data.toList=d from rfl];have hl:(Lib.trimLeftB d 48).length<=d.length:=(KS _).length_le;generalize hll:Lib.trimLeftB d 48=l at hl ⊢;have HL:=Jf hll;clear hll;go_wp2_with fail;refine(Tryz.strings_TrimRight_one _ 48 (by decide) _ (by rw[K7];omega)).mono ?_;rintro e w' ⟨rfl,rfl⟩;rw[show(⟨l.toArray⟩:ByteArray).data.toList=l from rfl];have hr:(Lib.trimRightB l 48).length<=l.length:=by
  unfold Lib.trimRightB;rw[M1];have:=(KS (·==(48:UInt8)) (l:=l.reverse)).length_le;simpa using this
 generalize hrr:Lib.trimRightB l 48=r at hr ⊢;have HR:=Jf hrr;clear hrr;have HE:=Jf (Nm.Dw neg HL.out HR.out x);clear HL HR;rcases r with _|⟨c,r⟩
 .go_wp2
  exact Ju (v:=.tuple #[gr (Nm.normal neg d x).1,.bool (Nm.normal neg d x).2]) (by rw[HE.out];simp[results,Tryz.results103,go_sem,Nm.Num.zero]) rfl ⟨rfl,(Ji _ _).alloc (Jh _) _⟩
 .by_cases hb:60<(c::r).length\/x+((l.length:Int)-(c::r).length)< -1000\/1000<x+((l.length:Int)-(c::r).length)
  .rw[Jj (by simp),Jo hb] at HE;have hb':60<r.length+1\/(r.length+1<=60/\x+((l.length:Int)-(r.length+1))< -1000)\/(r.length+1<=60/\ -1000<=x+((l.length:Int)-(r.length+1))/\1000<x+((l.length:Int)-(r.length+1))):=by
    simp only[Jl] at hb;omega
   clear hb;rcases hb' with hb'|⟨hb1,hb2⟩|⟨hb1,hb2,hb3⟩;all_goals
    go_wp2
    exact Ju (v:=.tuple #[gr (Nm.normal neg d x).1,.bool (Nm.normal neg d x).2]) (by rw[HE.out];simp[results,Tryz.results103,go_sem,Nm.Num.zero]) rfl ⟨rfl,(Ji _ _).alloc (Jh _) _⟩
  .rw[Jj (by simp),Jj hb] at HE;simp only[Jl] at hb hr;have hb1:r.length+1<=60:=by omega
   have hb2: -1000<=x+((l.length:Int)-(r.length+1)):=by omega
   have hb3:x+((l.length:Int)-(r.length+1))<=1000:=by omega
   clear hb;go_wp2_with fail;refine(CA _ _ (by rw[K7,Jl];omega)).mono ?_;rintro e w1 ⟨rfl,hbl⟩;obtain⟨hc,hf⟩:=wR hbl
   go_wp2
   exact Ju (v:=.tuple #[gr (Nm.normal neg d x).1,.bool (Nm.normal neg d x).2]) (by rw[HE.out];simp[results,Tryz.results103,go_sem,hc]) rfl ⟨rfl,ae (ae (ae (((Ji _ _).alloc (Jh _) _).trans (hbl.mono (by simp))) (Jh _) _ _) (Jh _) _ _) (Jh _) _ _⟩
theorem sizeBuilder:(Tryz.prog.info? 165).map (·.size)=some 2:=by kernel_rfl
theorem liesBuilder:liesAt Tryz.prog Tryz.prog.depth 165 (2/Tryz.prog.cellsOf 165) 0 165 1=true:=by kernel_rfl
theorem infoByte:(Tryz.prog.info? 5).map (λi=>(i.zero,i.size,i.bytes))=some (some (.int .u8 0),1,1):=by kernel_rfl
theorem qA(b:Nat)(w:World)(h0:w.cell? ⟨b,0,none⟩=some (.pointer (some ⟨b,0,none⟩))):
  Calls Tryz.prog 135 #[.pointer (some ⟨b,0,none⟩)] w λe w'=>e=.returned (.tuple #[])/\w'=w:=by
 obtain⟨j,hj,_⟩:=Kd.1 sizeBuilder;go_enter Tryz.func135,Tryz.ntmps135
 go_wp2
 rw[Lib.run_neq_ptr_same w _ Tryz.underlying163 hj]
 go_wp2
 go_end0
 exact⟨rfl,rfl⟩
theorem pL(b:Nat)(w:World)(h0:w.cell? ⟨b,0,none⟩=some (.pointer none))(hsh:w.shape? b=some (165,2))(hfz:w.frozen? ⟨b,0,none⟩=false):
  Calls Tryz.prog 135 #[.pointer (some ⟨b,0,none⟩)] w λe w'=>e=.returned (.tuple #[])/\w'=w.setCell ⟨b,0,none⟩ (.pointer (some ⟨b,0,none⟩)):=by
 obtain⟨j,hj,hjs⟩:=Kd.1 sizeBuilder;go_enter Tryz.func135,Tryz.ntmps135
 go_wp2
 rw[Lib.run_to_unsafe w ⟨b,0,none⟩ Tryz.underlying163 Tryz.underlying223 hj (by rw[hjs];decide) hsh (Nat.zero_lt_succ 1)];simp only[Result.andThen];rw[NG]
 go_wp2
 rw[run_callFunc_extern Tryz.func162 (by kernel_rfl) (by kernel_rfl) (by kernel_rfl) (e:=Extern.AbiNoEscape.same) (by kernel_rfl)];rw[Lib.run_noEscape];simp only[Result.andThen];rw[NG]
 go_wp2
 rw[Lib.run_from_unsafe w ⟨b,0,none⟩ Tryz.underlying223 Tryz.underlying163 hj hsh liesBuilder];simp only[Result.andThen];rw[NG]
 go_wp2
 go_end0
 exact⟨rfl,rfl⟩
theorem lM(B b:Nat)(bs:List Value)(w:World)(h:Lib.IsBuilder 165 5 B b bs w):
  Calls Tryz.prog 135 #[.pointer (some ⟨b,0,none⟩)] w λe w'=>e=.returned (.tuple #[])/\(Lib.BuilderAt 165 5 B b (.pointer (some ⟨b,0,none⟩)) bs w'/\Below B w w'):=by
 rcases h with h|h
 .refine(pL b w h.cell0 h.shape h.frozen0).mono ?_;rintro e w' ⟨rfl,rfl⟩;exact⟨rfl,h.used _,(Ji B w).setCell (p:=⟨b,0,none⟩) h.1 _⟩
 .refine(qA b w h.cell0).mono ?_;rintro e w' ⟨rfl,rfl⟩;exact⟨rfl,h,Ji B _⟩
theorem tA(B b:Nat)(bs:List Value)(c:Int)(w:World)(h:Lib.IsBuilder 165 5 B b bs w)(hlen:bs.length+1<=140737488355328)(hBw:B<=w.heap.size):
  Calls Tryz.prog 96 #[.pointer (some ⟨b,0,none⟩),.int .u8 c] w λe w'=>e=.returned .nilIface/\(Lib.IsBuilder 165 5 B b (bs++[.int .u8 c]) w'/\Below B w w'):=by
 obtain⟨i0,hi,hz0,hz1,hz2⟩:=info_parts infoByte;go_enter Tryz.func96,Tryz.ntmps96;go_wp2_with (go_at_call 135;refine(lM B b bs _ h).mono ?_);rintro e w1 ⟨rfl,h1,hb1⟩;obtain⟨hB,v,hbk,hown,hne⟩:=h1;have c0:w1.cell? ⟨b,0,none⟩=some (.pointer (some ⟨b,0,none⟩)):=by rw[Lib.cell_of_heap hbk];rfl
 have c1:w1.cell? ⟨b,1,none⟩=some v:=by rw[Lib.cell_of_heap hbk];rfl
 go_wp2_with (at_builtin;refine wpList_append_own _ rfl _ _ 93 rfl B 5 i0 (.int .u8 0) 1 1 Tryz.underlying93 hi hz0 hz1 hz2 rfl (by decide) _ _ _ rfl (hown.alloc _) ⟨w1.heap.size,0,none⟩ 1 1 [.int .u8 c] rfl rfl ?c1 ?c2 ?c3 ?c4 ?c5 ?_);case c1=>
  intro j u hj
  match j,hj with
  |0,hj=>simp at hj;subst hj;simp[Addr.add]
 case c2=>intro u hu;simp at hu;subst hu;rfl
 case c3=>unfold maxLen;omega
 case c4=>omega
 case c5=>have:=hb1.size;simp;omega
 intro v' w2 hown' hgrow _;have hlt:b<w1.heap.size:=Lib.BuilderAt.lt (B:=B) (p:=.pointer (some ⟨b,0,none⟩)) ⟨hB,v,hbk,hown,hne⟩;have hb2:w2.heap[b]? =some (.cells #[.pointer (some ⟨b,0,none⟩),v] 165 (0,0)):=by
  rw[hgrow.block b (by simp;omega) (λe=>hne e.symm),Lib.alloc_old w1 _ b hlt];exact hbk
 have d0:w2.cell? ⟨b,0,none⟩=some (.pointer (some ⟨b,0,none⟩)):=by rw[Lib.cell_of_heap hb2];rfl
 have d1:w2.cell? ⟨b,1,none⟩=some v:=by rw[Lib.cell_of_heap hb2];rfl
 have f1:w2.frozen? ⟨b,1,none⟩=false:=Lib.frozen_of_heap hb2 1;obtain⟨g,cap,rfl⟩:∃g cap,v'=.slice (some ⟨g,0,none⟩) (bs.length+1) cap:=by
  rcases hown'.2 with⟨_,h0⟩|⟨g,cap,cur,hv,_⟩
  .omega
  .exact⟨g,cap,hv⟩
 go_wp2
 go_ret;refine⟨rfl,.inr ?_,?_⟩
 .exact Lib.BuilderAt.put (T:=165) (e:=5) hB hb2 (bs':=bs++[.int .u8 c]) (by simpa using hown') (by decide)
 .exact((hb1.alloc (by have:=hb1.size;omega) _).grown hgrow (by have:=hb1.size;simp;omega) (λk hk=>(hown.lt k hk).1)).setCell (p:=⟨b,1,none⟩) hB _
theorem pT(B b:Nat)(bs:List Value)(s:ByteArray)(w:World)(h:Lib.IsBuilder 165 5 B b bs w)(hlen:bs.length+s.size<=140737488355328)(hBw:B<=w.heap.size):
  Calls Tryz.prog 97 #[.pointer (some ⟨b,0,none⟩),.string s] w λe w'=>e=.returned (.tuple #[.int .i64 s.size,.nilIface])/\(Lib.IsBuilder 165 5 B b (bs++Lib.strCells s) w'/\Below B w w'):=by
 obtain⟨i0,hi,hz0,hz1,hz2⟩:=info_parts infoByte;go_enter Tryz.func97,Tryz.ntmps97;go_wp2_with (go_at_call 135;refine(lM B b bs _ h).mono ?_);rintro e w1 ⟨rfl,h1,hb1⟩;obtain⟨hB,v,hbk,hown,hne⟩:=h1;have c0:w1.cell? ⟨b,0,none⟩=some (.pointer (some ⟨b,0,none⟩)):=by rw[Lib.cell_of_heap hbk];rfl
 have c1:w1.cell? ⟨b,1,none⟩=some v:=by rw[Lib.cell_of_heap hbk];rfl
 go_wp2_with (at_builtin;refine Lib.wpList_append_own_string _ rfl _ _ 93 9 rfl B 5 i0 Tryz.underlying93 Tryz.underlying9 hi hz0 hz1 hz2 _ _ _ rfl hown s rfl ?c3 ?c4 ?c5 ?_);case c3=>unfold maxLen;omega
 case c4=>omega
 case c5=>have:=hb1.size;omega
 intro v' w2 hown' hgrow _;have hlt:b<w1.heap.size:=Lib.BuilderAt.lt (B:=B) (p:=.pointer (some ⟨b,0,none⟩)) ⟨hB,v,hbk,hown,hne⟩;have hb2:w2.heap[b]? =some (.cells #[.pointer (some ⟨b,0,none⟩),v] 165 (0,0)):=by
  rw[hgrow.block b hlt (λe=>hne e.symm)];exact hbk
 have d0:w2.cell? ⟨b,0,none⟩=some (.pointer (some ⟨b,0,none⟩)):=by rw[Lib.cell_of_heap hb2];rfl
 have d1:w2.cell? ⟨b,1,none⟩=some v:=by rw[Lib.cell_of_heap hb2];rfl
 have f1:w2.frozen? ⟨b,1,none⟩=false:=Lib.frozen_of_heap hb2 1;obtain⟨ao,n',cap,rfl⟩:∃ao n' cap,v'=.slice ao n' cap:=by
  rcases hown'.2 with⟨hv,_⟩|⟨g,cap,cur,hv,_⟩
  .exact⟨_,_,_,hv⟩
  .exact⟨_,_,_,hv⟩
 go_wp2
 go_ret2
 refine⟨rfl,.inr ?_,?_⟩
 .exact Lib.BuilderAt.put (T:=165) (e:=5) hB hb2 (bs':=bs++Lib.strCells s) (by simpa[Lib.strCells_length] using hown') (by decide)
 .exact(hb1.grown hgrow (by have:=hb1.size;omega) (λk hk=>(hown.lt k hk).1)).setCell (p:=⟨b,1,none⟩) hB _
abbrev Tab(w:World):Prop:=Lib.TabIs Tryz.prog w "internal/strconv.uint64pow10" .u64 Lib.pow10Tab
theorem Tab.keep{w w':World}(h:Tab w)(hb:Below w.heap.size w w'):Tab w':=
 Joins.tab_stays (g:=1) (by kernel_rfl) h hb (Jh _)
theorem below_grow(w:World)(k:Nat)(os:Array Obj):Below w.heap.size w (Sort.grow (w.drewN k) os):=
 ⟨rfl,rfl,rfl,by simp[Sort.grow],λj hj=>by simp[Sort.grow,N6 hj]⟩
theorem uM{T e:TypeId}{B b:Nat}{bs:List Value}{w w':World}(h:Lib.IsBuilder T e B b bs w)(hb:Below w.heap.size w w'):Lib.IsBuilder T e B b bs w':=by
 have hg:w.grownBy w' none:=⟨hb.os,hb.tape,hb.output,hb.size,λk hk _=>hb.block k hk⟩;rcases h with h|h;all_goals
  have hlt:=h.lt;obtain⟨hB,v,hbk,hown,hne⟩:=h
 .exact .inl ⟨hB,v,(hb.block b hlt).trans hbk,hown.kept hg (by cases v.ownBlock<;>simp),hne⟩
 .exact .inr ⟨hB,v,(hb.block b hlt).trans hbk,hown.kept hg (by cases v.ownBlock<;>simp),hne⟩
theorem St.xB(l:Jd)(j k r:Nat)(hk:k<l.length):St.cP (j+1) r k (l.drop k)=match St.je l[k] with
  |none=>(r,k)
  |some d=>St.cP j (16*r+d) (k+1) (l.drop (k+1)):=by
 rw[JO hk];rfl
theorem St.xC(l:Jd)(j k r:Nat)(hk:l.length<=k):St.cP j r k (l.drop k)=(r,k):=by
 rw[Kj hk];cases j<;>rfl
def Bd(k r:Nat):Prop:=(k=0->r<1)/\(k<=1->r<16)/\(k<=2->r<256)/\(k<=3->r<4096)/\r<65536
theorem Bd.next{k r d:Nat}(h:Bd k r)(hk:k<4)(hd:d<16):Bd (k+1) (16*r+d):=by
 unfold Bd at*;omega
theorem Bd.lt{k r:Nat}(h:Bd k r)(hk:k<4):r<4096:=h.2.2.2.1 (by omega)
theorem et{s:ByteArray}{i:Nat}(h:i<s.size):i<s.data.toList.length:=by rw[<-Lib.size_eq];exact h
theorem drop_at(s:ByteArray)(i:Nat)(h:i<s.size):s.data.toList.drop i=s.data.toList[i]'(et h)::s.data.toList.drop (i+1):=JO (et h)
theorem gU{c:UInt8}(k:UInt8)(h:c=k):((c.toNat:Int)==(k.toNat:Int))=true:=by subst h;simp
theorem bE{c:UInt8}(k:UInt8)(h:¬c=k):((c.toNat:Int)==(k.toNat:Int))=false:=by
 rw[Jp];intro e;exact h (L4.1 (by omega))
end
namespace St
theorem zE(n b0 b1 b2 b3:Nat)(hn:1<=n)(h0:b0<256)(h1:b1<256)(h2:b2<256)(h3:b3<256):
  Lib.decodeN n b0 b1 b2 b3=if width n b0 b1 b2 b3=0 then(65533,1) else(value b0 b1 b2 b3,width n b0 b1 b2 b3):=by
 by_cases c1:b0<128
 .have e:width n b0 b1 b2 b3=1:=uG c1 (by omega);rw[e,Jj (by decide)];unfold Lib.decodeN value;rw[Jo c1,Jo c1]
 .by_cases c2:b0<192
  .rw[mL (by omega),Jo rfl];unfold Lib.decodeN;rw[Jj c1,Jj (by omega),Jj (by omega),Jj (by omega)]
  .by_cases c3:b0<224
   .unfold Lib.decodeN width value;simp only[Jj c1,Jj c2,Jo c3]
    repeat' split
    all_goals first|rfl|(exfalso;omega)|(apply Prod.ext<;>simp only<;>omega)
   .by_cases c4:b0<240
    .unfold Lib.decodeN width value;simp only[Jj c1,Jj c2,Jj c3,Jo c4]
     repeat' split
     all_goals first|rfl|(exfalso;omega)|(apply Prod.ext<;>simp only<;>omega)
    .by_cases c5:b0<248
     .unfold Lib.decodeN width value;simp only[Jj c1,Jj c2,Jj c3,Jj c4,Jo c5]
      repeat' split
      all_goals first|rfl|(exfalso;omega)|(apply Prod.ext<;>simp only<;>omega)
     .rw[mL (by omega),Jo rfl];unfold Lib.decodeN;rw[Jj c1,Jj (by omega),Jj (by omega),Jj (by omega)]
end St
section
open Go.RowKit
def bc(w1:World)(a b:Bool)(p1 p2 p3:Jd)(w':World):Prop:=
 (w'.cell? ⟨w1.heap.size,0,none⟩=some (.bool a)/\w'.cell? ⟨w1.heap.size,1,none⟩=some (.string ⟨p1.toArray⟩)/\w'.cell? ⟨w1.heap.size,2,none⟩=some (.string ⟨p2.toArray⟩)/\w'.cell? ⟨w1.heap.size,3,none⟩=some (.bool b)/\w'.cell? ⟨w1.heap.size,4,none⟩=some (.string ⟨p3.toArray⟩))/\Below w1.heap.size w1 w'/\w1.heap.size+1<=w'.heap.size
theorem bc.keep{w1:World}{a b:Bool}{p1 p2 p3:Jd}{W w2:World}(h:bc w1 a b p1 p2 p3 W)(hb:Below W.heap.size W w2):bc w1 a b p1 p2 p3 w2:=by
 obtain⟨⟨h0,h1,h2,h3,h4⟩,h5,h6⟩:=h;have hc:=λo=>hb.cell (p:=⟨w1.heap.size,o,none⟩) (by simp;omega);exact⟨⟨(hc 0).trans h0,(hc 1).trans h1,(hc 2).trans h2,(hc 3).trans h3,(hc 4).trans h4⟩,h5.trans (hb.mono (by omega)),by have:=hb.size;omega⟩
theorem bc.start(w1:World)(a b:Bool)(p1 p2 p3:Jd)(t:TypeId):bc w1 a b p1 p2 p3 (w1.alloc (.cells #[.bool a,.string ⟨p1.toArray⟩,.string ⟨p2.toArray⟩,.bool b,.string ⟨p3.toArray⟩] t)).drew:=by
 refine⟨⟨?_,?_,?_,?_,?_⟩,((Ji _ _).alloc (Jh _) _).drew,by simp⟩<;>simp
theorem bc.Gg(w1:World)(a b:Bool)(p1 p2 p3:Jd)(t:TypeId)(o:Obj):bc w1 a b p1 p2 p3 ((w1.alloc (.cells #[.bool a,.string ⟨p1.toArray⟩,.string ⟨p2.toArray⟩,.bool b,.string ⟨p3.toArray⟩] t)).alloc o).drew:=by
 refine⟨⟨?_,?_,?_,?_,?_⟩,(aY w1 _ _).drew,by simp⟩<;>simp
theorem bc.alloc{w1:World}{a b:Bool}{p1 p2 p3:Jd}{W:World}(h:bc w1 a b p1 p2 p3 W)(o:Obj):bc w1 a b p1 p2 p3 (W.alloc o):=
 h.keep ((Ji _ _).alloc (Jh _) _)
theorem bc.set{w1:World}{a b:Bool}{p1 p2 p3:Jd}{W:World}(h:bc w1 a b p1 p2 p3 W){k:Nat}(hk:w1.heap.size+1<=k)(o:Nat)(v:Value):bc w1 a b p1 p2 p3 (W.setCell ⟨k,o,none⟩ v):=by
 obtain⟨⟨h0,h1,h2,h3,h4⟩,h5,h6⟩:=h;have hb:Below (w1.heap.size+1) W (W.setCell ⟨k,o,none⟩ v):=(Ji _ _).setCell (p:=⟨k,o,none⟩) hk v;have hc:=λo=>hb.cell (p:=⟨w1.heap.size,o,none⟩) (L9 _);exact⟨⟨(hc 0).trans h0,(hc 1).trans h1,(hc 2).trans h2,(hc 3).trans h3,(hc 4).trans h4⟩,h5.trans (hb.mono (KD _)),JA h6 hb.size⟩
def EX(k:Int):Value:=if k=0 then .nilIface else .iface 174 (.int .i64 k)
theorem fF{w W:World}{t:TypeId}(h:Below (w.heap.size+1) (w.alloc (.cells #[false,.string ⟨#[]⟩,.int .i64 0] t)) W):
  W.cell? ⟨w.heap.size,0,none⟩=some (.bool false)/\W.cell? ⟨w.heap.size,1,none⟩=some (.string ⟨#[]⟩)/\W.cell? ⟨w.heap.size,2,none⟩=some (.int .i64 0)/\∀o,W.frozen? ⟨w.heap.size,o,none⟩=false:=by
 have hc:=λo=>h.cell (p:=⟨w.heap.size,o,none⟩) (L9 _);refine⟨(hc 0).trans (by simp),(hc 1).trans (by simp),(hc 2).trans (by simp),λo=>(h.frozen (p:=⟨w.heap.size,o,none⟩) (L9 _)).trans (by simp)⟩
theorem vU{w1 w2:World}{o1:Obj}{t:TypeId}(h:Below ((w1.alloc o1).alloc (.cells #[false,.string ⟨#[]⟩,.int .i64 0] t)).drew.heap.size ((w1.alloc o1).alloc (.cells #[false,.string ⟨#[]⟩,.int .i64 0] t)).drew w2):
  w2.cell? ⟨w1.heap.size+1,0,none⟩=some (.bool false)/\w2.cell? ⟨w1.heap.size+1,1,none⟩=some (.string ⟨#[]⟩)/\w2.cell? ⟨w1.heap.size+1,2,none⟩=some (.int .i64 0):=by
 have hc:=λo=>h.cell (p:=⟨w1.heap.size+1,o,none⟩) (by simp);exact⟨(hc 0).trans (by simp),(hc 1).trans (by simp),(hc 2).trans (by simp)⟩
theorem Dv(neg:Bool)(d:Jd)(x:Int){n:Nm.Num}{ok:Bool}(h:Nm.normal neg d x=(n,ok))(w:World)(hd:d.length<=1000000000000000)(hx1: -4000000000000000<=x)(hx2:x<=4000000000000000):
  Calls Tryz.prog 103 #[neg,d,.int .i64 x] w
   λe w'=>e=.returned (.tuple #[gr n,.bool ok])/\Below w.heap.size w w':=by
 have:=Ax neg d x w hd hx1 hx2;rw[h] at this;exact this
theorem DD(s:ByteArray)(w:World)(hs:s.size<=140737488355328):
  Calls Tryz.prog 76 #[.string s] w λe w'=>e=.returned (.tuple #[gr (Nm.parse s.data.toList).1,EX (Nm.parse s.data.toList).2])/\Below w.heap.size w w':=by
 go_enter Tryz.func76,Tryz.ntmps76;go_wp2_with fail;refine(E2 _ _ (by unfold maxLen;omega)).mono ?_;rintro e w1 ⟨rfl,hb1⟩;obtain⟨hc,hf⟩:=wR hb1;have hz:w.heap.size+1<=w1.heap.size:=by have:=hb1.size;simp at this;omega
 have hz':w.heap.size<w1.heap.size:=by omega
 have hsd:=Nm.pH s.data.toList;rw[<-Lib.size_eq] at hsd;have HE:=Jf (show Nm.parse s.data.toList=Nm.gu (Nm.split s.data.toList) from rfl);generalize Nm.split s.data.toList=sp at HE hsd ⊢;obtain⟨⟨pn,pw,pf,px,pe⟩,ok⟩:=sp;obtain⟨hs1,hs2,hs3⟩:=hsd;simp only at hs2 hs3;have HS1:=Jf hs1;clear hs1;cases ok
 .have HE':=Jf (HE.out.trans (show Nm.gu (⟨pn,pw,pf,px,pe⟩,false)=(Nm.Num.zero,1) from rfl));clear HE
  go_wp2
  refine Ju (v:=.tuple #[gr (Nm.parse s.data.toList).1,EX (Nm.parse s.data.toList).2]) ?_ rfl ⟨rfl,?_⟩
  .rw[HE'.out];simp[results,Tryz.results76,go_sem,hc,hz',EX,Nm.Num.zero]
  .exact Below.alloc (ae (ae (ae (((Ji _ _).alloc (Jh _) _).trans (hb1.mono (by simp))) (Jh _) _ _) (Jh _) _ _) (Jh _) _ _) (by simp;omega) _
 .have hxb:=Nm.Fa pn pw pf px pe HS1.out;have hwr:IntKind.i64.wrap (Nm.fP ⟨pn,pw,pf,px,pe⟩-pf.length)=Nm.fP ⟨pn,pw,pf,px,pe⟩-pf.length:=IntWalk.i64_in _ (by omega);have hadd:∀W:World,(Op.stringOp .add ⟨pw.toArray⟩ ⟨pf.toArray⟩).run Tryz.prog W=.ok (.string ⟨(pw++pf).toArray⟩) W:=λW=>by
   rw[run_string_add_sum W _ _ (by rw[K7,K7];omega),ByteArray.mk_append_mk]
  have hcat:¬9223372036854775807<pw.length+pf.length:=by omega
  have HE':=Jf (HE.out.trans (Nm.mA pn pw pf px pe));rcases hnn:Nm.normal pn (pw++pf) (Nm.fP ⟨pn,pw,pf,px,pe⟩-pf.length) with⟨⟨nn,nd,nx⟩,nok⟩;rw[hnn] at HE';have HNN:=Jf hnn;clear hnn HE;cases nok;all_goals
   go_wp2_with fail
   go_region_held3 (λw'=>(w'.cell? ⟨w1.heap.size,0,none⟩=some (.bool pn)/\w'.cell? ⟨w1.heap.size,1,none⟩=some (.string ⟨pw.toArray⟩)/\w'.cell? ⟨w1.heap.size,2,none⟩=some (.string ⟨pf.toArray⟩)/\w'.cell? ⟨w1.heap.size,3,none⟩=some (.bool px)/\w'.cell? ⟨w1.heap.size,4,none⟩=some (.string ⟨pe.toArray⟩))/\Below w1.heap.size w1 w'/\w1.heap.size+1<=w'.heap.size)
    ((show bc w1 pn px pw pf pe _;first|(with_reducible exact ht)|(with_reducible exact bc.alloc ht _)|(with_reducible exact bc.start w1 pn px pw pf pe _)|(with_reducible exact bc.Gg w1 pn px pw pf pe _ _)|(with_reducible refine bc.set (bc.set (bc.set ht ?_ _ _) ?_ _ _) ?_ _ _)<;>omega))
    (first|(go_at_call 104;refine(uX _ _ _ _ _ _ HS1.out (by unfold maxLen;omega)).mono ?_;rintro e w2 ⟨rfl,hb2⟩;have ht:=bc.keep (w1:=w1) (a:=pn) (b:=px) (p1:=pw) (p2:=pf) (p3:=pe) (by with_reducible first|exact bc.start w1 pn px pw pf pe _|exact bc.Gg w1 pn px pw pf pe _ _) hb2;obtain⟨hc2,hf2⟩:=wR hb2;have hz2:=ht.2.2;have ht2:=ht.2.1;have hzs:=hb2.size;simp at hzs;(try (have hzu:w1.heap.size+1<w2.heap.size:=by omega)))|(go_at_call 103;refine(Dv pn (pw++pf) (Nm.fP ⟨pn,pw,pf,px,pe⟩-pf.length) HNN.out _ (by rw[Jk];omega) (by omega) (by omega)).mono ?_;rintro e w3 ⟨rfl,hb3⟩;have ht:=bc.keep (w1:=w1) (a:=pn) (b:=px) (p1:=pw) (p2:=pf) (p3:=pe) (by with_reducible first|exact ht|exact bc.alloc ht _) hb3;obtain⟨hc3,hf3⟩:=wR hb3;have hz3:=ht.2.2))
   all_goals
    have h1:Below (w.heap.size+1) (w.alloc (.cells #[false,.string ⟨#[]⟩,.int .i64 0] 27)) w1:=hb1.mono (by simp);have h2:=h1.trans (ht2.mono (by omega));have h3:=h1.trans (ht.2.1.mono (by omega));obtain⟨q0,q1,q2,q3⟩:=fF h2;obtain⟨r0,r1,r2,r3⟩:=fF h3;have k1:w.heap.size<w2.heap.size:=by omega
    have k2:w.heap.size<w3.heap.size:=by omega
    clear h1 h2 ht ht2 hc hf hc2 hf2
    (try (have hv:w2.cell? ⟨w1.heap.size+1,0,none⟩=some (.bool false)/\w2.cell? ⟨w1.heap.size+1,1,none⟩=some (.string ⟨#[]⟩)/\w2.cell? ⟨w1.heap.size+1,2,none⟩=some (.int .i64 0):=by with_reducible exact vU hb2))
    have h4:Below w.heap.size w w3:=((Ji _ _).alloc (Jh _) _).trans (h3.mono (KD _));clear h3
    go_wp2
    refine Ju (v:=.tuple #[gr (Nm.parse s.data.toList).1,EX (Nm.parse s.data.toList).2]) ?_ rfl ⟨rfl,?_⟩
    .rw[HE'.out];simp[results,Tryz.results76,go_sem,r0,r1,r2,k2,EX,Nm.Num.zero]
    .with_reducible first|exact Below.alloc (ae (ae (ae h4 (Jh _) _ _) (Jh _) _ _) (Jh _) _ _) (by simp;omega) _|(refine ae (ae (ae (ae (ae (ae h4 ?_ _ _) ?_ _ _) ?_ _ _) ?_ _ _) ?_ _ _) ?_ _ _<;>omega)
theorem AD(k:Int)(w:World)(h0: -9223372036854775808<=k)(h1:k<=9223372036854775807)(htab:Tab w):
  Calls Tryz.prog 42 #[.int .i64 k] w λe w'=>e=.returned (gr (Nm.parse (Lib.itoa k)).1)/\Below w.heap.size w w':=by
 have HT:=Jf htab;clear htab;go_enter Tryz.func42,Tryz.ntmps42;go_wp2_with fail;refine(Tryz.strconv_Itoa _ h0 h1 _ (HT.out.keep ((Ji _ _).alloc (Jh _) _))).mono ?_;rintro e w1 ⟨rfl,k4,os4,rfl⟩;have hb1:=below_grow (w.alloc (.cells #[false,.string ⟨#[]⟩,.int .i64 0] 27)) k4 os4;generalize Sort.grow _ os4=w1 at hb1 ⊢;have hz1:=hb1.size;simp at hz1;go_wp2_with fail;refine(DD _ _ (by rw[K7];have:=M9 k h0 h1;omega)).mono ?_;rw[show(⟨(Lib.itoa k).toArray⟩:ByteArray).data.toList=Lib.itoa k from rfl];rintro e w2 ⟨rfl,hb2⟩;have hz2:=hb2.size;generalize hp:Nm.parse (Lib.itoa k)=r;have HP:=Jf hp;clear hp;obtain⟨⟨nn,nd,nx⟩,nc⟩:=r;have h3:Below (w.heap.size+1) (w.alloc (.cells #[false,.string ⟨#[]⟩,.int .i64 0] 27)) w2:=(hb1.mono (by simp)).trans (hb2.mono (by omega));obtain⟨r0,r1,r2,r3⟩:=fF h3;have k2:w.heap.size<w2.heap.size:=by omega
 have h4:Below w.heap.size w w2:=((Ji _ _).alloc (Jh _) _).trans (h3.mono (KD _));clear h3 hb1 hb2
 go_wp2
 refine Ju (v:=gr (Nm.parse (Lib.itoa k)).1) ?_ rfl ⟨rfl,?_⟩
 .rw[HP.out];simp[results,Tryz.results42,go_sem,r0,r1,r2,k2]
 .exact Below.alloc (ae (ae (ae h4 (Jh _) _ _) (Jh _) _ _) (Jh _) _ _) (by simp;omega) _
end
