import Derived.Test.YtdhgmaonolgpnaaGreatDoorRows
import Derived.Test.YtdhgmaonolgpnaaGreatDoorMa
import Derived.WalkSpells
import Derived.WalkLawsBesides
import Derived.BigQuiet
import Derived.Test.YtdhgmaonolgpnaaGreatDoorShelf
import Derived.Deep.RegionHeld3
set_option linter.unusedSimpArgs false
set_option maxHeartbeats 400000
namespace Go.Proofs.YtdhgmaonolgpnaaGreatDoor
section
open Go.RowKit
theorem fK(s:ByteArray)(w:World)(hs:s.size<=maxLen):
  Calls Tryz.prog 139 #[.string s] w λe w'=>e=.returned (.tuple #[.string ⟨(Nm.pre s.data.toList).toArray⟩,.string ⟨(Nm.suf s.data.toList).toArray⟩])/\w'=w.drew:=by
 unfold maxLen at hs;go_enter Tryz.func139,Tryz.ntmps139
 go_wp2
 go_loop [4] (λi=>∃k:Nat,k<=s.size/\i=.int .i64 k/\∀(j:Nat) b,j<k->s.data.toList[j]? =some b->Nm.dig b=true) (λi=>s.size-(intOf i).toNat)
 case atStart=>exact⟨0,JE _,rfl,λj b hj=>absurd hj (Kt _)⟩
 case round=>
  obtain⟨k,hk,rfl,hc⟩:=hrel;have hK:Lib.Kept (∀(j:Nat) b,j<k->s.data.toList[j]? =some b->Nm.dig b=true):=hc;clear hc;by_cases hlt:k<s.size
  .have hg:Lib.Kept (s.data.toList[k]? =some s[k]):=by rw[Jg (by rw[<-Lib.size_eq];exact hlt)];rfl
   by_cases hd:Nm.dig s[k]=true
   .have hd':=hd;simp only[Nm.dig,JH,JF] at hd';obtain⟨hd1,hd2⟩:=hd';have HD:=Jf hd;clear hd
    go_wp2
    go_round
    case rel=>exact⟨k+1,by omega,by go_num,λj b hj hb=>(by
     by_cases e:j=k
     .subst e;rw[hg] at hb;rw[<-Option.some.inj hb];exact HD.out
     .exact hK j b (by omega) hb)⟩
    case measure=>simp[intOf];omega
   .have hp:=Nm.dW Nm.dig s.data.toList k (by rw[<-Lib.size_eq];omega) hK (λb hb=>by rw[hg] at hb;rw[<-Option.some.inj hb];simpa using hd);have HP:=Jf hp;clear hp;have hd':s[k].toNat<48\/57<s[k].toNat:=by
     simp only[Nm.dig,JH,JF] at hd;omega
    clear hd;rcases hd' with hd'|hd';all_goals
     go_wp2
     go_region
     go_wp2
     go_ret2
     refine⟨?_,rfl⟩;show Ending.returned (Value.tuple #[Value.string (s.extract 0 k),Value.string (s.extract k s.size)])=_;rw[Lib.extract_upto,Mn,Nm.pre,Nm.suf,HP.out.1,HP.out.2]
  .have hp:=Nm.dW Nm.dig s.data.toList k (by rw[<-Lib.size_eq];omega) hK (λb hb=>by rw[Kb (by rw[<-Lib.size_eq];omega)] at hb;cases hb);have HP:=Jf hp;clear hp
   go_wp2
   go_region
   go_wp2
   go_ret2
   refine⟨?_,rfl⟩;show Ending.returned (Value.tuple #[Value.string (s.extract 0 k),Value.string (s.extract k s.size)])=_;rw[Lib.extract_upto,Mn,Nm.pre,Nm.suf,HP.out.1,HP.out.2]
theorem oS(s:ByteArray)(w:World)(hs:s.size<=maxLen):
  Calls Tryz.prog 140 #[.string s] w λe w'=>e=.returned (.tuple #[.bool (Nm.sgn s.data.toList),.string ⟨(Nm.aU s.data.toList).toArray⟩])/\∃n,w'=w.drewN n:=by
 unfold maxLen at hs;by_cases h0:0<s.size
 .have hl:=Nm.qO s h0;have HL:=Jf hl;clear hl;have e0:=Nm.uA s h0;have e1:=Nm.E0 s h0;by_cases c45:s[0]=45
  .have b45:((s[0].toNat:Int)==45)=true:=Nm.dL c45;have C45:=Jf c45;clear c45;go_enter Tryz.func140,Tryz.ntmps140
   go_wp2
   go_region
   go_wp2
   go_ret2
   refine⟨?_,1,rfl⟩;show Ending.returned (Value.tuple #[Value.bool _,Value.string (s.extract 1 s.size)])=_;rw[Mn,HL.out];simp[Nm.sgn,Nm.aU,C45.out]
  .have b45:((s[0].toNat:Int)==45)=false:=Nm.bw c45;have C45:=Jf c45;clear c45;by_cases c43:s[0]=43
   .have b43:((s[0].toNat:Int)==43)=true:=Nm.dL c43;have C43:=Jf c43;clear c43;go_enter Tryz.func140,Tryz.ntmps140
    go_wp2
    go_region
    go_wp2
    go_ret2
    refine⟨?_,1,rfl⟩;show Ending.returned (Value.tuple #[Value.bool _,Value.string (s.extract 1 s.size)])=_;rw[Mn,HL.out];simp[Nm.sgn,Nm.aU,C43.out]
   .have b43:((s[0].toNat:Int)==43)=false:=Nm.bw c43;have C43:=Jf c43;clear c43;go_enter Tryz.func140,Tryz.ntmps140
    go_wp2
    go_ret2
    refine⟨?_,0,rfl⟩;show Ending.returned (Value.tuple #[Value.bool false,Value.string s])=_;rw[HL.out];simp only[Nm.sgn,Nm.aU,C45.out,C43.out,or_self,Kq];rw[<-HL.out,Lib.mk_data];simp[C45.out]
 .have e0:=Nm.ua s h0;have e2:=Jf (Nm.Du s h0);go_enter Tryz.func140,Tryz.ntmps140
  go_wp2
  go_ret2
  refine⟨?_,0,rfl⟩;show Ending.returned (Value.tuple #[Value.bool false,Value.string s])=_;rw[e2.out];simp only[Nm.sgn,Nm.aU];rw[<-e2.out,Lib.mk_data]
theorem Ek(neg:Bool)(ds:Jd)(x:Int)(w:World):
  Calls Tryz.prog 100 #[.agg #[.bool neg,.string ⟨ds.toArray⟩,.int .i64 x]] w λe w'=>e=.returned (.bool (decide (0<=x)))/\Below w.heap.size w w':=by
 go_enter Tryz.func100,Tryz.ntmps100
 go_wp2
 go_ret;exact⟨rfl,(Ji _ _).alloc (Jh _) _⟩
theorem G5(neg:Bool)(ds:Jd)(x:Int)(w:World):
  Calls Tryz.prog 73 #[.agg #[.bool neg,.string ⟨ds.toArray⟩,.int .i64 x]] w λe w'=>e=.returned (.int .i64 (Nm.sign ⟨neg,ds,x⟩))/\Below w.heap.size w w':=by
 cases ds with
 |nil=>
  go_enter Tryz.func73,Tryz.ntmps73
  go_wp2
  go_ret;exact⟨rfl,(Ji _ _).alloc (Jh _) _⟩
 |cons c r=>
  cases neg;all_goals
   go_enter Tryz.func73,Tryz.ntmps73
   go_wp2
   go_ret;exact⟨rfl,(Ji _ _).alloc (Jh _) _⟩
theorem oQ(na:Bool)(da:Jd)(xa:Int)(nb:Bool)(db:Jd)(xb:Int)(w:World)(ha:Nm.Fair ⟨na,da,xa⟩)(hb:Nm.Fair ⟨nb,db,xb⟩):
  Calls Tryz.prog 74 #[.agg #[.bool na,.string ⟨da.toArray⟩,.int .i64 xa],.agg #[.bool nb,.string ⟨db.toArray⟩,.int .i64 xb]] w λe w'=>e=.returned (.int .i64 (Nm.aK ⟨na,da,xa⟩ ⟨nb,db,xb⟩))/\Below w.heap.size w w':=by
 obtain⟨ha1,ha2,ha3⟩:=ha;obtain⟨hb1,hb2,hb3⟩:=hb;simp only at ha1 ha2 ha3 hb1 hb2 hb3;go_enter Tryz.func74,Tryz.ntmps74;go_wp2_with fail;refine(Tryz.cmp_Compare_int _ _ _).mono ?_;rintro e w' ⟨rfl,rfl⟩;generalize hc:Lib.compareInt (↑da.length+xa) (↑db.length+xb)=c;have HC:=Jf hc;clear hc;by_cases h0:c=0
 .subst h0;go_wp2_with fail;refine(Tryz.strings_Compare _ _ _).mono ?_;rintro e w' ⟨rfl,rfl⟩
  go_wp2
  go_ret;refine⟨?_,((Ji _ _).alloc (Jh _) _).alloc (by simp) _⟩;simp[Nm.aK,HC.out]
 .have h1:(c==0)=false:=by simpa using h0
  have h2:(c !=0)=true:=by simpa using h0
  have H0:=Jf h0;clear h0
  go_wp2
  go_ret;refine⟨?_,((Ji _ _).alloc (Jh _) _).alloc (by simp) _⟩;simp[Nm.aK,HC.out,H0.out]
theorem aY(w:World)(o1 o2:Obj):Below w.heap.size w ((w.alloc o1).alloc o2):=((Ji _ _).alloc (Jh _) _).alloc (by simp) _
theorem cE(w:World)(o1 o2:Obj):Below w.heap.size w ((w.alloc o1).alloc o2).drew:=(aY w o1 o2).drew
theorem dp(w:World)(o1 o2:Obj):Below w.heap.size w ((w.alloc o1).alloc o2).drew.drew:=(aY w o1 o2).drew.drew
theorem dr(w:World)(o1 o2:Obj)(n:Nat):Below w.heap.size w (((w.alloc o1).alloc o2).drewN n):=below_drewN (aY w o1 o2) n
theorem ae{w W:World}(h:Below w.heap.size w W){b:Nat}(hb:w.heap.size<=b)(o:Nat)(v:Value):Below w.heap.size w (W.setCell ⟨b,o,none⟩ v):=h.setCell hb v
theorem wR{W w1:World}(hb:Below W.heap.size W w1):(∀b o,b<W.heap.size->w1.cell? ⟨b,o,none⟩=W.cell? ⟨b,o,none⟩)/\(∀b o,b<W.heap.size->w1.frozen? ⟨b,o,none⟩=W.frozen? ⟨b,o,none⟩):=
 ⟨λb o h=>hb.cell (p:=⟨b,o,none⟩) h,λb o h=>hb.frozen (p:=⟨b,o,none⟩) h⟩
def eT(w:World)(b:Nat)(n:Bool)(d:Jd)(x:Int):Prop:=
 w.cell? ⟨b,0,none⟩=some (.bool n)/\w.cell? ⟨b,1,none⟩=some (.string ⟨d.toArray⟩)/\w.cell? ⟨b,2,none⟩=some (.int .i64 x)
theorem eT.keep{W w1:World}{b:Nat}{n:Bool}{d:Jd}{x:Int}{k:Nat}(h:eT W b n d x)(hb:Below k W w1)(hk:b<k):eT w1 b n d x:=
 ⟨(hb.cell (p:=⟨b,0,none⟩) hk).trans h.1,(hb.cell (p:=⟨b,1,none⟩) hk).trans h.2.1,(hb.cell (p:=⟨b,2,none⟩) hk).trans h.2.2⟩
def kI(w:World)(na:Bool)(da:Jd)(xa:Int)(nb:Bool)(db:Jd)(xb:Int)(w':World):Prop:=
 (w'.cell? ⟨w.heap.size,0,none⟩=some (.bool na)/\w'.cell? ⟨w.heap.size,1,none⟩=some (.string ⟨da.toArray⟩)/\w'.cell? ⟨w.heap.size,2,none⟩=some (.int .i64 xa))/\
  (w'.cell? ⟨w.heap.size+1,0,none⟩=some (.bool nb)/\w'.cell? ⟨w.heap.size+1,1,none⟩=some (.string ⟨db.toArray⟩)/\w'.cell? ⟨w.heap.size+1,2,none⟩=some (.int .i64 xb))/\Below w.heap.size w w'/\w.heap.size+2<=w'.heap.size
theorem kI.keep{w:World}{na:Bool}{da:Jd}{xa:Int}{nb:Bool}{db:Jd}{xb:Int}{W w1:World}(h:kI w na da xa nb db xb W)(hb:Below W.heap.size W w1):kI w na da xa nb db xb w1:=by
 obtain⟨h1,h2,h3,h4⟩:=h;exact⟨eT.keep h1 hb (by omega),eT.keep h2 hb (by omega),h3.trans (hb.mono (by omega)),by have:=hb.size;omega⟩
theorem kI.start(w:World)(na:Bool)(da:Jd)(xa:Int)(nb:Bool)(db:Jd)(xb:Int)(t:TypeId):
  kI w na da xa nb db xb ((w.alloc (.cells #[na,da,.int .i64 xa] t)).alloc (.cells #[nb,db,.int .i64 xb] t)).drew:=by
 refine⟨⟨?_,?_,?_⟩,⟨?_,?_,?_⟩,(((Ji _ _).alloc (Jh _) _).alloc (by simp) _).drew,by simp⟩<;>simp
theorem jQ(na:Bool)(da:Jd)(xa:Int)(nb:Bool)(db:Jd)(xb:Int)(w:World)(ha:Nm.Fair ⟨na,da,xa⟩)(hb:Nm.Fair ⟨nb,db,xb⟩):
  Calls Tryz.prog 40 #[.agg #[.bool na,.string ⟨da.toArray⟩,.int .i64 xa],.agg #[.bool nb,.string ⟨db.toArray⟩,.int .i64 xb]] w λe w'=>e=.returned (.int .i64 (Nm.cmp ⟨na,da,xa⟩ ⟨nb,db,xb⟩))/\Below w.heap.size w w':=by
 have HA:=Jf ha;have HB:=Jf hb;clear ha hb;go_enter Tryz.func40,Tryz.ntmps40;go_wp2_with fail
 go_region_held3 (λw'=>(w'.cell? ⟨w.heap.size,0,none⟩=some (.bool na)/\w'.cell? ⟨w.heap.size,1,none⟩=some (.string ⟨da.toArray⟩)/\w'.cell? ⟨w.heap.size,2,none⟩=some (.int .i64 xa))/\
  (w'.cell? ⟨w.heap.size+1,0,none⟩=some (.bool nb)/\w'.cell? ⟨w.heap.size+1,1,none⟩=some (.string ⟨db.toArray⟩)/\w'.cell? ⟨w.heap.size+1,2,none⟩=some (.int .i64 xb))/\Below w.heap.size w w'/\w.heap.size+2<=w'.heap.size)
  (first|exact hs|exact kI.start w na da xa nb db xb _)
  (first|(go_at_call 73;refine(G5 _ _ _ _).mono ?_;rintro e w' ⟨rfl,hb⟩;have hs:=kI.keep (w:=w) (na:=na) (da:=da) (xa:=xa) (nb:=nb) (db:=db) (xb:=xb) (by first|exact hs|exact kI.start w na da xa nb db xb _) hb;clear hb)|(go_at_call 72;refine(Tryz.cmp_Compare_int _ _ _).mono ?_;rintro e w' ⟨rfl,rfl⟩))
 obtain⟨⟨a1,a2,a3⟩,⟨b1,b2,b3⟩,hbl,hsz⟩:=hs;generalize hc:Lib.compareInt (Nm.sign ⟨na,da,xa⟩) (Nm.sign ⟨nb,db,xb⟩)=c;have HC:=Jf hc;clear hc;by_cases h0:c=0
 .subst h0;cases na
  .go_wp2_with fail;refine(oQ _ _ _ _ _ _ _ HA.out HB.out).mono ?_;rintro e w2 ⟨rfl,hb2⟩
   go_wp2
   go_ret;refine⟨?_,hbl.trans (hb2.mono (by omega))⟩;simp[Nm.cmp,HC.out]
  .go_wp2_with fail;refine(oQ _ _ _ _ _ _ _ HB.out HA.out).mono ?_;rintro e w2 ⟨rfl,hb2⟩
   go_wp2
   go_ret;refine⟨?_,hbl.trans (hb2.mono (by omega))⟩;simp[Nm.cmp,HC.out]
 .have h1:(c==0)=false:=by simpa using h0
  have h2:(c !=0)=true:=by simpa using h0
  have H0:=Jf h0;clear h0
  go_wp2
  go_ret;refine⟨?_,hbl⟩;simp[Nm.cmp,HC.out,H0.out]
end
