import Derived.Test.YtdhgmaonolgpnaaGreatDoorEa
set_option linter.unusedSimpArgs false
set_option linter.unusedVariables false
set_option maxHeartbeats 9000000
set_option maxRecDepth 100000
namespace Go.Proofs.YtdhgmaonolgpnaaGreatDoor
section
open Go.RowKit Js Pt
def Es(r:Cm.Res (List Cm.Node))(w:World)(e:Ending)(w':World):Prop:=
 Below w.heap.size w w'/\((∃(a:List Cm.Node) (A:Option Addr) (cp:Nat),r=.ok a/\e=.returned (.tuple #[.slice A a.length cp,.int .i64 0,.string ⟨#[]⟩])/\SlN w'.cell? A a/\a.length<=cp/\cp<=maxLen)\/
  (∃(c:Nat) (p:Cm.Names),r=.bad c p/\¬c=0/\c<=14/\e=.returned (.tuple #[.slice none 0 0,.int .i64 c,.string ⟨(text p).toArray⟩])))
def Cr(w:World)(A5:Option Addr)(c5:Nat)(os:List Cm.Node)(W:World):Prop:=
 Below w.heap.size w W/\bI ItN 39 4 (λ_=>False) W w.heap.size A5 c5 os
theorem Cr.on{w:World}{A5:Option Addr}{c5:Nat}{os:List Cm.Node}{W W':World}(h:Cr w A5 c5 os W)(hb:Below W.heap.size W W'):Cr w A5 c5 os W':=
 ⟨h.1.trans (hb.mono h.1.size),bI.but (It:=ItN) (λh=>ItN.mono h) h.2 (But.of hb) (λ_ _ k=>k) (λ_ _ k=>k)⟩
structure LkW (wi:World) (A5:Option Addr) (ns:Array Value) (Ak:Option Addr) (ck:Nat) (ks:List Cm.Key) (W:World):Prop where
 below:Below wi.heap.size wi W
 box:Blk W wi.heap.size 39 ns
 keys:bI dh 68 10 (λb=>b=wi.heap.size\/Bk A5 b) W (wi.heap.size+1) Ak ck ks
 old:∀b,Bk A5 b->b<wi.heap.size
section
variable {wi:World} {A5:Option Addr} {ns:Array Value} {Ak:Option Addr} {ck:Nat} {ks:List Cm.Key} {W W':World}
theorem LkW.ij(h:LkW wi A5 ns Ak ck ks W){b:Nat}(e:Bk Ak b):wi.heap.size<b/\b<W.heap.size/\¬(b=wi.heap.size\/Bk A5 b):=by
 obtain⟨ad,e,rfl⟩:=e;obtain⟨g,rfl,hg,hl⟩:=h.keys.le.2.2 ad e;refine⟨hg,hl,?_⟩;rintro(k|k)
 .simp only at k;omega
 .have:=h.old _ k;simp only at this;omega
theorem LkW.on(h:LkW wi A5 ns Ak ck ks W)(hb:Below W.heap.size W W'):LkW wi A5 ns Ak ck ks W':=
 ⟨h.below.trans (hb.mono h.below.size),h.box.on hb,bI.but (It:=dh) (λh=>dh.mono h) h.keys (But.of hb) (λad e=>(h.ij ⟨ad,e,rfl⟩).2.2) (λ_ _ k=>k),h.old⟩
theorem LkW.push(h:LkW wi A5 ns Ak ck ks W){k:Nat}(hk:ks.length=k){Rn:Nat->Prop}{K:Cm.Key}{kcs:List Value}(hRn:∀b,Rn b->b<W.heap.size/\¬(b=wi.heap.size\/Bk A5 b)/\∀ad,Ak=some ad->b≠ad.block)(hit:dh (W.on Rn) K kcs)(h1:∀u∈kcs,u.oneCell'=true)(h10:kcs.length=10):
  ∃flat,W.ownsRow (wi.heap.size+1) 68 10 (.slice Ak k ck) k flat/\∀(w6:World) (g cap:Nat),w6.ownsRow (wi.heap.size+1) 68 10 (.slice (some ⟨g,0,none⟩) (k+1) cap) (k+1) (flat++kcs)->W.grownBy w6 (Value.slice Ak k ck).ownBlock->((Value.slice Ak k ck).ownBlock=some g\/g=W.heap.size)->
   LkW wi A5 ns (some ⟨g,0,none⟩) cap (ks++[K]) w6:=by
 obtain⟨flat,hown,hpush⟩:=bI.push (It:=dh) (λh=>dh.mono h) hk h.keys;refine⟨flat,hown,λw6 g cap h6 hg hat=>?_⟩;have hrow:=hpush hit hRn h1 h10 h6 hg hat;have hown2:∀b,b<wi.heap.size+1->some b≠(Value.slice Ak k ck).ownBlock:=λb hb e=>by
  cases Ak with
  |none=>cases e
  |some ad=>
   have:=(h.ij ⟨ad,rfl,rfl⟩).1;have e2:b=ad.block:=by simpa[Value.ownBlock] using e
   omega
 have hws:=h.box.lt;exact⟨⟨hg.os.trans h.below.os,hg.tape.trans h.below.tape,hg.output.trans h.below.output,JA h.below.size hg.size,λb hb=>(hg.block b (by omega) (hown2 b (by omega))).trans (h.below.block b hb)⟩,(hg.block _ hws (hown2 _ (by omega))).trans h.box,hrow,h.old⟩
end
theorem IK{A:Option Addr}{n c q:Nat}(h:(Value.slice A n c).ownBlock=some q):Bk A q:=by
 cases A with
 |none=>cases h
 |some ad=>exact⟨ad,rfl,by simpa[Value.ownBlock] using h.symm⟩
def atI:Option Nat->Int
 |none=> -1
 |some j=>(j:Int)
theorem Ir{c:Cl}{v:Vl}{k:Int}{b neg:Bool}{dg:Jd}{ex:Int}{s:Jd}{lv mv:Value}(h:v.In c (.agg #[.int .i64 k,b,neg,dg,.int .i64 ex,s,lv,mv])):Sh.strOf v=s:=by
 obtain⟨k',b',n',s',l',m'⟩:=v;obtain⟨A,e,B,d,he,_⟩:=In.form h;unfold vlV at he;simp at he;exact he.2.2.2.2.2.1.symm
theorem yx(l:List Cm.Node)(A:Option Addr)(cA:Nat)(w:World)(hs:SlN w.cell? A l)(h1:l.length<=cA)(h2:cA<=maxLen)(hl:l.length<=1000)(hin:Cm.fS l)(hk:∀N∈l,N.keys.length<=1000000)(ht:∀N∈l,(text N.at_).length<=10000000000000):
  Calls Tryz.prog 25 #[.slice A l.length cA] w (Es (Cm.link l) w):=by
 have HS:=Jf hs;have HIN:=Jf hin;have HKL:=Jf hk;have HTL:=Jf ht;unfold maxLen at h2;clear hs hin hk ht;go_enter Tryz.func25,Tryz.ntmps25;go_wp2_with fail
 go_loopw [5,6] (λo5 i6 wr=>∃(i:Nat) (A5:Option Addr) (c5:Nat) (os:List Cm.Node),o5=.slice A5 i c5/\i6=.int .i64 i/\i<=l.length/\os.length=i/\Cr w A5 c5 os wr/\Cm.aq l (l.take i)=.ok os) (λ_ i6 _=>l.length-(intOf i6).toNat)
 case atStart=>exact⟨0,none,0,[],rfl,rfl,JE _,rfl,⟨Ji _ _,bI.nil _ _⟩,rfl⟩
 case round=>
  obtain⟨i,A5,c5,os,rfl,rfl,hi,hos,hout,hlk⟩:=hrel;have HOUT:=Jf hout;have HLK:=Jf hlk;have HOS:=Jf hos;clear hout hlk hos;by_cases hlt:i<l.length
  .obtain⟨g,o,cs,rfl,⟨A2,c2,rfl,hk2,hl2,hm2⟩,hcN⟩:=HS.out i _ (Jg hlt);have e0:=(aa HOUT.out.1) _ _ (hcN 0 _ rfl);have e1:=(aa HOUT.out.1) _ _ (hcN 1 _ rfl);have e2:=(aa HOUT.out.1) _ _ (hcN 2 _ rfl);have e3:=(aa HOUT.out.1) _ _ (hcN 3 _ rfl);have hgl:=Jn _ _ e0;have HKY:=Jf hk2;have HLN:=Jf (Cm.rD hlt HLK.out);have hkl:=HKL.out _ (Jv hlt);have htl:=HTL.out _ (Jv hlt);have hii:(i:Int)<(l.length:Int):=by omega
   simp only[Kx] at e0;clear hk2 hcN;generalize l[i]'hlt=N at*
   obtain⟨P,nall,npass,keys⟩:=N;simp only at hl2 e0 e1 e2 e3 HKY HLN hkl htl;unfold maxLen at hm2;have HLW:=Jf (show LkW wr A5 #[.string ⟨(text P).toArray⟩,nall,npass,.slice A2 keys.length c2] none 0 [] (wr.alloc (.cells #[.string ⟨(text P).toArray⟩,nall,npass,.slice A2 keys.length c2] 39)) from
    ⟨(Ji _ _).alloc (Jh _) _,Blk.new wr _ _,bI.nil _ _,λb hb=>by
      obtain⟨ad,e,rfl⟩:=hb
      obtain⟨g,rfl,_,hl⟩:=HOUT.out.2.le.2.2 ad e
      exact hl⟩)
   go_upto_region 7 with(fail);generalize wr.alloc (.cells #[.string ⟨(text P).toArray⟩,nall,npass,.slice A2 keys.length c2] 39)=wb at*
   obtain⟨wi,hwi⟩:∃W,W=wr:=⟨_,rfl⟩;subst hwi;clear e0 e1 e2 e3 hgl;go_wp2_with fail
   go_loopw [8,9] (λo8 i9 wr=>∃(k:Nat) (Ak:Option Addr) (ck:Nat) (ks:List Cm.Key),o8=.slice Ak k ck/\i9=.int .i64 k/\k<=keys.length/\ks.length=k/\LkW wi A5 #[.string ⟨(text P).toArray⟩,nall,npass,.slice A2 keys.length c2] Ak ck ks wr/\Cm.aw l P (keys.take k)=.ok ks) (λ_ i9 _=>keys.length-(intOf i9).toNat)
   case atStart=>exact⟨0,none,0,[],rfl,rfl,JE _,rfl,HLW.out,rfl⟩
   case round=>
    obtain⟨k,Ak,ck,ks,rfl,rfl,hkq,hks,hlw,hlks⟩:=hrel;have HW2:=Jf hlw;have HLKS:=Jf hlks;have HKS:=Jf hks;have b3:=hlw.box.cell 3;have b0:=hlw.box.cell 0;have hbl:=hlw.box.lt;clear hlw hlks hks;by_cases hkl2:k<keys.length
    .have HWR:=Jf (HOUT.out.1.trans (HW2.out.below.mono HOUT.out.1.size));obtain⟨g3,o3,cs3,rfl,hi3,hc3⟩:=HKY.out k _ (Jg hkl2);obtain⟨j_1,j_2,j_3,j_4,j_5,j_6,j_7,j_8,j_9,j_a,j_b,j_c,A4,c4,rfl,hv3,hk4,hl4,hm4⟩:=hi3.cells;have d0:wr.cell? ⟨g3,o3+k*10,none⟩=_:=(aa HWR.out) _ _ (hc3 0 _ rfl);have d1:wr.cell? ⟨g3,o3+k*10+1,none⟩=_:=(aa HWR.out) _ _ (hc3 1 _ rfl);have d2:wr.cell? ⟨g3,o3+k*10+2,none⟩=_:=(aa HWR.out) _ _ (hc3 2 _ rfl);have d3:wr.cell? ⟨g3,o3+k*10+3,none⟩=_:=(aa HWR.out) _ _ (hc3 3 _ rfl);have d4:wr.cell? ⟨g3,o3+k*10+4,none⟩=_:=(aa HWR.out) _ _ (hc3 4 _ rfl);have d5:wr.cell? ⟨g3,o3+k*10+5,none⟩=_:=(aa HWR.out) _ _ (hc3 5 _ rfl);have d6:wr.cell? ⟨g3,o3+k*10+6,none⟩=_:=(aa HWR.out) _ _ (hc3 6 _ rfl);have d7:wr.cell? ⟨g3,o3+k*10+7,none⟩=_:=(aa HWR.out) _ _ (hc3 7 _ rfl);have d8:wr.cell? ⟨g3,o3+k*10+8,none⟩=_:=(aa HWR.out) _ _ (hc3 8 _ rfl);have d9:wr.cell? ⟨g3,o3+k*10+9,none⟩=_:=(aa HWR.out) _ _ (hc3 9 _ rfl);have HV3:=Jf hv3;have HK4:=Jf hk4;have HNX:=Jf (Cm.ti hkl2 HLKS.out);have hkqi:(k:Int)<(keys.length:Int):=by omega
     have hgl3:=Jn _ _ d0;clear hi3 hc3 hv3 hk4;generalize keys[k]'hkl2=K at*
     obtain⟨nm,kv,kids⟩:=K;simp only at hl4 HV3 HK4 HNX d0 d9;unfold maxLen at hm4;have hb1:=(Ji wr.heap.size wr).alloc (Jh _) (.cells #[nm,.int .i64 j_1,j_2,j_3,j_4,.int .i64 j_5,j_6,.slice j_7 j_8 j_9,.slice j_a j_b j_c,.slice A4 kids.length c4] 68);have HWK:=Jf (HW2.out.on hb1);have HKB:=Jf (Blk.new wr 68 #[nm,.int .i64 j_1,j_2,j_3,j_4,.int .i64 j_5,j_6,.slice j_7 j_8 j_9,.slice j_a j_b j_c,.slice A4 kids.length c4]);have HWW:=Jf (HWR.out.trans (hb1.mono HWR.out.size));have HWI:=Jf (show w.heap.size<=wi.heap.size from HOUT.out.1.size);have HBK:=Jf hb1;clear hb1;go_upto_region 11 with(fail);generalize wr.alloc (.cells #[nm,.int .i64 j_1,j_2,j_3,j_4,.int .i64 j_5,j_6,.slice j_7 j_8 j_9,.slice j_a j_b j_c,.slice A4 kids.length c4] 68)=wk at*
     obtain⟨gk,hgk⟩:∃gk,wr.heap.size=gk:=⟨_,rfl⟩;rw[hgk] at HKB ⊢;have HGK:=Jf (show wi.heap.size<gk by have:=HW2.out.box.lt;omega);have HGE:=Jf hgk;clear d0 d1 d2 d3 d4 d5 d6 d7 d8 d9 hgl3 b3 b0 hbl hgk;obtain⟨wr0,hwr0⟩:∃W,W=wr:=⟨_,rfl⟩;subst hwr0;obtain⟨z0,z1,z2,z3,z4,z5,z6,z7,z8,z9⟩:=HKB.out.ten;have hzl:=HKB.out.lt;by_cases hnm:nm=[36,114,101,102]
     .have HSTR:=Jf (Ir HV3.out);have HLK1:=Jf (show Cm.dM l P ⟨nm,kv,kids⟩=match Cm.jJ l j_6 l.length with
       |none=>.bad 12 (P++[Cm.eD])
       |some q=>.ok ⟨nm,kv,[([],q)]⟩ by
        unfold Cm.dM;rw[Jo (show(Cm.Key.mk nm kv kids).name=Cm.eD from hnm),show Sh.strOf (Cm.Key.mk nm kv kids).v=j_6 from HSTR.out];rfl)
      have hnb:(nm==[36,114,101,102])=true:=by simpa using hnm
      have HNM:=Jf hnm;clear hnm HSTR;obtain⟨wk0,hwk0⟩:∃W,W=wk:=⟨_,rfl⟩;subst hwk0;go_wp2_with fail
      go_loopw [11,12] (λa11 j12 wr=>∃q:Nat,q<=l.length/\j12=.int .i64 q/\a11=.int .i64 (atI (Cm.jJ l j_6 q))/\Below wk0.heap.size wk0 wr) (λ_ j12 _=>l.length-(intOf j12).toNat)
      case atStart=>exact⟨0,by omega,rfl,rfl,Ji _ _⟩
      case round=>
       obtain⟨q,hq,rfl,rfl,hbq⟩:=hrel;have HBQ:=Jf hbq;have HKQ:=Jf (HKB.out.on hbq);clear hbq z0 z1 z2 z3 z4 z5 z6 z7 z8 z9 hzl;obtain⟨z0,z1,z2,z3,z4,z5,z6,z7,z8,z9⟩:=HKQ.out.ten;have hzl:=HKQ.out.lt;by_cases hql:q<l.length
       .obtain⟨g7,o7,cs7,hA7,⟨A7,c7,rfl,_,_,_⟩,hc7⟩:=HS.out q _ (Jg hql);injection hA7 with hA7;injection hA7 with e71 e72 _;subst e71 e72;have y0:=(aa (HWW.out.trans (HBQ.out.mono HWW.out.size))) _ _ (hc7 0 _ rfl);have hyl:=Jn _ _ y0;have HRN:=Jf (Cm.AM (s:=j_6) (Jg hql));have htq:=HTL.out _ (Jv hql);have hqi:(q:Int)<(l.length:Int):=by omega
        simp only[Kx] at y0;clear hc7;generalize text (l[q]'hql).at_=tq at*
        have hcat:∀W,(Op.stringOp .add ⟨#[35]⟩ ⟨tq.toArray⟩).run Tryz.prog W=.ok (.string ⟨(35::tq).toArray⟩) W:=λW=>bR W [35] tq (by simp;omega);by_cases he:j_6=35::tq
        .have heb:(j_6==35::tq)=true:=by simpa using he
         have HE:=Jf (show Cm.jJ l j_6 (q+1)=some q by rw[HRN.out,Jo he]);clear he;go_upto_region 16 with(fail);go_quiet (fail);go_wp2_with fail;go_roundw;case rel=>exact⟨q+1,by omega,by go_num,by rw[HE.out];rfl,below_drewN HBQ.out _⟩
         case measure=>simp[intOf];omega
        .have heb:(j_6==35::tq)=false:=by simpa using he
         have HE:=Jf (show Cm.jJ l j_6 (q+1)=Cm.jJ l j_6 q by rw[HRN.out,Jj he]);clear he;go_upto_region 16 with(fail);go_quiet (fail);go_wp2_with fail;go_roundw;case rel=>exact⟨q+1,by omega,by go_num,by rw[HE.out],below_drewN HBQ.out _⟩
         case measure=>simp[intOf];omega
       .obtain rfl:q=l.length:=by omega
        obtain⟨at_,hat⟩:∃a,Cm.jJ l j_6 l.length=a:=⟨_,rfl⟩;rw[hat] at HLK1 ⊢;have HAT:=Jf hat;clear hat;cases at_ with
        |none=>
         have HBD:=Jf (HLN.out.2 _ _ (HNX.out.2 _ _ HLK1.out));have HLB:=Jf (HW2.out.on (HBK.out.trans (HBQ.out.mono HBK.out.size)));have HWQ:=Jf (HOUT.out.1.trans (HLB.out.below.mono HOUT.out.1.size));rw[show atI none= -1 from rfl];go_upto_region 19 with(fail);refine JT (S:=λW9=>Blk W9 wi.heap.size 39 #[.string ⟨(text P).toArray⟩,nall,npass,.slice (some ⟨g3,o3,none⟩) keys.length c2]) (by kernel_rfl) HLB.out.box (λht=>?_);have HD:=Jf (show Below w.heap.size w wr.drew from HWQ.out.trans ((Ji _ _).drew.mono HWQ.out.size));generalize wr.drew=wd at*
         refine af 0 (.pointer (some ⟨wi.heap.size,0,none⟩)) ht ?_ ?_
         .intro W9 hSw;go_simp
         try simp only[ab]
         refine af 1 (.string ⟨(text P).toArray⟩) ht ?_ ?_
         .intro W9 hSw;have b0:=hSw.cell 0;have bl:=hSw.lt;go_simp
         try simp only[ab]
         refine bz 2 λK hK=>?_;go_simp;refine jN (K:=K) (λW9=>Blk W9 wi.heap.size 39 #[.string ⟨(text P).toArray⟩,nall,npass,.slice (some ⟨g3,o3,none⟩) keys.length c2]/\Strs W9.cell? (some ⟨wd.heap.size,0,none⟩) [[36,114,101,102]]/\Below w.heap.size w W9) ⟨Blk.alloc ht _,mJ wd _ [36,114,101,102],HD.out.alloc HD.out.size _⟩ ?_;rintro w3 ⟨ht3,hst,hbw⟩;have HST3:=Jf hst;have HB3:=Jf hbw;clear hst hbw ht;refine hK.out _ _ ht3 (λht=>?_);clear hK K ht3;try simp only[ab]
         refine bz 3 λK hK=>?_;go_simp;refine(l7 [[36,114,101,102]] (some ⟨wd.heap.size,0,none⟩) 1 w3 HST3.out (Jh _) (by unfold maxLen;omega) (by decide)).mono ?_;rintro e4 w4 ⟨rfl,hb4⟩;have hs4:Blk w4 wi.heap.size 39 #[.string ⟨(text P).toArray⟩,nall,npass,.slice (some ⟨g3,o3,none⟩) keys.length c2]:=Blk.on ht hb4;have HB4:=Jf (HB3.out.trans (hb4.mono HB3.out.size));clear hb4 ht;have hrl:(text [[36,114,101,102]]).length<=100:=by decide
         have hcat:∀W,(Op.stringOp .add ⟨(text P).toArray⟩ ⟨(text [[36,114,101,102]]).toArray⟩).run Tryz.prog W=.ok (.string ⟨(text (P++[[36,114,101,102]])).toArray⟩) W:=λW=>by rw[bK];exact bR W _ _ (by omega)
         go_wp2_with fail;refine hK.out _ _ hs4 (λht=>?_);clear hK K hs4;try simp only[ab]
         refine af 4 (.string ⟨(text (P++[[36,114,101,102]])).toArray⟩) ht ?_ ?_
         .intro W9 hSw;go_simp
         try simp only[ab]
         refine af 5 (.slice none 0 0) ht ?_ ?_
         .intro W9 hSw;go_simp
         try simp only[ab]
         refine af 6 (.int .i64 12) ht ?_ ?_
         .intro W9 hSw;go_simp
         try simp only[ab]
         refine af 7 (.string ⟨(text (P++[[36,114,101,102]])).toArray⟩) ht ?_ ?_
         .intro W9 hSw;go_simp
         try simp only[ab]
         refine Ke (by kernel_rfl) ?_ _;clear ht hcat hrl;go_wp2_with fail
         go_ret3
         exact⟨HB4.out,.inr ⟨12,P++[[36,114,101,102]],by unfold Cm.link;rw[HBD.out];rfl,by decide,by decide,rfl⟩⟩
        |some q=>
         have HQL:=Jf (show q<l.length from(Cm.sd HAT.out).1);have HLX:=Jf (HNX.out.1 ⟨nm,kv,[([],q)]⟩ HLK1.out);rw[show atI (some q)=(q:Int) from rfl];obtain⟨w8,hw8⟩:∃W,W=(wr.setCell ⟨gk,9,none⟩ (.slice (some ⟨wr.heap.size,0,none⟩) 1 1)).alloc (.cells #[.string ⟨#[]⟩,.int .i64 (q:Int)] 109):=⟨_,rfl⟩;obtain⟨g7,hg7⟩:∃g,g=wr.heap.size:=⟨_,rfl⟩;have hgk7:gk<g7:=by rw[hg7];exact hzl
         have hss:(wr.setCell ⟨gk,9,none⟩ (.slice (some ⟨wr.heap.size,0,none⟩) 1 1)).heap.size=g7:=by rw[hg7];simp[World.setCell]
         have HB8:=Jf (show Below wr0.heap.size wr0 w8 by
          rw[hw8];have h9:=(HBK.out.trans (HBQ.out.mono HBK.out.size)).setCell (p:=⟨gk,9,none⟩) (by show wr0.heap.size<=gk;rw[HGE.out];exact Jh _) (.slice (some ⟨wr.heap.size,0,none⟩) 1 1);exact h9.alloc h9.size _)
         have HKD8:=Jf (show Blk w8 g7 109 #[.string ⟨#[]⟩,.int .i64 (q:Int)] by
          rw[hw8,<-hss];exact Blk.new _ _ _)
         have HKB8:=Jf (show Blk w8 gk 68 #[nm,.int .i64 j_1,j_2,j_3,j_4,.int .i64 j_5,j_6,.slice j_7 j_8 j_9,.slice j_a j_b j_c,.slice (some ⟨g7,0,none⟩) 1 1] by
          rw[hw8,hg7];exact(Blk.ei (l:=[.string ⟨nm.toArray⟩,.int .i64 j_1,.bool j_2,.bool j_3,.string ⟨j_4.toArray⟩,.int .i64 j_5,.string ⟨j_6.toArray⟩,.slice j_7 j_8 j_9,.slice j_a j_b j_c,.slice A4 kids.length c4]) HKQ.out 9 _).alloc _)
         have HW8:=Jf hw8;rw[<-hg7] at HW8;have HWR8:=Jf (show Below w.heap.size w w8 from(HOUT.out.1.trans (HW2.out.below.mono HOUT.out.1.size)).trans (HB8.out.mono (JA HOUT.out.1.size HW2.out.below.size)));have HWQ:=Jf (HW2.out.on HB8.out);have hkfz:=HKQ.out.frozen 9;go_upto_region 21 with(fail);rw[<-hg7,<-HW8.out];clear hw8 hss hg7 hkfz z0 z1 z2 z3 z4 z5 z6 z7 z8 z9 hzl;obtain⟨z0,z1,z2,z3,z4,z5,z6,z7,z8,z9⟩:=HKB8.out.ten;have hzl:=HKB8.out.lt;have HIT:=Jf (show dh ((w8.alloc (.cells #[nm,.int .i64 j_1,j_2,j_3,j_4,.int .i64 j_5,j_6,.slice j_7 j_8 j_9,.slice j_a j_b j_c,.slice (some ⟨g7,0,none⟩) 1 1] 68)).on (λb=>b<w.heap.size\/b=g7)) ⟨nm,kv,[([],q)]⟩ [.string ⟨nm.toArray⟩,.int .i64 j_1,.bool j_2,.bool j_3,.string ⟨j_4.toArray⟩,.int .i64 j_5,.string ⟨j_6.toArray⟩,.slice j_7 j_8 j_9,.slice j_a j_b j_c,.slice (some ⟨g7,0,none⟩) 1 1] from⟨#[.int .i64 j_1,.bool j_2,.bool j_3,.string ⟨j_4.toArray⟩,.int .i64 j_5,.string ⟨j_6.toArray⟩,.slice j_7 j_8 j_9,.slice j_a j_b j_c],some ⟨g7,0,none⟩,1,rfl,In.keep (λp u hp=>ah.2 ⟨.inl (Jn _ _ hp),aa (HWR8.out.alloc HWR8.out.size _) _ _ hp⟩) _ _ HV3.out,(λi p hi=>by
          have hi0:=(Jm.1 hi).1;obtain rfl:i=0:=by simpa using hi0
          obtain rfl:(([]:Jd),q)=p:=by simpa using hi
          exact⟨g7,0,rfl,ah.2 ⟨.inr rfl,(HKD8.out.alloc _).cell 0⟩,ah.2 ⟨.inr rfl,(HKD8.out.alloc _).cell 1⟩⟩),Jh _,by unfold maxLen;omega⟩)
         obtain⟨flat,hown,hpush⟩:=(HWQ.out.on ((Ji w8.heap.size w8).alloc (Jh _) (.cells #[nm,.int .i64 j_1,j_2,j_3,j_4,.int .i64 j_5,j_6,.slice j_7 j_8 j_9,.slice j_a j_b j_c,.slice (some ⟨g7,0,none⟩) 1 1] 68))).push HKS.out (Rn:=λb=>b<w.heap.size\/b=g7) (λb hb=>by
          have hwi:=HWI.out;have hgk:=HGK.out;have hg8:=HKD8.out.lt;have hsz:=HWR8.out.size;rcases hb with hb|hb
          .refine⟨by simp;omega,?_,λad e q=>?_⟩
           .rintro(q|q)
            .omega
            .obtain⟨ad,e,rfl⟩:=q;obtain⟨g9,rfl,hg9,_⟩:=HOUT.out.2.le.2.2 ad e;simp only at hb;omega
           .have h3:=(HW2.out.ij ⟨ad,e,rfl⟩).1;omega
          .subst hb;refine⟨by simp;omega,?_,λad e q=>?_⟩
           .rintro(q|q)
            .omega
            .have:=HW2.out.old _ q;omega
           .have h3:=(HW2.out.ij ⟨ad,e,rfl⟩).2.1;have h4:=HGE.out;omega) HIT.out (by simp[Value.oneCell']) rfl
         have HOWN:=Jf hown;have HPUSH:=Jf hpush;obtain⟨i0,hi0,hz0,hz1,hz2⟩:=vt;have hbs:=HWQ.out.box.lt;clear hown hpush HIT;go_wp2_with (refine Md _ rfl _ _ _ rfl (wi.heap.size+1) 68 i0 _ 10 152 Tryz.underlying37 hi0 hz0 hz1 hz2 rfl (by omega) (.slice Ak k ck) k flat rfl HOWN.out ⟨w8.heap.size,0,none⟩ 1 1 [.string ⟨nm.toArray⟩,.int .i64 j_1,.bool j_2,.bool j_3,.string ⟨j_4.toArray⟩,.int .i64 j_5,.string ⟨j_6.toArray⟩,.slice j_7 j_8 j_9,.slice j_a j_b j_c,.slice (some ⟨g7,0,none⟩) 1 1] rfl rfl (JU (Lc w8 _)) (by simp[Value.oneCell']) (by omega) (by unfold maxLen;omega) (by omega) (by simp;omega) _ rfl ?_;intro g6 cap6 w8 hown6 hgrow6 hat6 hlt6;have HST:=Jf (HPUSH.out _ _ _ hown6 hgrow6 hat6);clear hown6 hgrow6 hat6);go_roundw;case rel=>exact⟨k+1,some ⟨g6,0,none⟩,cap6,ks++[⟨nm,kv,[([],q)]⟩],rfl,by go_num,by omega,by rw[Jk,HKS.out];rfl,HST.out,HLX.out⟩
         case measure=>simp[intOf];omega
     .have hnb:(nm==[36,114,101,102])=false:=by simpa using hnm
      have HLX:=Jf (HNX.out.1 ⟨nm,kv,kids⟩ (by unfold Cm.dM;exact Jj hnm));clear hnm HNX;have HIT:=Jf (show dh ((wk.alloc (.cells #[nm,.int .i64 j_1,j_2,j_3,j_4,.int .i64 j_5,j_6,.slice j_7 j_8 j_9,.slice j_a j_b j_c,.slice A4 kids.length c4] 68)).on (λb=>b<w.heap.size)) ⟨nm,kv,kids⟩ [.string ⟨nm.toArray⟩,.int .i64 j_1,.bool j_2,.bool j_3,.string ⟨j_4.toArray⟩,.int .i64 j_5,.string ⟨j_6.toArray⟩,.slice j_7 j_8 j_9,.slice j_a j_b j_c,.slice A4 kids.length c4] from⟨#[.int .i64 j_1,.bool j_2,.bool j_3,.string ⟨j_4.toArray⟩,.int .i64 j_5,.string ⟨j_6.toArray⟩,.slice j_7 j_8 j_9,.slice j_a j_b j_c],A4,c4,rfl,In.keep (λp u hp=>ah.2 ⟨Jn _ _ hp,aa (HWW.out.alloc HWW.out.size _) _ _ hp⟩) _ _ HV3.out,HK4.out.keep (λp u hp=>ah.2 ⟨Jn _ _ hp,aa (HWW.out.alloc HWW.out.size _) _ _ hp⟩),hl4,by unfold maxLen;omega⟩);obtain⟨flat,hown,hpush⟩:=(HWK.out.on ((Ji wk.heap.size wk).alloc (Jh _) (.cells #[nm,.int .i64 j_1,j_2,j_3,j_4,.int .i64 j_5,j_6,.slice j_7 j_8 j_9,.slice j_a j_b j_c,.slice A4 kids.length c4] 68))).push HKS.out (Rn:=λb=>b<w.heap.size) (λb hb=>⟨by have:=HWW.out.size;have h2:b<w.heap.size:=hb;simp;omega,by rintro(q|q);(have:=HWI.out;have h2:b<w.heap.size:=hb;omega);(obtain⟨ad,e,rfl⟩:=q;obtain⟨g9,rfl,hg9,_⟩:=HOUT.out.2.le.2.2 ad e;have h2:g9<w.heap.size:=hb;omega),λad e q=>by have h3:=(HWK.out.ij ⟨ad,e,rfl⟩).1;have h2:b<w.heap.size:=hb;have:=HWI.out;omega⟩) HIT.out (by simp[Value.oneCell']) rfl;have HOWN:=Jf hown;have HPUSH:=Jf hpush;obtain⟨i0,hi0,hz0,hz1,hz2⟩:=vt;have hbs:=HWK.out.box.lt;clear hown hpush HIT;go_wp2_with (refine Md _ rfl _ _ _ rfl (wi.heap.size+1) 68 i0 _ 10 152 Tryz.underlying37 hi0 hz0 hz1 hz2 rfl (by omega) (.slice Ak k ck) k flat rfl HOWN.out ⟨wk.heap.size,0,none⟩ 1 1 [.string ⟨nm.toArray⟩,.int .i64 j_1,.bool j_2,.bool j_3,.string ⟨j_4.toArray⟩,.int .i64 j_5,.string ⟨j_6.toArray⟩,.slice j_7 j_8 j_9,.slice j_a j_b j_c,.slice A4 kids.length c4] rfl rfl (JU (Lc wk _)) (by simp[Value.oneCell']) (by omega) (by unfold maxLen;omega) (by omega) (by simp;omega) _ rfl ?_;intro g6 cap6 w8 hown6 hgrow6 hat6 hlt6;have HST:=Jf (HPUSH.out _ _ _ hown6 hgrow6 hat6);clear hown6 hgrow6 hat6);go_roundw;case rel=>exact⟨k+1,some ⟨g6,0,none⟩,cap6,ks++[⟨nm,kv,kids⟩],rfl,by go_num,by omega,by rw[Jk,HKS.out];rfl,HST.out,HLX.out⟩
      case measure=>simp[intOf];omega
    .obtain rfl:k=keys.length:=by omega
     have HLKF:=Jf (show Cm.aw l P keys=.ok ks by have:=HLKS.out;rwa[JC] at this);obtain⟨Rn,hRn,hsl⟩:=bI.I2 HW2.out.keys (λad e=>(HW2.out.ij ⟨ad,e,rfl⟩).2.2);have hkl5:=HW2.out.keys.le;have hbf:=HW2.out.box.frozen 3;obtain⟨w3,hw3⟩:∃W,W=wr.setCell ⟨wi.heap.size,3,none⟩ (.slice Ak keys.length ck):=⟨_,rfl⟩;have HB3:=Jf (show Blk w3 wi.heap.size 39 #[.string ⟨(text P).toArray⟩,nall,npass,.slice Ak keys.length ck] by
      rw[hw3];exact Blk.ei (l:=[.string ⟨(text P).toArray⟩,.bool nall,.bool npass,.slice A2 keys.length c2]) HW2.out.box 3 _)
     have HW3:=Jf hw3;have HO3:=Jf (show Cr w A5 c5 os w3 from HOUT.out.on (by rw[hw3];exact HW2.out.below.setCell (p:=⟨wi.heap.size,3,none⟩) (Jh _) _));have HO4:=Jf (HO3.out.on ((Ji w3.heap.size w3).alloc (Jh _) (.cells #[.string ⟨(text P).toArray⟩,nall,npass,.slice Ak keys.length ck] 39)));obtain⟨flat,hown,hpush⟩:=bI.push (It:=ItN) (λh=>ItN.mono h) HOS.out HO4.out.2;have HIT:=Jf (show ItN ((w3.alloc (.cells #[.string ⟨(text P).toArray⟩,nall,npass,.slice Ak keys.length ck] 39)).on Rn) ⟨P,nall,npass,ks⟩ [.string ⟨(text P).toArray⟩,.bool nall,.bool npass,.slice Ak keys.length ck] from⟨Ak,ck,by rw[show(Cm.Node.mk P nall npass ks).keys.length=keys.length from HKS.out],hsl.keep (dN (λb h _=>h) (λb hb h2=>by
      rw[LA _ _ _ (by rw[hw3];simpa[World.setCell] using h2),hw3];exact JG wr ⟨wi.heap.size,3,none⟩ _ b (λe=>(hRn b hb).2 (.inl e)))),hkl5.1,hkl5.2.1⟩)
     have hss3:w3.heap.size=wr.heap.size:=by rw[hw3];simp[World.setCell]
     have HRN:=Jf (show∀b,Rn b->b<(w3.alloc (.cells #[.string ⟨(text P).toArray⟩,nall,npass,.slice Ak keys.length ck] 39)).heap.size/\¬False/\∀ad,A5=some ad->b≠ad.block fromλb hb=>⟨by have:=(hRn b hb).1;simp;omega,λk=>k,λad e q=>(hRn b hb).2 (.inr ⟨ad,e,q⟩)⟩);have HOWN:=Jf hown;have HPU:=Jf (λw6 g cap h6 hg hat=>hpush (w6:=w6) (g:=g) (cap:=cap) HIT.out HRN.out (by simp[Value.oneCell']) rfl h6 hg hat);have hgw:=HOUT.out.1.size;have hwl:=HW2.out.box.lt;obtain⟨i0,hi0,hz0,hz1,hz2⟩:=qW;clear hpush hown hsl hRn hw3 hss3 hkl5;go_upto_region 23 with(fail);rw[<-HW3.out];clear b3 b0;have b0:=HB3.out.cell 0;have b1:=HB3.out.cell 1;have b2:=HB3.out.cell 2;have b3:=HB3.out.cell 3;have hb3l:=HB3.out.lt;go_wp2_with (refine Md _ rfl _ _ _ rfl w.heap.size 39 i0 _ 4 48 Tryz.underlying23 hi0 hz0 hz1 hz2 rfl (by omega) (.slice A5 i c5) i flat rfl HOWN.out ⟨w3.heap.size,0,none⟩ 1 1 [.string ⟨(text P).toArray⟩,.bool nall,.bool npass,.slice Ak keys.length ck] rfl rfl (JU (Lc w3 _)) (by simp[Value.oneCell']) (by omega) (by unfold maxLen;omega) (by omega) (by simp;omega) _ rfl ?_;intro g6 cap6 w8 hown6 hgrow6 hat6 hlt6;have HST:=Jf (HPU.out _ _ _ hown6 hgrow6 hat6);have HBG:=Jf (HO4.out.1.grown hgrow6 HO4.out.1.size (λq hq=>by obtain⟨ad,e9,rfl⟩:=IK hq;obtain⟨g9,rfl,hg9,_⟩:=HO4.out.2.le.2.2 ad e9;exact hg9));clear hown6 hgrow6 hat6);go_roundw;case rel=>exact⟨i+1,some ⟨g6,0,none⟩,cap6,os++[⟨P,nall,npass,ks⟩],rfl,by go_num,by omega,by rw[Jk,HOS.out];rfl,⟨HBG.out,HST.out⟩,HLN.out.1 ks HLKF.out⟩
     case measure=>simp[intOf];omega
  .obtain rfl:i=l.length:=by omega
   have HLF:=Jf (show Cm.aq l l=.ok os by have:=HLK.out;rwa[JC] at this);have HOI:=Jf (Cm.lR HIN.out HLF.out);have hos:=HOS.out;go_wp2_with fail
   go_loopw [13] (λq13 wr=>∃q:Nat,q<=l.length/\q13=.int .i64 q/\Cr w A5 c5 os wr/\∀p,p<q->¬Cm.cy os p p) (λq13 _=>l.length-(intOf q13).toNat)
   case atStart=>exact⟨0,by omega,rfl,HOUT.out,λp hp=>absurd hp (Kt _)⟩
   case round=>
    obtain⟨q,hq,rfl,hout,hno⟩:=hrel;have HO:=Jf hout;have HNO:=Jf hno;clear hout hno;by_cases hql:q<l.length
    .have hle:=HO.out.2.le;have HRE:=Jf (vP os A5 c5 q wr HO.out.2.slN hle.1 hle.2.1 (by omega) HOI.out.1 (by omega));rw[hos] at HRE;have hqi:(q:Int)<(l.length:Int):=by omega
     clear hos;go_wp2_with fail;refine HRE.out.mono ?_;rintro e5 w5 ⟨g5,out,rfl,hoa,hol,hld,hb5⟩;have HOA:=Jf hoa;have HLD:=Jf hld;have HO5:=Jf (HO.out.on hb5);obtain⟨b,hb⟩:∃b,out[q]? =some b:=⟨_,Jg (by omega)⟩;have hc:=hoa.cell hb;have hcl:=Jn _ _ hc;have HBB:=Jf hb;clear hoa hld hb5 hb HRE;cases b with
     |false=>
      go_wp2_with fail;go_roundw;case rel=>exact⟨q+1,by omega,by go_num,HO5.out,λp hp=>by
       by_cases e:p=q
       .subst e;exactλk=>by have:=(HLD.out p).2 k;rw[HBB.out] at this;cases this
       .exact HNO.out p (by omega)⟩
      case measure=>simp[intOf];omega
     |true=>
      obtain⟨g7,o7,cs7,hA7,⟨A7,c7,rfl,_,_,_⟩,hc7⟩:=HO5.out.2.slN q _ (Jg (show q<os.length by rw[HOS.out];exact hql));subst hA7;have y0:=hc7 0 _ rfl;have hyl:=Jn _ _ y0;have HFI:=Jf (show Cm.link l=.bad 13 (os[q]'(by rw[HOS.out];exact hql)).at_ by
       unfold Cm.link;rw[HLF.out];simp only;rw[Cm.C9 (j:=q) (by rw[HOS.out];exact hql) ((HLD.out q).1 HBB.out) HNO.out];simp only;rw[Jg (by rw[HOS.out];exact hql)];rfl)
      simp only[Kx] at y0;clear hc7;generalize (os[q]'(by rw[HOS.out];exact hql)).at_=pq at*
      go_upto_region 29 with(fail);go_quiet (fail);go_wp2_with fail
      go_ret3
      exact⟨below_drewN HO5.out.1 _,.inr ⟨13,pq,HFI.out,by decide,by decide,rfl⟩⟩
    .obtain rfl:q=l.length:=by omega
     have HFI:=Jf (show Cm.link l=.ok os by
      unfold Cm.link;rw[HLF.out];simp only;rw[Cm.sn (λp hp=>HNO.out p (by rw[<-HOS.out];exact hp))])
     go_wp2_with fail
     go_ret3
     exact⟨HO.out.1,.inl ⟨os,A5,c5,HFI.out,by rw[HOS.out];rfl,HO.out.2.slN,HO.out.2.le.1,HO.out.2.le.2.1⟩⟩
structure Cm.I6 (l:List Cm.Node):Prop where
 inside:Cm.fS l
 few:l.length<=200
 apart:(l.map (·.at_)).Nodup
 keys:∀N∈l,N.keys.length<=1000000
 paths:∀N∈l,(text N.at_).length<=10000000000000
 kids:∀N∈l,∀K∈N.keys,K.kids.length<=200
 strs:∀N∈l,∀K∈N.keys,(Sh.strOf K.v).length<=1000000
theorem Cm.vj{v:Vl}{a:List Cm.Node}(hw:iZ v)(h:Cm.compile v=.ok a):Cm.I6 a:=by
 have hst:=Cm.fJ hw.1 hw.2.1 h;refine⟨Cm.tX hw.1 hw.2.1 h,hst.2.2.2.1,hst.2.1,λN hN=>?_,λN hN=>?_,λN hN K hK=>JA (Cm.Fy hst.2.2.2.2.1 hN hK) hst.2.2.2.1,λN hN K hK=>Cm.E4 (Cm.mQ h hw.2.2 hw.2.1 N hN K hK).1⟩
 .obtain⟨x,hx,ho⟩:=hst.1 N hN;have hsm:=Cm.gH (N:=1000000) (by omega) _ _ _ hw.2.2 hx;obtain⟨k,b,n,s,l,m⟩:=x;have h3:=ho.2.2;have h4:m.length<=aE m:=ep m;have h5:=hsm.2.2;have h6:=hw.2.1;simp only[Vl.size] at h5;omega
 .obtain⟨x,hx,_⟩:=hst.1 N hN;have hsm:=Cm.gH (N:=1000000) (by omega) _ _ _ hw.2.2 hx;have h1:=eG 1000000 _ hsm.2.1;have h2:=hsm.1;have h3:=hw.2.1;have h4:N.at_.length*(2*1000000+1)<=1000000*(2*1000000+1):=K9 _ (by omega);omega
theorem Es.out{r:Cm.Res (List Cm.Node)}{w:World}{e:Ending}{w':World}(h:Es r w e w'):
  ∃(A:Option Addr) (cp:Nat),e=.returned (.tuple #[.slice A (Cm.pS r).length cp,.int .i64 (Cm.AG r),.string ⟨(Cm.outP r).toArray⟩])/\SlN w'.cell? A (Cm.pS r)/\(Cm.pS r).length<=cp/\cp<=maxLen/\Below w.heap.size w w':=wG.out h
def Cm.exR:Vl:=.mk 5 false Nm.Num.zero [] [] [(Cm.eD,.mk 3 false Nm.Num.zero [35] [] [])]
def Cm.exN:List Cm.Node:=[⟨[],false,false,[⟨Cm.eD,.mk 3 false Nm.Num.zero [35] [] [],[]⟩]⟩]
def Cm.exO:List Cm.Node:=[⟨[],false,false,[⟨Cm.eD,.mk 3 false Nm.Num.zero [35] [] [],[([],0)]⟩]⟩]
theorem Cm.kQ:Ps.parse [123,34,36,114,101,102,34,58,34,35,34,125]=.ok Cm.exR []:=by kernel_rfl
theorem Cm.mW:Cm.compile Cm.exR=.ok Cm.exN:=by kernel_rfl
theorem Cm.EZ:Cm.aq Cm.exN Cm.exN=.ok Cm.exO:=by kernel_rfl
theorem Cm.mX:Cm.link Cm.exN=.bad 13 []:=by
 unfold Cm.link;rw[Cm.EZ];simp only;rw[Cm.C9 (out:=Cm.exO) (j:=0) (by decide) (.one ⟨_,rfl,by decide⟩) (λq hq=>absurd hq (Kt _))];rfl
end
