import Derived.Test.YtdhgmaonolgpnaaGreatDoorSf
import Derived.Test.YtdhgmaonolgpnaaGreatDoorTg
set_option linter.unusedSimpArgs false
set_option maxHeartbeats 4000000
set_option maxRecDepth 100000
namespace Go.Proofs.YtdhgmaonolgpnaaGreatDoor
section
open Go.RowKit Js
structure ak (rb:Nat) (w w':World):Prop where
 os:w'.os=w.os
 tape:w'.tape=w.tape
 output:w'.output=w.output
 size:w.heap.size<=w'.heap.size
 block:∀k,k<w.heap.size->k≠rb->w'.heap[k]? =w.heap[k]?
section
variable {rb:Nat} {w w' w'':World}
theorem ak.refl(rb:Nat)(w:World):ak rb w w:=⟨rfl,rfl,rfl,Jh _,λ_ _ _=>rfl⟩
theorem ak.trans(h:ak rb w w')(k:ak rb w' w''):ak rb w w'':=
 ⟨k.os.trans h.os,k.tape.trans h.tape,k.output.trans h.output,JA h.size k.size,λi hi hr=>(k.block i (JN hi h.size) hr).trans (h.block i hi hr)⟩
theorem ak.aJ(h:Below w.heap.size w w'):ak rb w w':=⟨h.os,h.tape,h.output,h.size,λk hk _=>h.block k hk⟩
theorem ak.drewN(h:ak rb w w')(n:Nat):ak rb w (w'.drewN n):=⟨h.os,h.tape,h.output,h.size,h.block⟩
theorem ak.drew(h:ak rb w w'):ak rb w w'.drew:=⟨h.os,h.tape,h.output,h.size,h.block⟩
theorem ak.alloc(h:ak rb w w')(o:Obj):ak rb w (w'.alloc o):=h.trans (.aJ ((Ji _ _).alloc (Jh _) _))
theorem ak.set(h:ak rb w w')(i:Nat)(u:Value):ak rb w (w'.setCell ⟨rb,i,none⟩ u):=
 h.trans ⟨rfl,rfl,rfl,by simp[World.setCell],λk _ hr=>JG _ _ _ _ hr⟩
theorem ak.kt(h:ak rb w w'){g:Nat}(hg:w.heap.size<=g)(i:Nat)(u:Value):ak rb w (w'.setCell ⟨g,i,none⟩ u):=
 ⟨h.os,h.tape,h.output,by simpa[World.setCell] using h.size,λk hk hr=>by rw[JG _ _ _ _ (by show k≠g;omega)];exact h.block k hk hr⟩
theorem ak.below{B:Nat}(h:ak rb w w')(hB:B<=rb)(hs:B<=w.heap.size):Below B w w':=⟨h.os,h.tape,h.output,h.size,λk hk=>h.block k (by omega) (by omega)⟩
theorem ak.cell(h:ak rb w w'){p:Addr}(hp:p.block<w.heap.size)(hr:p.block≠rb):w'.cell? p=w.cell? p:=Ka (w:=w) (h.block p.block hp hr)
theorem ak.blk{g:Nat}{t:TypeId}{cs:Array Value}(h:ak rb w w')(hb:Blk w g t cs)(hr:g≠rb):Blk w' g t cs:=(h.block g hb.lt hr).trans hb
theorem ak.le{B:Nat}(h:ak rb w w')(hB:rb<B):Cl.le (w.on (B<=·)) (w'.on (B<=·)):=λp u hp=>by
 obtain⟨hb,hc⟩:=ah.1 hp;exact ah.2 ⟨hb,by rw[h.cell (Jn w _ hc) (by omega)];exact hc⟩
end
def Rd(w:World)(rb:Nat)(s:ByteArray)(a:Nat)(t:Jd)(d:Nat):Prop:=
 Blk w rb 75 #[.string s,.int .i64 a,.int .i64 d,.int .i64 0,.int .i64 0]/\a+t.length=s.size/\s.data.toList.drop a=t
def RdB(w:World)(rb:Nat)(s:ByteArray)(c l:Nat):Prop:=
 ∃(a d:Int) (p:Nat),Blk w rb 75 #[.string s,.int .i64 a,.int .i64 d,.int .i64 c,.int .i64 p]/\p+l=s.size/\1<=c
theorem Blk.cJ{w:World}{g:Nat}{t:TypeId}{c0 c1 c2 c3 c4:Value}(h:Blk w g t #[c0,c1,c2,c3,c4]):
  w.cell? ⟨g,0,none⟩=some c0/\w.cell? ⟨g,1,none⟩=some c1/\w.cell? ⟨g,2,none⟩=some c2/\w.cell? ⟨g,3,none⟩=some c3/\w.cell? ⟨g,4,none⟩=some c4:=
 ⟨h.cell 0,h.cell 1,h.cell 2,h.cell 3,h.cell 4⟩
theorem Rd.drewN{w:World}{rb:Nat}{s:ByteArray}{a:Nat}{t:Jd}{d:Nat}(h:Rd w rb s a t d)(n:Nat):Rd (w.drewN n) rb s a t d:=h
theorem RdB.drewN{w:World}{rb:Nat}{s:ByteArray}{c l:Nat}(h:RdB w rb s c l)(n:Nat):RdB (w.drewN n) rb s c l:=h
theorem Rd.lt{w:World}{rb:Nat}{s:ByteArray}{a:Nat}{t:Jd}{d:Nat}(h:Rd w rb s a t d):rb<w.heap.size:=h.1.lt
theorem Rd.step{w:World}{rb:Nat}{s:ByteArray}{a:Nat}{c:UInt8}{u:Jd}{d:Nat}(h:Rd w rb s a (c::u) d):Rd (w.setCell ⟨rb,1,none⟩ (.int .i64 ((a:Int)+1))) rb s (a+1) u d:=by
 obtain⟨h0,h1,h2⟩:=h;refine⟨?_,by simp only[Jl] at h1;omega,by rw[<-List.drop_drop,h2];rfl⟩;have:=Blk.ei (l:=[.string s,.int .i64 a,.int .i64 d,.int .i64 0,.int .i64 0]) h0 1 (.int .i64 ((a:Int)+1));rw[show((a:Int)+1)=((a+1:Nat):Int) by omega] at this ⊢;exact this
theorem Rd.goTo{w:World}{rb:Nat}{s:ByteArray}{a:Nat}{t:Jd}{d:Nat}(h:Rd w rb s a t d){a':Nat}{t':Jd}{x:Int}(hx:x=(a':Int))(h1:a'+t'.length=s.size)(h2:s.data.toList.drop a'=t'):Rd (w.setCell ⟨rb,1,none⟩ (.int .i64 x)) rb s a' t' d:=by
 subst hx;exact⟨Blk.ei (l:=[.string s,.int .i64 a,.int .i64 d,.int .i64 0,.int .i64 0]) h.1 1 (.int .i64 a'),h1,h2⟩
theorem Rd.on{w w':World}{rb:Nat}{s:ByteArray}{a:Nat}{t:Jd}{d:Nat}(h:Rd w rb s a t d)(hb:Below w.heap.size w w'):Rd w' rb s a t d:=⟨h.1.on hb,h.2.1,h.2.2⟩
theorem RdB.on{w w':World}{rb:Nat}{s:ByteArray}{c l:Nat}(h:RdB w rb s c l)(hb:Below w.heap.size w w'):RdB w' rb s c l:=by
 obtain⟨a,d,p,h0,h1,h2⟩:=h;exact⟨a,d,p,h0.on hb,h1,h2⟩
theorem RdB.setAt{w:World}{rb:Nat}{s:ByteArray}{c l:Nat}(h:RdB w rb s c l)(x:Int):RdB (w.setCell ⟨rb,1,none⟩ (.int .i64 x)) rb s c l:=by
 obtain⟨a,d,p,h0,h1,h2⟩:=h;exact⟨x,d,p,Blk.ei (l:=[.string s,.int .i64 a,.int .i64 d,.int .i64 c,.int .i64 p]) h0 1 (.int .i64 x),h1,h2⟩
theorem RdB.kp{w:World}{rb:Nat}{s:ByteArray}{c l:Nat}(h:RdB w rb s c l)(x:Int):RdB (w.setCell ⟨rb,2,none⟩ (.int .i64 x)) rb s c l:=by
 obtain⟨a,d,p,h0,h1,h2⟩:=h;exact⟨a,x,p,Blk.ei (l:=[.string s,.int .i64 a,.int .i64 d,.int .i64 c,.int .i64 p]) h0 2 (.int .i64 x),h1,h2⟩
theorem Rd.kp{w:World}{rb:Nat}{s:ByteArray}{a:Nat}{t:Jd}{d:Nat}(h:Rd w rb s a t d)(d':Nat):Rd (w.setCell ⟨rb,2,none⟩ (.int .i64 d')) rb s a t d':=
 ⟨Blk.ei (l:=[.string s,.int .i64 a,.int .i64 d,.int .i64 0,.int .i64 0]) h.1 2 (.int .i64 d'),h.2.1,h.2.2⟩
def hd:Jd->Int
 |[]=> -1
 |c::_=>c.toNat
theorem iN{rb:Nat}{s:ByteArray}{a:Nat}{t:Jd}{d:Nat}{w:World}(h:Rd w rb s a t d)(p c l:Nat)(hp:p+l=s.size)(hc:1<=c):
  Calls Tryz.prog 27 #[.pointer (some ⟨rb,0,none⟩),.int .i64 p,.int .i64 c] w λe w'=>e=.returned (.tuple #[])/\RdB w' rb s c l/\ak rb w w':=by
 obtain⟨hb,h1,h2⟩:=h;obtain⟨c0,c1,c2,c3,c4⟩:=hb.cJ;have hf:=hb.frozen;have H:=Jf (show RdB ((w.setCell ⟨rb,3,none⟩ (.int .i64 c)).setCell ⟨rb,4,none⟩ (.int .i64 p)) rb s c l from⟨a,d,p,by
  have h3:=Blk.ei (l:=[.string s,.int .i64 a,.int .i64 d,.int .i64 0,.int .i64 0]) hb 3 (.int .i64 c);exact Blk.ei (l:=[.string s,.int .i64 a,.int .i64 d,.int .i64 c,.int .i64 0]) h3 4 (.int .i64 p),hp,hc⟩)
 have HS:=Jf (((ak.refl rb w).set 3 (.int .i64 c)).set 4 (.int .i64 p));clear hb h1 h2;go_enter Tryz.func27,Tryz.ntmps27
 go_wp2
 go_end0
 exact⟨rfl,H.out,HS.out⟩
theorem qI{rb:Nat}{s:ByteArray}{c l:Nat}{w:World}(h:RdB w rb s c l)(p k:Int):
  Calls Tryz.prog 27 #[.pointer (some ⟨rb,0,none⟩),.int .i64 p,.int .i64 k] w λe w'=>e=.returned (.tuple #[])/\w=w':=by
 obtain⟨a,d,q,hb,h1,h2⟩:=h;obtain⟨c0,c1,c2,c3,c4⟩:=hb.cJ;have t1:((c:Int)==0)=false:=by simp;omega
 clear hb h1 h2;go_enter Tryz.func27,Tryz.ntmps27
 go_wp2
 go_end0
 exact⟨rfl,rfl⟩
theorem iu{rb:Nat}{s:ByteArray}{c l:Nat}{w:World}(h:RdB w rb s c l):
  Calls Tryz.prog 50 #[.pointer (some ⟨rb,0,none⟩)] w λe w'=>e=.returned (.int .i64 (-1))/\∃n,w'=w.drewN n:=by
 obtain⟨a,d,q,hb,h1,h2⟩:=h;obtain⟨c0,c1,c2,c3,c4⟩:=hb.cJ;have t1:((c:Int)==0)=false:=by simp;omega
 have t2:((c:Int) !=0)=true:=by simp;omega
 clear hb h1 h2;go_enter Tryz.func50,Tryz.ntmps50;go_wp2_with fail;go_quiet (fail)
 go_wp2
 go_ret;exact⟨rfl,_,rfl⟩
theorem bS{rb:Nat}{s:ByteArray}{a:Nat}{t:Jd}{d:Nat}{w:World}(h:Rd w rb s a t d)(_hs:s.size<=1000000000000):
  Calls Tryz.prog 50 #[.pointer (some ⟨rb,0,none⟩)] w λe w'=>e=.returned (.int .i64 (hd t))/\∃n,w'=w.drewN n:=by
 obtain⟨hb,h1,h2⟩:=h;obtain⟨c0,c1,c2,c3,c4⟩:=hb.cJ;clear hb;cases t with
 |nil=>
  have t3:decide (s.size<=a)=true:=by simp at h1 ⊢;omega
  clear h2;go_enter Tryz.func50,Tryz.ntmps50;go_wp2_with fail;go_quiet (fail)
  go_wp2
  go_ret;exact⟨rfl,_,rfl⟩
 |cons c u=>
  simp only[Jl] at h1;have hlt:a<s.size:=by omega
  have t3:decide (s.size<=a)=false:=by simp;omega
  have hix:∀h,s[a]'h=c:=λh=>by
   have:s.data.toList[a]? =some c:=by
    have e:(s.data.toList.drop a)[0]? =some c:=by rw[h2];rfl
    rw[Kf] at e;simpa using e
   obtain⟨_,e⟩:=Jm.1 this;exact e
  have hc256:=c.toNat_lt;have hwr:wrap64 (c.toNat:Int)=c.toNat:=by unfold wrap64;omega
  clear h2;go_enter Tryz.func50,Tryz.ntmps50;go_wp2_with fail;go_quiet (fail)
  go_wp2
  rename Nat=>n1
  go_quiet (fail)
  go_wp2
  go_ret;exact⟨rfl,_,World.drewN_drewN _ _ _⟩
theorem lh{rb:Nat}{s:ByteArray}{c l:Nat}{w:World}(h:RdB w rb s c l):
  Calls Tryz.prog 49 #[.pointer (some ⟨rb,0,none⟩)] w λe w'=>e=.returned (.tuple #[])/\∃n,w'=w.drewN n:=by
 have H:=Jf h;clear h;go_enter Tryz.func49,Tryz.ntmps49;go_wp2_with fail
 go_loopg [] 1 (λk wr=>k=1/\wr=w)
 case atStart=>exact⟨rfl,rfl⟩
 case round=>
  obtain⟨rfl,rfl⟩:=hrel;go_wp2_with fail;refine(iu H.out).mono ?_;rintro e w1 ⟨rfl,n1,rfl⟩;go_wp2_with fail;refine(iu (H.out.drewN _)).mono ?_;rintro e w1 ⟨rfl,n2,rfl⟩;go_wp2_with fail;refine(iu (H.out.drewN _)).mono ?_;rintro e w1 ⟨rfl,n3,rfl⟩;go_wp2_with fail;refine(iu (H.out.drewN _)).mono ?_;rintro e w1 ⟨rfl,n4,rfl⟩;go_wp2_with fail
  go_end0
  exact⟨rfl,_,rfl⟩
def Gx(rb:Nat)(s:ByteArray)(t:Jd)(d:Nat)(w:World)(e:Ending)(w':World):Prop:=
 e=.returned (.tuple #[])/\(∃a,Rd w' rb s a (Ps.skip t) d)/\ak rb w w'
def En(rb:Nat)(s:ByteArray)(t:Jd)(d:Nat)(w:World)(k:Nat)(wr:World):Prop:=
 ∃a u,Rd wr rb s a u d/\u.length=k/\Ps.skip u=Ps.skip t/\ak rb w wr
theorem dP{rb:Nat}{s:ByteArray}{a:Nat}{t:Jd}{d:Nat}{w:World}(h:Rd w rb s a t d)(hs:s.size<=1000000000000):
  Calls Tryz.prog 49 #[.pointer (some ⟨rb,0,none⟩)] w (Gx rb s t d w):=by
 have H:=Jf h;clear h;go_enter Tryz.func49,Tryz.ntmps49;go_wp2_with fail
 go_loopg [] t.length (En rb s t d w)
 case atStart=>exact⟨a,t,H.out,rfl,rfl,.refl _ _⟩
 case round=>
  obtain⟨a1,u,hR,hk,hsk,hW⟩:=hrel;have HR:=Jf hR;have HK:=Jf hk;have HSK:=Jf hsk;have HW:=Jf hW;clear hR hk hsk hW;cases u with
  |nil=>
   have HP:=Jf (λn=>bS (HR.out.drewN n) hs);have HP0:=Jf (bS HR.out hs);simp only[hd] at HP HP0;go_wp2_with fail;refine HP0.out.mono ?_;rintro e w1 ⟨rfl,n1,rfl⟩;go_wp2_with fail;refine(HP.out _).mono ?_;rintro e w1 ⟨rfl,n2,rfl⟩;go_wp2_with fail;refine(HP.out _).mono ?_;rintro e w1 ⟨rfl,n3,rfl⟩;go_wp2_with fail;refine(HP.out _).mono ?_;rintro e w1 ⟨rfl,n4,rfl⟩;go_wp2_with fail
   go_end0
   exact⟨rfl,⟨a1,by rw[<-HSK.out];exact HR.out⟩,HW.out.drewN _⟩
  |cons c v=>
   simp only[Jl] at HK;have HP:=Jf (λn=>bS (HR.out.drewN n) hs);have HP0:=Jf (bS HR.out hs);simp only[hd] at HP HP0;have ha1:a1+(v.length+1)=s.size:=by have:=HR.out.2.1;simpa using this
   obtain⟨c0,c1,c2,c3,c4⟩:=HR.out.1.cJ;have hf:=HR.out.1.frozen;have HSTEP:=Jf (λn=>(HR.out.drewN n).step);by_cases hb:Ps.blank c=true
   .have HSK2:=Jf (show Ps.skip v=Ps.skip t from by rw[<-HSK.out,Ps.gM,Jo hb]);have hways:c=32\/c=9\/c=10\/c=13:=by
     simpa[Ps.blank,or_assoc] using hb
    clear hb;rcases hways with rfl|rfl|rfl|rfl
    .go_wp2_with fail;refine HP0.out.mono ?_;rintro e w1 ⟨rfl,n1,rfl⟩;go_wp2_with fail
     go_roundg v.length
     case rel=>exact⟨a1+1,v,HSTEP.out _,rfl,HSK2.out,(HW.out.drewN _).set _ _⟩
     case measure=>have:=HK.out;omega
    .go_wp2_with fail;refine HP0.out.mono ?_;rintro e w1 ⟨rfl,n1,rfl⟩;go_wp2_with fail;refine(HP.out _).mono ?_;rintro e w1 ⟨rfl,n2,rfl⟩;go_wp2_with fail
     go_roundg v.length
     case rel=>exact⟨a1+1,v,HSTEP.out _,rfl,HSK2.out,(HW.out.drewN _).set _ _⟩
     case measure=>have:=HK.out;omega
    .go_wp2_with fail;refine HP0.out.mono ?_;rintro e w1 ⟨rfl,n1,rfl⟩;go_wp2_with fail;refine(HP.out _).mono ?_;rintro e w1 ⟨rfl,n2,rfl⟩;go_wp2_with fail;refine(HP.out _).mono ?_;rintro e w1 ⟨rfl,n3,rfl⟩;go_wp2_with fail
     go_roundg v.length
     case rel=>exact⟨a1+1,v,HSTEP.out _,rfl,HSK2.out,(HW.out.drewN _).set _ _⟩
     case measure=>have:=HK.out;omega
    .go_wp2_with fail;refine HP0.out.mono ?_;rintro e w1 ⟨rfl,n1,rfl⟩;go_wp2_with fail;refine(HP.out _).mono ?_;rintro e w1 ⟨rfl,n2,rfl⟩;go_wp2_with fail;refine(HP.out _).mono ?_;rintro e w1 ⟨rfl,n3,rfl⟩;go_wp2_with fail;refine(HP.out _).mono ?_;rintro e w1 ⟨rfl,n4,rfl⟩;go_wp2_with fail
     go_roundg v.length
     case rel=>exact⟨a1+1,v,HSTEP.out _,rfl,HSK2.out,(HW.out.drewN _).set _ _⟩
     case measure=>have:=HK.out;omega
   .have HSK2:=Jf (show Ps.skip t=c::v from by rw[<-HSK.out,Ps.gM,Jj hb]);have hn:¬c=32/\¬c=9/\¬c=10/\¬c=13:=by
     simpa[Ps.blank,and_assoc] using hb
    have t1:((c.toNat:Int)==32)=false:=bE 32 hn.1;have t2:((c.toNat:Int)==9)=false:=bE 9 hn.2.1;have t3:((c.toNat:Int)==10)=false:=bE 10 hn.2.2.1;have t4:((c.toNat:Int)==13)=false:=bE 13 hn.2.2.2;clear hb hn;go_wp2_with fail;refine HP0.out.mono ?_;rintro e w1 ⟨rfl,n1,rfl⟩;go_wp2_with fail;refine(HP.out _).mono ?_;rintro e w1 ⟨rfl,n2,rfl⟩;go_wp2_with fail;refine(HP.out _).mono ?_;rintro e w1 ⟨rfl,n3,rfl⟩;go_wp2_with fail;refine(HP.out _).mono ?_;rintro e w1 ⟨rfl,n4,rfl⟩;go_wp2_with fail
    go_end0
    exact⟨rfl,⟨a1,by rw[HSK2.out];exact HR.out⟩,HW.out.drewN _⟩
def bo{α:Type}(rb:Nat)(s:ByteArray)(d:Nat)(w':World):Ps.R α->Prop
 |.ok _ u=>∃a,Rd w' rb s a u d
 |.bad c l=>RdB w' rb s c l
theorem bo.drewN{α:Type}{rb:Nat}{s:ByteArray}{d:Nat}{w':World}{r:Ps.R α}(h:bo rb s d w' r)(n:Nat):bo rb s d (w'.drewN n) r:=by
 cases r with
 |ok v u=>exact h
 |bad c l=>exact h
theorem sS{rb:Nat}{s:ByteArray}{c l:Nat}{w:World}(h:RdB w rb s c l)(q:ByteArray)(hq:0<q.size):
  Calls Tryz.prog 54 #[.pointer (some ⟨rb,0,none⟩),.string q] w λe w'=>e=.returned (.tuple #[])/\w=w':=by
 obtain⟨a,d,p,hb,h1,h2⟩:=h;obtain⟨c0,c1,c2,c3,c4⟩:=hb.cJ;have t1:((c:Int)==0)=false:=by simp;omega
 clear hb h1 h2;go_enter Tryz.func54,Tryz.ntmps54;go_wp2_with fail
 go_loopw [4] (λi wr=>i=.int .i64 0/\wr=w) (λ_ _=>1)
 case atStart=>exact⟨rfl,rfl⟩
 case round=>
  obtain⟨rfl,rfl⟩:=hrel;go_wp2_with fail
  go_end0
  exact⟨rfl,rfl⟩
def Ii(rb:Nat)(s:ByteArray)(q t:Jd)(d:Nat)(w:World)(e:Ending)(w':World):Prop:=
 e=.returned (.tuple #[])/\bo rb s d w' (Ps.lit q t)/\ak rb w w'
def GH(rb:Nat)(s:ByteArray)(q t:Jd)(d:Nat)(w:World)(i:Value)(wr:World):Prop:=
 ∃j:Nat,j<=q.length/\i=.int .i64 j/\ak rb w wr/\((∃a u,Rd wr rb s a u d/\Ps.lit q t=Ps.lit (q.drop j) u)\/(∃l,RdB wr rb s 1 l/\Ps.lit q t=.bad 1 l))
theorem qe{rb:Nat}{s:ByteArray}{a:Nat}{t:Jd}{d:Nat}{w:World}(h:Rd w rb s a t d)(hs:s.size<=1000000000000)(q:ByteArray)(hq:q.size<=1000):
  Calls Tryz.prog 54 #[.pointer (some ⟨rb,0,none⟩),.string q] w (Ii rb s q.data.toList t d w):=by
 have H:=Jf h;clear h;have HQL:=Jf (show q.data.toList.length=q.size from(L6 q).symm);go_enter Tryz.func54,Tryz.ntmps54;go_wp2_with fail
 go_loopw [4] (GH rb s q.data.toList t d w) (λi _=>q.size-(intOf i).toNat)
 case atStart=>exact⟨0,JE _,rfl,.refl _ _,.inl ⟨a,t,H.out,rfl⟩⟩
 case round=>
  obtain⟨j,hj,rfl,hW,hm⟩:=hrel;rw[HQL.out] at hj;have HW:=Jf hW;clear hW;rcases hm with⟨a1,u,hR,hl⟩|⟨l,hR,hl⟩
  .have HR:=Jf hR;have HL:=Jf hl;obtain⟨c0,c1,c2,c3,c4⟩:=hR.1.cJ;have hf:=hR.1.frozen;have ha1:=hR.2.1;have HA1:=Jf ha1;clear hR hl ha1;by_cases hlt:j<q.size
   .have hdr:=drop_at q j hlt;have hix:∀h,q[j]'h=q.data.toList[j]'(et hlt):=λ_=>rfl;have HDR:=Jf hdr;clear hdr;generalize q.data.toList[j]'(et hlt)=b at hix HDR;have hb256:=b.toNat_lt;have hwr:wrap64 (b.toNat:Int)=b.toNat:=by unfold wrap64;omega
    cases u with
    |nil=>
     have HE:=Jf (show Ps.lit q.data.toList t=.bad 1 0 by rw[HL.out,HDR.out];rfl);have hne:((-1:Int)==(b.toNat:Int))=false:=by rw[Jp];omega
     have hne2:((-1:Int) !=(b.toNat:Int))=true:=by rw[bne,hne];rfl
     have HP:=Jf (λn=>bS (HR.out.drewN n) hs);simp only[hd] at HP;go_wp2_with fail;go_quiet ((go_at_call 50;exact MS (HP.out _)));go_wp2_with fail;refine(iN (HR.out.drewN _) a1 1 0 (by have:=HA1.out;simpa using this) (Jh _)).mono ?_;rintro e w2 ⟨rfl,hRB,hS⟩;have HRB:=Jf hRB;have HS:=Jf ((HW.out.drewN _).trans hS);clear hRB hS c0 c1 c2 c3 c4 hf;obtain⟨a2,d2,p2,hB,-,-⟩:=HRB.out;obtain⟨c0,c1,c2,c3,c4⟩:=hB.cJ;have hf:=hB.frozen;clear hB;go_wp2_with fail;go_roundw;case rel=>exact⟨j+1,by rw[HQL.out];omega,by go_num,HS.out.set _ _,.inr ⟨0,HRB.out.setAt _,HE.out⟩⟩
     case measure=>simp[intOf];omega
    |cons c v=>
     simp only[Jl] at HA1;have HP:=Jf (λn=>bS (HR.out.drewN n) hs);simp only[hd] at HP;have hav:a1+(v.length+1)=s.size:=HA1.out;by_cases hcb:c=b
     .subst hcb;have HE:=Jf (show Ps.lit q.data.toList t=Ps.lit (q.data.toList.drop (j+1)) v by rw[HL.out,HDR.out];simp[Ps.lit]);have hne:((c.toNat:Int)==(c.toNat:Int))=true:=by simp
      have hne2:((c.toNat:Int) !=(c.toNat:Int))=false:=by simp
      have HSTEP:=Jf (λn=>(HR.out.drewN n).step);go_wp2_with fail;go_quiet ((go_at_call 50;exact MS (HP.out _)));go_wp2_with fail;go_roundw;case rel=>exact⟨j+1,by rw[HQL.out];omega,by go_num,(HW.out.drewN _).set _ _,.inl ⟨a1+1,v,HSTEP.out _,HE.out⟩⟩
      case measure=>simp[intOf];omega
     .have HE:=Jf (show Ps.lit q.data.toList t=.bad 1 (v.length+1) by rw[HL.out,HDR.out];simp[Ps.lit,hcb]);have hne:((c.toNat:Int)==(b.toNat:Int))=false:=bE b hcb;have hne2:((c.toNat:Int) !=(b.toNat:Int))=true:=by rw[bne,hne];rfl
      clear hcb;go_wp2_with fail;go_quiet ((go_at_call 50;exact MS (HP.out _)));go_wp2_with fail;refine(iN (HR.out.drewN _) a1 1 (v.length+1) (by have:=HA1.out;simpa using this) (Jh _)).mono ?_;rintro e w2 ⟨rfl,hRB,hS⟩;have HRB:=Jf hRB;have HS:=Jf ((HW.out.drewN _).trans hS);clear hRB hS c0 c1 c2 c3 c4 hf;obtain⟨a2,d2,p2,hB,-,-⟩:=HRB.out;obtain⟨c0,c1,c2,c3,c4⟩:=hB.cJ;have hf:=hB.frozen;clear hB;go_wp2_with fail;go_roundw;case rel=>exact⟨j+1,by rw[HQL.out];omega,by go_num,HS.out.set _ _,.inr ⟨(v.length+1),HRB.out.setAt _,HE.out⟩⟩
      case measure=>simp[intOf];omega
   .obtain rfl:j=q.size:=by omega
    have HE:=Jf (show Ps.lit q.data.toList t=.ok () u by rw[HL.out,Kj (by rw[HQL.out];omega)];cases u<;>rfl);go_wp2_with fail
    go_end0
    exact⟨rfl,by rw[HE.out];exact⟨a1,HR.out⟩,HW.out⟩
  .have HE:=Jf hl;have HRB:=Jf hR;obtain⟨a2,d2,p2,hB,-,-⟩:=hR;obtain⟨c0,c1,c2,c3,c4⟩:=hB.cJ;clear hB hl;by_cases hlt:j<q.size
   .go_wp2_with fail
    go_end0
    exact⟨rfl,by rw[HE.out];exact HRB.out,HW.out⟩
   .have hlt':decide (j<q.size)=false:=by simpa using hlt
    go_wp2_with fail
    go_end0
    exact⟨rfl,by rw[HE.out];exact HRB.out,HW.out⟩
def kH(rb:Nat)(s:ByteArray)(a d:Nat)(w w':World):Prop:=
 (w'.cell? ⟨rb,0,none⟩=some (.string s)/\w'.cell? ⟨rb,1,none⟩=some (.int .i64 a)/\w'.cell? ⟨rb,2,none⟩=some (.int .i64 d)/\w'.cell? ⟨rb,3,none⟩=some (.int .i64 0)/\w'.cell? ⟨rb,4,none⟩=some (.int .i64 0))/\Below w.heap.size w w'
theorem kH.on{rb:Nat}{s:ByteArray}{a d:Nat}{w W w1:World}(h:kH rb s a d w W)(hb:Below W.heap.size W w1):kH rb s a d w w1:=by
 obtain⟨⟨h0,h1,h2,h3,h4⟩,h5⟩:=h;have hc:∀i v,W.cell? ⟨rb,i,none⟩=some v->w1.cell? ⟨rb,i,none⟩=some v:=λi v h=>(hb.cell (p:=⟨rb,i,none⟩) (Jn W _ h)).trans h;exact⟨⟨hc _ _ h0,hc _ _ h1,hc _ _ h2,hc _ _ h3,hc _ _ h4⟩,h5.trans (hb.mono h5.size)⟩
def Ig(rb:Nat)(s:ByteArray)(t:Jd)(d:Nat)(w:World)(e:Ending)(w':World):Prop:=
 ∃o:Jd,e=.returned (.string ⟨o.toArray⟩)/\(∀k u,Ps.bn t=.ok k u->o=k)/\bo rb s d w' (Ps.bn t)/\ak rb w w'
theorem Cj{rb:Nat}{s:ByteArray}{a:Nat}{t:Jd}{d:Nat}{w:World}(h:Rd w rb s a t d)(hs:s.size<=1000000):
  Calls Tryz.prog 53 #[.pointer (some ⟨rb,0,none⟩)] w (Ig rb s t d w):=by
 have H:=Jf h;obtain⟨c0,c1,c2,c3,c4⟩:=h.1.cJ;have hu:=Ps.lC s.data.toList a t h.2.2 (by rw[h.2.1];exact L6 s);have hal:a+t.length=s.size:=h.2.1;have hal2:a<=s.size:=by omega
 have HAL:=Jf hal;have HU:=Jf (λW=>sk s (a:Int) W hs (by omega) (by omega));have hlt:=h.lt;clear h hal;have ht0:kH rb s a d w w.drew:=⟨⟨c0,c1,c2,c3,c4⟩,(Ji _ _).drew⟩;have HT0:=Jf ht0;cases hq:Ps.bn t with
 |ok k u=>
  rw[hq] at hu;obtain⟨n,hun,h1,h2,h3,h4⟩:=hu;rw[hun] at HU;have HQ:=Jf hq;have hn:a+n<=s.size:=by rw[L6];omega
  have HE:=Jf (show a+n+u.length=s.size/\s.data.toList.drop (a+n)=u from⟨by rw[L6];exact h1,h2⟩);clear hun hq h1 h2 h3 h4;go_enter Tryz.func53,Tryz.ntmps53;go_wp2_with fail
  go_region_held3 (λw'=>(w'.cell? ⟨rb,0,none⟩=some (.string s)/\w'.cell? ⟨rb,1,none⟩=some (.int .i64 a)/\w'.cell? ⟨rb,2,none⟩=some (.int .i64 d)/\w'.cell? ⟨rb,3,none⟩=some (.int .i64 0)/\w'.cell? ⟨rb,4,none⟩=some (.int .i64 0))/\Below w.heap.size w w')
   ((show kH rb s a d w _;first|(with_reducible exact ht)|(with_reducible exact HT0.out)))
   (first|(go_at_call 87;refine(HU.out _).mono ?_;rintro e w2 ⟨rfl,hb2⟩;have ht:=kH.on (rb:=rb) (s:=s) (a:=a) (d:=d) (w:=w) (by with_reducible first|exact ht|exact HT0.out) hb2;clear hb2))
  have hbl:=ht.2;have HR:=Jf (H.out.on hbl);have HS:=Jf (ak.aJ (rb:=rb) hbl);clear ht0 c0 c1 c2 c3 c4;obtain⟨⟨c0,c1,c2,c3,c4⟩,_⟩:=ht;have hf:=HR.out.1.frozen;clear hbl;go_wp2_with fail;go_ret;exact⟨k,rfl,λk' u' e=>by rw[HQ.out] at e;exact(Ps.R.ok.inj e).1,by rw[HQ.out];exact⟨a+n,HR.out.goTo (by omega) HE.out.1 HE.out.2⟩,HS.out.set _ _⟩
 |bad k l=>
  rw[hq] at hu;obtain⟨p,hun,h1,h2,h3⟩:=hu;rw[hun] at HU;have HQ:=Jf hq;have HE:=Jf (show p+l=s.size/\1<=k from⟨by rw[L6];exact h2,by omega⟩);have hk:((k:Int)==0)=false:=by simp;omega
  have hk2:((k:Int) !=0)=true:=by simp;omega
  clear hun hq h1 h2 h3;go_enter Tryz.func53,Tryz.ntmps53;go_wp2_with fail
  go_region_held3 (λw'=>(w'.cell? ⟨rb,0,none⟩=some (.string s)/\w'.cell? ⟨rb,1,none⟩=some (.int .i64 a)/\w'.cell? ⟨rb,2,none⟩=some (.int .i64 d)/\w'.cell? ⟨rb,3,none⟩=some (.int .i64 0)/\w'.cell? ⟨rb,4,none⟩=some (.int .i64 0))/\Below w.heap.size w w')
   ((show kH rb s a d w _;first|(with_reducible exact ht)|(with_reducible exact HT0.out)))
   (first|(go_at_call 87;refine(HU.out _).mono ?_;rintro e w2 ⟨rfl,hb2⟩;have ht:=kH.on (rb:=rb) (s:=s) (a:=a) (d:=d) (w:=w) (by with_reducible first|exact ht|exact HT0.out) hb2;clear hb2))
  have hbl:=ht.2;have HR:=Jf (H.out.on hbl);have HS:=Jf (ak.aJ (rb:=rb) hbl);clear ht0 c0 c1 c2 c3 c4;obtain⟨⟨c0,c1,c2,c3,c4⟩,_⟩:=ht;clear hbl;go_wp2_with fail;refine(iN HR.out p k l HE.out.1 HE.out.2).mono ?_;rintro e w3 ⟨rfl,hRB,hS⟩;have HRB:=Jf hRB;have HS3:=Jf (HS.out.trans hS);clear hRB hS c0 c1 c2 c3 c4;obtain⟨a2,d2,p2,hB,-,-⟩:=HRB.out;obtain⟨c0,c1,c2,c3,c4⟩:=hB.cJ;have hf:=hB.frozen;clear hB;go_wp2_with fail;go_ret;exact⟨[],rfl,(λk' u' e=>by rw[HQ.out] at e;cases e),by rw[HQ.out];exact HRB.out.setAt _,HS3.out.set _ _⟩
def lX(rb:Nat)(s:ByteArray)(u:Jd)(d:Nat)(w:World)(e:Ending)(w':World):Prop:=
 e=.returned (.tuple #[])/\(if d=32 then RdB w' rb s 3 (u.length+1) else∃a,Rd w' rb s a (Ps.skip u) (d+1))/\ak rb w w'
theorem lX.bad{rb:Nat}{s:ByteArray}{u:Jd}{d:Nat}{w w':World}(hd:d=32)(h:RdB w' rb s 3 (u.length+1))(hs:ak rb w w'):lX rb s u d w (.returned (.tuple #[])) w':=⟨rfl,by rw[Jo hd];exact h,hs⟩
theorem lX.ok{rb:Nat}{s:ByteArray}{u:Jd}{d a:Nat}{w w':World}(hd:¬d=32)(h:Rd w' rb s a (Ps.skip u) (d+1))(hs:ak rb w w'):lX rb s u d w (.returned (.tuple #[])) w':=⟨rfl,by rw[Jj hd];exact⟨a,h⟩,hs⟩
theorem ly{rb:Nat}{s:ByteArray}{a:Nat}{c:UInt8}{u:Jd}{d:Nat}{w:World}(h:Rd w rb s a (c::u) d)(hs:s.size<=1000000)(hd:d<=32):
  Calls Tryz.prog 86 #[.pointer (some ⟨rb,0,none⟩)] w (lX rb s u d w):=by
 have H:=Jf h;obtain⟨c0,c1,c2,c3,c4⟩:=h.1.cJ;have hf:=h.1.frozen;have hal:a+(u.length+1)=s.size:=by simpa using h.2.1
 have hal2:a+1<=s.size:=by omega
 clear h;by_cases h32:d=32
 .subst h32;have HF:=Jf (iN H.out a 3 (u.length+1) hal (by omega));clear hal;go_enter Tryz.func86,Tryz.ntmps86;go_wp2_with fail;refine HF.out.mono ?_;rintro e w2 ⟨rfl,hRB,hS⟩;have HRB:=Jf hRB;have HS:=Jf hS;clear hRB hS c0 c1 c2 c3 c4 hf;obtain⟨a2,d2,p2,hB,h1,-⟩:=HRB.out;obtain⟨c0,c1,c2,c3,c4⟩:=hB.cJ;have hf:=hB.frozen;have hlt:=hB.lt;clear hB h1;have HFIN:=Jf (λx y=>(HRB.out.kp x).setAt y);go_wp2_with fail;refine(lh (HFIN.out _ _)).mono ?_;rintro e w3 ⟨rfl,n,rfl⟩;go_wp2_with fail
  go_end0
  exact lX.bad rfl (HFIN.out _ _) (((HS.out.set _ _).set _ _).drewN _)
 .have hd2:((d:Int)==32)=false:=by simp;omega
  have HD:=Jf h32;have HFIN:=Jf (show Rd ((w.setCell ⟨rb,2,none⟩ (.int .i64 ((d:Int)+1))).setCell ⟨rb,1,none⟩ (.int .i64 ((a:Int)+1))) rb s (a+1) u (d+1) from(H.out.kp (d+1)).step);clear h32 hal;go_enter Tryz.func86,Tryz.ntmps86;go_wp2_with fail;refine(dP HFIN.out (by omega)).mono ?_;rintro e w3 ⟨rfl,⟨a3,hR⟩,hS⟩;have HRR:=Jf hR;have HSS:=Jf hS;clear hR hS;go_wp2_with fail
  go_end0
  exact lX.ok HD.out HRR.out ((((ak.refl _ _).set _ _).set _ _).trans HSS.out)
end
