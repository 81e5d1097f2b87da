import Derived.Test.YtdhgmaonolgpnaaGreatDoorPq
import Derived.Test.YtdhgmaonolgpnaaGreatDoorMr
set_option linter.unusedSimpArgs false
set_option linter.unusedVariables false
set_option maxHeartbeats 2000000
set_option maxRecDepth 100000
namespace Go.Proofs.YtdhgmaonolgpnaaGreatDoor
section
open Go.RowKit Pt Js
theorem qR(k:Int)(b:Bool)(n:Nm.Num)(s:Jd)(l:List Vl)(m:List Js.Mem)(nm:Jd)(ns:List Jd):get (.mk k b n s l m) (nm::ns)=
  if k=4 then
   (match l[(index nm l.length false).1]? with
   |some x=>if(index nm l.length false).2=true then get x ns else none
   |none=>none)
  else match(Vl.mk k b n s l m).find nm with
   |some x=>get x ns
   |none=>none:=by
 rfl
theorem Blk.drewN{w:World}{g:Nat}{t:TypeId}{cs:Array Value}(h:Blk w g t cs)(n:Nat):Blk (w.drewN n) g t cs:=h
theorem G6{l:List Vl}{i:Nat}(h:i<l.length):l[i].size<=aH l:=by
 have h1:=B7 l i h;have h2:=G7 l (i+1);omega
def uI(c:Cl)(r:Option Vl)(w:World)(e:Ending)(w':World):Prop:=
 Below w.heap.size w w'/\((∃u y,r=some u/\e=.returned (.tuple #[y,.bool true])/\u.In c y)\/(r=none/\∃y,e=.returned (.tuple #[y,.bool false])/\Ps.mkN.In c y))
def GA(ns:List Jd):Prop:=∀(c:Cl) (v:Vl) (x:Value) (A:Option Addr) (e:Nat) (w:World),c.le w.cell?->v.In c x->Strs w.cell? A ns->ns.length<=e->e<=maxLen->(∀n∈ns,n.length<=1000000)->v.size<=1000000->
 Calls Tryz.prog 10 #[x,.slice A ns.length e] w (uI c (get v ns) w)
theorem AP:GA []:=by
  intro c v x A e w hcl hx hs he hm hns hv;obtain⟨k1,b1,n1,g1,x1,s1,A1,l1,p1,B1,m1,d1,rfl⟩:=In.cells hx;have HBLK:=Jf (Blk.cW w (.cells #[.int .i64 k1,b1,n1,g1,.int .i64 x1,s1,.slice A1 l1 p1,.slice B1 m1 d1] 31) 31 #[.int .i64 k1,b1,n1,g1,.int .i64 x1,s1,.slice A1 l1 p1,.slice B1 m1 d1]);have hb0:Below w.heap.size w ((w.alloc (.cells #[.int .i64 k1,b1,n1,g1,.int .i64 x1,s1,.slice A1 l1 p1,.slice B1 m1 d1] 31)).alloc (.cells #[.int .i64 k1,b1,n1,g1,.int .i64 x1,s1,.slice A1 l1 p1,.slice B1 m1 d1] 31)):=aY w _ _;have HB0:=Jf hb0;have HX:=Jf hx;have HG:=Jf (show get v []=some v by cases v;rfl);clear hx hs hns hb0;go_enter Tryz.func10,Tryz.ntmps10;go_wp2_with fail;refine Ju (aM (l:=[_,_,_,_,_,_,_,_]) rfl _ _ _ rfl HBLK.out Tryz.underlying31 rfl (by kernel_rfl)) rfl ?_;exact⟨HB0.out,.inl ⟨v,_,HG.out,rfl,HX.out⟩⟩
theorem yv(nm:Jd)(ns:List Jd)(ih:GA ns)(c:Cl)(b:Bool)(n:Nm.Num)(s:Jd)(l:List Vl)(m:List Js.Mem)(x:Value)(A:Option Addr)(e:Nat)(w:World)
  (hcl:c.le w.cell?) (hx:(Vl.mk 4 b n s l m).In c x) (hs:Strs w.cell? A (nm::ns)) (he:(nm::ns).length<=e) (hm:e<=maxLen) (hns:∀n∈nm::ns,n.length<=1000000) (hv:(Vl.mk 4 b n s l m).size<=1000000):
  Calls Tryz.prog 10 #[x,.slice A (nm::ns).length e] w (uI c (get (Vl.mk 4 b n s l m) (nm::ns)) w):=by
  obtain⟨A',e',B',d',rfl,q1,q2,q3,q4,q5,q6⟩:=In.form hx;obtain⟨g0,o0,rfl,hc0⟩:=hs 0 nm rfl;rw[Kx] at hc0;simp only[Jl] at he;have hb0:Below w.heap.size w ((w.alloc (.cells #[.int .i64 4,b,n.neg,n.digits,.int .i64 n.exp,s,.slice A' l.length e',.slice B' m.length d'] 31)).alloc (.cells #[.int .i64 0,false,false,.string ⟨#[]⟩,.int .i64 0,.string ⟨#[]⟩,.slice none 0 0,.slice none 0 0] 31)):=aY w _ _;have HB0:=Jf hb0;have hc1:=aa hb0 _ _ hc0;have HZ:=Jf (Blk.cW w (.cells #[.int .i64 4,b,n.neg,n.digits,.int .i64 n.exp,s,.slice A' l.length e',.slice B' m.length d'] 31) 31 #[.int .i64 0,false,false,.string ⟨#[]⟩,.int .i64 0,.string ⟨#[]⟩,.slice none 0 0,.slice none 0 0]);have HBX:=Jf ((Blk.new w 31 #[.int .i64 4,b,n.neg,n.digits,.int .i64 n.exp,s,.slice A' l.length e',.slice B' m.length d']).alloc (.cells #[.int .i64 0,false,false,.string ⟨#[]⟩,.int .i64 0,.string ⟨#[]⟩,.slice none 0 0,.slice none 0 0] 31));have hll:l.length<=1000000:=by have:=cS l;simp only[Vl.size] at hv;omega
  have hnl:=hns nm (by simp);have HIX:=Jf (λW=>vL nm l.length false W (by omega) (by omega));unfold maxLen at hm q2 q4;have HS:=Jf hs;have H5:=Jf (show SlL c A' l from q5);have HX:=Jf hx;clear hx hs hb0 q5 q6 hc0;obtain⟨q,hq⟩:∃q,index nm l.length false=q:=⟨_,rfl⟩;obtain⟨qi,qb⟩:=q;have HQ:=Jf hq;rw[hq] at HIX;simp only at HIX;clear hq;go_enter Tryz.func10,Tryz.ntmps10;go_wp2_with fail;go_quiet ((go_at_call 20;refine Calls.quiet_of_same (HIX.out _)));cases qb with
  |false=>
   have HGN:=Jf (show get (.mk 4 b n s l m) (nm::ns)=none by
    rw[qR,Jo rfl,HQ.out];cases l[(qi,false).1]? <;>rfl)
   go_wp2_with fail;refine Ju (aM (l:=[_,_,_,_,_,_,_,_]) rfl _ _ _ rfl ((HZ.out.drewN nq).bg _ _ _ _ _ _ _ _) Tryz.underlying31 rfl (by kernel_rfl)) rfl ?_;exact⟨aX (below_drewN HB0.out nq) (by omega) _ _ _ _ _ _ _ _,.inr ⟨HGN.out,_,rfl,dw _ 0 false Nm.Num.zero []⟩⟩
  |true=>
   have hlt:=xJ HQ.out;obtain⟨g,o,y,rfl,hy,hc⟩:=H5.out qi _ (Jg hlt);obtain⟨j1,j2,j3,j4,j5,j6,j7,j8,j9,ja,jb,jc,rfl⟩:=In.cells hy;have HGN:=Jf (show get (.mk 4 b n s l m) (nm::ns)=get l[qi] ns by
    rw[qR,Jo rfl,HQ.out];simp only[Jg hlt];rfl)
   have HY:=Jf hy;have HU:=Jf (show l[qi].size<=1000000 by have:=G6 hlt;simp only[Vl.size] at hv;omega);have hle:=aa (below_drewN HB0.out nq);obtain⟨e0,e1,e2,e3,e4,e5,e6,e7⟩:=(hc.keep (hcl.trans hle)).eight;have hz:=(HZ.out.drewN nq);have hbx:=(HBX.out.drewN nq);have HB2:=Jf (below_drewN HB0.out nq);have hbx6:=hbx.cell 6;obtain⟨z0,z1,z2,z3,z4,z5,z6,z7⟩:=hz.eight;have zf:=hz.frozen;have zl:=hz.lt;have HZ2:=Jf hz;clear hc hy hle hbx hz HZ HBX HB0 hc1;go_upto_region 7 with(fail);generalize World.drewN _ nq=w2 at*
   generalize l[qi]=u at*
   have HCALL:=Jf (λ(W:World) (hbW:Below w2.heap.size w2 W) B2 d2 (h1:Strs W.cell? B2 ns) (h2:ns.length<=d2) (h3:d2<=maxLen)=>ih c u _ B2 d2 W (hcl.trans ((aa HB2.out).trans (aa hbW))) HY.out h1 h2 h3 (λn hn=>hns n (Lv _ hn)) HU.out);have hs1:(1:Int)<=(ns.length:Int)+1:=by omega
   obtain⟨AJ,hAJ⟩:∃AJ,(if e=1 then some (⟨g0,o0,none⟩:Addr) else some ⟨g0,o0+1,none⟩)=AJ:=⟨_,rfl⟩;have HSJ:=Jf (show Strs w2.cell? AJ ns by
    intro i nn hi;have hil:=(Jm.1 hi).1;obtain⟨g1,o1,h1,h2⟩:=HS.out (i+1) nn (by simpa using hi);injection h1 with h1;injection h1 with h1 h3 _;subst h1 h3;refine⟨g0,o0+1,by rw[<-hAJ,Jj (by omega)],?_⟩;have:=aa HB2.out _ _ h2;rw[show o0+(i+1)=o0+1+i by omega] at this;exact this)
   have HCALL2:=Jf (HCALL.out w2.drew ((Ji _ _).drew) AJ (e-1) HSJ.out (by omega) (by unfold maxLen;omega));clear HCALL
   go_region_law (first|(go_simp;go_at_call 10;refine HCALL2.out.mono ?_;rintro e9 w9 ⟨hb9,hr9⟩;have hr8:∃y bb,e9=.returned (.tuple #[y,.bool bb])/\((∃r,get u ns=some r/\bb=true/\r.In c y)\/(get u ns=none/\bb=false/\Ps.mkN.In c y)):=(by rcases hr9 with⟨r,y,h1,h2,h3⟩|⟨h1,y,h2,h3⟩;exact⟨y,true,h2,.inl ⟨r,h1,rfl,h3⟩⟩;exact⟨y,false,h2,.inr ⟨h1,rfl,h3⟩⟩);clear hr9;obtain⟨y,bb,rfl,hr⟩:=hr8;obtain⟨i1,i2,i3,i4,i5,i6,i7,i8,i9,ia,ib,ic,rfl⟩:∃i1 i2 i3 i4 i5 i6 i7 i8 i9 ia ib ic,y=vlV i1 i2 i3 i4 i5 i6 (.slice i7 i8 i9) (.slice ia ib ic):=(by rcases hr with⟨r,_,_,h⟩|⟨_,_,h⟩<;>exact In.cells h);have HR9:=Jf hr;have hb9:Below w2.heap.size w2 w9:=((Ji w2.heap.size w2).drew).trans (show Below w2.heap.size w2.drew w9 from hb9);have HB9:=Jf hb9;have hz9:=HZ2.out.below hb9 zl;obtain⟨y0,y1,y2,y3,y4,y5,y6,y7⟩:=hz9.eight;have yf:=hz9.frozen;have yl:=hz9.lt;have HZ9:=Jf hz9;clear hr hb9 hz9))
   go_wp2_with fail;refine Ju (aM (l:=[_,_,_,_,_,_,_,_]) rfl _ _ _ rfl (HZ9.out.bg _ _ _ _ _ _ _ _) Tryz.underlying31 rfl (by kernel_rfl)) rfl ?_;have hbf:=aX (HB2.out.trans (HB9.out.mono HB2.out.size)) (g:=w.heap.size+1) (by omega) (.int .i64 i1) (.bool i2) (.bool i3) (.string ⟨i4.toArray⟩) (.int .i64 i5) (.string ⟨i6.toArray⟩) (.slice i7 i8 i9) (.slice ia ib ic);rcases HR9.out with⟨r,h1,rfl,h3⟩|⟨h1,rfl,h3⟩
   .exact⟨hbf,.inl ⟨r,_,HGN.out.trans h1,rfl,h3⟩⟩
   .exact⟨hbf,.inr ⟨HGN.out.trans h1,_,rfl,h3⟩⟩
def fp(c:Cl)(r:Option Vl)(w:World)(e:Ending)(w':World):Prop:=
 ∃x,e=.returned (.tuple #[x,.bool r.isSome])/\(r.getD yh).In c x/\Below w.heap.size w w'
theorem fp.no{c:Cl}{r:Option Vl}{w w':World}(h:r=none)(hb:Below w.heap.size w w'):fp c r w (.returned (.tuple #[zeroV,.bool false])) w':=by
 subst h;exact⟨_,rfl,wF _,hb⟩
theorem fp.yes{c:Cl}{r:Option Vl}{u:Vl}{w w':World}{x:Value}(h:r=some u)(hx:u.In c x)(hb:Below w.heap.size w w'):fp c r w (.returned (.tuple #[x,.bool true])) w':=by
 subst h;exact⟨_,rfl,hx,hb⟩
theorem vK(c:Cl)(v:Vl)(key:Jd)(x:Value)(w:World)(hcl:c.le w.cell?)(hx:v.In c x):
  Calls Tryz.prog 21 #[x,.string ⟨key.toArray⟩] w (fp c (v.find key) w):=by
 obtain⟨k,b,n,s,l,m⟩:=v;obtain⟨A,e,B,d,rfl,q1,q2,q3,q4,q5,q6⟩:=In.form hx;have H6:=Jf (show SlM c B m from q6);have HB2:Below w.heap.size w _:=(((Ji _ _).alloc (Jh _) (.cells #[.int .i64 k,b,n.neg,n.digits,.int .i64 n.exp,s,.slice A l.length e,.slice B m.length d] 31)).alloc (by simp) (.cells #[.int .i64 0,false,false,.string ⟨#[]⟩,.int .i64 0,.string ⟨#[]⟩,.slice none 0 0,.slice none 0 0] 31));clear q5 q6 hx;unfold maxLen at q2 q4;go_enter Tryz.func21,Tryz.ntmps21;go_wp2_with fail
 go_loopw [6] (BA w k b n s (.slice A l.length e) (.slice B m.length d) m key) (λi _=>m.length-(intOf i).toNat)
 case atStart=>exact⟨0,by omega,rfl,λ_ q hq=>by simp at hq,rfl⟩
 case round=>
  obtain⟨j,hj,rfl,hno,rfl⟩:=hrel;have HNO:=Jf hno;clear hno;by_cases hlt:j<m.length
  .have hp:=Jg hlt;obtain⟨g,o,y,rfl,hy,hk,hc⟩:=H6.out j _ hp;obtain⟨k1,b1,n1,g1,x1,s1,A1,l1,p1,B1,m1,d1,rfl⟩:=In.cells hy;obtain⟨e0,e1,e2,e3,e4,e5,e6,e7⟩:=(hc.keep hcl).eight;have hk:=hcl _ _ hk;have hgw:g<w.heap.size:=Jn w _ hk;have HY:=Jf hy;have HNX:=Jf (show∀q∈m.take (j+1),q∈m.take j\/q=m[j] by
    intro q hq;rw[Jr hlt] at hq;rcases Jq.1 hq with h|h
    .exact .inl h
    .exact .inr (Jt.1 h))
   have HFI:=Jf (λh=>qN hp h);clear hp hy hc;by_cases h5:k=5
   .subst h5;by_cases hkey:m[j].1=key
    .have HF:=Jf (show(Vl.mk 5 b n s l m).find key=some m[j].2 from by
      have:=HFI.out (λq hq=>by rw[hkey];exact HNO.out rfl q hq);rw[hkey] at this;simpa[Vl.find] using this)
     have kk:(m[j].1==key)=true:=by simpa using hkey
     clear HFI hkey;generalize m[j].1=mk at*
     have hblk:=Blk.cW w (.cells #[.int .i64 5,b,n.neg,n.digits,.int .i64 n.exp,s,.slice A l.length e,.slice (some ⟨g,o,none⟩) m.length d] 31) 31 #[.int .i64 k1,b1,n1,g1,.int .i64 x1,s1,.slice A1 l1 p1,.slice B1 m1 d1];have HBLK:=Jf hblk;clear hblk;go_wp2_with fail;refine Ju (aM (l:=[_,_,_,_,_,_,_,_]) rfl _ _ _ rfl HBLK.out Tryz.underlying31 rfl (by kernel_rfl)) rfl ?_;have hbb:Below w.heap.size w _:=(((Ji _ _).alloc (Jh _) (.cells #[.int .i64 5,b,n.neg,n.digits,.int .i64 n.exp,s,.slice A l.length e,.slice (some ⟨g,o,none⟩) m.length d] 31)).alloc (by simp) (.cells #[.int .i64 k1,b1,n1,g1,.int .i64 x1,s1,.slice A1 l1 p1,.slice B1 m1 d1] 31));exact fp.yes HF.out HY.out hbb
    .have HK:=Jf hkey;have kk:(m[j].1==key)=false:=by simpa using hkey
     have HREL:=Jf (show(5:Int)=5->∀q∈m.take (j+1),q.1≠key fromλ_ q hq=>(HNX.out q hq).elim (HNO.out rfl q) (λe=>by rw[e];exact hkey));clear HFI hkey;generalize m[j].1=mk at*
     go_wp2_with fail;go_roundw;case rel=>exact⟨j+1,by omega,by go_num,HREL.out,rfl⟩
     case measure=>simp[intOf];omega
   .have t1:(k==5)=false:=by simpa using h5
    have HREL:=Jf (show k=5->∀q∈m.take (j+1),q.1≠key fromλh=>absurd h h5);clear h5 HFI;go_wp2_with fail;go_roundw;case rel=>exact⟨j+1,by omega,by go_num,HREL.out,rfl⟩
    case measure=>simp[intOf];omega
  .obtain rfl:j=m.length:=by omega
   have HF:=Jf (show(Vl.mk k b n s l m).find key=none from by
    unfold Vl.find;simp only;split
    .rename_i h5;exact oe (λp hp=>HNO.out h5 p (by rw[JC];exact hp))
    .rfl)
   have hblk:=Blk.cW w (.cells #[.int .i64 k,b,n.neg,n.digits,.int .i64 n.exp,s,.slice A l.length e,.slice B m.length d] 31) 31 #[.int .i64 0,false,false,.string ⟨#[]⟩,.int .i64 0,.string ⟨#[]⟩,.slice none 0 0,.slice none 0 0];have HBLK:=Jf hblk;clear hblk;go_wp2_with fail;refine Ju (aM (l:=[_,_,_,_,_,_,_,_]) rfl _ _ _ rfl HBLK.out Tryz.underlying31 rfl (by kernel_rfl)) rfl ?_;exact fp.no HF.out HB2
def Found(c:Cl)(r:Option Vl)(rb:Bool)(n0:Nat)(w2:World)(v8 v9:Value)(wc:World):Prop:=
 ∃(p8:Nat) (cs:Array Value),v8=.pointer (some ⟨p8,0,none⟩)/\v9=.bool rb/\Blk wc p8 31 cs/\(r.getD yh).In c (.agg cs)/\Blk wc (n0+1) 31 #[.int .i64 0,false,false,.string ⟨#[]⟩,.int .i64 0,.string ⟨#[]⟩,.slice none 0 0,.slice none 0 0]/\Below w2.heap.size w2 wc
theorem Blk.Jb{w:World}{g h:Nat}{t:TypeId}{cs:Array Value}(hb:Blk w g t cs)(hn:g≠h)(v0 v1 v2 v3 v4 v5 v6 v7:Value):Blk (Go.Proofs.YtdhgmaonolgpnaaGreatDoor.bg w h v0 v1 v2 v3 v4 v5 v6 v7) g t cs:=by
 unfold Blk;rw[aF _ _ _ hn];exact hb
theorem G8{m:List Js.Mem}{p:Js.Mem}(h:p∈m):p.2.size<=aE m:=by
 obtain⟨i,hi,rfl⟩:=LG h;have h1:=B8 m i hi;have h2:=G9 m (i+1);omega
theorem CR{v u:Vl}{key:Jd}(h:v.find key=some u):u.size<=v.size:=by
 obtain⟨k,b,n,s,l,m⟩:=v;unfold Vl.find at h;simp only at h;split at h
 .unfold Js.find at h;obtain⟨p,hp,rfl⟩:=Kd.1 h;have:=G8 (KI hp);simp only[Vl.size];omega
 .cases h
theorem tw(nm:Jd)(ns:List Jd)(ih:GA ns)(c:Cl)(k:Int)(hk:¬k=4)(b:Bool)(n:Nm.Num)(s:Jd)(l:List Vl)(m:List Js.Mem)(x:Value)(A:Option Addr)(e:Nat)(w:World)
  (hcl:c.le w.cell?) (hx:(Vl.mk k b n s l m).In c x) (hs:Strs w.cell? A (nm::ns)) (he:(nm::ns).length<=e) (hm:e<=maxLen) (hns:∀n∈nm::ns,n.length<=1000000) (hv:(Vl.mk k b n s l m).size<=1000000):
  Calls Tryz.prog 10 #[x,.slice A (nm::ns).length e] w (uI c (get (Vl.mk k b n s l m) (nm::ns)) w):=by
 have HFI:=Jf (λW (h:Below w.heap.size w W)=>vK c (Vl.mk k b n s l m) nm x W (hcl.trans (aa h)) hx);obtain⟨A',e',B',d',rfl,q1,q2,q3,q4,q5,q6⟩:=In.form hx;obtain⟨g0,o0,rfl,hc0⟩:=hs 0 nm rfl;rw[Kx] at hc0;simp only[Jl] at he;have hb0:Below w.heap.size w ((w.alloc (.cells #[.int .i64 k,b,n.neg,n.digits,.int .i64 n.exp,s,.slice A' l.length e',.slice B' m.length d'] 31)).alloc (.cells #[.int .i64 0,false,false,.string ⟨#[]⟩,.int .i64 0,.string ⟨#[]⟩,.slice none 0 0,.slice none 0 0] 31)):=aY w _ _;have HB0:=Jf hb0;have hc1:=aa hb0 _ _ hc0;have HZ:=Jf (Blk.cW w (.cells #[.int .i64 k,b,n.neg,n.digits,.int .i64 n.exp,s,.slice A' l.length e',.slice B' m.length d'] 31) 31 #[.int .i64 0,false,false,.string ⟨#[]⟩,.int .i64 0,.string ⟨#[]⟩,.slice none 0 0,.slice none 0 0]);have HBX:=Jf ((Blk.new w 31 #[.int .i64 k,b,n.neg,n.digits,.int .i64 n.exp,s,.slice A' l.length e',.slice B' m.length d']).alloc (.cells #[.int .i64 0,false,false,.string ⟨#[]⟩,.int .i64 0,.string ⟨#[]⟩,.slice none 0 0,.slice none 0 0] 31));have HGN:=Jf (qR k b n s l m nm ns);have HFS:=Jf (λu h=>CR (v:=Vl.mk k b n s l m) (u:=u) (key:=nm) h);have HSZ:=Jf hv;have HK:=Jf hk;have hk1:(k==4)=false:=by simpa using hk
 unfold maxLen at hm q2 q4;have HS:=Jf hs;obtain⟨r,hr⟩:∃r,(Vl.mk k b n s l m).find nm=r:=⟨_,rfl⟩;rw[hr] at HFI HGN;have HR:=Jf hr;clear hx hs hb0 q5 q6 hc0 hv hr;go_enter Tryz.func10,Tryz.ntmps10;go_wp2_with fail;obtain⟨a0,a1,a2,a3,a4,a5,a6,a7⟩:=HBX.out.eight;obtain⟨z0,z1,z2,z3,z4,z5,z6,z7⟩:=HZ.out.eight;have zl:=HZ.out.lt;have xl:=HBX.out.lt;have hgl:=Jn _ _ hc1;have HZ2:=Jf HZ.out;clear HZ HBX;generalize (w.alloc (.cells #[.int .i64 k,b,n.neg,n.digits,.int .i64 n.exp,s,.slice A' l.length e',.slice B' m.length d'] 31)).alloc (.cells #[.int .i64 0,false,false,.string ⟨#[]⟩,.int .i64 0,.string ⟨#[]⟩,.slice none 0 0,.slice none 0 0] 31)=w2 at*
 have HFX:=Jf (show∀W,Below w2.heap.size w2 W->Calls Tryz.prog 21 #[.agg #[.int .i64 k,.bool b,.bool n.neg,.string ⟨n.digits.toArray⟩,.int .i64 n.exp,.string ⟨s.toArray⟩,.slice A' l.length e',.slice B' m.length d'],nm] W (λe w'=>∃y,e=.returned (.tuple #[y,.bool r.isSome])/\(r.getD yh).In c y/\Below w2.heap.size w2 w'/\Below W.heap.size W w') fromλW h=>(HFI.out W (HB0.out.trans (h.mono HB0.out.size))).mono (by
  rintro e9 w9 ⟨y,h1,h2,h3⟩;exact⟨y,h1,h2,h.trans (h3.mono h.size),h3⟩))
 generalize hrb:r.isSome=rb at*
 have HRB:=Jf hrb;clear hrb;go_cut [8,9] from 8 to 47 (λv8 v9 wc=>Found c r rb w.heap.size w2 v8 v9 wc);case first=>
  go_region_law (first|(go_simp;go_at_call 21;refine(HFX.out _ (by first|exact(Ji _ _).drew|exact((Ji _ _).alloc (Jh _) _).drew)).mono ?_;rintro e9 w9 ⟨y,rfl,hy,hb9,hbw⟩;obtain⟨j1,j2,j3,j4,j5,j6,j7,j8,j9,ja,jb,jc,rfl⟩:=In.cells hy;have HY:=Jf hy;have HB9:=Jf hb9;have hz9:=HZ2.out.below hb9 zl;have HZ9:=Jf hz9;have hsz9:=hb9.size;first|(have h8:Blk w9 w2.heap.size 31 #[.int .i64 0,false,false,.string ⟨#[]⟩,.int .i64 0,.string ⟨#[]⟩,.slice none 0 0,.slice none 0 0]:=(show Blk (World.drew (w2.alloc (.cells #[.int .i64 0,false,false,.string ⟨#[]⟩,.int .i64 0,.string ⟨#[]⟩,.slice none 0 0,.slice none 0 0] 31))) _ _ _ from Blk.new w2 _ _).on hbw;have h8c:=h8.eight;have h8f:=h8.frozen;have h8l:=h8.lt;have H8:=Jf h8;clear h8)|skip;clear hy hb9 hz9 hbw))
  all_goals
   go_wp2_with fail
   go_meet
   case rel=>first
    |exact⟨w2.heap.size,_,rfl,rfl,H8.out.bg _ _ _ _ _ _ _ _,HY.out,HZ9.out.Jb (by omega) _ _ _ _ _ _ _ _,aX HB9.out (Jh _) _ _ _ _ _ _ _ _⟩
    |exact⟨_,_,rfl,rfl,Blk.new _ _ _,HY.out,HZ9.out.alloc _,HB9.out.alloc HB9.out.size _⟩
 case rest=>
  obtain⟨p8,cs,rfl,rfl,hb8,hin,hz,hbw⟩:=hcut;have HB2:=Jf (HB0.out.trans (hbw.mono HB0.out.size));have hsw:=hbw.size;have HGN2:=HGN.out;rw[Jj HK.out] at HGN2;clear hbw HGN z0 z1 z2 z3 z4 z5 z6 z7 a0 a1 a2 a3 a4 a5 a6 a7 hc1 hgl;obtain⟨z0,z1,z2,z3,z4,z5,z6,z7⟩:=hz.eight;have zf:=hz.frozen;have zl2:=hz.lt;have HZ2':=Jf hz;clear hz;cases rb with
  |false=>
   cases r with
   |some u=>exact absurd HRB.out (by simp)
   |none=>
    have HGN3:=Jf HGN2;clear HGN2;go_wp2_with fail;refine Ju (aM (l:=[_,_,_,_,_,_,_,_]) rfl _ _ _ rfl (HZ2'.out.bg _ _ _ _ _ _ _ _) Tryz.underlying31 rfl (by kernel_rfl)) rfl ?_;exact⟨aX HB2.out (by omega) _ _ _ _ _ _ _ _,.inr ⟨HGN3.out,_,rfl,dw _ 0 false Nm.Num.zero []⟩⟩
  |true=>
   cases r with
   |none=>exact absurd HRB.out (by simp)
   |some u=>
    have HGN3:=Jf (show get (Vl.mk k b n s l m) (nm::ns)=get u ns from HGN2);have HU:=Jf (show u.size<=1000000 by have:=HFS.out u HR.out;have:=HSZ.out;omega);have HY:=Jf (show u.In c (.agg cs) from hin);obtain⟨j1,j2,j3,j4,j5,j6,j7,j8,j9,ja,jb,jc,hcs⟩:=In.cells (show u.In c (.agg cs) from hin);injection hcs with hcs;subst hcs;obtain⟨e0,e1,e2,e3,e4,e5,e6,e7⟩:=hb8.eight;have HCALL:=Jf (λ(W:World) (hbW:Below wc.heap.size wc W) B2 d2 (h1:Strs W.cell? B2 ns) (h2:ns.length<=d2) (h3:d2<=maxLen)=>ih c u _ B2 d2 W (hcl.trans ((aa HB2.out).trans (aa hbW))) HY.out h1 h2 h3 (λn hn=>hns n (Lv _ hn)) HU.out);have hs1:(1:Int)<=(ns.length:Int)+1:=by omega
    obtain⟨AJ,hAJ⟩:∃AJ,(if e=1 then some (⟨g0,o0,none⟩:Addr) else some ⟨g0,o0+1,none⟩)=AJ:=⟨_,rfl⟩;have HSJ:=Jf (show Strs wc.cell? AJ ns by
     intro i nn hi;have hil:=(Jm.1 hi).1;obtain⟨g1,o1,h1,h2⟩:=HS.out (i+1) nn (by simpa using hi);injection h1 with h1;injection h1 with h1 h3 _;subst h1 h3;refine⟨g0,o0+1,by rw[<-hAJ,Jj (by omega)],?_⟩;have:=aa HB2.out _ _ h2;rw[show o0+(i+1)=o0+1+i by omega] at this;exact this)
    have HCALL2:=Jf (HCALL.out wc.drew ((Ji _ _).drew) AJ (e-1) HSJ.out (by omega) (by unfold maxLen;omega));have HZ2:=HZ2';have zl:=zl2;clear HCALL HZ2' zl2 hin hb8 HGN2;go_wp2_with fail
    go_region_law (first|(go_simp;go_at_call 10;refine HCALL2.out.mono ?_;rintro e9 w9 ⟨hb9,hr9⟩;have hr8:∃y bb,e9=.returned (.tuple #[y,.bool bb])/\((∃r,get u ns=some r/\bb=true/\r.In c y)\/(get u ns=none/\bb=false/\Ps.mkN.In c y)):=(by rcases hr9 with⟨r,y,h1,h2,h3⟩|⟨h1,y,h2,h3⟩;exact⟨y,true,h2,.inl ⟨r,h1,rfl,h3⟩⟩;exact⟨y,false,h2,.inr ⟨h1,rfl,h3⟩⟩);clear hr9;obtain⟨y,bb,rfl,hr⟩:=hr8;obtain⟨i1,i2,i3,i4,i5,i6,i7,i8,i9,ia,ib,ic,rfl⟩:∃i1 i2 i3 i4 i5 i6 i7 i8 i9 ia ib ic,y=vlV i1 i2 i3 i4 i5 i6 (.slice i7 i8 i9) (.slice ia ib ic):=(by rcases hr with⟨r,_,_,h⟩|⟨_,_,h⟩<;>exact In.cells h);have HR9:=Jf hr;have hb9:Below wc.heap.size wc w9:=((Ji wc.heap.size wc).drew).trans (show Below wc.heap.size wc.drew w9 from hb9);have HB9:=Jf hb9;have hz9:=HZ2.out.below hb9 zl;obtain⟨y0,y1,y2,y3,y4,y5,y6,y7⟩:=hz9.eight;have yf:=hz9.frozen;have yl:=hz9.lt;have HZ9:=Jf hz9;clear hr hb9 hz9))
    go_wp2_with fail;refine Ju (aM (l:=[_,_,_,_,_,_,_,_]) rfl _ _ _ rfl (HZ9.out.bg _ _ _ _ _ _ _ _) Tryz.underlying31 rfl (by kernel_rfl)) rfl ?_;have hbf:=aX (HB2.out.trans (HB9.out.mono HB2.out.size)) (g:=w.heap.size+1) (by omega) (.int .i64 i1) (.bool i2) (.bool i3) (.string ⟨i4.toArray⟩) (.int .i64 i5) (.string ⟨i6.toArray⟩) (.slice i7 i8 i9) (.slice ia ib ic);rcases HR9.out with⟨r,h1,rfl,h3⟩|⟨h1,rfl,h3⟩
    .exact⟨hbf,.inl ⟨r,_,HGN3.out.trans h1,rfl,h3⟩⟩
    .exact⟨hbf,.inr ⟨HGN3.out.trans h1,_,rfl,h3⟩⟩
theorem mF:∀ns:List Jd,GA ns
 |[]=>AP
 |nm::ns=>λc v x A e w hcl hx hs he hm hns hv=>by
  obtain⟨k,b,n,s,l,m⟩:=v;by_cases hk:k=4
  .subst hk;exact yv nm ns (mF ns) c b n s l m x A e w hcl hx hs he hm hns hv
  .exact tw nm ns (mF ns) c k hk b n s l m x A e w hcl hx hs he hm hns hv
end
section
open Go.RowKit Js
def ItM(c:Cl)(p:Js.Mem)(cs:List Value):Prop:=∃r:Array Value,cs=.string ⟨p.1.toArray⟩::r.toList/\p.2.In c (.agg r)
theorem ItM.mono{c c':Cl}(h:c.le c'){p:Js.Mem}{cs:List Value}(k:ItM c p cs):ItM c' p cs:=by
 obtain⟨r,h1,h2⟩:=k;exact⟨r,h1,In.keep h _ _ h2⟩
theorem AE{w:World}{S S':Nat->Prop}(h:∀b,S b->S' b):Cl.le (w.on S) (w.on S'):=λp u hp=>by
 obtain⟨h1,h2⟩:=ah.1 hp;exact ah.2 ⟨h _ h1,h2⟩
theorem dN{w w':World}{S S':Nat->Prop}(h:∀b,S b->b<w.heap.size->S' b)(hb:∀b,S b->b<w.heap.size->w'.heap[b]? =w.heap[b]?):Cl.le (w.on S) (w'.on S'):=λp u hp=>by
 obtain⟨h1,h2⟩:=ah.1 hp;have hlt:=Jn w _ h2;exact ah.2 ⟨h _ h1 hlt,by rw[Ka (w:=w) (hb _ h1 hlt)];exact h2⟩
theorem my(w:World)(S:Nat->Prop):Cl.le (w.on S) w.cell?:=λ_ _ hp=>(ah.1 hp).2
def wL(S:Nat->Prop)(B:Nat)(A:Option Addr):Nat->Prop:=λk=>(S k\/B<=k)/\∀ad,A=some ad->k≠ad.block
def iF{α:Type}(It:Cl->α->List Value->Prop)(T:TypeId)(k:Nat)(S:Nat->Prop)(w:World)(B:Nat)(A:Option Addr)(cp:Nat)(acc:List α):Prop:=
 ∃flat,w.ownsRow B T k (.slice A acc.length cp) acc.length flat/\(∀u∈flat,u.oneCell'=true)/\
  ∀i a,acc[i]? =some a->∃cs,It (w.on (wL S B A)) a cs/\∀(j:Nat) u,cs[j]? =some u->flat[i*k+j]? =some u
section
variable {α:Type} {It:Cl->α->List Value->Prop} {T:TypeId} {k:Nat} {S:Nat->Prop}
theorem iF.nil(w:World)(B:Nat):iF It T k S w B none 0 []:=⟨[],⟨by simp,.inl ⟨rfl,rfl⟩⟩,(λu h=>by cases h),λi v h=>by simp at h⟩
theorem iF.keep(hmono:∀{c c':Cl},c.le c'->∀{a cs},It c a cs->It c' a cs){w w':World}{B:Nat}{A:Option Addr}{cp:Nat}{acc:List α}(h:iF It T k S w B A cp acc)
  (hb:∀b,(S b\/B<=b)->b<w.heap.size->w'.heap[b]? =w.heap[b]?):iF It T k S w' B A cp acc:=by
 obtain⟨flat,hown,h1,hel⟩:=h;refine⟨flat,aA hown (λb h2 h3=>hb b (.inr h2) h3),h1,λi v hi=>?_⟩;obtain⟨cs,hx,hc⟩:=hel i v hi;exact⟨cs,hmono (dN (λ_ h _=>h) (λb h h2=>hb b h.1 h2)) hx,hc⟩
theorem iF.below(hmono:∀{c c':Cl},c.le c'->∀{a cs},It c a cs->It c' a cs){w w':World}{B:Nat}{A:Option Addr}{cp:Nat}{acc:List α}(h:iF It T k S w B A cp acc)(hb:Below w.heap.size w w'):iF It T k S w' B A cp acc:=
 h.keep hmono (λb _ h2=>hb.block b h2)
theorem iF.le{w:World}{B:Nat}{A:Option Addr}{cp:Nat}{acc:List α}(h:iF It T k S w B A cp acc):acc.length<=cp/\cp<=maxLen/\(0<acc.length->∃g,A=some ⟨g,0,none⟩/\B<=g/\g<w.heap.size)/\(∀ad,A=some ad->B<=ad.block/\ad.block<w.heap.size):=by
 obtain⟨flat,hown,_⟩:=h;have hl:=ai hown;refine⟨hl.1,hl.2.1,λhn=>?_,λad ha=>?_⟩
 .cases A with
  |none=>have:=(hl.2.2.1 rfl).1;omega
  |some ad=>
   obtain⟨g,rfl,h1,h2⟩:=hl.2.2.2 ad rfl;exact⟨g,rfl,h1,h2⟩
 .obtain⟨g,rfl,h1,h2⟩:=hl.2.2.2 ad ha;exact⟨h1,h2⟩
theorem iF.push(hmono:∀{c c':Cl},c.le c'->∀{a cs},It c a cs->It c' a cs){w wx w6:World}{B:Nat}{A:Option Addr}{cp:Nat}{acc:List α}
  {flat:List Value} (hown:w.ownsRow B T k (.slice A acc.length cp) acc.length flat) (hone:∀u∈flat,u.oneCell'=true)
  (hel:∀i a,acc[i]? =some a->∃cs,It (w.on (wL S B A)) a cs/\∀(j:Nat) u,cs[j]? =some u->flat[i*k+j]? =some u)
  (hb:Below w.heap.size w wx) {a:α} {cs:List Value} (ha:It (wx.on (wL S B A)) a cs) (hcs:∀u∈cs,u.oneCell'=true) {g cap:Nat}
  (h6:w6.ownsRow B T k (.slice (some ⟨g,0,none⟩) (acc.length+1) cap) (acc.length+1) (flat++cs)) (hg:wx.grownBy w6 (Value.slice A acc.length cp).ownBlock)
  (hat:(Value.slice A acc.length cp).ownBlock=some g\/g=wx.heap.size):iF It T k S w6 B (some ⟨g,0,none⟩) cap (acc++[a]):=by
 have hA:∀b,(∀ad,A=some ad->b≠ad.block)↔some b≠(Value.slice A acc.length cp).ownBlock:=by
  intro b;cases A with
  |none=>simp[Value.ownBlock]
  |some ad=>simp[Value.ownBlock]
 have hle:∀{v:World},(∀b,b<v.heap.size->b<wx.heap.size)->(∀b,(S b\/B<=b)->(∀ad,A=some ad->b≠ad.block)->b<v.heap.size->w6.heap[b]? =v.heap[b]?)->Cl.le (v.on (wL S B A)) (w6.on (wL S B (some ⟨g,0,none⟩))):=λ{v} hlt hv=>
  dN (λb h1 h2=>⟨h1.1,λad e=>by
   cases e;rcases hat with h|h
   .intro e2;exact(hA b).1 h1.2 (by rw[h];exact Kk some e2)
   .intro e2;have:=hlt b h2;have e3:b=g:=e2;omega⟩) (λb h1 h2=>hv b h1.1 h1.2 h2)
 have hfl:flat.length=acc.length*k:=hown.1;refine⟨flat++cs,by rw[Jk,Jy];exact h6,λu hu=>(Jq.1 hu).elim (hone u) (hcs u),λi u hi=>?_⟩;by_cases hlt:i<acc.length
 .rw[JD hlt] at hi;obtain⟨ds,hx,hc⟩:=hel i u hi;refine⟨ds,hmono (hle (λb h=>JN h hb.size) (λb _ h2 h3=>(hg.block b (JN h3 hb.size) ((hA b).1 h2)).trans (hb.block b h3))) hx,λj y hy=>?_⟩;have:=hc j y hy;rw[JD (Jm.1 this).1];exact this
 .obtain rfl:i=acc.length:=by
   have:=(Jm.1 hi).1;rw[Jk,Jy] at this;omega
  rw[Jx (Jh _)] at hi;simp at hi;subst hi;refine⟨cs,hmono (hle (λb h=>h) (λb _ h2 h3=>hg.block b h3 ((hA b).1 h2))) ha,λj y hy=>?_⟩;rw[Jx (by omega),hfl,Kz];exact hy
end
theorem iF.slM{S:Nat->Prop}{w:World}{B:Nat}{A:Option Addr}{cp:Nat}{acc:List Js.Mem}(h:iF ItM 95 9 S w B A cp acc):SlM (w.on (λb=>S b\/B<=b)) A acc:=λi p hi=>by
 have hl:=h.le;obtain⟨flat,hown,_,hel⟩:=h;obtain⟨cs,⟨r,rfl,hx⟩,hc⟩:=hel i p hi;obtain⟨g,rfl,hg1,hg2⟩:=hl.2.2.1 (by have:=(Jm.1 hi).1;omega);refine⟨g,0,.agg r,rfl,In.keep (AE λb h=>h.1) _ _ hx,?_,λj u hu=>?_⟩
 .rw[JI];exact ah.2 ⟨.inr hg1,ax hown _ _ (hc 0 _ rfl)⟩
 .rw[JI];refine ah.2 ⟨.inr hg1,ax hown _ _ ?_⟩;have:=hc (j+1) u (by simpa[Value.cells] using hu);rw[show i*9+1+j=i*9+(j+1) by omega];exact this
theorem In.mk'{c:Cl}{k:Int}{b:Bool}{n:Nm.Num}{s:Jd}{l:List Vl}{m:List Js.Mem}{A B:Option Addr}{e d:Nat}(hl:SlL c A l)(hm:SlM c B m)(h1:l.length<=e)(h2:e<=maxLen)(h3:m.length<=d)(h4:d<=maxLen):
  (Vl.mk k b n s l m).In c (vlV k b n.neg n.digits n.exp s (.slice A l.length e) (.slice B m.length d)):=by
 simp only[Vl.In];refine⟨A,e,B,d,rfl,h1,h2,h3,h4,λhn=>?_,λhn=>?_⟩
 .cases l with
  |nil=>simp at hn
  |cons v l=>
   obtain⟨g,o,y,rfl,_,_⟩:=hl 0 v rfl;refine⟨g,o,rfl,LIn.of λi u hi=>?_⟩;obtain⟨g2,o2,y2,h5,h6,h7⟩:=hl i u hi;cases h5;exact⟨y2,h6,h7⟩
 .cases m with
  |nil=>simp at hn
  |cons p m=>
   obtain⟨g,o,y,rfl,_,_,_⟩:=hm 0 p rfl;refine⟨g,o,rfl,MIn.of λi u hi=>?_⟩;obtain⟨g2,o2,y2,h5,h6,h7,h8⟩:=hm i u hi;cases h5;exact⟨h7,y2,h6,h8⟩
end
section
open Go.RowKit Pt Js
end
namespace Ed
open Js Pt
open Ps (less)
def IL(op:Nat)(last:Bool)(l:List Vl)(i0:Nat)(x z:Vl)(j:Nat):List Vl:=
 (if j=i0/\last=true/\op≠2 then[x] else[])++(if j=l.length\/(j=i0/\last=true/\op≠1) then[] else[if j=i0/\last=false then z else l[j]?.getD z])
def pS(op:Nat)(last:Bool)(l:List Vl)(i0:Nat)(x z:Vl):Nat->List Vl
 |0=>[]
 |j+1=>pS op last l i0 x z j++IL op last l i0 x z j
def met(nm:Jd)(m:List Mem)(j:Nat):Bool:=(m.take j).any λp=> !less nm p
end Ed
section
open Go.RowKit Pt Js
abbrev AG(k:Int)(b:Bool)(n:Nm.Num)(s:Jd)(lv mv:Value):Array Value:=#[.int .i64 k,.bool b,.bool n.neg,.string ⟨n.digits.toArray⟩,.int .i64 n.exp,.string ⟨s.toArray⟩,lv,mv]
section
variable {w wr w':World} {g8 g10:Nat} {V X O:Array Value}
theorem Blk.grown{w w':World}{g:Nat}{t:TypeId}{cs:Array Value}{row:Option Nat}(h:Blk w g t cs)(hg:w.grownBy w' row)(hr:∀k,row=some k->g<k):Blk w' g t cs:=
 (hg.block g h.lt (λe=>by have:=hr g e.symm;omega)).trans h
theorem Blk.far{w:World}{g h i:Nat}{t:TypeId}{cs:Array Value}{u:Value}(hb:Blk w g t cs)(hn:g≠h):Blk (w.setCell ⟨h,i,none⟩ u) g t cs:=by
 unfold Blk at hb ⊢;simp[World.setCell,KC,hb,Ne.symm hn]
end
theorem heap_setCell(w:World)(h i:Nat)(u:Value){b:Nat}(hb:b≠h):(w.setCell ⟨h,i,none⟩ u).heap[b]? =w.heap[b]? :=by
 simp[World.setCell,KC,Ne.symm hb]
theorem II{S:Nat->Prop}{w w5:World}{B:Nat}{A:Option Addr}(hS:∀b,S b->b<w.heap.size)(hB:w.heap.size<=B)(hb:Below w.heap.size w w5)(hA:∀ad,A=some ad->B<=ad.block):Cl.le (w.on S) (w5.on (wL S B A)):=
 dN (λb h h2=>⟨.inl h,λad e=>by have:=hA ad e;omega⟩) (λb _ h2=>hb.block b h2)
end
namespace Ed
open Js Pt
open Ps (less)
section
variable {op:Nat} {last:Bool} {m:List Mem} {nm:Jd} {x z:Vl} {j:Nat}
theorem BI{y:Vl}(h:Js.find m nm=some y):∃i,i<m.length/\m[i]? =some (nm,y):=by
 unfold Js.find at h;obtain⟨p,hp,rfl⟩:=Kd.1 h;have h1:p.1=nm:=by simpa using M5 hp
 obtain⟨i,hi,he⟩:=LG (KI hp);refine⟨i,hi,?_⟩;rw[Jg hi,he,<-h1]
end
end Ed
section
open Go.RowKit Pt Js
end
