import Derived.Test.YtdhgmaonolgpnaaGreatDoorIn
set_option linter.unusedSimpArgs false
set_option linter.unusedVariables false
set_option maxHeartbeats 8000000
set_option maxRecDepth 100000
namespace Go.Proofs.YtdhgmaonolgpnaaGreatDoor
section
open Go.RowKit Js Pt
theorem kL(mk key:Jd)(k1:Int)(b1 n1:Bool)(g1:Jd)(x1:Int)(s1:Jd)(A1:Option Addr)(l1 p1:Nat)(B1:Option Addr)(m1 d1:Nat)(w:World):
  Calls Tryz.prog 154 #[.agg #[.string ⟨mk.toArray⟩,.int .i64 k1,.bool b1,.bool n1,.string ⟨g1.toArray⟩,.int .i64 x1,.string ⟨s1.toArray⟩,.slice A1 l1 p1,.slice B1 m1 d1],key] w
   λe w'=>e=.returned (.int .i64 (Lib.compareBytes mk key))/\Below w.heap.size w w':=by
 go_enter Tryz.func154,Tryz.ntmps154;go_wp2_with fail;refine(Tryz.strings_Compare _ _ _).mono ?_;rintro e w1 ⟨rfl,rfl⟩;have hb:Below w.heap.size w (w.alloc (.cells #[mk,.int .i64 k1,b1,n1,g1,.int .i64 x1,s1,.slice A1 l1 p1,.slice B1 m1 d1] 95)):=(Ji _ _).alloc (Jh _) _;go_wp2_with fail;go_ret;exact⟨rfl,hb⟩
def Cs(m:List Js.Mem)(key:Jd)(w:World)(e:Ending)(w':World):Prop:=
 ∃(i:Nat) (b:Bool),e=.returned (.tuple #[.int .i64 i,b])/\Js.Found m key i b/\Below w.heap.size w w'
def wM(m:List Js.Mem)(key:Jd)(w:World)(iv jv:Value)(wr:World):Prop:=
 ∃i j:Nat,iv=.int .i64 i/\jv=.int .i64 j/\cY m key i j/\Below w.heap.size w wr
theorem vT(m:List Js.Mem)(key:Jd)(B:Option Addr)(d:Nat)(w:World)(hr:bO (m.map (·.1))=true)(hd:m.length<=d)(hm:d<=maxLen)(hl:m.length<=1000000000000)(hs:SlM w.cell? B m):
  Calls Tryz.prog 111 #[.slice B m.length d,key,.func (.func 154) #[] #[]] w (Cs m key w):=by
 unfold maxLen at hm;have HS:=Jf hs;have HR:=Jf hr;clear hs hr;go_enter Tryz.func111,Tryz.ntmps111;go_wp2_with fail
 go_loopw [9,10] (wM m key w) (λi j _=>(intOf j).toNat-(intOf i).toNat)
 case atStart=>exact⟨0,m.length,rfl,rfl,cY.start _ _,Ji _ _⟩
 case round=>
  obtain⟨i,j,rfl,rfl,hH,hW⟩:=hrel;have hij:=hH.1;have hjm:=hH.2.1;have HH:=Jf hH;clear hH;by_cases hlt:i<j
  .obtain⟨h,hh⟩:∃h:Nat,h=(i+j)/2:=⟨_,rfl⟩;have hhi:i<=h:=by omega
   have hhj:h<j:=by omega
   have hmid:((i:Int)+(j:Int))/2=(h:Int):=by omega
   have hwr:IntKind.u64.wrap ((i:Int)+(j:Int))=(i:Int)+(j:Int):=by rw[IntKind.wrap_u64];omega
   clear hh;have hhm:h<m.length:=by omega
   have hp:=Jg hhm;obtain⟨g,o,y,rfl,hy,hk,hc⟩:=HS.out h _ hp;obtain⟨k1,b1,n1,g1,x1,s1,A1,l1,p1,B1,m1,d1,rfl⟩:=In.cells hy;have hle:Cl.le w.cell? wr.cell?:=aa hW;have ek:=hle _ _ hk;obtain⟨e0,e1,e2,e3,e4,e5,e6,e7⟩:=(hc.keep hle).eight;have HP:=Jf hp;have HUP:=Jf (λhc=>HH.out.up HR.out hhi hhj hp hc);have HDN:=Jf (λhc=>HH.out.down HR.out hhi hhj hp hc);have HC:=Jf (λW=>kL m[h].1 key k1 b1 n1 g1 x1 s1 A1 l1 p1 B1 m1 d1 W);have hrg:=Nm.cr m[h].1 key;clear hp hy hk hc hle;generalize Lib.compareBytes m[h].1 key=q at*
   generalize m[h].1=mk at*
   go_wp2_with fail;refine(HC.out _).mono ?_;rintro e' w2 ⟨rfl,hb2⟩;have hb:=hW.trans (hb2.mono hW.size);by_cases hq:q= -1
   .have hq0:decide (q<0)=true:=by simp;omega
    have HN:=Jf (HUP.out hq);clear hq;go_wp2_with fail;go_roundw;case rel=>exact⟨h+1,j,by go_num,rfl,HN.out,hb⟩
    case measure=>simp[intOf];omega
   .have hq0:decide (q<0)=false:=by simp;omega
    have HN:=Jf (HDN.out hq);clear hq;go_wp2_with fail;go_roundw;case rel=>exact⟨i,h,rfl,rfl,HN.out,hb⟩
    case measure=>simp[intOf];omega
  .obtain rfl:i=j:=by omega
   by_cases hi:i<m.length
   .have hp:=Jg hi;obtain⟨g,o,y,rfl,hy,hk,hc⟩:=HS.out i _ hp;obtain⟨k1,b1,n1,g1,x1,s1,A1,l1,p1,B1,m1,d1,rfl⟩:=In.cells hy;have hle:Cl.le w.cell? wr.cell?:=aa hW;have ek:=hle _ _ hk;obtain⟨e0,e1,e2,e3,e4,e5,e6,e7⟩:=(hc.keep hle).eight;have HF:=Jf (HH.out.done HR.out hp);have HC:=Jf (λW=>kL m[i].1 key k1 b1 n1 g1 x1 s1 A1 l1 p1 B1 m1 d1 W);clear hp hy hk hc hle;generalize Lib.compareBytes m[i].1 key=q at*
    generalize m[i].1=mk at*
    go_wp2_with fail;refine(HC.out _).mono ?_;rintro e' w2 ⟨rfl,hb2⟩;have hb:=hW.trans (hb2.mono hW.size);go_wp2_with fail
    go_ret2
    exact⟨i,_,rfl,HF.out,hb⟩
   .have hi':decide (i<m.length)=false:=by simpa using hi
    have HF:=Jf (HH.out.none_ (by omega));go_wp2_with fail
    go_ret2
    exact⟨i,_,rfl,HF.out,hW⟩
def zi(l:List Vd.Ask)(w:World)(e:Ending)(w':World):Prop:=∃(A:Option Addr) (c:Nat),e=.returned (.slice A l.length c)/\az w' w.heap.size A c l/\Below w.heap.size w w'
theorem vr:∃i,Tryz.prog.info? 121=some i/\i.zero=some (.agg #[.int .i64 0,.int .i64 0,false,.string ⟨#[]⟩,.int .i64 0])/\i.size=5/\i.bytes=48:=by
 have h:(Tryz.prog.info? 121).map (λi=>(i.zero,i.size,i.bytes))=some (some (.agg #[.int .i64 0,.int .i64 0,false,.string ⟨#[]⟩,.int .i64 0]),5,48):=by kernel_rfl
 cases hq:Tryz.prog.info? 121 with
 |none=>rw[hq] at h;cases h
 |some i=>
  rw[hq] at h;simp only[Kg,JM,Kl] at h;exact⟨i,rfl,h.1,h.2.1,h.2.2⟩
theorem mG:∀(r xs:List Value) (o:Nat),o+r.length<=xs.length->(gE xs o r).take (o+r.length)=xs.take o++r/\(gE xs o r).length=xs.length
 |[],xs,o,_=>by simp[gE]
 |v::r,xs,o,h=>by
  rw[Jl] at h;obtain⟨h1,h2⟩:=mG r (xs.set o v) (o+1) (by rw[KF];omega);rw[gE];refine⟨?_,by rw[h2,KF]⟩;rw[Jl,show o+(r.length+1)=o+1+r.length by omega,h1];have:(xs.set o v).take (o+1)=xs.take o++[v]:=by
   rw[Jr (by rw[KF];omega),NR,O7 (Jh _)]
  rw[this];simp
def sT:Array Value:=#[.int .i64 0,.int .i64 0,.bool false,.string ⟨#[]⟩,.int .i64 0]
theorem Vd.xg{v:Vl}{j:Nat}(h:j<(Ow.bU v).length):(Vd.dR v)[j]? =some ⟨0,0,false,Lib.decDigits j,j⟩:=by
 unfold Vd.dR;rw[KX,Jg h];rfl
theorem Vd.mU(v:Vl):(Vd.dR v).length=(Ow.bU v).length:=by unfold Vd.dR;simp
theorem uW(v:Vl)(xv:Value)(w:World)(hT:Tab w)(hsz:v.size<=1000000)(hx:v.In w.cell? xv):Calls Tryz.prog 121 #[xv] w (zi (Vd.dR v) w):=by
 obtain⟨kd,b,nn,s,l,m⟩:=v;obtain⟨A,e,B,d,rfl,q1,q2,q3,q4,q5,q6⟩:=In.form hx;have hl:l.length<=1000000:=by have:=cS l;simp only[Vl.size] at hsz;omega
 have HAT:=Jf (λ(j:Nat) (h:j<l.length)=>Vd.xg (v:=.mk kd b nn s l m) h);have HAL:=Jf (show(Vd.dR (.mk kd b nn s l m)).length=l.length from Vd.mU _);have HT:=Jf hT;generalize Vd.dR (.mk kd b nn s l m)=r at*
 clear q3 q4 q5 q6 hx hsz hT;unfold maxLen at q2;obtain⟨i0,hi0,hz0,hz1,hz2⟩:=vr;have hmk:∀W:World,(Instr.makeSlice 86 (.int .i64 (l.length:Int)) (.int .i64 (l.length:Int))).run Tryz.prog W=.ok (.slice (some ⟨W.heap.size,0,none⟩) l.length l.length) (W.alloc (.cells (madeCells sT (l.length*5)) 121)):=λW=>by
  have:=Nw (P:=Tryz.prog) W 86 121 i0 (.agg sT) Tryz.underlying86 hi0 hz0 .i64 .i64 l.length l.length (by omega) (Mj _) (by rw[hz2];omega) (by omega);rw[hz1] at this;simp only[Ku] at this;exact this
 have hb0:=(Ji w.heap.size w).alloc (Jh _) (.cells #[.int .i64 kd,b,nn.neg,nn.digits,.int .i64 nn.exp,s,.slice A l.length e,.slice B m.length d] 31);have HB0:=Jf (hb0.alloc hb0.size (.cells (madeCells sT (l.length*5)) 121));have HOW:=Jf (show((w.alloc (.cells #[.int .i64 kd,b,nn.neg,nn.digits,.int .i64 nn.exp,s,.slice A l.length e,.slice B m.length d] 31)).alloc (.cells (madeCells sT (l.length*5)) 121)).ownsRow w.heap.size 121 5 (.slice (some ⟨(w.alloc (.cells #[.int .i64 kd,b,nn.neg,nn.digits,.int .i64 nn.exp,s,.slice A l.length e,.slice B m.length d] 31)).heap.size,0,none⟩) l.length l.length) l.length (madeCells sT (l.length*5)).toList from Kv _ _ _ hb0.size (by unfold maxLen;omega) (LU _ _));clear hb0;go_enter Tryz.func121,Tryz.ntmps121;go_upto_region 2 with(fail);generalize (w.alloc (.cells #[.int .i64 kd,b,nn.neg,nn.digits,.int .i64 nn.exp,s,.slice A l.length e,.slice B m.length d] 31)).alloc (.cells (madeCells sT (l.length*5)) 121)=w1 at*
 have hgy:(w.alloc (.cells #[.int .i64 kd,b,nn.neg,nn.digits,.int .i64 nn.exp,s,.slice A l.length e,.slice B m.length d] 31)).heap.size=w.heap.size+1:=by show(w.heap.push _).size=_;exact LH _
 rw[hgy] at HOW;obtain⟨g,hg⟩:∃g,w.heap.size+1=g:=⟨_,rfl⟩;rw[hg] at HOW;try rw[hg]
 clear hgy hg;generalize (madeCells sT (l.length*5)).toList=fl0 at*
 clear hmk hi0 hz0 hz1 hz2;go_wp2_with fail
 go_loopw [11] (λi wr=>∃(j:Nat) (fl:List Value),i=.int .i64 j/\j<=l.length/\wr.ownsRow w.heap.size 121 5 (.slice (some ⟨g,0,none⟩) l.length l.length) l.length fl/\fl.take (j*5)=eU (r.take j)/\Below w.heap.size w wr) (λi _=>l.length-(intOf i).toNat)
 case atStart=>exact⟨0,fl0,rfl,JE _,HOW.out,by simp[eU],HB0.out⟩
 case round=>
  obtain⟨j,fl,rfl,hj,how,hfl,hb⟩:=hrel;have HFL:=Jf hfl;have HB:=Jf hb;have HOR:=Jf how;clear hfl hb how HOW HB0;by_cases hlt:j<l.length
  .have hjj:(j:Int)<(l.length:Int):=by omega
   have HIT:=Jf (zX j wr (HT.out.keep HB.out) (by omega));have HR5:=Jf (show j*5+5<=l.length*5 by omega);go_wp2_with fail;refine HIT.out.mono ?_;rintro e3 w3 ⟨rfl,hb3⟩;have HB3:=Jf (HB.out.trans (hb3.mono HB.out.size));have HO3:=Jf (aA HOR.out (λk _ hk=>hb3.block k hk));have hgl:g<w3.heap.size:=(HO3.out.lt g rfl).2;have hlen:=HO3.out.1;have hf3:∀j,w3.frozen? ⟨g,j,none⟩=false:=λj=>HO3.out.frozenAt j;obtain⟨cx0,hcx0⟩:∃u,w3.cell? ⟨g,j*5,none⟩=some u:=⟨_,(HO3.out.cellAt _ (by have:=HR5.out;omega)).trans (Jg (by have:=HR5.out;omega))⟩;obtain⟨cx1,hcx1⟩:∃u,w3.cell? ⟨g,j*5+1,none⟩=some u:=⟨_,(HO3.out.cellAt _ (by have:=HR5.out;omega)).trans (Jg (by have:=HR5.out;omega))⟩;obtain⟨cx2,hcx2⟩:∃u,w3.cell? ⟨g,j*5+2,none⟩=some u:=⟨_,(HO3.out.cellAt _ (by have:=HR5.out;omega)).trans (Jg (by have:=HR5.out;omega))⟩;obtain⟨cx3,hcx3⟩:∃u,w3.cell? ⟨g,j*5+3,none⟩=some u:=⟨_,(HO3.out.cellAt _ (by have:=HR5.out;omega)).trans (Jg (by have:=HR5.out;omega))⟩;obtain⟨cx4,hcx4⟩:∃u,w3.cell? ⟨g,j*5+4,none⟩=some u:=⟨_,(HO3.out.cellAt _ (by have:=HR5.out;omega)).trans (Jg (by have:=HR5.out;omega))⟩;have HLN:=Jf hlen;clear hb3 hlen;go_wp2_with fail;have hst:=mG (j0 ⟨0,0,false,Lib.decDigits j,j⟩) fl (j*5) (by rw[HLN.out];exact HR5.out);have HNW:=Jf (fc (j0 ⟨0,0,false,Lib.decDigits j,j⟩) _ _ (j*5) HO3.out);have HBW:=Jf (fu (show w.heap.size<=g from(HO3.out.lt g rfl).1) (j0 ⟨0,0,false,Lib.decDigits j,j⟩) (o:=j*5) HB3.out);go_roundw;case rel=>exact⟨j+1,_,by go_num,by omega,HNW.out,by
    have h1:=hst.1;rw[show j*5+(j0 ⟨0,0,false,Lib.decDigits j,j⟩).length=(j+1)*5 by show j*5+5=_;omega] at h1;rw[h1,HFL.out,Jr (by have:=HAL.out;omega),nW]
    congr 1
    have:=HAT.out j hlt;rw[Jg (by have:=HAL.out;omega)] at this;injection this with this;rw[this];simp[eU],HBW.out⟩
   case measure=>simp[intOf];omega
  .obtain rfl:j=l.length:=by omega
   have HF:=Jf (show fl=eU r by
    have h:=HFL.out;rwa[L7 (by have:=HOR.out.1;omega),L7 (by have:=HAL.out;omega)] at h)
   go_wp2_with fail;go_ret;exact⟨_,_,by rw[HAL.out];rfl,by unfold az;rw[HAL.out,<-HF.out];exact HOR.out,HB.out⟩
theorem vC(v:Vl)(xv:Value)(key:Jd)(w:World)(hv:v.may=true)(hsz:v.size<=1000000)(hx:v.In w.cell? xv):Calls Tryz.prog 122 #[xv,.string ⟨key.toArray⟩] w (zi (Vd.ec v key) w):=by
 obtain⟨kd,b,nn,s,l,m⟩:=v;obtain⟨A,e,B,d,rfl,q1,q2,q3,q4,q5,q6⟩:=In.form hx;obtain⟨-,-,-,-,-,-,-,-,-,-,-,hr⟩:=au hv;have hl:m.length<=1000000:=by have:=ep m;simp only[Vl.size] at hsz;omega
 have hb0:=(Ji w.heap.size w).alloc (Jh _) (.cells #[.int .i64 kd,b,nn.neg,nn.digits,.int .i64 nn.exp,s,.slice A l.length e,.slice B m.length d] 31);have HS:=Jf (vT m key B d _ hr q3 q4 (by omega) ((show SlM w.cell? B m from q6).keep (aa hb0)));have HB0:=Jf hb0;have HYES:=Jf (λ(i:Nat) (p:Js.Mem) (hp:m[i]? =some p) (hk:p.1=key)=>(show Vd.ec (.mk kd b nn s l m) key=[⟨0,0,false,key,i⟩] from Vd.Am (v:=.mk kd b nn s l m) (Cm.iT hr) hp hk));have HNO:=Jf (λ(h:∀p∈m,p.1≠key)=>(show Vd.ec (.mk kd b nn s l m) key=[] from Vd.vA (v:=.mk kd b nn s l m) h));generalize Vd.ec (.mk kd b nn s l m) key=r at*
 unfold maxLen at q4;clear q5 q6 hx hsz hv hr hb0;go_enter Tryz.func122,Tryz.ntmps122;go_wp2_with fail;refine HS.out.mono ?_;rintro e1 w1 ⟨i,bb,rfl,hfd,hb⟩;have HB1:=Jf (HB0.out.trans (hb.mono HB0.out.size));have HFD:=Jf hfd;clear hfd hb HS;cases bb with
 |false=>
  have HN:=Jf (HNO.out (HFD.out.2.2 rfl));go_wp2_with fail;go_ret;exact⟨none,0,by rw[HN.out];rfl,by rw[HN.out];exact az.nil _ _,HB1.out⟩
 |true=>
  have HN:=Jf (show r=[⟨0,0,false,key,i⟩] by obtain⟨p,hp,hk⟩:=HFD.out.2.1 rfl;exact HYES.out i p hp hk);have HB2:=Jf (HB1.out.alloc HB1.out.size (.cells #[.int .i64 0,.int .i64 0,false,key,.int .i64 i] 121));have HOW:=Jf (show az (w1.alloc (.cells #[.int .i64 0,.int .i64 0,false,key,.int .i64 i] 121)) w.heap.size (some ⟨w1.heap.size,0,none⟩) 1 [⟨0,0,false,key,i⟩] from Kv w1 #[.int .i64 0,.int .i64 0,false,key,.int .i64 i] 1 HB1.out.size (by unfold maxLen;omega) rfl);go_wp2_with fail;go_ret;exact⟨_,1,by rw[HN.out];rfl,by rw[HN.out];exact HOW.out,HB2.out⟩
theorem AF(P:Cm.Names)(tx:Jd)(nall npass:Bool)(keys:List Cm.Key)(A2:Option Addr)(c2:Nat)(v:Vl)(xv:Value)(w:World)(hk:gS w.cell? A2 keys)(h1:keys.length<=c2)(h2:c2<=maxLen)(hsz:v.size<=1000000)(hx:v.In w.cell? xv):
  Calls Tryz.prog 123 #[xv,.agg #[.string ⟨tx.toArray⟩,.bool nall,.bool npass,.slice A2 keys.length c2]] w (zi (Vd.eI ⟨P,nall,npass,keys⟩ (Vd.cq v)) w):=by
 obtain⟨kd,b,nn,s,l,m⟩:=v;obtain⟨A,e,B,d,rfl,q1,q2,q3,q4,q5,q6⟩:=In.form hx;have hl:m.length<=1000000:=by have:=ep m;simp only[Vl.size] at hsz;omega
 show Calls _ _ _ _ (zi (Vd.eI ⟨P,nall,npass,keys⟩ m) w);have HS:=Jf (show SlM w.cell? B m from q6);have HK:=Jf (λ(W:World) (key:Jd) (hb:Below w.heap.size w W)=>qY P tx nall npass keys A2 c2 key W (hk.keep (aa hb)) h1 h2);have HNX:=Jf (λ(k:Nat) (p:Js.Mem) (h:m[k]? =some p)=>Vd.vG (N:=⟨P,nall,npass,keys⟩) h);unfold maxLen at q4;have hb0:=(Ji w.heap.size w).alloc (Jh _) (.cells #[.int .i64 kd,b,nn.neg,nn.digits,.int .i64 nn.exp,s,.slice A l.length e,.slice B m.length d] 31);have HB0:=Jf (hb0.alloc hb0.size (.cells #[tx,nall,npass,.slice A2 keys.length c2] 39));have HX0:=Jf ((Blk.new w 31 #[.int .i64 kd,b,nn.neg,nn.digits,.int .i64 nn.exp,s,.slice A l.length e,.slice B m.length d]).alloc (.cells #[tx,nall,npass,.slice A2 keys.length c2] 39));have HY0:=Jf (Blk.new (w.alloc (.cells #[.int .i64 kd,b,nn.neg,nn.digits,.int .i64 nn.exp,s,.slice A l.length e,.slice B m.length d] 31)) 39 #[tx,nall,npass,.slice A2 keys.length c2]);clear hb0 hk q5 q6 hx hsz;go_enter Tryz.func123,Tryz.ntmps123;go_upto_region 1 with(fail);generalize (w.alloc (.cells #[.int .i64 kd,b,nn.neg,nn.digits,.int .i64 nn.exp,s,.slice A l.length e,.slice B m.length d] 31)).alloc (.cells #[tx,nall,npass,.slice A2 keys.length c2] 39)=w0 at*
 have hgy:(w.alloc (.cells #[.int .i64 kd,b,nn.neg,nn.digits,.int .i64 nn.exp,s,.slice A l.length e,.slice B m.length d] 31)).heap.size=w.heap.size+1:=by show(w.heap.push _).size=_;exact LH _
 rw[hgy] at HY0;obtain⟨gn,hg⟩:∃g,w.heap.size+1=g:=⟨_,rfl⟩;rw[hg] at HY0;try rw[hg]
 clear hgy hg;have hx7:=HX0.out.cell 7;have hxl:=HX0.out.lt;have HZ:=Jf (az.nil w0 w0.heap.size);go_wp2_with fail
 go_loopw [5,11] (λo5 i11 wr=>∃(k:Nat) (A3:Option Addr) (c3:Nat) (t:List Vd.Ask),o5=.slice A3 t.length c3/\i11=.int .i64 k/\k<=m.length/\t.length<=k/\t=Vd.eI ⟨P,nall,npass,keys⟩ (m.take k)/\Below w0.heap.size w0 wr/\az wr w0.heap.size A3 c3 t) (λ_ i11 _=>m.length-(intOf i11).toNat)
 case atStart=>exact⟨0,none,0,[],rfl,rfl,JE _,Jh _,rfl,Ji _ _,HZ.out⟩
 case round=>
  obtain⟨k,A3,c3,t,rfl,rfl,hkq,htl,ht,hb,hnu⟩:=hrel;have HB:=Jf hb;have HNU:=Jf hnu;have HT:=Jf ht;clear hb hnu ht HZ hx7 hxl;by_cases hkl:k<m.length
  .obtain⟨g,o,y,rfl,hy,hk,hc⟩:=HS.out k _ (Jg hkl);obtain⟨y_1,y_2,y_3,y_4,y_5,y_6,y_7,y_8,y_9,y_a,y_b,y_c,rfl⟩:=In.cells hy;have hle:Cl.le w.cell? wr.cell?:=aa (HB0.out.trans (HB.out.mono HB0.out.size));have ek:=hle _ _ hk;obtain⟨e0,e1,e2,e3,e4,e5,e6,e7⟩:=(hc.keep hle).eight;have hgl:=Jn _ _ ek;have hki:(k:Int)<(m.length:Int):=by omega
   have HNX:=Jf (HNX.out k _ (Jg hkl));clear hy hk hc hle;have hb1:=(Ji wr.heap.size wr).alloc (Jh _) (.cells #[.string ⟨(m[k]).1.toArray⟩,.int .i64 y_1,y_2,y_3,y_4,.int .i64 y_5,y_6,.slice y_7 y_8 y_9,.slice y_a y_b y_c] 95);have HB1:=Jf (HB.out.trans (hb1.mono HB.out.size));have HN1:=Jf (HNU.out.on hb1);have HMB:=Jf (Blk.new wr 95 #[.string ⟨(m[k]).1.toArray⟩,.int .i64 y_1,y_2,y_3,y_4,.int .i64 y_5,y_6,.slice y_7 y_8 y_9,.slice y_a y_b y_c]);have HNB:=Jf (HY0.out.on HB1.out);have HPR:=Jf (HK.out (wr.alloc (.cells #[.string ⟨(m[k]).1.toArray⟩,.int .i64 y_1,y_2,y_3,y_4,.int .i64 y_5,y_6,.slice y_7 y_8 y_9,.slice y_a y_b y_c] 95)) (m[k]).1 (HB0.out.trans (HB1.out.mono HB0.out.size)));clear hb1;generalize (m[k]).1=key at*
   go_upto_region 5 with(fail);generalize wr.alloc (.cells #[key,.int .i64 y_1,y_2,y_3,y_4,.int .i64 y_5,y_6,.slice y_7 y_8 y_9,.slice y_a y_b y_c] 95)=wk at*
   generalize wr.heap.size=gk at*
   clear e0 e1 e2 e3 e4 e5 e6 e7 hgl ek;obtain⟨pb,hpb⟩:∃pb,Vd.named ⟨P,nall,npass,keys⟩ key=pb:=⟨_,rfl⟩;rw[hpb] at HPR HNX;clear hpb;have hm0:=HMB.out.cell 0;have hml:=HMB.out.lt;have n0:=HNB.out.cell 0;have n1:=HNB.out.cell 1;have n2:=HNB.out.cell 2;have n3:=HNB.out.cell 3;have hnl:=HNB.out.lt;go_wp2_with fail;refine HPR.out.mono ?_;rintro e2 w2 ⟨rfl,hb2⟩;have HB2:=Jf (HB1.out.trans (hb2.mono HB1.out.size));have HN2:=Jf (HN1.out.on hb2);have HM2:=Jf (HMB.out.on hb2);clear hb2 hm0 hml n0 n1 n2 n3 hnl HPR HMB HNB;cases pb with
   |true=>
    go_wp2_with fail;go_roundw;case rel=>exact⟨k+1,A3,c3,t,rfl,by go_num,by omega,by omega,by rw[HNX.out,HT.out];simp,HB2.out,HN2.out⟩
    case measure=>simp[intOf];omega
   |false=>
    have m0:=HM2.out.cell 0;have hml:=HM2.out.lt;have hb7:=(Ji w2.heap.size w2).alloc (Jh _) (.cells #[.int .i64 0,.int .i64 0,false,key,.int .i64 k] 121);have HB7:=Jf (HB2.out.trans (hb7.mono HB2.out.size));have HS7:=Jf (HN2.out.on hb7);have HNW:=Jf (Blk.new w2 121 #[.int .i64 0,.int .i64 0,false,key,.int .i64 k]);have HSR1:=Jf (show qk (w2.alloc (.cells #[.int .i64 0,.int .i64 0,false,key,.int .i64 k] 121)) (some ⟨w2.heap.size,0,none⟩) 1 (eU [⟨0,0,false,key,k⟩]) from⟨(λe=>by cases e),λad e j u hu=>by injection e with e;subst e;exact JU HNW.out j u hu⟩);have HSZ:=Jf HB7.out.size;obtain⟨i0,hi0,hz0,hz1,hz2⟩:=vr;clear hb7;go_wp2_with (at_builtin;refine bN _ rfl _ _ _ rfl w0.heap.size 121 i0 _ 5 48 Tryz.underlying86 hi0 hz0 hz1 hz2 rfl (by decide) (.slice A3 t.length c3) t.length (eU t) rfl HS7.out (some ⟨w2.heap.size,0,none⟩) 1 1 (eU [⟨0,0,false,key,k⟩]) rfl rfl HSR1.out (tE _) (by unfold maxLen;omega) (by omega) HSZ.out (t.length+1) rfl ?_;intro A8 c8 x8 hown hgr;have HOWN:=Jf hown;have HGR:=Jf hgr;clear hown hgr);have HB8:=Jf (show Below w0.heap.size w0 x8 from HB7.out.grown HGR.out HB7.out.size (λq hq=>(HS7.out.lt q hq).1));have HS8:=Jf (show az x8 w0.heap.size A8 c8 (t++[⟨0,0,false,key,k⟩]) by
     unfold az;rw[nW,Jk,Jy];exact HOWN.out)
    go_roundw;case rel=>exact⟨k+1,A8,c8,t++[⟨0,0,false,key,k⟩],by rw[Jk];rfl,by go_num,by omega,by rw[Jk,Jy];omega,by rw[HNX.out,HT.out];simp,HB8.out,HS8.out⟩
    case measure=>simp[intOf];omega
  .obtain rfl:k=m.length:=by omega
   have HF:=Jf (show t=Vd.eI ⟨P,nall,npass,keys⟩ m by rw[HT.out,JC]);go_wp2_with fail;go_ret;exact⟨A3,c3,by rw[HF.out];rfl,by rw[<-HF.out];exact HNU.out.less HB0.out.size,HB0.out.trans (HB.out.mono HB0.out.size)⟩
end
