import Derived.Test.YtdhgmaonolgpnaaGreatDoorDa
import Derived.Test.YtdhgmaonolgpnaaGreatDoorPw
set_option linter.unusedSimpArgs false
namespace Go.Proofs.YtdhgmaonolgpnaaGreatDoor
section
open Go.RowKit Js Pt
def gd(_:Cl)(p:Jd×Nat)(cs:List Value):Prop:=cs=[.string ⟨p.1.toArray⟩,.int .i64 p.2]
def qj(c:Cl)(A:Option Addr)(ks:List (Jd×Nat)):Prop:=∀i p,ks[i]? =some p->∃g o,A=some ⟨g,o,none⟩/\c ⟨g,o+i*2,none⟩=some (.string ⟨p.1.toArray⟩)/\c ⟨g,o+i*2+1,none⟩=some (.int .i64 p.2)
def dh(c:Cl)(k:Cm.Key)(cs:List Value):Prop:=∃(r:Array Value) (A:Option Addr) (cp:Nat),cs=.string ⟨k.name.toArray⟩::(r.toList++[.slice A k.kids.length cp])/\k.v.In c (.agg r)/\qj c A k.kids/\k.kids.length<=cp/\cp<=maxLen
def gS(c:Cl)(A:Option Addr)(ks:List Cm.Key):Prop:=∀i k,ks[i]? =some k->∃g o cs,A=some ⟨g,o,none⟩/\dh c k cs/\∀(j:Nat) u,cs[j]? =some u->c ⟨g,o+i*10+j,none⟩=some u
def ItN(c:Cl)(N:Cm.Node)(cs:List Value):Prop:=∃(A:Option Addr) (cp:Nat),cs=[.string ⟨(text N.at_).toArray⟩,.bool N.all,.bool N.pass,.slice A N.keys.length cp]/\gS c A N.keys/\N.keys.length<=cp/\cp<=maxLen
def SlN(c:Cl)(A:Option Addr)(a:List Cm.Node):Prop:=∀i N,a[i]? =some N->∃g o cs,A=some ⟨g,o,none⟩/\ItN c N cs/\∀(j:Nat) u,cs[j]? =some u->c ⟨g,o+i*4+j,none⟩=some u
section
variable {c c':Cl}
theorem gd.mono(_:c.le c'){p:Jd×Nat}{cs:List Value}(h:gd c p cs):gd c' p cs:=h
theorem qj.keep(h:c.le c'){A:Option Addr}{ks:List (Jd×Nat)}(hs:qj c A ks):qj c' A ks:=λi p hi=>by
 obtain⟨g,o,h1,h2,h3⟩:=hs i p hi;exact⟨g,o,h1,h _ _ h2,h _ _ h3⟩
theorem dh.mono(h:c.le c'){k:Cm.Key}{cs:List Value}(hs:dh c k cs):dh c' k cs:=by
 obtain⟨r,A,cp,h1,h2,h3,h4,h5⟩:=hs;exact⟨r,A,cp,h1,In.keep h _ _ h2,h3.keep h,h4,h5⟩
theorem gS.keep(h:c.le c'){A:Option Addr}{ks:List Cm.Key}(hs:gS c A ks):gS c' A ks:=λi k hi=>by
 obtain⟨g,o,cs,h1,h2,h3⟩:=hs i k hi;exact⟨g,o,cs,h1,h2.mono h,λj u hu=>h _ _ (h3 j u hu)⟩
theorem ItN.mono(h:c.le c'){N:Cm.Node}{cs:List Value}(hs:ItN c N cs):ItN c' N cs:=by
 obtain⟨A,cp,h1,h2,h3,h4⟩:=hs;exact⟨A,cp,h1,h2.keep h,h3,h4⟩
theorem SlN.keep(h:c.le c'){A:Option Addr}{a:List Cm.Node}(hs:SlN c A a):SlN c' A a:=λi N hi=>by
 obtain⟨g,o,cs,h1,h2,h3⟩:=hs i N hi;exact⟨g,o,cs,h1,h2.mono h,λj u hu=>h _ _ (h3 j u hu)⟩
end
structure But (X:Nat->Prop) (w w':World):Prop where
 os:w'.os=w.os
 tape:w'.tape=w.tape
 output:w'.output=w.output
 size:w.heap.size<=w'.heap.size
 block:∀b,b<w.heap.size->¬X b->w'.heap[b]? =w.heap[b]?
section
variable {X Y:Nat->Prop} {w w' w'':World}
theorem But.refl(X:Nat->Prop)(w:World):But X w w:=⟨rfl,rfl,rfl,Jh _,λ_ _ _=>rfl⟩
theorem But.of(h:Below w.heap.size w w'):But X w w':=⟨h.os,h.tape,h.output,h.size,λb hb _=>h.block b hb⟩
theorem But.sub(h:But X w w')(hs:∀b,b<w.heap.size->X b->Y b):But Y w w':=⟨h.os,h.tape,h.output,h.size,λb hb hy=>h.block b hb (λhx=>hy (hs b hb hx))⟩
theorem But.trans(h:But X w w')(h':But Y w' w'')(hs:∀b,b<w.heap.size->Y b->X b):But X w w'':=
 ⟨h'.os.trans h.os,h'.tape.trans h.tape,h'.output.trans h.output,JA h.size h'.size,λb hb hx=>(h'.block b (JN hb h.size) (λhy=>hx (hs b hb hy))).trans (h.block b hb hx)⟩
theorem But.below{B:Nat}(h:But X w w')(hB:B<=w.heap.size)(hX:∀b,b<B->¬X b):Below B w w':=⟨h.os,h.tape,h.output,h.size,λb hb=>h.block b (JN hb hB) (hX b hb)⟩
theorem But.set(h:But X w w'){p:Addr}(hp:w.heap.size<=p.block\/X p.block)(u:Value):But X w (w'.setCell p u):=
 ⟨h.os,h.tape,h.output,by simpa[World.setCell] using h.size,λb hb hx=>(JG w' p u b (λe=>by subst e;rcases hp with k|k;omega;exact hx k)).trans (h.block b hb hx)⟩
theorem But.grown{row:Option Nat}(h:But X w w')(hg:w'.grownBy w'' row)(hr:∀q,row=some q->w.heap.size<=q\/X q):But X w w'':=
 ⟨hg.os.trans h.os,hg.tape.trans h.tape,hg.output.trans h.output,JA h.size hg.size,λb hb hx=>(hg.block b (JN hb h.size) (λe=>by rcases hr b e.symm with k|k;omega;exact hx k)).trans (h.block b hb hx)⟩
theorem But.blk{g:Nat}{t:TypeId}{cs:Array Value}(h:But X w w')(hb:Blk w g t cs)(hx:¬X g):Blk w' g t cs:=(h.block g hb.lt hx).trans hb
theorem But.on(h:But X w w'){S S':Nat->Prop}(hs:∀b,S b->S' b)(hx:∀b,S b->b<w.heap.size->¬X b):Cl.le (w.on S) (w'.on S'):=dN (λb hb _=>hs b hb) (λb hb h2=>h.block b h2 (hx b hb h2))
end
def bI{α:Type}(It:Cl->α->List Value->Prop)(T:TypeId)(k:Nat)(X:Nat->Prop)(w:World)(B:Nat)(A:Option Addr)(cp:Nat)(acc:List α):Prop:=
 ∃(R:Nat->Prop) (flat:List Value),(∀b,R b->b<w.heap.size/\¬X b/\∀ad,A=some ad->b≠ad.block)/\w.ownsRow B T k (.slice A acc.length cp) acc.length flat/\(∀u∈flat,u.oneCell'=true)/\
  ∀i a,acc[i]? =some a->∃cs,It (w.on R) a cs/\∀(j:Nat) u,cs[j]? =some u->flat[i*k+j]? =some u
section
variable {α:Type} {It:Cl->α->List Value->Prop} {T:TypeId} {k:Nat} {X:Nat->Prop} {w w':World} {B:Nat} {A:Option Addr} {cp:Nat} {acc:List α}
theorem bI.nil(w:World)(B:Nat):bI It T k X w B none 0 []:=⟨λ_=>False,[],(λb h=>h.elim),⟨by simp,.inl ⟨rfl,rfl⟩⟩,(λu h=>by cases h),λi v h=>by simp at h⟩
theorem bI.le(h:bI It T k X w B A cp acc):acc.length<=cp/\cp<=maxLen/\(∀ad,A=some ad->∃g,ad=⟨g,0,none⟩/\B<=g/\g<w.heap.size):=by
 obtain⟨R,flat,_,hown,_⟩:=h;have hl:=ai hown;exact⟨hl.1,hl.2.1,hl.2.2.2⟩
theorem bI.but(hmono:∀{c c':Cl},c.le c'->∀{a cs},It c a cs->It c' a cs){X':Nat->Prop}(h:bI It T k X w B A cp acc)(hb:But X w w')(hA:∀ad,A=some ad->¬X ad.block)(hX:∀b,b<w.heap.size->X' b->X b):bI It T k X' w' B A cp acc:=by
 obtain⟨R,flat,hR,hown,h1,hel⟩:=h;refine⟨R,flat,λb hb2=>⟨JN (hR b hb2).1 hb.size,λhx=>(hR b hb2).2.1 (hX b (hR b hb2).1 hx),(hR b hb2).2.2⟩,⟨hown.1,?_⟩,h1,λi a hi=>?_⟩
 .rcases hown.2 with h0|⟨g,cap,cur,e,h2,h3,h4⟩
  .exact .inl h0
  .refine .inr ⟨g,cap,cur,e,h2,?_,h4⟩;injection e with e1 _ _;have hlt:g<w.heap.size:=by
    rcases KW g w.heap.size with q|q
    .exact q
    .rw[Ll q] at h3;cases h3
   rw[hb.block g hlt (hA _ e1)];exact h3
 .obtain⟨cs,h2,h3⟩:=hel i a hi;exact⟨cs,hmono (hb.on (λ_ h=>h) (λb hb2 _=>(hR b hb2).2.1)) h2,h3⟩
theorem bI.push(hmono:∀{c c':Cl},c.le c'->∀{a cs},It c a cs->It c' a cs){j:Nat}(hj:acc.length=j)(h:bI It T k X w B A cp acc):
  ∃flat,w.ownsRow B T k (.slice A j cp) j flat/\∀{w6:World} {a:α} {cs:List Value} {g cap:Nat} {Rn:Nat->Prop},It (w.on Rn) a cs->(∀b,Rn b->b<w.heap.size/\¬X b/\∀ad,A=some ad->b≠ad.block)->(∀u∈cs,u.oneCell'=true)->cs.length=k->w6.ownsRow B T k (.slice (some ⟨g,0,none⟩) (j+1) cap) (j+1) (flat++cs)->w.grownBy w6 (Value.slice A j cp).ownBlock->((Value.slice A j cp).ownBlock=some g\/g=w.heap.size)->bI It T k X w6 B (some ⟨g,0,none⟩) cap (acc++[a]):=by
 subst hj;obtain⟨R,flat,hR,hown,h1,hel⟩:=h;refine⟨flat,hown,?_⟩;intro w6 a cs g cap Rn ha hRn hcs hck h6 hg hat;have hA:∀b,(∀ad,A=some ad->b≠ad.block)->some b≠(Value.slice A acc.length cp).ownBlock:=by
  intro b hb e;cases A with
  |none=>cases e
  |some ad=>
   obtain⟨g2,rfl,_⟩:=(ai hown).2.2.2 ad rfl;exact hb _ rfl (by simpa[Value.ownBlock] using e)
 have hAg:∀b,b<w.heap.size->(∀ad,A=some ad->b≠ad.block)->b≠g:=by
  intro b hb h2 e;subst e;rcases hat with hat|hat
  .exact hA b h2 hat.symm
  .omega
 have hall:∀b,(R b\/Rn b)->b<w.heap.size/\¬X b/\∀ad,A=some ad->b≠ad.block:=λb hb=>hb.elim (hR b) (hRn b);have hkeep:∀(R':Nat->Prop),(∀b,R' b->R b\/Rn b)->Cl.le (w.on R') (w6.on λb=>R b\/Rn b):=λR' hR'=>dN (λb hb _=>hR' b hb) (λb hb h2=>hg.block b h2 (hA b (hall b (hR' b hb)).2.2));refine⟨λb=>R b\/Rn b,flat++cs,λb hb=>⟨JN (hall b hb).1 hg.size,(hall b hb).2.1,λad e=>?_⟩,?_,?_,?_⟩
 .injection e with e;subst e;exact hAg b (hall b hb).1 (hall b hb).2.2
 .rw[Jk];exact h6
 .intro u hu;exact(Jq.1 hu).elim (h1 u) (hcs u)
 .intro i x hi;by_cases hlt:i<acc.length
  .rw[JD hlt] at hi;obtain⟨cs2,h2,h3⟩:=hel i x hi;exact⟨cs2,hmono (hkeep R (λb h=>.inl h)) h2,λj u hu=>by
    have:=h3 j u hu;rw[JD ((Jm.1 this).1)];exact this⟩
  .rw[Jx (by omega)] at hi;have hl:=(Jm.1 hi).1;have h0:i-acc.length=0:=by simp at hl;omega
   rw[h0] at hi;obtain rfl:a=x:=by simpa using hi
   refine⟨cs,hmono (hkeep Rn (λb h=>.inr h)) ha,λj u hu=>?_⟩;have hfl:flat.length=acc.length*k:=hown.1;rw[show i=acc.length by omega,Jx (by rw[hfl];omega),hfl,Kz];exact hu
theorem BC(g o j:Nat):(⟨g,o,none⟩:Addr).add j=⟨g,o+j,none⟩:=by
 unfold Addr.add;by_cases hj0:j=0<;>simp[hj0]
theorem bI.items(h:bI It T k X w B A cp acc){i:Nat}{a:α}(hi:acc[i]? =some a):
  ∃(R:Nat->Prop) (g:Nat) (cs:List Value),A=some ⟨g,0,none⟩/\B<=g/\(∀b,R b->b<w.heap.size/\¬X b/\b≠g)/\It (w.on R) a cs/\∀(j:Nat) u,cs[j]? =some u->w.cell? ⟨g,i*k+j,none⟩=some u:=by
 obtain⟨R,flat,hR,hown,_,hel⟩:=h;obtain⟨cs,h1,h2⟩:=hel i a hi;have hil:=(Jm.1 hi).1;rcases hown.2 with⟨e,h0⟩|⟨g,cap,cur,e,hbg,_⟩
 .omega
 .injection e with e1 e2 e3;subst e1;have hc:=hown.cells (g:=g) rfl;refine⟨R,g,cs,rfl,hbg,λb hb=>⟨(hR b hb).1,(hR b hb).2.1,(hR b hb).2.2 _ rfl⟩,h1,λj u hu=>?_⟩;have:=hc _ _ (h2 j u hu);rw[BC,JI] at this;exact this
end
theorem bI.slN{X:Nat->Prop}{w:World}{B:Nat}{A:Option Addr}{cp:Nat}{a:List Cm.Node}(h:bI ItN 39 4 X w B A cp a):SlN w.cell? A a:=λi N hi=>by
 obtain⟨R,g,cs,hA,_,_,h1,h2⟩:=bI.items (It:=ItN) h hi;exact⟨g,0,cs,hA,h1.mono (my _ _),λj u hu=>by rw[JI];exact h2 j u hu⟩
theorem bI.I2{X:Nat->Prop}{w:World}{B:Nat}{A:Option Addr}{cp:Nat}{a:List Cm.Key}(h:bI dh 68 10 X w B A cp a)(hA0:∀ad,A=some ad->¬X ad.block):∃Rn:Nat->Prop,(∀b,Rn b->b<w.heap.size/\¬X b)/\gS (w.on Rn) A a:=by
 refine⟨λb=>b<w.heap.size/\¬X b,λb h=>h,λi N hi=>?_⟩;obtain⟨R,g,cs,hA,_,hR,h1,h2⟩:=bI.items (It:=dh) h hi;refine⟨g,0,cs,hA,h1.mono (AE λb hb=>⟨(hR b hb).1,(hR b hb).2.1⟩),λj u hu=>?_⟩;have hc:=h2 j u hu;rw[JI];exact ah.2 ⟨⟨Jn _ _ hc,hA0 ⟨g,0,none⟩ hA⟩,hc⟩
def Bk(A:Option Addr)(b:Nat):Prop:=∃ad,A=some ad/\b=ad.block
structure Mk (gm:Nat) (Y:Nat->Prop) (A:Option Addr) (cp:Nat) (acc:List Cm.Node) (bad:Nat) (p:Jd) (w:World):Prop where
 blk:Blk w gm 105 #[.slice A acc.length cp,.int .i64 bad,p]
 row:bI ItN 39 4 (λb=>b=gm\/Y b) w (gm+1) A cp acc
 few:acc.length<=200
 apart:∀b,Bk A b->¬Y b
 ng:¬Y gm
 yl:∀b,Y b->b<w.heap.size
def LX(gm:Nat)(A:Option Addr)(b:Nat):Prop:=b=gm\/Bk A b
def aW(A A':Option Addr)(w:World):Prop:=∀b,Bk A' b->Bk A b\/w.heap.size<=b
theorem aW.refl(A:Option Addr)(w:World):aW A A w:=λ_ h=>.inl h
theorem aW.trans{A A' A'':Option Addr}{w w':World}(h:aW A A' w)(h':aW A' A'' w')(hs:w.heap.size<=w'.heap.size):aW A A'' w:=λb e=>by
 rcases h' b e with e1|e1
 .exact h b e1
 .exact .inr (JA hs e1)
theorem LX.back{gm:Nat}{A A':Option Addr}{w:World}(h:aW A A' w)(b:Nat)(hb:b<w.heap.size)(hx:LX gm A' b):LX gm A b:=by
 rcases hx with hx|hx
 .exact .inl hx
 .rcases h b hx with e|e
  .exact .inr e
  .omega
structure Ev (gm:Nat) (Y:Nat->Prop) (A:Option Addr) (A':Option Addr) (cp':Nat) (acc':List Cm.Node) (bad':Nat) (p':Jd) (w w':World):Prop where
 maker:Mk gm Y A' cp' acc' bad' p' w'
 but:But (LX gm A) w w'
 on:aW A A' w
def Ew(acc:List Cm.Node)(p:Jd)(r:Cm.Res (List Cm.Node))(acc':List Cm.Node)(bad':Nat)(p':Jd):Prop:=
 (∃a,r=.ok a/\acc'=acc++a/\bad'=0/\p'=p)\/(∃c q,r=.bad c q/\¬c=0/\c<=14/\bad'=c/\p'=text q/\acc.length<=acc'.length)
section
variable {gm:Nat} {Y Y0 Y':Nat->Prop} {A:Option Addr} {cp:Nat} {acc:List Cm.Node} {bad:Nat} {p:Jd} {w w':World}
theorem Mk.lt(h:Mk gm Y A cp acc bad p w):gm<w.heap.size:=h.blk.lt
theorem Mk.rowAt(h:Mk gm Y A cp acc bad p w){b:Nat}(e:Bk A b):gm<b/\b<w.heap.size:=by
 obtain⟨ad,e,rfl⟩:=e;obtain⟨g,rfl,hg,hl⟩:=h.row.le.2.2 ad e;exact⟨hg,hl⟩
theorem Mk.but(h:Mk gm Y A cp acc bad p w)(hb:But Y0 w w')(h0:∀b,b<w.heap.size->Y0 b->Y b)(hy:∀b,b<w.heap.size->Y' b->Y b)(hl:∀b,Y' b->b<w'.heap.size):Mk gm Y' A cp acc bad p w' where
 blk:=hb.blk h.blk (λk=>h.ng (h0 gm h.lt k))
 row:=bI.but (It:=ItN) (λh=>ItN.mono h) h.row (hb.sub (Y:=λb=>b=gm\/Y b) (λb hb k=>.inr (h0 b hb k))) (λad e k=>by
  have hr:=h.rowAt ⟨ad,e,rfl⟩;rcases k with k|k
  .omega
  .exact h.apart _ ⟨ad,e,rfl⟩ k) (λb hb k=>k.imp id (hy b hb))
 few:=h.few
 apart:=λb e k=>h.apart b e (hy b (h.rowAt e).2 k)
 ng:=λk=>h.ng (hy gm h.lt k)
 yl:=hl
theorem Mk.on(h:Mk gm Y A cp acc bad p w)(hb:Below w.heap.size w w'):Mk gm Y A cp acc bad p w':=
 h.but (Y0:=λ_=>False) (But.of hb) (λ_ _ k=>k.elim) (λ_ _ k=>k) (λb k=>JN (h.yl b k) hb.size)
theorem Mk.set(h:Mk gm Y A cp acc bad p w)(i:Nat)(u:Value){bad':Nat}{p':Jd}(hc:Blk (w.setCell ⟨gm,i,none⟩ u) gm 105 #[.slice A acc.length cp,.int .i64 bad',p']):Mk gm Y A cp acc bad' p' (w.setCell ⟨gm,i,none⟩ u) where
 blk:=hc
 row:=bI.but (It:=ItN) (λh=>ItN.mono h) h.row ((But.refl (λb=>b=gm\/Y b) w).set (p:=⟨gm,i,none⟩) (.inr (.inl rfl)) u) (λad e k=>by
  have hr:=h.rowAt ⟨ad,e,rfl⟩;rcases k with k|k
  .omega
  .exact h.apart _ ⟨ad,e,rfl⟩ k) (λb hb k=>k)
 few:=h.few
 apart:=h.apart
 ng:=h.ng
 yl:=λb k=>by simpa[World.setCell] using h.yl b k
theorem Mk.vV(h:Mk gm Y A cp acc bad p w)(c:Nat):Mk gm Y A cp acc c p (w.setCell ⟨gm,1,none⟩ (.int .i64 c)):=
 h.set 1 _ (Blk.ei (l:=[.slice A acc.length cp,.int .i64 bad,.string ⟨p.toArray⟩]) h.blk 1 _)
theorem Mk.setPath(h:Mk gm Y A cp acc bad p w)(q:Jd):Mk gm Y A cp acc bad q (w.setCell ⟨gm,2,none⟩ (.string ⟨q.toArray⟩)):=
 h.set 2 _ (Blk.ei (l:=[.slice A acc.length cp,.int .i64 bad,.string ⟨p.toArray⟩]) h.blk 2 _)
end
structure aS (w:World) (gm:Nat) (Y:Nat->Prop) (A:Option Addr) (cs:Array Value) (A':Option Addr) (cp':Nat) (acc':List Cm.Node) (bad':Nat) (p':Jd) (Ak:Option Addr) (ck:Nat) (keys:List Cm.Key) (Z:Nat->Prop) (W:World):Prop where
 box:Blk W w.heap.size 31 cs
 maker:Mk gm (λb=>Y b\/Bk Ak b\/Z b) A' cp' acc' bad' p' W
 but:But (LX gm A) w W
 on:aW A A' w
 lt:gm<w.heap.size
 far:¬Bk A' w.heap.size
 keys:bI dh 68 10 (λb=>LX gm A' b\/Y b\/Z b) W (w.heap.size+1) Ak ck keys
 yl:∀b,Y b->b<w.heap.size
 zl:∀b,Z b->w.heap.size<b
 zk:∀b,Bk Ak b->¬Z b
section
variable {w:World} {gm:Nat} {Y:Nat->Prop} {A:Option Addr} {cs:Array Value} {A' A'':Option Addr} {cp' cp'':Nat} {acc' acc'':List Cm.Node} {bad' bad'':Nat} {p' p'':Jd} {Ak Ak':Option Addr} {ck ck':Nat} {keys keys':List Cm.Key} {Z Z':Nat->Prop} {W W':World}
theorem aS.ij(h:aS w gm Y A cs A' cp' acc' bad' p' Ak ck keys Z W){b:Nat}(e:Bk Ak b):w.heap.size<b/\b<W.heap.size:=by
 obtain⟨ad,e,rfl⟩:=e;obtain⟨g,rfl,hg,hl⟩:=h.keys.le.2.2 ad e;exact⟨hg,hl⟩
theorem aS.boxX(h:aS w gm Y A cs A' cp' acc' bad' p' Ak ck keys Z W):¬LX gm A' w.heap.size:=by
 rintro(e|e)
 .have:=h.lt;omega
 .exact h.far e
theorem aS.Fx(h:aS w gm Y A cs A' cp' acc' bad' p' Ak ck keys Z W){b:Nat}(e:Bk Ak b):¬(LX gm A' b\/Y b\/Z b):=by
 have hk:=h.ij e;rintro((k|k)|k|k)
 .have:=h.lt;omega
 .exact h.maker.apart b k (.inr (.inl e))
 .have:=h.yl b k;omega
 .exact h.zk b e k
theorem aS.call(h:aS w gm Y A cs A' cp' acc' bad' p' Ak ck keys Z W)(hb:But (LX gm A') W W')(hr:aW A' A'' W)(hm:Mk gm (λb=>Y b\/Bk Ak b\/Z b) A'' cp'' acc'' bad'' p'' W'):aS w gm Y A cs A'' cp'' acc'' bad'' p'' Ak ck keys Z W' where
 box:=hb.blk h.box h.boxX
 maker:=hm
 but:=h.but.trans hb (λb hb2 k=>LX.back h.on b hb2 k)
 on:=h.on.trans hr h.but.size
 lt:=h.lt
 far:=λk=>by
  rcases hr _ k with k|k
  .exact h.far k
  .have:=h.box.lt;omega
 keys:=bI.but (It:=dh) (λh=>dh.mono h) h.keys (hb.sub (λb _ k=>.inl k)) (λad e=>h.Fx ⟨ad,e,rfl⟩) (λb hb2 k=>k.imp (LX.back hr b hb2) id)
 yl:=h.yl
 zl:=h.zl
 zk:=h.zk
theorem aS.next(h:aS w gm Y A cs A' cp' acc' bad' p' Ak ck keys Z W)(hb:Below W.heap.size W W'):aS w gm Y A cs A' cp' acc' bad' p' Ak ck keys Z W':=
 h.call (But.of hb) (aW.refl _ _) (h.maker.on hb)
theorem aS.start{cp:Nat}{acc:List Cm.Node}{bad:Nat}{p:Jd}(h:Mk gm Y A cp acc bad p w)(cs:Array Value):aS w gm Y A cs A cp acc bad p none 0 [] (λ_=>False) (w.alloc (.cells cs 31)) where
 box:=Blk.new w _ _
 maker:=h.but (Y0:=λ_=>False) (But.of ((Ji _ _).alloc (Jh _) _)) (λ_ _ k=>k.elim) (λb _ k=>by rcases k with k|⟨ad,e,_⟩|k;exact k;cases e;exact k.elim) (λb k=>by
  rcases k with k|⟨ad,e,_⟩|k
  .have:=h.yl b k;simp;omega
  .cases e
  .exact k.elim)
 but:=But.of ((Ji _ _).alloc (Jh _) _)
 on:=aW.refl _ _
 lt:=h.lt
 far:=λk=>by have:=(h.rowAt k).2;omega
 keys:=bI.nil _ _
 yl:=h.yl
 zl:=λb k=>k.elim
 zk:=λb k _=>by obtain⟨ad,e,_⟩:=k;cases e
theorem aS.vV(h:aS w gm Y A cs A' cp' acc' bad' p' Ak ck keys Z W)(c:Nat):aS w gm Y A cs A' cp' acc' c p' Ak ck keys Z (W.setCell ⟨gm,1,none⟩ (.int .i64 c)):=
 h.call ((But.refl (LX gm A') W).set (p:=⟨gm,1,none⟩) (.inr (.inl rfl)) _) (aW.refl _ _) (h.maker.vV c)
theorem aS.setPath(h:aS w gm Y A cs A' cp' acc' bad' p' Ak ck keys Z W)(q:Jd):aS w gm Y A cs A' cp' acc' bad' q Ak ck keys Z (W.setCell ⟨gm,2,none⟩ (.string ⟨q.toArray⟩)):=
 h.call ((But.refl (LX gm A') W).set (p:=⟨gm,2,none⟩) (.inr (.inl rfl)) _) (aW.refl _ _) (h.maker.setPath q)
theorem aS.make(h:aS w gm Y A cs A' cp' acc' bad' p' Ak ck keys Z W)(hb:But Z W W')(hz:∀b,b<W.heap.size->Z' b->Z b)(hl:∀b,Z' b->b<W'.heap.size):aS w gm Y A cs A' cp' acc' bad' p' Ak ck keys Z' W' where
 box:=hb.blk h.box (λk=>O2 _ (h.zl _ k))
 maker:=h.maker.but hb (λb _ k=>.inr (.inr k)) (λb hb2 k=>k.imp id (Or.imp id (hz b hb2))) (λb k=>by
  rcases k with k|k|k
  .exact JN (h.maker.yl b (.inl k)) hb.size
  .exact JN (h.ij k).2 hb.size
  .exact hl b k)
 but:=h.but.trans hb (λb hb2 k=>by have:=h.zl b k;omega)
 on:=h.on
 lt:=h.lt
 far:=h.far
 keys:=bI.but (It:=dh) (λh=>dh.mono h) h.keys (hb.sub (λb _ k=>.inr (.inr k))) (λad e=>h.Fx ⟨ad,e,rfl⟩) (λb hb2 k=>k.imp id (Or.imp id (hz b hb2)))
 yl:=h.yl
 zl:=λb k=>by
  rcases KW b W.heap.size with q|q
  .exact h.zl b (hz b q k)
  .have:=h.box.lt;omega
 zk:=λb k k2=>h.zk b k (hz b (h.ij k).2 k2)
theorem aS.keyed(h:aS w gm Y A cs A' cp' acc' bad' p' Ak ck keys Z W)(hb:But (Bk Ak) W W')(hr:aW Ak Ak' W)(hk:bI dh 68 10 (λb=>LX gm A' b\/Y b\/Z b) W' (w.heap.size+1) Ak' ck' keys')(hz:∀b,Z b->b<W.heap.size):aS w gm Y A cs A' cp' acc' bad' p' Ak' ck' keys' Z W' where
 box:=hb.blk h.box (λk=>by have:=(h.ij k).1;omega)
 maker:=h.maker.but hb (λb _ k=>.inr (.inl k)) (λb hb2 k=>by
  rcases k with k|k|k
  .exact .inl k
  .rcases hr b k with k|k
   .exact .inr (.inl k)
   .omega
  .exact .inr (.inr k)) (λb k=>by
  rcases k with k|k|k
  .exact JN (h.maker.yl b (.inl k)) hb.size
  .obtain⟨ad,e,rfl⟩:=k;obtain⟨g,rfl,_,hl⟩:=hk.le.2.2 ad e;exact hl
  .exact JN (hz b k) hb.size)
 but:=h.but.trans hb (λb hb2 k=>by have:=(h.ij k).1;omega)
 on:=h.on
 lt:=h.lt
 far:=h.far
 keys:=hk
 yl:=h.yl
 zl:=h.zl
 zk:=λb k k2=>by
  rcases hr b k with k|k
  .exact h.zk b k k2
  .have:=hz b k2;omega
theorem aS.grow(h:aS w gm Y A cs A' cp' acc' bad' p' Ak ck keys Z W){w6:World}(hb:But (Bk A') W w6)(hr:aW A' A'' W){N:Cm.Node}(hrow:bI ItN 39 4 (λb=>b=gm\/Y b\/Bk Ak b\/Z b) w6 (gm+1) A'' cp'' (acc'++[N]))(hf:acc'.length<200):
  aS w gm Y A cs A'' cp'' (acc'++[N]) bad' p' Ak ck keys Z (w6.setCell ⟨gm,0,none⟩ (.slice A'' (acc'.length+1) cp'')):=by
 have hb2:But (LX gm A') W w6:=hb.sub (λb _ k=>.inr k);have hgm:¬Bk A' gm:=λk=>by have:=(h.maker.rowAt k).1;omega
 have hbl:=hb.blk h.maker.blk hgm;have h6:=Blk.ei (l:=[.slice A' acc'.length cp',.int .i64 bad',.string ⟨p'.toArray⟩]) hbl 0 (.slice A'' (acc'.length+1) cp'');have hap:∀b,Bk A'' b->¬(Y b\/Bk Ak b\/Z b):=λb e k=>by
  rcases hr b e with k2|k2
  .exact h.maker.apart b k2 k
  .have:=h.maker.yl b k;omega
 refine h.call (hb2.set (p:=⟨gm,0,none⟩) (.inr (.inl rfl)) _) hr ⟨?_,?_,by simp;omega,hap,h.maker.ng,λb k=>?_⟩
 .rw[Jk];exact h6
 .refine bI.but (It:=ItN) (λh=>ItN.mono h) hrow ((But.refl _ w6).set (p:=⟨gm,0,none⟩) (.inr (.inl rfl)) _) (λad e k=>?_) (λb _ k=>k);rcases k with k|k
  .obtain⟨g,rfl,hg,_⟩:=hrow.le.2.2 ad e;simp only at k;omega
  .exact hap _ ⟨ad,e,rfl⟩ k
 .have:=JN (h.maker.yl b k) hb.size;simpa[World.setCell] using this
end
theorem bI.Ix{X:Nat->Prop}{w:World}{B:Nat}{A:Option Addr}{cp:Nat}{ks:List (Jd×Nat)}(h:bI gd 109 2 X w B A cp ks)(X':Nat->Prop):bI gd 109 2 X' w B A cp ks:=by
 obtain⟨R,flat,_,hown,h1,hel⟩:=h;exact⟨λ_=>False,flat,λb k=>k.elim,hown,h1,λi a hi=>by obtain⟨cs,h2,h3⟩:=hel i a hi;exact⟨cs,h2,h3⟩⟩
section
variable {w:World} {gm:Nat} {Y:Nat->Prop} {A:Option Addr} {cs:Array Value} {A' A'':Option Addr} {cp' cp'':Nat} {acc' acc'':List Cm.Node} {bad' bad'':Nat} {p' p'':Jd} {Ak Ak':Option Addr} {ck ck':Nat} {keys keys':List Cm.Key} {Z Z':Nat->Prop} {W W':World}
theorem aS.finish(h:aS w gm Y A cs A' cp' acc' bad' p' Ak ck keys (λ_=>False) W){i:Nat}(hi:i<acc'.length):
  ∃g,A'=some ⟨g,0,none⟩/\(∃u,W.cell? ⟨g,i*4+3,none⟩=some u)/\W.frozen? ⟨g,i*4+3,none⟩=false/\Ev gm Y A A' cp' (acc'.set i {acc'[i] with keys:=keys}) bad' p' w (W.setCell ⟨g,i*4+3,none⟩ (.slice Ak keys.length ck)):=by
 have hk:=bI.I2 h.keys (λad e=>h.Fx ⟨ad,e,rfl⟩);obtain⟨Rn,hRn,hsl⟩:=hk;obtain⟨R,flat,hR,hown,h1,hel⟩:=h.maker.row;obtain⟨c0,hc0,hf0⟩:=hel i _ (Jg hi);obtain⟨A0,cp0,rfl,_,_,_⟩:=hc0;obtain⟨g,rfl⟩:∃g,A'=some ⟨g,0,none⟩:=by
  cases hA:A' with
  |none=>subst hA;have hb:=(ai hown).2.2.1 rfl;omega
  |some ad=>subst hA;obtain⟨g,rfl,_⟩:=(ai hown).2.2.2 ad rfl;exact⟨g,rfl⟩
 have hbg:Bk (some (⟨g,0,none⟩:Addr)) g:=⟨_,rfl,rfl⟩;have hg:=h.maker.rowAt hbg;have hkl:=bI.le h.keys;have hcell:=ax hown (i*4+3) _ (hf0 3 _ rfl);refine⟨g,rfl,⟨_,hcell⟩,World.ownsRow.frozenAt hown _,?_,?_,h.on⟩
 .have hko:∀b,b≠g->(W.setCell ⟨g,i*4+3,none⟩ (.slice Ak keys.length ck)).heap[b]? =W.heap[b]? :=λb hb=>JG W ⟨g,i*4+3,none⟩ _ b hb;have hRg:∀b,R b\/Rn b->b<W.heap.size/\¬(b=gm\/Y b)/\b≠g:=by
   rintro b (k|k)
   .obtain⟨k1,k2,k3⟩:=hR b k;exact⟨k1,λq=>k2 (q.imp id .inl),k3 _ rfl⟩
   .obtain⟨k1,k2⟩:=hRn b k;refine⟨k1,λq=>k2 ?_,λe=>k2 (.inl (.inr ⟨_,rfl,e⟩))⟩;rcases q with q|q
    .exact .inl (.inl q)
    .exact .inr (.inl q)
  refine⟨?_,⟨λb=>R b\/Rn b,flat.set (i*4+3) (.slice Ak keys.length ck),λb hb=>⟨by simpa[World.setCell] using(hRg b hb).1,(hRg b hb).2.1,λad e=>by injection e with e;subst e;exact(hRg b hb).2.2⟩,?_,?_,?_⟩,?_,λb e k=>h.maker.apart b e (.inl k),λk=>h.maker.ng (.inl k),λb k=>?_⟩
  .rw[KF];exact(hko gm (by omega)).trans h.maker.blk
  .rw[KF];exact eZ hown _ _
  .intro u hu;rcases M7 hu with k|k
   .exact h1 u k
   .subst k;rfl
  .intro j N hj;have hle:∀S0:Nat->Prop,(∀b,S0 b->R b\/Rn b)->Cl.le (W.on S0) ((W.setCell ⟨g,i*4+3,none⟩ (.slice Ak keys.length ck)).on λb=>R b\/Rn b):=λS0 hS0=>dN (λb hb _=>hS0 b hb) (λb hb _=>hko b (hRg b (hS0 b hb)).2.2);by_cases e:i=j
   .subst e;rw[Kw hi] at hj;injection hj with hj;subst hj;refine⟨_,⟨Ak,ck,rfl,hsl.keep (hle Rn λb k=>.inr k),hkl.1,hkl.2.1⟩,λq u hu=>?_⟩
    match q,hu with
    |0,hu=>rw[KA (by omega)];exact hf0 0 u hu
    |1,hu=>rw[KA (by omega)];exact hf0 1 u hu
    |2,hu=>rw[KA (by omega)];exact hf0 2 u hu
    |3,hu=>
     have:=hf0 3 _ rfl;rw[Kw (Jm.1 this).1];exact hu
    |q+4,hu=>simp at hu
   .rw[KA e] at hj;obtain⟨c1,hc1,hf1⟩:=hel j N hj;refine⟨c1,hc1.mono (hle R λb k=>.inl k),λq u hu=>?_⟩;obtain⟨A1,cp1,rfl,_⟩:=hc1;have hq:q<4:=(Jm.1 hu).1;rw[KA (by omega)];exact hf1 q u hu
  .rw[KF];exact h.maker.few
  .simpa[World.setCell] using h.maker.yl b (.inl k)
 .refine h.but.set (p:=⟨g,i*4+3,none⟩) ?_ _;rcases h.on g hbg with k|k
  .exact .inr (.inr k)
  .exact .inl k
structure fq (w:World) (gm:Nat) (Y:Nat->Prop) (A:Option Addr) (cs:Array Value) (A':Option Addr) (cp':Nat) (acc':List Cm.Node) (bad':Nat) (p':Jd) (Ak:Option Addr) (ck:Nat) (keys:List Cm.Key) (gk:Nat) (kc:List Value) (Ad:Option Addr) (cd:Nat) (ks:List (Jd×Nat)) (W:World):Prop where
 node:aS w gm Y A cs A' cp' acc' bad' p' Ak ck keys (λb=>b=gk\/Bk Ad b) W
 key:Blk W gk 68 (kc++[Value.slice Ad ks.length cd]).toArray
 kids:bI gd 109 2 (LX gm A') W (gk+1) Ad cd ks
 gt:w.heap.size<gk
variable {gk:Nat} {kc:List Value} {Ad Ad':Option Addr} {cd cd':Nat} {ks ks':List (Jd×Nat)}
theorem fq.lP(h:fq w gm Y A cs A' cp' acc' bad' p' Ak ck keys gk kc Ad cd ks W){b:Nat}(e:Bk Ad b):gk<b/\b<W.heap.size/\¬LX gm A' b:=by
 have hb:gk<b/\b<W.heap.size:=by
  obtain⟨ad,e,rfl⟩:=e;obtain⟨g,rfl,hg,hl⟩:=h.kids.le.2.2 ad e;exact⟨hg,hl⟩
 refine⟨hb.1,hb.2,?_⟩;rintro(k|k)
 .have:=h.gt;have:=h.node.lt;omega
 .exact h.node.maker.apart b k (.inr (.inr (.inr e)))
theorem fq.Fx(h:fq w gm Y A cs A' cp' acc' bad' p' Ak ck keys gk kc Ad cd ks W):¬LX gm A' gk:=by
 rintro(k|k)
 .have:=h.gt;have:=h.node.lt;omega
 .exact h.node.maker.apart gk k (.inr (.inr (.inl rfl)))
theorem fq.call(h:fq w gm Y A cs A' cp' acc' bad' p' Ak ck keys gk kc Ad cd ks W)(hb:But (LX gm A') W W')(hr:aW A' A'' W)(hm:Mk gm (λb=>Y b\/Bk Ak b\/b=gk\/Bk Ad b) A'' cp'' acc'' bad'' p'' W'):fq w gm Y A cs A'' cp'' acc'' bad'' p'' Ak ck keys gk kc Ad cd ks W' where
 node:=h.node.call hb hr hm
 key:=hb.blk h.key h.Fx
 kids:=bI.but (It:=gd) (λh=>gd.mono h) h.kids hb (λad e=>(h.lP ⟨ad,e,rfl⟩).2.2) (LX.back hr)
 gt:=h.gt
theorem fq.next(h:fq w gm Y A cs A' cp' acc' bad' p' Ak ck keys gk kc Ad cd ks W)(hb:Below W.heap.size W W'):fq w gm Y A cs A' cp' acc' bad' p' Ak ck keys gk kc Ad cd ks W':=
 h.call (But.of hb) (aW.refl _ _) (h.node.maker.on hb)
theorem fq.start(h:aS w gm Y A cs A' cp' acc' bad' p' Ak ck keys (λ_=>False) W)(hb:Below W.heap.size W W')(hk:Blk W' W.heap.size 68 (kc++[Value.slice none 0 0]).toArray):fq w gm Y A cs A' cp' acc' bad' p' Ak ck keys W.heap.size kc none 0 [] W' where
 node:=h.make (But.of hb) (λb hb2 k=>by
  rcases k with k|⟨ad,e,_⟩
  .omega
  .cases e) (λb k=>by
  rcases k with k|⟨ad,e,_⟩
  .rw[k];exact hk.lt
  .cases e)
 key:=hk
 kids:=bI.nil _ _
 gt:=h.box.lt
theorem fq.grow(h:fq w gm Y A cs A' cp' acc' bad' p' Ak ck keys gk kc Ad cd ks W)(h9:kc.length=9){w6:World}(hb:But (Bk Ad) W w6)(hr:aW Ad Ad' W)(hrow:bI gd 109 2 (LX gm A') w6 (gk+1) Ad' cd' ks'):
  fq w gm Y A cs A' cp' acc' bad' p' Ak ck keys gk kc Ad' cd' ks' (w6.setCell ⟨gk,9,none⟩ (.slice Ad' ks'.length cd')):=by
 have hb2:But (λb=>b=gk\/Bk Ad b) W (w6.setCell ⟨gk,9,none⟩ (.slice Ad' ks'.length cd')):=(hb.sub (λb _ k=>.inr k)).set (p:=⟨gk,9,none⟩) (.inr (.inl rfl)) _;have hgk:¬Bk Ad gk:=λk=>by have:=(h.lP k).1;omega
 have h6:=Blk.ei (hb.blk h.key hgk) 9 (.slice Ad' ks'.length cd');have hap:∀b,Bk Ad' b->gk<b/\b<w6.heap.size/\¬LX gm A' b:=λb e=>by
  have h1:gk<b/\b<w6.heap.size:=by
   obtain⟨ad,e,rfl⟩:=e;obtain⟨g,rfl,hg,hl⟩:=hrow.le.2.2 ad e;exact⟨hg,hl⟩
  refine⟨h1.1,h1.2,λk=>?_⟩;rcases hr b e with q|q
  .exact(h.lP q).2.2 k
  .rcases k with k|k
   .have:=h.node.lt;have:=h.gt;omega
   .have:=(h.node.maker.rowAt k).2;omega
 refine⟨h.node.make hb2 (λb hb3 k=>?_) (λb k=>?_),?_,?_,h.gt⟩
 .rcases k with k|k
  .exact .inl k
  .rcases hr b k with q|q
   .exact .inr q
   .omega
 .have hs:=hb2.size;rcases k with k|k
  .have:=h.key.lt;omega
  .simpa[World.setCell] using(hap b k).2.1
 .rw[List.set_append_right _ _ (by omega),h9] at h6;exact h6
 .refine bI.but (It:=gd) (λh=>gd.mono h) (X':=LX gm A') (X:=λb=>LX gm A' b\/b=gk) ?_ ((But.refl _ w6).set (p:=⟨gk,9,none⟩) (.inr (.inr rfl)) _) (λad e k=>?_) (λb _ k=>.inl k)
  .exact hrow.Ix _
  .have:=hap _ ⟨ad,e,rfl⟩;rcases k with k|k
   .exact this.2.2 k
   .omega
theorem fq.done(h:fq w gm Y A cs A' cp' acc' bad' p' Ak ck keys gk kc Ad cd ks W){S:Nat->Prop}(hS:∀b,S b->b<w.heap.size/\¬LX gm A b/\¬Y b){nm:Jd}{v:Vl}{r:Array Value}(hv:v.In (w.on S) (.agg r))(hkc:kc=.string ⟨nm.toArray⟩::r.toList):
  aS w gm Y A cs A' cp' acc' bad' p' Ak ck keys (λ_=>False) W/\∃Rn:Nat->Prop,(∀b,Rn b->b<W.heap.size/\¬(LX gm A' b\/Y b\/False)/\∀ad,Ak=some ad->b≠ad.block)/\dh (W.on Rn) ⟨nm,v,ks⟩ (kc++[Value.slice Ad ks.length cd]):=by
 have hl:=bI.le h.kids;refine⟨h.node.make (But.refl _ _) (λ_ _ k=>k.elim) (λ_ k=>k.elim),λb=>S b\/Bk Ad b,?_,r,Ad,cd,by rw[hkc];rfl,?_,λi q hi=>?_,hl.1,hl.2.1⟩
 .rintro b (k|k)
  .obtain⟨h1,h2,h3⟩:=hS b k;refine⟨JN h1 h.node.but.size,?_,λad e e2=>?_⟩
   .rintro(q|q|q)
    .exact h2 (LX.back h.node.on b h1 q)
    .exact h3 q
    .exact q
   .have:=(h.node.ij ⟨ad,e,e2⟩).1;omega
  .obtain⟨h1,h2,h3⟩:=h.lP k;refine⟨h2,?_,λad e e2=>h.node.zk b ⟨ad,e,e2⟩ (.inr k)⟩;rintro(q|q|q)
   .exact h3 q
   .have:=h.node.yl b q;have:=h.gt;omega
   .exact q
 .exact In.keep (h.node.but.on (λb k=>.inl k) (λb k _=>(hS b k).2.1)) _ _ hv
 .obtain⟨R,g,cs,hA,_,_,rfl,h2⟩:=bI.items (It:=gd) h.kids hi;have e0:=h2 0 _ rfl;have e1:=h2 1 _ rfl;refine⟨g,0,hA,?_,?_⟩
  .rw[JI];exact ah.2 ⟨.inr ⟨_,hA,rfl⟩,e0⟩
  .rw[JI];exact ah.2 ⟨.inr ⟨_,hA,rfl⟩,e1⟩
end
end
