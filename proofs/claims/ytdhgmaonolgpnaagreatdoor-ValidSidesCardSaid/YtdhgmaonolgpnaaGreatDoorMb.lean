import Derived.Lib.RuneBytes
import Derived.Test.YtdhgmaonolgpnaaGreatDoorMa
set_option linter.unusedSimpArgs false
namespace Go.Proofs.YtdhgmaonolgpnaaGreatDoor
abbrev MJ:=@Go.Lib.encodeRuneZ_one
abbrev MK:=@Go.Lib.encodeRuneZ_two
abbrev Mt:=@Go.Lib.encodeRuneZ_three
abbrev MA:=@Go.Lib.encodeRuneZ_four
namespace St
def width(n b0 b1 b2 b3:Nat):Nat:=
 if b0<128 then(if 0<n then 1 else 0)
 else if b0<192 then 0
 else if b0<224 then(if 1<n/\(128<=b1/\b1<192)/\128<=64*(b0-192)+(b1-128) then 2 else 0)
 else if b0<240 then(if 2<n/\(128<=b1/\b1<192)/\(128<=b2/\b2<192)/\2048<=4096*(b0-224)+64*(b1-128)+(b2-128)/\
  (4096*(b0-224)+64*(b1-128)+(b2-128)<55296\/57344<=4096*(b0-224)+64*(b1-128)+(b2-128)) then 3 else 0)
 else if b0<248 then(if 3<n/\(128<=b1/\b1<192)/\(128<=b2/\b2<192)/\(128<=b3/\b3<192)/\65536<=262144*(b0-240)+4096*(b1-128)+64*(b2-128)+(b3-128)/\
  262144*(b0-240)+4096*(b1-128)+64*(b2-128)+(b3-128)<=1114111 then 4 else 0)
 else 0
def value(b0 b1 b2 b3:Nat):Nat:=
 if b0<128 then b0
 else if b0<224 then 64*(b0-192)+(b1-128)
 else if b0<240 then 4096*(b0-224)+64*(b1-128)+(b2-128)
 else 262144*(b0-240)+4096*(b1-128)+64*(b2-128)+(b3-128)
def g(l:Jd)(k:Nat):Nat:=(l.getD k 0).toNat
theorem CS(l:Jd)(k:Nat):g l k<256:=(l.getD k 0).toNat_lt
def utf8(l:Jd):Nat:=width l.length (g l 0) (g l 1) (g l 2) (g l 3)
def rune(l:Jd):Nat:=value (g l 0) (g l 1) (g l 2) (g l 3)
def scalar(r:Nat):Prop:=r<55296\/(57344<=r/\r<=1114111)
theorem Gv(n b0 b1 b2 b3:Nat):width n b0 b1 b2 b3<=n/\width n b0 b1 b2 b3<=4:=by
 unfold width
 repeat' split
 all_goals omega
theorem nS(l:Jd):utf8 l<=l.length/\utf8 l<=4:=Gv _ _ _ _ _
theorem wD(n b0 b1 b2 b3:Nat)(h0:b0<256)(h:width n b0 b1 b2 b3≠0):scalar (value b0 b1 b2 b3):=by
 unfold width at h;unfold scalar value
 repeat' split at h
 all_goals first|(exact absurd rfl h)|(repeat' split)<;>omega
theorem pC(l:Jd)(h:utf8 l≠0):scalar (rune l):=wD _ _ _ _ _ (CS l 0) h
theorem pK(l r:Jd)(h:utf8 l≠0):utf8 (l++r)=utf8 l/\rune (l++r)=rune l:=by
 have gk:∀k,k<l.length->g (l++r) k=g l k:=λk hk=>by simp[g,List.getElem?_append_left hk]
 unfold utf8 rune at*
 unfold width at h;unfold width value;rw[List.length_append];split at h
 .split at h
  .rw[gk 0 (by omega)];rename_i a b;rw[if_pos a,if_pos (show 0<l.length+r.length by omega),if_pos a,if_pos b,if_pos a,if_pos a];exact⟨rfl,rfl⟩
  .exact absurd rfl h
 .split at h
  .exact absurd rfl h
  .split at h
   .split at h
    .rename_i a b c d;rw[gk 0 (by omega),gk 1 (by omega)];rw[if_neg a,if_neg b,if_pos c,if_pos ⟨by omega,d.2⟩,if_neg a,if_neg b,if_pos c,if_pos d,if_neg a,if_pos c,if_neg a,if_pos c];exact⟨rfl,rfl⟩
    .exact absurd rfl h
   .split at h
    .split at h
     .rename_i a b c d e;rw[gk 0 (by omega),gk 1 (by omega),gk 2 (by omega)];rw[if_neg a,if_neg b,if_neg c,if_pos d,if_pos ⟨by omega,e.2⟩,if_neg a,if_neg b,if_neg c,if_pos d,if_pos e,if_neg a,if_neg c,if_pos d,if_neg a,if_neg c,if_pos d];exact⟨rfl,rfl⟩
     .exact absurd rfl h
    .split at h
     .split at h
      .rename_i a b c d e f;rw[gk 0 (by omega),gk 1 (by omega),gk 2 (by omega),gk 3 (by omega)];rw[if_neg a,if_neg b,if_neg c,if_neg d,if_pos e,if_pos ⟨by omega,f.2⟩,if_neg a,if_neg b,if_neg c,if_neg d,if_pos e,if_pos f];exact⟨rfl,rfl⟩
      .exact absurd rfl h
     .exact absurd rfl h
theorem ofInt(b:UInt8)(x:Int)(h:x=b.toNat):x.toNat.toUInt8=b:=by
 subst h;rw[Int.toNat_natCast];exact UInt8.ofNat_toNat
theorem Ce(l:Jd)(h:0<l.length):∃a,l.take 1=[a]/\a.toNat=g l 0:=by
 match l,h with
 |a::t,_=>exact⟨a,rfl,rfl⟩
theorem Cf(l:Jd)(h:1<l.length):∃a b,l.take 2=[a,b]/\a.toNat=g l 0/\b.toNat=g l 1:=by
 match l,h with
 |a::b::t,_=>exact⟨a,b,rfl,rfl,rfl⟩
theorem Cg(l:Jd)(h:2<l.length):∃a b c,l.take 3=[a,b,c]/\a.toNat=g l 0/\b.toNat=g l 1/\c.toNat=g l 2:=by
 match l,h with
 |a::b::c::t,_=>exact⟨a,b,c,rfl,rfl,rfl,rfl⟩
theorem Ci(l:Jd)(h:3<l.length):∃a b c d,l.take 4=[a,b,c,d]/\a.toNat=g l 0/\b.toNat=g l 1/\c.toNat=g l 2/\d.toNat=g l 3:=by
 match l,h with
 |a::b::c::d::t,_=>exact⟨a,b,c,d,rfl,rfl,rfl,rfl,rfl⟩
theorem sM(l:Jd)(h:utf8 l≠0):
  (utf8 l=1/\g l 0<128/\rune l=g l 0/\0<l.length)\/
  (utf8 l=2/\192<=g l 0/\g l 0<224/\(128<=g l 1/\g l 1<192)/\rune l=64*(g l 0-192)+(g l 1-128)/\128<=rune l/\1<l.length)\/
  (utf8 l=3/\224<=g l 0/\g l 0<240/\(128<=g l 1/\g l 1<192)/\(128<=g l 2/\g l 2<192)/\rune l=4096*(g l 0-224)+64*(g l 1-128)+(g l 2-128)/\2048<=rune l/\(rune l<55296\/57344<=rune l)/\2<l.length)\/
  (utf8 l=4/\240<=g l 0/\g l 0<248/\(128<=g l 1/\g l 1<192)/\(128<=g l 2/\g l 2<192)/\(128<=g l 3/\g l 3<192)/\rune l=262144*(g l 0-240)+4096*(g l 1-128)+64*(g l 2-128)+(g l 3-128)/\65536<=rune l/\rune l<=1114111/\3<l.length):=by
 unfold utf8 rune at*
 unfold width at*
 unfold value;generalize g l 0=b0 at*
 generalize g l 1=b1 at*
 generalize g l 2=b2 at*
 generalize g l 3=b3 at*
 generalize l.length=n at*
 split at h
 .split at h
  .rename_i a b
   left;simp[a,b]
  .exact absurd rfl h
 .split at h
  .exact absurd rfl h
  .split at h
   .split at h
    .rename_i a b c d
     right;left
     rw[if_neg a,if_neg b,if_pos c,if_pos d,if_neg a,if_pos c];omega
    .exact absurd rfl h
   .split at h
    .split at h
     .rename_i a b c d e
      right;right;left
      rw[if_neg a,if_neg b,if_neg c,if_pos d,if_pos e,if_neg a,if_neg c,if_pos d];omega
     .exact absurd rfl h
    .split at h
     .split at h
      .rename_i a b c d e f
       right;right;right
       rw[if_neg a,if_neg b,if_neg c,if_neg d,if_pos e,if_pos f,if_neg a,if_neg c,if_neg d];omega
      .exact absurd rfl h
     .exact absurd rfl h
theorem kN(l:Jd)(h:utf8 l≠0):Lib.encodeRune (rune l:Int)=l.take (utf8 l):=by
 unfold Lib.encodeRune;rcases sM l h with⟨e,h0,hr,hl⟩|⟨e,h0,h0',h1,hr,hr',hl⟩|⟨e,h0,h0',h1,h2,hr,hr',hs,hl⟩|⟨e,h0,h0',h1,h2,h3,hr,hr',hs,hl⟩
 .obtain⟨a,ht,ha⟩:=Ce l hl;rw[e,ht,MJ (by omega) (by omega)];simp only[List.map_cons,List.map_nil];rw[ofInt a _ (by omega)]
 .obtain⟨a,b,ht,ha,hb⟩:=Cf l hl;rw[e,ht,MK (by omega) (by omega)];simp only[List.map_cons,List.map_nil];rw[ofInt a _ (by omega),ofInt b _ (by omega)]
 .obtain⟨a,b,c,ht,ha,hb,hc⟩:=Cg l hl;rw[e,ht,Mt (by omega)];simp only[List.map_cons,List.map_nil];rw[ofInt a _ (by omega),ofInt b _ (by omega),ofInt c _ (by omega)]
 .obtain⟨a,b,c,d,ht,ha,hb,hc,hd⟩:=Ci l hl;rw[e,ht,MA (by omega) (by omega)];simp only[List.map_cons,List.map_nil];rw[ofInt a _ (by omega),ofInt b _ (by omega),ofInt c _ (by omega),ofInt d _ (by omega)]
theorem yZ(r:Nat)(h:scalar r)(t:Jd):utf8 (Lib.encodeRune (r:Int)++t)=(Lib.encodeRune (r:Int)).length/\rune (Lib.encodeRune (r:Int)++t)=r:=by
 unfold scalar at h;have tn:∀x:Int,0<=x->x<256->(x.toNat.toUInt8).toNat=x.toNat:=λx h0 h1=>by
  rw[show x.toNat.toUInt8=UInt8.ofNat x.toNat from rfl,UInt8.toNat_ofNat'];omega
 unfold Lib.encodeRune utf8 rune;by_cases c1:r<128
 .rw[MJ (by omega) (by omega)];have e0:g (([(r:Int)].map λx=>x.toNat.toUInt8)++t) 0=r:=by simp only[List.map_cons,List.map_nil,g,List.cons_append,List.getD_cons_zero];rw[tn _ (by omega) (by omega)];omega
  rw[e0];simp[width,value,c1]
 .by_cases c2:r<2048
  .rw[MK (by omega) (by omega)];generalize ht:(([192+(r:Int)/64,128+(r:Int)%64].map λx=>x.toNat.toUInt8)++t)=l;have e0:g l 0=192+r/64:=by rw[<-ht];simp only[List.map_cons,List.map_nil,g,List.cons_append,List.getD_cons_zero];rw[tn _ (by omega) (by omega)];omega
   have e1:g l 1=128+r%64:=by rw[<-ht];simp only[List.map_cons,List.map_nil,g,List.cons_append,List.getD_cons_zero,List.getD_cons_succ];rw[tn _ (by omega) (by omega)];omega
   have el:1<l.length:=by rw[<-ht];simp
   rw[e0,e1];simp only[List.length_map,List.length_cons,List.length_nil];unfold width value;rw[if_neg (by omega),if_neg (by omega),if_pos (by omega),if_pos (by omega),if_neg (by omega),if_pos (by omega)];omega
  .by_cases c3:r<65536
   .rw[Mt (by omega)];generalize ht:(([224+(r:Int)/4096,128+(r:Int)/64%64,128+(r:Int)%64].map λx=>x.toNat.toUInt8)++t)=l;have e0:g l 0=224+r/4096:=by rw[<-ht];simp only[List.map_cons,List.map_nil,g,List.cons_append,List.getD_cons_zero];rw[tn _ (by omega) (by omega)];omega
    have e1:g l 1=128+r/64%64:=by rw[<-ht];simp only[List.map_cons,List.map_nil,g,List.cons_append,List.getD_cons_zero,List.getD_cons_succ];rw[tn _ (by omega) (by omega)];omega
    have e2:g l 2=128+r%64:=by rw[<-ht];simp only[List.map_cons,List.map_nil,g,List.cons_append,List.getD_cons_zero,List.getD_cons_succ];rw[tn _ (by omega) (by omega)];omega
    have el:2<l.length:=by rw[<-ht];simp
    rw[e0,e1,e2];simp only[List.length_map,List.length_cons,List.length_nil];unfold width value;rw[if_neg (by omega),if_neg (by omega),if_neg (by omega),if_pos (by omega),if_pos (by omega),if_neg (by omega),if_neg (by omega),if_pos (by omega)];omega
   .rw[MA (by omega) (by omega)];generalize ht:(([240+(r:Int)/262144,128+(r:Int)/4096%64,128+(r:Int)/64%64,128+(r:Int)%64].map λx=>x.toNat.toUInt8)++t)=l;have e0:g l 0=240+r/262144:=by rw[<-ht];simp only[List.map_cons,List.map_nil,g,List.cons_append,List.getD_cons_zero];rw[tn _ (by omega) (by omega)];omega
    have e1:g l 1=128+r/4096%64:=by rw[<-ht];simp only[List.map_cons,List.map_nil,g,List.cons_append,List.getD_cons_zero,List.getD_cons_succ];rw[tn _ (by omega) (by omega)];omega
    have e2:g l 2=128+r/64%64:=by rw[<-ht];simp only[List.map_cons,List.map_nil,g,List.cons_append,List.getD_cons_zero,List.getD_cons_succ];rw[tn _ (by omega) (by omega)];omega
    have e3:g l 3=128+r%64:=by rw[<-ht];simp only[List.map_cons,List.map_nil,g,List.cons_append,List.getD_cons_zero,List.getD_cons_succ];rw[tn _ (by omega) (by omega)];omega
    have el:3<l.length:=by rw[<-ht];simp
    rw[e0,e1,e2,e3];simp only[List.length_map,List.length_cons,List.length_nil];unfold width value;rw[if_neg (by omega),if_neg (by omega),if_neg (by omega),if_neg (by omega),if_pos (by omega),if_pos (by omega),if_neg (by omega),if_neg (by omega),if_neg (by omega)];omega
inductive Txt:Jd->Prop
 |nil:Txt []
 |cons (l:Jd):utf8 l≠0->Txt (l.drop (utf8 l))->Txt l
theorem Txt.append{a b:Jd}(ha:Txt a)(hb:Txt b):Txt (a++b):=by
 induction ha with
 |nil=>exact hb
 |cons l h _ ih=>
  have e:=(pK l b h).1;refine .cons _ (by rw[e];exact h) ?_;rw[e,List.drop_append_of_le_length (nS l).1];exact ih
theorem Txt.encode{r:Nat}(h:scalar r):Txt (Lib.encodeRune (r:Int)):=by
 have e:=(yZ r h []).1;rw[List.append_nil] at e;have hl:1<=(Lib.encodeRune (r:Int)).length:=by rw[<-Lib.runeCells_length];exact(Lib.runeCells_le _).1
 refine .cons _ (by omega) ?_;rw[e,List.drop_length];exact .nil
def fi:Nat->Jd->Bool
 |_,[]=>true
 |0,_::_=>false
 |f+1,c::t=>if utf8 (c::t)=0 then false else fi f ((c::t).drop (utf8 (c::t)))
def text(l:Jd):Bool:=fi l.length l
theorem sL:∀(f:Nat) (l:Jd),fi f l=true->Txt l
 |_,[],_=>.nil
 |0,_::_,h=>by simp[fi] at h
 |f+1,c::t,h=>by
  unfold fi at h;split at h
  .cases h
  .rename_i hz;exact .cons _ hz (sL f _ h)
theorem Gk{l:Jd}(h:text l=true):Txt l:=sL _ _ h
def je(c:UInt8):Option Nat:=
 if 48<=c.toNat/\c.toNat<=57 then some (c.toNat-48)
 else if 97<=c.toNat/\c.toNat<=102 then some (c.toNat-87)
 else if 65<=c.toNat/\c.toNat<=70 then some (c.toNat-55)
 else none
theorem GW{c:UInt8}{d:Nat}(h:je c=some d):d<16:=by
 unfold je at h
 repeat' split at h
 all_goals first|(cases h;done)|(have:=Option.some.inj h;omega)
def cP:Nat->Nat->Nat->Jd->Nat×Nat
 |0,r,i,_=>(r,i)
 |_+1,r,i,[]=>(r,i)
 |k+1,r,i,c::t=>match je c with
  |none=>(r,i)
  |some d=>cP k (16*r+d) (i+1) t
def four(l:Jd):Nat×Nat:=cP 4 0 0 l
theorem tS:∀(k r i:Nat) (l:Jd),i<=(cP k r i l).2/\(cP k r i l).2<=i+k/\(cP k r i l).2<=i+l.length
 |0,r,i,l=>by simp[cP]
 |k+1,r,i,[]=>by simp[cP]
 |k+1,r,i,c::t=>by
  unfold cP;cases je c with
  |none=>simp
  |some d=>
   have ih:=tS k (16*r+d) (i+1) t;simp only[List.length_cons];omega
theorem tT:∀(k r i m:Nat) (l:Jd),r<m->(cP k r i l).1<16^k*m
 |0,r,i,m,l,h=>by simpa[cP] using h
 |k+1,r,i,m,[],h=>by
  have:=Nat.le_mul_of_pos_left m (Nat.pow_pos (n:=k+1) (show 0<16 by decide));simp only[cP];omega
 |k+1,r,i,m,c::t,h=>by
  unfold cP;cases hd:je c with
  |none=>
   have:=Nat.le_mul_of_pos_left m (Nat.pow_pos (n:=k+1) (show 0<16 by decide));simp only;omega
  |some d=>
   have hlt:=GW hd;have ih:=tT k (16*r+d) (i+1) (16*m) t (by omega);rw[Nat.pow_succ,Nat.mul_assoc];exact ih
theorem vi(l:Jd):(four l).1<65536:=by
 have:=tT 4 0 0 1 l (by decide);simpa[four] using this
theorem nh(l:Jd):(four l).2<=4/\(four l).2<=l.length:=by
 have:=tS 4 0 0 l;unfold four;omega
theorem lN:∀(k r i:Nat) (l t:Jd),(cP k r i l).2=i+k->cP k r i (l++t)=cP k r i l
 |0,r,i,l,t,_=>by simp[cP]
 |k+1,r,i,[],t,h=>by simp[cP] at h
 |k+1,r,i,c::l,t,h=>by
  rw[List.cons_append];unfold cP at h ⊢;cases hd:je c with
  |none=>rfl
  |some d=>
   rw[hd] at h;exact lN k _ _ l t (by simp only at h;omega)
theorem oV(l t:Jd)(h:(four l).2=4):four (l++t)=four l:=lN 4 0 0 l t (by simpa[four] using h)
def jf(r:Nat):Bool:=decide (55296<=r)&&decide (r<=56319)
def eC(r:Nat):Bool:=decide (56320<=r)&&decide (r<=57343)
def half:Jd->Nat×Bool
 |a::b::t=>if a=92/\b=117 then((four t).1,decide ((four t).2=4)&&eC (four t).1) else(0,false)
 |_=>(0,false)
inductive Chr
 |bad (code off:Nat)
 |ok (r n:Nat)
def num(u:Jd):Chr:=
 if(four u).2<4 then .bad 1 (2+(four u).2)
 else if jf (four u).1=false/\eC (four u).1=false then .ok (four u).1 6
 else if eC (four u).1=true\/(half (u.drop 4)).2=false then .bad 2 0
 else .ok (65536+((four u).1-55296)*1024+((half (u.drop 4)).1-56320)) 12
def simple(d:UInt8):Option Nat:=
 if d=34 then some 34 else if d=92 then some 92 else if d=47 then some 47 else if d=98 then some 8 else if d=102 then some 12
 else if d=110 then some 10 else if d=114 then some 13 else if d=116 then some 9 else none
def esc:Jd->Chr
 |[]=>.bad 1 1
 |d::u=>match simple d with
  |some r=>.ok r 2
  |none=>if d=117 then num u else .bad 1 1
def chr:Jd->Chr
 |[]=>.bad 1 0
 |c::t=>if c.toNat<32 then .bad 1 0 else if c=92 then esc t else if utf8 (c::t)=0 then .bad 2 0 else .ok (rune (c::t)) (utf8 (c::t))
theorem qU(a b:UInt8)(t:Jd):half (a::b::t)=if a=92/\b=117 then((four t).1,decide ((four t).2=4)&&eC (four t).1) else(0,false):=rfl
theorem kO(d:UInt8)(u:Jd):esc (d::u)=match simple d with
  |some r=>.ok r 2
  |none=>if d=117 then num u else .bad 1 1:=rfl
theorem eV(c:UInt8)(t:Jd):chr (c::t)=if c.toNat<32 then .bad 1 0 else if c=92 then esc t else if utf8 (c::t)=0 then .bad 2 0 else .ok (rune (c::t)) (utf8 (c::t)):=rfl
theorem og{l:Jd}(h:(half l).2=true):(∀t,half (l++t)=half l)/\6<=l.length/\eC (half l).1=true:=by
 match l,h with
 |a::b::u,h=>
  rw[qU] at h ⊢;split at h
  .rename_i hab;simp only[Bool.and_eq_true,decide_eq_true_eq] at h;refine⟨λt=>?_,?_,?_⟩
   .rw[List.cons_append,List.cons_append,qU,if_pos hab,if_pos hab,oV u t h.1]
   .have:=(nh u).2;simp only[List.length_cons];omega
   .rw[if_pos hab];exact h.2
  .cases h
theorem DR{d:UInt8}{r:Nat}(h:simple d=some r):r<128:=by
 unfold simple at h
 repeat' split at h
 all_goals first|(cases h;done)|(have:=Option.some.inj h;omega)
theorem IF{u:Jd}{r n:Nat}(h:num u=.ok r n):1<=n/\n<=u.length+2/\scalar r/\∀t,num (u++t)=.ok r n:=by
 have h4:=nh u;have hlt:=vi u;unfold num at h;split at h
 .cases h
 .rename_i c0;have e4:(four u).2=4:=by omega
  have hap:=λt=>oV u t e4;split at h
  .rename_i c1;injection h with hr hn;subst hr hn;refine⟨by omega,by omega,?_,λt=>?_⟩
   .have c2:=c1;simp only[jf,eC,Bool.and_eq_false_iff,decide_eq_false_iff_not] at c2;unfold scalar;omega
   .unfold num;rw[hap t,if_neg c0,if_pos c1]
  .rename_i c1;split at h
   .cases h
   .rename_i c2;injection h with hr hn;have hh:(half (u.drop 4)).2=true:=by
     cases hb:(half (u.drop 4)).2 with
     |true=>rfl
     |false=>exact absurd (.inr hb) c2
    obtain⟨k1,k2,k3⟩:=og hh;have hlow:eC (four u).1=false:=by
     cases hb:eC (four u).1 with
     |false=>rfl
     |true=>exact absurd (.inl hb) c2
    have hhigh:jf (four u).1=true:=by
     cases hb:jf (four u).1 with
     |true=>rfl
     |false=>exact absurd ⟨hb,hlow⟩ c1
    have hl2:4+6<=u.length:=by rw[List.length_drop] at k2;omega
    subst hr hn;refine⟨by omega,by omega,?_,λt=>?_⟩
    .simp only[jf,eC,Bool.and_eq_true,decide_eq_true_eq] at hhigh k3;unfold scalar;omega
    .unfold num;rw[hap t,List.drop_append_of_le_length (by omega),k1 t,if_neg c0,if_neg c1,if_neg c2]
theorem Im{u:Jd}{r n:Nat}(h:esc u=.ok r n):1<=n/\n<=u.length+1/\scalar r/\∀t,esc (u++t)=.ok r n:=by
 cases u with
 |nil=>cases h
 |cons d u=>
  rw[kO] at h;cases hd:simple d with
  |some x=>
   rw[hd] at h;injection h with hr hn;subst hr hn;refine⟨by omega,by simp,.inl (by have:=DR hd;omega),λt=>?_⟩;rw[List.cons_append];rw[kO];rw[hd]
  |none=>
   rw[hd] at h;simp only at h;split at h
   .rename_i c0;obtain⟨k1,k2,k3,k4⟩:=IF h;refine⟨k1,by simp only[List.length_cons];omega,k3,λt=>?_⟩;rw[List.cons_append];rw[kO];rw[hd];simp only;rw[if_pos c0,k4 t]
   .cases h
theorem ma{l:Jd}{r n:Nat}(h:chr l=.ok r n):1<=n/\n<=l.length/\scalar r/\∀t,chr (l++t)=.ok r n:=by
 cases l with
 |nil=>cases h
 |cons c u=>
  rw[eV] at h;split at h
  .cases h
  .rename_i c0;split at h
   .rename_i c1;obtain⟨k1,k2,k3,k4⟩:=Im h;refine⟨k1,k2,k3,λt=>?_⟩;rw[List.cons_append];rw[eV];rw[if_neg c0,if_pos c1,k4 t]
   .rename_i c1;split at h
    .cases h
    .rename_i c2;injection h with hr hn;subst hr hn;refine⟨by omega,(nS _).1,pC _ c2,λt=>?_⟩;have:=pK (c::u) t c2;rw[List.cons_append] at this ⊢;rw[eV];rw[if_neg c0,if_neg c1,this.1,this.2,if_neg c2]
theorem Hh{u:Jd}{k o:Nat}(h:num u=.bad k o):(k=1\/k=2)/\o<=u.length+2:=by
 have h4:=nh u;unfold num at h
 repeat' split at h
 all_goals first|(cases h;done)|(injection h with h1 h2;omega)
theorem BD{l:Jd}{k o:Nat}(h:chr l=.bad k o):(k=1\/k=2)/\o<=l.length:=by
 cases l with
 |nil=>injection h with h1 h2;omega
 |cons c u=>
  rw[eV] at h;split at h
  .injection h with h1 h2;omega
  .split at h
   .cases u with
    |nil=>injection h with h1 h2;simp only[List.length_cons,List.length_nil];omega
    |cons d u=>
     rw[kO] at h;cases hd:simple d with
     |some x=>rw[hd] at h;cases h
     |none=>
      rw[hd] at h;simp only at h;split at h
      .have:=Hh h;simp only[List.length_cons];omega
      .injection h with h1 h2;simp only[List.length_cons];omega
   .split at h
    .injection h with h1 h2;omega
    .cases h
inductive Res
 |bad (code place:Nat)
 |ok (out:Jd) (past:Nat)
def run:Nat->Jd->Jd->Nat->Res
 |0,_,_,i=>.bad 1 i
 |_+1,[],_,i=>.bad 1 i
 |f+1,c::t,out,i=>if c=34 then .ok out (i+1) else match chr (c::t) with
  |.bad k o=>.bad k (i+o)
  |.ok r n=>run f ((c::t).drop n) (out++Lib.encodeRune (r:Int)) (i+n)
theorem dC(f:Nat)(t out:Jd)(i:Nat):run (f+1) (34::t) out i=.ok out (i+1):=by
 unfold run;rw[if_pos rfl]
theorem cV(f:Nat){c:UInt8}{t:Jd}(out:Jd)(i:Nat)(hc:¬c=34){k o:Nat}(h:chr (c::t)=.bad k o):run (f+1) (c::t) out i=.bad k (i+o):=by
 unfold run;rw[if_neg hc,h]
theorem bX(f:Nat){c:UInt8}{t:Jd}(out:Jd)(i:Nat)(hc:¬c=34){r n:Nat}(h:chr (c::t)=.ok r n):run (f+1) (c::t) out i=run f ((c::t).drop n) (out++Lib.encodeRune (r:Int)) (i+n):=by
 rw[run,if_neg hc,h]
theorem sv:∀(f:Nat) (l out:Jd) (i:Nat) {o:Jd} {p:Nat},run f l out i=.ok o p->∀(f':Nat) (t:Jd),f<=f'->run f' (l++t) out i=.ok o p
 |0,l,out,i,o,p,h,_,_,_=>by cases h
 |f+1,[],out,i,o,p,h,_,_,_=>by cases h
 |f+1,c::l,out,i,o,p,h,0,t,hf=>by omega
 |f+1,c::l,out,i,o,p,h,f'+1,t,hf=>by
  by_cases hc:c=34
  .subst hc;rw[dC] at h;rw[List.cons_append,dC,h]
  .cases hk:chr (c::l) with
   |bad k e=>rw[cV f out i hc hk] at h;cases h
   |ok r n=>
    obtain⟨k1,k2,k3,k4⟩:=ma hk;rw[bX f out i hc hk] at h;rw[List.cons_append,bX f' out i hc (by rw[<-List.cons_append];exact k4 t),<-List.cons_append,List.drop_append_of_le_length k2];exact sv f _ _ _ h f' t (by omega)
theorem iz:∀(f:Nat) (l out:Jd) (i:Nat) {o:Jd} {p:Nat},run f l out i=.ok o p->i<p/\p<=i+l.length
 |0,l,out,i,o,p,h=>by cases h
 |f+1,[],out,i,o,p,h=>by cases h
 |f+1,c::l,out,i,o,p,h=>by
  by_cases hc:c=34
  .subst hc;rw[dC] at h;injection h with h1 h2;simp only[List.length_cons];omega
  .cases hk:chr (c::l) with
   |bad k e=>rw[cV f out i hc hk] at h;cases h
   |ok r n=>
    obtain⟨k1,k2,k3,k4⟩:=ma hk;rw[bX f out i hc hk] at h;have ih:=iz f _ _ _ h;rw[List.length_drop] at ih;omega
theorem yA:∀(f:Nat) (l out:Jd) (i:Nat) {k p:Nat},run f l out i=.bad k p->k=1\/k=2
 |0,l,out,i,k,p,h=>by injection h with h1 h2;omega
 |f+1,[],out,i,k,p,h=>by injection h with h1 h2;omega
 |f+1,c::l,out,i,k,p,h=>by
  by_cases hc:c=34
  .subst hc;rw[dC] at h;cases h
  .cases hk:chr (c::l) with
   |bad k e=>
    rw[cV f out i hc hk] at h;injection h with h1 h2;have:=BD hk;omega
   |ok r n=>
    rw[bX f out i hc hk] at h;exact yA f _ _ _ h
theorem Cb:∀(f:Nat) (l out:Jd) (i:Nat) {o:Jd} {p:Nat},run f l out i=.ok o p->Txt out->Txt o
 |0,l,out,i,o,p,h,_=>by cases h
 |f+1,[],out,i,o,p,h,_=>by cases h
 |f+1,c::l,out,i,o,p,h,ht=>by
  by_cases hc:c=34
  .subst hc;rw[dC] at h;injection h with h1 h2;rw[<-h1];exact ht
  .cases hk:chr (c::l) with
   |bad k e=>rw[cV f out i hc hk] at h;cases h
   |ok r n=>
    obtain⟨k1,k2,k3,k4⟩:=ma hk;rw[bX f out i hc hk] at h;exact Cb f _ _ _ h (ht.append (Txt.encode k3))
structure Ans where
 text:Jd
 n:Nat
 code:Nat
 place:Int
def Res.ans(a:Nat):Res->Ans
 |.bad k p=>⟨[],0,k,p⟩
 |.ok o p=>⟨o,p-a,0,0⟩
def unq(b:Jd)(a:Int):Ans:=
 if 0<=a/\b[a.toNat]? =some 34 then(run (b.length+1) (b.drop (a.toNat+1)) [] (a.toNat+1)).ans a.toNat else⟨[],0,1,a⟩
def hexd(d:Nat):UInt8:=if d<10 then UInt8.ofNat (48+d) else UInt8.ofNat (87+d)
def qc(c:UInt8):Jd:=
 if c=34\/c=92 then[92,c] else if c.toNat<32 then[92,117,48,48,hexd (c.toNat/16),hexd (c.toNat%16)] else[c]
def qb(s:Jd):Jd:=s.flatMap qc
theorem gZ(r:Nat):(Lib.encodeRune (r:Int)).length<=4:=by rw[<-Lib.runeCells_length];exact(Lib.runeCells_le _).2
theorem Ca:∀(f:Nat) (l out:Jd) (i:Nat) {o:Jd} {p:Nat},run f l out i=.ok o p->o.length<=out.length+4*l.length
 |0,l,out,i,o,p,h=>by cases h
 |f+1,[],out,i,o,p,h=>by cases h
 |f+1,c::l,out,i,o,p,h=>by
  by_cases hc:c=34
  .subst hc;rw[dC] at h;injection h with h1 h2;rw[<-h1];omega
  .cases hk:chr (c::l) with
   |bad k e=>rw[cV f out i hc hk] at h;cases h
   |ok r n=>
    obtain⟨k1,k2,k3,k4⟩:=ma hk;rw[bX f out i hc hk] at h;have ih:=Ca f _ _ _ h;have:=gZ r;rw[List.length_drop,List.length_append] at ih;omega
theorem Hu(b:Jd)(a:Int):(unq b a).text.length<=4*b.length/\(unq b a).n<=b.length+1:=by
 unfold unq;split
 .cases hr:run (b.length+1) (b.drop (a.toNat+1)) [] (a.toNat+1) with
  |bad k p=>simp[Res.ans]
  |ok o p=>
   have h1:=Ca _ _ _ _ hr;have h2:=iz _ _ _ _ hr;rw[List.length_drop] at h1 h2;simp only[Res.ans,List.length_nil] at h1 ⊢;omega
 .simp
def acc(v0:Nat)(b:Nat->Nat):Nat->Nat
 |0=>v0
 |j+1=>64*acc v0 b j+b (j+1)-128
def Cls(n least base b0:Nat):Prop:=
 (n=2/\least=128/\base=192/\192<=b0/\b0<224)\/(n=3/\least=2048/\base=224/\224<=b0/\b0<240)\/(n=4/\least=65536/\base=240/\240<=b0/\b0<248)
def lK(b:Nat->Nat)(j:Nat):Prop:=∀m,1<=m->m<=j->128<=b m/\b m<192
theorem lK.next{b:Nat->Nat}{j:Nat}(h:lK b j)(hb:128<=b (j+1)/\b (j+1)<192):lK b (j+1):=by
 intro m h1 h2;by_cases e:m=j+1
 .subst e;exact hb
 .exact h m h1 (by omega)
def jt(j v:Nat):Prop:=(j=0->v<32)/\(j<=1->v<2048)/\(j<=2->v<131072)/\v<8388608
theorem jt.next{j v d:Nat}(h:jt j v)(hj:j<3)(hd:d<192):jt (j+1) (64*v+d-128):=by
 unfold jt at*;omega
theorem uG{n b0 b1 b2 b3:Nat}(h:b0<128)(hn:0<n):width n b0 b1 b2 b3=1:=by
 unfold width;rw[if_pos h,if_pos hn]
theorem mL{n b0 b1 b2 b3:Nat}(h:(128<=b0/\b0<192)\/248<=b0):width n b0 b1 b2 b3=0:=by
 unfold width
 repeat' split
 all_goals first|rfl|(exfalso;omega)
theorem lg{n least base len:Nat}{b:Nat->Nat}(h:Cls n least base (b 0))(hl:len<n):width len (b 0) (b 1) (b 2) (b 3)=0:=by
 unfold Cls at h;unfold width
 repeat' split
 all_goals first|rfl|(exfalso;omega)
theorem mK{n least base len j:Nat}{b:Nat->Nat}(h:Cls n least base (b 0))(h1:1<=j)(h2:j<n)(hj:b j<128\/192<=b j):width len (b 0) (b 1) (b 2) (b 3)=0:=by
 have hj':(j=1/\(b 1<128\/192<=b 1))\/(j=2/\(b 2<128\/192<=b 2))\/(j=3/\(b 3<128\/192<=b 3)):=by
  have:j=1\/j=2\/j=3:=by unfold Cls at h;omega
  rcases this with rfl|rfl|rfl
  .exact .inl ⟨rfl,hj⟩
  .exact .inr (.inl ⟨rfl,hj⟩)
  .exact .inr (.inr ⟨rfl,hj⟩)
 unfold Cls at h;unfold width
 repeat' split
 all_goals first|rfl|(exfalso;omega)
theorem oM{n least base len:Nat}{b:Nat->Nat}(h:Cls n least base (b 0))(hl:n<=len)(hc:lK b (n-1)):
  width len (b 0) (b 1) (b 2) (b 3)=if acc (b 0-base) b (n-1)<least\/1114111<acc (b 0-base) b (n-1)\/(55296<=acc (b 0-base) b (n-1)/\acc (b 0-base) b (n-1)<57344) then 0 else n:=by
 rcases h with⟨rfl,rfl,rfl,h0,h0'⟩|⟨rfl,rfl,rfl,h0,h0'⟩|⟨rfl,rfl,rfl,h0,h0'⟩
 .have c1:=hc 1 (by omega) (by omega);have e:acc (b 0-192) b (2-1)=64*(b 0-192)+b 1-128:=rfl;rw[e];unfold width
  repeat' split
  all_goals first|rfl|(exfalso;omega)
 .have c1:=hc 1 (by omega) (by omega);have c2:=hc 2 (by omega) (by omega);have e:acc (b 0-224) b (3-1)=64*(64*(b 0-224)+b 1-128)+b 2-128:=rfl;rw[e];unfold width
  repeat' split
  all_goals first|rfl|(exfalso;omega)
 .have c1:=hc 1 (by omega) (by omega);have c2:=hc 2 (by omega) (by omega);have c3:=hc 3 (by omega) (by omega);have e:acc (b 0-240) b (4-1)=64*(64*(64*(b 0-240)+b 1-128)+b 2-128)+b 3-128:=rfl;rw[e];unfold width
  repeat' split
  all_goals first|rfl|(exfalso;omega)
abbrev frL:Jd:=[34,92,47,98,102,110,114,116]
abbrev toL:Jd:=[34,92,47,8,12,10,13,9]
def hit(d:UInt8)(k:Nat):Jd:=((frL.zip toL).take k).flatMap λp=>if p.1=d then[p.2] else[]
theorem Fq(d:UInt8):hit d 0=[]:=rfl
theorem xG(d:UInt8)(k:Nat)(h:k<8):hit d (k+1)=hit d k++if frL[k]'h=d then[toL[k]'h] else[]:=by
 unfold hit;rw[List.take_succ_eq_append_getElem (by simpa using h),List.flatMap_append,List.getElem_zip];simp
theorem vp(d:UInt8):∀k,(hit d k).length<=k
 |0=>by simp[hit]
 |k+1=>by
  by_cases h:k<8
  .rw[xG d k h,List.length_append];have:=vp d k;split<;>simp<;>omega
  .have e:hit d (k+1)=hit d k:=by
    unfold hit;rw[List.take_of_length_le (by simp;omega),List.take_of_length_le (by simp;omega)]
   have:=vp d k;rw[e];omega
theorem GX(d:UInt8):hit d 8=match simple d with
  |some r=>Lib.encodeRune (r:Int)
  |none=>[]:=by
 unfold simple;by_cases h1:d=34
 .subst h1;rfl
 by_cases h2:d=92
 .subst h2;rfl
 by_cases h3:d=47
 .subst h3;rfl
 by_cases h4:d=98
 .subst h4;rfl
 by_cases h5:d=102
 .subst h5;rfl
 by_cases h6:d=110
 .subst h6;rfl
 by_cases h7:d=114
 .subst h7;rfl
 by_cases h8:d=116
 .subst h8;rfl
 simp only[if_neg h1,if_neg h2,if_neg h3,if_neg h4,if_neg h5,if_neg h6,if_neg h7,if_neg h8];simp[hit,Ne.symm h1,Ne.symm h2,Ne.symm h3,Ne.symm h4,Ne.symm h5,Ne.symm h6,Ne.symm h7,Ne.symm h8]
theorem GK{d:UInt8}{u:Jd}(h:¬d=117):chr (92::d::u)=match simple d with
  |some r=>.ok r 2
  |none=>.bad 1 1:=by
 rw[eV];rw[if_neg (by decide),if_pos rfl];rw[kO];cases simple d with
 |some r=>rfl
 |none=>simp only;rw[if_neg h]
theorem GL(u:Jd):chr (92::117::u)=num u:=by
 rw[eV];rw[if_neg (by decide),if_pos rfl];rfl
end St
