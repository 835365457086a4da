import Derived.Test.YtpfbdlnibdfcoaaGreatDoorPvSmaG
import Derived.Test.YtpfbdlnibdfcoaaGreatDoorPvRefG
namespace Go.Proofs.YtpfbdlnibdfcoaaGreatDoor
open Go.RowKit Tryz
open Value renaming int->Ia,string->La,slice->Ma,bool->Oa,pointer->Qa,agg->Sa,tuple->Wa,iface->ca,nilIface->da
open IntKind renaming i64->ka
open Obj renaming cells->ma
open Ending renaming returned->na
open Tryz renaming prog->oa
set_option maxRecDepth 100000
set_option maxHeartbeats 0
section
section
variable{P:Program}{md:Region.Mode}{ops:Array Oper}{Q:Exit->Act->Fa->Prop}
def Gv(ops:Array Oper)(i:Nat):Option Nat:=(ops[i]?).bind (·.dst)
structure Sat(ops:Array Oper)(a0:Act)(val:Nat->Value)(listed:Array Bool)(a:Act):Prop where
 defers:a.defers=a0.defers
 size:a.tmps.size=a0.tmps.size
 done:∀i j,listed.getD i false=true->Gv ops i=some j->j<a0.tmps.size->a.tmps[j]? =some (val i)
 rest:∀j,(∀i,listed.getD i false=true->Gv ops i≠some j)->a.tmps[j]? =a0.tmps[j]?
theorem Sat.start(ops:Array Oper)(a0:Act)(val:Nat->Value)(n:Nat):Sat ops a0 val (Array.replicate n false) a0:=by
 have a:∀i,(Array.replicate n false).getD i false=false:=by
  intro i;simp only[Array.getD];split;.simp
  .rfl
 exact⟨rfl,rfl,λi j h=>(by rw[a]at h;cases h),λj _=>rfl⟩
variable{listed:Array Bool}
theorem Bj{i:Nat}(hi:i<listed.size)(k:Nat):(listed.setIfInBounds i true).getD k false=if k=i then true else listed.getD k false:=by
 by_cases h:k=i;.subst h;rw[Zo rfl];simp[Array.getD,hi]
 .rw[Zj h];simp only[Array.getD,X8];split
  .rename_i hk
   exact Array.getElem_setIfInBounds_ne hk (Ne.symm h)
  .rfl
theorem Sat.put{a0 a:Act}{val:Nat->Value}{listed:Array Bool}(h:Sat ops a0 val listed a){i:Nat}{o:Oper}(ho:ops[i]? =some o)(hi:i<listed.size)(hnew:listed.getD i false=false)(hinj:∀i k j,Gv ops i=some j->Gv ops k=some j->i=k):Sat ops a0 val (listed.setIfInBounds i true) (a.put o.dst (val i)):=by
 have l:Gv ops i=o.dst:=by unfold Gv;rw[ho];rfl
 cases hdst:o.dst with
 |none=>
  rw[hdst]at l;refine⟨h.defers,h.size,λk j c b g=>?_,λj b=>h.rest j (λk c=>?_)⟩
  .rw[Bj hi]at c;by_cases e:k=i;.subst e;rw[l]at b;cases b
   .rw[Zj e]at c;exact h.done k j c b g
  .exact b k (by rw[Bj hi];split<;>first|rfl|exact c)
 |some d=>
  rw[hdst]at l;have f:(a.put (some d) (val i)).tmps=a.tmps.setIfInBounds d (val i):=rfl;refine⟨h.defers,by rw[f,X8];exact h.size,λk j c b g=>?_,λj b=>?_⟩
  .rw[f];rw[Bj hi]at c;by_cases e:k=i;.subst e;rw[l]at b;cases b;rw[Array.getElem?_setIfInBounds_self,Zo (by rw[h.size];exact g)]
   .rw[Zj e]at c;rw[Array.getElem?_setIfInBounds_ne (λn=>e (hinj k i j b (by rw[l,n])))];exact h.done k j c b g
  .have m:d≠j:=λe=>b i (by rw[Bj hi,Zo rfl]) (by rw[l,e]);rw[f,Array.getElem?_setIfInBounds_ne m];exact h.rest j (λk c=>b k (by rw[Bj hi];split<;>first|rfl|exact c))
theorem Sat.same{a0 a b:Act}{val:Nat->Value}(h:Sat ops a0 val listed a)(k:Sat ops a0 val listed b):a=b:=by
 obtain⟨g,o⟩:=a;obtain⟨bt,p⟩:=b;have m:=h.defers.trans k.defers.symm;subst m;have n:g=bt:=by
  apply Array.ext_getElem?;intro j;by_cases l:j<a0.tmps.size
  .by_cases e:∃i,listed.getD i false=true/\Gv ops i=some j;.obtain⟨i,c,d⟩:=e;exact(h.done i j c d l).trans (k.done i j c d l).symm
   .have f:∀i,listed.getD i false=true->Gv ops i≠some j:=λi c d=>e ⟨i,c,d⟩;exact(h.rest j f).trans (k.rest j f).symm
  .have c:=h.size;have d:=k.size;simp only at c d;rw[Array.getElem?_eq_none (by omega),Array.getElem?_eq_none (by omega)]
 subst n;rfl
def Ek(listed:Array Bool):Nat:=(listed.toList.filter (λb=> !b)).length
theorem Ox{i:Nat}(hi:i<listed.size)(hnew:listed.getD i false=false):Ek (listed.setIfInBounds i true)+1=Ek listed:=by
 unfold Ek;have b:(listed.setIfInBounds i true).toList=listed.toList.set i true:=by simp
 rw[b];have a:listed.toList[i]? =some false:=by simp only[Array.getD,hi,dif_pos]at hnew;rw[Array.getElem?_toList,Xh hi];simpa using hnew
 generalize listed.toList=l at a;clear b hnew hi;induction l generalizing i with
 |nil=>simp at a
 |cons x l ih=>
  cases i with
  |zero=>simp only[List.getElem?_cons_zero,Xj]at a;subst a;simp
  |succ i=>
   simp only[List.getElem?_cons_succ]at a;have :=ih a;simp only[Yw,J8];split;.simp only[Zu];omega
   .exact this
def Gx(val:Nat->Value):List Oper->Nat->Act->Act
 | [],_,a=>a
 |o::r,k,a=>Gx val r (k+1) (a.put o.dst (val k))
theorem Sat.all{a0:Act}{val:Nat->Value}(hinj:∀i k j,Gv ops i=some j->Gv ops k=some j->i=k):∀(post pre:List Oper) (listed:Array Bool) (a:Act),ops.toList=pre++post->listed.size=ops.size->(∀i,listed.getD i false=decide (i<pre.length))->Sat ops a0 val listed a->Sat ops a0 val (Array.replicate ops.size true) (Gx val post pre.length a)
 | [],pre,listed,a,hp,hs,hl,h=>by
  have hn:pre.length=ops.size:=by rw[Jy]at hp;rw[<-hp,Yh]
  have :listed=Array.replicate ops.size true:=by
   apply Array.ext;.simp[hs]
   .intro i c g;have :=hl i;simp only[Array.getD,c,dif_pos]at this;rw[Z5 (by omega)]at this;simpa using this
  subst this;exact h
 |o::r,pre,listed,a,hp,hs,hl,h=>by
  have d:pre.length<ops.size:=by have :=Y5 List.length hp;simp only[Yh,Zq,Zu]at this;omega
  have f:ops[pre.length]? =some o:=by rw[<-Array.getElem?_toList,hp,Z4 (Za _),J4];rfl
  have :=Sat.all hinj r (pre++[o]) (listed.setIfInBounds pre.length true) (a.put o.dst (val pre.length)) (by rw[hp];simp) (by simp[hs]) (λi=>by
   rw[Bj (by omega),hl];simp only[Zq,Zu,Yq];by_cases e:i=pre.length;.rw[Zo e,Z5 (by omega)]
   .rw[Zj e];by_cases b:i<pre.length;.rw[Z5 b,Z5 (by omega)]
    .rw[Zt b,Zt (by omega)]) (h.put f (by omega) (by rw[hl];exact Zt (Nat.lt_irrefl _)) hinj)
  rw[Gx];simpa using this
def Pj(ops:Array Oper):Bool:=(List.range ops.size).all λi=>(List.range ops.size).all λk=>decide (i=k)||(match Gv ops i,Gv ops k with |some a,some b=>decide (a≠b)|_,_=>true)
theorem IA(h:Pj ops=true):∀i k j,Gv ops i=some j->Gv ops k=some j->i=k:=by
 intro i k j b c;have d:∀n,Gv ops n=some j->n<ops.size:=λn a=>by
  by_cases e:n<ops.size;.exact e
  .unfold Gv at a;rw[Array.getElem?_eq_none (by omega)]at a;cases a
 have :=Xy.1 (Xy.1 h i (X3.2 (d i b))) k (X3.2 (d k c));rw[b,c]at this;simpa using this
def Em(ops:Array Oper)(j:Nat):Bool:=(List.range ops.size).all λi=>decide (Gv ops i≠some j)
theorem Qh{j:Nat}(h:Em ops j=true):∀i,Gv ops i≠some j:=by
 intro i a;have b:i<ops.size:=by
  by_cases b:i<ops.size;.exact b
  .unfold Gv at a;rw[Array.getElem?_eq_none (by omega)]at a;cases a
 have :=Xy.1 h i (X3.2 b);simp only[Jw]at this;exact this a
end
theorem fe{f:Nat->Value}{l:List Value}(h:f=λi=>l.getD i undef){i:Nat}{x:Value}(hx:l.getD i undef=x):f i=x:=by rw[h];exact hx
variable{ops:Array Oper}{val:Nat->Value}{listed:Array Bool}
theorem Sat.rs{a0 a:Act}(h:Sat ops a0 val listed a)(j:Nat)(hn:Em ops j=true):a.tmps[j]? =a0.tmps[j]? :=h.rest j λi _=>Qh hn i
end
section
def Hp(v:Value)(W:Fa)(e:Ending)(w':Fa):Prop:=e=na v/\Ba W w'
end
section
def Hd(l:List Nat):Nat:=l.foldl (λn x=>if n<1000000000 then 256*n+x else n) 0
theorem QG(l:List Nat)(x:Nat):Hd (l++[x])=if Hd l<1000000000 then 256*Hd l+x else Hd l:=by unfold Hd;rw[List.foldl_append];rfl
theorem oE(l:List Nat)(h:∀x∈l,x<256):Hd l<=256000000255:=by
 have c:∀(l:List Nat) (n:Nat),n<=256000000255->(∀x∈l,x<256)->l.foldl (λn x=>if n<1000000000 then 256*n+x else n) n<=256000000255:=by
  intro l;induction l with
  |nil=>intro n a _;exact a
  |cons x l ih=>intro n a b;rw[X6];refine ih _ ?_ (λy d=>b y (Yy _ d));have :=b x (Yj ..);split<;>omega
 exact c l 0 (by omega) h
def Ak(s:List Nat)(at_ end_:Nat):(Bool×Nat×Nat)×Nat:=if end_<=at_ then((false,0,0),2)
 else if s[at_]! <128 then((false,1,0),0)
 else if s[at_]! -(if 192<=s[at_]! then 192 else 128)<=55 then((decide (192<=s[at_]!),s[at_]! -(if 192<=s[at_]! then 192 else 128),1),0)
 else if end_<at_+(s[at_]! -(if 192<=s[at_]! then 192 else 128)-54)then((decide (192<=s[at_]!),s[at_]! -(if 192<=s[at_]! then 192 else 128),s[at_]! -(if 192<=s[at_]! then 192 else 128)-54),2)
 else if s[at_+1]! =0\/Hd ((s.drop (at_+1)).take (s[at_]! -(if 192<=s[at_]! then 192 else 128)-55))<=55 then((decide (192<=s[at_]!),Hd ((s.drop (at_+1)).take (s[at_]! -(if 192<=s[at_]! then 192 else 128)-55)),s[at_]! -(if 192<=s[at_]! then 192 else 128)-54),3)
 else((decide (192<=s[at_]!),Hd ((s.drop (at_+1)).take (s[at_]! -(if 192<=s[at_]! then 192 else 128)-55)),s[at_]! -(if 192<=s[at_]! then 192 else 128)-54),0)
abbrev E2(l:Bool)(n size e:Nat):Value:=Wa #[Sa #[Oa l,Ia ka (n:Int),Ia ka (size:Int)],Ia ka (e:Int)]
def Pn(r:(Bool×Nat×Nat)×Nat)(w:Fa)(e:Ending)(w':Fa):Prop:=e=na (E2 r.1.1 r.1.2.1 r.1.2.2 r.2)/\Ba w w'
theorem yJ(s:Da)(at_ end_:Nat)(w:Fa)(he:end_<=s.size)(hsm:end_<=at_\/(Ke s)[at_]! <128):Calls oa 173 #[La s,Ia ka (at_:Int),Ia ka (end_:Int)] w (Pn (Ak (Ke s) at_ end_) w):=by
 by_cases f:end_<=at_
 .have a:Ak (Ke s) at_ end_=((false,0,0),2):=by unfold Ak;rw[Zo f]
  rw[a];have g:(end_:Int)<=(at_:Int):=by omega
  clear a hsm he;go_enter func173,ntmps173;go_wp2;refine Zv (v:=E2 false 0 0 2) (by simp[results,results173,go_sem]) rfl ⟨rfl,?_⟩;exact((Zb _ _).alloc (Za _) _).alloc (by simp) _
 .have e:at_<s.size:=by omega
  obtain⟨b,c⟩:=nm ((Ke s)[at_]!);have j:(s[at_]'e).toNat=b:=by rw[<-c];exact yg s at_ e
  rw[c]at hsm;have d:b<128:=by omega
  have a:Ak (Ke s) at_ end_=((false,1,0),0):=by unfold Ak;rw[Zj f,c,Zo d]
  rw[a];have g:¬(end_:Int)<=(at_:Int):=by omega
  have h:(at_:Int)<(s.size:Int):=by omega
  have k:wrap64 (b:Int)=(b:Int):=by unfold wrap64;omega
  have i:(b:Int)<128:=by omega
  clear a hsm he c;go_enter func173,ntmps173;go_wp2;refine Zv (v:=E2 false 1 0 0) (by simp[results,results173,go_sem]) rfl ⟨rfl,?_⟩;exact((Zb _ _).alloc (Za _) _).alloc (by simp) _
theorem FR(s:Da)(at_ end_ b base k:Nat)(mc:Bool)(w:Fa)(he:end_<=s.size)(h0:at_<end_)(hb:(Ke s)[at_]! =b)(hb8:b<256)(hbase:(base=192/\mc=true/\192<=b)\/(base=128/\mc=false/\128<=b/\b<192))(hk:b-base=k)(h55:k<=55):Calls oa 173 #[La s,Ia ka (at_:Int),Ia ka (end_:Int)] w (Pn ((mc,k,1),0) w):=by
 have a:at_<s.size:=by omega
 have h:(s[at_]'a).toNat=b:=by rw[<-hb];exact yg s at_ a
 have l:¬(end_:Int)<=(at_:Int):=by omega
 have f:(at_:Int)<(s.size:Int):=by omega
 have j:wrap64 (b:Int)=(b:Int):=by unfold wrap64;omega
 have g:¬(b:Int)<128:=by omega
 have i:(k:Int)<=55:=by omega
 rcases hbase with⟨rfl,rfl,h1⟩|⟨rfl,rfl,h1,h2⟩
 .have e:(192:Int)<=(b:Int):=by omega
  have d:wrap64 ((b:Int)-192)=(k:Int):=by unfold wrap64;omega
  have c:(b:Int)-192=(k:Int):=by omega
  clear he h0 hb hb8 hk h1 h55;go_enter func173,ntmps173;go_wp2;refine Zv (v:=E2 true k 1 0) (by simp[results,results173,go_sem]) rfl ⟨rfl,?_⟩;exact((Zb _ _).alloc (Za _) _).alloc (by simp) _
 .have e:¬(192:Int)<=(b:Int):=by omega
  have d:wrap64 ((b:Int)-128)=(k:Int):=by unfold wrap64;omega
  have c:(b:Int)-128=(k:Int):=by omega
  clear he h0 hb hb8 hk h1 h2 h55;go_enter func173,ntmps173;go_wp2;refine Zv (v:=E2 false k 1 0) (by simp[results,results173,go_sem]) rfl ⟨rfl,?_⟩;exact((Zb _ _).alloc (Za _) _).alloc (by simp) _
theorem XK(s:Da)(at_ end_ b base k:Nat)(mc:Bool)(w:Fa)(he:end_<=s.size)(hs:s.size<=4194304)(h0:at_<end_)(hb:(Ke s)[at_]! =b)(hb8:b<256)(hbase:(base=192/\mc=true/\192<=b)\/(base=128/\mc=false/\128<=b/\b<192))(hk:b-base=k)(h55:55<k)(hroom:end_<at_+(k-54)):Calls oa 173 #[La s,Ia ka (at_:Int),Ia ka (end_:Int)] w (Pn ((mc,k,k-54),2) w):=by
 have a:at_<s.size:=by omega
 have h:(s[at_]'a).toNat=b:=by rw[<-hb];exact yg s at_ a
 have n:¬(end_:Int)<=(at_:Int):=by omega
 have f:(at_:Int)<(s.size:Int):=by omega
 have m:(b:Int)<256:=by omega
 have g:¬(b:Int)<128:=by omega
 have i:¬(k:Int)<=55:=by omega
 obtain⟨z,d⟩:=nm (k-54);rw[d]at hroom⊢;have o:(k:Int)<=63:=by omega
 have j:(0:Int)<=(k:Int):=by omega
 have l:(at_:Int)<=4194304:=by omega
 have q:(z:Int)<=9:=by omega
 have r:1+(k:Int)-55=(z:Int):=by omega
 have p:(end_:Int)<(at_:Int)+(z:Int):=by omega
 rcases hbase with⟨rfl,rfl,h1⟩|⟨rfl,rfl,h1,h2⟩
 .have e:(192:Int)<=(b:Int):=by omega
  have c:(b:Int)-192=(k:Int):=by omega
  clear he hs h0 hb hb8 hk h1 h55 d hroom;go_enter func173,ntmps173;go_wp2;refine Zv (v:=E2 true k z 2) (by simp[results,results173,go_sem]) rfl ⟨rfl,?_⟩;exact((Zb _ _).alloc (Za _) _).alloc (by simp) _
 .have e:¬(192:Int)<=(b:Int):=by omega
  have c:(b:Int)-128=(k:Int):=by omega
  clear he hs h0 hb hb8 hk h1 h2 h55 d hroom;go_enter func173,ntmps173;go_wp2;refine Zv (v:=E2 false k z 2) (by simp[results,results173,go_sem]) rfl ⟨rfl,?_⟩;exact((Zb _ _).alloc (Za _) _).alloc (by simp) _
theorem Lb.og{w:Fa}{b:Nat}{cs:List Value}(h:Lb w b cs){a:Addr}(hne:b≠a.block)(u:Value):Lb (w.setCell a u) b cs:=h.Cb (Zd _ _ _ _ hne) (by simp)
theorem Lb.kj{w:Fa}{b:Nat}{x y z:Value}(h:Lb w b [x,y,z])(u:Value):Lb (w.setCell ⟨b,1,none⟩ u) b [x,u,z]:=by
 refine⟨by simpa using h.1,λj v hv=>?_⟩;match j,hv with
 |0,hv=>exact⟨(Zp _ _ _ _ (by simp)).trans (h.2 0 v hv).1,by rw[Z7];exact(h.2 0 v hv).2⟩
 |1,hv=>
  have e:u=v:=by simpa using hv
  subst e;exact⟨Ys _ _ _ (h.2 1 y rfl).1,by rw[Z7];exact(h.2 1 y rfl).2⟩
 |2,hv=>exact⟨(Zp _ _ _ _ (by simp)).trans (h.2 2 v hv).1,by rw[Z7];exact(h.2 2 v hv).2⟩
 |j+3,hv=>simp at hv
theorem VS(s:Da)(at_ end_ b base k z:Nat)(mc:Bool)(w:Fa)(he:end_<=s.size)(hs:s.size<=4194304)(h0:at_<end_)(hb:(Ke s)[at_]! =b)(hb8:b<256)(hbase:(base=192/\mc=true/\192<=b)\/(base=128/\mc=false/\128<=b/\b<192))(hk:b-base=k)(h55:55<k)(hz:k-54=z)(hroom:at_+z<=end_)(er:Nat)(her:er=if(Ke s)[at_+1]! =0\/Hd (((Ke s).drop (at_+1)).take (z-1))<=55 then 3 else 0):Calls oa 173 #[La s,Ia ka (at_:Int),Ia ka (end_:Int)] w (Pn ((mc,Hd (((Ke s).drop (at_+1)).take (z-1)),z),er) w):=by
 have M:at_<s.size:=by omega
 have ah:(s[at_]'M).toNat=b:=by rw[<-hb];exact yg s at_ M
 have hi:¬(end_:Int)<=(at_:Int):=by omega
 have ae:(at_:Int)<(s.size:Int):=by omega
 have bb:(b:Int)<256:=by omega
 have ag:¬(b:Int)<128:=by omega
 have ai:¬(k:Int)<=55:=by omega
 have kb:(k:Int)<=63:=by omega
 have aj:(0:Int)<=(k:Int):=by omega
 have ab:(at_:Int)<=4194304:=by omega
 have zb:(z:Int)<=9:=by omega
 have zz:1+(k:Int)-55=(z:Int):=by omega
 have w4:¬(end_:Int)<(at_:Int)+(z:Int):=by omega
 have P:at_+z<=s.size:=by omega
 have Y:=Hq (A3 (by omega :2<=z) (by omega :z<=9) P);have T:=Hq her;clear her;rcases hbase with⟨rfl,rfl,h1⟩|⟨rfl,rfl,h1,h2⟩
 .have hc:(192:Int)<=(b:Int):=by omega
  have V:(b:Int)-192=(k:Int):=by omega
  clear he hs h0 hb hb8 hk h1 h55 hroom hz P;go_enter func173,ntmps173;go_wp2;go_loopg [11] (z-1) (λgh i wr=>∃x:Nat,x<=z-1/\gh=z-1-x/\i=Ia ka ((at_:Int)+1+(x:Int))/\Ba w wr/\Lb wr w.heap.size [Oa false,Ia ka 0,Ia ka 0]/\Lb wr (w.heap.size+1) [Oa true,Ia ka ((Hd (((Ke s).drop (at_+1)).take x):Nat):Int),Ia ka (z:Int)])
  case atStart=>refine⟨0,Xa _,rfl,by simp,((Zb _ _).alloc (Za _) _).alloc (by simp) _,(Lb.fresh w [Oa false,Ia ka 0,Ia ka 0] _).alloc _,?_⟩;have :=Lb.fresh (w.alloc (ma #[Oa false,Ia ka 0,Ia ka 0] 277)) [Oa true,Ia ka 0,Ia ka (z:Int)] 277;simpa[Hd]using this
  case round=>
   obtain⟨x,hx,rfl,rfl,c,l,j⟩:=hrel;have N:=(j.2 1 _ rfl).1;have c2:=(j.2 2 _ rfl).1;have f1:=(j.2 1 _ rfl).2;have n:=Y.o;have xb:(x:Int)<=8:=by omega
   have e:=oE (((Ke s).drop (at_+1)).take x) (λy X=>sh s y (Yu (Y4 X)));by_cases M:x<z-1
   .have S:(at_:Int)+1+(x:Int)<(at_:Int)+(z:Int):=by omega
    have G:at_+1+x<s.size:=by omega
    have W:(at_:Int)+1+(x:Int)<(s.size:Int):=by omega
    have ac:((at_:Int)+1+(x:Int)).toNat=at_+1+x:=by omega
    obtain⟨d,D⟩:=nm ((s[at_+1+x]'G).toNat);have m:d<256:=by rw[<-D];exact Vy _
    have E:((Ke s).drop (at_+1)).take (x+1)=((Ke s).drop (at_+1)).take x++[d]:=by rw[Z1 (by rw[Yi,ta];omega),Vt];congr 2;rw[<-Z9 (Ke s) _ (by rw[ta];omega),<-yg s _ G,D]
    have No:=QG (((Ke s).drop (at_+1)).take x) d;rw[<-E]at No;obtain⟨f,g⟩:=nm (Hd (((Ke s).drop (at_+1)).take x));rw[g]at No e N j;have O:(f:Int)<=256000000255:=by omega
    by_cases q:f<1000000000
    .rw[Zo q]at No;have I:(f:Int)<1000000000:=by omega
     have C:256*(f:Int)+(d:Int)=((Hd (((Ke s).drop (at_+1)).take (x+1)):Nat):Int):=by rw[No];omega
     have H:=Hq C;have A:=Hq (A3 c l j);have db:(d:Int)<256:=by omega
     clear No C E e c l j g q m n;go_wp2;go_region;all_goals
      go_wp2;go_roundg (z-1-(x+1))
      case measure=>omega
      case rel=>exact⟨x+1,by omega,rfl,ld (by omega),A.1.drew.setCell (by simp) _,A.2.1.drew.og (by simp) _,H.o▸A.2.2.drew.kj _⟩
    .rw[Zj q]at No;have I:¬(f:Int)<1000000000:=by omega
     have H:=Hq No;have A:=Hq (A3 c l j);clear No E e c l j g q m n;go_wp2;go_roundg (z-1-(x+1))
     case measure=>omega
     case rel=>exact⟨x+1,by omega,rfl,ld (by omega),A.1,A.2.1,by rw[H.o];exact A.2.2⟩
   .have u:x=z-1:=by omega
    have S:¬(at_:Int)+1+(x:Int)<(at_:Int)+(z:Int):=by omega
    obtain⟨f,g⟩:=nm (Hd (((Ke s).drop (at_+1)).take x));rw[g]at e N j;have p:Hid (Hd (((Ke s).drop (at_+1)).take (z-1))=f):=by rw[<-u];exact g
    have c0:=(j.2 0 _ rfl).1;obtain⟨J,q0⟩:=l.2 0 _ rfl;obtain⟨K,q1⟩:=l.2 1 _ rfl;obtain⟨L,q2⟩:=l.2 2 _ rfl;have F:at_+1<s.size:=by omega
    have U:(at_:Int)+1<(s.size:Int):=by omega
    have Z:((at_:Int)+1).toNat=at_+1:=by omega
    obtain⟨d,D⟩:=nm ((s[at_+1]'F).toNat);have m:d<256:=by rw[<-D];exact Vy _
    have t:(Ke s)[at_+1]! =d:=by rw[<-yg s _ F,D]
    have O:(f:Int)<=256000000255:=by omega
    have a:=T.o;rw[t,p.o]at a;by_cases r:d=0
    .rw[Zo (.inl r)]at a;have B:=Hq a;have R:((d:Int)==0)=true:=by simp;omega
     have A:Aside (Ba w wr):=c;clear c l j e n m g u t a r;go_wp2;refine Zv (v:=E2 true f z 3) (by simp[results,results173,go_sem,J,K,L]) rfl ⟨by rw[B.o,p.o],?_⟩;exact((A.setCell (Za _) _).setCell (Za _) _).setCell (Za _) _
    .have R:((d:Int)==0)=false:=by simp;omega
     by_cases o:f<=55
     .rw[Zo (.inr o)]at a;have B:=Hq a;have Q:(f:Int)<=55:=by omega
      have A:Aside (Ba w wr):=c;clear c l j e n m g u t a r o;go_wp2;refine Zv (v:=E2 true f z 3) (by simp[results,results173,go_sem,J,K,L]) rfl ⟨by rw[B.o,p.o],?_⟩;exact((A.setCell (Za _) _).setCell (Za _) _).setCell (Za _) _
     .rw[Zj (by rintro(h|h)<;>omega)]at a;have B:=Hq a;have Q:¬(f:Int)<=55:=by omega
      have A:Aside (Ba w wr):=c;clear c l j e n m g u t a r o;go_wp2;refine Zv (v:=E2 true f z 0) (by simp[results,results173,go_sem,J,K,L]) rfl ⟨by rw[B.o,p.o],?_⟩;exact((A.setCell (Za _) _).setCell (Za _) _).setCell (Za _) _
 .have hc:¬(192:Int)<=(b:Int):=by omega
  have V:(b:Int)-128=(k:Int):=by omega
  clear he hs h0 hb hb8 hk h1 h2 h55 hroom hz P;go_enter func173,ntmps173;go_wp2;go_loopg [11] (z-1) (λgh i wr=>∃x:Nat,x<=z-1/\gh=z-1-x/\i=Ia ka ((at_:Int)+1+(x:Int))/\Ba w wr/\Lb wr w.heap.size [Oa false,Ia ka 0,Ia ka 0]/\Lb wr (w.heap.size+1) [Oa false,Ia ka ((Hd (((Ke s).drop (at_+1)).take x):Nat):Int),Ia ka (z:Int)])
  case atStart=>refine⟨0,Xa _,rfl,by simp,((Zb _ _).alloc (Za _) _).alloc (by simp) _,(Lb.fresh w [Oa false,Ia ka 0,Ia ka 0] _).alloc _,?_⟩;have :=Lb.fresh (w.alloc (ma #[Oa false,Ia ka 0,Ia ka 0] 277)) [Oa false,Ia ka 0,Ia ka (z:Int)] 277;simpa[Hd]using this
  case round=>
   obtain⟨x,hx,rfl,rfl,c,l,j⟩:=hrel;have N:=(j.2 1 _ rfl).1;have c2:=(j.2 2 _ rfl).1;have f1:=(j.2 1 _ rfl).2;have n:=Y.o;have xb:(x:Int)<=8:=by omega
   have e:=oE (((Ke s).drop (at_+1)).take x) (λy X=>sh s y (Yu (Y4 X)));by_cases M:x<z-1
   .have S:(at_:Int)+1+(x:Int)<(at_:Int)+(z:Int):=by omega
    have G:at_+1+x<s.size:=by omega
    have W:(at_:Int)+1+(x:Int)<(s.size:Int):=by omega
    have ac:((at_:Int)+1+(x:Int)).toNat=at_+1+x:=by omega
    obtain⟨d,D⟩:=nm ((s[at_+1+x]'G).toNat);have m:d<256:=by rw[<-D];exact Vy _
    have E:((Ke s).drop (at_+1)).take (x+1)=((Ke s).drop (at_+1)).take x++[d]:=by rw[Z1 (by rw[Yi,ta];omega),Vt];congr 2;rw[<-Z9 (Ke s) _ (by rw[ta];omega),<-yg s _ G,D]
    have No:=QG (((Ke s).drop (at_+1)).take x) d;rw[<-E]at No;obtain⟨f,g⟩:=nm (Hd (((Ke s).drop (at_+1)).take x));rw[g]at No e N j;have O:(f:Int)<=256000000255:=by omega
    by_cases q:f<1000000000
    .rw[Zo q]at No;have I:(f:Int)<1000000000:=by omega
     have C:256*(f:Int)+(d:Int)=((Hd (((Ke s).drop (at_+1)).take (x+1)):Nat):Int):=by rw[No];omega
     have H:=Hq C;have A:=Hq (A3 c l j);have db:(d:Int)<256:=by omega
     clear No C E e c l j g q m n;go_wp2;go_region;all_goals
      go_wp2;go_roundg (z-1-(x+1))
      case measure=>omega
      case rel=>exact⟨x+1,by omega,rfl,ld (by omega),A.1.drew.setCell (by simp) _,A.2.1.drew.og (by simp) _,H.o▸A.2.2.drew.kj _⟩
    .rw[Zj q]at No;have I:¬(f:Int)<1000000000:=by omega
     have H:=Hq No;have A:=Hq (A3 c l j);clear No E e c l j g q m n;go_wp2;go_roundg (z-1-(x+1))
     case measure=>omega
     case rel=>exact⟨x+1,by omega,rfl,ld (by omega),A.1,A.2.1,by rw[H.o];exact A.2.2⟩
   .have u:x=z-1:=by omega
    have S:¬(at_:Int)+1+(x:Int)<(at_:Int)+(z:Int):=by omega
    obtain⟨f,g⟩:=nm (Hd (((Ke s).drop (at_+1)).take x));rw[g]at e N j;have p:Hid (Hd (((Ke s).drop (at_+1)).take (z-1))=f):=by rw[<-u];exact g
    have c0:=(j.2 0 _ rfl).1;obtain⟨J,q0⟩:=l.2 0 _ rfl;obtain⟨K,q1⟩:=l.2 1 _ rfl;obtain⟨L,q2⟩:=l.2 2 _ rfl;have F:at_+1<s.size:=by omega
    have U:(at_:Int)+1<(s.size:Int):=by omega
    have Z:((at_:Int)+1).toNat=at_+1:=by omega
    obtain⟨d,D⟩:=nm ((s[at_+1]'F).toNat);have m:d<256:=by rw[<-D];exact Vy _
    have t:(Ke s)[at_+1]! =d:=by rw[<-yg s _ F,D]
    have O:(f:Int)<=256000000255:=by omega
    have a:=T.o;rw[t,p.o]at a;by_cases r:d=0
    .rw[Zo (.inl r)]at a;have B:=Hq a;have R:((d:Int)==0)=true:=by simp;omega
     have A:Aside (Ba w wr):=c;clear c l j e n m g u t a r;go_wp2;refine Zv (v:=E2 false f z 3) (by simp[results,results173,go_sem,J,K,L]) rfl ⟨by rw[B.o,p.o],?_⟩;exact((A.setCell (Za _) _).setCell (Za _) _).setCell (Za _) _
    .have R:((d:Int)==0)=false:=by simp;omega
     by_cases o:f<=55
     .rw[Zo (.inr o)]at a;have B:=Hq a;have Q:(f:Int)<=55:=by omega
      have A:Aside (Ba w wr):=c;clear c l j e n m g u t a r o;go_wp2;refine Zv (v:=E2 false f z 3) (by simp[results,results173,go_sem,J,K,L]) rfl ⟨by rw[B.o,p.o],?_⟩;exact((A.setCell (Za _) _).setCell (Za _) _).setCell (Za _) _
     .rw[Zj (by rintro(h|h)<;>omega)]at a;have B:=Hq a;have Q:¬(f:Int)<=55:=by omega
      have A:Aside (Ba w wr):=c;clear c l j e n m g u t a r o;go_wp2;refine Zv (v:=E2 false f z 0) (by simp[results,results173,go_sem,J,K,L]) rfl ⟨by rw[B.o,p.o],?_⟩;exact((A.setCell (Za _) _).setCell (Za _) _).setCell (Za _) _
theorem VF(s:Da)(at_ end_:Nat)(w:Fa)(he:end_<=s.size)(hs:s.size<=4194304):Calls oa 173 #[La s,Ia ka (at_:Int),Ia ka (end_:Int)] w (Pn (Ak (Ke s) at_ end_) w):=by
 by_cases i:end_<=at_\/(Ke s)[at_]! <128;.exact yJ s at_ end_ w he i
 .have r:¬end_<=at_:=λh=>i (.inl h);have m:¬(Ke s)[at_]! <128:=λh=>i (.inr h);obtain⟨b,f⟩:=nm ((Ke s)[at_]!);have g:b<256:=by rw[<-f,Z9 (Ke s) at_ (by rw[ta];omega)];exact sh s _ (Zy _)
  obtain⟨c,a⟩:=nm ((if 192<=b then 192 else 128));obtain⟨k,l⟩:=nm (b-c);have n:(c=192/\decide (192<=b)=true/\192<=b)\/(c=128/\decide (192<=b)=false/\128<=b/\b<192):=by
   by_cases h:192<=b;.rw[Zo h]at a;exact .inl ⟨a.symm,Z5 h,h⟩
   .rw[Zj h]at a;exact .inr ⟨a.symm,Zt h,by omega,by omega⟩
  unfold Ak;rw[Zj r,Zj m,f,a,l];by_cases e:k<=55;.rw[Zo e];exact FR s at_ end_ b c k _ w he (by omega) f g n l e
  .rw[Zj e];by_cases d:end_<at_+(k-54);.rw[Zo d];exact XK s at_ end_ b c k _ w he hs (by omega) f g n l (by omega) d
   .rw[Zj d];have o:=λq p=>VS s at_ end_ b c k (k-54) _ w he hs (by omega) f g n l (by omega) rfl (by omega) q p;rw[show k-54-1=k-55 by omega]at o;by_cases j:(Ke s)[at_+1]! =0\/Hd (((Ke s).drop (at_+1)).take (k-55))<=55;.rw[Zo j];exact o 3 (by rw[Zo j])
    .rw[Zj j];exact o 0 (by rw[Zj j])
end
section
theorem CU{P:Program}(w:Fa)(t ty e:TypeId)(i:TypeInfo)(z:Value)(size bytes:Nat)(ht:P.underlying t=some (.slice e))(hi:P.info? e=some i)(hz:i.zero=some z)(hsize:i.size=size)(hby:i.bytes=bytes)(hzs:z.cells.size=size)(hsz:0<size)(B:Nat)(v:Value)(n:Nat)(cs:List Value)(hown:Db w B size v n cs)(b o m c:Nat)(news:List Value)(hl:news.length=m*size)(hnews:w.rangeAt b o news)(h1:∀u∈news,u.oneCell'=true)(hm:n+m<=maxLen)(hb:(n+m)*bytes<=140737488355328)(hB:B<=w.heap.size):∃v' w',(Builtin.append_ #[t,t] ty #[v,Ma (some ⟨b,o,none⟩) m c]).run P w=.ok v' w'/\Db w' B size v' (n+m) (cs++news)/\Db w' B size v n cs/\w.grownBy w' v.ownBlock/\(∀k,v'.ownBlock=Option.some k->v.ownBlock=Option.some k\/w.heap.size<=k)/\((∀k,v.ownBlock=Option.some k->Plain w k)->(∀k,v'.ownBlock=Option.some k->Plain w' k)/\∀k,v.ownBlock=Option.some k->Plain w' k)/\∀g,v.ownBlock=some g->∀j,w'.cell? ⟨g,j,none⟩=w.cell? ⟨g,j,none⟩\/∃u,n*size<=j/\news[j-n*size]? =some u/\w'.cell? ⟨g,j,none⟩=some u:=by
 have J:∀j u,news[j]? =some u->w.cell? ((⟨b,o,none⟩:Addr).add j)=some u:=by intro j u d;rw[X7];exact hnews j u d
 have G:=hown;obtain⟨s,hown⟩:=hown;have I:(cs++news).length=(n+m)*size:=by rw[Zq,s,hl,Nat.add_mul]
 rcases hown with⟨rfl,rfl⟩|⟨g,cap,rfl,h2,h3,h4,h5,h6,h7⟩;.have No:=Ye (by simpa using s);subst No;obtain⟨v',w',x,q,f,_⟩:=run_append_own (P:=P) w w.heap.size t ty e i z size bytes ht hi hz hsize hby hzs hsz (Ma none 0 0) 0 [] (World.ownsRow_nil _ _ _ _) ⟨b,o,none⟩ m c news hl J h1 hm hb (Za _);exact⟨v',w',x,(Db.Ig (e:=e) q).mono hB,Db.nil _ _ _,f,λk a=>.inr (q.lt k a).1,λ_=>⟨zw q,λk a=>by simp[Value.ownBlock]at a⟩,λg f=>by simp[Value.ownBlock]at f⟩
 .by_cases l:n+m<=cap
  .have S:n*size+m*size<=cap*size:=by rw[<-Nat.add_mul];exact Nat.mul_le_mul_right _ l
   have E:w.there g (n*size) news.length:=λk a=>by have :=h6 (n*size+k) (by omega);rw[Zf]at this;exact this
   have x:=run_append_room_cells (P:=P) w t ty e i ht hi g 0 n cap ⟨b,o,none⟩ m c news (by rw[hsize];exact hl) J h1 l (λj F=>by rw[hsize,Zf];exact(E j F).1) (λj F=>by rw[hsize,Zf];exact(E j F).2);rw[hsize,Zf]at x;obtain⟨K,O,Q,R⟩:=Og g news (n*size) w;have r:∀j,j<n*size->(w.setCells g (n*size) news).cell? ⟨g,j,none⟩=w.cell? ⟨g,j,none⟩:=λj F=>Va _ _ _ _ _ (λ_ _=>.inl (show j<n*size by omega));have C:∀j u,news[j]? =some u->(w.setCells g (n*size) news).cell? ⟨g,n*size+j,none⟩=some u:=λj u d=>Zn w g (n*size) news E j u d;refine⟨_,_,x,⟨I,.inr ⟨g,cap,rfl,h2,by rw[K];exact h3,l,h5,Xb h6 _ _ _,λj u d=>?_⟩⟩,⟨s,.inr ⟨g,cap,rfl,h2,by rw[K];exact h3,h4,h5,Xb h6 _ _ _,λj u d=>?_⟩⟩,⟨O,Q,R,by rw[K];exact Za _,λk _ M=>Qf _ _ _ _ _ (λe=>M (by simp[Value.ownBlock,e]))⟩,λk a=>.inl a,λD=>⟨λk a=>(D k a).setCells _ _,λk a=>(D k a).setCells _ _⟩,λN p j=>?_⟩
   .rw[Zf];by_cases A:j<cs.length;.rw[Yl A]at d;rw[r j (by omega)];have :=h7 j u d;rwa [Zf]at this
    .rw[Z4 (Xn A)]at d;have :=C (j-cs.length) u d;rwa [show n*size+(j-cs.length)=j by omega]at this
   .rw[Zf];have A:=(Zw.1 d).1;rw[r j (by omega)];have :=h7 j u d;rwa [Zf]at this
   .simp only[Value.ownBlock,Xj]at p;subst p;by_cases L:j<n*size;.exact .inl (r j L)
    .by_cases H:j-n*size<news.length;.refine .inr ⟨news[j-n*size],by omega,Zk H,?_⟩;have :=C (j-n*size) _ (Zk H);rwa [show n*size+(j-n*size)=j by omega]at this
     .exact .inl (Va _ _ _ _ _ (λ_ _=>.inr (show n*size+news.length<=j by omega)))
  .obtain⟨v',w',x,q,f⟩:=run_append_arg_grows (P:=P) w t ty e i z size bytes ht hi hz hsize hby hzs hsz ⟨g,0,none⟩ n cap cs s (λj u d=>by rw[X7];exact h7 j u d) ⟨b,o,none⟩ m c news hl J (by omega) hm hb;have y:∀k,k<w.heap.size->w'.heap[k]? =w.heap[k]? :=λk a=>f.block k a (by simp);exact⟨v',w',x,(Db.Ig q).mono hB,G.Cb f.size (λk a _=>y k a),⟨f.os,f.tape,f.output,f.size,λk a _=>f.block k a (by simp)⟩,λk a=>.inr (q.lt k a).1,λD=>⟨zw q,λk a=>(D k a).Cb (y k (by obtain⟨_,_,h⟩:=D k a;exact(Zg.1 h).1))⟩,λN p j=>by simp only[Value.ownBlock,Xj]at p;subst p;exact .inl (Zc (y g h3))⟩
theorem xA{P:Program}(w:Fa){ops:Array Oper}{rest:List Oper}{o:Oper}{a:Act}{Q:Exit->Act->Fa->Prop}(hgd:o.guard=none)(s x:Operand)(t:TypeId)(ho:o.op=.call {callee:=.builtin .append,args:=#[s,x],argTypes:=#[t,t]})
  (e:TypeId) (i:TypeInfo) (z:Value) (size bytes:Nat) (ht:P.underlying t=some (.slice e)) (hi:P.info? e=some i) (hz:i.zero=some z) (hsize:i.size=size) (hby:i.bytes=bytes) (hzs:z.cells.size=size) (hsz:0<size)
  (B:Nat) (v:Value) (n:Nat) (cs:List Value) (hs:a.eval s=v) (hown:Db w B size v n cs) (b p m c:Nat) (news:List Value) (hx:a.eval x=Ma (some ⟨b,p,none⟩) m c)
  (hl:news.length=m*size) (hnews:w.rangeAt b p news) (h1:∀u∈news,u.oneCell'=true) (hm:n+m<=maxLen) (hb:(n+m)*bytes<=140737488355328) (hB:B<=w.heap.size)
  (hK:∀v' w',Db w' B size v' (n+m) (cs++news)->Db w' B size v n cs->w.grownBy w' v.ownBlock->(∀k,v'.ownBlock=Option.some k->v.ownBlock=Option.some k\/w.heap.size<=k)->(∀g,v.ownBlock=some g->∀j,w'.cell? ⟨g,j,none⟩=w.cell? ⟨g,j,none⟩\/∃u,n*size<=j/\news[j-n*size]? =some u/\w'.cell? ⟨g,j,none⟩=some u)->wpList P ops Q rest (a.put o.dst v') w'):wpList P ops Q (o::rest) a w:=by
 refine wpList_plain hgd λK f=>?_
 obtain⟨v',w',d,h,l,q,r,_,y⟩:=CU (P:=P) w t o.type e i z size bytes ht hi hz hsize hby hzs hsz B v n cs hown b p m c news hl hnews h1 hm hb hB
 unfold Oper.wp
 simp[execOp,ho,resolve,invoke,builtin,hs,hx,d,Result.andThen]
 exact f _ _ (hK v' w' h l q r y)
end
section
def zd(w:Fa)(v:Value)(n:Nat)(m:Da):Prop:=(v=Ma none 0 0/\n=0)\/∃g cap,v=Ma (some ⟨g,0,none⟩) n cap/\∀i,i<n->w.cell? ⟨g,i*3,none⟩=some (Oa false)/\w.cell? ⟨g,i*3+1,none⟩=some (La m)/\w.cell? ⟨g,i*3+2,none⟩=some (Ma none 0 0)
variable{w:Fa}{v:Value}{n:Nat}{m:Da}
variable{w':Fa}
theorem TQ(q:Nat)(h:q<=4611686018427387904):wrap64 (q:Int)=(q:Int):=by unfold wrap64;omega
theorem MN(bw N M:Nat)(w w0:Fa)(hw0:w0=w.setCell ⟨bw,5,none⟩ (Ia ka (M:Int)))(hM:N+1=M)(hN:N<=17179869184)(h5:w.cell? ⟨bw,5,none⟩=some (Ia ka (N:Int)))(f5:w.frozen? ⟨bw,5,none⟩=false):Calls oa 117 #[Qa (some ⟨bw,3,none⟩)] w λe w'=>∃m:Da,e=na (La m)/\Ba w0 w':=by
 have j:bw<w.heap.size:=by simpa using Yo w _ h5
 have h:wrap64 ((N:Int)+1)=(M:Int):=by unfold wrap64;omega
 have k:=Hq Qn;have d:Hid (M<=17179869185):=by rw[<-hM];exact(by omega :N+1<=17179869185)
 have g:=Ys w ⟨bw,5,none⟩ (Ia ka (M:Int)) h5;clear hN hM;go_enter func117,ntmps117;go_wp2;clear h h5 f5 j g;go_loopg [3,4] M (λγ s v wr=>∃(n:Nat) (l:List Nat),n=γ/\n<=M/\v=Ia ka (n:Int)/\s=La (Kg l)/\l.length+n<=M+12/\Ba w0 wr)
 case atStart=>exact⟨M,[116,104,101,32,111,119,110,101,114,39,115,32],rfl,Za _,rfl,rfl,by simp;omega,by rw[hw0];exact Zb _ _⟩
 case round=>
  obtain⟨n,l,rfl,c,rfl,rfl,b,a⟩:=hrel;by_cases f:n=0;.subst f;have A:Aside (Ba w0 wr):=a;clear a b c;go_wp2;go_ret;exact⟨_,rfl,A.o⟩
  .have p:(0:Int)<(n:Int):=by omega
   obtain⟨q,t⟩:=nm (n/10);obtain⟨r,u⟩:=nm (n%10);have A:=Hq (A5 a b (by omega :q<n) c (by omega :r<10));have o:=λW=>wi l [48+r] (by have :=d.o;simp only[Zu,Yq];omega) W;have i:=k wr (48+r);rw[show((48+r:Nat):Int)=48+(r:Int)by omega]at i;have y:(n:Int).tmod 10=(r:Int):=by rw[<-u];exact(Int.ofNat_tmod n 10).symm
   have x:(n:Int).tdiv 10=(q:Int):=by rw[<-t];exact(Int.ofNat_tdiv n 10).symm
   clear a b c f;go_wp2;go_roundg q
   case measure=>have :=A.o;omega
   case rel=>exact⟨q,l++[48+r],rfl,by have :=A.o;omega,ld (TQ q (by have :=A.o;have :=d.o;omega)),rfl,by have :=A.o;simp only[Zq,Zu,Yq];omega,A.1.alloc A.1.size _⟩
structure nh where
 l:Value
 a:Value
 b:Value
 c:Value
 n:Nat
 m:Da
abbrev Ha(e:nh):List Value:=[e.l,e.a,e.b,e.c,La e.m]
def nh.has(e:nh)(k:Nat):Prop:=e.l.ownBlock=some k\/e.a.ownBlock=some k\/e.b.ownBlock=some k\/e.c.ownBlock=some k
structure rk(w:Fa)(bw:Nat)(v:Value)(e:nh):Prop where
 fl:zd w e.l e.n e.m
 fa:zd w e.a (e.n+1) e.m
 fb:zd w e.b (e.n+2) e.m
 fc:zd w e.c (e.n+3) e.m
 hn:e.n<=1048576
 ap:∀k,e.has k->bw<k/\k<w.heap.size/\v.ownBlock≠some k
structure Bk(w:Fa)(bw:Nat)(es:List nh)(v:Value)(N:Nat):Prop where
 c4:w.cell? ⟨bw,4,none⟩=some v/\w.frozen? ⟨bw,4,none⟩=false
 c5:w.cell? ⟨bw,5,none⟩=some (Ia ka (N:Int))/\w.frozen? ⟨bw,5,none⟩=false
 own:Db w (bw+1) 5 v es.length (es.flatMap Ha)
 Qq:∀e∈es,rk w bw v e
structure Kept(bw:Nat)(T:Nat->Prop)(w w':Fa):Prop where
 os:w'.os=w.os
 tape:w'.tape=w.tape
 output:w'.output=w.output
 size:w.heap.size<=w'.heap.size
 block:∀k,k<w.heap.size->k≠bw->¬T k->w'.heap[k]? =w.heap[k]?
 cells:∀j,j≠4->j≠5->w'.cell? ⟨bw,j,none⟩=w.cell? ⟨bw,j,none⟩/\w'.frozen? ⟨bw,j,none⟩=w.frozen? ⟨bw,j,none⟩
variable{bw:Nat}{w1:Fa}
variable{b:Option Nat}
variable{es:List nh}{N:Nat}
variable{k:Nat}
def Tp(iv:Nat->Nat×Nat)(i b:Nat):Prop:=(iv i).1<=b/\b<(iv i).2
structure K1(bw:Nat)(iv:Nat->Nat×Nat)(es:List nh)(v:Value)(N:Nat)(rs:List Raw)(w:Fa)(k:Nat)(wr:Fa)(es':List nh)(v':Value)(N':Nat):Prop where
 bk:Bk wr bw (es++es') v' N'
 nb:N'<=N+Ag (rs.take k)
 lb:es'.length<=Ag (rs.take k)
 kept:Kept bw (λb=>(∃i,i<k/\Tp iv i b)\/v.ownBlock=some b) w wr
 vf:∀b,v'.ownBlock=some b->v.ownBlock=some b\/w.heap.size<=b
 ef:∀e∈es',∀b,e.has b->(∃i,i<k/\Tp iv i b)\/w.heap.size<=b
variable{iv:Nat->Nat×Nat}{rs:List Raw}
variable{es':List nh}
theorem rE{w2:Fa}(h:w.grownBy w1 b)(k:w1.grownBy w2 b):w.grownBy w2 b:=⟨k.os.trans h.os,k.tape.trans h.tape,k.output.trans h.output,Z2 h.size k.size,λi hi hne=>(k.block i (Zm hi h.size) hne).trans (h.block i hi hne)⟩
theorem AK(h:w.grownBy w1 b){a:Addr}(ha:w.heap.size<=a.block)(u:Value):w.grownBy (w1.setCell a u) b:=⟨h.os,h.tape,h.output,by simpa using h.size,λi hi hne=>(Zd _ _ _ _ (by omega)).trans (h.block i hi hne)⟩
theorem CL(h:w.grownBy w1 b){a:Addr}(ha:b=some a.block)(u:Value):w.grownBy (w1.setCell a u) b:=⟨h.os,h.tape,h.output,by simpa using h.size,λi hi hne=>(Zd _ _ _ _ (λe=>hne (by rw[ha,e]))).trans (h.block i hi hne)⟩
theorem Lb.setAt{b:Nat}{cs:List Value}(h:Lb w b cs)(i:Nat)(u:Value)(hi:i<cs.length):Lb (w.setCell ⟨b,i,none⟩ u) b (cs.set i u):=by
 refine⟨by simpa using h.1,λj v a=>?_⟩;rw[List.getElem?_set]at a;have d:∀j v,cs[j]? =some v->(w.setCell ⟨b,i,none⟩ u).frozen? ⟨b,j,none⟩=false:=λj v a=>by rw[Z7];exact(h.2 j v a).2
 have c:=Zk hi;split at a
 .rename_i e
  subst e;cases a;exact⟨Ys _ _ _ (h.2 i _ c).1,d i _ c⟩
 .rename_i hne
  exact⟨(Zp _ _ _ _ (λe=>by have f:=Y5 Addr.off e;simp only at f;omega)).trans (h.2 j v a).1,d j v a⟩
end
end Go.Proofs.YtpfbdlnibdfcoaaGreatDoor
