import Derived.Test.YtpfbdlnibdfcoaaGreatDoorPvTreA
namespace Go.Proofs.YtpfbdlnibdfcoaaGreatDoor
open Go.RowKit Tryz
open Value renaming int->Ia,string->La,slice->Ma,bool->Oa,pointer->Qa,agg->Sa,tuple->Wa,iface->ca,nilIface->da
open IntKind renaming i64->ka
open Obj renaming cells->ma
open Ending renaming returned->na
open Tryz renaming prog->oa
set_option maxRecDepth 100000
set_option maxHeartbeats 0
mutual
def Nd.get:Nd->List Nat->Option Da
 | .no,_=>none
 | .leaf p v,r=>if Ke p=r then some v else none
 | .ext p t,r=>if r.take p.size=Ke p then t.get (r.drop p.size)else none
 | .br ks,r=>match r with
  | []=>none
  |x::r=>Ex ks x r
 | .stub _,_=>none
def Ex:List Nd->Nat->List Nat->Option Da
 | [],_,_=>none
 |k::_,0,r=>k.get r
 |_::ks,x+1,r=>Ex ks x r
end
theorem jM(ks:List Nd)(x:Nat)(r:List Nat):Ex ks x r=(ks.getD x .no).get r:=by
 induction ks generalizing x with
 |nil=>rw[Ex];simp[Nd.get]
 |cons k ks ih=>
  cases x with
  |zero=>rw[Ex];rfl
  |succ x=>rw[Ex,ih];rfl
theorem Ml(ks:List Nd)(x:Nat)(r:List Nat):(Nd.br ks).get (x::r)=(ks.getD x .no).get r:=by rw[Nd.get];exact jM ks x r
theorem lA(ks:List Nd):(Nd.br ks).get []=none:=by rw[Nd.get]
theorem Sl(r:List Nat):Nd.get .no r=none:=by rw[Nd.get]
theorem ni(p v:Da)(r:List Nat):(Nd.leaf p v).get r=if Ke p=r then some v else none:=by rw[Nd.get]
theorem wj(p:Da)(t:Nd)(r:List Nat):(Nd.ext p t).get r=if r.take p.size=Ke p then t.get (r.drop p.size)else none:=by rw[Nd.get]
def qd(l:List Nat):Prop:=∀x∈l,x<16
def Nd.Df:Nd->Bool
 | .br _=>true
 |_=>false
mutual
def Nd.can:Nd->Nat->Prop
 | .no,_=>True
 | .leaf p v,n=>p.size=n/\qd (Ke p)/\0<v.size/\v.size<=100
 | .ext p t,n=>0<p.size/\p.size<n/\qd (Ke p)/\t.can (n-p.size)/\t.Df=true
 | .br ks,n=>0<n/\ks.length=16/\Gy ks (n-1)/\2<=Gu ks 16
 | .stub _,_=>False
def Gy:List Nd->Nat->Prop
 | [],_=>True
 |x::xs,n=>x.can n/\Gy xs n
end
variable{n:Nat}
theorem AI{x:Nd}:∀{l:List Nd},Gy l n->x∈l->x.can n:=by
 intro l;induction l with
 |nil=>intro _ h;cases h
 |cons y l ih=>
  intro h a;rw[Gy]at h;rcases Yf.1 a with rfl|a;.exact h.1
  .exact ih h.2 a
theorem lE:∀{l:List Nd},(∀x∈l,x.can n)->Gy l n:=by
 intro l;induction l with
 |nil=>intro _;rw[Gy];trivial
 |cons y l ih=>intro h;rw[Gy];exact⟨h y (Yj ..),ih λx a=>h x (Yy _ a)⟩
theorem km{l:List Nd}(h:Gy l n)(x:Nat):(l.getD x .no).can n:=by
 rw[Yb];cases hk:l[x]? with
 |none=>rw[Option.getD_none,Nd.can];trivial
 |some y=>exact AI h (Vw hk)
variable{t:Nd}
theorem qz{l:List Nd}(h:Gy l n)(x:Nat)(ht:t.can n):Gy (l.set x t) n:=lE λy hy=>by
 rcases List.mem_or_eq_of_mem_set hy with h1|h1;.exact AI h h1
 .rw[h1];exact ht
theorem RD(n:Nat):Nd.can .no n:=by rw[Nd.can];trivial
variable{p v:Da}
theorem Ld:(Nd.leaf p v).can n↔p.size=n/\qd (Ke p)/\0<v.size/\v.size<=100:=by rw[Nd.can]
theorem vc:(Nd.ext p t).can n↔0<p.size/\p.size<n/\qd (Ke p)/\t.can (n-p.size)/\t.Df=true:=by rw[Nd.can]
variable{ks:List Nd}
theorem xd:(Nd.br ks).can n↔0<n/\ks.length=16/\Gy ks (n-1)/\2<=Gu ks 16:=by rw[Nd.can]
theorem My(h:t.Df=true):t≠ .no:=λe=>by rw[e]at h;simp[Nd.Df]at h
mutual
theorem Nd.oe:∀(t:Nd) (n:Nat),t.can n->n<=64->t.ok/\t.fits n
 | .no,n,_,_=>by rw[Nd.ok,Nd.fits];exact⟨trivial,trivial⟩
 | .leaf p v,n,h,hn=>by rw[Ld]at h;rw[Nd.ok,Nd.fits];exact⟨⟨⟨by omega,h.2.1⟩,by omega⟩,h.1⟩
 | .ext p t,n,h,hn=>by rw[vc]at h;obtain⟨h1,h2⟩:=Nd.oe t (n-p.size) h.2.2.2.1 (by omega);rw[Nd.ok,Nd.fits];exact⟨⟨⟨by omega,h.2.2.1⟩,h1,My h.2.2.2.2⟩,h.1,h.2.1,h2⟩
 | .br ks,n,h,hn=>by rw[xd]at h;obtain⟨h1,h2⟩:=yI ks (n-1) h.2.2.1 (by omega);rw[Nd.ok,Nd.fits];exact⟨⟨h.2.1,h1⟩,h.1,h2⟩
 | .stub _,_,h,_=>by rw[Nd.can]at h;exact h.elim
theorem yI:∀(ks:List Nd) (n:Nat),Gy ks n->n<=64->E4 ks/\Hl ks n
 | [],_,_,_=>by rw[E4,Hl];exact⟨trivial,trivial⟩
 |t::ks,n,h,hn=>by rw[Gy]at h;obtain⟨h1,h2⟩:=Nd.oe t n h.1 hn;obtain⟨h3,h4⟩:=yI ks n h.2 hn;rw[E4,Hl];exact⟨⟨h1,h3⟩,h2,h4⟩
end
theorem ZA(ks:List Nd)(x y:Nat)(t:Nd)(hx:x<ks.length):(ks.set x t).getD y .no=if y=x then t else ks.getD y .no:=by
 rw[Yb,Yb,List.getElem?_set];by_cases h:x=y;.subst h;rw[Zo rfl,Zo hx,Zo rfl];rfl
 .rw[Zj h,Zj (Ne.symm h)]
def one(t:Nd):Nat:=if t.rf then 0 else 1
theorem Ws(ks:List Nd)(k:Nat):Gu ks (k+1)=Gu ks k+one (ks.getD k .no):=by rw[Gu];rfl
theorem oI(ks:List Nd)(x:Nat)(t:Nd)(hx:x<ks.length):∀k,Gu (ks.set x t) k+(if x<k then one (ks.getD x .no)else 0)=Gu ks k+(if x<k then one t else 0)
 |0=>by simp[Gu]
 |k+1=>by
  have ih:=oI ks x t hx k;rw[Ws,Ws,ZA ks x k t hx];by_cases h1:k=x;.subst h1;rw[Zj (Nat.lt_irrefl _),Zj (Nat.lt_irrefl _)]at ih;rw[Zo rfl,Zo (Jo _),Zo (Jo _)];omega
  .rw[Zj h1];by_cases h2:x<k;.rw[Zo h2,Zo h2]at ih;rw[Zo (by omega),Zo (by omega)];omega
   .rw[Zj h2,Zj h2]at ih;rw[Zj (by omega),Zj (by omega)];omega
variable{x:Nat}
theorem mx(hl:ks.length=16)(hx:x<16)(t:Nd):Gu (ks.set x t) 16+one (ks.getD x .no)=Gu ks 16+one t:=by have :=oI ks x t (by omega) 16;rwa [Zo hx,Zo hx]at this
theorem jx:one .no=0:=rfl
theorem xn(h:t≠ .no):one t=1:=by
 cases t with
 |no=>exact absurd rfl h
 |_=>rfl
theorem uA{ks:List Nd}{x:Nat}(hn:ks.getD x .no≠ .no):∀{k},x<k->1<=Gu ks k
 |0,h=>absurd h (Nat.not_lt_zero _)
 |k+1,h=>by
  rw[Ws];by_cases e:x=k;.subst e;rw[xn hn];omega
  .have :=uA (ks:=ks) hn (k:=k) (by omega);omega
theorem PI{ks:List Nd}{x y:Nat}(hx:ks.getD x .no≠ .no)(hy:ks.getD y .no≠ .no)(hxy:x≠y):∀{k},x<k->y<k->2<=Gu ks k
 |0,h,_=>absurd h (Nat.not_lt_zero _)
 |k+1,h1,h2=>by
  rw[Ws];by_cases ex:x=k;.subst ex;have :=uA (ks:=ks) hy (k:=x) (by omega);rw[xn hx];omega
  .by_cases ey:y=k;.subst ey;have :=uA (ks:=ks) hx (k:=y) (by omega);rw[xn hy];omega
   .have :=PI (ks:=ks) hx hy hxy (k:=k) (by omega) (by omega);omega
theorem ur{k:Nat}(h:1<=Gu ks k):ks.getD (N6 ks k) .no≠ .no:=λe=>by have :=IC ks k h;rw[e]at this;simp[Nd.rf]at this
theorem rA(h:p.size=0):Ke p=[]:=Ye (by rw[ta,h])
theorem nC(q:Da)(t:Nd)(r:List Nat):(Gj q t).get r=if r.take q.size=Ke q then t.get (r.drop q.size)else none:=by
 unfold Gj;by_cases h:q.size=0;.rw[Zo h,rA h,h,Xr,Yx,Zo rfl]
 .rw[Zj h,wj]
variable{a b:List Nat}
theorem YR{r:List Nat}(hn:a.length=n):(a++b=r)↔(r.take n=a/\b=r.drop n):=by
 constructor;.intro h;rw[<-h,<-hn];simp
 .intro h;rw[<-h.1,h.2,Xc]
variable{q:Da}
theorem lG(ht:t≠ .no)(hs:∀h,t≠ .stub h)(r:List Nat):(Gt q t).get r=if r.take q.size=Ke q then t.get (r.drop q.size)else none:=by
 cases t with
 |no=>exact absurd rfl ht
 |stub h=>exact absurd rfl (hs h)
 |br ks=>exact nC q _ r
 |leaf p v=>
  rw[Gt,ni,ni,Iq];have :=YR (a:=Ke q) (b:=Ke p) (r:=r) (ta q);by_cases h:Ke q++Ke p=r;.rw[Zo h,Zo (this.1 h).1,Zo (this.1 h).2]
  .rw[Zj h];by_cases c:r.take q.size=Ke q;.rw[Zo c,Zj λd=>h (this.2 ⟨c,d⟩)]
   .rw[Zj c]
 |ext p t=>
  rw[Gt,wj,wj,Iq,size_append];by_cases c:r.take q.size=Ke q
  .rw[Zo c];by_cases d:(r.drop q.size).take p.size=Ke p;.rw[Zo d,Zo (by rw[List.take_add,c,d]),Jt]
   .rw[Zj d,Zj];intro e;apply d;rw[List.take_add,c]at e;exact Vg e
  .rw[Zj c,Zj];intro e;apply c;have :=Y5 (List.take q.size) e;rw[Jb,Vf (by omega)]at this;rw[this,V9 (by rw[ta];exact Za _),Zz (by rw[ta];exact Za _)]
theorem lr{m:Nat}(h:m<256):Ke (Kg [m])=[m]:=qg (by simpa using h)
theorem jB(m:Nat):(Kg [m]).size=1:=by rw[me];rfl
def bare(ks:List Nd):Prop:=∀x h,ks.getD x .no≠ .stub h
theorem kR(hl:ks.length=16)(hb:bare ks)(r:List Nat):(Pi ks).get r=(Nd.br ks).get r:=by
 unfold Pi;split
 .rename_i h1
  have e:=qn ks 16 (by omega);have b:=ur (ks:=ks) (k:=16) (by omega);rw[lG b (hb _),jB,lr (by omega)];cases r with
  |nil=>rw[lA,Zj (by simp)]
  |cons x r=>
   rw[Ml,Y7,Xr,Y6,Yx];by_cases a:x=N6 ks 16;.rw[Zo (by rw[a]),a]
   .rw[Zj (by simpa using a)];by_cases c:ks.getD x .no=.no;.rw[c,Sl]
    .by_cases d:x<16;.have :=PI c b a d e;omega
     .exfalso;apply c;rw[Yb,Vb (by omega)];rfl
 .rfl
theorem Ww(hl:ks.length=16)(hx:x<16)(t:Nd)(y:Nat)(r:List Nat):(Nd.br (ks.set x t)).get (y::r)=if y=x then t.get r else(Nd.br ks).get (y::r):=by rw[Ml,ZA ks x y t (by omega),Ml];split<;>rfl
theorem Oi(h:t.can n):∀g,t≠ .stub g:=λg e=>by rw[e,Nd.can]at h;exact h
theorem MM(h:Gy ks n):bare ks:=λx g=>Oi (km h x) g
variable{r:Da}
theorem ru(h0:0<r.size):Ke r=(Ke r)[0]! ::Ke (r.extract 1 r.size):=by
 rw[Mi];have a:0<(Ke r).length:=by rw[ta];exact h0
 rw[Z9 (Ke r) 0 a,<-Yv a,Yx]
theorem rz(ht:t.can n)(hne:t≠ .no)(hq:qd (Ke q)):(Gt q t).can (n+q.size)/\Gt q t≠ .no:=by
 cases t with
 |no=>exact absurd rfl hne
 |stub g=>exact absurd rfl (Oi ht g)
 |leaf p v=>rw[Ld]at ht;rw[Gt,Ld,size_append,Iq];exact⟨⟨by omega,λx a=>(Yc.1 a).elim (hq x) (ht.2.1 x),ht.2.2⟩,by simp⟩
 |ext p t=>rw[vc]at ht;rw[Gt,vc,size_append,Iq];exact⟨⟨by omega,by omega,λx a=>(Yc.1 a).elim (hq x) (ht.2.2.1 x),by rw[show n+q.size-(q.size+p.size)=n-p.size by omega];exact ht.2.2.2.1,ht.2.2.2.2⟩,by simp⟩
 |br ks=>
  rw[Gt];unfold Gj;split
  .rename_i h
   rw[h];exact⟨ht,by simp⟩
  .have :=xd.1 ht;rw[vc];exact⟨⟨by omega,by omega,hq,by rw[show n+q.size-q.size=n by omega];exact ht,rfl⟩,by simp⟩
theorem LG(ht:t.can n)(hne:t≠ .no)(hq:qd (Ke q))(hn:n+q.size<=64):t.room q:=by
 cases t with
 |no=>exact absurd rfl hne
 |stub g=>exact absurd rfl (Oi ht g)
 |leaf p v=>rw[Ld]at ht;exact⟨by rw[size_append];omega,by rw[Iq];exact λx a=>(Yc.1 a).elim (hq x) (ht.2.1 x)⟩
 |ext p t=>rw[vc]at ht;exact⟨by rw[size_append];omega,by rw[Iq];exact λx a=>(Yc.1 a).elim (hq x) (ht.2.2.1 x)⟩
 |br ks=>exact⟨by omega,hq⟩
theorem YF(ht:(Nd.br ks).can n)(hq:qd (Ke q)):(Gj q (.br ks)).can (n+q.size)/\Gj q (.br ks)≠ .no:=rz (t:=.br ks) ht (by simp) hq
theorem xy(x:Nat):Wc.getD x .no=.no:=by unfold Wc;rw[Yb,List.getElem?_replicate];split<;>rfl
theorem sD:∀k,Gu Wc k=0
 |0=>rfl
 |k+1=>by rw[Ws,sD k,xy];rfl
theorem Cu:Wc.length=16:=by simp[Wc]
theorem UQ(n:Nat):Gy Wc n:=lE λx hx=>by rw[Jp hx];exact RD n
section
variable{x y:Nat}{A:Nd}{r u:Da}{n:Nat}
theorem fK(hx:x<16)(hy:y<16)(hxy:x≠y)(hA:A.can n)(hAn:A≠ .no)(hr:(Nd.leaf (r.extract 1 r.size) u).can n):(Gm x A y r u).can (n+1):=by
 unfold Gm;have a:(Wc.set x A).length=16:=by rw[Ve];exact Cu
 have b:=mx Cu hx A;have c:=mx a hy (Nd.leaf (r.extract 1 r.size) u);rw[xy,jx,sD,xn hAn]at b;rw[ZA Wc x y A (by rw[Cu];exact hx),Zj (Ne.symm hxy),xy,jx,xn (t:=.leaf _ _) (by simp)]at c;rw[xd];refine⟨by omega,by rw[Ve];exact a,?_,by omega⟩;rw[Nat.add_sub_cancel];exact qz (qz (UQ n) x hA) y hr
theorem KN(hx:x<16)(hy:y<16)(z:Nat)(s:List Nat):(Gm x A y r u).get (z::s)=if z=y then(if Ke (r.extract 1 r.size)=s then some u else none)else if z=x then A.get s else none:=by
 unfold Gm;have a:(Wc.set x A).length=16:=by rw[Ve];exact Cu
 rw[Ww a hy,ni,Ww Cu hx,Ml,xy,Sl]
end
variable{e:Nd}{u:Da}
theorem OG{A:Nd}{N y:Nat}(hr:r.size=n)(hN:N<n)(hnib:qd (Ke r))(hu0:0<u.size)(hu1:u.size<=100)(hx:x<16)(hxy:x≠y)(hy:(Ke (r.extract N r.size))[0]! =y)(hA:A.can (n-N-1))(hAn:A≠ .no)(hE:∀b z s,b.length=N->e.get (b++z::s)=if b=(Ke r).take N/\z=x then A.get s else none):(Gj (r.extract 0 N) (Gm x A y (r.extract N r.size) u)).can n/\Gj (r.extract 0 N) (Gm x A y (r.extract N r.size) u)≠ .no/\∀s,s.length=n->(Gj (r.extract 0 N) (Gm x A y (r.extract N r.size) u)).get s=if s=Ke r then some u else e.get s:=by
 have D:(r.extract N r.size).size=n-N:=by rw[Cf,hr]
 have k:qd (Ke (r.extract N r.size)):=by rw[Mi];exact λx hx=>hnib x (Yu hx)
 have w:=ru (r:=r.extract N r.size) (by omega);rw[hy]at w;have l:=k y (by rw[w];simp);have F:(Nd.leaf ((r.extract N r.size).extract 1 (r.extract N r.size).size) u).can (n-N-1):=by rw[Ld];refine⟨by rw[Cf,D],?_,hu0,hu1⟩;rw[Mi];exact λx hx=>k x (Yu hx)
 have p:=fK (r:=r.extract N r.size) hx l hxy hA hAn F;rw[show n-N-1+1=n-N by omega]at p;have j:=uo r N (by omega);have t:=Qp r N;have C:qd (Ke (r.extract 0 N)):=by rw[t];exact λx hx=>hnib x (Y4 hx)
 have d:=YF (q:=r.extract 0 N) (ks:=(Wc.set x A).set y (.leaf ((r.extract N r.size).extract 1 (r.extract N r.size).size) u)) p C;rw[j,show n-N+N=n by omega]at d;refine⟨d.1,d.2,λs G=>?_⟩;have c:Ke r=(Ke r).take N++y::Ke ((r.extract N r.size).extract 1 (r.extract N r.size).size):=by rw[<-w,Mi,Xc]
 obtain⟨b,z,o,rfl,v⟩:∃b z o,s=b++z::o/\b.length=N:=by refine⟨s.take N,s[N]'(by omega),s.drop (N+1),?_,by rw[Zx];omega⟩;rw[<-Yv,Xc]
 rw[nC,j,t,Jd v,Jc v,hE b z o v,KN hx l];generalize Ke ((r.extract N r.size).extract 1 (r.extract N r.size).size)=tl at c⊢;have E:((Ke r).take N).length=N:=by rw[Zx,ta];omega
 generalize (Ke r).take N=a at c E⊢;rw[c];by_cases f:b=a
 .subst f;rw[Zo rfl];by_cases m:z=y
  .subst m;rw[Zo rfl];by_cases g:tl=o;.rw[Zo g,g,Zo rfl]
   .rw[Zj g,Zj (λh=>g (by simpa using(Vg h).symm)),Zj (λh=>hxy h.2.symm)]
  .have B:¬(b++z::o=b++y::tl):=λh=>m (by have :=Vg h;simp only[Vo]at this;exact this.1);rw[Zj m,Zj B];by_cases i:z=x;.rw[Zo i,Zo ⟨rfl,i⟩]
   .rw[Zj i,Zj (λh=>i h.2)]
 .rw[Zj f,Zj (λh=>f (List.append_inj_left h (by omega))),Zj (λh=>f h.1)]
structure Ua(e X:Nd)(r u:Da):Prop where
 can:X.can r.size
 some:X≠ .no
 br:e.Df=true->X.Df=true
 get:∀s,s.length=r.size->X.get s=if s=Ke r then Option.some u else e.get s
theorem bF{p r:List Nat}{N:Nat}(h:p.take N=r.take N)(hN:N<p.length):p=r.take N++p[N]::p.drop (N+1):=by rw[<-h,<-Yv,Xc]
theorem sR(he:e.can r.size)(hn:(e.next r).1=.no)(hnib:qd (Ke r))(hu0:0<u.size)(hu1:u.size<=100):Ua e (e.putAt r u) r u:=by
 cases e with
 |stub g=>exact absurd rfl (Oi he g)
 |no=>
  refine⟨Ld.2 ⟨rfl,hnib,hu0,hu1⟩,by simp[Nd.putAt],by simp[Nd.Df],λs _=>?_⟩;rw[show Nd.putAt .no r u=.leaf r u from rfl,ni,Sl];by_cases h:Ke r=s;.rw[Zo h,Zo h.symm]
  .rw[Zj h,Zj (Ne.symm h)]
 |br ks=>
  rw[xd]at he;have M:=he.1;have S:=ru M;have c:(Ke r)[0]! <16:=hnib _ (by rw[S];simp);have H:ks.getD ((Ke r)[0]!) .no=.no:=hn;rw[Nd.putAt];generalize (Ke r)[0]! =x at S c H⊢;have hc:=mx he.2.1 c (Nd.leaf (r.extract 1 r.size) u);rw[H,jx,xn (t:=.leaf _ _) (by simp)]at hc;have X:(Nd.leaf (r.extract 1 r.size) u).can (r.size-1):=by rw[Ld];exact⟨by rw[Cf],by rw[Mi];exact λx J=>hnib x (Yu J),hu0,hu1⟩
  refine⟨xd.2 ⟨M,by rw[Ve];exact he.2.1,qz he.2.2.1 x X,by omega⟩,by simp,λ_=>rfl,λs hs=>?_⟩;cases s with
  |nil=>simp at hs;omega
  |cons z s=>
   rw[Ww he.2.1 c,ni,S];by_cases V:z=x
   .subst V;rw[Zo rfl];by_cases B:Ke (r.extract 1 r.size)=s;.rw[Zo B,B,Zo rfl]
    .rw[Zj B,Zj (λh=>B (by simp only[Vo]at h;exact h.2.symm)),Ml,H,Sl]
   .rw[Zj V,Zj (λh=>V (by simp only[Vo]at h;exact h.1))]
 |leaf p v=>
  rw[Ld]at he;rw[Nd.putAt];have K:=Dt (Ke p) (Ke r);have i:=kv (Ke p) (Ke r);have f:=uz (Ke p) (Ke r);rw[ta,ta]at K f;generalize Gf (Ke p) (Ke r)=N at K i f⊢;by_cases W:N=r.size
  .rw[Zo W];have Z:Ke p=Ke r:=by rw[Zz (by rw[ta];omega),Zz (by rw[ta];omega)]at i;exact i
   refine⟨Ld.2 ⟨rfl,hnib,hu0,hu1⟩,by simp,by simp[Nd.Df],λs _=>?_⟩;rw[ni,ni,Z];by_cases h:Ke r=s;.rw[Zo h,Zo h.symm]
   .rw[Zj h,Zj (Ne.symm h),Zj h]
  .rw[Zj W];have E:N<r.size:=by omega
   have d:N<(Ke p).length:=by rw[ta];omega
   have y:N<(Ke r).length:=by rw[ta];omega
   have A:=bF i d;rw[Z9 (Ke p) N d];have n:=f (by omega) (by omega);rw[Zk d,Zk y]at n;have c:(Ke p)[N]<16:=he.2.1 _ (Zy _);have w:(Ke (r.extract N r.size))[0]! =(Ke r)[N]:=by rw[Mi,Z9 _ 0 (by rw[Yi];omega),Vt];simp
   have o:(Ke p)[N]≠(Ke r)[N]:=λh=>n (by rw[h]);rw[w];generalize (Ke p)[N]=x at A c o⊢;have I:=(Mi p (N+1)).symm;rw[I]at A;have D:(Nd.leaf (p.extract (N+1) p.size) v).can (r.size-N-1):=by rw[Ld];exact⟨by rw[Cf];omega,by rw[Mi];exact λx J=>he.2.1 x (Yu J),he.2.2⟩
   obtain⟨j,l,O⟩:=OG (e:=.leaf p v) rfl E hnib hu0 hu1 c o w D (by simp) (λb z s C=>by
    rw[ni,ni,A];have F:((Ke r).take N).length=N:=by rw[Zx,ta];omega
    generalize (Ke r).take N=a at F⊢;generalize Ke (p.extract (N+1) p.size)=tl;by_cases G:b=a/\z=x
    .obtain⟨rfl,rfl⟩:=G;have R:b=b/\z=z:=⟨rfl,rfl⟩;rw[Zo R];by_cases h:tl=s
     .have m:b++z::tl=b++z::s:=by rw[h]
      rw[Zo h,Zo m]
     .have m:¬(b++z::tl=b++z::s):=λk=>h (by simpa using Vg k);rw[Zj h,Zj m]
    .have m:¬(a++x::tl=b++z::s):=λk=>G (by have P:=List.append_inj_left k (by omega);subst P;have :=Vg k;simp only[Vo]at this;exact⟨rfl,this.1.symm⟩);rw[Zj G,Zj m])
   exact⟨j,l,by simp[Nd.Df],O⟩
 |ext p t=>
  have Y:¬K7 p r:=λC=>by rw[Nd.next,Zo C]at hn;rw[vc]at he;exact My he.2.2.2.2 hn
  rw[vc]at he;rw[Nd.putAt];have Q:=RF Y;have i:=kv (Ke p) (Ke r);have f:=uz (Ke p) (Ke r);rw[ta,ta]at f;generalize Gf (Ke p) (Ke r)=N at Q i f⊢;have E:N<r.size:=by omega
  have d:N<(Ke p).length:=by rw[ta];omega
  have y:N<(Ke r).length:=by rw[ta];omega
  have A:=bF i d;rw[Z9 (Ke p) N d];have n:=f (by omega) (by omega);rw[Zk d,Zk y]at n;have c:(Ke p)[N]<16:=he.2.2.1 _ (Zy _);have w:(Ke (r.extract N r.size))[0]! =(Ke r)[N]:=by rw[Mi,Z9 _ 0 (by rw[Yi];omega),Vt];simp
  have o:(Ke p)[N]≠(Ke r)[N]:=λh=>n (by rw[h]);rw[w];generalize (Ke p)[N]=x at A c o⊢;have I:=(Mi p (N+1)).symm;rw[I]at A;have U:qd (Ke (p.extract (N+1) p.size)):=by rw[Mi];exact λx J=>he.2.2.1 x (Yu J)
  obtain⟨ks,rfl⟩:∃ks,t=.br ks:=by
   cases t with
   |br ks=>exact⟨ks,rfl⟩
   |_=>simp[Nd.Df]at he
  have D:=YF (q:=p.extract (N+1) p.size) he.2.2.2.1 U;rw[Cf,show r.size-p.size+(p.size-(N+1))=r.size-N-1 by omega]at D;obtain⟨j,l,O⟩:=OG (e:=.ext p (.br ks)) rfl E hnib hu0 hu1 c o w D.1 D.2 (λb z s C=>by
   rw[wj,nC,Cf];have F:((Ke r).take N).length=N:=by rw[Zx,ta];omega
   have L:p.size=N+(1+(p.size-(N+1))):=by omega
   have T:((b++z::s).take p.size=Ke p)↔((b=(Ke r).take N/\z=x)/\s.take (p.size-(N+1))=Ke (p.extract (N+1) p.size)):=by
    rw[A];generalize (Ke r).take N=a at F⊢;generalize Ke (p.extract (N+1) p.size)=tl;rw[L,List.take_add,Jd C,Jc C,J3 1,Y7];constructor;.intro h;have P:=List.append_inj_left h (by omega);subst P;have :=Vg h;simp only[Vo]at this;refine⟨⟨rfl,this.1⟩,?_⟩;rw[<-this.2];congr 1;omega
    .rintro⟨⟨rfl,rfl⟩,h⟩;rw[<-h];congr 3;omega
   have hd:(b++z::s).drop p.size=s.drop (p.size-(N+1)):=by conv=>lhs;rw[L,<-Jt,Jc C,J3 1,Y6]
   rw[hd];by_cases j:(b=(Ke r).take N/\z=x)
   .rw[Zo j];by_cases l:s.take (p.size-(N+1))=Ke (p.extract (N+1) p.size);.rw[Zo l,Zo (T.2 ⟨j,l⟩)]
    .rw[Zj l,Zj (λh=>l (T.1 h).2)]
   .rw[Zj j,Zj (λh=>j (T.1 h).1)])
  exact⟨j,l,by simp[Nd.Df],O⟩
theorem Ss(ht:t.can r.size)(hn:(t.next r).1≠ .no):t.inner=true/\(t.next r).2<=r.size/\0<(t.next r).2/\(t.next r).1.can (r.size-(t.next r).2)/\(t.Df=false->(t.next r).1.Df=true)/\∀s:List Nat,s.take (t.next r).2=(Ke r).take (t.next r).2->t.get s=(t.next r).1.get (s.drop (t.next r).2):=by
 cases t with
 |ext p t=>
  rw[vc]at ht;rw[Nd.next]at hn⊢;by_cases b:K7 p r;.rw[Zo b];refine⟨rfl,by omega,ht.1,ht.2.2.2.1,λ_=>ht.2.2.2.2,λs a=>?_⟩;unfold K7 at b;rw[b]at a;rw[wj,Zo a]
  .rw[Zj b]at hn;exact absurd rfl hn
 |br ks=>
  rw[xd]at ht;rw[Nd.next]at hn⊢;refine⟨rfl,ht.1,by omega,km ht.2.2.1 _,λh=>by simp[Nd.Df]at h,λs a=>?_⟩;have c:=ru ht.1;rw[c,Y7,Xr]at a;cases s with
  |nil=>simp at a
  |cons z s=>rw[Y7,Xr]at a;simp only[Vo,and_true]at a;rw[Ml,a];rfl
 |_=>exact absurd rfl hn
theorem OF{c:Nd}{K:Nat}(ht:t.can r.size)(hn:(t.next r).1≠ .no)(hK:(t.next r).2=K)(hnib:qd (Ke r))(h64:r.size<=64)(hc:c.can (r.size-K))(hcb:t.Df=false->c≠ .no):(t.lead (r.extract 0 K) c).can r.size/\t.lead (r.extract 0 K) c≠ .no/\(c≠ .no->t.Df=true->(t.lead (r.extract 0 K) c).Df=true)/\t.leads (r.extract 0 K) c/\∀s:List Nat,(t.lead (r.extract 0 K) c).get s=if s.take K=(Ke r).take K then c.get (s.drop K)else t.get s:=by
 have o:=Ss ht hn;rw[hK]at o;have w:=uo r K o.2.1;have j:=Qp r K;have v:qd (Ke (r.extract 0 K)):=by rw[j];exact λx F=>hnib x (Y4 F)
 cases t with
 |ext p t=>
  have b:=hcb rfl;have No:=Oi hc;have h1:=rz hc b v;rw[w,show r.size-K+K=r.size by omega]at h1;refine⟨h1.1,h1.2,λ_ h=>by simp[Nd.Df]at h,⟨b,LG hc b v (by omega)⟩,λs=>?_⟩;rw[Nd.lead,lG b No,w,j];by_cases h:s.take K=(Ke r).take K;.rw[Zo h,Zo h]
  .rw[Zj h,Zj h,wj];rw[Nd.next]at hn hK;by_cases e:K7 p r;.rw[Zo e]at hK;have hK:p.size=K:=hK;subst hK;unfold K7 at e;rw[e]at h;rw[Zj h]
   .rw[Zj e]at hn;exact absurd rfl hn
 |br ks=>
  have B:K=1:=hK.symm;subst B;rw[xd]at ht;have u:(Ke (r.extract 0 1))[0]! =(Ke r)[0]! :=by
   have h1:0<(Ke r).length:=by rw[ta];exact ht.1
   rw[j,Z9 _ 0 (by rw[Zx];omega),Z9 (Ke r) 0 h1,Vu]
  have A:=ru ht.1;have d:(Ke r)[0]! <16:=hnib _ (by rw[A];simp);have n:ks.getD ((Ke r)[0]!) .no≠ .no:=hn;rw[Nd.lead,u];have m:(Nd.br ks).leads (r.extract 0 1) c↔(0<(r.extract 0 1).size/\(Ke r)[0]! <16/\c.ok/\(Gu (ks.set ((Ke r)[0]!) c) 16=1->((ks.set ((Ke r)[0]!) c).getD (N6 (ks.set ((Ke r)[0]!) c) 16) .no).room (Kg [N6 (ks.set ((Ke r)[0]!) c) 16]))):=by rw[Nd.leads,u]
  rw[m];clear m;generalize (Ke r)[0]! =x at A d n⊢;have E:(Ke r).take 1=[x]:=by rw[A,Y7,Xr]
  rw[E];have f:=mx ht.2.1 d c;rw[xn n]at f;have a:=qz ht.2.2.1 x hc;have g:(ks.set x c).length=16:=by rw[Ve];exact ht.2.1
  have i:∀s:List Nat,(Nd.br (ks.set x c)).get s=if s.take 1=[x]then c.get (s.drop 1)else(Nd.br ks).get s:=λs=>by
   cases s with
   |nil=>rw[Zj (by simp),lA,lA]
   |cons z s=>
    rw[Ww ht.2.1 d,Y7,Xr,Y6,Yx];by_cases l:z=x;.rw[Zo l,Zo (by rw[l])]
    .rw[Zj l,Zj (by simpa using l)]
  generalize hks:ks.set x c=ks' at f a g i⊢;have D:=(Nd.oe c _ hc (by omega)).1;refine⟨?_,?_,?_,⟨by omega,d,D,?_⟩,λs=>by rw[kR g (MM a)];exact i s⟩
  .unfold Pi;split
   .rename_i h1
    have C:=qn ks' 16 (by omega);have e:=rz (q:=Kg [N6 ks' 16]) (km a (N6 ks' 16)) (ur (by omega)) (by rw[lr (by omega)];intro y k;simp at k;omega);rw[jB,show r.size-1+1=r.size by omega]at e;exact e.1
   .exact xd.2 ⟨ht.1,g,a,by omega⟩
  .unfold Pi;split
   .rename_i h1
    have C:=qn ks' 16 (by omega);exact(rz (q:=Kg [N6 ks' 16]) (km a (N6 ks' 16)) (ur (by omega)) (by rw[lr (by omega)];intro y k;simp at k;omega)).2
   .simp
  .intro b _;rw[xn b]at f;unfold Pi;rw[Zj (by omega)];rfl
  .intro h1;have C:=qn ks' 16 (by omega);exact LG (km a (N6 ks' 16)) (ur (by omega)) (by rw[lr (by omega)];intro y k;simp at k;omega) (by rw[jB];omega)
 |_=>exact absurd rfl hn
variable{l:List (Nd×Da)}{r':Da}
theorem WO(h:nc t r l e r')(u:Da)(hu0:0<u.size)(hu1:u.size<=100):∀(_:t.can r.size) (_:qd (Ke r)) (_:r.size<=64),Ua t (He l (e.putAt r' u)) r u/\Av l (e.putAt r' u)/\qd (Ke r')/\r'.size<=64/\(∀g,e≠ .stub g):=by
 induction h with
 | @stop t r hn=>intro j a c;exact⟨sR j hn a hu0 hu1,trivial,a,c,Oi j⟩
 | @go t r l e r' hn _ ih=>
  intro j a c;obtain⟨E,F,G,y,H,z⟩:=Ss j hn;obtain⟨g,o,A,B,C⟩:=ih (by rw[Cf];exact y) (by rw[Mi];exact λx w=>a x (Yu w)) (by rw[Cf];omega);have d:=g.can;rw[Cf]at d;obtain⟨k,m,n,p,q⟩:=OF j hn rfl a c d (λ_=>g.some);refine⟨⟨k,m,λv=>n g.some v,λs D=>?_⟩,⟨p,o⟩,A,B,C⟩;rw[He,q];by_cases i:s.take (t.next r).2=(Ke r).take (t.next r).2
  .rw[Zo i,g.get _ (by rw[Yi,Cf];omega),Mi,z s i];by_cases b:s=Ke r;.rw[Zo b,Zo (by rw[b])]
   .have f:¬s.drop (t.next r).2=(Ke r).drop (t.next r).2:=λh=>b (by rw[<-Xc (t.next r).2 s,i,h,Xc]);rw[Zj b,Zj f]
  .have f:¬s=Ke r:=λh=>i (by rw[h]);rw[Zj i,Zj f]
structure Uh(e X:Nd)(r:Da):Prop where
 can:X.can r.size
 some:e.Df=true->X≠ .no
 get:∀s,s.length=r.size->X.get s=if s=Ke r then Option.none else e.get s
theorem pP(h:nc t r l e r'):∀(v:Da) (_:e=.leaf r' v) (_:t.can r.size) (_:qd (Ke r)) (_:r.size<=64),Uh t (He l .no) r/\Av l .no:=by
 induction h with
 | @stop t r hn=>
  intro v j k a i;subst j;refine⟨⟨RD _,by simp[Nd.Df],λs _=>?_⟩,trivial⟩;rw[He,Sl,ni];by_cases h:s=Ke r;.rw[Zo h]
  .rw[Zj h,Zj (Ne.symm h)]
 | @go t r l e r' hn _ ih=>
  intro v j k a i;obtain⟨D,E,F,y,z,A⟩:=Ss k hn;obtain⟨g,o⟩:=ih v j (by rw[Cf];exact y) (by rw[Mi];exact λx w=>a x (Yu w)) (by rw[Cf];omega);have c:=g.can;rw[Cf]at c;obtain⟨m,n,B,p,q⟩:=OF k hn rfl a i c (λu=>g.some (z u));refine⟨⟨m,λ_=>n,λs C=>?_⟩,p,o⟩;rw[He,q];by_cases f:s.take (t.next r).2=(Ke r).take (t.next r).2
  .rw[Zo f,g.get _ (by rw[Yi,Cf];omega),Mi,A s f];by_cases b:s=Ke r;.rw[Zo b,Zo (by rw[b])]
   .have d:¬s.drop (t.next r).2=(Ke r).drop (t.next r).2:=λh=>b (by rw[<-Xc (t.next r).2 s,f,h,Xc]);rw[Zj b,Zj d]
  .have d:¬s=Ke r:=λh=>f (by rw[h]);rw[Zj f,Zj d]
theorem Wr:∀(n:Nat) (t:Nd) (r:Da),r.size<=n->t.can r.size->∃l e r',nc t r l e r'/\l.length<=r.size
 |n,t,r,hn,ht=>by
  by_cases h:(t.next r).1=.no;.exact⟨[],t,r,.stop h,Xa _⟩
  .obtain⟨k1,k2,k3,k4,_,_⟩:=Ss ht h;match n,hn with
   |0,hn=>omega
   |n+1,hn=>obtain⟨l,e,r',hw,hl⟩:=Wr n (t.next r).1 (r.extract (t.next r).2 r.size) (by rw[Cf];omega) (by rw[Cf];exact k4);rw[Cf]at hl;exact⟨_,e,r',.go h hw,by simp;omega⟩
theorem Bu(h:nc t r l e r'):∀(_:t.can r.size),t.get (Ke r)=e.get (Ke r')/\e.can r'.size/\(e.next r').1=.no/\(l=[]->e=t/\r'=r):=by
 induction h with
 | @stop t r hn=>exact λa=>⟨rfl,a,hn,λ_=>⟨rfl,rfl⟩⟩
 | @go t r l e r' hn _ ih=>intro a;obtain⟨_,i,_,f,_,g⟩:=Ss a hn;obtain⟨b,c,d,_⟩:=ih (by rw[Cf];exact f);refine⟨?_,c,d,λh=>by simp at h⟩;rw[g _ rfl,<-b,Mi]
theorem gH(he:e.can r.size)(hn:(e.next r).1=.no):e.get (Ke r)=none\/∃v,e=.leaf r v/\e.get (Ke r)=some v:=by
 cases e with
 |no=>exact .inl (Sl _)
 |stub g=>exact absurd rfl (Oi he g)
 |leaf p v=>
  rw[ni];by_cases h:Ke p=Ke r;.rw[Zo h,Mj h];exact .inr ⟨v,rfl,rfl⟩
  .exact .inl (Zj h)
 |ext p t=>
  refine .inl ?_;rw[wj];by_cases b:K7 p r;.rw[Nd.next,Zo b]at hn;rw[vc]at he;exact absurd hn (My he.2.2.2.2)
  .exact Zj b
 |br ks=>rw[xd]at he;refine .inl ?_;have c:=ru he.1;have a:ks.getD ((Ke r)[0]!) .no=.no:=hn;rw[c];generalize (Ke r)[0]! =x at a⊢;rw[Ml,a,Sl]
theorem uv:∀(n:Nat) (t:Nd) (k:Nat),k<=n->t.can k->t≠ .no->∃s:List Nat,s.length=k/\qd s/\t.get s≠none
 |n,.no,k,_,_,h=>absurd rfl h
 |n,.stub g,k,_,h,_=>absurd rfl (Oi h g)
 |n,.leaf p v,k,_,h,_=>by rw[Ld]at h;exact⟨Ke p,by rw[ta];exact h.1,h.2.1,by rw[ni,Zo rfl];simp⟩
 |n,.ext p t,k,hk,h,_=>by
  rw[vc]at h;match n,hk with
  |0,hk=>omega
  |n+1,hk=>obtain⟨s,h1,h2,h3⟩:=uv n t (k-p.size) (by omega) h.2.2.2.1 (My h.2.2.2.2);refine⟨Ke p++s,by rw[Zq,ta];omega,λx hx=>(Yc.1 hx).elim (h.2.2.1 x) (h2 x),?_⟩;rw[wj,Jd (ta p),Zo rfl,Jc (ta p)];exact h3
 |n,.br ks,k,hk,h,_=>by
  rw[xd]at h;match n,hk with
  |0,hk=>omega
  |n+1,hk=>
   have hm:=qn ks 16 (by omega);obtain⟨s,h1,h2,h3⟩:=uv n (ks.getD (N6 ks 16) .no) (k-1) (by omega) (km h.2.2.1 _) (ur (by omega));refine⟨N6 ks 16::s,by simp;omega,λx hx=>?_,by rw[Ml];exact h3⟩;rcases Yf.1 hx with rfl|hx;.exact hm
   .exact h2 x hx
theorem CG{ks:List Nd}:∀{k:Nat},2<=Gu ks k->∃x y,x<k/\y<k/\x≠y/\ks.getD x .no≠ .no/\ks.getD y .no≠ .no
 |0,h=>by simp[Gu]at h
 |k+1,h=>by
  rw[Ws]at h;by_cases hk:ks.getD k .no=.no;.rw[hk,jx]at h;obtain⟨x,y,h1,h2,h3⟩:=CG (ks:=ks) (k:=k) (by omega);exact⟨x,y,by omega,by omega,h3⟩
  .rw[xn hk]at h;have h0:0<k:=by
    rcases Nat.eq_zero_or_pos k with h0|h0;.subst h0;simp[Gu]at h
    .exact h0
   exact⟨N6 ks k,k,by have :=qn ks k h0;omega,by omega,by have :=qn ks k h0;omega,ur (by omega),hk⟩
theorem yA(h:(Nd.br ks).can n):∃x y s s',x≠y/\x<16/\y<16/\s.length=n-1/\s'.length=n-1/\qd s/\qd s'/\(Nd.br ks).get (x::s)≠none/\(Nd.br ks).get (y::s')≠none:=by rw[xd]at h;obtain⟨x,y,g,i,j,k,l⟩:=CG h.2.2.2;obtain⟨s,a,b,c⟩:=uv (n-1) _ (n-1) (Za _) (km h.2.2.1 x) k;obtain⟨s',d,e,f⟩:=uv (n-1) _ (n-1) (Za _) (km h.2.2.1 y) l;exact⟨x,y,s,s',j,g,i,a,d,b,e,by rw[Ml];exact c,by rw[Ml];exact f⟩
def Fl(t t':Nd)(n:Nat):Prop:=∀s:List Nat,s.length=n->qd s->t.get s=t'.get s
theorem Fl.symm{t t':Nd}{n:Nat}(h:Fl t t' n):Fl t' t n:=λs h1 h2=>(h s h1 h2).symm
theorem VC{s:List Nat}(hx:x<16)(hs:qd s):qd (x::s):=λy hy=>by
 rcases Yf.1 hy with rfl|hy;.exact hx
 .exact hs y hy
theorem QA(ha:qd a)(hb:qd b):qd (a++b):=λx hx=>(Yc.1 hx).elim (ha x) (hb x)
def yh(t:Nd)(n:Nat)(a:List Nat):Prop:=∃x y s s',x≠y/\qd (a++x::s)/\qd (a++y::s')/\(a++x::s).length=n/\(a++y::s').length=n/\t.get (a++x::s)≠none/\t.get (a++y::s')≠none
theorem Ov(h:(Nd.br ks).can n):yh (.br ks) n []:=by have l:=(xd.1 h).1;obtain⟨x,y,s,i,a,b,c,j,k,d,e,f,g⟩:=yA h;exact⟨x,y,s,i,a,VC b d,VC c e,by simp;omega,by simp;omega,f,g⟩
theorem xv(h:(Nd.ext p t).can n):yh (.ext p t) n (Ke p):=by
 rw[vc]at h;obtain⟨ks,rfl⟩:∃ks,t=.br ks:=by
  cases t with
  |br ks=>exact⟨ks,rfl⟩
  |_=>simp[Nd.Df]at h
 obtain⟨x,y,s,i,g,a,b,c,d,e,f⟩:=Ov h.2.2.2.1;simp only[Xi]at a b c d e f;refine⟨x,y,s,i,g,QA h.2.2.1 a,QA h.2.2.1 b,by rw[Zq,c,ta];omega,by rw[Zq,d,ta];omega,?_,?_⟩;.rw[wj,Jd (ta p),Zo rfl,Jc (ta p)];exact e
 .rw[wj,Jd (ta p),Zo rfl,Jc (ta p)];exact f
theorem yh.zi{t':Nd}(h:yh t n a)(hs:Fl t t' n):yh t' n a:=by obtain⟨x,y,s,j,f,b,c,d,e,g,i⟩:=h;exact⟨x,y,s,j,f,b,c,d,e,by rw[<-hs _ d b];exact g,by rw[<-hs _ e c];exact i⟩
theorem lz(h:yh (.leaf p v) n a):False:=by
 obtain⟨x,y,s,s',f,_,_,_,_,b,c⟩:=h;rw[ni]at b c;have e:Ke p=a++x::s:=by
  by_cases h:Ke p=a++x::s;.exact h
  .rw[Zj h]at b;exact absurd rfl b
 have d:Ke p=a++y::s':=by
  by_cases h:Ke p=a++y::s';.exact h
  .rw[Zj h]at c;exact absurd rfl c
 rw[e]at d;have :=Vg d;simp only[Vo]at this;exact f this.1
theorem KG(a:List Nat)(x:Nat)(s:List Nat)(k:Nat):(a++x::s).take (a.length+(k+1))=a++x::s.take k:=by rw[List.take_add,Jd rfl,Jc rfl,Y7]
theorem EA(h:yh (.ext p t) n a):p.size<=a.length:=by
 obtain⟨x,y,s,e,g,_,_,_,_,c,d⟩:=h;rcases Nat.lt_or_ge a.length p.size with hlt|hge
 .exfalso;rw[wj]at c d;have b:(a++x::s).take p.size=Ke p:=by
   by_cases h:(a++x::s).take p.size=Ke p;.exact h
   .rw[Zj h]at c;exact absurd rfl c
  have f:(a++y::e).take p.size=Ke p:=by
   by_cases h:(a++y::e).take p.size=Ke p;.exact h
   .rw[Zj h]at d;exact absurd rfl d
  rw[<-f]at b;have i:p.size=a.length+(p.size-a.length-1+1):=by omega
  rw[i,KG,KG]at b;have :=Vg b;simp only[Vo]at this;exact g this.1
 .exact hge
theorem yn(h:t.can n)(hs:Fl t .no n):t=.no:=by
 by_cases b:t=.no;.exact b
 .obtain⟨s,c,d,a⟩:=uv n t n (Za _) h b;rw[hs s c d,Sl]at a;exact absurd rfl a
theorem bL:∀(m n:Nat) (t t':Nd),n<=m->t.can n->t'.can n->Fl t t' n->t=t':=by
 intro m;induction m with
 |zero=>
  intro n t t' q h a b;cases t with
  |no=>exact(yn a b.symm).symm
  |stub g=>exact absurd rfl (Oi h g)
  |ext p t=>rw[vc]at h;omega
  |br ks=>rw[xd]at h;omega
  |leaf p v=>
   cases t' with
   |no=>exact yn h b
   |stub g=>exact absurd rfl (Oi a g)
   |ext p t=>rw[vc]at a;omega
   |br ks=>rw[xd]at a;omega
   |leaf p' v'=>
    rw[Ld]at h a;have :=b (Ke p) (by rw[ta];exact h.1) h.2.1;rw[ni,Zo rfl,ni]at this;by_cases c:Ke p'=Ke p;.rw[Zo c]at this;rw[Mj c,Zi this]
    .rw[Zj c]at this;simp at this
 |succ m ih=>
  intro n t t' q h a b;cases t with
  |no=>exact(yn a b.symm).symm
  |stub g=>exact absurd rfl (Oi h g)
  |leaf p v=>
   cases t' with
   |no=>exact yn h b
   |stub g=>exact absurd rfl (Oi a g)
   |ext p' t'=>exact(lz ((xv a).zi b.symm)).elim
   |br ks=>exact(lz ((Ov a).zi b.symm)).elim
   |leaf p' v'=>
    rw[Ld]at h a;have :=b (Ke p) (by rw[ta];exact h.1) h.2.1;rw[ni,Zo rfl,ni]at this;by_cases c:Ke p'=Ke p;.rw[Zo c]at this;rw[Mj c,Zi this]
    .rw[Zj c]at this;simp at this
  |ext p t=>
   cases t' with
   |no=>exact yn h b
   |stub g=>exact absurd rfl (Oi a g)
   |leaf p' v'=>exact(lz ((xv h).zi b)).elim
   |br ks=>have :p.size<=0:=EA ((Ov a).zi b.symm);rw[vc]at h;omega
   |ext p' t'=>
    have r:=EA ((xv a).zi b.symm);have u:=EA ((xv h).zi b);rw[ta]at r u;have o:p.size=p'.size:=by omega
    obtain⟨x,y,s,A,_,f,_,z,_,d,_⟩:=(xv h).zi b;rw[wj,<-o,Jd (ta p)]at d;have l:Ke p=Ke p':=by
     by_cases c:Ke p=Ke p';.exact c
     .rw[Zj c]at d;exact absurd rfl d
    have k:=Mj l;subst k;rw[vc]at h a;rw[ih (n-p.size) t t' (by omega) h.2.2.2.1 a.2.2.2.1 λs j e=>?_];have :=b (Ke p++s) (by rw[Zq,ta];omega) (QA h.2.2.1 e);rw[wj,wj,Jd (ta p),Zo rfl,Zo rfl,Jc (ta p)]at this;exact this
  |br ks=>
   cases t' with
   |no=>exact yn h b
   |stub g=>exact absurd rfl (Oi a g)
   |leaf p' v'=>exact(lz ((Ov h).zi b)).elim
   |ext p' t'=>have :p'.size<=0:=EA ((Ov h).zi b);rw[vc]at a;omega
   |br ks'=>
    rw[xd]at h a;congr 1;apply List.ext_getElem (by omega);intro i j e;have :=ih (n-1) (ks.getD i .no) (ks'.getD i .no) (by omega) (km h.2.2.1 i) (km a.2.2.1 i) λs w f=>by have :=b (i::s) (by simp;omega) (VC (by omega) f);rw[Ml,Ml]at this;exact this
    rw[Yb,Yb,Zk j,Zk e]at this;exact this
end Go.Proofs.YtpfbdlnibdfcoaaGreatDoor
