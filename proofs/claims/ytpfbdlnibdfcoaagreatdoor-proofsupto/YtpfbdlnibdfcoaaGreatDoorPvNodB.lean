import Derived.Test.YtpfbdlnibdfcoaaGreatDoorPvNodA
namespace Go.Proofs.YtpfbdlnibdfcoaaGreatDoor
open Go.RowKit Tryz
open Value renaming int->Ia,string->La,slice->Ma,bool->Oa,pointer->Qa,agg->Sa,tuple->Wa,iface->ca,nilIface->da
open IntKind renaming i64->ka
open Obj renaming cells->ma
open Ending renaming returned->na
open Tryz renaming prog->oa
set_option maxRecDepth 100000
set_option maxHeartbeats 0
variable{w:Fa}{b:Nat}{cs:List Value}
theorem De{t:TypeId}{fz:Nat×Nat}(h:w.heap[b]? =some (ma cs.toArray t fz))(o:Nat)(u:Value):(w.setCell ⟨b,o,none⟩ u).heap[b]? =some (ma (cs.set o u).toArray t fz):=by unfold World.setCell;simp only[Array.getElem?_modify,h];simp
theorem lI{b:Nat}{t:TypeId}{fz:Nat×Nat}:∀(vs pre olds post:List Value) (w:Fa),olds.length=vs.length->w.heap[b]? =some (ma (pre++olds++post).toArray t fz)->(w.setCells b pre.length vs).heap[b]? =some (ma (pre++vs++post).toArray t fz)
 | [],pre,olds,post,w,h,hb=>by obtain rfl:olds=[]:=Ye (by simpa using h);exact hb
 |v::vs,pre,[],post,w,h,hb=>by simp at h
 |v::vs,pre,x::olds,post,w,h,hb=>by
  have h1:=De hb pre.length v;have e1:(pre++x::olds++post).set pre.length v=(pre++[v])++olds++post:=by simp
  rw[e1]at h1;have h2:=lI vs (pre++[v]) olds post (w.setCell ⟨b,pre.length,none⟩ v) (by simpa using h) h1;rw[World.setCells];have e2:(pre++[v]).length=pre.length+1:=by simp
  rw[e2]at h2;simpa using h2
variable{t:Nd}{B c:Nat}{S:Bb}
theorem Fr.fresh{Y:Fa}(hf:ua B S w)(hb:Ba w Y)(hc:w.heap.size<=c){h:Da}{r:List Value}(hh:Bd t h)(hr:Mg S t r)(ht:t.ok)(hY:Y.heap[c]? =some (ma (La h::r).toArray (Ev t) (0,0))):Fr B S (S.put c t) w Y:=by
 have d:∀b u,S b=some u->S.put c t b=some u:=λb u hb=>by have :=hf.lt hb;rw[Bb.mb _ _ _ (by omega)];exact hb
 have f:=hf.le;refine⟨hb.os,hb.tape,hb.output,hb.size,λk a _=>hb.block k a,⟨λk u a=>?_,λk u a=>?_,λk u a=>?_,Z2 f hb.size⟩,d,λk a h=>by rw[Bb.mb _ _ _ (by omega)];exact h,λk u a j _=>hb.cell (p:=⟨k,j,none⟩) (hf.lt a)⟩
 .by_cases e:k=c;.subst e;rw[Bb.Ob]at a;obtain rfl:=Zi a;exact⟨h,r,hh,hr.sub d,hY⟩
  .rw[Bb.mb _ _ _ e]at a;obtain⟨g,n,i,l,m⟩:=hf.node k u a;exact⟨g,n,i,l.sub d,(hb.block k (hf.lt a)).trans m⟩
 .by_cases e:k=c;.subst e;rw[Bb.Ob]at a;obtain rfl:=Zi a;exact ht
  .rw[Bb.mb _ _ _ e]at a;exact hf.ok k u a
 .by_cases e:k=c;.omega
  .rw[Bb.mb _ _ _ e]at a;exact hf.low k u a
theorem Bd.empty(h:∀x,t≠ .stub x):Bd t ⟨#[]⟩:=.inr ⟨rfl,h⟩
variable{v:Value}
theorem od.shape(h:od S v t):v=da\/∃T a,v=ca T (Qa (some a)):=by
 rcases h with⟨_,rfl⟩|⟨_,b,rfl,_⟩;.exact .inl rfl
 .exact .inr ⟨_,_,rfl⟩
theorem od.one(h:od S v t):v.oneCell'=true:=by rcases h.shape with rfl|⟨T,a,rfl⟩<;>rfl
def Kids(S:Bb)(r:List Value)(ks:List Nd):Prop:=r.length=16/\ks.length=16/\∀i (h1:i<r.length) (h2:i<ks.length),od S r[i] ks[i]
theorem Kids.set{S:Bb}{r:List Value}{ks:List Nd}(h:Kids S r ks)(n:Nat){v:Value}{t:Nd}(hv:od S v t):Kids S (r.set n v) (ks.set n t):=by
 refine⟨by simp[h.1],by simp[h.2.1],λi a b=>?_⟩;rw[List.getElem_set,List.getElem_set];split;.exact hv
 .exact h.2.2 i (by simpa using a) (by simpa using b)
theorem Kids.one{S:Bb}{r:List Value}{ks:List Nd}(h:Kids S r ks):∀u∈r,u.oneCell'=true:=λu hu=>by obtain⟨i,hi,rfl⟩:=Xv hu;exact(h.2.2 i hi (by have :=h.1;have :=h.2.1;omega)).one
def lk:List Value:=[La ⟨#[]⟩,da,da,da,da,da,da,da,da,da,da,da,da,da,da,da,da]
theorem Lh(r:List Value)(h:r.length=16):∃a0 a1 a2 a3 a4 a5 a6 a7 a8 a9 a10 a11 a12 a13 a14 a15,r=[a0,a1,a2,a3,a4,a5,a6,a7,a8,a9,a10,a11,a12,a13,a14,a15]:=by
 match r,h with
 | [a0,a1,a2,a3,a4,a5,a6,a7,a8,a9,a10,a11,a12,a13,a14,a15],_=>exact⟨_,_,_,_,_,_,_,_,_,_,_,_,_,_,_,_,rfl⟩
variable{w1:Fa}{n:Nat}
theorem JF{r:List Value}{t:TypeId}{h:Value}(hw:w1.heap[c]? =some (ma (h::r).toArray t (0,0)))(hn:n<r.length)(_:True):w1.cell? ⟨c,1+n,none⟩=some r[n]:=by simp[World.cell?,hw,J3 1 n,hn]
theorem qD{r:List Value}{t:TypeId}{h:Value}(hw:w1.heap[c]? =some (ma (h::r).toArray t (0,0)))(_:True):w1.frozen? ⟨c,1+n,none⟩=false:=by simp[World.frozen?,hw]
variable{ks:List Nd}
theorem AU{r:List Value}(hf:ua B S w)(hv:od S v t)(hk:Kids S r ks)(hok:(Nd.br (ks.set n t)).ok)(hw:w1.heap[w.heap.size]? =some (ma (La ⟨#[]⟩::r).toArray 386 (0,0)))(hb:Ba w w1):Fr B S (S.put w.heap.size (.br (ks.set n t))) w (w1.setCell ⟨w.heap.size,1+n,none⟩ v):=by have b:=De hw (1+n) v;rw[J3 1 n,Yw]at b;have a:=hk.set n hv;refine Fr.fresh (r:=r.set n v) hf (hb.setCell (p:=⟨w.heap.size,1+n,none⟩) (Za _) _) (Za _) (Bd.empty (by simp)) ⟨a.1,a.2.2⟩ hok ?_;rw[J3 1 n];exact b
theorem oC{r:List Value}(hf:ua B S w)(rg:w.rangeAt b 1 r)(hk:Kids S r ks)(hn:n<16)(hv:od S v t)(hok:(Nd.br (ks.set n t)).ok):Calls oa 280 #[Qa (some ⟨b,0,none⟩),Ia .u8 (n:Int),v] w λe w'=>∃c,e=na (Qa (some ⟨c,0,none⟩))/\w.heap.size<=c/\Fr B S (S.put c (.br (ks.set n t))) w w':=by
 obtain⟨k,l,m,o,p,q,s,x,y,z,d,f,g,h,i,j,I⟩:=Lh r hk.1;have L:(oa.info? 384).map (·.size)=some [k,l,m,o,p,q,s,x,y,z,d,f,g,h,i,j].length:=by kernel_rfl
 rw[I]at rg;have D:(#[La ⟨#[]⟩,k,l,m,o,p,q,s,x,y,z,d,f,g,h,i,j]:Array Value)=(Value.string ⟨#[]⟩::r).toArray:=by rw[I]
 have E:(#[La ⟨#[]⟩,k,l,m,o,p,q,s,x,y,z,d,f,g,h,i,j]:Array Value).all (·.oneCell')=true:=by
  rw[D];refine Yp λu J=>?_;rcases Yf.1 J with rfl|J;.rfl
  .exact hk.one u J
 have F:(oa.info? 386).map (·.size)=some (#[La ⟨#[]⟩,k,l,m,o,p,q,s,x,y,z,d,f,g,h,i,j]:Array Value).size:=by kernel_rfl
 have R:(n:Int)<16:=by omega
 have G:(w.alloc (ma lk.toArray 386)).there w.heap.size 0 (#[La ⟨#[]⟩,k,l,m,o,p,q,s,x,y,z,d,f,g,h,i,j]:Array Value).size:=Le _ _ _ _ rfl;have H:Hid (((w.alloc (ma lk.toArray 386)).setCells w.heap.size 0 (#[La ⟨#[]⟩,k,l,m,o,p,q,s,x,y,z,d,f,g,h,i,j]:Array Value).toList).heap[w.heap.size]? =some (ma (La ⟨#[]⟩::r).toArray 386 (0,0))/\Ba w ((w.alloc (ma lk.toArray 386)).setCells w.heap.size 0 (#[La ⟨#[]⟩,k,l,m,o,p,q,s,x,y,z,d,f,g,h,i,j]:Array Value).toList)):=by refine⟨?_,Cg ((Zb _ _).alloc (Za _) _) (Za _) _ _⟩;rw[D];have :=lI (b:=w.heap.size) (t:=386) (fz:=(0,0)) (La ⟨#[]⟩::r) [] lk [] (w.alloc (ma lk.toArray 386)) (by simp[hk.1,lk]) (by show(w.heap.push _)[w.heap.size]? =some _;rw[Z6];rfl);simpa using this
 simp only[lk]at G H;have Q:=Hq hv;have K:=Hq hk;have N:=Hq hf;have P:=Hq hok;have M:=hv.shape;have O:=Hq hn;clear D hv hk hf hok I hn;rcases M with rfl|⟨T,a,rfl⟩;all_goals go_enter func280,ntmps280
 all_goals go_wp2_with (first| (refine Zr rfl 384 _ rfl b 1 rfl _ _ rg underlying384 rfl L ?_)| (refine Zs rfl 386 _ _ rfl w.heap.size 0 #[La ⟨#[]⟩,k,l,m,o,p,q,s,x,y,z,d,f,g,h,i,j] rfl rfl G F E ?_;generalize hX:World.setCells _ w.heap.size 0 _=w1;have C:Hid (w1.heap[w.heap.size]? =some (ma (La ⟨#[]⟩::r).toArray 386 (0,0))/\Ba w w1):=hX▸H.o;have U:w1.cell? ⟨w.heap.size,1+n,none⟩=some (r[n]'(by have :=K.1;have :=O.o;omega)):=JF C.1 _ trivial;have V:w1.frozen? ⟨w.heap.size,1+n,none⟩=false:=qD C.1 trivial;clear hX H G E F))
 all_goals go_ret;refine⟨w.heap.size,rfl,Za _,?_⟩;exact AU N Q K P C.1 C.2
theorem Below.drewN{B:Nat}{a w:Fa}(h:Below B a w)(n:Nat):Below B a (w.drewN n):=⟨h.os,h.tape,h.output,h.size,h.block⟩
def Gf:List Nat->List Nat->Nat
 |x::a,y::b=>if x=y then Gf a b+1 else 0
 |_,_=>0
theorem xq:∀(n:Nat) (a b:List Nat),a.take n=b.take n->n<=a.length->n<=b.length->(n=a.length\/n=b.length\/a[n]? ≠b[n]?)->Gf a b=n
 |0,[],b,_,_,_,_=>by cases b<;>rfl
 |0,x::a,[],_,_,_,_=>rfl
 |0,x::a,y::b,_,_,_,h=>by
  rw[Gf,Zj];rcases h with h|h|h;.simp at h
  .simp at h
  .simpa using h
 |n+1,[],b,_,h,_,_=>by simp at h
 |n+1,x::a,[],_,_,h,_=>by simp at h
 |n+1,x::a,y::b,h,h1,h2,h3=>by
  simp only[Y7,Vo]at h;rw[Gf,Zo h.1,xq n a b h.2 (by simpa using h1) (by simpa using h2)];rcases h3 with h|h|h;.exact .inl (by simpa using h)
  .exact .inr (.inl (by simpa using h))
  .exact .inr (.inr (by simpa using h))
theorem Dt:∀a b:List Nat,Gf a b<=a.length/\Gf a b<=b.length
 | [],b=>by cases b<;>simp[Gf]
 |x::a,[]=>by simp[Gf]
 |x::a,y::b=>by have :=Dt a b;rw[Gf];split<;>simp <;>omega
theorem kv:∀a b:List Nat,a.take (Gf a b)=b.take (Gf a b)
 | [],b=>by cases b<;>simp[Gf]
 |x::a,[]=>by simp[Gf]
 |x::a,y::b=>by
  rw[Gf];split
  .rename_i h
   rw[Y7,Y7,kv a b,h]
  .simp
theorem uz:∀a b:List Nat,Gf a b<a.length->Gf a b<b.length->a[Gf a b]? ≠b[Gf a b]?
 | [],b,h,_=>by simp at h
 |x::a,[],_,h=>by simp at h
 |x::a,y::b,h1,h2=>by
  rw[Gf]at *;split at h1<;>rename_i hxy;.rw[Zo hxy]at h2⊢;simpa using uz a b (by simpa using h1) (by simpa using h2)
  .rw[Zj hxy];simpa using hxy
theorem OI(a b:Da)(w:Fa)(ha:a.size<=4194304):Calls oa 275 #[La a,La b] w λe w'=>e=na (Ia ka (Gf (Ke a) (Ke b):Nat))/\Ba w w':=by
 have h:=ta a;have j:=ta b;have l:=Hq (A3 h j ha);obtain⟨N,B⟩:=nm (Gf (Ke a) (Ke b));have z:=Hq B;rw[B];clear h j ha B;go_enter func275,ntmps275;go_wp2;go_loopg [5] a.size (λg i wr=>∃n:Nat,n<=a.size/\g=a.size-n/\i=Ia ka (n:Int)/\n<=b.size/\(Ke a).take n=(Ke b).take n/\Ba w wr)
 case atStart=>exact⟨0,by omega,rfl,rfl,by omega,rfl,Zb _ _⟩
 case round=>
  obtain⟨n,p,rfl,rfl,q,k,C⟩:=hrel;have x:=Hq C;clear C;by_cases r:n<a.size
  .have F:(n:Int)<(a.size:Int):=by omega
   by_cases v:n<b.size
   .have G:(n:Int)<(b.size:Int):=by omega
    obtain⟨c,s⟩:=nm ((Ke a)[n]!);have No:(a[n]'r).toNat=c:=by rw[<-s];exact yg a n r
    obtain⟨d,t⟩:=nm ((Ke b)[n]!);have H:(b[n]'v).toNat=d:=by rw[<-t];exact yg b n v
    have h:n<(Ke a).length:=by have :=l.1;omega
    have j:n<(Ke b).length:=by have :=l.2.1;omega
    rw[Z9 (Ke a) _ h]at s;rw[Z9 (Ke b) _ j]at t;by_cases y:c=d
    .have D:(Ke a).take (n+1)=(Ke b).take (n+1):=by rw[Z1 h,Z1 j,k,s,t,y]
     have u:=Hq (A3 D r v);subst y;clear D k s t h j p q;go_upto_region 2 with fail
     go_quiet (fail)
     go_wp2;go_roundg (a.size-(n+1))
     case measure=>have :=u.o;omega
     case rel=>exact⟨n+1,u.2.1,rfl,by rw[Im n (by have :=l.o;have :=u.o;omega)],u.2.2,u.1,Below.drewN x _⟩
    .have o:=xq n _ _ k (by have :=l.o;omega) (by have :=l.o;omega) (.inr (.inr (by rw[Zk h,Zk j,s,t];simpa using y)));have f:n=N:=by rw[<-o,z.o]
     have I:((c:Int)==(d:Int))=false:=by simp;omega
     have m:=Hq f;clear o k s t h j p q y f;go_upto_region 2 with fail
     go_quiet (fail)
     go_wp2;go_ret;exact⟨by rw[m.o];rfl,Below.drewN x _⟩
   .have G:(b.size:Int)<=(n:Int):=by omega
    have o:=xq n _ _ k (by have :=l.o;omega) (by have :=l.o;omega) (.inr (.inl (by have :=l.o;omega)));have f:n=N:=by rw[<-o,z.o]
    have m:=Hq f;have E:=Z5 r;have J:=Zt v;clear o k p q f v;go_upto_region 2 with fail
    go_quiet (fail)
    go_wp2;go_ret;exact⟨by rw[m.o];rfl,Below.drewN x _⟩
  .have F:(a.size:Int)<=(n:Int):=by omega
   have o:=xq n _ _ k (by have :=l.o;omega) (by have :=l.o;omega) (.inl (by have :=l.o;omega));have f:n=N:=by rw[<-o,z.o]
   have m:=Hq f;have E:=Zt r;clear o k p q f r;go_upto_region 2 with fail
   go_quiet (fail)
   go_wp2;go_ret;exact⟨by rw[m.o];rfl,Below.drewN x _⟩
theorem CE(s:Da)(i j:Nat):Ke (s.extract i j)=((Ke s).drop i).take (j-i):=by unfold Ke;rw[<-J6,<-J7];congr 1;simp only[Jh,Js,V6]
theorem Qp(s:Da)(n:Nat):Ke (s.extract 0 n)=(Ke s).take n:=by rw[CE];simp
theorem Mi(s:Da)(n:Nat):Ke (s.extract n s.size)=(Ke s).drop n:=by rw[CE,Zz];rw[Yi,ta];omega
theorem St{a b:Da}(h:¬a=b):(a.toList==b.toList)=false:=by rw[Xe];intro e;apply h;rw[Vn,Vn]at e;exact ByteArray.ext (Array.toList_inj.1 e)
def K7(p s:Da):Prop:=(Ke s).take p.size=Ke p
variable{p s:Da}
theorem np(h:K7 p s):p.size<=s.size:=by have :=Y5 List.length h;rw[Zx,ta,ta]at this;omega
theorem Lx(h:K7 p s):s.extract 0 p.size=p:=Mj (by rw[Qp];exact h)
theorem QC(h:s.extract 0 p.size=p):K7 p s:=by unfold K7;rw[<-Qp,h]
instance (p s:Da):Decidable (K7 p s):=inferInstanceAs (Decidable ((Ke s).take p.size=Ke p))
theorem LF(s p:Da)(w:Fa):Calls oa 199 #[La s,La p] w λe w'=>e=na (Oa (decide (K7 p s)))/\w'=w:=by
 by_cases h:K7 p s
 .have a:=np h;have i:=Lx h;have d:(p.size:Int)<=(s.size:Int):=by omega
  have b:=Z5 a;rw[Z5 h];clear h;go_enter func199,ntmps199;go_wp2;go_ret;exact⟨rfl,rfl⟩
 .rw[Zt h];by_cases a:p.size<=s.size
  .have d:(p.size:Int)<=(s.size:Int):=by omega
   have b:=Z5 a;obtain⟨z,f⟩:=nm (s.extract 0 p.size);have c:¬z=p:=λe=>h (QC (f.trans e));have g:=St c;clear h;go_enter func199,ntmps199;go_wp2;go_ret;exact⟨rfl,rfl⟩
  .have d:(s.size:Int)<(p.size:Int):=by omega
   have b:=Zt a;clear h;go_enter func199,ntmps199;go_wp2;go_ret;exact⟨rfl,rfl⟩
def Nd.next:Nd->Da->Nd×Nat
 | .ext p t,r=>if K7 p r then(t,p.size)else(.no,0)
 | .br ks,r=>(ks.getD ((Ke r)[0]!) .no,1)
 |_,_=>(.no,0)
def Ef(S:Bb)(w:Fa)(F:FuncId)(b:Nat)(t:Nd)(r:Da):Prop:=∃v,od S v (t.next r).1/\∀w1:Fa,w1.heap=w.heap->Calls oa F #[Qa (some ⟨b,0,none⟩),La r] w1 λe w'=>e=na (Wa #[v,Ia ka ((t.next r).2:Nat)])/\∃m,w'=w1.drewN m
theorem Mw(h:w1.heap=w.heap)(a:Addr):w1.cell? a=w.cell? a:=Zc (by rw[h])
theorem KU(r:Da)(hf:ua B S w)(hb:S b=some (.ext p t)):Ef S w 313 b (.ext p t) r:=by
 obtain⟨g,o,_,k,_,i,_,_⟩:=(hf.node b _ hb).cell;obtain⟨v,k,f⟩:∃v,o=[La p,v]/\od S v t:=k;subst k;have m:=i 0 _ rfl;have n:=i 1 _ rfl;have j:=f.shape;unfold Ef;rw[Nd.next];by_cases h:K7 p r
 .rw[Zo h];refine⟨v,f,λl d=>?_⟩;have c:=Hq (LF r p l);rw[Z5 h]at c;rw[<-Mw d]at m n;clear h hf hb i f d;rcases j with rfl|⟨T,a,rfl⟩;all_goals
   go_enter func313,ntmps313;go_wp2_with fail
   refine c.mono ?_;rintro e q ⟨rfl,rfl⟩;go_upto_region 2 with fail
   go_quiet (fail)
   go_wp2;go_ret2;exact⟨rfl,_,rfl⟩
 .rw[Zj h];refine⟨da,.inl ⟨rfl,rfl⟩,λl d=>?_⟩;have c:=Hq (LF r p l);rw[Zt h]at c;rw[<-Mw d]at m n;clear h j hf hb i f d;go_enter func313,ntmps313;go_wp2_with fail
  refine c.mono ?_;rintro e q ⟨rfl,rfl⟩;go_wp2;go_ret2;exact⟨rfl,0,rfl⟩
theorem SK(r:Da)(hf:ua B S w)(hb:S b=some (.br ks))(hr0:0<r.size)(hn:(Ke r)[0]! <16):Ef S w 303 b (.br ks) r:=by
 obtain⟨g,d,_,u,_,t,_,_⟩:=(hf.node b _ hb).cell;obtain⟨m,k⟩:d.length=16/\∀i (h1:i<d.length) (h2:i<ks.length),od S d[i] ks[i]:=u;have e:=hf.ok b _ hb;rw[Nd.ok]at e;obtain⟨n,c⟩:=nm ((Ke r)[0]!);rw[c]at hn;have x:(r[0]'hr0).toNat=n:=by rw[<-c];exact yg r 0 hr0
 have j:n<d.length:=by omega
 have h:n<ks.length:=by have :=e.1;omega
 have o:w.cell? ⟨b,1+n,none⟩=some d[n]:=t n _ (by simp[j]);have f:=k n j h;obtain⟨v,l⟩:=nm (d[n]);rw[l]at o f;have p:(Nd.br ks).next r=(ks[n],1):=by rw[Nd.next,c,Yb,Zk h];rfl
 unfold Ef;rw[p];have q:=f.shape;refine⟨v,f,λC s=>?_⟩;rw[<-Mw s]at o;have z:(n:Int)<16:=by omega
 have y:(0:Int)<(r.size:Int):=by omega
 clear hf hb t f k e c p l m hn s;rcases q with rfl|⟨T,a,rfl⟩;all_goals
  go_enter func303,ntmps303;go_upto_region 1 with fail
  go_quiet (fail)
  go_wp2;go_ret2;exact⟨rfl,_,rfl⟩
def xe(S:Bb):List (Nd×Da)->List Value->Prop
 | [],cs=>cs=[]
 |x::l,cs=>∃v cs',cs=v::La x.2::cs'/\od S v x.1/\xe S l cs'
theorem xe.snoc{S:Bb}{t:Nd}{p:Da}{v:Value}(hv:od S v t):∀{l:List (Nd×Da)} {cs:List Value},xe S l cs->xe S (l++[(t,p)]) (cs++[v,La p])
 | [],cs,h=>by obtain rfl:cs=[]:=h;exact⟨v,[],rfl,hv,rfl⟩
 |x::l,cs,h=>by obtain⟨u,cs',rfl,h1,h2⟩:=h;exact⟨u,cs'++[v,La p],rfl,h1,h2.snoc hv⟩
theorem xe.length{S:Bb}:∀{l:List (Nd×Da)} {cs:List Value},xe S l cs->cs.length=l.length*2
 | [],cs,h=>by obtain rfl:cs=[]:=h;rfl
 |x::l,cs,h=>by obtain⟨u,cs',rfl,h1,h2⟩:=h;have :=h2.length;simp only[Zu];omega
structure Way(S:Bb)(C:Nat)(w:Fa)(bw:Nat)(l:List (Nd×Da))(t:Nd)(r:Da)(thr v:Value)(cs:List Value):Prop where
 ub:w.heap[bw]? =some (ma #[thr,v,La r] 226 (0,0))
 lo:C<=bw
 node:od S v t
 own:Db w C 2 thr l.length cs
 apart:thr.ownBlock≠some bw
 turns:xe S l cs
variable{r:Da}{C bw:Nat}{l:List (Nd×Da)}{thr:Value}
theorem Way.lt(h:Way S C w bw l t r thr v cs):bw<w.heap.size:=(Zg.1 h.ub).1
theorem Way.cell{S:Bb}{C:Nat}{w:Fa}{bw:Nat}{l:List (Nd×Da)}{t:Nd}{r:Da}{thr v:Value}{cs:List Value}(h:Way S C w bw l t r thr v cs):w.cell? ⟨bw,0,none⟩=some thr/\w.cell? ⟨bw,1,none⟩=some v/\w.cell? ⟨bw,2,none⟩=some (La r)/\w.frozen? ⟨bw,0,none⟩=false/\w.frozen? ⟨bw,1,none⟩=false/\w.frozen? ⟨bw,2,none⟩=false:=by have h:=h.ub;refine⟨?_,?_,?_,?_,?_,?_⟩<;>simp[World.cell?,World.frozen?,h]
theorem Way.heap{S:Bb}{C:Nat}{w w':Fa}{bw:Nat}{l:List (Nd×Da)}{t:Nd}{r:Da}{thr v:Value}{cs:List Value}(h:Way S C w bw l t r thr v cs)(hh:w'.heap=w.heap):Way S C w' bw l t r thr v cs:=⟨by rw[hh];exact h.ub,h.lo,h.node,h.own.Cb (by rw[hh];exact Za _) λk _ _=>by rw[hh],h.apart,h.turns⟩
def Py:Nd->FuncId
 | .ext _ _=>313
 | .br _=>303
 |_=>0
def Nd.inner:Nd->Bool
 | .ext _ _=>true
 | .br _=>true
 |_=>false
theorem jI(t:Nd)(ht:t.inner=true)(a:Addr)(w:Fa):(Go.method 535 (K9 t) (Qa (some a)) "twigs/tree.next").run oa w=.ok (Py t,Qa (some a)) w:=by
 cases t with
 |ext _ _=>kernel_rfl
 |br _=>kernel_rfl
 |_=>simp[Nd.inner]at ht
theorem BI(t:Nd)(ht:t.inner=true)(args:Array Value)(w:Fa):(callFunc (Py t) args).run oa w=.ok (.enter (Py t) args) w:=by
 cases t with
 |ext _ _=>kernel_rfl
 |br _=>kernel_rfl
 |_=>simp[Nd.inner]at ht
theorem pH(t:Nd)(ht:t.inner=true)(a:Addr)(w:Fa):(nilAhead 535 (K9 t) (Qa (some a)) "twigs/tree.next").run oa w=.ok (some false) w:=by
 cases t with
 |ext _ _=>kernel_rfl
 |br _=>kernel_rfl
 |_=>simp[Nd.inner]at ht
theorem vF(t:Nd)(ht:t.inner=true)(a:Addr)(w:Fa):(Instr.typeAssert (ca (K9 t) (Qa (some a))) 96 323 true).run oa w=.ok (Wa #[ca (K9 t) (Qa (some a)),Oa true]) w:=by
 cases t with
 |ext _ _=>kernel_rfl
 |br _=>kernel_rfl
 |_=>simp[Nd.inner]at ht
theorem bN(t:Nd)(ht:t.inner=false)(hn:t≠ .no)(a:Addr)(w:Fa):(Instr.typeAssert (ca (K9 t) (Qa (some a))) 96 323 true).run oa w=.ok (Wa #[da,Oa false]) w:=by
 cases t with
 |no=>exact absurd rfl hn
 |leaf _ _=>exact Xt underlying323 (by kernel_rfl) (by kernel_rfl) _ _ w
 |stub _=>exact Xt underlying323 (by kernel_rfl) (by kernel_rfl) _ _ w
 |_=>simp[Nd.inner]at ht
theorem oR(w:Fa):(Instr.typeAssert da 96 323 true).run oa w=.ok (Wa #[da,Oa false]) w:=by kernel_rfl
theorem LL(hW:Way S C w bw l t r thr v cs)(ht:t.inner=false):Calls oa 203 #[Qa (some ⟨bw,0,none⟩)] w λe w'=>e=na (Oa false)/\w'=w:=by
 obtain⟨b,d,f,g,h,i⟩:=hW.cell;rcases hW.node with⟨rfl,rfl⟩|⟨hne,c,rfl,hc⟩;.have a:=oR;clear hW;go_enter func203,ntmps203;go_wp2;go_ret;exact⟨rfl,rfl⟩
 .have a:=bN t ht hne;clear hW;go_enter func203,ntmps203;go_wp2;go_ret;exact⟨rfl,rfl⟩
theorem NP(hW:Way S C w bw l t r thr v cs)(ht:t.inner=true)(hv:v=ca (K9 t) (Qa (some ⟨c,0,none⟩)))(hN:Ef S w (Py t) c t r)(hno:(t.next r).1=.no):Calls oa 203 #[Qa (some ⟨bw,0,none⟩)] w λe w'=>e=na (Oa false)/\∃m,w'=w.drewN m:=by
 obtain⟨n,o,p,q,s,u⟩:=hW.cell;subst hv;obtain⟨g,a,b⟩:=hN;obtain rfl:g=da:=by
  rcases a with⟨_,h⟩|⟨h,_⟩;.exact h
  .exact absurd hno h
 have k:=vF t ht;have x:=jI t ht;have i:=BI t ht;have j:=pH t ht;obtain⟨K,d⟩:=nm ((t.next r).2);rw[d]at b;have f:=Hq b;clear hW a hno d b;go_enter func203,ntmps203;go_upto_region 3 with fail
 go_quiet (refine Calls.quiet_of (f _ rfl))
 go_wp2;go_ret;exact⟨rfl,_,rfl⟩
variable{w2 w3:Fa}{r':Da}
theorem zM{t':Nd}{by_:Da}{nv v2:Value}(hW:Way S C w bw l t r thr v cs)(h1:Ba w w1)(hn:od S nv t')(hO:Db w2 C 2 v2 (l.length+1) (cs++[v,La by_]))(hg:w1.grownBy w2 thr.ownBlock)(hf:∀k,v2.ownBlock=some k->thr.ownBlock=some k\/w1.heap.size<=k)(h3:w3.heap=(((w2.setCell ⟨bw,0,none⟩ v2).setCell ⟨bw,1,none⟩ nv).setCell ⟨bw,2,none⟩ (La r')).heap\/w3.heap=(((w2.setCell ⟨bw,0,none⟩ v2).setCell ⟨bw,2,none⟩ (La r')).setCell ⟨bw,1,none⟩ nv).heap):Way S C w3 bw (l++[(t,by_)]) t' r' v2 nv (cs++[v,La by_]):=by
 have d:=hW.lt;have f:=Zm d h1.size;have c:=(hg.block bw f (λe=>hW.apart e.symm)).trans ((h1.block bw d).trans hW.ub);have h:=De (De (De c 0 v2) 1 nv) 2 (La r');have i:=De (De (De c 0 v2) 2 (La r')) 1 nv;have b:v2.ownBlock≠some bw:=λe=>by
  rcases hf bw e with e|e;.exact hW.apart e
  .omega
 refine⟨by rcases h3 with h3|h3<;>rw[h3]<;>assumption,hW.lo,hn,?_,b,hW.turns.snoc hW.node⟩;rw[Zq];refine hO.Cb (by rcases h3 with h3|h3<;>rw[h3]<;>simp) λk _ g=>?_;have a:k≠bw:=λe=>b (by rw[<-e];exact g);rcases h3 with h3|h3<;>rw[h3]<;>exact(Zd _ _ _ _ a).trans ((Zd _ _ _ _ a).trans (Zd _ _ _ _ a))
theorem nI{o:Option Nat}(h:Below C w w1)(hC:C<=w.heap.size)(hg:w1.grownBy w2 o)(ho:∀k,o=some k->C<=k):Below C w w2:=by have :=h.size;refine⟨hg.os.trans h.os,hg.tape.trans h.tape,hg.output.trans h.output,Z2 h.size hg.size,λk a=>(hg.block k (by omega) λe=>?_).trans (h.block k a)⟩;have :=ho k e.symm;omega
variable{x y z:Value}
theorem SO(h:Below C w w2)(Ct:C<=bw)(ho:w3.os=w2.os)(ht:w3.tape=w2.tape)(hu:w3.output=w2.output)(h3:w3.heap=(((w2.setCell ⟨bw,0,none⟩ x).setCell ⟨bw,1,none⟩ y).setCell ⟨bw,2,none⟩ z).heap\/w3.heap=(((w2.setCell ⟨bw,0,none⟩ x).setCell ⟨bw,2,none⟩ z).setCell ⟨bw,1,none⟩ y).heap):Below C w w3:=by
 refine⟨ho.trans h.os,ht.trans h.tape,hu.trans h.output,Z2 h.size (by rcases h3 with h3|h3<;>rw[h3]<;>simp),λk b=>Eq.trans ?_ (h.block k b)⟩;have a:k≠bw:=by omega
 rcases h3 with h3|h3<;>rw[h3]<;>exact(Zd _ _ _ _ a).trans ((Zd _ _ _ _ a).trans (Zd _ _ _ _ a))
structure Dd(bw:Nat)(thr thr':Value)(w w':Fa):Prop where
 os:w'.os=w.os
 tape:w'.tape=w.tape
 output:w'.output=w.output
 size:w.heap.size<=w'.heap.size
 block:∀k,k<w.heap.size->k≠bw->thr.ownBlock≠some k->w'.heap[k]? =w.heap[k]?
 own:∀k,thr'.ownBlock=some k->thr.ownBlock=some k\/w.heap.size<=k
theorem Dd.refl(bw:Nat)(thr:Value)(w:Fa):Dd bw thr thr w w:=⟨rfl,rfl,rfl,Za _,λ_ _ _ _=>rfl,λ_ h=>.inl h⟩
theorem Dd.drewN(bw:Nat)(thr:Value)(w:Fa)(m:Nat):Dd bw thr thr w (w.drewN m):=⟨rfl,rfl,rfl,Za _,λ_ _ _ _=>rfl,λ_ h=>.inl h⟩
theorem Dd.trans{bw:Nat}{x y z:Value}{w w1 w2:Fa}(h:Dd bw x y w w1)(k:Dd bw y z w1 w2):Dd bw x z w w2:=⟨k.os.trans h.os,k.tape.trans h.tape,k.output.trans h.output,Z2 h.size k.size,λi hi h1 h2=>(k.block i (Zm hi h.size) h1 λe=>by
 rcases h.own i e with e|e;.exact h2 e
 .omega).trans (h.block i hi h1 h2),λi e=>by
 rcases k.own i e with e|e;.exact h.own i e
 .exact .inr (Z2 h.size e)⟩
variable{w':Fa}
theorem Dd.below(h:Dd bw x y w w')(h1:C<=bw)(h2:∀k,x.ownBlock=some k->C<=k)(hC:C<=w.heap.size):Below C w w':=⟨h.os,h.tape,h.output,h.size,λk hk=>h.block k (by omega) (by omega) λe=>by have :=h2 k e;omega⟩
theorem fP{v2:Value}(h1:Ba w w1)(hg:w1.grownBy w2 thr.ownBlock)(hf:∀k,v2.ownBlock=some k->thr.ownBlock=some k\/w1.heap.size<=k)(ho:w3.os=w2.os)(ht:w3.tape=w2.tape)(hu:w3.output=w2.output)(h3:w3.heap=(((w2.setCell ⟨bw,0,none⟩ x).setCell ⟨bw,1,none⟩ y).setCell ⟨bw,2,none⟩ z).heap\/w3.heap=(((w2.setCell ⟨bw,0,none⟩ x).setCell ⟨bw,2,none⟩ z).setCell ⟨bw,1,none⟩ y).heap):Dd bw thr v2 w w3:=by
 have c:=h1.size;have f:=hg.size;refine⟨ho.trans (hg.os.trans h1.os),ht.trans (hg.tape.trans h1.tape),hu.trans (hg.output.trans h1.output),Z2 (Z2 c f) (by rcases h3 with h3|h3<;>rw[h3]<;>simp),λk b a d=>?_,λk b=>?_⟩;.refine Eq.trans ?_ ((hg.block k (by omega) λe=>d e.symm).trans (h1.block k b));rcases h3 with h3|h3<;>rw[h3]<;>exact(Zd _ _ _ _ a).trans ((Zd _ _ _ _ a).trans (Zd _ _ _ _ a))
 .rcases hf k b with h|h;.exact .inl h
  .exact .inr (Z2 c h)
theorem ua.yp(hf:ua B S w)(h:Dd bw x y w w')(h1:S bw=none)(h2:∀k,x.ownBlock=some k->S k=none):ua B S w':=hf.Cb h.size λk t hk=>h.block k (hf.lt hk) (λe=>by rw[e,h1]at hk;cases hk) λe=>by rw[h2 k e]at hk;cases hk
theorem Dd.none{B:Nat}{S:Bb}{w w':Fa}{bw:Nat}{x y:Value}(h:Dd bw x y w w')(hf:ua B S w)(h2:∀k,x.ownBlock=some k->S k=none):∀k,y.ownBlock=some k->S k=none:=λk hk=>by
 rcases h.own k hk with e|e;.exact h2 k e
 .exact hf.fresh e
theorem mR:(oa.info? 325).map (λi=>(i.zero,i.size,i.bytes))=some (some (Sa #[da,La ⟨#[]⟩]),2,32):=by kernel_rfl
theorem dJ(h:od S v t)(p:Da):∀u∈([v,La p]:List Value),u.oneCell'=true:=by
 intro u a;simp only[Yf,Vi,or_false]at a;rcases a with rfl|rfl;.exact h.one
 .rfl
theorem VP(hW:Way S C w bw l t r thr v cs)(ht:t.inner=true)(hv:v=ca (K9 t) (Qa (some ⟨c,0,none⟩)))(hN:Ef S w (Py t) c t r)(hno:(t.next r).1≠ .no)(hk:(t.next r).2<=r.size)(hl:l.length<=1000)(hC:C<=w.heap.size):Calls oa 203 #[Qa (some ⟨bw,0,none⟩)] w λe w'=>e=na (Oa true)/\Below C w w'/\∃thr' v' cs',Dd bw thr thr' w w'/\Way S C w' bw (l++[(t,r.extract 0 (t.next r).2)]) (t.next r).1 (r.extract (t.next r).2 r.size) thr' v' cs':=by
 obtain⟨i0,hi,ak,al,am⟩:=Xl mR;obtain⟨P,Q,R,Y,Z,f2⟩:=hW.cell;subst hv;obtain⟨nv,n,E⟩:=hN;have aj:=vF t ht;have hm:=jI t ht;have ae:=BI t ht;have ag:=pH t ht;obtain⟨K,hK⟩:=nm ((t.next r).2);obtain⟨t',O⟩:=nm ((t.next r).1);rw[hK]at E hk⊢;rw[O]at hno n⊢;obtain⟨d,rfl⟩:∃d,nv=ca (K9 t') (Qa (some ⟨d,0,none⟩)):=by
  rcases n with⟨h,_⟩|⟨_,d,h,_⟩;.exact absurd h hno
  .exact⟨d,h⟩
 have U:=Hq E;have p:=Hq hW;have HV:=Hq n;have M:=hW.lt;obtain⟨m,ac⟩:=nm (r.extract 0 K);obtain⟨q,ai⟩:=nm (r.extract K r.size);rw[ac,ai];have aq:(K:Int)<=(r.size:Int):=by omega
 obtain⟨I,H,B,rfl⟩:=hW.own.shape;have u:Hid (l.length<=1000/\C<=w.heap.size):=⟨hl,hC⟩;clear hW n hno hK E O hk hl hC;go_enter func203,ntmps203;go_upto_region 3 with fail
 go_quiet (refine Calls.quiet_of (U _ rfl))
 clear aj hm ae ag U;go_upto_region 6 with fail
 generalize hWq:w.drewN _=W;have j:W.heap=w.heap:=by rw[<-hWq];rfl
 have D:Ba w W:=by rw[<-hWq];exact Below.drewN (Zb _ _) _
 rw[<-Mw j]at P Q R;have g0:W.frozen? ⟨bw,0,none⟩=false:=(Yd (by rw[j])).trans Y;have g1:W.frozen? ⟨bw,1,none⟩=false:=(Yd (by rw[j])).trans Z;have g2:W.frozen? ⟨bw,2,none⟩=false:=(Yd (by rw[j])).trans f2;rw[<-j]at M;have V:Hid (∀o,Db (W.drew.alloc o) C 2 (Ma I H B) l.length cs):=λo=>((p.heap j).own.Cb (w':=W.drew) (Za _) λ_ _ _=>rfl).alloc o;have X:Hid ((W.drew.alloc (ma #[ca (K9 t) (Qa (some ⟨c,0,none⟩)),La m] 325)).rangeAt W.heap.size 0 [ca (K9 t) (Qa (some ⟨c,0,none⟩)),La m]):=wg W.drew [ca (K9 t) (Qa (some ⟨c,0,none⟩)),La m] _;have J:Hid (∀o,Ba w (W.drew.alloc o)):=λo=>D.drew.alloc D.size o;have HH:Hid (W.heap.size=w.heap.size):=by rw[j];exact rfl
 have L:=p.apart;have HA:Hid ((Value.slice I H B).ownBlock≠some bw):=L;clear hWq j D Y Z f2 L;go_region_law (refine kI _ rfl (.tmp 34) (.tmp 43) 224 rfl 325 i0 (Sa #[da,La ⟨#[]⟩]) 2 32 underlying224 hi ak al am rfl (by decide) C (Ma I H B) l.length cs (by simp[Act.eval]) (V _) W.heap.size 0 1 1 [ca (K9 t) (Qa (some ⟨c,0,none⟩)),La m] (by simp[Act.eval]) rfl X (dJ p.node m) (by have :=u.o;unfold maxLen;omega) (by have :=u.o;omega) (by have :=u.o;have :=HH.o;simp;omega) ?_;intro s g F i G ah;have N:some bw≠(Value.slice I H B).ownBlock:=(λe=>HA e.symm);have f:g.heap[bw]? =W.heap[bw]? :=(i.block bw (by simp;omega) N).trans (Z0 _ _ _ M);have z0:=(Zc (a:=⟨bw,0,none⟩) f).trans P;have z1:=(Zc (a:=⟨bw,1,none⟩) f).trans Q;have z2:=(Zc (a:=⟨bw,2,none⟩) f).trans R;have y0:=(Yd (a:=⟨bw,0,none⟩) f).trans g0;have y1:=(Yd (a:=⟨bw,1,none⟩) f).trans g1;have y2:=(Yd (a:=⟨bw,2,none⟩) f).trans g2;have AM:Aside (∀b,(b.heap=(((g.setCell ⟨bw,0,none⟩ s).setCell ⟨bw,1,none⟩ (ca (K9 t') (Qa (some ⟨d,0,none⟩)))).setCell ⟨bw,2,none⟩ (La q)).heap\/b.heap=(((g.setCell ⟨bw,0,none⟩ s).setCell ⟨bw,2,none⟩ (La q)).setCell ⟨bw,1,none⟩ (ca (K9 t') (Qa (some ⟨d,0,none⟩)))).heap)->Way S C b bw (l++[(t,m)]) t' q s (ca (K9 t') (Qa (some ⟨d,0,none⟩))) (cs++[ca (K9 t) (Qa (some ⟨c,0,none⟩)),La m])):=(λb T=>zM p (J _) HV F i G T);have FM:Aside (∀b,b.os=g.os->b.tape=g.tape->b.output=g.output->(b.heap=(((g.setCell ⟨bw,0,none⟩ s).setCell ⟨bw,1,none⟩ (ca (K9 t') (Qa (some ⟨d,0,none⟩)))).setCell ⟨bw,2,none⟩ (La q)).heap\/b.heap=(((g.setCell ⟨bw,0,none⟩ s).setCell ⟨bw,2,none⟩ (La q)).setCell ⟨bw,1,none⟩ (ca (K9 t') (Qa (some ⟨d,0,none⟩)))).heap)->Dd bw (Ma I H B) s w b):=(λb ho ht hu T=>fP (J _) i G ho ht hu T);have BM:Aside (Below C w g):=nI ((J _).mono u.2) u.2 i (λk e=>(p.own.block k e).1);have ao:bw<g.heap.size:=(by have :=i.size;simp at this;omega);obtain⟨p2,m2,k2,rfl⟩:=F.shape;clear F i G ah N f)
 all_goals clear P Q R g0 g1 g2 V X J
 all_goals go_wp2
 all_goals go_region
 all_goals go_wp2
 all_goals go_ret
 all_goals refine⟨rfl,SO (x:=Ma p2 m2 k2) (y:=ca (K9 t') (Qa (some ⟨d,0,none⟩))) (z:=La q) BM p.lo rfl rfl rfl ?_,_,_,_,FM _ rfl rfl rfl ?_,AM _ ?_⟩
 all_goals first|exact .inl rfl|exact .inr rfl
inductive nc:Nd->Da->List (Nd×Da)->Nd->Da->Prop
 |stop {t:Nd} {r:Da}:(t.next r).1=.no->nc t r [] t r
 |go {t:Nd} {r:Da} {l:List (Nd×Da)} {e:Nd} {r':Da}:(t.next r).1≠ .no->nc (t.next r).1 (r.extract (t.next r).2 r.size) l e r'->nc t r ((t,r.extract 0 (t.next r).2)::l) e r'
variable{e:Nd}
theorem nc.inv(h:nc t r l e r')(hn:(t.next r).1≠ .no):∃l3,l=(t,r.extract 0 (t.next r).2)::l3/\nc (t.next r).1 (r.extract (t.next r).2 r.size) l3 e r':=by
 cases h with
 |stop h=>exact absurd h hn
 |go _ h=>exact⟨_,rfl,h⟩
mutual
def Nd.fits:Nd->Nat->Prop
 | .no,_=>True
 | .leaf p _,n=>p.size=n
 | .ext p t,n=>0<p.size/\p.size<n/\t.fits (n-p.size)
 | .br ks,n=>0<n/\Hl ks (n-1)
 | .stub _,_=>True
def Hl:List Nd->Nat->Prop
 | [],_=>True
 |x::xs,n=>x.fits n/\Hl xs n
end
theorem tN{x:Nd}:∀{l:List Nd},Hl l n->x∈l->x.fits n:=by
 intro l;induction l with
 |nil=>intro _ h;cases h
 |cons y l ih=>
  intro h a;rw[Hl]at h;rcases Yf.1 a with rfl|a;.exact h.1
  .exact ih h.2 a
theorem SS:∀{l:List Nd},(∀x∈l,x.fits n)->Hl l n:=by
 intro l;induction l with
 |nil=>intro _;rw[Hl];trivial
 |cons y l ih=>intro h;rw[Hl];exact⟨h y (Yj ..),ih λx a=>h x (Yy _ a)⟩
theorem Nd.pj(h:t.inner=false)(r:Da):(t.next r).1=.no:=by
 cases t with
 |ext _ _=>simp[Nd.inner]at h
 |br _=>simp[Nd.inner]at h
 |_=>rfl
theorem Nd.we(hf:t.fits r.size)(hn:(t.next r).1≠ .no):0<(t.next r).2/\(t.next r).2<=r.size/\(t.next r).1.fits (r.size-(t.next r).2):=by
 cases t with
 |ext p t=>
  rw[Nd.fits]at hf;rw[Nd.next]at hn⊢;split at hn
  .rename_i hb
   rw[Zo hb];exact⟨hf.1,by omega,hf.2.2⟩
  .exact absurd rfl hn
 |br ks=>
  rw[Nd.fits]at hf;rw[Nd.next]at hn⊢;refine⟨Nat.one_pos,hf.1,?_⟩;rw[Yb]at hn⊢;cases hk:ks[(Ke r)[0]!]? with
  |none=>rw[hk]at hn;exact absurd rfl hn
  |some x=>exact tN hf.2 (Vw hk)
 |_=>exact absurd rfl hn
theorem Cf(r:Da)(n:Nat):(r.extract n r.size).size=r.size-n:=by rw[<-ta,Mi,Yi,ta]
theorem uo(r:Da)(n:Nat)(h:n<=r.size):(r.extract 0 n).size=n:=by rw[<-ta,Qp,Zx,ta];omega
theorem zp(h:∀x∈Ke r,x<16)(n:Nat):∀x∈Ke (r.extract n r.size),x<16:=by rw[Mi];exact λx a=>h x (Yu a)
theorem VB(h:∀x∈Ke r,x<16)(n:Nat):∀x∈Ke (r.extract 0 n),x<16:=by rw[Qp];exact λx a=>h x (Y4 a)
theorem GK(hf:ua B S w)(hc:S c=some t)(ht:t.inner=true)(hfit:t.fits r.size)(hn:∀x∈Ke r,x<16):Ef S w (Py t) c t r:=by
 cases t with
 |ext p t=>exact KU r hf hc
 |br ks=>
  rw[Nd.fits]at hfit;refine SK r hf hc hfit.1 ?_;have :0<(Ke r).length:=by rw[ta];exact hfit.1
  rw[Z9 (Ke r) 0 this];exact hn _ (Zy _)
 |_=>simp[Nd.inner]at ht
theorem TR(hf:ua B S w)(hW:Way S C w bw l t r thr v cs)(hfit:t.fits r.size)(hn:∀x∈Ke r,x<16)(hl:l.length<=1000)(hC:C<=w.heap.size):Calls oa 203 #[Qa (some ⟨bw,0,none⟩)] w λe w'=>Below C w w'/\((e=na (Oa false)/\(t.next r).1=.no/\∃thr' v' cs',Dd bw thr thr' w w'/\Way S C w' bw l t r thr' v' cs')\/(e=na (Oa true)/\(t.next r).1≠ .no/\∃thr' v' cs',Dd bw thr thr' w w'/\Way S C w' bw (l++[(t,r.extract 0 (t.next r).2)]) (t.next r).1 (r.extract (t.next r).2 r.size) thr' v' cs')):=by
 cases hi:t.inner with
 |false=>exact(LL hW hi).mono (by rintro e w' ⟨rfl,rfl⟩;exact⟨Zb _ _,.inl ⟨rfl,Nd.pj hi r,_,_,_,Dd.refl _ _ _,hW⟩⟩)
 |true=>
  obtain⟨c,d,g⟩:∃c,v=ca (K9 t) (Qa (some ⟨c,0,none⟩))/\S c=some t:=by
   rcases hW.node with⟨rfl,_⟩|⟨_,c,h1,h2⟩;.simp[Nd.inner]at hi
   .exact⟨c,h1,h2⟩
  have b:=GK hf g hi hfit hn;by_cases a:(t.next r).1=.no;.exact(NP hW hi d b a).mono (by rintro e w' ⟨rfl,m,rfl⟩;exact⟨Below.drewN (Zb _ _) _,.inl ⟨rfl,a,_,_,_,Dd.drewN _ _ _ _,hW.heap rfl⟩⟩)
  .exact(VP hW hi d b a (Nd.we hfit a).2.1 hl hC).mono (by rintro e w' ⟨rfl,f,h⟩;exact⟨f,.inr ⟨rfl,a,h⟩⟩)
variable{l':List (Nd×Da)}
theorem wG(hf:ua B S w)(hW:Way S C w bw l t r thr v cs)(hbw:S bw=none)(hth:∀k,thr.ownBlock=some k->S k=none)(hfit:t.fits r.size)(hn:∀x∈Ke r,x<16)(hT:nc t r l' e r')(hl:l.length+r.size<=1000):Calls oa 182 #[Qa (some ⟨bw,0,none⟩)] w λx w'=>x=na (Wa #[])/\∃thr' v' cs',Dd bw thr thr' w w'/\Way S C w' bw (l++l') e r' thr' v' cs':=by
 have F:Hid (ua B S w/\S bw=none/\∀k,thr.ownBlock=some k->S k=none):=⟨hf,hbw,hth⟩;obtain⟨L,c⟩:=nm (l++l');have I:Hid (Dd bw thr thr w w/\Way S C w bw l t r thr v cs/\t.fits r.size/\(∀x∈Ke r,x<16)/\nc t r l' e r'/\l.length+r.size<=1000/\l++l'=L):=⟨Dd.refl _ _ _,hW,hfit,hn,hT,hl,c⟩;rw[c];clear hf hbw hth hW hfit hn hT hl c;go_enter func182,ntmps182;go_wp2;go_loopg [3] l'.length (λg _ wr=>∃i p b a j M z,g=p.length/\Dd bw thr j w wr/\Way S C wr bw i b a j M z/\b.fits a.size/\(∀x∈Ke a,x<16)/\nc b a p e r'/\i.length+a.size<=1000/\i++p=L)
 case atStart=>exact⟨l,l',t,r,thr,v,cs,rfl,I.o⟩
 case round=>
  obtain⟨i,p,b,a,j,M,z,rfl,n,hW,hfit,hn,hT,hl,c⟩:=hrel;have E:=F.1.yp n F.2.1 F.2.2;have J:=Hq (TR E hW hfit hn (by omega) (by have :=hW.lt;have :=hW.lo;omega));have G:Hid (Dd bw thr j w wr/\b.fits a.size/\(∀x∈Ke a,x<16)/\nc b a p e r'/\i.length+a.size<=1000/\i++p=L):=⟨n,hfit,hn,hT,hl,c⟩;clear E n hW hfit hn hT hl c I;go_wp2_with fail
  refine J.mono ?_;rintro x y ⟨-,⟨rfl,f,d,H,q,o,m⟩|⟨rfl,f,d,H,q,o,m⟩⟩
  .have s:Hid (Dd bw thr d w y/\Way S C y bw L e r' d H q):=by
    obtain⟨n,hfit,hn,hT,hl,c⟩:=G.o;refine⟨n.trans o,?_⟩;cases hT with
    |stop _=>rw[Jy]at c;rw[<-c];exact m
    |go h _=>exact absurd f h
   clear o f m;go_wp2;go_end0;exact⟨rfl,_,_,_,s.1,s.2⟩
  .obtain⟨n,hfit,hn,hT,hl,c⟩:=G.o;obtain⟨u,rfl,D⟩:=hT.inv f
   .obtain⟨N,O,K⟩:=Nd.we hfit f;have s:Hid (Dd bw thr d w y/\Way S C y bw (i++[(b,a.extract 0 (b.next a).2)]) (b.next a).1 (a.extract (b.next a).2 a.size) d H q/\(b.next a).1.fits (a.extract (b.next a).2 a.size).size/\(∀x∈Ke (a.extract (b.next a).2 a.size),x<16)/\nc (b.next a).1 (a.extract (b.next a).2 a.size) u e r'/\(i++[(b,a.extract 0 (b.next a).2)]).length+(a.extract (b.next a).2 a.size).size<=1000/\(i++[(b,a.extract 0 (b.next a).2)])++u=L):=by refine⟨n.trans o,m,by rw[Cf];exact K,zp hn _,D,?_,by rw[<-c,Xz];rfl⟩;rw[Cf,Zq,List.length_singleton];omega
    clear n o f m hfit hn D hl c N O K G J;go_wp2;go_roundg u.length
    case measure=>simp
    case rel=>exact⟨_,u,_,_,_,_,_,rfl,s.o⟩
theorem YT{w0:Fa}(hf:ua B S w0)(hC:C=w0.heap.size)(hb:Below C w0 w)(hW:Way S C w bw l t r thr v cs)(hfit:t.fits r.size)(hn:∀x∈Ke r,x<16)(hT:nc t r l' e r')(hl:l.length+r.size<=1000):Calls oa 182 #[Qa (some ⟨bw,0,none⟩)] w λx w'=>x=na (Wa #[])/\Below C w0 w'/\∃thr' v' cs',Way S C w' bw (l++l') e r' thr' v' cs':=by subst hC;have b:∀k,thr.ownBlock=some k->w0.heap.size<=k:=λk a=>(hW.own.block k a).1;refine(wG (hf.below hb) hW (hf.fresh hW.lo) (λk a=>hf.fresh (b k a)) hfit hn hT hl).mono ?_;rintro x w' ⟨rfl,thr',v',cs',d,c⟩;exact⟨rfl,hb.trans (d.below hW.lo b hb.size),_,_,_,c⟩
structure Followed(S:Bb)(C:Nat)(w:Fa)(l:List (Nd×Da))(e:Nd)(thr v:Value):Prop where
 row:∃cs,Db w C 2 thr l.length cs/\xe S l cs
 node:od S v e
theorem Followed.Cb(h:Followed S C w l e thr v)(hb:Ba w w'):Followed S C w' l e thr v:=by obtain⟨⟨a,b,c⟩,d⟩:=h;exact⟨⟨a,b.below hb,c⟩,d⟩
theorem Followed.shape{S:Bb}{C:Nat}{w:Fa}{l:List (Nd×Da)}{e:Nd}{thr v:Value}(h:Followed S C w l e thr v):∃p m c,thr=Ma p m c:=by obtain⟨b,a,_⟩:=h.row;exact a.shape
theorem Fj:(oa.info? 226).map (·.size)=some 3:=by kernel_rfl
theorem cF(h:w.heap[b]? =some (ma #[x,y,z] 226 (0,0))):w.rangeAt b 0 [x,y,z]:=λj u hu=>by simp only[World.cell?,h,Zf];simpa using hu
theorem wv(h:od S v t)(p:Option Addr)(m c:Nat)(r:Da):(#[Ma p m c,v,La r]:Array Value).all (·.oneCell')=true:=by
 refine Yp (cs:=[Ma p m c,v,La r]) λu a=>?_;simp only[Yf,Vi,or_false]at a;rcases a with rfl|rfl|rfl;.rfl
 .exact h.one
 .rfl
theorem _root_.Go.RowKit.Below.va{w0:Fa}(h:Ba w w0)(k:Ba w0 w1):Ba w w1:=h.trans (k.mono h.size)
theorem qI(hf:ua B S w)(hv:od S v t)(hfit:t.fits p.size)(hn:∀x∈Ke p,x<16)(hp:p.size<=1000)(hT:nc t p l e r'):Calls oa 141 #[v,La p] w λx w'=>Ba w w'/\∃thr v',x=na (Sa #[thr,v',La r'])/\Followed S w.heap.size w' l e thr v':=by
 have G:=Hq hf;have y:=hv.shape;obtain⟨w0,c⟩:=nm (w.alloc (ma #[Ma none 0 0,da,La ⟨#[]⟩] 226));have j:w0.heap.size=w.heap.size+1:=by rw[<-c];simp
 have g:Ba w w0:=by rw[<-c];exact(Zb _ _).alloc (Za _) _
 have i:w0.there w.heap.size 0 3:=by rw[<-c];exact Le _ _ _ _ rfl
 have C:Hid (Calls oa 182 #[Qa (some ⟨w0.heap.size,0,none⟩)] (w0.alloc (ma #[Ma none 0 0,v,La p] 226)) λx w'=>x=na (Wa #[])/\Ba w0 w'/\∃thr' v' cs',Way S w0.heap.size w' w0.heap.size l e r' thr' v' cs'):=by
  have s:Way S w0.heap.size (w0.alloc (ma #[Ma none 0 0,v,La p] 226)) w0.heap.size [] t p (Ma none 0 0) v []:=by exact⟨Z6,Za _,hv,Db.nil _ _ _,by simp[Value.ownBlock],rfl⟩
  exact YT (hf.below g) rfl ((Zb w0.heap.size w0).alloc (Za _) _) s hfit hn hT (by simpa using hp)
 have f:=Hq (A3 j g i);clear hf hv hfit hn hp hT j g i;rcases y with rfl|⟨T,a,rfl⟩;all_goals
  go_enter func141,ntmps141;go_wp2_with fail
  refine C.mono ?_;rintro x K ⟨rfl,h,thr,z,D,b⟩;have m:=ve f.2.2 (h.block _ (by have :=f.1;omega));obtain⟨H,I,J,-,-,-⟩:=b.cell;obtain⟨r,q,n,rfl⟩:=b.own.shape;have u:=cF b.ub;have d:=Hq (A3 (f.2.1.va h) b m);have o:=wv b.node r q n r';have F:=b.node.shape;clear h b c;go_wp2_with (first| (refine Zr rfl 226 _ rfl w0.heap.size 0 rfl _ _ u underlying226 rfl Fj ?_)| (refine Zs rfl 226 _ _ rfl w.heap.size 0 #[Ma r q n,z,La r'] rfl rfl m Fj o ?_))
  refine Zv (v:=Sa #[Ma r q n,z,La r']) (si results141 _ _ _ w.heap.size 0 rfl (Yg _ _ _ 226 _ _ (Zn _ _ _ _ d.2.2) underlying226 rfl Fj)) rfl ⟨?_,_,_,rfl,?_⟩;.exact Cg d.1 (Za _) _ _
  .refine⟨⟨D,?_,d.2.1.turns⟩,d.2.1.node⟩;refine(d.2.1.own.mono (by have :=f.1;omega)).Cb (Jq (Og _ _ _ _).1.symm) λk _ E=>Qf _ _ _ _ _ ?_;have :=(d.2.1.own.block k E).1;have :=f.1;omega
theorem qp:(oa.info? 37).map (·.size)=some 32:=by kernel_rfl
theorem Mb{K:Array Nat}(h:K.size=32):(oa.info? 37).map (·.size)=some (K.toList.map Kf).length:=by rw[qp];simp[h]
theorem PD(K:Array Nat)(w:Fa)(hK:K.size=32)(hb:K3 K):Calls oa 143 #[Sa (K.toList.map Kf).toArray] w λe w'=>e=na (La (Kg (Kl K.toList)))/\Ba w w':=by
 have f:K.toList.length=32:=by simpa using hK
 have g:∀x∈K.toList,x<256:=λx y=>by obtain⟨j,v,rfl⟩:=Xv y;have :=hb j;rw[Z9 K j (by simpa using v)]at this;simpa using this
 have o:=Own.Ff w 37 K.toList (by rw[f];unfold maxLen;omega);rw[f]at o;have i:=nj (P:=oa) _ 116 9 5 underlying116 underlying5 underlying9 o;have d:(Kg K.toList).size=32:=by rw[me,f]
 have c:=qg g;obtain⟨t,q⟩:=nm (Kg K.toList);rw[q]at i d c;have p:=Hq (A2 c d);clear o f g d c q hK hb;go_enter func143,ntmps143;go_wp2_with fail
 generalize hw0:w.alloc (ma (K.toList.map Kf).toArray 37)=w0;have b:Ba w w0:=by rw[<-hw0];exact(Zb _ _).alloc (Za _) _
 refine(zB (B:=w0.heap.size) (l:=[]) t w0 (Own.nil _ _) (Za _) (by rw[p.2];omega) (by simp)).mono ?_;rintro e D ⟨C,rfl,a⟩;rw[p.1,Xi]at a;have m:=nj (P:=oa) _ 116 9 5 underlying116 underlying5 underlying9 a.own;have h:=b.trans ⟨a.grown.os,a.grown.tape,a.grown.output,a.grown.size,λk z=>a.grown.block k (by have :=b.size;omega) (by simp[Value.ownBlock])⟩;have u:=Hq h;obtain⟨r,n⟩:=nm (Kg (Kl K.toList));rw[n]at m;have s:=Hq n;clear a h b hw0 n i;go_wp2;go_ret;exact⟨by rw[s.o];rfl,u.o⟩
theorem od.nil(h:od S v t)(ht:t=.no):v=da:=by
 rcases h with⟨_,h⟩|⟨h,_⟩;.exact h
 .exact absurd ht h
theorem od.full(h:od S v t)(ht:t≠ .no):∃b,v=ca (K9 t) (Qa (some ⟨b,0,none⟩))/\S b=some t:=by
 rcases h with⟨h,_⟩|⟨_,h⟩;.exact absurd h ht
 .exact h
theorem LK(t:Nd)(ht:∀h,t≠ .stub h)(hn:t≠ .no)(a:Addr)(w:Fa):(Instr.typeAssert (ca (K9 t) (Qa (some a))) 96 228 true).run oa w=.ok (Wa #[Qa none,Oa false]) w:=by
 cases t with
 |no=>exact absurd rfl hn
 |leaf _ _=>kernel_rfl
 |ext _ _=>kernel_rfl
 |br _=>kernel_rfl
 |stub h=>exact absurd rfl (ht h)
theorem QN(w:Fa):(Instr.typeAssert da 96 228 true).run oa w=.ok (Wa #[Qa none,Oa false]) w:=by kernel_rfl
theorem PB(p:Option Addr)(m c:Nat)(hv:od S v e)(hs:∀h,e≠ .stub h):Calls oa 144 #[Sa #[Ma p m c,v,La r]] w λx w'=>x=na (Qa none)/\Ba w w':=by
 rcases hv with⟨rfl,rfl⟩|⟨hne,b,rfl,hb⟩;.have a:=QN;go_enter func144,ntmps144;go_wp2;go_ret;exact⟨rfl,(Zb _ _).alloc (Za _) _⟩
 .have a:=LK e hs hne;clear hb hs;go_enter func144,ntmps144;go_wp2;go_ret;exact⟨rfl,(Zb _ _).alloc (Za _) _⟩
theorem Followed.on(h:Followed S C w l e thr v)(hs:w.heap.size<=w'.heap.size)(hb:∀k,k<w.heap.size->C<=k->w'.heap[k]? =w.heap[k]?):Followed S C w' l e thr v:=by obtain⟨⟨b,a,c⟩,d⟩:=h;exact⟨⟨b,a.Cb hs λk g f=>hb k g (a.block k f).1,c⟩,d⟩
theorem Followed.mono{S:Bb}{C C':Nat}{w:Fa}{l:List (Nd×Da)}{e:Nd}{thr v:Value}(h:Followed S C w l e thr v)(hc:C'<=C):Followed S C' w l e thr v:=by obtain⟨⟨a,b,c⟩,d⟩:=h;exact⟨⟨a,b.mono hc,c⟩,d⟩
def E5(S:Bb)(W0:Fa)(l:List (Nd×Da))(e:Nd)(r:Da)(g:Nat)(thr v:Value)(wc:Fa):Prop:=wc.rangeAt g 0 [thr,v,La r]/\g<wc.heap.size/\Followed S W0.heap.size wc l e thr v/\Ba W0 wc
theorem YG{W0:Fa}(h:Followed S C w2 l e thr v)(hC:W0.heap.size<=C)(hb:Ba W0 w2):E5 S W0 l e r w2.heap.size thr v (w2.alloc (ma #[thr,v,La r] 226)):=by refine⟨λj u b=>?_,by simp,(h.mono hC).on (by simp) λk a _=>Z0 _ _ _ a,hb.alloc hb.size _⟩;rw[Zf,Ze];simpa using b
theorem BA{W0 W2:Fa}{g:Nat}(h:Followed S C w2 l e thr v)(hC:W0.heap.size<=C)(hb:Ba W0 w2)(hg:g<C)(hW:Ba W2 w2)(hgW:g<W2.heap.size)(hth:W2.there g 0 3)(hg0:W0.heap.size<=g):E5 S W0 l e r g thr v (((w2.setCell ⟨g,0,none⟩ thr).setCell ⟨g,1,none⟩ v).setCell ⟨g,2,none⟩ (La r)):=by have d:=hW.size;have b:∀k,k≠g->(((w2.setCell ⟨g,0,none⟩ thr).setCell ⟨g,1,none⟩ v).setCell ⟨g,2,none⟩ (La r)).heap[k]? =w2.heap[k]? :=λk a=>(Zd _ _ _ _ a).trans ((Zd _ _ _ _ a).trans (Zd _ _ _ _ a));refine⟨Zn w2 g 0 [thr,v,La r] (ve hth (hW.block g hgW)),by simp;omega,(h.on (by simp) λk _ c=>b k (by omega)).mono hC,((hb.setCell (p:=⟨g,0,none⟩) hg0 _).setCell (p:=⟨g,1,none⟩) hg0 _).setCell (p:=⟨g,2,none⟩) hg0 _⟩
theorem Dw{K:Array Nat}(hf:ua B S w)(ht:Ib S w b t)(hK:K.size=32)(hKb:K3 K)(hp:Kg (Kl K.toList)=p)(hfit:t.fits p.size)(hn:∀x∈Ke p,x<16)(hps:p.size<=1000)(hT:nc t p l e r')(hs:∀h,e≠ .stub h):Calls oa 155 #[Qa (some ⟨b,0,none⟩),Sa (K.toList.map Kf).toArray] w λx w'=>Ba w w'/\∃thr v',x=na (Wa #[Sa #[thr,v',La r'],da])/\Followed S w.heap.size w' l e thr v':=by
 have ag:=ht.lt;obtain⟨v,hv,c0,-⟩:=ht.cell;have HF:=Hq hf;have HS:=Hq hs;have hk:=PD K;rw[hp]at hk;have HK:Hid (∀W,Calls oa 143 #[Sa (K.toList.map Kf).toArray] W λe w'=>e=na (La p)/\Ba W w'):=λW=>hk W hK hKb;have HW:Hid (∀W,Ba w W->Calls oa 141 #[v,La p] W λx w'=>Ba W w'/\∃thr v',x=na (Sa #[thr,v',La r'])/\Followed S W.heap.size w' l e thr v'):=λW hW=>qI (hf.below hW) hv hfit hn hps hT;have O:∀o,((w.alloc (ma (K.toList.map Kf).toArray 37)).alloc o).rangeAt w.heap.size 0 (K.toList.map Kf):=λo j u P=>by rw[Z8 _ _ _ (by simp),Zf,Ze];simpa using P
 have ai:=Mb hK
 clear hf ht hv hK hKb hp hfit hn hps hT hs hk;by_cases he:e=.no
 .go_enter func155,ntmps155;go_upto_region 1 with fail
  have G:=O (ma #[Ma none 0 0,da,La ⟨#[]⟩] 226);have E:Ba w ((w.alloc (ma (K.toList.map Kf).toArray 37)).alloc (ma #[Ma none 0 0,da,La ⟨#[]⟩] 226)):=((Zb _ _).alloc (Za _) _).alloc (by simp) _;have H:((w.alloc (ma (K.toList.map Kf).toArray 37)).alloc (ma #[Ma none 0 0,da,La ⟨#[]⟩] 226)).heap.size=w.heap.size+2:=by simp
  have I:((w.alloc (ma (K.toList.map Kf).toArray 37)).alloc (ma #[Ma none 0 0,da,La ⟨#[]⟩] 226)).there (w.heap.size+1) 0 3:=by have :=Le (w.alloc (ma (K.toList.map Kf).toArray 37)) #[Ma none 0 0,da,La ⟨#[]⟩] 226 3 rfl;simpa using this
  generalize (w.alloc (ma (K.toList.map Kf).toArray 37)).alloc (ma #[Ma none 0 0,da,La ⟨#[]⟩] 226)=W0 at G E H I⊢;have Z:=(E.cell (p:=⟨b,0,none⟩) ag).trans c0;have i:=Hq (A3 E H I);have f:Hid (∀N,Ba W0 N->N.cell? ⟨b,0,none⟩=some v/\N.rangeAt w.heap.size 0 (K.toList.map Kf)):=λN h=>⟨(h.cell (p:=⟨b,0,none⟩) (by have :=i.2.1;show b<_;omega)).trans Z,λj u P=>(h.cell (p:=⟨w.heap.size,0+j,none⟩) (by have :=i.2.1;show w.heap.size<_;omega)).trans (G j u P)⟩;have n:Ba W0 W0.drew:=(Zb _ _).drew;clear O E H I c0;have ah:=underlying37;go_cut [6] (λv6 wc=>∃g thr v',v6=Qa (some ⟨g,0,none⟩)/\E5 S W0 l e r' g thr v' wc)
  case first=>
   go_region_held3 (λw'=>w'.cell? ⟨b,0,none⟩=some v/\w'.rangeAt w.heap.size 0 (K.toList.map Kf)) (first|exact f _ n|exact f _ (n.alloc (Za _) _)|exact f _ a|exact f _ (a.alloc a.size _)|exact f _ m|exact f _ (m.alloc m.size _)|exact f _ (((m.setCell (p:=⟨w1.heap.size,0,none⟩) a.size _).setCell (p:=⟨w1.heap.size,1,none⟩) a.size _).setCell (p:=⟨w1.heap.size,2,none⟩) a.size _)|exact f _ (((m.setCell (p:=⟨W0.heap.size,0,none⟩) (Za _) _).setCell (p:=⟨W0.heap.size,1,none⟩) (Za _) _).setCell (p:=⟨W0.heap.size,2,none⟩) (Za _) _)) (first| (go_at_call 143;refine(HK _).mono ?_;rintro e w1 ⟨rfl,d⟩;have a:Ba W0 w1:=(by first|exact n.trans d|exact(n.alloc (Za _) _).trans (d.mono (by simp)));have y0:=(λh=>d.cell (p:=⟨W0.heap.size,0,none⟩) h);have y1:=(λh=>d.cell (p:=⟨W0.heap.size,1,none⟩) h);have y2:=(λh=>d.cell (p:=⟨W0.heap.size,2,none⟩) h);have k0:=(λh=>d.frozen (p:=⟨W0.heap.size,0,none⟩) h);have k1:=(λh=>d.frozen (p:=⟨W0.heap.size,1,none⟩) h);have k2:=(λh=>d.frozen (p:=⟨W0.heap.size,2,none⟩) h);have s1:=(λ(h:W0.heap.size<_)=>Zm h d.size);have R:=Hq d;clear d)| (go_at_call 141;refine(HW _ (i.1.va (by first|exact a|exact a.alloc a.size _))).mono ?_;rintro e w2 ⟨c,thr,J,rfl,D⟩;have m:Ba W0 w2:=(by first|exact a.trans (c.mono a.size)|exact(a.alloc a.size _).trans (c.mono (Z2 a.size (by simp))));have Y0:=(λh=>c.cell (p:=⟨W0.heap.size,0,none⟩) h);have Y1:=(λh=>c.cell (p:=⟨W0.heap.size,1,none⟩) h);have Y2:=(λh=>c.cell (p:=⟨W0.heap.size,2,none⟩) h);have K0:=(λh=>c.frozen (p:=⟨W0.heap.size,0,none⟩) h);have K1:=(λh=>c.frozen (p:=⟨W0.heap.size,1,none⟩) h);have K2:=(λh=>c.frozen (p:=⟨W0.heap.size,2,none⟩) h);have X0:=(λh=>c.cell (p:=⟨w1.heap.size,0,none⟩) h);have X1:=(λh=>c.cell (p:=⟨w1.heap.size,1,none⟩) h);have X2:=(λh=>c.cell (p:=⟨w1.heap.size,2,none⟩) h);have J0:=(λh=>c.frozen (p:=⟨w1.heap.size,0,none⟩) h);have J1:=(λh=>c.frozen (p:=⟨w1.heap.size,1,none⟩) h);have J2:=(λh=>c.frozen (p:=⟨w1.heap.size,2,none⟩) h);obtain⟨C,z,y,rfl⟩:=D.shape;obtain rfl:=D.node.nil he;have F:=Hq D;have T:=Hq c;clear c D))
   all_goals (try go_wp2)
   all_goals go_meet
   .exact⟨_,_,_,rfl,YG F a.size m⟩
   .exact⟨_,_,_,rfl,BA F (Z2 a.size (by simp)) m (by simp) T (by simp) (Le _ _ _ _ rfl) a.size⟩
   .exact⟨_,_,_,rfl,BA F a.size m (Zm (by simp) R.size) (R.va T.o) (by simp) (Le W0.drew _ _ _ rfl) (Za _)⟩
  case rest=>
   obtain⟨g,thr,J,rfl,q⟩:=hcut;have ae:=ve i.2.2 (q.2.2.2.block _ (by have :=i.2.1;omega));have U:=q.1;have ac:=q.2.1;obtain⟨C,z,y,rfl⟩:=q.2.2.1.shape;have V:=wv q.2.2.1.node C z y r';have HM:=Hq (PB (w:=wc) (r:=r') C z y q.2.2.1.node HS.o);have M:=Hq q;clear q HK HW f n Z G;go_wp2_with (first| (refine Zr rfl 226 _ rfl g 0 rfl _ _ U underlying226 rfl Fj ?_)| (go_at_call 144;refine HM.mono ?_;rintro x Q ⟨rfl,s⟩;have X:Q.rangeAt g 0 [Ma C z y,J,La r']:=(λj u P=>(s.cell (p:=⟨g,0+j,none⟩) ac).trans (U j u P));have L:Hid (Ba w Q/\Q.there (w.heap.size+1) 0 3/\Followed S W0.heap.size Q l e (Ma C z y) J):=⟨i.1.va (M.2.2.2.trans (s.mono M.2.2.2.size)),ve ae (s.block _ (by have :=i.2.1;have :=M.2.2.2.size;omega)),M.2.2.1.Cb s⟩;have Y:=L.2.1;clear s)| (refine Zr rfl 226 _ rfl g 0 rfl _ _ X underlying226 rfl Fj ?_)| (refine Zs rfl 226 _ _ rfl (w.heap.size+1) 0 #[Ma C z y,J,La r'] rfl rfl Y Fj V ?_))
   refine Zv (v:=Wa #[Sa #[Ma C z y,J,La r'],da]) (Ol results155 _ _ _ (w.heap.size+1) 0 rfl (Yg _ _ _ 226 _ _ (Zn _ _ _ _ L.2.1) underlying226 rfl Fj)) rfl ⟨?_,_,_,rfl,?_⟩;.exact Cg L.1 (by omega) _ _
   .exact(L.2.2.on (Jq (Og _ _ _ _).1.symm) λk _ hk=>Qf _ _ _ _ _ (by have :=i.2.1;omega)).mono (by have :=i.2.1;omega)
 .go_enter func155,ntmps155;go_upto_region 1 with fail
  have G:=O (ma #[Ma none 0 0,da,La ⟨#[]⟩] 226);have E:Ba w ((w.alloc (ma (K.toList.map Kf).toArray 37)).alloc (ma #[Ma none 0 0,da,La ⟨#[]⟩] 226)):=((Zb _ _).alloc (Za _) _).alloc (by simp) _;have H:((w.alloc (ma (K.toList.map Kf).toArray 37)).alloc (ma #[Ma none 0 0,da,La ⟨#[]⟩] 226)).heap.size=w.heap.size+2:=by simp
  have I:((w.alloc (ma (K.toList.map Kf).toArray 37)).alloc (ma #[Ma none 0 0,da,La ⟨#[]⟩] 226)).there (w.heap.size+1) 0 3:=by have :=Le (w.alloc (ma (K.toList.map Kf).toArray 37)) #[Ma none 0 0,da,La ⟨#[]⟩] 226 3 rfl;simpa using this
  generalize (w.alloc (ma (K.toList.map Kf).toArray 37)).alloc (ma #[Ma none 0 0,da,La ⟨#[]⟩] 226)=W0 at G E H I⊢;have Z:=(E.cell (p:=⟨b,0,none⟩) ag).trans c0;have i:=Hq (A3 E H I);have f:Hid (∀N,Ba W0 N->N.cell? ⟨b,0,none⟩=some v/\N.rangeAt w.heap.size 0 (K.toList.map Kf)):=λN h=>⟨(h.cell (p:=⟨b,0,none⟩) (by have :=i.2.1;show b<_;omega)).trans Z,λj u P=>(h.cell (p:=⟨w.heap.size,0+j,none⟩) (by have :=i.2.1;show w.heap.size<_;omega)).trans (G j u P)⟩;have n:Ba W0 W0.drew:=(Zb _ _).drew;clear O E H I c0;have ah:=underlying37;go_cut [6] (λv6 wc=>∃g thr v',v6=Qa (some ⟨g,0,none⟩)/\E5 S W0 l e r' g thr v' wc)
  case first=>
   go_region_held3 (λw'=>w'.cell? ⟨b,0,none⟩=some v/\w'.rangeAt w.heap.size 0 (K.toList.map Kf)) (first|exact f _ n|exact f _ (n.alloc (Za _) _)|exact f _ a|exact f _ (a.alloc a.size _)|exact f _ m|exact f _ (m.alloc m.size _)|exact f _ (((m.setCell (p:=⟨w1.heap.size,0,none⟩) a.size _).setCell (p:=⟨w1.heap.size,1,none⟩) a.size _).setCell (p:=⟨w1.heap.size,2,none⟩) a.size _)|exact f _ (((m.setCell (p:=⟨W0.heap.size,0,none⟩) (Za _) _).setCell (p:=⟨W0.heap.size,1,none⟩) (Za _) _).setCell (p:=⟨W0.heap.size,2,none⟩) (Za _) _)) (first| (go_at_call 143;refine(HK _).mono ?_;rintro e w1 ⟨rfl,d⟩;have a:Ba W0 w1:=(by first|exact n.trans d|exact(n.alloc (Za _) _).trans (d.mono (by simp)));have y0:=(λh=>d.cell (p:=⟨W0.heap.size,0,none⟩) h);have y1:=(λh=>d.cell (p:=⟨W0.heap.size,1,none⟩) h);have y2:=(λh=>d.cell (p:=⟨W0.heap.size,2,none⟩) h);have k0:=(λh=>d.frozen (p:=⟨W0.heap.size,0,none⟩) h);have k1:=(λh=>d.frozen (p:=⟨W0.heap.size,1,none⟩) h);have k2:=(λh=>d.frozen (p:=⟨W0.heap.size,2,none⟩) h);have s1:=(λ(h:W0.heap.size<_)=>Zm h d.size);have R:=Hq d;clear d)| (go_at_call 141;refine(HW _ (i.1.va (by first|exact a|exact a.alloc a.size _))).mono ?_;rintro e w2 ⟨c,thr,J,rfl,D⟩;have m:Ba W0 w2:=(by first|exact a.trans (c.mono a.size)|exact(a.alloc a.size _).trans (c.mono (Z2 a.size (by simp))));have Y0:=(λh=>c.cell (p:=⟨W0.heap.size,0,none⟩) h);have Y1:=(λh=>c.cell (p:=⟨W0.heap.size,1,none⟩) h);have Y2:=(λh=>c.cell (p:=⟨W0.heap.size,2,none⟩) h);have K0:=(λh=>c.frozen (p:=⟨W0.heap.size,0,none⟩) h);have K1:=(λh=>c.frozen (p:=⟨W0.heap.size,1,none⟩) h);have K2:=(λh=>c.frozen (p:=⟨W0.heap.size,2,none⟩) h);have X0:=(λh=>c.cell (p:=⟨w1.heap.size,0,none⟩) h);have X1:=(λh=>c.cell (p:=⟨w1.heap.size,1,none⟩) h);have X2:=(λh=>c.cell (p:=⟨w1.heap.size,2,none⟩) h);have J0:=(λh=>c.frozen (p:=⟨w1.heap.size,0,none⟩) h);have J1:=(λh=>c.frozen (p:=⟨w1.heap.size,1,none⟩) h);have J2:=(λh=>c.frozen (p:=⟨w1.heap.size,2,none⟩) h);obtain⟨C,z,y,rfl⟩:=D.shape;obtain⟨d2,rfl,-⟩:=D.node.full he;have F:=Hq D;have T:=Hq c;clear c D))
   all_goals (try go_wp2)
   all_goals go_meet
   .exact⟨_,_,_,rfl,YG F a.size m⟩
   .exact⟨_,_,_,rfl,BA F (Z2 a.size (by simp)) m (by simp) T (by simp) (Le _ _ _ _ rfl) a.size⟩
   .exact⟨_,_,_,rfl,BA F a.size m (Zm (by simp) R.size) (R.va T.o) (by simp) (Le W0.drew _ _ _ rfl) (Za _)⟩
  case rest=>
   obtain⟨g,thr,J,rfl,q⟩:=hcut;have ae:=ve i.2.2 (q.2.2.2.block _ (by have :=i.2.1;omega));have U:=q.1;have ac:=q.2.1;obtain⟨C,z,y,rfl⟩:=q.2.2.1.shape;have V:=wv q.2.2.1.node C z y r';have HM:=Hq (PB (w:=wc) (r:=r') C z y q.2.2.1.node HS.o);have M:=Hq q;clear q HK HW f n Z G;go_wp2_with (first| (refine Zr rfl 226 _ rfl g 0 rfl _ _ U underlying226 rfl Fj ?_)| (go_at_call 144;refine HM.mono ?_;rintro x Q ⟨rfl,s⟩;have X:Q.rangeAt g 0 [Ma C z y,J,La r']:=(λj u P=>(s.cell (p:=⟨g,0+j,none⟩) ac).trans (U j u P));have L:Hid (Ba w Q/\Q.there (w.heap.size+1) 0 3/\Followed S W0.heap.size Q l e (Ma C z y) J):=⟨i.1.va (M.2.2.2.trans (s.mono M.2.2.2.size)),ve ae (s.block _ (by have :=i.2.1;have :=M.2.2.2.size;omega)),M.2.2.1.Cb s⟩;have Y:=L.2.1;clear s)| (refine Zr rfl 226 _ rfl g 0 rfl _ _ X underlying226 rfl Fj ?_)| (refine Zs rfl 226 _ _ rfl (w.heap.size+1) 0 #[Ma C z y,J,La r'] rfl rfl Y Fj V ?_))
   refine Zv (v:=Wa #[Sa #[Ma C z y,J,La r'],da]) (Ol results155 _ _ _ (w.heap.size+1) 0 rfl (Yg _ _ _ 226 _ _ (Zn _ _ _ _ L.2.1) underlying226 rfl Fj)) rfl ⟨?_,_,_,rfl,?_⟩;.exact Cg L.1 (by omega) _ _
   .exact(L.2.2.on (Jq (Og _ _ _ _).1.symm) λk _ hk=>Qf _ _ _ _ _ (by have :=i.2.1;omega)).mono (by have :=i.2.1;omega)
end Go.Proofs.YtpfbdlnibdfcoaaGreatDoor
