import Derived.Test.YtpfbdlnibdfcoaaGreatDoorPvRvW
namespace Go.Proofs.YtpfbdlnibdfcoaaGreatDoor
open Go.RowKit Tryz
open Value renaming int->Ia,string->La,slice->Ma,bool->Oa,pointer->Qa,agg->Sa,tuple->Wa,iface->ca,nilIface->da
open IntKind renaming i64->ka
open Obj renaming cells->ma
open Ending renaming returned->na
open Tryz renaming prog->oa
set_option maxRecDepth 100000
set_option maxHeartbeats 0
section
theorem LD(D:List Nat)(hD:D.length=32)(w:Fa):Calls oa 98 #[Sa (D.map Kf).toArray] w λe w'=>e=na (Sa (D.map Kf).toArray)/\Ba w w':=by
 go_enter func98,ntmps98;go_wp2;generalize hWW:World.alloc (World.alloc (World.alloc w _) _) _=W;have K:Hid (Ba w W/\Lb W (w.heap.size+1) (No D 0)/\Lb W (w.heap.size+1+1) (No D 0)/\W.rangeAt w.heap.size 0 (D.map Kf)):=by
  have y:Ba w (w.alloc (ma (D.map Kf).toArray 39)):=(Zb _ _).alloc (Za _) _;have H:=wg w (D.map Kf) 39;rw[<-hWW];obtain⟨a,o⟩:=nm (w.alloc (ma (D.map Kf).toArray 39));have I:a.heap.size=w.heap.size+1:=by rw[<-o];simp
  rw[o]at y H;have z:Ba a ((a.alloc (ma (No D 0).toArray 37)).alloc (ma (No D 0).toArray 37)):=yj a _ _;have C:=(Lb.fresh a (No D 0) 37).alloc (ma (No D 0).toArray 37);have E:=Lb.fresh (a.alloc (ma (No D 0).toArray 37)) (No D 0) 37;rw[Yz,I]at E;rw[I]at C;have l:(Ba w ((a.alloc (ma (No D 0).toArray 37)).alloc (ma (No D 0).toArray 37))/\Lb ((a.alloc (ma (No D 0).toArray 37)).alloc (ma (No D 0).toArray 37)) (w.heap.size+1) (No D 0)/\Lb ((a.alloc (ma (No D 0).toArray 37)).alloc (ma (No D 0).toArray 37)) (w.heap.size+1+1) (No D 0)/\((a.alloc (ma (No D 0).toArray 37)).alloc (ma (No D 0).toArray 37)).rangeAt w.heap.size 0 (D.map Kf)):=⟨y.va z,C,E,zc H (z.block _ (by omega))⟩;rw[<-o]at l;exact l
 clear hWW;have g:=Hq hD;have d:(oa.info? 37).map (·.size)=some (D.map Kf).length:=by rw[qp];simp[hD]
 clear hD;go_loopg [4] 32 (λgh i wr=>∃k,k<=32/\gh=32-k/\i=Ia ka (k:Int)/\Ba w wr/\Lb wr (w.heap.size+1) (No D 0)/\Lb wr (w.heap.size+1+1) (No D k)/\wr.rangeAt w.heap.size 0 (D.map Kf))
 case atStart=>exact⟨0,by omega,rfl,rfl,K.o⟩
 case round=>
  obtain⟨k,N,rfl,rfl,p,h,c,q⟩:=hrel;by_cases b:k<32
  .have P:(k:Int)<32:=by omega
   have m:k<D.length:=by rw[g.o];exact b
   have S:wr.cell? ⟨w.heap.size,k,none⟩=some (Ia .u8 ((D[k]! :Nat):Int)):=by have :=q k (Kf D[k]!) (by rw[Yt,Zk m,Z9 D k m];rfl);rw[Zf]at this;exact this
   obtain⟨Q,R⟩:=c.2 k _ (NH _ k g b);have T:=c.1;have f:=Hq (A4 p h c q);clear p h c q;go_wp2;go_roundg (32-(k+1))
   case measure=>omega
   case rel=>refine⟨k+1,by omega,rfl,ld (by omega),f.1.setCell (by simp only;omega) _,f.2.1.og (by simp only;omega) _,?_,zc f.2.2.2 (Zd _ _ _ _ (by simp only;omega))⟩;have :=f.2.2.1.setAt k (Kf D[k]!) (by rw[nE _ _ g.o (by omega)];exact b);rw[dF _ k g.o b]at this;rw[Z9 D k m]at this;exact this
  .have F:k=32:=by omega
   subst F;rw[TI _ g.o]at c;have s:wr.rangeAt (w.heap.size+1+1) 0 (D.map Kf):=λj u O=>by rw[Zf];exact(c.2 j u O).1
   have n:wr.there (w.heap.size+1) 0 (D.map Kf).toArray.size:=λj M=>by
    rw[Ym,Zl,g.o]at M;have B:(No D 0)[j]? =some (Kf 0):=by unfold No;rw[Xr,J9,Xi,List.getElem?_replicate,Zo (by omega)]
    rw[Zf];exact⟨by rw[(h.2 j _ B).1];rfl,(h.2 j _ B).2⟩
   have t:(oa.info? 37).map (·.size)=some (D.map Kf).toArray.size:=by rw[Ym];exact d
   have r:(D.map Kf).toArray.all (·.oneCell')=true:=by rw[List.all_toArray,Xy];exact Mo _
   have f:Aside (Ba w wr):=p;obtain⟨L,x⟩:=nm (D.map Kf);rw[x]at s n d t r;have J:=Hq x;clear p h c q b x N;go_wp2_with (first
    | (refine Zr rfl 37 _ rfl (w.heap.size+1+1) 0 rfl L _ s underlying37 rfl d ?_)
    | (refine Zs rfl 37 _ _ rfl (w.heap.size+1) 0 L.toArray rfl rfl n t r ?_))
   have G:=Zn wr (w.heap.size+1) 0 L (by rw[<-Ym];exact n);refine Zv (v:=Sa L.toArray) (JD results98 _ _ _ (w.heap.size+1) rfl (Yg _ _ _ 37 _ _ G underlying37 rfl d)) rfl ⟨by rw[J.o],?_⟩;exact Cg f (Nat.le_succ _) _ _
end
section
theorem NF{w:Fa}(p1 p2:Option Addr)(c1 c2:Nat)(l:List Da)(h1:Nf w p1 l c1)(h2:Nf w p2 l c2)(hl:l.length<=9223372036854775806):Calls oa 63 #[Ma p1 l.length c1,Ma p2 l.length c2] w λe w'=>e=na (Oa true)/\Ba w w':=by
 have G:((l.length:Int) != (l.length:Int))=false:=by simp
 have x:=Hq h1;have y:=Hq h2;have B:=Hq hl;clear h1 h2 hl;go_enter func63,ntmps63;go_wp2;go_loopg [5] l.length (λgh i wr=>∃k,k<=l.length/\gh=l.length-k/\i=Ia ka ((k:Nat):Int)/\Ba w wr)
 case atStart=>exact⟨0,Xa _,rfl,rfl,Zb _ _⟩
 case round=>
  obtain⟨k,v,rfl,rfl,c⟩:=hrel;by_cases a:k<l.length
  .have D:(k:Int)<(l.length:Int):=by omega
   obtain⟨s,n⟩:∃s,l[k]? =some s:=⟨l[k],Zk a⟩;obtain⟨r,E,rfl,d,h⟩:∃g o,p1=some ⟨g,o,none⟩/\g<w.heap.size/\w.rangeAt g o (l.map Value.string):=by
    rcases x.o with⟨_,e,_⟩|⟨g,o,e1,_,e2,e3⟩;.rw[e]at a;simp at a
    .exact⟨g,o,e1,e2 (by omega),e3⟩
   obtain⟨t,F,rfl,f,j⟩:∃g o,p2=some ⟨g,o,none⟩/\g<w.heap.size/\w.rangeAt g o (l.map Value.string):=by
    rcases y.o with⟨_,e,_⟩|⟨g,o,e1,_,e2,e3⟩;.rw[e]at a;simp at a
    .exact⟨g,o,e1,e2 (by omega),e3⟩
   have p:Hid (∀W,Ba w W->W.cell? ⟨r,E+k,none⟩=some (La s)/\W.cell? ⟨t,F+k,none⟩=some (La s)):=λW b=>⟨zc h (b.block r d) k (La s) (by rw[Yt,n];rfl),zc j (b.block t f) k (La s) (by rw[Yt,n];rfl)⟩;have m:=Hq (A2 a B.o);clear v a n d h f j;go_upto_region 6 with fail
   refine ml (C:=λW=>Ba w W) (by kernel_rfl) (by kernel_rfl) (c.trans (Zb _ _).drew) ?_;repeat (go_big_quiet_step (first|exact λ_=>rfl| (intro b;rw[(p.o _ b).1];exact⟨rfl,rfl⟩)| (intro b;rw[(p.o _ b).2];exact⟨rfl,rfl⟩)))
   refine X4 λW u=>?_;have q:=Hq u;clear u c;go_wp2;go_roundg (l.length-(k+1))
   case measure=>have :=m.o;omega
   case rel=>exact⟨k+1,by have :=m.o;omega,rfl,ld (gC k (by have :=m.o;omega)),q.o⟩
  .obtain rfl:k=l.length:=by omega
   have D:¬(l.length:Int)<(l.length:Int):=by omega
   have z:=Hq c;clear c v a;go_wp2;go_ret;exact⟨rfl,z.o⟩
end
section
def At:Da:=⟨#[110,111,116,32,121,111,117,114,115]⟩
theorem uI:(oa.info? 9).map (λi=>(i.zero,i.size,i.bytes))=some (some (La ⟨#[]⟩),1,16):=by kernel_rfl
theorem yB(a b:Nat)(h:a+b<=4294967296):wrap64 ((a:Int)+(b:Int))=((a+b:Nat):Int):=by unfold wrap64;omega
def Ie(W:Fa)(g:Nat)(l:List Da):Prop:=g<W.heap.size/\W.rangeAt g 0 (l.map Value.string++[La At,La At])
variable{g:Nat}{l:List Da}
theorem Ie.below{W W':Fa}(h:Ie W g l)(hb:Ba W W'):Ie W' g l:=⟨Zm h.1 hb.size,zc h.2 (hb.block g h.1)⟩
theorem Ie.row{W:Fa}(h:Ie W g l):Ic W (some ⟨g,0,none⟩) l (l.length+2):=.inr ⟨g,0,rfl,by omega,λ_=>h.1,λj u hu=>h.2 j u (by rw[Yl (by have :=(Zw.1 hu).1;exact this)];exact hu)⟩
variable{w:Fa}
theorem wJ{p:Option Addr}{c n:Nat}(h:Nf w p l c)(hl:l.length<=n)(hth:w.there g 0 n):(Builtin.copy_ #[40,40] 3 #[Ma (some ⟨g,0,none⟩) n n,Ma p l.length c]).run oa w=.ok (goInt l.length) (w.setCells g 0 (l.map Value.string)):=by
 have d:(oa.info? 9).map (·.size)=some 1:=by obtain⟨m,f,i,e,k⟩:=Xl uI;rw[f];simp[e]
 rcases h with⟨_,rfl,_⟩|⟨g',o,rfl,e2,e3,e4⟩;.have :=run_copy_none (P:=oa) w 40 40 3 9 (some ⟨g,0,none⟩) p n n 0 c underlying40 d (by simp);exact this
 .have :=run_copy_cells (P:=oa) w 40 40 3 9 g 0 n n ⟨g',o,none⟩ l.length c (l.map Value.string) underlying40 d (by rw[Zl];exact(Vf hl).symm) (λj v b=>by rw[X7];exact e4 j v b) (λj a=>(hth j (by rw[Zl]at a;omega)).1) (λj a=>(hth j (by rw[Zl]at a;omega)).2) (λv b=>by obtain⟨s,_,rfl⟩:=Xd.1 b;rfl);rw[Zl]at this;exact this
theorem Ly(p:Option Addr)(c:Nat)(l:List Da)(h:Nf w p l c)(hl:l.length<=1048576):Calls oa 42 #[Ma p l.length c] w λe w'=>e=na (Ma (some ⟨w.heap.size,0,none⟩) (l.length+2) (l.length+2))/\Ie w' w.heap.size l/\Ba w w':=by
 obtain⟨R,Q,F,G,H⟩:=Xl uI;obtain⟨n,t⟩:=nm (l.length+2);obtain⟨M,J⟩:=nm (madeCells (Value.string ⟨#[]⟩).cells (((n:Nat):Int).toNat*R.size));have z:M.size=n:=by rw[<-J,size_madeCells,G];simp
 have Y:(Instr.makeSlice 40 (Ia ka (n:Int)) (Ia ka (n:Int))).run oa w=.ok (Ma (some ⟨w.heap.size,0,none⟩) n n) (w.alloc (ma M 9)):=by have h:=run_make (P:=oa) w 40 9 R (La ⟨#[]⟩) underlying40 Q F ka ka (n:Int) (n:Int) (by omega) (by omega) (by rw[H];omega) (by omega);rw[J]at h;simpa using h
 have g:(w.alloc (ma M 9)).there w.heap.size 0 n:=λj K=>⟨by rw[Zf,Ze];simp[z,K],Xg _ _ _ _⟩;have k:Ba w (w.alloc (ma M 9)):=(Zb _ _).alloc (Za _) _;have N:=wJ (Sh h k) (by omega :l.length<=n) g;have i:Ba w ((w.alloc (ma M 9)).setCells w.heap.size 0 (l.map Value.string)):=Cg k (Za _) _ _;have o:=Zn (w.alloc (ma M 9)) w.heap.size 0 (l.map Value.string) (λj K=>g j (by rw[Zl]at K;omega));have d:=Xb g w.heap.size 0 (l.map Value.string);have q:w.heap.size<((w.alloc (ma M 9)).setCells w.heap.size 0 (l.map Value.string)).heap.size:=by rw[(Og _ _ _ _).1];simp
 obtain⟨s,B⟩:=nm ((w.alloc (ma M 9)).setCells w.heap.size 0 (l.map Value.string));rw[B]at N i o d q;have V:wrap64 ((l.length:Int)+2)=(n:Int):=by rw[<-t];exact yB l.length 2 (by omega)
 have x:wrap64 ((l.length:Int)+1)=((l.length+1:Nat):Int):=yB l.length 1 (by omega);obtain⟨x1,E⟩:=X9.1 (d l.length (by omega)).1;obtain⟨X,r⟩:=X9.1 (d (l.length+1) (by omega)).1;have O:=(d l.length (by omega)).2;have C:=(d (l.length+1) (by omega)).2;rw[Zf]at E r O C;obtain⟨n1,m⟩:=nm (l.length+1);rw[m]at r C x;have Z:(l.length:Int)<(n:Int):=by omega
 have i2:(n1:Int)<(n:Int):=by omega
 have D:¬n1=l.length:=by omega
 have S:Hid (Ba w s/\s.rangeAt w.heap.size 0 (l.map Value.string)/\w.heap.size<s.heap.size/\s.there w.heap.size 0 n/\l.length+2=n/\l.length+1=n1):=⟨i,o,q,d,t,m⟩;clear h hl Q F G H J z g k i o d q B;rw[t];clear t m;go_enter func42,ntmps42;go_wp2;go_ret;have I:=S.o;refine⟨rfl,⟨by simpa using I.2.2.1,λj u f=>?_⟩,(I.1.setCell (p:=⟨w.heap.size,l.length,none⟩) (Za _) _).setCell (p:=⟨w.heap.size,n1,none⟩) (Za _) _⟩;rw[Zf];have y:∀(W:Fa) (a b:Nat) (v:Value),a≠b->(W.setCell ⟨w.heap.size,a,none⟩ v).cell? ⟨w.heap.size,b,none⟩=W.cell? ⟨w.heap.size,b,none⟩:=λW a b v h=>by apply Zp;intro e;cases e;exact h rfl
 by_cases T:j<l.length;.rw[Yl (by rw[Zl];exact T)]at f;have :=I.2.1 j u f;rw[Zf]at this;rw[y _ _ _ _ (by omega),y _ _ _ _ (by omega)];exact this
 .rw[Z4 (by rw[Zl];omega),Zl]at f;by_cases L:j=l.length;.rw[L,J4]at f;cases f;rw[L,y _ _ _ _ D];exact Ys _ _ _ E
  .by_cases U:j=n1
   .have e:j-l.length=1:=by omega
    rw[e]at f;cases f;rw[U];exact Ys _ _ _ (u:=X) (by rw[y _ _ _ _ (λe=>D e.symm)];exact r)
   .have :=(Zw.1 f).1;simp at this;omega
theorem qw(p:Option Addr)(c g:Nat)(l:List Da)(h:Nf w p l c)(hL:Ie w g l)(hl:l.length<=1048576):Calls oa 45 #[Ma (some ⟨g,0,none⟩) (l.length+2) (l.length+2),Ma p l.length c] w λe w'=>e=na (Oa true)/\Ba w w':=by
 have i:=Hq (NF (some ⟨g,0,none⟩) p (l.length+2) c l hL.row.vg h (by omega));obtain⟨n,q⟩:=nm (l.length+2);have b:wrap64 ((l.length:Int)+1)=((l.length+1:Nat):Int):=yB l.length 1 (by omega);obtain⟨n1,d⟩:=nm (l.length+1);have o:∀W,Ba w W->W.cell? ⟨g,l.length,none⟩=some (La At)/\W.cell? ⟨g,n1,none⟩=some (La At):=λW t=>by have r:=(zc hL.2 (t.block g hL.1));have j:=r l.length (La At) (by rw[Z4 (by simp),Zl,J4];rfl);have k:=r n1 (La At) (by rw[Z4 (by simp;omega),Zl,show n1-l.length=1 by omega];rfl);rw[Zf]at j k;exact⟨j,k⟩
 have f:=Hq o;have y:(l.length:Int)<=(n:Int):=by omega
 have z:(l.length:Int)<(n:Int):=by omega
 have B:(n1:Int)<(n:Int):=by omega
 have m:At=⟨#[110,111,116,32,121,111,117,114,115]⟩:=rfl;rw[q]at i⊢;rw[d]at b;rw[m]at f;clear h hL hl o q d m;go_enter func45,ntmps45;go_wp2_with fail
 refine i.mono ?_;rintro e u ⟨rfl,a⟩;obtain⟨v,x⟩:=f u a;have s:=Hq a;clear a f;go_wp2;go_ret;exact⟨rfl,s.o⟩
end
section
structure ri(w3:Fa)(y0 y1 y2 y3:Value)(d11 d14:Bool)(v11:Value)(W:Fa):Prop where
 below:Ba w3 W
 ft:d11=true->∃f x0 x1 x2 x3,v11=Qa (some ⟨f,0,none⟩)/\w3.heap.size<=f/\W.heap[f]? =some (ma #[x0,x1,x2,x3] 91 (0,0))/\(d14=true->x0=y0/\x1=y1/\x2=y2/\x3=y3)
 za:d14=true->d11=true
section
variable{w3 W W':Fa}{y0 y1 y2 y3 v11:Value}{d11 d14:Bool}
theorem ri.start(h:Ba w3 W)(e1:d11=false)(e2:d14=false):ri w3 y0 y1 y2 y3 d11 d14 v11 W:=by subst e1 e2;exact⟨h,λq=>(by cases q),λq=>(by cases q)⟩
theorem ri.more(h:ri w3 y0 y1 y2 y3 d11 d14 v11 W)(hb:Ba W W'):ri w3 y0 y1 y2 y3 d11 d14 v11 W':=⟨h.below.va hb,λq=>by obtain⟨f,x0,x1,x2,x3,e1,e2,e3,e4⟩:=h.ft q;exact⟨f,x0,x1,x2,x3,e1,e2,(hb.block f (Zg.1 e3).1).trans e3,e4⟩,h.za⟩
theorem ri.yv(h:ri w3 y0 y1 y2 y3 d11 d14 v11 W)(e:d11=false):ri w3 y0 y1 y2 y3 true d14 (Qa (some ⟨W.heap.size,0,none⟩)) (W.alloc (ma #[Ia ka 0,Ia ka 0,Ia ka 0,Ia ka 0] 91)):=⟨h.below.va ((Zb _ _).alloc (Za _) _),λ_=>⟨W.heap.size,_,_,_,_,rfl,h.below.size,Z6,λq=>(by rw[h.za q]at e;cases e)⟩,λ_=>rfl⟩
theorem ri.put(h:ri w3 y0 y1 y2 y3 d11 d14 v11 W)(e:d11=true):∃f x0 x1 x2 x3,v11=Qa (some ⟨f,0,none⟩)/\W.heap[f]? =some (ma #[x0,x1,x2,x3] 91 (0,0))/\ri w3 y0 y1 y2 y3 d11 true v11 ((((W.setCell ⟨f,0,none⟩ y0).setCell ⟨f,1,none⟩ y1).setCell ⟨f,2,none⟩ y2).setCell ⟨f,3,none⟩ y3):=by obtain⟨f,x0,x1,x2,x3,a,b,c,d⟩:=h.ft e;exact⟨f,x0,x1,x2,x3,a,c,xt h.below b _ _ _ _,λ_=>⟨f,y0,y1,y2,y3,a,b,rn c _ _ _ _,λ_=>⟨rfl,rfl,rfl,rfl⟩⟩,λ_=>e⟩
theorem ri.fin(h:ri w3 y0 y1 y2 y3 true true v11 W):∃f,v11=Qa (some ⟨f,0,none⟩)/\w3.heap.size<=f/\W.heap[f]? =some (ma #[y0,y1,y2,y3] 91 (0,0)):=by obtain⟨f,e,g,i,j,a,b,c,d⟩:=h.ft rfl;obtain⟨rfl,rfl,rfl,rfl⟩:=d rfl;exact⟨f,a,b,c⟩
end
theorem pw(q:Except Er (Option Da)):∃a b c d:Nat,Nq q=Ki a b c d:=by
 cases q with
 |error er=>exact⟨_,_,_,_,rfl⟩
 |ok o=>exact⟨0,0,0,0,rfl⟩
theorem ND{w:Fa}(sent:Nat->Addr)(h:List Nat)(K:Array Nat)(l:List Da)(p:Option Addr)(c:Nat)(hE:Env w.heap.size sent w)(hTy:Ht w)(hTl:14<w.heap.size)(hh:h.length=32)(hhb:∀x∈h,x<256)(hK:K.size=32)(hKb:K3 K)(hr:Nf w p l c)(hl:l.length<=1048576):Calls oa 12 #[Sa (h.map Kf).toArray,Sa (K.toList.map Kf).toArray,Ma p l.length c] w λe w'=>e=na (Oa true)/\Ba w w':=by
 have aq:=underlying39;have ao:=underlying37;have ch:(oa.info? 39).map (·.size)=some (h.map Kf).length:=by
  have :(oa.info? 39).map (·.size)=some 32:=by kernel_rfl
  rw[this];simp[hh]
 have cf:=Mb hK
 obtain⟨q,hq⟩:=nm (Ao h (Kg (Kl K.toList)) (l.map Ke));obtain⟨M,G,I,H,al⟩:=pw q;obtain⟨S,hS⟩:=nm (Ng q);obtain⟨B,hB⟩:=nm (Nh q);have bj:K.toList.length=32:=by simpa using hK
 have ah:∀x∈K.toList,x<256:=λx hx=>by obtain⟨i,hi,rfl⟩:=Xv hx;have :=hKb i;rw[Z9 K i (by simpa using hi)]at this;simpa using this
 have ae:Hid (∀W g n,Ba w W->Ie W g l->n=l.length+2->Calls oa 43 #[Sa (h.map Kf).toArray,Sa (K.toList.map Kf).toArray,Ma (some ⟨g,0,none⟩) l.length n] W λe w'=>e=na (Wa #[La S,Oa B,Sa #[Ia ka (M:Int),Ia ka (G:Int),Ia ka (I:Int),Ia ka (H:Int)]])/\Ba W w'):=λW g n F hL hn=>by have :=tL sent h K l (some ⟨g,0,none⟩) n ((hE.below F).raise F.size) ((F.cell (p:=⟨14,0,none⟩) hTl).trans hTy) (Zm hTl F.size) hh hhb hK hKb (by rw[hn];exact hL.row) (by omega) (q:=q) hq;rw[hS,hB,al]at this;exact this
 have ac:Hid (∀W,Ba w W->Calls oa 44 #[Sa (h.map Kf).toArray,Sa (K.toList.map Kf).toArray,Ma p l.length c] W λe w'=>e=na (Wa #[La S,Oa B,Sa #[Ia ka (M:Int),Ia ka (G:Int),Ia ka (I:Int),Ia ka (H:Int)]])/\Ba W w'):=λW F=>by have :=YC h K.toList p l c (Sh hr F) (by omega) hh hhb bj ah hq;rw[hS,hB,al]at this;exact this
 have cw:Hid (∀W,Ba w W->Calls oa 42 #[Ma p l.length c] W λe w'=>e=na (Ma (some ⟨W.heap.size,0,none⟩) (l.length+2) (l.length+2))/\Ie w' W.heap.size l/\Ba W w'):=λW F=>Ly p c l (Sh hr F) hl;have au:Hid (∀W g,Ba w W->Ie W g l->Calls oa 45 #[Ma (some ⟨g,0,none⟩) (l.length+2) (l.length+2),Ma p l.length c] W λe w'=>e=na (Oa true)/\Ba W w'):=λW g F hL=>qw p c g l (Sh hr F) hL hl;obtain⟨w2,ar⟩:=nm ((w.alloc (ma (h.map Kf).toArray 39)).alloc (ma (K.toList.map Kf).toArray 37));have bm:Ba w w2:=by rw[<-ar];exact yj w _ _
 have O:w2.rangeAt w.heap.size 0 (h.map Kf)/\w2.rangeAt (w.heap.size+1) 0 (K.toList.map Kf)/\w2.heap.size=w.heap.size+1+1:=by rw[<-ar];refine⟨?_,tw w _ _ _,by simp⟩;have b:Below (w.alloc (ma (h.map Kf).toArray 39)).heap.size (w.alloc (ma (h.map Kf).toArray 39)) ((w.alloc (ma (h.map Kf).toArray 39)).alloc (ma (K.toList.map Kf).toArray 37)):=(Zb _ _).alloc (Za _) _;exact zc (wg w (h.map Kf) _) (b.block _ (by simp))
 have X:Hid (Ba w w2/\w2.rangeAt w.heap.size 0 (h.map Kf)/\w2.rangeAt (w.heap.size+1) 0 (K.toList.map Kf)/\w2.heap.size=w.heap.size+1+1):=⟨bm,O⟩;clear hE hTy hTl hh hhb hK hKb hr hl hq al hS hB bj ah bm O;go_enter func12,ntmps12;go_wp2_with fail
 clear ar;refine(cw w2 X.1).mono ?_;rintro e y ⟨rfl,bl,N⟩;obtain⟨g,hg⟩:=nm w2.heap.size;obtain⟨n,hn⟩:=nm (l.length+2);have L:Hid (Ie y g l/\Ba w y/\y.rangeAt w.heap.size 0 (h.map Kf)/\y.rangeAt (w.heap.size+1) 0 (K.toList.map Kf)/\w.heap.size+1<y.heap.size/\l.length+2=n):=by have hs:=X.2.2.2;exact⟨by rw[<-hg];exact bl,X.1.va N,zc X.2.1 (N.block _ (by omega)),zc X.2.2.1 (N.block _ (by omega)),by have :=N.size;omega,hn⟩
 have dn:(l.length:Int)<=(n:Int):=by omega
 rw[hg,hn];clear bl N hg hn;go_upto_region 2 with fail
 obtain⟨z,R⟩:∃v:Value,v=Ia ka (M:Int):=⟨_,rfl⟩;obtain⟨C,T⟩:∃v:Value,v=Ia ka (G:Int):=⟨_,rfl⟩;obtain⟨D,U⟩:∃v:Value,v=Ia ka (I:Int):=⟨_,rfl⟩;obtain⟨E,V⟩:∃v:Value,v=Ia ka (H:Int):=⟨_,rfl⟩;have az:Hid (z=Ia ka (M:Int)/\C=Ia ka (G:Int)/\D=Ia ka (I:Int)/\E=Ia ka (H:Int)):=⟨R,T,U,V⟩;have Z:Hid ((#[z,C,D,E]:Array Value).all (·.oneCell')=true):=Hq (by rw[R,T,U,V];simp[Value.oneCell']);have ay:Hid (∀W,Ba y W->Calls oa 43 #[Sa (h.map Kf).toArray,Sa (K.toList.map Kf).toArray,Ma (some ⟨g,0,none⟩) l.length n] W λe w'=>e=na (Wa #[La S,Oa B,Sa #[z,C,D,E]])/\Ba W w'):=λW F=>by rw[R,T,U,V];exact ae W g n (L.2.1.va F) (L.1.below F) L.2.2.2.2.2.symm
 have HR:Hid (∀W,Ba y W->W.rangeAt w.heap.size 0 (h.map Kf)/\W.rangeAt (w.heap.size+1) 0 (K.toList.map Kf)):=λW F=>by have hs:=L.2.2.2.2.1;exact⟨zc L.2.2.1 (F.block _ (by omega)),zc L.2.2.2.1 (F.block _ (by omega))⟩
 clear R T U V;go_cut [8,9,10] (λv8 v9 v10 wd=>∃f,v8=La S/\v9=Oa B/\v10=Qa (some ⟨f,0,none⟩)/\y.heap.size<=f/\wd.heap[f]? =some (ma #[z,C,D,E] 91 (0,0))/\Ba y wd)
 case first=>
  have df:Ba y y.drew:=(Zb _ _).drew;refine Vj (by kernel_rfl) ?_;change wpAny _ _ _ _ _ _ _ (World.drew _);obtain⟨vf,a⟩:∃vf:Nat->Option Value,vf=λi=>([some (Sa (h.map Kf).toArray),some (Sa (K.toList.map Kf).toArray),some (Ma (some ⟨g,0,none⟩) n n),some (Ma p l.length c),some (Ia ka (l.length:Int)),some (Ma (some ⟨g,0,none⟩) l.length n),some (Wa #[La S,Oa B,Sa #[z,C,D,E]]),some (Wa #[La S,Oa B,Sa #[z,C,D,E]]),some (La S),some (Oa B),some (Sa #[z,C,D,E]),none,some (La S),some (Oa B),none]:List (Option Value)).getD i none:=⟨_,rfl⟩;refine jr _ (λd v w'=>(∀i x,vf i=some x->d i=true->v i=x)/\(λd v w'=>ri y z C D E (d 11) (d 14) (v 11) w') d v w') (by kernel_rfl) (by kernel_rfl) ?_ _ (λ_=>undef) ?_ ?_
  .intro i o r dj u b W m t k j;have hi:i<15:=(Zg.1 r).1;match i,hi with
   |0,_=>obtain rfl:=Zi r;have t3:b.tmps[3]? =some (Qa (some ⟨w.heap.size,0,none⟩)):=(m.rest 3 (λi _=>Qh (by kernel_rfl) i)).trans rfl;refine Jv 39 (.tmp 3) rfl w.heap.size 0 (by simp only[Act.eval,Ya,t3,Yk]) (h.map Kf) _ (HR W j.2.below).1 aq rfl ch ?_;exact⟨_,rfl,mj j.1 (by rw[a];rfl),j.2⟩
   |1,_=>obtain rfl:=Zi r;have t4:b.tmps[4]? =some (Qa (some ⟨w.heap.size+1,0,none⟩)):=(m.rest 4 (λi _=>Qh (by kernel_rfl) i)).trans rfl;refine Jv 37 (.tmp 4) rfl (w.heap.size+1) 0 (by simp only[Act.eval,Ya,t4,Yk]) (K.toList.map Kf) _ (HR W j.2.below).2 ao rfl cf ?_;exact⟨_,rfl,mj j.1 (by rw[a];rfl),j.2⟩
   |2,_=>obtain rfl:=Zi r;have t7:b.tmps[7]? =some (Ma (some ⟨g,0,none⟩) n n):=(m.rest 7 (λi _=>Qh (by kernel_rfl) i)).trans rfl;refine Qe j.1 (by rw[a];rfl) j.2 ?_;clear r k m j t a;go_simp
   |3,_=>obtain rfl:=Zi r;have t2:b.tmps[2]? =some (Ma p l.length c):=(m.rest 2 (λi _=>Qh (by kernel_rfl) i)).trans rfl;refine Qe j.1 (by rw[a];rfl) j.2 ?_;clear r k m j t a;go_simp
   |4,_=>obtain rfl:=Zi r;have du:b.tmps[22]? =some (Ma p l.length c):=sd m j.1 (k ⟨3,.data⟩ (by simp) rfl) rfl (by simp) (by rw[a];rfl);refine Qe j.1 (by rw[a];rfl) j.2 ?_;clear r k m j t a;go_simp
   |5,_=>obtain rfl:=Zi r;have dt:b.tmps[21]? =some (Ma (some ⟨g,0,none⟩) n n):=sd m j.1 (k ⟨2,.data⟩ (by simp) rfl) rfl (by simp) (by rw[a];rfl);have dv:b.tmps[23]? =some (Ia ka (l.length:Int)):=sd m j.1 (k ⟨4,.data⟩ (by simp) rfl) rfl (by simp) (by rw[a];rfl);refine Qe j.1 (by rw[a];rfl) j.2 ?_;clear r k m j t a;go_simp
   |6,_=>
    obtain rfl:=Zi r;have dq:b.tmps[19]? =some (Sa (h.map Kf).toArray):=sd m j.1 (k ⟨0,.data⟩ (by simp) rfl) rfl (by simp) (by rw[a];rfl);have dr:b.tmps[20]? =some (Sa (K.toList.map Kf).toArray):=sd m j.1 (k ⟨1,.data⟩ (by simp) rfl) rfl (by simp) (by rw[a];rfl);have dw:b.tmps[24]? =some (Ma (some ⟨g,0,none⟩) l.length n):=sd m j.1 (k ⟨5,.data⟩ (by simp) rfl) rfl (by simp) (by rw[a];rfl);refine zo (Wa #[La S,Oa B,Sa #[z,C,D,E]]) (λw9 aj=>⟨_,rfl,mj j.1 (by rw[a];rfl),j.2.more aj⟩) ?_;have cu:=Hq j;clear r k m j t a;go_simp;go_at_call 43
    refine(ay W cu.2.below).mono ?_;rintro e w9 ⟨rfl,aj⟩;exact⟨rfl,aj⟩
   |7,_=>obtain rfl:=Zi r;have dz:b.tmps[25]? =some (Wa #[La S,Oa B,Sa #[z,C,D,E]]):=sd m j.1 (k ⟨6,.data⟩ (by simp) rfl) rfl (by simp) (by rw[a];rfl);refine Qe j.1 (by rw[a];rfl) j.2 ?_;clear r k m j t a;go_simp
   |8,_=>obtain rfl:=Zi r;have ci:b.tmps[18]? =some (Wa #[La S,Oa B,Sa #[z,C,D,E]]):=sd m j.1 (k ⟨7,.data⟩ (by simp) rfl) rfl (by simp) (by rw[a];rfl);refine Qe j.1 (by rw[a];rfl) j.2 ?_;clear r k m j t a;go_simp
   |9,_=>obtain rfl:=Zi r;have ci:b.tmps[18]? =some (Wa #[La S,Oa B,Sa #[z,C,D,E]]):=sd m j.1 (k ⟨7,.data⟩ (by simp) rfl) rfl (by simp) (by rw[a];rfl);refine Qe j.1 (by rw[a];rfl) j.2 ?_;clear r k m j t a;go_simp
   |10,_=>obtain rfl:=Zi r;have ci:b.tmps[18]? =some (Wa #[La S,Oa B,Sa #[z,C,D,E]]):=sd m j.1 (k ⟨7,.data⟩ (by simp) rfl) rfl (by simp) (by rw[a];rfl);refine Qe j.1 (by rw[a];rfl) j.2 ?_;clear r k m j t a;go_simp
   |11,_=>obtain rfl:=Zi r;refine Vd (K:=λa' w'=>a'=b.put (some 10) (Qa (some ⟨W.heap.size,0,none⟩))/\w'=W.alloc (ma #[Ia ka 0,Ia ka 0,Ia ka 0,Ia ka 0] 91)) (by rintro a' w' ⟨rfl,rfl⟩;exact⟨_,rfl,vo j.1 (by rw[a];rfl),j.2.yv t⟩) ?_;clear r k m j t a;go_simp
   |12,_=>obtain rfl:=Zi r;have eh:b.tmps[26]? =some (La S):=sd m j.1 (k ⟨8,.data⟩ (by simp) rfl) rfl (by simp) (by rw[a];rfl);refine Qe j.1 (by rw[a];rfl) j.2 ?_;clear r k m j t a;go_simp
   |13,_=>obtain rfl:=Zi r;have ei:b.tmps[27]? =some (Oa B):=sd m j.1 (k ⟨9,.data⟩ (by simp) rfl) rfl (by simp) (by rw[a];rfl);refine Qe j.1 (by rw[a];rfl) j.2 ?_;clear r k m j t a;go_simp
   |14,_=>obtain rfl:=Zi r;have dm:b.tmps[28]? =some (Sa #[z,C,D,E]):=sd m j.1 (k ⟨10,.data⟩ (by simp) rfl) rfl (by simp) (by rw[a];rfl);have ba:=k ⟨11,.data⟩ (by simp) rfl;obtain⟨f,x0,x1,x2,x3,G,H,de⟩:=j.2.put ba;have dk:b.tmps[10]? =some (Qa (some ⟨f,0,none⟩)):=(m.done 11 10 ba rfl (by simp)).trans (Y5 some G);refine J5 91 (.tmp 10) (.tmp 28) rfl f 0 #[z,C,D,E] (by simp only[Act.eval,Ya,dk,Yk]) (by simp only[Act.eval,Ya,dm,Yk]) (vj H rfl) (by kernel_rfl) Z.o ?_;exact⟨undef,rfl,vo j.1 (by rw[a];rfl),de⟩
  .exact⟨λ_ _ _ h=>(by simp at h),ri.start df (by simp) (by simp)⟩
  .intro u W j;have e0:u 0=Sa (h.map Kf).toArray:=j.1 0 _ (by rw[a];rfl) rfl;have e1:u 1=Sa (K.toList.map Kf).toArray:=j.1 1 _ (by rw[a];rfl) rfl;have e2:u 2=Ma (some ⟨g,0,none⟩) n n:=j.1 2 _ (by rw[a];rfl) rfl;have e3:u 3=Ma p l.length c:=j.1 3 _ (by rw[a];rfl) rfl;have e4:u 4=Ia ka (l.length:Int):=j.1 4 _ (by rw[a];rfl) rfl;have e5:u 5=Ma (some ⟨g,0,none⟩) l.length n:=j.1 5 _ (by rw[a];rfl) rfl;have e6:u 6=Wa #[La S,Oa B,Sa #[z,C,D,E]]:=j.1 6 _ (by rw[a];rfl) rfl;have e7:u 7=Wa #[La S,Oa B,Sa #[z,C,D,E]]:=j.1 7 _ (by rw[a];rfl) rfl;have e8:u 8=La S:=j.1 8 _ (by rw[a];rfl) rfl;have e9:u 9=Oa B:=j.1 9 _ (by rw[a];rfl) rfl;have bc:u 10=Sa #[z,C,D,E]:=j.1 10 _ (by rw[a];rfl) rfl;have bf:u 12=La S:=j.1 12 _ (by rw[a];rfl) rfl;have bi:u 13=Oa B:=j.1 13 _ (by rw[a];rfl) rfl;have hX:=j.2;simp only[Gx,Act.put,Zf,Nat.reduceAdd,Yn,Y9,Yw,e0,e1,e2,e3,e4,e5,e6,e7,e8,e9,bc,bf,bi];clear j a e0 e1 e2 e3 e4 e5 e6 e7 e8 e9 bc bf bi;obtain⟨f,G,I,H⟩:=hX.fin;have HY:Hid (u 11=Qa (some ⟨f,0,none⟩)/\y.heap.size<=f/\W.heap[f]? =some (ma #[z,C,D,E] 91 (0,0))/\Ba y W):=⟨G,I,H,hX.below⟩;clear hX G I H;(try go_wp2);go_meet;exact⟨f,rfl,rfl,HY.1,HY.2⟩
 case rest=>
  obtain⟨f,rfl,rfl,rfl,dg,bq,Q⟩:=hcut;obtain⟨w4,rfl⟩:∃x,x=wc:=⟨_,rfl⟩;obtain⟨rfl,rfl,rfl,rfl⟩:=az.o;obtain⟨bv,O⟩:=HR _ Q;have Y:Hid (w4.heap[f]? =some (ma #[Ia ka (M:Int),Ia ka (G:Int),Ia ka (I:Int),Ia ka (H:Int)] 91 (0,0))/\Ie w4 g l/\Ba w w4):=⟨bq,L.1.below Q,L.2.1.va Q⟩;have aw:=Hq (ac w4 Y.2.2);clear dg bq Q ay HR Z ae ac az;go_wp2_with (first| (refine Zr rfl 39 _ rfl w.heap.size 0 rfl (h.map Kf) _ bv aq rfl ch ?_)| (refine Zr rfl 37 _ rfl (w.heap.size+1) 0 rfl (K.toList.map Kf) _ O ao rfl cf ?_))
  refine aw.mono ?_;rintro e P ⟨rfl,J⟩;have am:=(Zg.1 Y.1).1;have ak:Ba P (P.alloc (ma #[Ia ka (M:Int),Ia ka (G:Int),Ia ka (I:Int),Ia ka (H:Int)] 91)):=(Zb _ _).alloc (Za _) _;obtain⟨c0,c1,c2,c3,-⟩:=Wg ((J.block f am).trans Y.1);have di:¬f=P.heap.size:=by have :=J.size;omega
  have dh:f<P.heap.size:=Zm am J.size;have H6:Hid (Ie (P.alloc (ma #[Ia ka (M:Int),Ia ka (G:Int),Ia ka (I:Int),Ia ka (H:Int)] 91)) g l/\Ba w (P.alloc (ma #[Ia ka (M:Int),Ia ka (G:Int),Ia ka (I:Int),Ia ka (H:Int)] 91))):=⟨(Y.2.1.below J).below ak,(Y.2.2.va J).va ak⟩;have dc:=Hq (λW=>tD M G I H W);clear J am ak bv O aw;go_wp2_with fail
  refine(dc _).mono ?_;rintro e w7 ⟨rfl,ai⟩;have H7:Hid (Ie w7 g l/\Ba w w7):=⟨H6.1.below ai,H6.2.va ai⟩;have ag:=au w7 g H7.2 H7.1;rw[L.2.2.2.2.2]at ag;have cj:=Hq ag;clear ai ag c0 c1 c2 c3 di dh H6 au;go_wp2_with fail
  refine cj.mono ?_;rintro e w8 ⟨rfl,bn⟩;have cq:=Hq (H7.2.va bn);clear bn;go_wp2;go_ret;exact⟨rfl,cq.o⟩
end
section
theorem gE{w:Fa}(l:List Nat)(g o m cap:Nat)(hm:m=l.length)(hg:0<l.length->g<w.heap.size)(hrow:w.rangeAt g o (l.map Kf))(hT:qb w)(hM:16<=w.heap.size):Calls oa 149 #[Ma (some ⟨g,o,none⟩) m cap] w λe w'=>e=na (Sa ((Ky l).map Kf).toArray)/\Ba w w':=by
 have C:∀W,Ba w W->Sem.run oa (convert 116 9 (Ma (some ⟨g,o,none⟩) m cap)) W=.ok (La (Kg l)) W:=λW h=>
  dD (P:=oa) W 116 9 5 underlying116 underlying5 underlying9 (λj u y=>by
   have I:=(Zw.1 y).1
   rw[Zl]at I
   exact(h.cell (p:=⟨g,o+j,none⟩) (hg (by omega))).trans (hrow j u y)) m cap hm
 have H:=Hq C;have G:Hid (∀W,Ba w W->Calls oa 69 #[La (Kg l)] W λe w'=>e=na (Sa ((G8 (Kg l)).toList.map Kf).toArray)/\Ba W w'):=λW h=>Dq _ W (hT.below h hM) (Z2 hM h.size);clear hm hg hrow hT hM C;go_enter func149,ntmps149;go_upto_region 1 with fail
 generalize hw1:w.alloc (ma _ 37)=w1;have b:Ba w w1:=by rw[<-hw1];exact(Zb _ _).alloc (Za _) _
 have k:w1.there w.heap.size 0 32:=by rw[<-hw1];exact Le _ _ _ _ rfl
 have x:w.heap.size<w1.heap.size:=by rw[<-hw1];simp
 clear hw1;have E:=H w1 b;have i:=Hq (G w1 b);obtain⟨s,r⟩:=nm (Kg l);rw[r]at E i;go_wp2_with fail
 refine i.mono ?_;rintro e w3 ⟨rfl,f⟩;have d:(G8 s).size=32:=tz _;obtain⟨D,n⟩:=nm (G8 s);have F:Hid ((Ky l)=D.toList):=by rw[<-n,<-r];rfl
 rw[n]at d⊢;clear n r;have c:Ba w w3:=b.trans (f.mono (by omega));obtain⟨z,B,t,a⟩:=CR d (ve k (f.block _ (by omega)));have q:=Yp (Bi D .u8);have A3:Aside (Ba w w3/\w3.there w.heap.size 0 (D.toList.map Kf).length):=⟨c,a⟩;clear b k x f c a d E;go_wp2_with (refine Zs rfl 37 _ _ rfl w.heap.size 0 (D.toList.map Kf).toArray rfl rfl t B q ?_)
 obtain⟨c,a⟩:=A3.o;refine Zv (v:=Sa (D.toList.map Kf).toArray) (si results149 _ _ _ w.heap.size 0 rfl (Yg _ _ _ 37 _ _ (Zn _ _ _ _ a) underlying37 rfl z)) rfl ⟨?_,Cg c (Za _) _ _⟩;rw[F.o]
end
end Go.Proofs.YtpfbdlnibdfcoaaGreatDoor
