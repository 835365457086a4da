import Derived.Test.YtpfbdlnibdfcoaaGreatDoorPvRotG
namespace Go.Proofs.YtpfbdlnibdfcoaaGreatDoor
open Go.RowKit Tryz
open Value renaming int->Ia,string->La,slice->Ma,bool->Oa,pointer->Qa,agg->Sa,tuple->Wa,iface->ca,nilIface->da
open IntKind renaming i64->ka
open Obj renaming cells->ma
open Ending renaming returned->na
open Tryz renaming prog->oa
set_option maxRecDepth 100000
set_option maxHeartbeats 0
attribute [local go_sem ↓] Go.wp_at_zero Go.wp_at_succ
def andNot(a b:Nat):Nat:=a&&&(18446744073709551615-b)
variable{b:Nat}
theorem cG{a:Nat}(ha:a<18446744073709551616):andNot a b<18446744073709551616:=Vx Nat.and_le_left ha
def Gs(L:Array Nat):Nat->Array Nat
 |0=>L
 |k+1=>(Gs L k).set! k (L[k]! ^^^andNot L[5*((k/5+2)%5)+k%5]! L[5*((k/5+1)%5)+k%5]!)
theorem qA(L:Array Nat)(k:Nat):(Gs L k).size=L.size:=by
 induction k with
 |zero=>rfl
 |succ k ih=>simp[Gs,ih]
variable{L:Array Nat}
theorem YH(h:Kp L)(k:Nat):Kp (Gs L k):=by
 induction k with
 |zero=>exact h
 |succ k ih=>exact Mn ih _ _ (oh (h _) (cG (h _)))
theorem uK(a b c:Nat)(ha:a<18446744073709551616)(hb:b<18446744073709551616)(hc:c<18446744073709551616):bits .xor .u64 (a:Int) (bits .andNot .u64 (b:Int) (c:Int))=((a^^^andNot b c:Nat):Int):=by rw[u64_andNot_nat b c hb hc];exact Ja _ _ ha (cG hb)
theorem EL(b off:Nat)(L:Array Nat)(w:Fa)(hL:L.size=25)(hS:Kp L)(hb:b<w.heap.size)(hR:Row Km w b off L):Calls oa 168 #[Qa (some ⟨b,off,none⟩)] w λe w'=>e=na (Wa #[])/\Step b off (off+25) w w'/\Row Km w' b off (Gs L 25):=by
 have B:=hR.range;have h:(oa.info? 126).map (·.size)=some (L.toList.map Km).length:=by rw[Mz];simp[hL]
 have p:(oa.info? 126).map (·.size)=some (L.toList.map Km).toArray.size:=by rw[Mz];simp[hL]
 have o:=Yp (Bi L .u64);have n:(L.toList.map Km).toArray.size=25:=by simp[hL]
 have P:Aside (Row Km w b off L/\Kp L/\L.size=25):=⟨hR,hS,hL⟩;clear hR hS hL;go_enter func168,ntmps168;go_wp2_with (first
  | (refine Zr rfl 126 _ rfl b off rfl (L.toList.map Km) _ B underlying126 rfl h ?_)
  | (refine Zs rfl 126 _ _ rfl w.heap.size 0 (L.toList.map Km).toArray rfl rfl (Le _ _ _ _ n) p o ?_))
 obtain⟨hR,hS,hL⟩:=P.o;generalize hw0:w.alloc (ma _ 126)=w0;have G:Step b off (off+25) w w0:=by rw[<-hw0];exact(Step.refl _ _ _ _).alloc hb _
 have I:w.heap.size<w0.heap.size:=by rw[<-hw0];simp
 have K:w0.there w.heap.size 0 L.size:=by rw[<-hw0,hL];exact Le _ _ _ _ rfl
 have E:Row Km w0 b off L:=by rw[<-hw0];exact hR.alloc hb _
 clear hw0 hR B h p o n P;generalize hw1:w0.setCells w.heap.size 0 (L.toList.map Km)=w1;have H:Step b off (off+25) w w1:=by rw[<-hw1];exact G.yc hb (Za _) _
 have J:w.heap.size<w1.heap.size:=by rw[<-hw1,(Og _ _ _ _).1];exact I
 have t:Row Km w1 w.heap.size 0 L:=by rw[<-hw1];exact Row.Lf L K
 have F:Row Km w1 b off L:=by rw[<-hw1];exact E.yc _ _ (by omega) _
 clear hw1 G I K E;go_loopg [9] 5 (λg i wr=>∃x:Nat,x<=5/\g=5-x/\i=Ia ka x/\w.heap.size<wr.heap.size/\Step b off (off+25) w wr/\Row Km wr w.heap.size 0 L/\Row Km wr b off (Gs L (5*x)))
 case atStart=>exact⟨0,by omega,rfl,rfl,J,H,t,F⟩
 case round=>
  obtain⟨x,hx,rfl,rfl,h,d,c,a⟩:=hrel;clear J H t F;by_cases S:x<5
  .have Q:Aside (Step b off (off+25) w wr/\Row Km wr w.heap.size 0 L/\Row Km wr b off (Gs L (5*x))/\Kp L/\L.size=25):=⟨d,c,a,hS,hL⟩;clear d c a hS hL;have hd:decide ((x:Int)<5)=true:=Z5 (by omega);go_wp2;obtain⟨d,c,a,hS,hL⟩:=Q.o;go_loopg [12] 5 (λg i wr=>∃y:Nat,y<=5/\g=5-y/\i=Ia ka y/\w.heap.size<wr.heap.size/\Step b off (off+25) w wr/\Row Km wr w.heap.size 0 L/\Row Km wr b off (Gs L (5*x+y)))
   case atStart=>exact⟨0,by omega,rfl,rfl,h,d,c,a⟩
   case round=>
    obtain⟨y,hy,rfl,rfl,h,d,c,a⟩:=hrel;clear Q;by_cases T:y<5
    .have v:=qA L (5*x+y);obtain⟨M,f1⟩:=c (5*x+y) (by omega);obtain⟨N,f2⟩:=c (5*((x+2)%5)+y) (by omega);obtain⟨O,f3⟩:=c (5*((x+1)%5)+y) (by omega);obtain⟨R,f4⟩:=a (5*x+y) (by omega);have f:Gs L (5*x+(y+1))=(Gs L (5*x+y)).set! (5*x+y) (L[5*x+y]! ^^^andNot L[5*((x+2)%5)+y]! L[5*((x+1)%5)+y]!):=by show Gs L (5*x+y+1)=_;simp only[Gs];rw[show(5*x+y)/5=x by omega,show(5*x+y)%5=y by omega]
     have j:=uK _ _ _ (hS (5*x+y)) (hS (5*((x+2)%5)+y)) (hS (5*((x+1)%5)+y));rw[show 0+(5*x+y)=x*5+y by omega]at M f1;rw[show 0+(5*((x+2)%5)+y)=(x+2)%5*5+y by omega]at N f2;rw[show 0+(5*((x+1)%5)+y)=(x+1)%5*5+y by omega]at O f3;rw[show off+(5*x+y)=off+x*5+y by omega]at R f4;obtain⟨u1,q⟩:=nm (L[5*x+y]!);obtain⟨u2,r⟩:=nm (L[5*((x+2)%5)+y]!);obtain⟨u3,s⟩:=nm (L[5*((x+1)%5)+y]!);obtain⟨z,U⟩:=nm ((Gs L (5*x+y))[5*x+y]!);rw[q]at M;rw[r]at N;rw[s]at O;rw[q,r,s]at f j;rw[U]at R;have m:Aside (Step b off (off+25) w wr/\Row Km wr w.heap.size 0 L/\Row Km wr b off (Gs L (5*x+y))/\Gs L (5*x+(y+1))=(Gs L (5*x+y)).set! (5*x+y) (u1^^^andNot u2 u3)/\(Gs L (5*x+y)).size=25/\bits .xor .u64 (u1:Int) (bits .andNot .u64 (u2:Int) (u3:Int))=((u1^^^andNot u2 u3:Nat):Int)):=⟨d,c,a,f,by omega,j⟩;clear q r s U d c a f v hS hL j;have V:(⟨b,off+x*5+y,none⟩:Addr)≠⟨w.heap.size,x*5+y,none⟩:=λe=>by have l:=Y5 Addr.block e;simp only at l;omega
     have W:(⟨b,off+x*5+y,none⟩:Addr)≠⟨w.heap.size,(x+2)%5*5+y,none⟩:=λe=>by have l:=Y5 Addr.block e;simp only at l;omega
     have X:(⟨b,off+x*5+y,none⟩:Addr)≠⟨w.heap.size,(x+1)%5*5+y,none⟩:=λe=>by have l:=Y5 Addr.block e;simp only at l;omega
     have Z:IntKind.i64.wrap ((x:Int)+2)=(x:Int)+2:=Ci _ (by omega) (by omega);have b2:((x:Int)+2).tmod 5=((x:Int)+2)%5:=Xq (by omega);have d2:(0:Int)<=((x:Int)+2)%5:=by omega
     have l:((x:Int)+2)%5<5:=by omega
     have g2:(((x:Int)+2)%5).toNat=(x+2)%5:=by omega
     have Y:IntKind.i64.wrap ((x:Int)+1)=(x:Int)+1:=Ci _ (by omega) (by omega);have b1:((x:Int)+1).tmod 5=((x:Int)+1)%5:=Xq (by omega);have d1:(0:Int)<=((x:Int)+1)%5:=by omega
     have e1:((x:Int)+1)%5<5:=by omega
     have g1:(((x:Int)+1)%5).toNat=(x+1)%5:=by omega
     go_wp2;have ag:(x:Int)<5:=by omega
     go_region_held3 (λw'=>w'.cell? ⟨w.heap.size,x*5+y,none⟩=some (Km u1)/\w'.cell? ⟨w.heap.size,(x+2)%5*5+y,none⟩=some (Km u2)/\w'.cell? ⟨w.heap.size,(x+1)%5*5+y,none⟩=some (Km u3)) (first| (go_keep;done)|exact⟨(Zp _ _ _ _ V).trans M,(Zp _ _ _ _ W).trans N,(Zp _ _ _ _ X).trans O⟩) (fail)
     clear V W X Y Z b1 b2 d1 d2 e1 l g1 g2;go_wp2;obtain⟨d,c,a,f,v,j⟩:=m.o;go_roundg (5-(y+1))
     case measure=>omega
     case rel=>refine⟨y+1,by omega,rfl,by go_num,by simpa using h,d.drew.set (by omega) (by omega) _,c.drew.Cd _ (by simp;omega) _,?_⟩;rw[f];exact a.drew.set (by omega) (by omega) _ (ld j)
    .have D:y=5:=by omega
     rw[D]at a;have ac:(5:Int)<=(y:Int):=by omega
     have m:Aside (Step b off (off+25) w wr/\Row Km wr w.heap.size 0 L/\Row Km wr b off (Gs L (5*x+5))):=⟨d,c,a⟩;clear d c a hS hL D T;go_wp2;obtain⟨d,c,a⟩:=m.o;go_roundg (5-(x+1))
     case measure=>omega
     case rel=>exact⟨x+1,by omega,rfl,by go_num,h,d,c,a⟩
  .have C:x=5:=by omega
   rw[C]at a;have ae:(5:Int)<=(x:Int):=by omega
   have m:Aside (Step b off (off+25) w wr/\∀k,k=25->Row Km wr b off (Gs L k)):=⟨d,λk hk=>by subst hk;exact a⟩;clear d c a hS hL C S;go_wp2;go_end0;obtain⟨d,a⟩:=m.o;exact⟨rfl,d,a 25 rfl⟩
attribute [local go_sem ↓] Go.wp_at_zero Go.wp_at_succ
def G3(L ub:Array Nat):Nat->Array Nat
 |0=>L
 |i+1=>(G3 L ub i).set! (5*(i%5)+i/5) ((G3 L ub i)[5*(i%5)+i/5]! ^^^N5 ub (8*i) 8)
theorem kx(L ub:Array Nat)(k:Nat):(G3 L ub k).size=L.size:=by
 induction k with
 |zero=>rfl
 |succ k ih=>simp[G3,ih]
theorem Cz(ub:Array Nat)(h:Kp L)(k:Nat):Kp (G3 L ub k):=by
 induction k with
 |zero=>exact h
 |succ k ih=>exact Mn ih _ _ (oh (ih _) (fB _ _ _))
theorem Wu(L:Array Nat):(Ax L).size=L.size:=dG _ _ _
theorem wy(h:Kp L):Kp (Ax L):=cH (TB h 25) h 25
theorem dB(j:Nat):cb[j]! <18446744073709551616:=by
 by_cases h:j<24
 .have :∀i:Fin 24,cb[i.val]! <18446744073709551616:=by decide
  exact this ⟨j,h⟩
 .have :cb[j]! =0:=by have a:cb.size=24:=rfl;simp[a,h]
  rw[this];decide
def Hz(X:Array Nat)(r:Nat):Array Nat:=(Gs (Ho (Ax X) 25) 25).set! 0 ((Gs (Ho (Ax X) 25) 25)[0]! ^^^cb[r]!)
def N1(M:Array Nat):Nat->Array Nat
 |0=>M
 |r+1=>Hz (N1 M r) r
theorem xH(X:Array Nat)(r:Nat):(Hz X r).size=X.size:=by unfold Hz;simp only[Array.set!_eq_setIfInBounds,X8];rw[qA,zv,Wu]
theorem eM{X:Array Nat}(h:Kp X)(r:Nat):Kp (Hz X r):=by have a:=YH (JB (wy h) 25) 25;exact Mn a _ _ (oh (a _) (dB _))
theorem Fz(M:Array Nat)(r:Nat):(N1 M r).size=M.size:=by
 induction r with
 |zero=>rfl
 |succ r ih=>exact(xH _ _).trans ih
theorem Ow{M:Array Nat}(h:Kp M)(r:Nat):Kp (N1 M r):=by
 induction r with
 |zero=>exact h
 |succ r ih=>exact eM ih r
def N4(L ub:Array Nat):Array Nat:=N1 (G3 L ub 17) 24
theorem ny:(oa.info? 136).map (·.size)=some 136:=by kernel_rfl
theorem map_toArray(enc:Nat->Value)(d:Array Nat):d.map enc=(d.toList.map enc).toArray:=by apply Array.ext';simp
theorem XS(ub:Array Nat)(i:Nat)(w:Fa)(hs:ub.size=136)(hb:∀j:Nat,ub[j]! <256)(hi:i<17):Calls oa 165 #[Sa (ub.toList.map Kf).toArray,Ia ka (8*(i:Int))] w λe w'=>e=na (Ia .u64 ((N5 ub (8*i) 8:Nat):Int))/\w'=w.alloc (ma (ub.toList.map Kf).toArray 136):=by have h:=IP ub (8*i) w hs hb (by omega);rw[map_toArray]at h;rw[show((8*i:Nat):Int)=8*(i:Int)by omega]at h;exact h
def Hi(w:Fa)(b n:Nat):Array Value:=((List.range n).map λj=>(w.cell? ⟨b,j,none⟩).getD undef).toArray
def Pd(w:Fa)(b n:Nat):Prop:=∀j,j<n->(w.cell? ⟨b,j,none⟩).isSome=true
@[simp] theorem aU(w:Fa)(b n:Nat):Hi w.drew b n=Hi w b n:=rfl
@[simp] theorem YU(w:Fa)(b n:Nat):Pd w.drew b n=Pd w b n:=rfl
def Ps:Value->Nat
 | Qa (some p)=>p.block
 |_=>0
@[simp] theorem cU(b o:Nat):Ps (Qa (some ⟨b,o,none⟩))=b:=rfl
theorem BN(dst:Option Tmp)(x:Operand)(type:TypeId)(pos:String)(af:Array Edge)(gd:Option (Nat×Bool))(a:Act)(w:Fa)(K:Act->Fa->Prop)(Q:Exit->Act->Fa->Prop)(hx:a.eval x=Qa (some ⟨Ps (a.eval x),0,none⟩))(hall:Pd w (Ps (a.eval x)) 136):Oper.wp oa {dst:=dst,op:=.load 136 x,type:=type,pos:=pos,after:=af,guard:=gd} a w K Q=K (a.put dst (Sa (Hi w (Ps (a.eval x)) 136))) w:=by
 generalize Ps (a.eval x)=b at hx hall⊢;have f:w.rangeAt b 0 ((List.range 136).map λj=>(w.cell? ⟨b,j,none⟩).getD undef):=by
  intro j v c;have d:j<136:=by have :=(Zw.1 c).1;simpa using this
  obtain⟨u,e⟩:=X9.1 (hall j d);simp only[Yt,List.getElem?_range d,Vp,Xj]at c;rw[Zf,e,<-c,e];rfl
 unfold Oper.wp execOp;simp only[hx,Instr.loadAt,Instr.sureAddr,Je,Sem.run_pure,Result.andThen_ok,Yg w b 0 136 _ _ f underlying136 rfl (by rw[ny];simp)];rfl
variable{w:Fa}{n:Nat}{cs:List Value}
theorem AN(h:w.rangeAt b 0 cs)(hn:cs.length=n):Hi w b n=cs.toArray:=by
 unfold Hi;congr 1;apply List.ext_getElem?;intro j;by_cases c:j<n;.have a:=h j _ (Zk (by omega));rw[Zf]at a;simp only[Yt,List.getElem?_range c,Vp,a,Yk];rw[Zk (by omega)]
 .rw[Vb (by simpa using c),Vb (by omega)]
theorem xQ(h:w.rangeAt b 0 cs)(hn:cs.length=n):Pd w b n:=by intro j c;have a:=h j _ (Zk (by omega));rw[Zf]at a;rw[a];rfl
theorem aP{o:Nat}(h:w.rangeAt b o cs)(p:Addr)(u:Value)(hp:b≠p.block):(w.setCell p u).rangeAt b o cs:=λj v hv=>(Zc (Zd w p u b hp)).trans (h j v hv)
attribute [local go_sem ↓] BN
theorem DD(b off:Nat)(L ub:Array Nat)(w:Fa)(hL:L.size=25)(hS:Kp L)(hb:b<w.heap.size)(hR:Row Km w b off L)(hT:qb w)(hb10:16<=b)(hs:ub.size=136)(hB:∀j:Nat,ub[j]! <256):Calls oa 122 #[Qa (some ⟨b,off,none⟩),Sa (ub.toList.map Kf).toArray] w λe w'=>e=na (Wa #[])/\Step b off (off+25) w w'/\Row Km w' b off (N4 L ub):=by
 have F:(oa.info? 136).map (·.size)=some (ub.toList.map Kf).length:=by rw[ny];simp[hs]
 have T:=Bi ub .u8;have S:(ub.toList.map Kf).length=136:=by simp[hs]
 have ae:(w.alloc (ma (ub.toList.map Kf).toArray 136)).rangeAt w.heap.size 0 (ub.toList.map Kf):=by have :=(Row.new (enc:=Kf) w ub 136).range;rw[map_toArray]at this;exact this
 have A0:Aside (qb w/\Row Km w b off L/\Kp L/\L.size=25/\ub.size=136/\∀j:Nat,ub[j]! <256):=⟨hT,hR,hS,hL,hs,hB⟩;have A2:Aside ((oa.info? 136).map (·.size)=some (ub.toList.map Kf).length/\(∀v∈ub.toList.map Kf,v.oneCell'=true)/\(ub.toList.map Kf).length=136):=⟨F,T,S⟩;clear hT hR hS hL hs hB F T S;go_enter func122,ntmps122;go_wp2;obtain⟨hT,hR,hS,hL,hs,hB⟩:=A0.o;generalize hw0:w.alloc (ma (ub.toList.map Kf).toArray 136)=w0 at ae⊢;have am:Step b off (off+25) w w0:=by rw[<-hw0];exact(Step.refl _ _ _ _).alloc hb _
 have ao:w.heap.size<w0.heap.size:=by rw[<-hw0];simp
 have al:Row Km w0 b off L:=by rw[<-hw0];exact hR.alloc hb _
 clear hw0 hR A0;have Z:16<=w.heap.size:=by omega
 go_loopg [6] 17 (λg i wr=>∃x:Nat,x<=17/\g=17-x/\i=Ia ka x/\w.heap.size<wr.heap.size/\Step b off (off+25) w wr/\wr.rangeAt w.heap.size 0 (ub.toList.map Kf)/\Row Km wr b off (G3 L ub x))
 case atStart=>exact⟨0,by omega,rfl,rfl,ao,am,ae,al⟩
 case round=>
  obtain⟨x,hx,rfl,rfl,F,c,p,a⟩:=hrel;clear ao am ae al;by_cases E:x<17
  .have I:=kx L ub x;obtain⟨H,N⟩:=a (5*(x%5)+x/5) (by omega);have o:G3 L ub (x+1)=(G3 L ub x).set! (5*(x%5)+x/5) ((G3 L ub x)[5*(x%5)+x/5]! ^^^N5 ub (8*x) 8):=rfl;have d:=Ja _ _ (Cz ub hS x (5*(x%5)+x/5)) (fB ub (8*x) 8);have C:=λw=>XS ub x w hs hB E;obtain⟨u,V⟩:=nm ((G3 L ub x)[5*(x%5)+x/5]!);obtain⟨v,W⟩:=nm (N5 ub (8*x) 8);rw[V]at H o d;rw[W]at o d C;rw[show off+(5*(x%5)+x/5)=off+x%5*5+x/5 by omega]at H N;have ak:Hi wr w.heap.size 136=(ub.toList.map Kf).toArray:=AN p (by simp[hs]);have aq:Pd wr w.heap.size 136:=xQ p (by simp[hs]);rw[<-ak]at C;have K:Hid (∀w',Calls oa 165 #[Sa (Hi wr w.heap.size 136),Ia ka (8*(x:Int))] w' λe bf=>e=na (Ia .u64 ((v:Nat):Int))/\bf=w'.alloc (ma (Hi wr w.heap.size 136) 136)):=C;have s:Aside (Step b off (off+25) w wr/\wr.rangeAt w.heap.size 0 (ub.toList.map Kf)/\Row Km wr b off (G3 L ub x)/\G3 L ub (x+1)=(G3 L ub x).set! (5*(x%5)+x/5) (u^^^v)/\bits .xor .u64 (u:Int) (v:Int)=((u^^^v:Nat):Int)/\(G3 L ub x).size=25/\qb w/\Kp L/\L.size=25/\ub.size=136/\∀j:Nat,ub[j]! <256):=⟨c,p,a,o,d,by omega,hT,hS,hL,hs,hB⟩;clear V W c a o d I hT hS hL hs hB C ak p;have a1:(x:Int).tmod 5=(x:Int)%5:=Xq (by omega);have a2:(x:Int).tdiv 5=(x:Int)/5:=Int.tdiv_eq_ediv_of_nonneg (by omega);have a3:IntKind.i64.wrap ((x:Int)/5)=(x:Int)/5:=Ci _ (by omega) (by omega);have a4:IntKind.i64.wrap (8*(x:Int))=8*(x:Int):=Ci _ (by omega) (by omega);have b1:(0:Int)<=(x:Int)%5:=by omega
   have b2:(x:Int)%5<5:=by omega
   have b3:((x:Int)%5).toNat=x%5:=by omega
   have d1:(0:Int)<=(x:Int)/5:=by omega
   have d2:(x:Int)/5<5:=by omega
   have d3:((x:Int)/5).toNat=x/5:=by omega
   have ay:(wr.alloc (ma (Hi wr w.heap.size 136) 136)).cell? ⟨b,off+x%5*5+x/5,none⟩=some (Km u):=(Z8 _ _ _ (by omega)).trans H;have az:(wr.alloc (ma (Hi wr w.heap.size 136) 136)).frozen? ⟨b,off+x%5*5+x/5,none⟩=false:=(Vr _ _ _ (by omega)).trans N;go_wp2;go_region_with (go_at_call 165;refine(K _).mono ?_;rintro e w' ⟨rfl,rfl⟩)
   all_goals
    clear a1 a2 a3 a4 b1 b2 b3 d1 d2 d3 H N K aq;obtain⟨c,p,a,o,d,I,hT,hS,hL,hs,hB⟩:=s.o;clear o d I hT hS hL hs hB c p a ay az;go_wp2;obtain⟨c,p,a,o,d,I,hT,hS,hL,hs,hB⟩:=s.o;go_roundg (17-(x+1))
    case measure=>omega
    case rel=>
     refine⟨x+1,by omega,rfl,by go_num,by simp;omega,((c.alloc hb _).set (by omega) (by omega) _).drew,?_,?_⟩;.rw[World.rangeAt_drew];exact aP (World.rangeAt_alloc p _) _ _ (by simp only;omega)
     .rw[o];exact((a.alloc (by omega) _).set (by omega) (by omega) _ (ld d)).drew
  .have ac:x=17:=by omega
   rw[ac]at a;have bj:(17:Int)<=(x:Int):=by omega
   obtain⟨M,D⟩:=nm (G3 L ub 17);have l:M.size=25:=by rw[<-D,kx];exact hL
   have h:Kp M:=by rw[<-D];exact Cz ub hS 17
   rw[D]at a;have s:Aside (Step b off (off+25) w wr/\Row Km wr b off M/\M.size=25/\Kp M/\qb w/\∀k,k=17->G3 L ub k=M):=⟨c,a,l,h,hT,λk R=>by subst R;exact D⟩;clear c p a hS hT hL hs hB ac E D l h A2;go_wp2;obtain⟨c,a,l,h,hT,D⟩:=s.o;have HM:Hid (∀k,k=17->G3 L ub k=M):=D;clear s D hx;go_loopg [29] 24 (λg i wr=>∃r:Nat,r<=24/\g=24-r/\i=Ia ka r/\w.heap.size<wr.heap.size/\Step b off (off+25) w wr/\Row Km wr b off (N1 M r))
   case atStart=>exact⟨0,by omega,rfl,rfl,F,c,a⟩
   case round=>
    obtain⟨r,hr,rfl,rfl,F,c,a⟩:=hrel;by_cases E:r<24
    .obtain⟨X,O⟩:=nm (N1 M r);have n:X.size=25:=by rw[<-O,Fz];exact l
     have m:Kp X:=by rw[<-O];exact Ow h r
     have f:N1 M (r+1)=Hz X r:=by rw[<-O];rfl
     rw[O]at a;have s:Aside (Step b off (off+25) w wr/\Row Km wr b off X/\X.size=25/\Kp X/\qb w/\(∀k,k=r+1->N1 M k=Hz X r)/\M.size=25/\Kp M):=⟨c,a,n,m,hT,λk R=>by subst R;exact f,l,h⟩;clear c a O n m hT f l h;have hd:decide ((r:Int)<24)=true:=Z5 (by omega);go_wp2_with fail
     obtain⟨c,a,n,m,hT,f,l,h⟩:=s.o;have ba:b<wr.heap.size:=by omega
     refine(QS b off X wr n m ba a).mono ?_;rintro e w1 ⟨rfl,q,t⟩;have ah:Aside (Step b off (off+25) w w1/\Row Km w1 b off (Ax X)/\wr.heap.size<=w1.heap.size):=⟨c.trans q,t,q.size⟩;clear c a n m hT f l h q t;go_wp2_with fail
     obtain⟨c,a,n,m,hT,f,l,h⟩:=s.o;obtain⟨q,t,ag⟩:=ah.o;refine(vJ b off (Ax X) w1 (by rw[Wu];exact n) (wy m) (by omega) t (hT.step q hb10 Z) hb10).mono ?_;rintro e w2 ⟨rfl,y,G⟩;have au:Aside (Step b off (off+25) w w2/\Row Km w2 b off (Ho (Ax X) 25)/\w1.heap.size<=w2.heap.size):=⟨q.trans y,G,y.size⟩;clear c a n m hT f l h q t y G ag;go_wp2_with fail
     obtain⟨c,a,n,m,hT,f,l,h⟩:=s.o;obtain⟨q,t,ag⟩:=ah.o;obtain⟨y,G,bc⟩:=au.o;refine(EL b off (Ho (Ax X) 25) w2 (by rw[zv,Wu];exact n) (JB (wy m) 25) (by omega) G).mono ?_;rintro e w3 ⟨rfl,B,z⟩;obtain⟨Y,P⟩:=nm (Gs (Ho (Ax X) 25) 25);rw[P]at z;have Q:Y.size=25:=by rw[<-P,qA,zv,Wu];exact n
     have aj:Kp Y:=by rw[<-P];exact YH (JB (wy m) 25) 25
     have J:Hz X r=Y.set! 0 (Y[0]! ^^^cb[r]!):=by rw[<-P];rfl
     have ai:=hT.step (y.trans B) hb10 Z;have c2:=ai.2 r E;obtain⟨H,N⟩:=z 0 (by omega);rw[V0]at H N;have d:=Ja _ _ (aj 0) (dB r);obtain⟨u,V⟩:=nm (Y[0]!);obtain⟨v,W⟩:=nm (cb[r]!);rw[V]at H d J;rw[W]at c2 d J;have ar:w.heap.size<w3.heap.size:=by have :=B.size;omega
     have aw:Aside (Step b off (off+25) w w3/\Row Km w3 b off Y/\Y.size=25/\Hz X r=Y.set! 0 (u^^^v)/\bits .xor .u64 (u:Int) (v:Int)=((u^^^v:Nat):Int)):=⟨y.trans B,z,Q,J,d⟩;clear c a n m hT f l h q t y G ag bc B z P Q aj J ai d V W;go_wp2;go_region;go_wp2;obtain⟨B,z,Q,J,d⟩:=aw.o;obtain⟨_,_,_,_,_,f,_,_⟩:=s.o;go_roundg (24-(r+1))
     case measure=>omega
     case rel=>refine⟨r+1,by omega,rfl,by go_num,by simpa using ar,B.drew.set (by omega) (by omega) _,?_⟩;rw[f (r+1) rfl,J];exact z.drew.set (by omega) (by omega) _ (ld d)
    .have U:r=24:=by omega
     rw[U]at a;have bi:(24:Int)<=(r:Int):=by omega
     have s:Aside (Step b off (off+25) w wr/\∀k,k=24->Row Km wr b off (N1 M k)):=⟨c,λk R=>by subst R;exact a⟩;clear c a hT l h U E;go_wp2;go_end0;obtain⟨c,a⟩:=s.o;refine⟨rfl,c,?_⟩;have :=a 24 rfl;rw[<-HM.o 17 rfl]at this;exact this
def P1(n:Nat):Array Nat:=Array.replicate n 0
def Np(L:Array Nat):Nat->Array Nat
 |0=>P1 32
 |i+1=>(Np L i).set! i (L[5*(i/8)]! /2^(i%8*8)%256)
theorem Lp(L:Array Nat)(k:Nat):(Np L k).size=32:=by
 induction k with
 |zero=>simp[Np,P1]
 |succ k ih=>simp[Np,ih]
theorem Ck:(oa.info? 39).map (·.size)=some 32:=by kernel_rfl
theorem QI(w:Fa)(t:TypeId)(C:Array Value)(n:Nat)(hC:C=(P1 n).map Kf):Row Kf (w.alloc (ma C t)) w.heap.size 0 (P1 n):=by subst hC;exact Row.new w (P1 n) t
theorem si{fn:Func}{p:Tmp}{ty:TypeId}(h:fn.results=#[.cell p ty])(tmps:Array Value)(P:Program)(w:Fa)(b o:Nat)(hp:tmps.getD p undef=Qa (some ⟨b,o,none⟩)){v:Value}(hv:(loadVar ty ⟨b,o,none⟩).run P w=.ok v w):(results fn tmps).run P w=.ok v w:=by
 simp only[results,h];have a:tmps[p]?.getD undef=Qa (some ⟨b,o,none⟩):=by rw[<-hp];simp
 simp[a,asAddr,hv]
theorem Bq{o:Nat}(h:w.there b o n)(p:Addr)(u:Value):(w.setCell p u).there b o n:=by
 intro j a;refine⟨?_,(Z7 _ _ _ _).trans (h j a).2⟩;obtain⟨v,c⟩:=X9.1 (h j a).1;by_cases e:p=⟨b,o+j,none⟩;.subst e;rw[Ys _ _ _ c];rfl
 .rw[Zp _ _ _ _ e,c];rfl
theorem ZQ(b off:Nat)(L:Array Nat)(w:Fa)(hL:L.size=25)(hb:b<w.heap.size)(hR:Row Km w b off L):Calls oa 123 #[Qa (some ⟨b,off,none⟩)] w λe w'=>e=na (Sa ((Np L 32).toList.map Kf).toArray)/\Ba w w':=by
 go_enter func123,ntmps123;go_wp2;generalize hw0:(w.alloc (ma _ 39)).alloc (ma _ 39)=w0;have n:(#[Ia .u8 0,Ia .u8 0,Ia .u8 0,Ia .u8 0,Ia .u8 0,Ia .u8 0,Ia .u8 0,Ia .u8 0,Ia .u8 0,Ia .u8 0,Ia .u8 0,Ia .u8 0,Ia .u8 0,Ia .u8 0,Ia .u8 0,Ia .u8 0,Ia .u8 0,Ia .u8 0,Ia .u8 0,Ia .u8 0,Ia .u8 0,Ia .u8 0,Ia .u8 0,Ia .u8 0,Ia .u8 0,Ia .u8 0,Ia .u8 0,Ia .u8 0,Ia .u8 0,Ia .u8 0,Ia .u8 0,Ia .u8 0]:Array Value)=(P1 32).map Kf:=by kernel_rfl
 rw[n]at hw0;have o:Ba w w0:=by rw[<-hw0];exact((Zb _ _).alloc (Za _) _).alloc (by simp) _
 have s:w0.there w.heap.size 0 32:=by rw[<-hw0];exact Jm (Le _ _ _ _ (by simp[P1])) _
 have q:Row Kf w0 (w.heap.size+1) 0 (Np L 0):=by rw[<-hw0];have :=QI (w.alloc (ma ((P1 32).map Kf) 39)) 39 _ 32 rfl;simpa[Np]using this
 have r:w.heap.size+1<w0.heap.size:=by rw[<-hw0];simp
 clear hw0 n;go_loopg [5] 32 (λg i wr=>∃x:Nat,x<=32/\g=32-x/\i=Ia ka x/\w.heap.size+1<wr.heap.size/\Ba w wr/\wr.there w.heap.size 0 32/\Row Kf wr (w.heap.size+1) 0 (Np L x))
 case atStart=>exact⟨0,by omega,rfl,rfl,r,o,s,q⟩
 case round=>
  obtain⟨x,U,rfl,rfl,M,a,d,c⟩:=hrel;clear r o s q;by_cases j:x<32
  .have p:=hR.of_eq (a.block b hb);obtain⟨H,N⟩:=p (5*(x/8)) (by omega);obtain⟨I,O⟩:=c x (by rw[Lp];exact j);rw[Zf]at I O;rw[show off+5*(x/8)=off+x/8*5 by omega]at H;obtain⟨u,G⟩:=nm (L[5*(x/8)]!);obtain⟨z,n⟩:=nm ((Np L x)[x]!);rw[G]at H;rw[n]at I;have t:Aside (Ba w wr/\wr.there w.heap.size 0 32/\Row Kf wr (w.heap.size+1) 0 (Np L x)/\Np L (x+1)=(Np L x).set! x (u/2^(x%8*8)%256)/\Row Km w b off L/\L.size=25):=⟨a,d,c,by rw[<-G];rfl,hR,hL⟩;clear a d c p G n hR N hL;go_wp2;obtain⟨a,d,c,y,hR,hL⟩:=t.o;go_roundg (32-(x+1))
   case measure=>omega
   case rel=>refine⟨x+1,by omega,rfl,by go_num,by simpa using M,a.setCell (by simp) _,Bq d _ _,?_⟩;rw[y];refine c.set (by omega) (by rw[Lp];exact j) _ (ld ?_);push_cast;rfl
  .have m:x=32:=by omega
   rw[m]at c;have T:(32:Int)<=(x:Int):=by omega
   obtain⟨D,h⟩:=nm (Np L 32);have f:D.size=32:=by rw[<-h];exact Lp _ _
   rw[h]at c;have K:=c.range;have l:(oa.info? 39).map (·.size)=some (D.toList.map Kf).length:=by rw[Ck];simp[f]
   have C:(oa.info? 39).map (·.size)=some (D.toList.map Kf).toArray.size:=by rw[Ck];simp[f]
   have B:=Yp (Bi D .u8);have E:wr.there w.heap.size 0 (D.toList.map Kf).toArray.size:=by simpa[f]using d
   have t:Aside (Ba w wr/\wr.there w.heap.size 0 32/\(∀k,k=32->Np L k=D)/\D.size=32):=⟨a,d,λk J=>by subst J;exact h,f⟩;clear a d c hR hL m j h f;go_wp2_with (first
    | (refine Zr rfl 39 _ rfl (w.heap.size+1) 0 rfl (D.toList.map Kf) _ K underlying39 rfl l ?_)
    | (refine Zs rfl 39 _ _ rfl w.heap.size 0 (D.toList.map Kf).toArray rfl rfl E C B ?_))
   obtain⟨a,d,h,f⟩:=t.o;have F:wr.there w.heap.size 0 (D.toList.map Kf).length:=by simpa[f]using d
   refine Zv (v:=Sa (D.toList.map Kf).toArray) (si results123 _ _ _ w.heap.size 0 rfl (Yg _ _ _ 39 _ _ (Zn _ _ _ _ F) underlying39 rfl l)) rfl ⟨?_,?_⟩;.rw[h 32 rfl]
   .obtain⟨P,Q,R,S⟩:=Og w.heap.size (D.toList.map Kf) 0 wr;exact a.trans ⟨Q,R,S,by rw[P];exact Za _,λk J=>Qf _ _ _ _ _ (by omega)⟩
abbrev tg:=Array Nat×Array Nat×Nat
def Gg(st:tg)(x:Nat):tg:=if st.2.2+1=136 then(N4 st.1 (st.2.1.set! st.2.2 x),st.2.1.set! st.2.2 x,0)else(st.1,st.2.1.set! st.2.2 x,st.2.2+1)
def putAt(W:Array Nat)(c:Nat):List Nat->Array Nat
 | []=>W
 |x::xs=>putAt (W.set! c x) (c+1) xs
theorem XC(xs:List Nat):∀(W:Array Nat) (c:Nat),(putAt W c xs).size=W.size:=by
 induction xs with
 |nil=>intro W c;rfl
 |cons x xs ih=>intro W c;rw[putAt,ih];simp
theorem ZI(L ub:Array Nat):(N4 L ub).size=L.size:=by unfold N4;rw[Fz,kx]
theorem jK(ub:Array Nat)(h:Kp L):Kp (N4 L ub):=Ow (Cz ub h 17) 24
theorem MG(xs:List Nat):∀(L W:Array Nat) (c:Nat),c+xs.length<136->xs.foldl Gg (L,W,c)=(L,putAt W c xs,c+xs.length):=by
 induction xs with
 |nil=>intro L W c _;rfl
 |cons x xs ih=>
  intro L W c h;simp only[Zu]at h;rw[X6];have e:Gg (L,W,c) x=(L,W.set! c x,c+1):=by unfold Gg;rw[Zj (by simp only;omega)]
  rw[e,ih L _ (c+1) (by omega)];simp only[putAt,Zu];rw[show c+1+xs.length=c+(xs.length+1)by omega]
theorem wC(xs:List Nat):∀(L W:Array Nat) (c:Nat),c+xs.length=136->0<xs.length->xs.foldl Gg (L,W,c)=(N4 L (putAt W c xs),putAt W c xs,0):=by
 induction xs with
 |nil=>intro L W c _ h;simp at h
 |cons x xs ih=>
  intro L W c h _;simp only[Zu]at h;rw[X6];by_cases a:xs.length=0;.have :xs=[]:=Vv.1 a;subst this;simp only[List.foldl_nil,putAt];unfold Gg;rw[Zo (by simp only;omega)]
  .have e:Gg (L,W,c) x=(L,W.set! c x,c+1):=by unfold Gg;rw[Zj (by simp only;omega)]
   rw[e,ih L _ (c+1) (by omega) (by omega)];rfl
def Hy(W:Array Nat)(c:Nat):Array Nat:=let W1:=putAt (W.set! c 1) (c+1) (List.replicate (135-c) 0)
 W1.set! 135 ((W1[135]! +128)%256)
def P8(st:tg):Array Nat:=Np (N4 st.1 (Hy st.2.1 st.2.2)) 32
def Ee:tg:=(Array.replicate 25 0,Array.replicate 136 0,0)
def Ke(s:Da):List Nat:=s.data.toList.map (·.toNat)
def G8(s:Da):Array Nat:=P8 ((Ke s).foldl Gg Ee)
def K3(W:Array Nat):Prop:=∀j:Nat,W[j]! <256
theorem qy{W:Array Nat}(h:K3 W)(i x:Nat)(hx:x<256):K3 (W.set! i x):=by
 intro j;by_cases a:j<W.size
 .by_cases e:i=j;.subst e;rw[ry W i x a];exact hx
  .rw[dA W i j x e];exact h j
 .have :(W.set! i x)[j]! =0:=by simp[a]
  rw[this];decide
theorem qF(xs:List Nat)(hx:∀x∈xs,x<256):∀(W:Array Nat) (c:Nat),K3 W->K3 (putAt W c xs):=by
 induction xs with
 |nil=>intro W c h;exact h
 |cons x xs ih=>intro W c h;exact ih (λy a=>hx y (Yy _ a)) _ _ (qy h _ _ (hx x Yj))
theorem Qk(s:Da):∀x∈Ke s,x<256:=by intro x a;simp only[Ke,Xd]at a;obtain⟨b,_,rfl⟩:=a;exact b.toNat_lt
theorem Row.put{off:Nat}(xs:List Nat):∀{w:Fa} {W:Array Nat} (c:Nat),Row Kf w b off W->c+xs.length<=W.size->Row Kf (w.setCells b (off+c) (xs.map Kf)) b off (putAt W c xs):=by
 induction xs with
 |nil=>intro w W c h _;exact h
 |cons x xs ih=>intro w W c h e;simp only[Zu]at e;have a:Row Kf (w.setCell ⟨b,off+c,none⟩ (Kf x)) b off (W.set! c x):=h.set rfl (by omega) x rfl;have d:=ih (c+1) a (by simp;omega);exact d
theorem Row.lg{enc:Nat->Value}{off:Nat}{d:Array Nat}(vs:List Value):∀{w:Fa} (o:Nat),Row enc w b off d->o+vs.length<=off\/off+d.size<=o->Row enc (w.setCells b o vs) b off d:=by
 induction vs with
 |nil=>intro w o h _;exact h
 |cons v vs ih=>intro w o h a;simp only[Zu]at a;exact ih (o+1) (h.Cc (by omega) v) (by omega)
theorem Step.setCells{b lo hi:Nat}(vs:List Value):∀{w w1:Fa} (o:Nat),Step b lo hi w w1->lo<=o->o+vs.length<=hi->Step b lo hi w (w1.setCells b o vs):=by
 induction vs with
 |nil=>intro w w1 o h _ _;exact h
 |cons v vs ih=>intro w w1 o h a c;simp only[Zu]at c;exact ih (o+1) (h.set a (by omega) v) (by omega) (by omega)
variable{P:Program}
theorem bC(w:Fa)(dT sT ty elem:TypeId)(b o dLen dCap:Nat)(s:Da)(n:Nat)(hu:P.underlying dT=some (.slice elem))(hs:(P.info? elem).map (·.size)=some 1)(hn:n=Nat.min s.size dLen)(ht:w.there b o n):(Builtin.copy_ #[dT,sT] ty #[Ma (some ⟨b,o,none⟩) dLen dCap,La s]).run P w=.ok (goInt n) (w.setCells b o (((Ke s).take n).map Kf)):=by
 subst hn;have c:(Ke s).length=s.size:=by unfold Ke;rw[Zl,Yh];rfl
 have d:(Builtin.firstCells 1 (Nat.min s.size dLen) (La s)).run P w=.ok (((Ke s).take (Nat.min s.size dLen)).map Kf).toArray w:=by
  have :((s.extract 0 (Nat.min s.size dLen)).data.map λb=>Value.int .u8 b.toNat)=(((Ke s).take (Nat.min s.size dLen)).map Kf).toArray:=by apply Array.ext';simp only[Ke,Array.toList_map,Jh,Js,V6,Yx,Ka,J7,Xx];rfl
  simp only[Builtin.firstCells,this];rfl
 have a:∀v∈((Ke s).take (Nat.min s.size dLen)).map Kf,v.oneCell'=true:=λv f=>by simp only[Xd]at f;obtain⟨x,_,rfl⟩:=f;rfl
 have k:(((Ke s).take (Nat.min s.size dLen)).map Kf).length=Nat.min s.size dLen:=by rw[Zl,Zx,c];exact Vf (Nat.min_le_left _ _)
 generalize ((Ke s).take (Nat.min s.size dLen)).map Kf=cs at d a k⊢;have e:=run_storeCells_cells (P:=P) b o cs 0 w (λj h=>by rw[V0];exact(ht j (by omega)).1) (λj h=>by rw[V0];exact(ht j (by omega)).2) a;cases hq:P.info? elem with
 |none=>simp[hq]at hs
 |some i=>
  have g:i.size=1:=by simpa[hq]using hs
  simp[Builtin.copy_,run_underlying hu,Builtin.lenOf,sizeOf,typeInfo,hq,g,d,e]
theorem bE(w:Fa)(dT ty elem:TypeId)(b o n cap:Nat)(hu:P.underlying dT=some (.slice elem))(hz:(P.info? elem).map (·.zero)=some (some (Ia .u8 0)))(ht:w.there b o n):(Builtin.clear_ #[dT] ty #[Ma (some ⟨b,o,none⟩) n cap]).run P w=.ok (Wa #[]) (w.setCells b o ((List.replicate n 0).map Kf)):=by
 have a:(Builtin.zeroCells (Value.int .u8 0).cells n).toList=(List.replicate n 0).map Kf:=by
  apply List.ext_getElem?;intro j;by_cases c:j<n;.simp[Builtin.zeroCells,Value.cells,c,Nat.mod_one]
  .simp[Builtin.zeroCells,Value.cells,c]
 have d:∀v∈(List.replicate n 0).map Kf,v.oneCell'=true:=λv g=>by simp only[Xd]at g;obtain⟨x,_,rfl⟩:=g;rfl
 have e:((List.replicate n 0).map Kf).length=n:=by simp
 generalize (List.replicate n 0).map Kf=cs at a d e⊢;have f:=run_storeCells_cells (P:=P) b o cs 0 w (λj c=>by rw[V0];exact(ht j (by omega)).1) (λj c=>by rw[V0];exact(ht j (by omega)).2) d;cases hq:P.info? elem with
 |none=>simp[hq]at hz
 |some i=>
  have h:i.zero=some (Ia .u8 0):=by simpa[hq]using hz
  cases n with
  |zero=>have :cs=[]:=Vv.1 e;subst this;simp[Builtin.clear_,run_underlying hu];rfl
  |succ n=>simp[Builtin.clear_,run_underlying hu,zeroValue,typeInfo,hq,h,a,f]
end Go.Proofs.YtpfbdlnibdfcoaaGreatDoor
