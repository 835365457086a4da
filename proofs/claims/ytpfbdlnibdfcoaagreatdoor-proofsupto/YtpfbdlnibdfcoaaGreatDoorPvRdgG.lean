import Derived.Test.YtpfbdlnibdfcoaaGreatDoorPvNdA
namespace Go.Proofs.YtpfbdlnibdfcoaaGreatDoor
open Go.RowKit Tryz
open Value renaming int->Ia,string->La,slice->Ma,bool->Oa,pointer->Qa,agg->Sa,tuple->Wa,iface->ca,nilIface->da
open IntKind renaming i64->ka
open Obj renaming cells->ma
open Ending renaming returned->na
open Tryz renaming prog->oa
set_option maxRecDepth 100000
set_option maxHeartbeats 0
def Ko(n s:Nat):Nat:=if s<1\/63<s then n else Nc n s
theorem KP{P:Program}(x k:Nat)(hk:k<=64)(w:Fa):Sem.run P (Op.shift .shl .u64 (x:Int) ka (k:Int)) w=.ok (Ia .u64 ((x*2^k%18446744073709551616:Nat):Int)) w:=qG x k hk w
theorem eS{P:Program}(x k:Nat)(hk:k<=64)(w:Fa):Sem.run P (Op.shift .shr .u64 (x:Int) ka (k:Int)) w=.ok (Ia .u64 ((x/2^k:Nat):Int)) w:=yC x k hk w
theorem AJ(x k:Nat)(w:Fa)(hx:x<18446744073709551616)(hk:k<64):Calls oa 121 #[Ia .u64 (x:Int),Ia ka (k:Int)] w λe w'=>e=na (Ia .u64 ((Ko x k:Nat):Int))/\∃q,w'=w.drewN q:=by
 by_cases b:k=0;.subst b;go_enter func121,ntmps121;go_wp2;go_ret;exact⟨rfl,0,rfl⟩
 .have a:Ko x k=Nc x k:=by unfold Ko;rw[Zj (by omega)]
  rw[a];clear a;have g:=λw=>KP (P:=oa) x k (by omega) w;have c:=λw=>eS (P:=oa) x (64-k) (by omega) w;rw[show((64-k:Nat):Int)=64-(k:Int)by omega]at c;have d:((k:Int)<1)=False:=by simp;omega
  have f:((63:Int)<(k:Int))=False:=by simp;omega
  go_enter func121,ntmps121;go_wp2;go_quiet (fail)
  go_wp2;go_ret;exact⟨bI (gG x k hx),nq,rfl⟩
theorem ZS(n:Nat)(h:n<18446744073709551616):Nc n 0=n:=by unfold Nc;rw[Nat.pow_zero,Nat.mul_one,Vq h,Ka,Nat.div_eq_of_lt (by omega)];simp
theorem Du(n s:Nat)(h:n<18446744073709551616)(hs:s<64):Ko n s=Nc n s:=by
 unfold Ko;by_cases a:s=0;.subst a;rw[Zo (by omega),ZS n h]
 .rw[Zj (by omega)]
def Az(L:Array Nat):Nat->Array Nat
 |0=>#[0,0,0,0,0]
 |x+1=>(Az L x).set! x (L[5*x]! ^^^L[5*x+1]! ^^^L[5*x+2]! ^^^L[5*x+3]! ^^^L[5*x+4]!)
def Hw(c L S:Array Nat):Nat->Array Nat
 |0=>#[0,0,0,0,0,0,0,0,0,0,0,0,0,0,0,0,0,0,0,0,0,0,0,0,0]
 |k+1=>(Hw c L S k).set! (5*(k%5)+(2*(k/5)+3*(k%5))%5) (Ko (L[k]! ^^^c[(k/5+4)%5]! ^^^Ko c[(k/5+1)%5]! 1) S[k]!)
def Ab(b L:Array Nat):Nat->Array Nat
 |0=>L
 |k+1=>(Ab b L k).set! k (b[k]! ^^^(b[5*((k/5+2)%5)+k%5]! &&&(18446744073709551615-b[5*((k/5+1)%5)+k%5]!)))
def Hn(L S K:Array Nat)(r:Nat):Array Nat:=(Ab (Hw (Az L 5) L S 25) L 25).set! 0 ((Ab (Hw (Az L 5) L S 25) L 25)[0]! ^^^K[r]!)
theorem aL(l0 l1 l2 l3 l4 l5 l6 l7 l8 l9 l10 l11 l12 l13 l14 l15 l16 l17 l18 l19 l20 l21 l22 l23 l24:Nat):N7 #[l0,l1,l2,l3,l4,l5,l6,l7,l8,l9,l10,l11,l12,l13,l14,l15,l16,l17,l18,l19,l20,l21,l22,l23,l24] 25=#[((((0^^^l0)^^^l1)^^^l2)^^^l3)^^^l4,((((0^^^l5)^^^l6)^^^l7)^^^l8)^^^l9,((((0^^^l10)^^^l11)^^^l12)^^^l13)^^^l14,((((0^^^l15)^^^l16)^^^l17)^^^l18)^^^l19,((((0^^^l20)^^^l21)^^^l22)^^^l23)^^^l24]:=by kernel_rfl
theorem LR(l0 l1 l2 l3 l4 l5 l6 l7 l8 l9 l10 l11 l12 l13 l14 l15 l16 l17 l18 l19 l20 l21 l22 l23 l24 c0 c1 c2 c3 c4:Nat):Gc #[c0,c1,c2,c3,c4] #[l0,l1,l2,l3,l4,l5,l6,l7,l8,l9,l10,l11,l12,l13,l14,l15,l16,l17,l18,l19,l20,l21,l22,l23,l24] 25=#[l0^^^(c4^^^Nc c1 1),l1^^^(c4^^^Nc c1 1),l2^^^(c4^^^Nc c1 1),l3^^^(c4^^^Nc c1 1),l4^^^(c4^^^Nc c1 1),l5^^^(c0^^^Nc c2 1),l6^^^(c0^^^Nc c2 1),l7^^^(c0^^^Nc c2 1),l8^^^(c0^^^Nc c2 1),l9^^^(c0^^^Nc c2 1),l10^^^(c1^^^Nc c3 1),l11^^^(c1^^^Nc c3 1),l12^^^(c1^^^Nc c3 1),l13^^^(c1^^^Nc c3 1),l14^^^(c1^^^Nc c3 1),l15^^^(c2^^^Nc c4 1),l16^^^(c2^^^Nc c4 1),l17^^^(c2^^^Nc c4 1),l18^^^(c2^^^Nc c4 1),l19^^^(c2^^^Nc c4 1),l20^^^(c3^^^Nc c0 1),l21^^^(c3^^^Nc c0 1),l22^^^(c3^^^Nc c0 1),l23^^^(c3^^^Nc c0 1),l24^^^(c3^^^Nc c0 1)]:=by kernel_rfl
theorem DT(l0 l1 l2 l3 l4 l5 l6 l7 l8 l9 l10 l11 l12 l13 l14 l15 l16 l17 l18 l19 l20 l21 l22 l23 l24:Nat):Ho #[l0,l1,l2,l3,l4,l5,l6,l7,l8,l9,l10,l11,l12,l13,l14,l15,l16,l17,l18,l19,l20,l21,l22,l23,l24] 25=#[Nc l0 0,Nc l15 28,Nc l5 1,Nc l20 27,Nc l10 62,Nc l6 44,Nc l21 20,Nc l11 6,Nc l1 36,Nc l16 55,Nc l12 43,Nc l2 3,Nc l17 25,Nc l7 10,Nc l22 39,Nc l18 21,Nc l8 45,Nc l23 8,Nc l13 15,Nc l3 41,Nc l24 14,Nc l14 61,Nc l4 18,Nc l19 56,Nc l9 2]:=by kernel_rfl
theorem AO(l0 l1 l2 l3 l4 l5 l6 l7 l8 l9 l10 l11 l12 l13 l14 l15 l16 l17 l18 l19 l20 l21 l22 l23 l24:Nat):Gs #[l0,l1,l2,l3,l4,l5,l6,l7,l8,l9,l10,l11,l12,l13,l14,l15,l16,l17,l18,l19,l20,l21,l22,l23,l24] 25=#[l0^^^andNot l10 l5,l1^^^andNot l11 l6,l2^^^andNot l12 l7,l3^^^andNot l13 l8,l4^^^andNot l14 l9,l5^^^andNot l15 l10,l6^^^andNot l16 l11,l7^^^andNot l17 l12,l8^^^andNot l18 l13,l9^^^andNot l19 l14,l10^^^andNot l20 l15,l11^^^andNot l21 l16,l12^^^andNot l22 l17,l13^^^andNot l23 l18,l14^^^andNot l24 l19,l15^^^andNot l0 l20,l16^^^andNot l1 l21,l17^^^andNot l2 l22,l18^^^andNot l3 l23,l19^^^andNot l4 l24,l20^^^andNot l5 l0,l21^^^andNot l6 l1,l22^^^andNot l7 l2,l23^^^andNot l8 l3,l24^^^andNot l9 l4]:=by kernel_rfl
theorem rQ(l0 l1 l2 l3 l4 l5 l6 l7 l8 l9 l10 l11 l12 l13 l14 l15 l16 l17 l18 l19 l20 l21 l22 l23 l24:Nat):Az #[l0,l1,l2,l3,l4,l5,l6,l7,l8,l9,l10,l11,l12,l13,l14,l15,l16,l17,l18,l19,l20,l21,l22,l23,l24] 5=#[l0^^^l1^^^l2^^^l3^^^l4,l5^^^l6^^^l7^^^l8^^^l9,l10^^^l11^^^l12^^^l13^^^l14,l15^^^l16^^^l17^^^l18^^^l19,l20^^^l21^^^l22^^^l23^^^l24]:=by kernel_rfl
theorem vQ(l0 l1 l2 l3 l4 l5 l6 l7 l8 l9 l10 l11 l12 l13 l14 l15 l16 l17 l18 l19 l20 l21 l22 l23 l24 c0 c1 c2 c3 c4:Nat):Hw #[c0,c1,c2,c3,c4] #[l0,l1,l2,l3,l4,l5,l6,l7,l8,l9,l10,l11,l12,l13,l14,l15,l16,l17,l18,l19,l20,l21,l22,l23,l24] Fb 25=#[Ko (l0^^^c4^^^Ko c1 1) 0,Ko (l15^^^c2^^^Ko c4 1) 28,Ko (l5^^^c0^^^Ko c2 1) 1,Ko (l20^^^c3^^^Ko c0 1) 27,Ko (l10^^^c1^^^Ko c3 1) 62,Ko (l6^^^c0^^^Ko c2 1) 44,Ko (l21^^^c3^^^Ko c0 1) 20,Ko (l11^^^c1^^^Ko c3 1) 6,Ko (l1^^^c4^^^Ko c1 1) 36,Ko (l16^^^c2^^^Ko c4 1) 55,Ko (l12^^^c1^^^Ko c3 1) 43,Ko (l2^^^c4^^^Ko c1 1) 3,Ko (l17^^^c2^^^Ko c4 1) 25,Ko (l7^^^c0^^^Ko c2 1) 10,Ko (l22^^^c3^^^Ko c0 1) 39,Ko (l18^^^c2^^^Ko c4 1) 21,Ko (l8^^^c0^^^Ko c2 1) 45,Ko (l23^^^c3^^^Ko c0 1) 8,Ko (l13^^^c1^^^Ko c3 1) 15,Ko (l3^^^c4^^^Ko c1 1) 41,Ko (l24^^^c3^^^Ko c0 1) 14,Ko (l14^^^c1^^^Ko c3 1) 61,Ko (l4^^^c4^^^Ko c1 1) 18,Ko (l19^^^c2^^^Ko c4 1) 56,Ko (l9^^^c0^^^Ko c2 1) 2]:=by kernel_rfl
theorem eT(b0 b1 b2 b3 b4 b5 b6 b7 b8 b9 b10 b11 b12 b13 b14 b15 b16 b17 b18 b19 b20 b21 b22 b23 b24 l0 l1 l2 l3 l4 l5 l6 l7 l8 l9 l10 l11 l12 l13 l14 l15 l16 l17 l18 l19 l20 l21 l22 l23 l24:Nat):Ab #[b0,b1,b2,b3,b4,b5,b6,b7,b8,b9,b10,b11,b12,b13,b14,b15,b16,b17,b18,b19,b20,b21,b22,b23,b24] #[l0,l1,l2,l3,l4,l5,l6,l7,l8,l9,l10,l11,l12,l13,l14,l15,l16,l17,l18,l19,l20,l21,l22,l23,l24] 25=#[b0^^^(b10&&&(18446744073709551615-b5)),b1^^^(b11&&&(18446744073709551615-b6)),b2^^^(b12&&&(18446744073709551615-b7)),b3^^^(b13&&&(18446744073709551615-b8)),b4^^^(b14&&&(18446744073709551615-b9)),b5^^^(b15&&&(18446744073709551615-b10)),b6^^^(b16&&&(18446744073709551615-b11)),b7^^^(b17&&&(18446744073709551615-b12)),b8^^^(b18&&&(18446744073709551615-b13)),b9^^^(b19&&&(18446744073709551615-b14)),b10^^^(b20&&&(18446744073709551615-b15)),b11^^^(b21&&&(18446744073709551615-b16)),b12^^^(b22&&&(18446744073709551615-b17)),b13^^^(b23&&&(18446744073709551615-b18)),b14^^^(b24&&&(18446744073709551615-b19)),b15^^^(b0&&&(18446744073709551615-b20)),b16^^^(b1&&&(18446744073709551615-b21)),b17^^^(b2&&&(18446744073709551615-b22)),b18^^^(b3&&&(18446744073709551615-b23)),b19^^^(b4&&&(18446744073709551615-b24)),b20^^^(b5&&&(18446744073709551615-b0)),b21^^^(b6&&&(18446744073709551615-b1)),b22^^^(b7&&&(18446744073709551615-b2)),b23^^^(b8&&&(18446744073709551615-b3)),b24^^^(b9&&&(18446744073709551615-b4))]:=by kernel_rfl
theorem FC(L:Array Nat)(h:L.size=25):∃l0 l1 l2 l3 l4 l5 l6 l7 l8 l9 l10 l11 l12 l13 l14 l15 l16 l17 l18 l19 l20 l21 l22 l23 l24:Nat,L=#[l0,l1,l2,l3,l4,l5,l6,l7,l8,l9,l10,l11,l12,l13,l14,l15,l16,l17,l18,l19,l20,l21,l22,l23,l24]:=by
 obtain⟨l⟩:=L;match l,h with
 | [l0,l1,l2,l3,l4,l5,l6,l7,l8,l9,l10,l11,l12,l13,l14,l15,l16,l17,l18,l19,l20,l21,l22,l23,l24],_=>exact⟨l0,l1,l2,l3,l4,l5,l6,l7,l8,l9,l10,l11,l12,l13,l14,l15,l16,l17,l18,l19,l20,l21,l22,l23,l24,rfl⟩
theorem rh{l c d t:Nat}(hl:l<18446744073709551616)(hc:c<18446744073709551616)(hd:d<18446744073709551616)(ht:t<64):Ko (l^^^c^^^Ko d 1) t=Nc (l^^^(c^^^Nc d 1)) t:=by have a:Ko d 1=Nc d 1:=Du d 1 hd (by omega);have b:=wo d 1 hd;rw[a,Nat.xor_assoc];exact Du _ _ (oh hl (oh hc b)) ht
variable{b:Nat}
theorem Bt{a c d e:Nat}(ha:a<18446744073709551616)(hb:b<18446744073709551616)(hc:c<18446744073709551616)(hd:d<18446744073709551616)(he:e<18446744073709551616):a^^^b^^^c^^^d^^^e<18446744073709551616:=oh (oh (oh (oh ha hb) hc) hd) he
theorem rN(L:Array Nat)(hs:L.size=25)(h:Kp L):Hw (Az L 5) L Fb 25=Ho (Ax L) 25:=by obtain⟨V,W,X,Y,Z,l5,l6,l7,l8,l9,v,w,x,y,z,A,B,C,D,E,F,G,H,I,J,rfl⟩:=FC L hs;have K:V<18446744073709551616:=h 0;have M:W<18446744073709551616:=h 1;have N:X<18446744073709551616:=h 2;have O:Y<18446744073709551616:=h 3;have P:Z<18446744073709551616:=h 4;have Q:l5<18446744073709551616:=h 5;have R:l6<18446744073709551616:=h 6;have S:l7<18446744073709551616:=h 7;have T:l8<18446744073709551616:=h 8;have U:l9<18446744073709551616:=h 9;have f:v<18446744073709551616:=h 10;have g:w<18446744073709551616:=h 11;have i:x<18446744073709551616:=h 12;have j:y<18446744073709551616:=h 13;have k:z<18446744073709551616:=h 14;have l:A<18446744073709551616:=h 15;have m:B<18446744073709551616:=h 16;have n:C<18446744073709551616:=h 17;have o:D<18446744073709551616:=h 18;have p:E<18446744073709551616:=h 19;have q:F<18446744073709551616:=h 20;have r:G<18446744073709551616:=h 21;have s:H<18446744073709551616:=h 22;have t:I<18446744073709551616:=h 23;have u:J<18446744073709551616:=h 24;have a:=Bt K M N O P;have b:=Bt Q R S T U;have c:=Bt f g i j k;have d:=Bt l m n o p;have e:=Bt q r s t u;clear h hs;unfold Ax;rw[aL,LR,DT,rQ,vQ];simp only[Nat.zero_xor];generalize V^^^W^^^X^^^Y^^^Z=c0 at a⊢;generalize l5^^^l6^^^l7^^^l8^^^l9=c1 at b⊢;generalize v^^^w^^^x^^^y^^^z=c2 at c⊢;generalize A^^^B^^^C^^^D^^^E=c3 at d⊢;generalize F^^^G^^^H^^^I^^^J=c4 at e⊢;rw[rh K e b (show 0<64 by omega),rh l c e (show 28<64 by omega),rh Q a c (show 1<64 by omega),rh q d a (show 27<64 by omega),rh f b d (show 62<64 by omega),rh R a c (show 44<64 by omega),rh r d a (show 20<64 by omega),rh g b d (show 6<64 by omega),rh M e b (show 36<64 by omega),rh m c e (show 55<64 by omega),rh i b d (show 43<64 by omega),rh N e b (show 3<64 by omega),rh n c e (show 25<64 by omega),rh S a c (show 10<64 by omega),rh s d a (show 39<64 by omega),rh o c e (show 21<64 by omega),rh T a c (show 45<64 by omega),rh t d a (show 8<64 by omega),rh j b d (show 15<64 by omega),rh O e b (show 41<64 by omega),rh u d a (show 14<64 by omega),rh k b d (show 61<64 by omega),rh P e b (show 18<64 by omega),rh p c e (show 56<64 by omega),rh U a c (show 2<64 by omega)]
theorem SU(b L:Array Nat)(hb:b.size=25)(hs:L.size=25):Ab b L 25=Gs b 25:=by obtain⟨Q,R,S,T,U,V,W,X,Y,Z,q,r,s,t,u,v,w,x,y,z,A,B,C,D,E,rfl⟩:=FC L hs;obtain⟨F,G,H,I,J,K,M,N,O,P,a,c,d,e,f,g,h,i,j,k,l,m,n,o,p,rfl⟩:=FC b hb;rw[eT,AO];rfl
theorem aG(L:Array Nat)(hs:L.size=25)(h:Kp L)(r:Nat):Hn L Fb cb r=Hz L r:=by unfold Hn Hz;rw[rN L hs h,SU _ L (by rw[zv,Wu];exact hs) hs]
attribute [local go_sem ↓] Go.wp_at_zero Go.wp_at_succ
abbrev Aw(n:Nat):Value:=Ia ka (n:Int)
def Kt(A S K:Array Nat):List Value:=A.toList.map Km++(S.toList.map Aw++K.toList.map Km)
variable{A S K:Array Nat}
theorem Ms(h1:A.size=25)(h2:S.size=25)(h3:K.size=24):(Kt A S K).length=74:=by simp[Kt,h1,h2,h3]
structure Sp(w:Fa)(b:Nat)(A S K:Array Nat):Prop where
 a:Row Km w b 0 A
 s:Row Aw w b 25 S
 k:Row Km w b 50 K
variable{w:Fa}
theorem Sp.uf(hr:w.rangeAt b 0 (Kt A S K))(hf:∀j,j<74->w.frozen? ⟨b,j,none⟩=false)(h1:A.size=25)(h2:S.size=25)(h3:K.size=24):Sp w b A S K:=by
 refine⟨λj a=>⟨hr j _ ?_,by rw[Zf];exact hf j (by omega)⟩,λj a=>⟨?_,hf (25+j) (by omega)⟩,λj a=>⟨?_,hf (50+j) (by omega)⟩⟩;.unfold Kt;rw[Yl (by simp;omega)];simp[a]
 .have :=hr (25+j) (Aw S[j]!) ?_;.rwa [Zf]at this
  .unfold Kt;rw[Z4 (by simp;omega),Yl (by simp;omega)];simp[a,h1]
 .have :=hr (50+j) (Km K[j]!) ?_;.rwa [Zf]at this
  .unfold Kt;rw[Z4 (by simp;omega),Z4 (by simp;omega)];simp only[Zl,Yh,h1,h2];rw[show 50+j-25-25=j by omega];simp[a]
theorem Sp.range{w:Fa}{b:Nat}{A S K:Array Nat}(h:Sp w b A S K)(h1:A.size=25)(h2:S.size=25):w.rangeAt b 0 (Kt A S K):=by
 intro j v c;rw[Zf];unfold Kt at c;rw[List.getElem?_append]at c;split at c;.have :=h.a.range j v c;rwa [Zf]at this
 .rename_i hj
  simp only[Zl,Yh,h1]at hj c;rw[List.getElem?_append]at c;split at c;.have :=h.s.range (j-25) v c;rwa [show 25+(j-25)=j by omega]at this
  .rename_i hj2
   simp only[Zl,Yh,h2]at hj2 c;have :=h.k.range (j-25-25) v c;rwa [show 50+(j-25-25)=j by omega]at this
theorem AB(L:Array Nat)(k:Nat):(Az L k).size=5:=by
 induction k with
 |zero=>rfl
 |succ k ih=>simp[Az,ih]
variable{L:Array Nat}
theorem mT(h:Kp L)(k:Nat):Kp (Az L k):=by
 induction k with
 |zero=>
  intro j;show(#[0,0,0,0,0]:Array Nat)[j]! <_;match j with
  |0=>decide
  |1=>decide
  |2=>decide
  |3=>decide
  |4=>decide
  |j+5=>simp
 |succ k ih=>exact Mn ih _ _ (Bt (h _) (h _) (h _) (h _) (h _))
theorem MR(a b c d e:Nat)(ha:a<18446744073709551616)(hb:b<18446744073709551616)(hc:c<18446744073709551616)(hd:d<18446744073709551616)(he:e<18446744073709551616):bits .xor .u64 (bits .xor .u64 (bits .xor .u64 (bits .xor .u64 (a:Int) (b:Int)) (c:Int)) (d:Int)) (e:Int)=((a^^^b^^^c^^^d^^^e:Nat):Int):=by rw[Ja a b ha hb,Ja _ c (oh ha hb) hc,Ja _ d (oh (oh ha hb) hc) hd,Ja _ e (oh (oh (oh ha hb) hc) hd) he]
variable{o:Nat}
theorem wz{n:Nat}(h:w.there b o n)(p:Addr)(u:Value):(w.setCell p u).there b o n:=by
 intro j a;refine⟨?_,(Z7 _ _ _ _).trans (h j a).2⟩;obtain⟨v,c⟩:=X9.1 (h j a).1;by_cases e:p=⟨b,o+j,none⟩;.subst e;rw[Ys _ _ _ c];rfl
 .rw[Zp _ _ _ _ e,c];rfl
theorem vI(c L S:Array Nat)(k:Nat):(Hw c L S k).size=25:=by
 induction k with
 |zero=>rfl
 |succ k ih=>simp[Hw,ih]
theorem mJ{c:Array Nat}(hc:Kp c)(h:Kp L)(hS:∀j:Nat,S[j]! <64)(k:Nat):Kp (Hw c L S k):=by
 induction k with
 |zero=>
  intro j;show(Array.replicate 25 0:Array Nat)[j]! <_;by_cases b:j<25;.simp[b]
  .simp[b]
 |succ k ih=>
  have d:Ko c[(k/5+1)%5]! 1<18446744073709551616:=by rw[Du _ 1 (hc _) (by omega)];exact wo _ _ (hc _)
  have a:L[k]! ^^^c[(k/5+4)%5]! ^^^Ko c[(k/5+1)%5]! 1<18446744073709551616:=oh (oh (h _) (hc _)) d;exact Mn ih _ _ (by rw[Du _ _ a (hS _)];exact wo _ _ a)
theorem kE(b L:Array Nat)(k:Nat):(Ab b L k).size=L.size:=by
 induction k with
 |zero=>rfl
 |succ k ih=>simp[Ab,ih]
theorem NK(a b c:Nat)(ha:a<18446744073709551616)(hb:b<18446744073709551616)(hc:c<18446744073709551616):bits .xor .u64 (a:Int) (bits .and .u64 (b:Int) (18446744073709551615-(c:Int)))=((a^^^(b&&&(18446744073709551615-c)):Nat):Int):=by
 have e:(18446744073709551615-(c:Int))=((18446744073709551615-c:Nat):Int):=by omega
 rw[e,u64_and_nat b _ hb (by omega),Ja _ _ ha (Vx Nat.and_le_left hb)]
structure Rd(w wr:Fa)(A S K:Array Nat):Prop where
 below:Ba w wr
 sp:Sp wr w.heap.size A S K
 th:wr.there (w.heap.size+1) 0 74
 sz:w.heap.size+1+1<wr.heap.size
theorem Rd.drew{w wr:Fa}{A S K:Array Nat}(h:Rd w wr A S K):Rd w wr.drew A S K:=⟨h.below.drew,⟨h.sp.a,h.sp.s,h.sp.k⟩,h.th,h.sz⟩
theorem Rd.drewN{w wr:Fa}{A S K:Array Nat}(h:Rd w wr A S K)(n:Nat):Rd w (wr.drewN n) A S K:=⟨⟨h.below.os,h.below.tape,h.below.output,h.below.size,h.below.block⟩,⟨h.sp.a,h.sp.s,h.sp.k⟩,h.th,h.sz⟩
variable{wr:Fa}
theorem Rd.set(h:Rd w wr A S K){p:Addr}(hp:w.heap.size+1<p.block)(u:Value):Rd w (wr.setCell p u) A S K:=⟨h.below.setCell (by omega) _,⟨h.sp.a.Cd _ (by omega) _,h.sp.s.Cd _ (by omega) _,h.sp.k.Cd _ (by omega) _⟩,wz h.th _ _,by simpa using h.sz⟩
theorem Rd.alloc{w wr:Fa}{A S K:Array Nat}(h:Rd w wr A S K)(o:Obj):Rd w (wr.alloc o) A S K:=by have b:=h.sz;exact⟨h.below.alloc (by omega) _,⟨h.sp.a.alloc (by omega) _,h.sp.s.alloc (by omega) _,h.sp.k.alloc (by omega) _⟩,Jm h.th _,by simp;omega⟩
variable{j x:Nat}{v:Value}
theorem Rd.Oo(h:Rd w wr A S K)(ho:o=j)(hj:j<A.size)(hA:A.size=25)(hv:v=Km x):Rd w (wr.setCell ⟨w.heap.size,o,none⟩ v) (A.set! j x) S K:=⟨h.below.setCell (by simp) _,⟨h.sp.a.set (by omega) hj x hv,h.sp.s.Cc (by omega) _,h.sp.k.Cc (by omega) _⟩,wz h.th _ _,by simpa using h.sz⟩
theorem VM{b:Array Nat}(hb:Kp b)(h:Kp L)(k:Nat):Kp (Ab b L k):=by
 induction k with
 |zero=>exact h
 |succ k ih=>exact Mn ih _ _ (oh (hb _) (Vx Nat.and_le_left (hb _)))
theorem vq:(oa.info? 131).map (·.size)=some 74:=by kernel_rfl
theorem Fx(A S K:Array Nat):∀v∈Kt A S K,v.oneCell'=true:=by
 intro v a;unfold Kt at a;rcases Yc.1 a with h|h;.exact Bi A .u64 v h
 .rcases Yc.1 h with h|h;.exact Bi S ka v h
  .exact Bi K .u64 v h
theorem nM(A S K:Array Nat)(r:Nat)(w:Fa)(hA:A.size=25)(hS:S.size=25)(hK:K.size=24)(hAm:Kp A)(hSm:∀j:Nat,S[j]! <64)(hKm:Kp K)(hr:r<24):Calls oa 71 #[Sa (Kt A S K).toArray,Ia ka (r:Int)] w λe w'=>e=na (Sa (Kt (Hn A S K r) S K).toArray)/\Ba w w':=by
 have aq:Sp (w.alloc (ma (Kt A S K).toArray 131)) w.heap.size A S K:=by refine Sp.uf ?_ (λj _=>Xg _ _ _ _) hA hS hK;intro j v Q;rw[Zf,Ze,<-Q];simp
 have X:zeroCells131.size=74:=by kernel_rfl
 go_enter func71,ntmps71;go_wp2;have e5:Array.map Km #[0,0,0,0,0]=#[Ia .u64 0,Ia .u64 0,Ia .u64 0,Ia .u64 0,Ia .u64 0]:=by simp
 rw[<-e5];generalize hw1:(w.alloc (ma (Kt A S K).toArray 131)).alloc (ma zeroCells131 131)=w1;have ba:w1.heap.size=w.heap.size+1+1:=by rw[<-hw1];simp
 have ae:Ba w w1/\Sp w1 w.heap.size A S K/\w1.there (w.heap.size+1) 0 74:=by rw[<-hw1];refine⟨((Zb _ _).alloc (Za _) _).alloc (by simp) _,⟨aq.a.alloc (by simp) _,aq.s.alloc (by simp) _,aq.k.alloc (by simp) _⟩,?_⟩;have :=Le (w.alloc (ma (Kt A S K).toArray 131)) zeroCells131 131 74 X.symm;simpa using this
 have bj:Row Km (w1.alloc (ma (Array.map Km #[0,0,0,0,0]) 125)) (w.heap.size+1+1) 0 (Az A 0):=by have :=Row.new (enc:=Km) w1 #[0,0,0,0,0] 125;rw[ba]at this;exact this
 have bm:Rd w (w1.alloc (ma (Array.map Km #[0,0,0,0,0]) 125)) A S K:=⟨ae.1.alloc (by omega) _,⟨ae.2.1.a.alloc (by omega) _,ae.2.1.s.alloc (by omega) _,ae.2.1.k.alloc (by omega) _⟩,Jm ae.2.2 _,by simp;omega⟩;generalize w1.alloc (ma (Array.map Km #[0,0,0,0,0]) 125)=w2 at bj bm⊢;clear hw1 ba ae e5 aq X;go_loopg [6] 5 (λg i wr=>∃x:Nat,x<=5/\g=5-x/\i=Ia ka x/\Rd w wr A S K/\Row Km wr (w.heap.size+1+1) 0 (Az A x))
 case atStart=>exact⟨0,by omega,rfl,rfl,bm,bj⟩
 case round=>
  obtain⟨x,hx,rfl,rfl,d,l⟩:=hrel;clear bj bm;by_cases U:x<5
  .obtain⟨c0,f0⟩:=d.sp.a (5*x) (by omega);obtain⟨D,f1⟩:=d.sp.a (5*x+1) (by omega);obtain⟨I,f2⟩:=d.sp.a (5*x+2) (by omega);obtain⟨O,f3⟩:=d.sp.a (5*x+3) (by omega);obtain⟨Z,f4⟩:=d.sp.a (5*x+4) (by omega);obtain⟨c5,f5⟩:=l x (by rw[AB];exact U);have n:Az A (x+1)=(Az A x).set! x (A[5*x]! ^^^A[5*x+1]! ^^^A[5*x+2]! ^^^A[5*x+3]! ^^^A[5*x+4]!):=rfl;have B:=MR _ _ _ _ _ (hAm (5*x)) (hAm (5*x+1)) (hAm (5*x+2)) (hAm (5*x+3)) (hAm (5*x+4));rw[show 0+5*x=x*5 by omega]at c0;rw[show 0+(5*x+1)=x*5+1 by omega]at D;rw[show 0+(5*x+2)=x*5+2 by omega]at I;rw[show 0+(5*x+3)=x*5+3 by omega]at O;rw[show 0+(5*x+4)=x*5+4 by omega]at Z;rw[Zf]at c5 f5;obtain⟨u0,ay⟩:=nm (A[5*x]!);obtain⟨u1,J⟩:=nm (A[5*x+1]!);obtain⟨u2,L⟩:=nm (A[5*x+2]!);obtain⟨u3,N⟩:=nm (A[5*x+3]!);obtain⟨u4,az⟩:=nm (A[5*x+4]!);obtain⟨z,X⟩:=nm ((Az A x)[x]!);rw[ay]at c0;rw[J]at D;rw[L]at I;rw[N]at O;rw[az]at Z;rw[X]at c5;rw[ay,J,L,N,az]at n B;have H:Aside (Rd w wr A S K/\Row Km wr (w.heap.size+1+1) 0 (Az A x)/\Az A (x+1)=(Az A x).set! x (u0^^^u1^^^u2^^^u3^^^u4)/\bits .xor .u64 (bits .xor .u64 (bits .xor .u64 (bits .xor .u64 (u0:Int) (u1:Int)) (u2:Int)) (u3:Int)) (u4:Int)=((u0^^^u1^^^u2^^^u3^^^u4:Nat):Int)/\A.size=25/\S.size=25/\K.size=24/\Kp A/\(∀j:Nat,S[j]! <64)/\Kp K):=⟨d,l,n,B,hA,hS,hK,hAm,hSm,hKm⟩;clear d l n B hA hS hK hAm hSm hKm ay J L N az X f0 f1 f2 f3 f4;go_wp2;have aj:(x:Int)<5:=by omega
   have R:∀o o':Nat,(⟨w.heap.size+1+1,o,none⟩:Addr)≠⟨w.heap.size,o',none⟩:=λo o' e=>by have e2:=Y5 Addr.block e;simp only at e2;omega
   go_region_held3 (λw'=>w'.cell? ⟨w.heap.size,x*5,none⟩=some (Km u0)/\w'.cell? ⟨w.heap.size,x*5+1,none⟩=some (Km u1)/\w'.cell? ⟨w.heap.size,x*5+2,none⟩=some (Km u2)/\w'.cell? ⟨w.heap.size,x*5+3,none⟩=some (Km u3)/\w'.cell? ⟨w.heap.size,x*5+4,none⟩=some (Km u4)) (first|exact⟨c0,D,I,O,Z⟩|exact⟨(Zp _ _ _ _ (R _ _)).trans c0,(Zp _ _ _ _ (R _ _)).trans D,(Zp _ _ _ _ (R _ _)).trans I,(Zp _ _ _ _ (R _ _)).trans O,(Zp _ _ _ _ (R _ _)).trans Z⟩) (fail)
   clear R aj;go_wp2;obtain⟨d,l,n,B,_,_,_,_,_,_⟩:=H.o;go_roundg (5-(x+1))
   case measure=>omega
   case rel=>refine⟨x+1,by omega,rfl,by go_num,(d.set (by simp) _).drew,?_⟩;rw[n];exact(l.set (by omega) (by rw[AB];exact U) _ (ld B)).drew
  .have cw:x=5:=by omega
   rw[cw]at l;have dn:(5:Int)<=(x:Int):=by omega
   obtain⟨c,hc⟩:=nm (Az A 5);have No:c.size=5:=by rw[<-hc];exact AB _ _
   have C:Kp c:=by rw[<-hc];exact mT hAm _
   rw[hc]at l;have HC:Hid (∀k,k=5->Az A k=c):=λk hk=>by subst hk;exact hc
   have H:Aside (Rd w wr A S K/\Row Km wr (w.heap.size+1+1) 0 c/\c.size=5/\Kp c/\A.size=25/\S.size=25/\K.size=24/\Kp A/\(∀j:Nat,S[j]! <64)/\Kp K):=⟨d,l,No,C,hA,hS,hK,hAm,hSm,hKm⟩;clear d l No C hA hS hK hAm hSm hKm hc cw U;go_wp2;obtain⟨d,l,No,C,hA,hS,hK,hAm,hSm,hKm⟩:=H.o;have bv:(#[Ia .u64 0,Ia .u64 0,Ia .u64 0,Ia .u64 0,Ia .u64 0,Ia .u64 0,Ia .u64 0,Ia .u64 0,Ia .u64 0,Ia .u64 0,Ia .u64 0,Ia .u64 0,Ia .u64 0,Ia .u64 0,Ia .u64 0,Ia .u64 0,Ia .u64 0,Ia .u64 0,Ia .u64 0,Ia .u64 0,Ia .u64 0,Ia .u64 0,Ia .u64 0,Ia .u64 0,Ia .u64 0]:Array Value)=Array.map Km #[0,0,0,0,0,0,0,0,0,0,0,0,0,0,0,0,0,0,0,0,0,0,0,0,0]:=by simp
   rw[bv];obtain⟨Bk,ah⟩:=nm wr.heap.size;have dm:w.heap.size+1+1<Bk:=by rw[<-ah];exact d.sz
   have bi:Row Km (wr.alloc (ma (Array.map Km #[0,0,0,0,0,0,0,0,0,0,0,0,0,0,0,0,0,0,0,0,0,0,0,0,0]) 126)) Bk 0 (Hw c A S 0):=by rw[<-ah];exact Row.new (enc:=Km) wr #[0,0,0,0,0,0,0,0,0,0,0,0,0,0,0,0,0,0,0,0,0,0,0,0,0] 126
   have bn:=d.alloc (ma (Array.map Km #[0,0,0,0,0,0,0,0,0,0,0,0,0,0,0,0,0,0,0,0,0,0,0,0,0]) 126);have bl:=l.alloc d.sz (ma (Array.map Km #[0,0,0,0,0,0,0,0,0,0,0,0,0,0,0,0,0,0,0,0,0,0,0,0,0]) 126);have bq:Bk<(wr.alloc (ma (Array.map Km #[0,0,0,0,0,0,0,0,0,0,0,0,0,0,0,0,0,0,0,0,0,0,0,0,0]) 126)).heap.size:=by rw[<-ah];simp
   generalize wr.alloc (ma (Array.map Km #[0,0,0,0,0,0,0,0,0,0,0,0,0,0,0,0,0,0,0,0,0,0,0,0,0]) 126)=w3 at bi bn bl bq⊢;rw[ah];clear H d l ah bv;go_loopg [8] 5 (λg i wr=>∃x:Nat,x<=5/\g=5-x/\i=Ia ka x/\Bk<wr.heap.size/\Rd w wr A S K/\Row Km wr (w.heap.size+1+1) 0 c/\Row Km wr Bk 0 (Hw c A S (5*x)))
   case atStart=>exact⟨0,by omega,rfl,rfl,bq,bn,bl,bi⟩
   case round=>
    obtain⟨f,dq,rfl,rfl,P,d,l,h⟩:=hrel;clear bq bn bl bi;by_cases U:f<5
    .obtain⟨D,f1⟩:=l ((f+1)%5) (by omega);rw[Zf]at D;have ai:=C ((f+1)%5);obtain⟨v,Q⟩:=nm (c[(f+1)%5]!);rw[Q]at D ai;have A1:Aside (Rd w wr A S K/\Row Km wr (w.heap.size+1+1) 0 c/\Row Km wr Bk 0 (Hw c A S (5*f))/\c[(f+1)%5]! =v/\c.size=5/\Kp c/\A.size=25/\S.size=25/\K.size=24/\Kp A/\(∀j:Nat,S[j]! <64)/\Kp K):=⟨d,l,h,Q,No,C,hA,hS,hK,hAm,hSm,hKm⟩;clear d l h Q No C hA hS hK hAm hSm hKm f1;have hd:decide ((f:Int)<5)=true:=Z5 (by omega);go_wp2_with fail
     refine(AJ v 1 _ ai (by omega)).mono ?_;rintro e w4 ⟨rfl,q,rfl⟩;clear D;go_wp2;obtain⟨d,l,h,Q,No,C,hA,hS,hK,hAm,hSm,hKm⟩:=A1.o;have T:Ko v 1<18446744073709551616:=by rw[Du v 1 ai (by omega)];exact wo _ _ ai
     obtain⟨one,ho⟩:=nm (Ko v 1);rw[ho]at T⊢;have HO:Hid (Ko c[(f+1)%5]! 1=one):=by show _=_;rw[Q];exact ho
     clear Q ho A1 ai;go_loopg [10] 5 (λg i wr=>∃y:Nat,y<=5/\g=5-y/\i=Ia ka y/\Bk<wr.heap.size/\Rd w wr A S K/\Row Km wr (w.heap.size+1+1) 0 c/\Row Km wr Bk 0 (Hw c A S (5*f+y)))
     case atStart=>exact⟨0,by omega,rfl,rfl,P,d.drewN _,l.drewN _,h.drewN _⟩
     case round=>
      obtain⟨y,hy,rfl,rfl,P,d,l,h⟩:=hrel;by_cases ar:y<5
      .have G:=vI c A S (5*f+y);obtain⟨D,f1⟩:=d.sp.a (5*f+y) (by omega);obtain⟨I,f2⟩:=l ((f+4)%5) (by omega);obtain⟨O,f3⟩:=d.sp.s (5*f+y) (by omega);obtain⟨Z,f4⟩:=h (5*y+(2*f+3*y)%5) (by omega);rw[show 0+(5*f+y)=f*5+y by omega]at D;rw[Zf]at I;rw[show 25+(5*f+y)=25+f*5+y by omega]at O;rw[show 0+(5*y+(2*f+3*y)%5)=y*5+(2*f+3*y)%5 by omega]at Z f4;have hm:A[5*f+y]! ^^^c[(f+4)%5]! ^^^one<18446744073709551616:=oh (oh (hAm _) (C _)) T;have ao:bits .xor .u64 (bits .xor .u64 ((A[5*f+y]! :Nat):Int) ((c[(f+4)%5]! :Nat):Int)) (one:Int)=((A[5*f+y]! ^^^c[(f+4)%5]! ^^^one:Nat):Int):=by rw[Ja _ _ (hAm _) (C _),Ja _ _ (oh (hAm _) (C _)) T]
       have n:Hw c A S (5*f+(y+1))=(Hw c A S (5*f+y)).set! (5*y+(2*f+3*y)%5) (Ko (A[5*f+y]! ^^^c[(f+4)%5]! ^^^one) S[5*f+y]!):=by show Hw c A S (5*f+y+1)=_;simp only[Hw];rw[show(5*f+y)/5=f by omega,show(5*f+y)%5=y by omega,HO.o]
       have cu:=hSm (5*f+y);obtain⟨u1,J⟩:=nm (A[5*f+y]!);obtain⟨u2,L⟩:=nm (c[(f+4)%5]!);obtain⟨t,N⟩:=nm (S[5*f+y]!);obtain⟨z,X⟩:=nm ((Hw c A S (5*f+y))[5*y+(2*f+3*y)%5]!);rw[J]at D;rw[L]at I;rw[N]at O cu;rw[X]at Z;rw[J,L]at hm ao n;rw[N]at n;obtain⟨m,ch⟩:=nm (u1^^^u2^^^one);rw[ch]at hm ao n;have HX:Hid (bits .xor .u64 (bits .xor .u64 (u1:Int) (u2:Int)) (one:Int)=((m:Nat):Int)):=ao;have H:Aside (Rd w wr A S K/\Row Km wr (w.heap.size+1+1) 0 c/\Row Km wr Bk 0 (Hw c A S (5*f+y))/\Hw c A S (5*f+(y+1))=(Hw c A S (5*f+y)).set! (5*y+(2*f+3*y)%5) (Ko m t)/\(Hw c A S (5*f+y)).size=25/\c.size=5/\Kp c/\A.size=25/\S.size=25/\K.size=24/\Kp A/\(∀j:Nat,S[j]! <64)/\Kp K):=⟨d,l,h,n,G,No,C,hA,hS,hK,hAm,hSm,hKm⟩;clear d l h n G No C hA hS hK hAm hSm hKm J L N X ch ao f1 f2 f3;have aj:(f:Int)<5:=by omega
       go_wp2_with fail
       go_quiet (fail)
       go_wp2;rw[HX.o];clear HX D I;have a1:IntKind.i64.wrap (2*(f:Int))=2*(f:Int):=Ci _ (by omega) (by omega);have a2:IntKind.i64.wrap (3*(y:Int))=3*(y:Int):=Ci _ (by omega) (by omega);have a3:IntKind.i64.wrap (2*(f:Int)+3*(y:Int))=2*(f:Int)+3*(y:Int):=Ci _ (by omega) (by omega);have i0:(2*(f:Int)+3*(y:Int)).tmod 5=(2*(f:Int)+3*(y:Int))%5:=Xq (by omega);have i1:(0:Int)<=(2*(f:Int)+3*(y:Int))%5:=by omega
       have i2:(2*(f:Int)+3*(y:Int))%5<5:=by omega
       have i3:((2*(f:Int)+3*(y:Int))%5).toNat=(2*f+3*y)%5:=by omega
       have R:(⟨Bk,y*5+(2*f+3*y)%5,none⟩:Addr)≠⟨w.heap.size,25+f*5+y,none⟩:=λe=>by have e2:=Y5 Addr.block e;simp only at e2;omega
       go_region_held3 (λw'=>w'.cell? ⟨w.heap.size,25+f*5+y,none⟩=some (Aw t)) (first|exact O|exact(Zp _ _ _ _ R).trans O) (first| (go_at_call 121;refine(AJ _ _ _ hm cu).mono ?_;rintro e w' ⟨rfl,q,rfl⟩))
       clear a1 a2 a3 i0 i1 i2 i3 R aj O;go_wp2;obtain⟨d,l,h,n,G,_⟩:=H.o;go_roundg (5-(y+1))
       case measure=>omega
       case rel=>refine⟨y+1,by omega,rfl,by go_num,by simpa using P,(d.drewN _).set (by simp only;omega) _,(l.drewN _).Cd _ (by simp only;omega) _,?_⟩;rw[n];exact(h.drewN _).set (by omega) (by omega) _ rfl
      .have ak:y=5:=by omega
       rw[ak]at h;have df:(5:Int)<=(y:Int):=by omega
       have H:Aside (Rd w wr A S K/\Row Km wr (w.heap.size+1+1) 0 c/\Row Km wr Bk 0 (Hw c A S (5*f+5))):=⟨d,l,h⟩;clear d l h No C hA hS hK hAm hSm hKm ak ar;go_wp2;obtain⟨d,l,h⟩:=H.o;go_roundg (5-(f+1))
       case measure=>omega
       case rel=>exact⟨f+1,by omega,rfl,by go_num,P,d,l,h⟩
    .have bc:f=5:=by omega
     rw[bc]at h;have df:(5:Int)<=(f:Int):=by omega
     obtain⟨b,hb⟩:=nm (Hw c A S 25);have G:b.size=25:=by rw[<-hb];exact vI _ _ _ _
     have E:Kp b:=by rw[<-hb];exact mJ C hAm hSm 25
     have aw:Row Km wr Bk 0 b:=by rw[<-hb];exact h
     have HB:Hid (∀k,k=25->Hw c A S k=b):=λk hk=>by subst hk;exact hb
     have H:Aside (Rd w wr A S K/\Row Km wr Bk 0 b/\b.size=25/\Kp b/\A.size=25/\S.size=25/\K.size=24/\Kp A/\Kp K):=⟨d,aw,G,E,hA,hS,hK,hAm,hKm⟩;clear d l h aw G E No C hA hS hK hAm hSm hKm hb bc U;go_wp2;obtain⟨d,h,G,E,hA,hS,hK,hAm,hKm⟩:=H.o;clear H;go_loopg [12] 5 (λg i wr=>∃x:Nat,x<=5/\g=5-x/\i=Ia ka x/\Bk<wr.heap.size/\Rd w wr (Ab b A (5*x)) S K/\Row Km wr Bk 0 b)
     case atStart=>exact⟨0,by omega,rfl,rfl,P,d,h⟩
     case round=>
      obtain⟨p,hp,rfl,rfl,P,d,h⟩:=hrel;by_cases U:p<5
      .have A1:Aside (Rd w wr (Ab b A (5*p)) S K/\Row Km wr Bk 0 b/\b.size=25/\Kp b/\A.size=25/\S.size=25/\K.size=24/\Kp A/\Kp K):=⟨d,h,G,E,hA,hS,hK,hAm,hKm⟩;clear d h G E hA hS hK hAm hKm;have hd:decide ((p:Int)<5)=true:=Z5 (by omega);go_wp2;obtain⟨d,h,G,E,hA,hS,hK,hAm,hKm⟩:=A1.o;clear A1;go_loopg [13] 5 (λg i wr=>∃y:Nat,y<=5/\g=5-y/\i=Ia ka y/\Bk<wr.heap.size/\Rd w wr (Ab b A (5*p+y)) S K/\Row Km wr Bk 0 b)
       case atStart=>exact⟨0,by omega,rfl,rfl,P,d,h⟩
       case round=>
        obtain⟨y,hy,rfl,rfl,P,d,h⟩:=hrel;by_cases ar:y<5
        .have au:=kE b A (5*p+y);obtain⟨D,f1⟩:=h (5*p+y) (by omega);obtain⟨I,f2⟩:=h (5*((p+2)%5)+y) (by omega);obtain⟨O,f3⟩:=h (5*((p+1)%5)+y) (by omega);obtain⟨Z,f4⟩:=d.sp.a (5*p+y) (by omega);have n:Ab b A (5*p+(y+1))=(Ab b A (5*p+y)).set! (5*p+y) (b[5*p+y]! ^^^(b[5*((p+2)%5)+y]! &&&(18446744073709551615-b[5*((p+1)%5)+y]!))):=by show Ab b A (5*p+y+1)=_;simp only[Ab];rw[show(5*p+y)/5=p by omega,show(5*p+y)%5=y by omega]
         have al:=NK _ _ _ (E (5*p+y)) (E (5*((p+2)%5)+y)) (E (5*((p+1)%5)+y));rw[show 0+(5*p+y)=p*5+y by omega]at D Z f4;rw[show 0+(5*((p+2)%5)+y)=(p+2)%5*5+y by omega]at I;rw[show 0+(5*((p+1)%5)+y)=(p+1)%5*5+y by omega]at O;have dj:=E (5*((p+1)%5)+y);obtain⟨u1,J⟩:=nm (b[5*p+y]!);obtain⟨u2,L⟩:=nm (b[5*((p+2)%5)+y]!);obtain⟨u3,N⟩:=nm (b[5*((p+1)%5)+y]!);obtain⟨z,X⟩:=nm ((Ab b A (5*p+y))[5*p+y]!);rw[J]at D;rw[L]at I;rw[N]at O dj;rw[X]at Z;rw[J,L,N]at n al;have H:Aside (Rd w wr (Ab b A (5*p+y)) S K/\Row Km wr Bk 0 b/\Ab b A (5*p+(y+1))=(Ab b A (5*p+y)).set! (5*p+y) (u1^^^(u2&&&(18446744073709551615-u3)))/\(Ab b A (5*p+y)).size=25):=⟨d,h,n,by omega⟩;have AV:Aside (bits .xor .u64 (u1:Int) (bits .and .u64 (u2:Int) (18446744073709551615-(u3:Int)))=((u1^^^(u2&&&(18446744073709551615-u3)):Nat):Int)):=al;clear d h n al au G E hA hS hK hAm hKm J L N X f1 f2 f3;have a1:IntKind.i64.wrap ((p:Int)+1)=(p:Int)+1:=Ci _ (by omega) (by omega);have a2:IntKind.i64.wrap ((p:Int)+2)=(p:Int)+2:=Ci _ (by omega) (by omega);have b1:((p:Int)+1).tmod 5=((p:Int)+1)%5:=Xq (by omega);have b2:((p:Int)+2).tmod 5=((p:Int)+2)%5:=Xq (by omega);have d1:(0:Int)<=((p:Int)+1)%5:=by omega
         have d2:(0:Int)<=((p:Int)+2)%5:=by omega
         have e1:((p:Int)+1)%5<5:=by omega
         have e2:((p:Int)+2)%5<5:=by omega
         have g1:(((p:Int)+1)%5).toNat=(p+1)%5:=by omega
         have g2:(((p:Int)+2)%5).toNat=(p+2)%5:=by omega
         have aj:(p:Int)<5:=by omega
         have R:∀o o':Nat,(⟨w.heap.size,o,none⟩:Addr)≠⟨Bk,o',none⟩:=λo o' e=>by have e2:=Y5 Addr.block e;simp only at e2;omega
         go_wp2;go_region_held3 (λw'=>w'.cell? ⟨Bk,p*5+y,none⟩=some (Km u1)/\w'.cell? ⟨Bk,(p+2)%5*5+y,none⟩=some (Km u2)/\w'.cell? ⟨Bk,(p+1)%5*5+y,none⟩=some (Km u3)) (first|exact⟨D,I,O⟩|exact⟨(Zp _ _ _ _ (R _ _)).trans D,(Zp _ _ _ _ (R _ _)).trans I,(Zp _ _ _ _ (R _ _)).trans O⟩) (fail)
         clear a1 a2 b1 b2 d1 d2 e1 e2 g1 g2 aj R D I O;go_wp2;obtain⟨d,h,n,au⟩:=H.o;go_roundg (5-(y+1))
         case measure=>omega
         case rel=>refine⟨y+1,by omega,rfl,by go_num,by simpa using P,?_,(h.Cd _ (by simp only;omega) _).drew⟩;rw[n];exact(d.Oo (by omega) (by omega) au (ld AV.o)).drew
        .have ak:y=5:=by omega
         rw[ak]at d;have dg:(5:Int)<=(y:Int):=by omega
         have H:Aside (Rd w wr (Ab b A (5*p+5)) S K/\Row Km wr Bk 0 b):=⟨d,h⟩;clear d h G E hA hS hK hAm hKm ak ar;go_wp2;obtain⟨d,h⟩:=H.o;go_roundg (5-(p+1))
         case measure=>omega
         case rel=>exact⟨p+1,by omega,rfl,by go_num,P,d,h⟩
      .have ci:p=5:=by omega
       rw[ci]at d;have dg:(5:Int)<=(p:Int):=by omega
       obtain⟨M,hM⟩:=nm (Ab b A 25);have ac:M.size=25:=by rw[<-hM,kE];exact hA
       have cf:Kp M:=by rw[<-hM];exact VM E hAm 25
       have ag:Rd w wr M S K:=by rw[<-hM];exact d
       have HM:Hid (∀k,k=25->Ab b A k=M):=λk hk=>by subst hk;exact hM
       obtain⟨D,f1⟩:=ag.sp.a 0 (by omega);obtain⟨I,f2⟩:=ag.sp.k r (by omega);rw[V0]at D f1;have B:=Ja _ _ (cf 0) (hKm r);obtain⟨u,hu⟩:=nm (M[0]!);obtain⟨v,Q⟩:=nm (K[r]!);rw[hu]at D B;rw[Q]at I B;have H:Aside (Rd w wr M S K/\M.size=25/\bits .xor .u64 (u:Int) (v:Int)=((u^^^v:Nat):Int)/\M[0]! =u/\K[r]! =v/\S.size=25/\K.size=24):=⟨ag,ac,B,hu,Q,hS,hK⟩;clear d ag h G E hA hS hK hAm hKm ci U hM ac cf B hu Q f2;have dk:(r:Int)<24:=by omega
       go_wp2;go_region;obtain⟨d,ac,B,hu,Q,hS,hK⟩:=H.o;have de:∀W:Fa,W=(wr.setCell ⟨w.heap.size,0,none⟩ (Ia .u64 (bits .xor .u64 (u:Int) (v:Int)))).drew->Rd w W (M.set! 0 (u^^^v)) S K:=λW hW=>by rw[hW];exact(d.Oo rfl (by omega) ac (ld B)).drew
       generalize hw5:World.drew (World.setCell wr _ _)=w5;have Y:=de w5 hw5.symm;have hF:Hn A S K r=M.set! 0 (u^^^v):=by unfold Hn;rw[HC.o 5 rfl,HB.o 25 rfl,HM.o 25 rfl,hu,Q]
       have HF:Hid (∀x:Unit,Hn A S K r=M.set! 0 (u^^^v)):=λ_=>hF;have am:(M.set! 0 (u^^^v)).size=25:=by simpa using ac
       generalize M.set! 0 (u^^^v)=F at Y HF am;have cj:=Y.sp.range am hS;have hl:=Ms am hS hK;have bf:(oa.info? 131).map (·.size)=some (Kt F S K).length:=by rw[vq,hl]
       have dc:(oa.info? 131).map (·.size)=some (Kt F S K).toArray.size:=by rw[vq];simp[hl]
       have T:=Yp (Fx F S K);have V:w5.there (w.heap.size+1) 0 (Kt F S K).length:=by rw[hl];exact Y.th
       have cq:w5.there (w.heap.size+1) 0 (Kt F S K).toArray.size:=by simpa using V
       have A5:Aside (Ba w w5/\w5.there (w.heap.size+1) 0 (Kt F S K).length):=⟨Y.below,V⟩;obtain⟨cs,No⟩:=nm (Kt F S K);have dh:Hid (∀x:Unit,Kt F S K=cs):=λ_=>No;rw[No]at cj bf dc T cq A5;clear H d ac B hu Q hS hK de hw5 Y hF am hl V No D f1 I dk;go_wp2_with (first
        | (refine Zr rfl 131 _ rfl w.heap.size 0 rfl cs _ cj underlying131 rfl bf ?_)
        | (refine Zs rfl 131 _ _ rfl (w.heap.size+1) 0 cs.toArray rfl rfl cq dc T ?_))
       obtain⟨di,V⟩:=A5.o;refine Zv (v:=Sa cs.toArray) (si results71 _ _ _ (w.heap.size+1) 0 rfl (Yg _ _ _ 131 _ _ (Zn _ _ _ _ V) underlying131 rfl bf)) rfl ⟨?_,?_⟩;.rw[HF.o (),dh.o ()]
       .obtain⟨q1,q2,q3,q4⟩:=Og (w.heap.size+1) cs 0 w5;exact di.trans ⟨q2,q3,q4,by rw[q1];exact Za _,λk hk=>Qf _ _ _ _ _ (by omega)⟩
attribute [local go_sem ↓] Go.wp_at_zero Go.wp_at_succ
def Oh:Array Nat:=#[0,0,0,0,0,0,0,0,0,0,0,0,0,0,0,0,0,0,0,0,0,0,0,0,0]
def Uj:Array Nat:=#[0,0,0,0,0,0,0,0,0,0,0,0,0,0,0,0,0,0,0,0,0,0,0,0]
def Gz:Nat->Array Nat×Nat×Nat
 |0=>(Oh,1,0)
 |t+1=>((Gz t).1.set! (5*(Gz t).2.1+(Gz t).2.2) ((t+1)*(t+2)/2%64),(Gz t).2.2,(2*(Gz t).2.1+3*(Gz t).2.2)%5)
theorem lP(t:Nat):(Gz t).1.size=25:=by
 induction t with
 |zero=>rfl
 |succ t ih=>simp[Gz,ih]
theorem kM(t:Nat):(Gz t).2.1<5/\(Gz t).2.2<5:=by
 induction t with
 |zero=>decide
 |succ t ih=>exact⟨ih.2,Nat.mod_lt _ (by decide)⟩
theorem lL:(Gz 24).1.toList=Fb.toList:=by decide+kernel
def Gn(b:Nat):Nat:=if 2*b>255 then 2*b^^^369 else 2*b
theorem BK(b:Nat)(h:b<256):Gn b<256:=by
 have a:∀i:Fin 256,Gn i.val<256:=by decide+kernel
 exact a ⟨b,h⟩
def Pa(e b:Nat):Nat->Nat×Nat×Nat
 |0=>(e,1,b)
 |j+1=>(if(Pa e b j).2.2%2=1 then((Pa e b j).1+2^((Pa e b j).2.1-1))%18446744073709551616 else(Pa e b j).1,(Pa e b j).2.1*2,Gn (Pa e b j).2.2)
def Hf:Nat->Array Nat×Nat
 |0=>(Uj,1)
 |r+1=>((Hf r).1.set! r (Pa (Hf r).1[r]! (Hf r).2 7).1,(Pa (Hf r).1[r]! (Hf r).2 7).2.2)
theorem lS(t:Nat):(Hf t).1.size=24:=by
 induction t with
 |zero=>rfl
 |succ t ih=>simp[Hf,ih]
theorem PO:(Hf 24).1.toList=cb.toList:=by decide+kernel
theorem IN(e b:Nat)(j:Nat):(Pa e b j).2.1=2^j:=by
 induction j with
 |zero=>rfl
 |succ j ih=>simp only[Pa,ih];rw[Jk]
theorem EG(e b:Nat)(h:b<256)(j:Nat):(Pa e b j).2.2<256:=by
 induction j with
 |zero=>exact h
 |succ j ih=>exact BK _ ih
theorem nJ(r:Nat):(Hf r).2<256:=by
 induction r with
 |zero=>decide
 |succ r ih=>simp only[Hf];exact EG _ _ ih 7
theorem iS:(Gz 24).1=Fb:=Array.ext' lL
theorem EJ:(Hf 24).1=cb:=Array.ext' PO
theorem jS(K:Array Nat)(r:Nat):K.set! r K[r]! =K:=by
 apply Array.ext_getElem?;intro i;simp only[Array.set!_eq_setIfInBounds,Vm];by_cases e:r=i
 .subst e;by_cases h:r<K.size;.simp[h]
  .simp[h]
 .simp[e]
theorem KE(K:Array Nat)(r x y:Nat):(K.set! r x).set! r y=K.set! r y:=by
 apply Array.ext_getElem?;intro i;simp only[Array.set!_eq_setIfInBounds,Vm,X8];by_cases e:r=i;.simp[e]
 .simp[e]
theorem pL(b:Nat)(h:b<256):bits .xor ka ((b:Int)*2) 369=((2*b^^^369:Nat):Int):=by
 have a:∀i:Fin 256,bits .xor ka ((i.val:Int)*2) 369=((2*i.val^^^369:Nat):Int):=by decide+kernel
 exact a ⟨b,h⟩
structure Bg(w wr:Fa)(S K:Array Nat):Prop where
 below:Ba w wr
 sp:Sp wr (w.heap.size+1) Oh S K
 th:wr.there w.heap.size 0 74
 sz:w.heap.size+1<wr.heap.size
theorem Bg.pA(h:Bg w wr S K)(ho:o=25+j)(hj:j<S.size)(hS:S.size=25)(hv:v=Aw x):Bg w (wr.setCell ⟨w.heap.size+1,o,none⟩ v) (S.set! j x) K:=⟨h.below.setCell (by simp) _,⟨h.sp.a.Cc (by have :Oh.size=25:=rfl;omega) _,h.sp.s.set ho hj x hv,h.sp.k.Cc (by omega) _⟩,wz h.th _ _,by simpa using h.sz⟩
theorem Bg.qu(h:Bg w wr S K)(ho:o=50+j)(hj:j<K.size)(hS:S.size=25)(hv:v=Km x):Bg w (wr.setCell ⟨w.heap.size+1,o,none⟩ v) S (K.set! j x):=⟨h.below.setCell (by simp) _,⟨h.sp.a.Cc (by have :Oh.size=25:=rfl;omega) _,h.sp.s.Cc (by omega) _,h.sp.k.set ho hj x hv⟩,wz h.th _ _,by simpa using h.sz⟩
theorem tS:zeroCells131=(Kt Oh Oh Uj).toArray:=by kernel_rfl
theorem NG(k:Nat)(h1:1<=k)(h:k<=63):IntKind.u64.wrap (((2^(k-1):Nat):Int)*2)=((2^(k+1-1):Nat):Int):=by
 have e:2^(k+1-1)=2^(k-1)*2:=by rw[<-Jk];congr 1;omega
 have a:2^(k-1)<=2^62:=Jg (by omega) (by omega);rw[e,Jf];generalize 2^(k-1)=n at a;omega
theorem gO(w:Fa):Calls oa 70 #[] w λe w'=>e=na (Sa (Kt Oh Fb cb).toArray)/\Ba w w':=by
 go_enter func70,ntmps70;go_wp2;generalize hw0:w.alloc (ma zeroCells131 131)=w0;have au:w0.heap.size=w.heap.size+1:=by rw[<-hw0];simp
 have b0:Ba w w0/\w0.there w.heap.size 0 74:=by rw[<-hw0];exact⟨(Zb _ _).alloc (Za _) _,Le _ _ _ _ (by kernel_rfl)⟩
 have bg:Bg w (w0.alloc (ma zeroCells131 131)) Oh Uj:=by refine⟨b0.1.alloc (by omega) _,?_,Jm b0.2 _,by simp;omega⟩;rw[<-au,tS];refine Sp.uf ?_ (λj _=>Xg _ _ _ _) rfl rfl rfl;intro j v hv;rw[Zf,Ze,<-hv];simp
 generalize w0.alloc (ma zeroCells131 131)=w1 at bg⊢;clear hw0 au b0;go_loopg [2,3,4] 24 (λg vx vy i wr=>∃t:Nat,t<=24/\g=24-t/\i=Ia ka t/\vx=Aw (Gz t).2.1/\vy=Aw (Gz t).2.2/\Bg w wr (Gz t).1 Uj)
 case atStart=>exact⟨0,by omega,rfl,rfl,rfl,rfl,bg⟩
 case round=>
  obtain⟨t,ht,rfl,rfl,rfl,rfl,a⟩:=hrel;clear bg;have Q:=lP t;by_cases al:t<24
  .obtain⟨ch,ci⟩:=kM t;have c:Gz (t+1)=((Gz t).1.set! (5*(Gz t).2.1+(Gz t).2.2) ((t+1)*(t+2)/2%64),(Gz t).2.2,(2*(Gz t).2.1+3*(Gz t).2.2)%5):=rfl;obtain⟨c1,f1⟩:=a.sp.s (5*(Gz t).2.1+(Gz t).2.2) (by omega);obtain⟨x,V⟩:=nm ((Gz t).2.1);obtain⟨y,W⟩:=nm ((Gz t).2.2);obtain⟨Sx,ae⟩:=nm ((Gz t).1);rw[V,W,ae]at c c1;rw[V,W]at f1;rw[V]at ch;rw[W]at ci;rw[ae]at a Q;rw[V,W];rw[show 25+(5*x+y)=25+x*5+y by omega]at c1 f1;obtain⟨m,hm⟩:=nm ((t+1)*(t+2));have cj:m<=650:=by rw[<-hm];exact Z2 (Nat.mul_le_mul (show t+1<=24 by omega) (show t+2<=25 by omega)) (by omega)
   have cq:((t:Int)+1)*((t:Int)+2)=(m:Int):=by rw[<-hm];push_cast;rfl
   rw[hm]at c;obtain⟨z,hz⟩:=nm (Sx[5*x+y]!);rw[hz]at c1;have G:Aside (Bg w wr Sx Uj/\Gz (t+1)=(Sx.set! (5*x+y) (m/2%64),y,(2*x+3*y)%5)/\Sx.size=25):=⟨a,c,Q⟩;clear a c Q V W ae hm hz;go_wp2;obtain⟨a,c,Q⟩:=G.o;go_roundg (24-(t+1))
   case measure=>omega
   case rel=>
    refine⟨t+1,by omega,rfl,by go_num,?_,?_,?_⟩;.rw[c]
    .rw[c];show Value.int ka _=Value.int ka (((2*x+3*y)%5:Nat):Int);exact ld (by omega)
    .rw[c];exact a.pA (by omega) (by omega) Q (ld (by omega))
  .have aq:t=24:=by omega
   have cu:(24:Int)<=(t:Int):=by omega
   have h:Bg w wr Fb Uj:=by rw[<-iS,<-aq];exact a
   obtain⟨x,V⟩:=nm ((Gz t).2.1);obtain⟨y,W⟩:=nm ((Gz t).2.2);rw[V,W];have G:Aside (Bg w wr Fb Uj):=h;clear a h Q aq al V W;go_wp2;have a:=G.o;clear G;go_loopg [6,7] 24 (λg vb i wr=>∃r:Nat,r<=24/\g=24-r/\i=Ia ka r/\vb=Aw (Hf r).2/\Bg w wr Fb (Hf r).1)
   case atStart=>exact⟨0,by omega,rfl,rfl,rfl,a⟩
   case round=>
    obtain⟨r,hr,rfl,rfl,rfl,a⟩:=hrel;by_cases al:r<24
    .have Z:=nJ r;have F:=lS r;have c:Hf (r+1)=((Hf r).1.set! r (Pa (Hf r).1[r]! (Hf r).2 7).1,(Pa (Hf r).1[r]! (Hf r).2 7).2.2):=rfl;obtain⟨Kr,ac⟩:=nm ((Hf r).1);obtain⟨b0,ah⟩:=nm ((Hf r).2);rw[ac,ah]at c;rw[ac]at F a;rw[ah]at Z⊢;have X:Bg w wr Fb (Kr.set! r (Pa Kr[r]! b0 0).1):=by show Bg w wr Fb (Kr.set! r Kr[r]!);rw[jS];exact a
     have HN:Hid (∀k,k=7->Hf (r+1)=(Kr.set! r (Pa Kr[r]! b0 k).1,(Pa Kr[r]! b0 k).2.2)):=λk hk=>by subst hk;exact c
     have D:=IN Kr[r]! b0;have C:=EG Kr[r]! b0 Z;have B:(Pa Kr[r]! b0 0).2.2=b0:=rfl;obtain⟨E,hE⟩:∃E:Nat->Nat×Nat×Nat,E=Pa Kr[r]! b0:=⟨_,rfl⟩;have H:∀j,E (j+1)=(if(E j).2.2%2=1 then((E j).1+2^((E j).2.1-1))%18446744073709551616 else(E j).1,(E j).2.1*2,Gn (E j).2.2):=λj=>by rw[hE];rfl
     rw[<-hE]at X HN D C B;have O:Aside (Bg w wr Fb (Kr.set! r (E 0).1)/\Kr.size=24/\(∀j,(E j).2.1=2^j)/\(∀j,(E j).2.2<256)/\(E 0).2.2=b0/\(∀j,E (j+1)=(if(E j).2.2%2=1 then((E j).1+2^((E j).2.1-1))%18446744073709551616 else(E j).1,(E j).2.1*2,Gn (E j).2.2))):=⟨X,F,D,C,B,H⟩;clear a X F D C B H hE c ac ah;have hd:decide ((r:Int)<24)=true:=Z5 (by omega);go_wp2;obtain⟨a,F,D,C,B,H⟩:=O.o;rw[<-B];go_loopg [6,8,9] 7 (λg vb vu i wr=>∃j:Nat,j<=7/\g=7-j/\i=Ia ka j/\vu=Aw (2^j)/\vb=Aw (E j).2.2/\Bg w wr Fb (Kr.set! r (E j).1))
     case atStart=>exact⟨0,by omega,rfl,rfl,rfl,rfl,a⟩
     case round=>
      obtain⟨j,hj,rfl,rfl,rfl,rfl,a⟩:=hrel;by_cases cf:j<7
      .have az:=C j;have I:=D j;have f:=H j;rw[I]at f;have bm:2^j<=64:=Jg (by omega) (show j<=6 by omega);have ar:1<=2^j:=Nat.one_le_two_pow;have S:=pL (E j).2.2 az;obtain⟨b,T⟩:=nm ((E j).2.2);obtain⟨e,he⟩:=nm ((E j).1);obtain⟨u,R⟩:=nm (2^j);rw[T]at az f S⊢;rw[he]at f a;rw[R]at f bm ar⊢;have Y:Hid (2^j=u):=R;have l:(Kr.set! r e).size=24:=by simpa using F
       have HX:Hid (bits .xor ka ((b:Int)*2) 369=((2*b^^^369:Nat):Int)):=S;obtain⟨ce,fe⟩:=a.sp.k r (by omega);have ba:(Kr.set! r e)[r]! =e:=ry Kr r e (by omega);rw[ba]at ce;clear ba;by_cases K:b%2=1
       .have d:E (j+1)=((e+2^(u-1))%18446744073709551616,u*2,Gn b):=by rw[f,Zo K]
        have ho:((b:Int)%2==1)=true:=beq_iff_eq.2 (by omega);by_cases o:2*b>255
        .have p:Gn b=2*b^^^369:=by unfold Gn;rw[Zo o]
         have hg:(255:Int)<(b:Int)*2:=by omega
         have G:Aside (Bg w wr Fb (Kr.set! r e)/\((E (j+1)).2.2=2*b^^^369/\(E (j+1)).1=(e+2^(u-1))%18446744073709551616)/\(Kr.set! r e).size=24/\Fb.size=25):=⟨a,by rw[d,p];exact⟨rfl,rfl⟩,l,rfl⟩;have A0:=O;clear a F l D C B H f d T he R S I K o p O;go_wp2;go_loopg [10,11] (u-1) (λg vn vk wr'=>∃k:Nat,1<=k/\k<=u/\g=u-k/\vk=Ia ka k/\vn=Km (2^(k-1))/\wr'=wr)
         case atStart=>exact⟨1,by omega,ar,rfl,rfl,rfl,rfl⟩
         case round=>
          obtain⟨k,aj,bv,rfl,rfl,rfl,aw⟩:=hrel;subst aw;by_cases ak:k<u
          .have L:=NG k aj (by omega);obtain⟨n,J⟩:=nm (2^(k-1));rw[J]at L⊢;have HD:Hid (IntKind.u64.wrap ((n:Int)*2)=((2^(k+1-1):Nat):Int)):=L;clear L J;go_wp2;go_roundg (u-(k+1))
           case measure=>omega
           case rel=>exact⟨k+1,by omega,by omega,rfl,by go_num,ld HD.o,rfl⟩
          .have M:k=u:=by omega
           have bl:(u:Int)<=(k:Int):=by omega
           obtain⟨n,J⟩:=nm (2^(k-1));rw[J];have U:(e+2^(u-1))%18446744073709551616=(e+n)%18446744073709551616:=by rw[<-J,M]
           have HE:Hid ((e+2^(u-1))%18446744073709551616=(e+n)%18446744073709551616):=U;clear J M ak U;go_wp2;obtain⟨a,q,l,ag⟩:=G.o;go_roundg (7-(j+1))
           case measure=>omega
           case rel=>refine⟨j+1,by omega,rfl,by go_num,by rw[Jk,Y.o];exact ld (by omega),by rw[q.1];exact ld (HX.o),?_⟩;rw[q.2,HE.o,<-KE Kr r e];exact a.qu rfl (by omega) ag (ld (by rw[Jf,Int.natCast_emod,Int.natCast_add];rfl))
        .have p:Gn b=2*b:=by unfold Gn;rw[Zj o]
         have hg:(b:Int)*2<=255:=by omega
         have G:Aside (Bg w wr Fb (Kr.set! r e)/\((E (j+1)).2.2=2*b/\(E (j+1)).1=(e+2^(u-1))%18446744073709551616)/\(Kr.set! r e).size=24/\Fb.size=25):=⟨a,by rw[d,p];exact⟨rfl,rfl⟩,l,rfl⟩;have A0:=O;clear a F l D C B H f d T he R S I K o p O;go_wp2;go_loopg [10,11] (u-1) (λg vn vk wr'=>∃k:Nat,1<=k/\k<=u/\g=u-k/\vk=Ia ka k/\vn=Km (2^(k-1))/\wr'=wr)
         case atStart=>exact⟨1,by omega,ar,rfl,rfl,rfl,rfl⟩
         case round=>
          obtain⟨k,aj,bv,rfl,rfl,rfl,aw⟩:=hrel;subst aw;by_cases ak:k<u
          .have L:=NG k aj (by omega);obtain⟨n,J⟩:=nm (2^(k-1));rw[J]at L⊢;have HD:Hid (IntKind.u64.wrap ((n:Int)*2)=((2^(k+1-1):Nat):Int)):=L;clear L J;go_wp2;go_roundg (u-(k+1))
           case measure=>omega
           case rel=>exact⟨k+1,by omega,by omega,rfl,by go_num,ld HD.o,rfl⟩
          .have M:k=u:=by omega
           have bl:(u:Int)<=(k:Int):=by omega
           obtain⟨n,J⟩:=nm (2^(k-1));rw[J];have U:(e+2^(u-1))%18446744073709551616=(e+n)%18446744073709551616:=by rw[<-J,M]
           have HE:Hid ((e+2^(u-1))%18446744073709551616=(e+n)%18446744073709551616):=U;clear J M ak U;go_wp2;obtain⟨a,q,l,ag⟩:=G.o;go_roundg (7-(j+1))
           case measure=>omega
           case rel=>refine⟨j+1,by omega,rfl,by go_num,by rw[Jk,Y.o];exact ld (by omega),by rw[q.1];exact ld (by omega),?_⟩;rw[q.2,HE.o,<-KE Kr r e];exact a.qu rfl (by omega) ag (ld (by rw[Jf,Int.natCast_emod,Int.natCast_add];rfl))
       .have d:E (j+1)=(e,u*2,Gn b):=by rw[f,Zj K]
        have ho:((b:Int)%2==1)=false:=Xe.2 (by omega);by_cases o:2*b>255
        .have p:Gn b=2*b^^^369:=by unfold Gn;rw[Zo o]
         have hg:(255:Int)<(b:Int)*2:=by omega
         have G:Aside (Bg w wr Fb (Kr.set! r e)/\((E (j+1)).2.2=2*b^^^369/\(E (j+1)).1=e)/\(Kr.set! r e).size=24):=⟨a,by rw[d,p];exact⟨rfl,rfl⟩,l⟩;have A0:=O;clear a F l D C B H f d T he R S I K o p O;go_wp2;obtain⟨a,q,_⟩:=G.o;go_roundg (7-(j+1))
         case measure=>omega
         case rel=>exact⟨j+1,by omega,rfl,by go_num,by rw[Jk,Y.o];exact ld (by omega),by rw[q.1];exact ld (HX.o),by rw[q.2];exact a⟩
        .have p:Gn b=2*b:=by unfold Gn;rw[Zj o]
         have hg:(b:Int)*2<=255:=by omega
         have G:Aside (Bg w wr Fb (Kr.set! r e)/\((E (j+1)).2.2=2*b/\(E (j+1)).1=e)/\(Kr.set! r e).size=24):=⟨a,by rw[d,p];exact⟨rfl,rfl⟩,l⟩;have A0:=O;clear a F l D C B H f d T he R S I K o p O;go_wp2;obtain⟨a,q,_⟩:=G.o;go_roundg (7-(j+1))
         case measure=>omega
         case rel=>exact⟨j+1,by omega,rfl,by go_num,by rw[Jk,Y.o];exact ld (by omega),by rw[q.1];exact ld (by omega),by rw[q.2];exact a⟩
      .have ai:j=7:=by omega
       have bj:(7:Int)<=(j:Int):=by omega
       have hv:Aw (E j).2.2=Aw (Hf (r+1)).2:=by rw[HN.o 7 rfl,ai]
       have h:Bg w wr Fb (Hf (r+1)).1:=by rw[HN.o 7 rfl,<-ai];exact a
       rw[hv];obtain⟨u,Y⟩:=nm (2^j);rw[Y];obtain⟨Kn,P⟩:=nm (Hf (r+1));rw[P]at h⊢;have G:Aside (Bg w wr Fb Kn.1/\Hf (r+1)=Kn):=⟨h,P⟩;clear a h hv ai cf Y P O F D C B H HN;go_wp2;obtain⟨a,P⟩:=G.o;go_roundg (24-(r+1))
       case measure=>omega
       case rel=>exact⟨r+1,by omega,rfl,by go_num,by rw[P],by rw[P];exact a⟩
    .have ao:r=24:=by omega
     have bj:(24:Int)<=(r:Int):=by omega
     have h:Bg w wr Fb cb:=by rw[<-EJ,<-ao];exact a
     obtain⟨b,T⟩:=nm ((Hf r).2);rw[T];have bc:=h.sp.range rfl rfl;have hl:(Kt Oh Fb cb).length=74:=Ms rfl rfl rfl;have ay:(oa.info? 131).map (·.size)=some (Kt Oh Fb cb).length:=by rw[vq,hl]
     have bi:(oa.info? 131).map (·.size)=some (Kt Oh Fb cb).toArray.size:=by rw[vq];simp[hl]
     have am:=Yp (Fx Oh Fb cb);have N:wr.there w.heap.size 0 (Kt Oh Fb cb).length:=by rw[hl];exact h.th
     have bf:wr.there w.heap.size 0 (Kt Oh Fb cb).toArray.size:=by simpa using N
     have A5:Aside (Ba w wr/\wr.there w.heap.size 0 (Kt Oh Fb cb).length):=⟨h.below,N⟩;obtain⟨cs,No⟩:=nm (Kt Oh Fb cb);have bn:Hid (∀x:Unit,Kt Oh Fb cb=cs):=λ_=>No;rw[No]at bc ay bi am bf A5;clear a h hl N No ao al T;go_wp2_with (first
      | (refine Zr rfl 131 _ rfl (w.heap.size+1) 0 rfl cs _ bc underlying131 rfl ay ?_)
      | (refine Zs rfl 131 _ _ rfl w.heap.size 0 cs.toArray rfl rfl bf bi am ?_))
     obtain⟨bq,N⟩:=A5.o;refine Zv (v:=Sa cs.toArray) (si results70 _ _ _ w.heap.size 0 rfl (Yg _ _ _ 131 _ _ (Zn _ _ _ _ N) underlying131 rfl ay)) rfl ⟨?_,?_⟩;.rw[bn.o ()]
     .obtain⟨q1,q2,q3,q4⟩:=Og w.heap.size cs 0 wr;exact bq.trans ⟨q2,q3,q4,by rw[q1];exact Za _,λk hk=>Qf _ _ _ _ _ (by omega)⟩
def Hg(ub:Array Nat)(fr:Nat):Nat->Nat
 |0=>0
 |i+1=>(Hg ub fr i*256+ub[fr+(7-i)]!)%18446744073709551616
theorem kr(k x y:Nat)(hy:y<2^k):y ||| x*2^k=y+x*2^k:=by rw[Nat.or_comm,J3];exact nat_join k (x*2^k) y (Nat.mul_mod_left _ _) hy
theorem ON(ub:Array Nat)(fr:Nat)(h:∀j:Nat,ub[j]! <256):Hg ub fr 8=N5 ub fr 8:=by
 have k:=h (fr+0);have l:=h (fr+1);have m:=h (fr+2);have n:=h (fr+3);have o:=h (fr+4);have p:=h (fr+5);have q:=h (fr+6);have r:=h (fr+7);simp only[Hg,N5];simp only[Ka,Nat.reduceSub,Nat.reduceMul];generalize ub[fr+0]! =b0 at k⊢;generalize ub[fr+1]! =b1 at l⊢;generalize ub[fr+2]! =b2 at m⊢;generalize ub[fr+3]! =b3 at n⊢;generalize ub[fr+4]! =b4 at o⊢;generalize ub[fr+5]! =b5 at p⊢;generalize ub[fr+6]! =b6 at q⊢;generalize ub[fr+7]! =b7 at r⊢;have a:b0*2^0%18446744073709551616=b0:=by rw[Nat.pow_zero];omega
 have b:b1*2^8%18446744073709551616=b1*2^8:=Vq (by omega);have c:b2*2^16%18446744073709551616=b2*2^16:=Vq (by omega);have d:b3*2^24%18446744073709551616=b3*2^24:=Vq (by omega);have e:b4*2^32%18446744073709551616=b4*2^32:=Vq (by omega);have f:b5*2^40%18446744073709551616=b5*2^40:=Vq (by omega);have g:b6*2^48%18446744073709551616=b6*2^48:=Vq (by omega);have i:b7*2^56%18446744073709551616=b7*2^56:=Vq (by omega);rw[a,b,c,d,e,f,g,i,Nat.zero_or];rw[kr 8 b1 b0 (by omega),kr 16 b2 _ (by omega),kr 24 b3 _ (by omega),kr 32 b4 _ (by omega),kr 40 b5 _ (by omega),kr 48 b6 _ (by omega),kr 56 b7 _ (by omega)];omega
theorem vA(xs:List Nat):∀(W:Array Nat) (c:Nat),c+xs.length<=W.size->(putAt W c xs).toList=W.toList.take c++xs++W.toList.drop (c+xs.length):=by
 induction xs with
 |nil=>intro W c h;simp[putAt]
 |cons x xs ih=>
  intro W c h;simp only[Zu]at h;rw[putAt,ih _ _ (by simp;omega)];have d:(W.set! c x).toList=W.toList.set c x:=by simp
  rw[d];have a:(W.toList.set c x).take (c+1)=W.toList.take c++[x]:=by rw[Z1 (by simp;omega),List.take_set,List.set_eq_of_length_le (by simp;omega)];simp
  have b:(W.toList.set c x).drop (c+1+xs.length)=W.toList.drop (c+(xs.length+1)):=by rw[show c+1+xs.length=c+(xs.length+1)by omega,List.drop_set_of_lt (by omega)]
  rw[a,b];simp
theorem QJ(W:Array Nat)(xs:List Nat)(h:xs.length=W.size):putAt W 0 xs=xs.toArray:=by apply Array.ext';rw[vA xs W 0 (by omega)];simp[h]
def Nn(l:List Nat):List Nat:=let m:=l++1::List.replicate (135-l.length%136) 0
 m.set (m.length-1) ((m.getD (m.length-1) 0+128)%256)
def P2(f:Array Nat->List Nat->Array Nat):Nat->Array Nat->List Nat->Array Nat
 |0,L,_=>L
 |n+1,L,l=>P2 f n (f L l) (l.drop 136)
theorem vO(f:Array Nat->List Nat->Array Nat)(L:Array Nat)(l:List Nat):P2 f 0 L l=L:=rfl
theorem Oz(f:Array Nat->List Nat->Array Nat)(n:Nat)(L:Array Nat)(l:List Nat):P2 f (n+1) L l=P2 f n (f L l) (l.drop 136):=rfl
def Ei(L:Array Nat)(l:List Nat):Array Nat:=N4 L (l.take 136).toArray
theorem sK(W:Array Nat)(l:List Nat)(hW:W.size=136)(hl:l.length<136):Hy (putAt W 0 l) l.length=(Nn l).toArray:=by
 apply Array.ext';have g:l.length%136=l.length:=Vq hl;have c:=vA l W 0 (by omega);simp only[Xr,Xi,Zf]at c;have d:(putAt W 0 l).size=136:=by rw[XC];exact hW
 have e:((putAt W 0 l).set! l.length 1).toList=l++1::W.toList.drop (l.length+1):=by
  have :((putAt W 0 l).set! l.length 1).toList=(putAt W 0 l).toList.set l.length 1:=by simp
  rw[this,c];rw[List.set_append,Zj (by omega),J4];congr 1;rw[Yv (by simp;omega)];rfl
 have b:(putAt ((putAt W 0 l).set! l.length 1) (l.length+1) (List.replicate (135-l.length) 0)).toList=l++1::List.replicate (135-l.length) 0:=by
  rw[vA _ _ _ (by simp[d];omega),e];have h:(l++1::W.toList.drop (l.length+1)).take (l.length+1)=l++[1]:=by rw[List.take_length_add_append];rfl
  have i:(l++1::W.toList.drop (l.length+1)).drop (l.length+1+(List.replicate (135-l.length) 0).length)=[]:=by apply Ji;simp only[Zq,Zu,Yi,Yh,List.length_replicate,hW];omega
  rw[h,i];simp
 unfold Hy Nn;simp only[g];generalize putAt ((putAt W 0 l).set! l.length 1) (l.length+1) (List.replicate (135-l.length) 0)=W1 at b;have a:(l++1::List.replicate (135-l.length) 0).length=136:=by simp only[Zq,Zu,List.length_replicate];omega
 rw[a,<-b];have f:W1[135]! =W1.toList.getD 135 0:=by simp only[getElem!_def,List.getD,Array.getElem?_toList];cases W1[135]? <;>rfl
 rw[f];simp
theorem BO(l:List Nat)(h:136<=l.length):Nn l=l.take 136++Nn (l.drop 136):=by
 have c:(l.drop 136).length%136=l.length%136:=by rw[Yi];omega
 have e:l++1::List.replicate (135-l.length%136) 0=l.take 136++(l.drop 136++1::List.replicate (135-l.length%136) 0):=by rw[<-Xz,Xc]
 unfold Nn;simp only[c];rw[e];generalize hr:l.drop 136++1::List.replicate (135-l.length%136) 0=r;have d:0<r.length:=by rw[<-hr];simp only[Zq,Zu];omega
 have a:(l.take 136).length=136:=by rw[Zx];omega
 have b:(l.take 136++r).getD (136+r.length-1) 0=r.getD (r.length-1) 0:=by rw[Yb,Yb,Z4 (by omega),a];rw[show 136+r.length-1-136=r.length-1 by omega]
 rw[Zq,a,b,List.set_append,Zj (by omega),a];rw[show 136+r.length-1-136=r.length-1 by omega]
theorem ER(n:Nat):∀(l:List Nat) (L W:Array Nat),W.size=136->l.length/136=n->P8 (l.foldl Gg (L,W,0))=Np (P2 Ei (n+1) L (Nn l)) 32:=by
 induction n with
 |zero=>
  intro l L W b g;have a:l.length<136:=by omega
  rw[MG l L W 0 (by omega)];unfold P8;simp only[Zf];rw[sK W l b a];have h:(Nn l).length=136:=by unfold Nn;simp only[Ve,Zq,Zu,List.length_replicate];omega
  rw[Oz,vO];unfold Ei;rw[Zz (by omega)]
 |succ n ih=>
  intro l L W b g;have a:136<=l.length:=by omega
  have i:(l.take 136).length=136:=by rw[Zx];omega
  have e:l.foldl Gg (L,W,0)=(l.drop 136).foldl Gg ((l.take 136).foldl Gg (L,W,0)):=by rw[<-List.foldl_append,Xc]
  rw[e,wC (l.take 136) L W 0 (by omega) (by omega),QJ W (l.take 136) (by omega)];rw[ih (l.drop 136) _ _ (by simp;omega) (by rw[Yi];omega)];rw[BO l a];rw[Oz Ei (n+1)];have c:Ei L (l.take 136++Nn (l.drop 136))=N4 L (l.take 136).toArray:=by unfold Ei;rw[V9 (by omega),Jb,Nat.min_self]
  have f:(l.take 136++Nn (l.drop 136)).drop 136=Nn (l.drop 136):=by rw[List.drop_append_of_le_length (by omega)];have d:(l.take 136).drop 136=[]:=Ji (by omega);rw[d,Xi]
  rw[c,f]
def Gp(A l:Array Nat)(fr:Nat):Nat->Array Nat
 |0=>A
 |i+1=>(Gp A l fr i).set! (5*(i%5)+i/5) ((Gp A l fr i)[5*(i%5)+i/5]! ^^^Hg l (fr+8*i) 8)
theorem Dy(A l:Array Nat)(fr i:Nat):Gp A l fr (i+1)=(Gp A l fr i).set! (5*(i%5)+i/5) ((Gp A l fr i)[5*(i%5)+i/5]! ^^^Hg l (fr+8*i) 8):=rfl
theorem pS(a b:Array Nat)(x y:Nat)(k:Nat)(h:∀j,j<k->a[x+j]! =b[y+j]!):N5 a x k=N5 b y k:=by
 induction k with
 |zero=>rfl
 |succ k ih=>show N5 a x k ||| a[x+k]! *2^(8*k)%18446744073709551616=N5 b y k ||| b[y+k]! *2^(8*k)%18446744073709551616;rw[ih (λj c=>h j (by omega)),h k (by omega)]
theorem CQ(l:List Nat)(fr j:Nat)(hj:j<136):((l.drop fr).take 136).toArray[j]! =l.toArray[fr+j]! :=by simp only[getElem!_def];rw[List.getElem?_toArray,List.getElem?_toArray,Xp hj,List.getElem?_drop]
theorem UB(A:Array Nat)(l:List Nat)(hB:K3 l.toArray)(fr:Nat):∀i,i<=17->Gp A l.toArray fr i=G3 A ((l.drop fr).take 136).toArray i:=by
 intro i;induction i with
 |zero=>intro _;rfl
 |succ i ih=>
  intro a;have e:Hg l.toArray (fr+8*i) 8=N5 ((l.drop fr).take 136).toArray (8*i) 8:=by rw[ON _ _ hB];refine pS _ _ _ _ _ λj b=>?_;rw[CQ l fr (8*i+j) (by omega)];congr 1;omega
  rw[Dy,ih (by omega),e];rfl
theorem xK(f:Array Nat->List Nat->Array Nat)(n:Nat):∀(L:Array Nat) (l:List Nat),P2 f (n+1) L l=f (P2 f n L l) (l.drop (136*n)):=by
 induction n with
 |zero=>intro L l;rfl
 |succ n ih=>intro L l;rw[Oz f (n+1),ih,Oz f n,Jt];congr 2;omega
def N8(l:List Nat)(k:Nat):Array Nat:=P2 Ei k (Array.replicate 25 0) l
theorem cB(l:List Nat):N8 l 0=Array.replicate 25 0:=rfl
theorem aB(l:List Nat)(hB:K3 l.toArray)(k:Nat):N8 l (k+1)=N1 (Gp (N8 l k) l.toArray (136*k) 17) 24:=by rw[UB _ l hB _ 17 (Za _)];exact xK Ei k _ l
theorem JH(l:List Nat)(hB:K3 l.toArray):∀k,(N8 l k).size=25:=by
 intro k;induction k with
 |zero=>simp[cB]
 |succ k ih=>rw[aB l hB,Fz,UB _ l hB _ 17 (Za _),kx];exact ih
theorem ED(l:List Nat)(hB:K3 l.toArray):∀k,Kp (N8 l k):=by
 intro k;induction k with
 |zero=>rw[cB];intro j;rw[oy];decide
 |succ k ih=>rw[aB l hB,UB _ l hB _ 17 (Za _)];exact Ow (Cz _ ih 17) 24
theorem XN(s:Da):G8 s=Np (N8 (Nn (Ke s)) ((Ke s).length/136+1)) 32:=ER ((Ke s).length/136) (Ke s) (Array.replicate 25 0) (Array.replicate 136 0) (by simp) rfl
theorem zH(A l:Array Nat)(fr k:Nat):(Gp A l fr k).size=A.size:=by
 induction k with
 |zero=>rfl
 |succ k ih=>rw[Dy];simp[ih]
theorem pB(l:Array Nat)(fr i:Nat):Hg l fr i<18446744073709551616:=by
 cases i with
 |zero=>exact Nat.zero_lt_succ _
 |succ i=>exact Nat.mod_lt _ (by decide)
theorem wD(l:Array Nat)(fr:Nat)(h:Kp A)(k:Nat):Kp (Gp A l fr k):=by
 induction k with
 |zero=>exact h
 |succ k ih=>rw[Dy];exact Mn ih _ _ (oh (ih _) (pB _ _ _))
theorem DU(l:List Nat)(k:Nat):l++1::List.replicate k 0++[0]=l++1::List.replicate (k+1) 0:=by rw[Xz,Vh,List.replicate_succ']
attribute [local go_sem ↓] Go.wp_at_zero Go.wp_at_succ
theorem ZT:(oa.info? 5).map (λi=>(i.zero,i.size,i.bytes))=some (some (Ia .u8 0),1,1):=by kernel_rfl
def Nm(l:List Nat)(k:Nat):List Nat:=l++1::List.replicate k 0
theorem VG(l:List Nat)(k:Nat):(Nm l k).length=l.length+1+k:=by unfold Nm;simp;omega
theorem PP(l:List Nat)(k:Nat):Nm l k++[0]=Nm l (k+1):=DU l k
structure Sj(w wr:Fa):Prop where
 below:Ba w wr
 th:wr.there w.heap.size 0 32
 size:w.heap.size+1<=wr.heap.size
variable{l:List Nat}
theorem Sj.append{w1:Fa}{o:Obj}(h:Sj w wr)(ho:Own wr (w.heap.size+1) v l)(hg:(wr.alloc o).grownBy w1 v.ownBlock):Sj w w1:=by have d:=h.size;have a:∀k,k<w.heap.size+1->w1.heap[k]? =wr.heap[k]? :=λk c=>(hg.block k (by simp;omega) (λe=>by have :=ho.block k e.symm;omega)).trans (Z0 wr o k (by omega));have b:=hg.size;simp only[Yz]at b;exact⟨h.below.trans ⟨hg.os,hg.tape,hg.output,by omega,λk c=>a k (by omega)⟩,ve h.th (a _ (by omega)),by omega⟩
theorem Sj.call{w1:Fa}(h:Sj w wr)(hb:Ba wr w1):Sj w w1:=by have b:=h.size;have a:=hb.size;exact⟨h.below.trans (hb.mono (by omega)),ve h.th (hb.block _ (by omega)),by omega⟩
structure Dg(w wr:Fa)(bg bp:Nat)(P A:Array Nat):Prop where
 fr:Sj w wr
 l:Row Kf wr bg 0 P
 p:Sp wr bp A Fb cb
 b1:w.heap.size<bg
 b2:bg<bp
 b3:bp<wr.heap.size
theorem Dg.drew{w wr:Fa}{bg bp:Nat}{P A:Array Nat}(h:Dg w wr bg bp P A):Dg w wr.drew bg bp P A:=⟨⟨h.fr.below.drew,h.fr.th,h.fr.size⟩,h.l,⟨h.p.a,h.p.s,h.p.k⟩,h.b1,h.b2,h.b3⟩
variable{P:Array Nat}{bg:Nat}
theorem Dg.Oo{bp:Nat}(h:Dg w wr bg bp P A)(ho:o=j)(hj:j<25)(hA:A.size=25)(hv:v=Km x):Dg w (wr.setCell ⟨bp,o,none⟩ v) bg bp P (A.set! j x):=by have b:=h.b1;have c:=h.b2;exact⟨⟨h.fr.below.setCell (by simp;omega) _,Bq h.fr.th _ _,by simpa using h.fr.size⟩,h.l.Cd _ (by simp;omega) _,⟨h.p.a.set (by omega) (by omega) x hv,h.p.s.Cc (by omega) _,h.p.k.Cc (by omega) _⟩,b,c,by simpa using h.b3⟩
theorem Dg.call{w wr w1:Fa}{bg bp:Nat}{P A:Array Nat}(h:Dg w wr bg bp P A)(hb:Ba wr w1):Dg w w1 bg bp P A:=by have c:=h.b2;have b:=h.b3;have e:=hb.block bp b;exact⟨h.fr.call hb,h.l.of_eq (hb.block bg (by omega)),⟨h.p.a.of_eq e,h.p.s.of_eq e,h.p.k.of_eq e⟩,h.b1,c,Zm b hb.size⟩
theorem jq{F:Array Nat}(hF:F.size=25):(Kt F Fb cb).length=74:=Ms hF rfl rfl
theorem Dg.there{w wr:Fa}{bg bp:Nat}{P A:Array Nat}(h:Dg w wr bg bp P A)(hA:A.size=25):wr.there bp 0 74:=λj hj=>by
 rw[Zf];by_cases c1:j<25;.have :=h.p.a j (by omega);rw[Zf]at this;exact⟨by rw[this.1];rfl,this.2⟩
 .by_cases c2:j<50;.have :=h.p.s (j-25) (show j-25<25 by omega);rw[show 25+(j-25)=j by omega]at this;exact⟨by rw[this.1];rfl,this.2⟩
  .have :=h.p.k (j-50) (show j-50<24 by omega);rw[show 50+(j-50)=j by omega]at this;exact⟨by rw[this.1];rfl,this.2⟩
theorem LQ(q m:Nat){Q:Nat}(h:m+1=136*Q)(hq:q<Q)(hm:(m:Int)<140737488355328):wrap64 (136*(q:Int)+136)=136*(q:Int)+136:=by unfold wrap64;omega
theorem Dg.Mr{bp:Nat}{A':Array Nat}(h:Dg w wr bg bp P A)(hA:A.size=25)(hA':A'.size=25):Dg w (wr.setCells bp 0 (Kt A' Fb cb)) bg bp P A':=by have c:=h.b1;have d:=h.b2;obtain⟨b,g,i,k⟩:=Og bp (Kt A' Fb cb) 0 wr;have f:(Kt A' Fb cb).length=74:=Ms hA' rfl rfl;have a:=h.there hA;refine⟨⟨Cg h.fr.below (by omega) _ _,Xb h.fr.th _ _ _,by rw[b];exact h.fr.size⟩,h.l.yc _ _ (by omega) _,Sp.uf (Zn _ _ _ _ (by rw[f];exact a)) (λj e=>?_) hA' rfl rfl,c,d,by rw[b];exact h.b3⟩;have :=(Xb a bp 0 (Kt A' Fb cb) j e).2;rwa [Zf]at this
theorem CO(fr z m:Nat)(h:fr+8<=m+1)(hz:z<8)(hm:(m:Int)<140737488355328):wrap64 (fr:Int)=(fr:Int)/\wrap64 ((fr:Int)+(z:Int))=(fr:Int)+(z:Int)/\(fr:Int)+(z:Int)<(m:Int)+1/\(0:Int)<=(fr:Int)+(z:Int)/\((fr:Int)+(z:Int)).toNat=fr+z:=by unfold wrap64;omega
theorem GL(n b:Nat):IntKind.u64.wrap (IntKind.u64.wrap ((n:Int)*256)+IntKind.u64.wrap (b:Int))=(((n*256+b)%18446744073709551616:Nat):Int):=by simp only[Jf];omega
theorem dO(z y:Nat)(h:7-(y:Int)=(z:Int)):wrap64 ((z:Int)-1)=7-((y+1:Nat):Int):=by unfold wrap64;omega
theorem mO(x:Nat)(h:x<17):(x:Int).tmod 5=(x:Int)%5/\(x:Int).tdiv 5=(x:Int)/5/\IntKind.i64.wrap ((x:Int)/5)=(x:Int)/5/\(0:Int)<=(x:Int)%5/\(x:Int)%5<5/\((x:Int)%5).toNat=x%5/\(0:Int)<=(x:Int)/5/\(x:Int)/5<5/\((x:Int)/5).toNat=x/5:=⟨Xq (by omega),Int.tdiv_eq_ediv_of_nonneg (by omega),Ci _ (by omega) (by omega),by omega,by omega,by omega,by omega,by omega,by omega⟩
structure Ot(w wr:Fa)(bp bo:Nat)(L D:Array Nat):Prop where
 below:Ba w wr
 th:wr.there w.heap.size 0 32
 a:Row Km wr bp 0 L
 o:Row Kf wr bo 0 D
 b1:w.heap.size<bp
 b2:bp<bo
 b3:bo<wr.heap.size
theorem Ot.set{w wr:Fa}{bp bo:Nat}{L D:Array Nat}(h:Ot w wr bp bo L D){j o x:Nat}{v:Value}(ho:o=j)(hj:j<D.size)(hv:v=Kf x):Ot w (wr.setCell ⟨bo,o,none⟩ v) bp bo L (D.set! j x):=by have b:=h.b1;have c:=h.b2;exact⟨h.below.setCell (by simp;omega) _,Bq h.th _ _,h.a.Cd _ (by simp;omega) _,h.o.set (by omega) hj x hv,b,c,by simpa using h.b3⟩
theorem VR(len m G q:Nat)(h1:m+1=136*q)(h2:m=len+G)(h3:135-len%136=G):len/136+1=q:=by omega
theorem ZO(L:Array Nat)(x y u:Nat)(hu:L[5*x]! =u)(hy:y<8):Np L (8*x+(y+1))=(Np L (8*x+y)).set! (8*x+y) (u/256^y%256):=by show(Np L (8*x+y)).set! (8*x+y) (L[5*((8*x+y)/8)]! /2^((8*x+y)%8*8)%256)=_;rw[show(8*x+y)/8=x by omega,show(8*x+y)%8=y by omega,hu,Nat.mul_comm y 8,Nat.pow_mul]
theorem HJ(x y:Nat)(hx:x<4)(hy:y<8):IntKind.i64.wrap (8*(x:Int))=8*(x:Int)/\(0:Int)<=8*(x:Int)+(y:Int)/\8*(x:Int)+(y:Int)<32/\(8*(x:Int)+(y:Int)).toNat=8*x+y:=⟨Ci _ (by omega) (by omega),by omega,by omega,by omega⟩
theorem RN(n:Nat)(h:n<18446744073709551616):IntKind.u64.wrap ((n:Int)/256)=((n/256:Nat):Int):=by simp only[Jf];omega
theorem DN(n:Nat):(n:Int)%256=((n%256:Nat):Int):=by omega
theorem sF(h:∀x∈l,x<256):K3 l.toArray:=by
 intro j;by_cases a:j<l.length;.rw[Z9 l.toArray j (by simpa using a)];exact h _ (by simp)
 .rw[getElem!_neg l.toArray j (by simpa using a)];decide
theorem fD(h:∀x∈l,x<256)(k:Nat):∀x∈Nm l k,x<256:=by
 intro x a;unfold Nm at a;rcases Yc.1 a with a|a;.exact h x a
 .rcases Yf.1 a with a|a;.omega
  .have :=(List.mem_replicate.1 a).2;omega
theorem gJ(h:∀x∈l,x<256):∀x∈Nn l,x<256:=by
 intro x a;unfold Nn at a;rcases List.mem_or_eq_of_mem_set a with a|a;.exact fD h _ x a
 .omega
theorem eL(l:List Nat)(k m x:Nat)(hk:135-l.length%136=k)(hm:(Nm l k).length=m+1)(hx:(Nm l k).toArray[m]! =x):(Nm l k).toArray.set! m ((x+128)%256)=(Nn l).toArray:=by
 have e:Nn l=(Nm l k).set ((Nm l k).length-1) (((Nm l k).getD ((Nm l k).length-1) 0+128)%256):=by rw[<-hk];rfl
 rw[e,hm,Nat.add_sub_cancel];have a:(Nm l k).getD m 0=x:=by rw[<-hx];simp only[getElem!_def,List.getD,List.getElem?_toArray];cases(Nm l k)[m]? <;>rfl
 rw[a];simp
theorem cN{w3:Fa}{C:Array Value}{t:TypeId}(l:List Nat)(hC:C.size=74)(hf:Sj w w3)(hr:Row Kf w3 bg 0 P)(hb1:w.heap.size+1<=bg)(hb:bg<w3.heap.size):Dg w ((w3.alloc (ma C t)).setCells w3.heap.size 0 (Kt Oh Fb cb)) bg w3.heap.size P (N8 l 0):=by
 have e:N8 l 0=Oh:=by rw[cB];rfl
 rw[e];obtain⟨b,g,h,i⟩:=Og w3.heap.size (Kt Oh Fb cb) 0 (w3.alloc (ma C t));have d:(Kt Oh Fb cb).length=74:=jq rfl;have a:(w3.alloc (ma C t)).there w3.heap.size 0 74:=Le w3 C t 74 hC.symm;have f:=hf.size;refine⟨⟨Cg (hf.below.alloc (by omega) _) (by omega) _ _,Xb (Jm hf.th _) _ _ _,by rw[b];simp;omega⟩,(hr.alloc hb _).yc _ _ (by omega) _,Sp.uf (Zn _ _ _ _ (by rw[d];exact a)) (λj c=>?_) rfl rfl rfl,by omega,hb,by rw[b];simp⟩;have :=(Xb a w3.heap.size 0 (Kt Oh Fb cb) j c).2;rwa [Zf]at this
def Zh:Array Value:=lc
theorem Dr(s:Da)(w:Fa)(hs:s.size<=70368744177664):Calls oa 24 #[La s] w λe w'=>e=na (Sa ((G8 s).toList.map Kf).toArray)/\Ba w w':=by
 have fj:∀W,Sem.run oa (convert 9 116 (La s)) W=.ok (Ma (some ⟨W.heap.size,0,none⟩) s.size (grownCap W s.size 0 5)) (Lib.bytesWorld W 5 s):=λW=>Lib.run_convert_string_bytes W 9 116 5 s underlying9 underlying116 underlying5;obtain⟨i0,hi,fh,X,ac⟩:=Xl ZT;go_enter func24,ntmps24;have ao:∀C,Own (Lib.bytesWorld (w.alloc (ma C 39)) 5 s) (w.heap.size+1) (Ma (some ⟨w.heap.size+1,0,none⟩) s.size (grownCap (w.alloc (ma C 39)) s.size 0 5)) (Ke s):=λC=>by have :=Own.ofString (w.alloc (ma C 39)) 5 s (by unfold maxLen;omega);simpa using this
 have ae:∀C:Array Value,C.size=32->Ba w (Lib.bytesWorld (w.alloc (ma C 39)) 5 s)/\(Lib.bytesWorld (w.alloc (ma C 39)) 5 s).there w.heap.size 0 32/\(Lib.bytesWorld (w.alloc (ma C 39)) 5 s).heap.size=w.heap.size+2:=λC hC=>by have hb:=OM (w.alloc (ma C 39)) 5 s;have h0:Ba w (w.alloc (ma C 39)):=(Zb _ _).alloc (Za _) _;refine⟨h0.trans (hb.mono (by simp)),ve (Le w C _ 32 hC.symm) (hb.block _ (by simp)),?_⟩;rw[Lib.bytesWorld_size];simp
 have aw:=ta s;obtain⟨l,hl⟩:=nm (Ke s);have HL:Hid (∀u:Unit,Ke s=l):=λ_=>hl;have HB:Hid (∀x∈l,x<256):=by rw[<-hl];exact Qk s
 rw[hl]at aw ao;clear hl;go_wp2_with (at_builtin;refine kH _ rfl _ _ 116 rfl 5 i0 underlying116 hi fh X ac (w.heap.size+1) _ l rfl ((ao _).alloc _) (w.heap.size+2) 0 1 [1] rfl ?c1 ?c2 ?c3 ?_)
 case c1=>
  intro j hj;have dz:j=0:=by simpa using hj
  subst dz;have :=Ze (Lib.bytesWorld (w.alloc (ma Zh 39)) 5 s) (#[Kf 1]) 5 0;rw[(ae Zh rfl).2.2]at this;exact this
 case c2=>simp;omega
 case c3=>have :=(ae Zh rfl).2.2;have e:=Array.size_push (Obj.cells #[Kf 1] 5) (xs:=(Lib.bytesWorld (w.alloc (ma Zh 39)) 5 s).heap);rw[this]at e;exact Z2 (by omega) (Jq e.symm)
 intro v1 w1 dm dc;have fw:Sj w w1:=(Sj.mk (ae Zh rfl).1 (ae Zh rfl).2.1 (by rw[(ae Zh rfl).2.2];omega)).append (ao Zh) dc;clear dc ao ae fj;go_wp2;obtain⟨G,hG⟩:=nm (135-s.size%136);go_loopg [3] G (λg v wr=>∃k:Nat,k<=G/\g=G-k/\Own wr (w.heap.size+1) v (Nm l k)/\Sj w wr)
 case atStart=>exact⟨0,by omega,rfl,dm,fw⟩
 case round=>
  obtain⟨k,hk,rfl,ag,B⟩:=hrel;clear dm fw;obtain⟨d,fu,rfl,fk⟩:=ag.full (by rw[VG];omega);clear fk;have S:=VG l k;rw[aw]at S;rw[S];by_cases eh:k<G
  .have h:Aside (Own wr (w.heap.size+1) (Ma (some ⟨d,0,none⟩) (s.size+1+k) fu) (Nm l k)/\Sj w wr):=by rw[<-S];exact⟨ag,B⟩
   have io:((s.size:Int)+1+(k:Int))%136≠0:=by omega
   have ip:s.size+1+k<=140737488355327:=by omega
   have dn:∀o,Own (wr.alloc o) (w.heap.size+1) (Ma (some ⟨d,0,none⟩) (s.size+1+k) fu) (Nm l k):=λo=>h.1.alloc o;have iq:w.heap.size+1<=wr.heap.size:=B.size;clear ag B;go_wp2_with (at_builtin;refine kH _ rfl _ _ 116 rfl 5 i0 underlying116 hi fh X ac (w.heap.size+1) _ (Nm l k) rfl (dn _) wr.heap.size 0 1 [0] rfl ?c1 ?c2 ?c3 ?_)
   case c1=>
    intro j hj;have dz:j=0:=by simpa using hj
    subst dz;exact Ze wr (#[Kf 0]) 5 0
   case c2=>rw[S];simp;omega
   case c3=>simp;omega
   intro v2 w2 bq de;obtain⟨ho,B⟩:=h.o;have bj:Sj w w2:=B.append ho de;rw[PP]at bq;have U:Aside (Own w2 (w.heap.size+1) v2 (Nm l (k+1))/\Sj w w2):=⟨bq,bj⟩;clear de ho B h dn bq bj;go_wp2;go_roundg (G-(k+1))
   case measure=>omega
   case rel=>exact⟨k+1,by omega,rfl,U.o⟩
  .have ii:k=G:=by omega
   have ic:((s.size:Int)+1+(k:Int))%136=0:=by omega
   have ig:=ag;obtain⟨im,il,e0,ak,ar,gw,ib,bl,dk⟩:=ag.full (by rw[S];omega);simp only[Z3,Xj,Addr.mk.injEq,and_true,true_and]at e0;obtain⟨rfl,rfl⟩:=e0;have ai:Row Kf wr d 0 (Nm l k).toArray:=λj hj=>by rw[Ym]at hj;refine⟨?_,(bl j (by omega)).2⟩;rw[Zf,dk j hj];simp[getElem!_def]
   obtain⟨m,hm⟩:∃m,s.size+1+k=m+1:=⟨s.size+k,by omega⟩;have gy:((m:Int)+1)%136=0:=by omega
   rw[hm]at S⊢;clear ic;have fm:(m+1)%136=0:=by omega
   obtain⟨x,hx⟩:=nm ((Nm l k).toArray[m]!);have ij:x<256:=by rw[<-hx];exact sF (fD HB k) m
   obtain⟨c0,f0⟩:=ai m (by simp;omega);rw[Zf,hx]at c0;rw[Zf]at f0;have ah:(Nm l k).toArray.set! m ((x+128)%256)=(Nn l).toArray:=eL l k m x (by rw[aw];omega) S hx;have h:Aside (Row Kf wr d 0 (Nm l k).toArray/\Sj w wr/\(Nm l k).toArray.set! m ((x+128)%256)=(Nn l).toArray/\(Nm l k).length=m+1/\w.heap.size+1<=d/\d<wr.heap.size/\m=s.size+G):=⟨ai,B,ah,S,ak,ar,by omega⟩;have gn:(m:Int)<140737488355328:=by omega
   clear ai B ah S ak ar ag ig dk bl ib gw hx eh ii hk hm;go_wp2_with fail
   obtain⟨ai,B,ah,S,ak,ar,gj⟩:=h.o;have fp:Hid (m=s.size+G):=gj;clear gj;have bv:Row Kf (wr.setCell ⟨d,m,none⟩ (Ia .u8 (((x:Int)+128)%256))) d 0 (Nn l).toArray:=by rw[<-ah];exact ai.set (Zf _).symm (by simp;omega) _ (by simp)
   have bj:Sj w (wr.setCell ⟨d,m,none⟩ (Ia .u8 (((x:Int)+128)%256))):=⟨B.below.setCell (by simp;omega) _,Bq B.th _ _,by simpa using B.size⟩;have bn:d<(wr.setCell ⟨d,m,none⟩ (Ia .u8 (((x:Int)+128)%256))).heap.size:=by simpa using ar
   generalize wr.setCell ⟨d,m,none⟩ (Ia .u8 (((x:Int)+128)%256))=w2 at bv bj bn⊢;refine(gO w2).mono ?_;rintro e O ⟨rfl,dj⟩;have di:Sj w O/\Row Kf O d 0 (Nn l).toArray/\d<O.heap.size:=⟨bj.call dj,bv.of_eq (dj.block _ bn),Zm bn dj.size⟩;have f:(Nn l).length=m+1:=by have :=Y5 Array.size ah;simp at this;omega
   have U:Aside (Sj w O/\Row Kf O d 0 (Nn l).toArray/\d<O.heap.size/\(Nn l).length=m+1/\w.heap.size+1<=d):=⟨di.1,di.2.1,di.2.2,f,ak⟩;clear ai B ah S ak ar bv bj bn dj h c0 f0 di f;have dg:(Kt Oh Fb cb).length=74:=Ms rfl rfl rfl;have dh:(oa.info? 131).map (·.size)=some (Kt Oh Fb cb).toArray.size:=by rw[vq];simp[dg]
   have N:=Yp (Fx Oh Fb cb);have bl:(O.alloc (ma zeroCells131 131)).there O.heap.size 0 (Kt Oh Fb cb).toArray.size:=by
    have ik:zeroCells131.size=74:=by kernel_rfl
    have :=Le O zeroCells131 131 74 ik.symm;simpa[dg]using this
   have A5:Aside (Dg w ((O.alloc (ma zeroCells131 131)).setCells O.heap.size 0 (Kt Oh Fb cb)) d O.heap.size (Nn l).toArray (N8 (Nn l) 0)):=cN (Nn l) (by kernel_rfl) U.1 U.2.1 U.2.2.2.2 U.2.2.1;obtain⟨cs,No⟩:=nm (Kt Oh Fb cb);rw[No]at dh N bl A5⊢;clear No dg;go_wp2_with (refine Zs rfl 131 _ _ rfl O.heap.size 0 cs.toArray rfl rfl bl dh N ?_)
   obtain⟨i9,fo,gv,f,ak⟩:=U.o;obtain⟨bp,ge⟩:=nm O.heap.size;have ci:Dg w ((O.alloc (ma zeroCells131 131)).setCells O.heap.size 0 cs) d O.heap.size (Nn l).toArray (N8 (Nn l) 0):=A5.o;generalize (O.alloc (ma zeroCells131 131)).setCells O.heap.size 0 cs=w4 at ci⊢;rw[ge]at ci⊢;obtain⟨Q,hQ⟩:∃Q,m+1=136*Q:=⟨(m+1)/136,by omega⟩;have c:K3 (Nn l).toArray:=sF (gJ HB.o);obtain⟨pl,eu⟩:=nm (Nn l);have HP:Hid (∀u:Unit,Nn l=pl):=λ_=>eu;rw[eu]at ci c f;have HQ:Hid (m+1=136*Q):=hQ;have HG:Hid (135-s.size%136=G):=hG;have HS:Hid (s.size<=70368744177664/\(m:Int)<140737488355328/\l.length=s.size/\w.heap.size+1<=d):=⟨hs,gn,aw,ak⟩;clear i9 fo gv U A5 N bl dh ge eu hQ fm gy hG hs gn aw ak hi fh X ac ij;go_loopg [5] Q (λg i wr=>∃q:Nat,q<=Q/\g=Q-q/\i=Ia ka (136*(q:Int))/\Dg w wr d bp pl.toArray (N8 pl q))
   case atStart=>exact⟨0,by omega,rfl,rfl,ci⟩
   case round=>
    obtain⟨q,hq,rfl,rfl,t⟩:=hrel;clear ci;by_cases eh:q<Q
    .have hA:=JH pl c q;have J:=ED pl c q;have H:=aB pl c q;obtain⟨A,fx⟩:=nm (N8 pl q);rw[fx]at hA J H t;have HN:Hid (∀k a b,k=q+1->a=17->b=24->N8 pl k=N1 (Gp A pl.toArray (136*q) a) b):=λk a b hk ha hb=>by subst hk ha hb;exact H
     have t1:(136*(q:Int))<(m:Int)+1:=by have :=HQ.o;omega
     have h:Aside (Dg w wr d bp pl.toArray A/\A.size=25/\Kp A/\K3 pl.toArray/\pl.length=m+1):=⟨t,hA,J,c,f⟩;clear t hA J H fx c f;go_wp2;obtain⟨t,hA,J,c,f⟩:=h.o;go_loopg [6] 17 (λg i wr=>∃x:Nat,x<=17/\g=17-x/\i=Ia ka (x:Int)/\Dg w wr d bp pl.toArray (Gp A pl.toArray (136*q) x))
     case atStart=>exact⟨0,by omega,rfl,rfl,t⟩
     case round=>
      obtain⟨x,hx,rfl,rfl,K⟩:=hrel;clear t h;by_cases ay:x<17
      .have h:Aside (Dg w wr d bp pl.toArray (Gp A pl.toArray (136*q) x)/\A.size=25/\Kp A/\K3 pl.toArray/\pl.length=m+1):=⟨K,hA,J,c,f⟩;clear K hA J c f;go_wp2;obtain⟨fr,B⟩:=nm (136*q+8*x);have gi:fr+8<=m+1:=by have :=HQ.o;omega
       have ie:136*(q:Int)+8*(x:Int)=(fr:Int):=by omega
       go_loopg [7,8] 8 (λg n k W=>∃y:Nat,y<=8/\g=8-y/\n=Ia .u64 ((Hg pl.toArray fr y:Nat):Int)/\k=Ia ka (7-(y:Int))/\W=wr)
       case atStart=>exact⟨0,by omega,rfl,rfl,rfl,rfl⟩
       case round=>
        obtain⟨y,hy,rfl,rfl,rfl,rfl⟩:=hrel;by_cases az:y<8
        .obtain⟨K,hA,J,c,f⟩:=h.o;obtain⟨z,hz⟩:=nm (7-y);have fi:(7-(y:Int))=(z:Int):=by omega
         obtain⟨c0,f0⟩:=K.l (fr+z) (by simp;omega);have am:Hg pl.toArray fr (y+1)=(Hg pl.toArray fr y*256+pl.toArray[fr+z]!)%18446744073709551616:=by rw[<-hz];rfl
         have ba:=pB pl.toArray fr y;have du:=c (fr+z);obtain⟨n,hn⟩:=nm (Hg pl.toArray fr y);obtain⟨b,hb⟩:=nm (pl.toArray[fr+z]!);rw[hn]at am ba⊢;rw[hb]at am du c0;rw[fi];rw[Zf]at c0;have i1:IntKind.i64.wrap (8*(x:Int))=8*(x:Int):=Ci _ (by omega) (by omega);have aq:Hid (Hg pl.toArray fr (y+1)=(n*256+b)%18446744073709551616/\n<18446744073709551616/\b<256/\7-(y:Int)=(z:Int)):=⟨am,ba,du,fi⟩;obtain⟨j1,j2,j3,j4,j5⟩:=CO fr z m gi (by clear h HN aq c0;omega) HS.2.1;clear K hA J c f am hn hb ba du f0 fi hz;go_wp2;go_roundg (8-(y+1))
         case measure=>omega
         case rel=>exact⟨y+1,by omega,rfl,by rw[aq.1];exact ld (GL n b),ld (dO z y aq.2.2.2),rfl⟩
        .obtain rfl:y=8:=by omega
         obtain⟨K,hA,J,c,f⟩:=h.o;have ew:=zH A pl.toArray (136*q) x;have Y:=Dy A pl.toArray (136*q) x;have P:=wD pl.toArray (136*q) J x;rw[B]at Y;have ba:=pB pl.toArray fr 8;obtain⟨n,hn⟩:=nm (Hg pl.toArray fr 8);rw[hn]at Y ba⊢;obtain⟨c1,f1⟩:=K.p.a (5*(x%5)+x/5) (by omega);have bi:=Ja _ _ (P (5*(x%5)+x/5)) ba;obtain⟨u,hu⟩:=nm ((Gp A pl.toArray (136*q) x)[5*(x%5)+x/5]!);rw[hu]at c1 Y bi;rw[show 0+(5*(x%5)+x/5)=x%5*5+x/5 by omega]at c1 f1;have U:Aside (Dg w wr d bp pl.toArray (Gp A pl.toArray (136*q) x)/\Gp A pl.toArray (136*q) (x+1)=(Gp A pl.toArray (136*q) x).set! (5*(x%5)+x/5) (u^^^n)/\bits .xor .u64 (u:Int) (n:Int)=((u^^^n:Nat):Int)/\(Gp A pl.toArray (136*q) x).size=25):=⟨K,Y,bi,by omega⟩;clear K hA J c f ew Y P ba hn bi hu B gi ie az hy;obtain⟨a1,a2,a3,b1,b2,b3,d1,d2,d3⟩:=mO x ay;go_wp2;go_region;clear a1 a2 a3 b1 b2 b3 d1 d2 d3 c1 f1;go_wp2;obtain⟨K,Y,bi,ew⟩:=U.o;go_roundg (17-(x+1))
         case measure=>omega
         case rel=>refine⟨x+1,by omega,rfl,by go_num,?_⟩;rw[Y];exact(K.Oo (by omega) (by omega) ew (ld bi)).drew
      .obtain rfl:x=17:=by omega
       obtain⟨M,hM⟩:=nm (Gp A pl.toArray (136*q) 17);have aj:M.size=25:=by rw[<-hM,zH];exact hA
       have P:Kp M:=by rw[<-hM];exact wD _ _ J 17
       have cu:Dg w wr d bp pl.toArray M:=by rw[<-hM];exact K
       have HM:Hid (∀k,k=17->Gp A pl.toArray (136*q) k=M):=λk hk=>by subst hk;exact hM
       have h:Aside (Dg w wr d bp pl.toArray M/\M.size=25/\Kp M/\K3 pl.toArray/\pl.length=m+1):=⟨cu,aj,P,c,f⟩;clear K hA J c f hM aj P cu ay hx;go_wp2;obtain⟨cu,aj,P,c,f⟩:=h.o;go_loopg [9] 24 (λg i wr=>∃r:Nat,r<=24/\g=24-r/\i=Ia ka (r:Int)/\Dg w wr d bp pl.toArray (N1 M r))
       case atStart=>exact⟨0,by omega,rfl,rfl,cu⟩
       case round=>
        obtain⟨r,hr,rfl,rfl,au⟩:=hrel;clear cu h;by_cases ei:r<24
        .have V:=(Fz M r).trans aj;have cq:=Ow P r;have H:N1 M (r+1)=Hz (N1 M r) r:=rfl;rw[<-aG _ V cq]at H;obtain⟨R,hR⟩:=nm (N1 M r);rw[hR]at V cq H au;have hF:(Hn R Fb cb r).size=25:=by rw[aG R V cq,xH];exact V
         have Z:=λW=>nM R Fb cb r W V rfl rfl cq zD dB ei;obtain⟨F,fy⟩:=nm (Hn R Fb cb r);rw[fy]at H hF Z;have df:=au.p.range V rfl;have X:(oa.info? 131).map (·.size)=some (Kt R Fb cb).length:=by rw[vq,Ms V rfl rfl]
         have ac:(oa.info? 131).map (·.size)=some (Kt F Fb cb).toArray.size:=by rw[vq];simp[jq hF]
         have N:=Yp (Fx F Fb cb);have bf:∀W,Ba wr W->W.there bp 0 (Kt F Fb cb).toArray.size/\Dg w (W.setCells bp 0 (Kt F Fb cb)) d bp pl.toArray F:=λW hW=>⟨by have :=(au.call hW).there V;simpa[jq hF]using this,(au.call hW).Mr V hF⟩;obtain⟨fv,dv⟩:=nm (Kt R Fb cb);obtain⟨ch,dw⟩:=nm (Kt F Fb cb);rw[dv]at df X Z;rw[dw]at ac N Z bf;have HC:Hid (∀W,Calls oa 71 #[Sa fv.toArray,Ia ka (r:Int)] W λe W'=>e=na (Sa ch.toArray)/\Ba W W'):=Z;have fq:Hid (∀W,Ba wr W->W.there bp 0 ch.toArray.size/\Dg w (W.setCells bp 0 ch) d bp pl.toArray F):=bf;have h:Aside (M.size=25/\Kp M/\K3 pl.toArray/\pl.length=m+1/\N1 M (r+1)=F):=⟨aj,P,c,f,H⟩;clear au aj P c f V cq H hR hF fy Z bf dv dw;go_wp2_with (refine Zr rfl 131 _ rfl bp 0 rfl fv _ df underlying131 rfl X ?_)
         refine(HC _).mono ?_;rintro e w6 ⟨rfl,dt⟩;have f9:=(fq w6 dt).1;have A6:Aside (Dg w (w6.setCells bp 0 ch) d bp pl.toArray F):=(fq w6 dt).2;clear dt df;go_wp2_with (refine Zs rfl 131 _ _ rfl bp 0 ch.toArray rfl rfl f9 ac N ?_)
         clear f9 X ac N;obtain⟨aj,P,c,f,H⟩:=h.o;go_roundg (24-(r+1))
         case measure=>omega
         case rel=>exact⟨r+1,by omega,rfl,by go_num,by rw[H];exact A6.o⟩
        .obtain rfl:r=24:=by omega
         have H:=HN (q+1) 17 24 rfl rfl rfl;rw[HM.o 17 rfl]at H;have cw:Dg w wr d bp pl.toArray (N8 pl (q+1)):=by rw[H];exact au
         obtain⟨An,cj⟩:=nm (N8 pl (q+1));rw[cj]at cw;have h:Aside (Dg w wr d bp pl.toArray An/\N8 pl (q+1)=An):=⟨cw,cj⟩;have j6:wrap64 (136*(q:Int)+136)=136*(q:Int)+136:=LQ q m HQ eh HS.2.1;clear au aj P c f H cw cj ei hr HN HM;go_wp2;obtain⟨cw,cj⟩:=h.o;go_roundg (Q-(q+1))
         case measure=>omega
         case rel=>exact⟨q+1,by omega,rfl,ld (by omega),by rw[cj];exact cw⟩
    .obtain rfl:q=Q:=by omega
     have I:=JH pl c q;have E:=ED pl c q;have dq:G8 s=Np (N8 pl q) 32:=by rw[XN,HL.o (),HP.o (),VR l.length m G q HQ.o (by rw[HS.2.2.1];exact fp.o) (by rw[HS.2.2.1];exact HG.o)]
     obtain⟨L,hL⟩:=nm (N8 pl q);rw[hL]at t I E dq;have HD:Hid (∀k,k=32->G8 s=Np L k):=λk hk=>by subst hk;exact dq
     have t1:((m:Int)+1)<=(136*(q:Int)):=by have :=HQ.o;omega
     have bm:Ot w (wr.alloc (ma Zh 39)) bp wr.heap.size L (Np L 0):=⟨t.fr.below.alloc (by have :=t.fr.size;omega) _,Jm t.fr.th _,t.p.a.alloc t.b3 _,QI wr _ Zh 32 (by kernel_rfl),Nat.lt_trans t.b1 t.b2,t.b3,by simp⟩;have h:Aside (Ot w (wr.alloc (ma Zh 39)) bp wr.heap.size L (Np L 0)/\L.size=25/\Kp L):=⟨bm,I,E⟩;clear t I E dq hL bm c f;go_wp2;obtain⟨bm,I,E⟩:=h.o;obtain⟨bo,gc⟩:=nm wr.heap.size;rw[gc]at bm⊢;generalize hw7:wr.alloc (ma _ 39)=w7;have gq:Ot w w7 bp bo L (Np L 0):=by rw[<-hw7];exact bm
     clear bm hw7 h gc t1 HL HP HQ HG HS fp;go_loopg [11] 4 (λg i wr=>∃x:Nat,x<=4/\g=4-x/\i=Ia ka (x:Int)/\Ot w wr bp bo L (Np L (8*x)))
     case atStart=>exact⟨0,by omega,rfl,rfl,gq⟩
     case round=>
      obtain⟨x,hx,rfl,rfl,al⟩:=hrel;clear gq;by_cases ay:x<4
      .obtain⟨c0,f0⟩:=al.a (5*x) (by omega);have fg:=E (5*x);obtain⟨u,hu⟩:=nm (L[5*x]!);rw[hu]at c0 fg;rw[show 0+5*x=x*5 by omega]at c0;have HU:Hid (L[5*x]! =u/\u<18446744073709551616):=⟨hu,fg⟩;have h:Aside (Ot w wr bp bo L (Np L (8*x))/\L.size=25/\Kp L):=⟨al,I,E⟩;clear al I E hu fg f0;go_wp2;obtain⟨al,I,E⟩:=h.o;clear c0;go_loopg [12,13] 8 (λg n k wr=>∃y:Nat,y<=8/\g=8-y/\n=Ia .u64 ((u/256^y:Nat):Int)/\k=Ia ka (y:Int)/\Ot w wr bp bo L (Np L (8*x+y)))
       case atStart=>exact⟨0,by omega,rfl,by simp,rfl,al⟩
       case round=>
        obtain⟨y,hy,rfl,rfl,rfl,bc⟩:=hrel;clear al h;by_cases az:y<8
        .obtain⟨c1,f1⟩:=bc.o (8*x+y) (by rw[Lp];omega);rw[Zf]at c1 f1;have am:=ZO L x y u HU.1 az;have ej:u/256^(y+1)=u/256^y/256:=by rw[Jk,Nat.div_div_eq_div_mul]
         have eo:u/256^y<18446744073709551616:=Vx (Nat.div_le_self _ _) HU.2;obtain⟨n,hn⟩:=nm (u/256^y);rw[hn]at am ej eo⊢;have aq:Hid (Np L (8*x+(y+1))=(Np L (8*x+y)).set! (8*x+y) (n%256)/\u/256^(y+1)=n/256/\n<18446744073709551616):=⟨am,ej,eo⟩;have h:Aside (Ot w wr bp bo L (Np L (8*x+y))/\L.size=25/\Kp L):=⟨bc,I,E⟩;clear bc I E am ej eo hn;obtain⟨j1,j2,j3,j4⟩:=HJ x y ay az;go_wp2;clear j1 j2 j3 j4 c1 f1;obtain⟨bc,I,E⟩:=h.o;go_roundg (8-(y+1))
         case measure=>omega
         case rel=>
          refine⟨y+1,by omega,rfl,?_,by go_num,?_⟩;.rw[aq.2.1];exact ld (RN n aq.2.2)
          .rw[aq.1];exact bc.set (by omega) (by rw[Lp];omega) (ld (DN n))
        .obtain rfl:y=8:=by omega
         have T:Ot w wr bp bo L (Np L (8*(x+1))):=by rw[show 8*(x+1)=8*x+8 by omega];exact bc
         obtain⟨D,hD⟩:=nm (Np L (8*(x+1)));rw[hD]at T;obtain⟨n,hn⟩:=nm (u/256^8);rw[hn];have h:Aside (Ot w wr bp bo L D/\Np L (8*(x+1))=D/\L.size=25/\Kp L):=⟨T,hD,I,E⟩;clear bc T hD I E hn az hy HU;go_wp2;obtain⟨T,hD,I,E⟩:=h.o;go_roundg (4-(x+1))
         case measure=>omega
         case rel=>exact⟨x+1,by omega,rfl,by go_num,by rw[hD];exact T⟩
      .obtain rfl:x=4:=by omega
       have dr:=Lp L 32;have T:Ot w wr bp bo L (Np L 32):=al;obtain⟨D,hD⟩:=nm (Np L 32);rw[hD]at T dr;have i8:Hid (∀u:Unit,G8 s=D):=λ_=>(HD 32 rfl).trans hD;obtain⟨X,ac,i7,cf⟩:=qm dr T.th;have df:=T.o.range;have N:=Yp (Bi D .u8);have A3:Aside (Ba w wr/\wr.there w.heap.size 0 (D.toList.map Kf).length):=⟨T.below,cf⟩;clear al T hD I E ay hx HD cf dr;go_wp2_with (first
        | (refine Zr rfl 39 _ rfl bo 0 rfl (D.toList.map Kf) _ df underlying39 rfl X ?_)
        | (refine Zs rfl 39 _ _ rfl w.heap.size 0 (D.toList.map Kf).toArray rfl rfl i7 ac N ?_))
       obtain⟨ia,cf⟩:=A3.o;refine Zv (v:=Sa (D.toList.map Kf).toArray) (si results24 _ _ _ w.heap.size 0 rfl (Yg _ _ _ 39 _ _ (Zn _ _ _ _ cf) underlying39 rfl X)) rfl ⟨?_,Cg ia (Za _) _ _⟩;rw[i8.o ()]
end Go.Proofs.YtpfbdlnibdfcoaaGreatDoor
