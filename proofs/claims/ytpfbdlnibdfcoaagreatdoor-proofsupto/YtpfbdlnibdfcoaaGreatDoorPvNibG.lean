import Derived.Test.YtpfbdlnibdfcoaaGreatDoorPvOwnG
namespace Go.Proofs.YtpfbdlnibdfcoaaGreatDoor
open Go.RowKit Tryz
open Value renaming int->Ia,string->La,slice->Ma,bool->Oa,pointer->Qa,agg->Sa,tuple->Wa,iface->ca,nilIface->da
open IntKind renaming i64->ka
open Obj renaming cells->ma
open Ending renaming returned->na
open Tryz renaming prog->oa
set_option maxRecDepth 100000
set_option maxHeartbeats 0
def Kg(l:List Nat):Da:=⟨(l.map UInt8.ofNat).toArray⟩
theorem me(l:List Nat):(Kg l).size=l.length:=by show(l.map UInt8.ofNat).toArray.size=_;simp
variable{l:List Nat}
theorem qg(h:∀x∈l,x<256):Ke (Kg l)=l:=by
 unfold Ke Kg;simp only[Xx];conv=>rhs;rw[<-List.map_id l]
 apply Vs;intro x a;have :=h x a;simp;omega
theorem wF(l:List Nat):∀r:Da,(l.map (λn:Nat=>(n:Int))).foldl (λr n=>r.push (UInt8.ofNat n.toNat)) r=⟨r.data++(l.map UInt8.ofNat).toArray⟩:=by
 induction l with
 |nil=>intro r;simp
 |cons x l ih=>intro r;simp only[Xm,X6];rw[ih];simp[ByteArray.push]
variable{B:Nat}{v:Value}
theorem nj{P:Program}(w:Fa)(src dst e:TypeId)(hs:P.underlying src=some (.slice e))(he:P.underlying e=some (.int .u8))(hd:P.underlying dst=some .string)(h:Own w B v l):(convert src dst v).run P w=.ok (La (Kg l)) w:=by
 rcases h with⟨rfl,rfl⟩|⟨g,cap,rfl,_,_,_,_,_,h6⟩;.exact Lib.run_convert_nil_bytes w src dst e 0 hs he hd
 .rw[run_convert_bytes_string w src dst e _ _ _ hs he hd];have a:=run_loadCells_list (P:=P) w ⟨g,0,none⟩ (l.map Kf) (λj u c=>by obtain⟨d,rfl⟩:=(enc_getElem? l j u).1 c;rw[X7,Zf];exact h6 j d);rw[Zl]at a;have b:l.map Kf=(l.map (λn:Nat=>(n:Int))).map (Value.int .u8):=by rw[Xx];rfl
  rw[b]at a;rw[run_bytesToString w ⟨g,0,none⟩ l.length cap _ a,wF];unfold Kg;simp
def Gi(n:Nat):Nat->List Nat
 |0=>[]
 |i+1=>if n/2^(56-8*i)=0 then Gi n i else Gi n i++[n/2^(56-8*i)%256]
def G4(n:Nat):List Nat:=Gi n 8
theorem xx(n:Nat):∀i,(Gi n i).length<=i:=by
 intro i;induction i with
 |zero=>simp[Gi]
 |succ i ih=>
  rw[Gi];split;.omega
  .simp only[Zq,Zu,Yq];omega
theorem cL(n:Nat):∀i,∀x∈Gi n i,x<256:=by
 intro i;induction i with
 |zero=>simp[Gi]
 |succ i ih=>
  rw[Gi];split;.exact ih
  .intro x a;rcases Yc.1 a with a|a;.exact ih x a
   .obtain rfl:=Y8.1 a;exact Nat.mod_lt _ (by decide)
theorem jR(n:Nat):(G4 n).length<=8:=xx n 8
theorem lQ(n:Nat):∀x∈G4 n,x<256:=cL n 8
theorem zm(n:Nat)(h:n<18446744073709551616):IntKind.u64.wrap (n:Int)=(n:Int):=by simp only[Jf];omega
theorem um:(oa.info? 5).map (λi=>(i.zero,i.size,i.bytes))=some (some (Ia .u8 0),1,1):=by kernel_rfl
theorem iQ(n k:Nat):((n:Int)/2^k)=((n/2^k:Nat):Int):=by rw[Int.natCast_ediv,Int.natCast_pow];rfl
theorem dN(n:Nat)(w:Fa)(hn:n<18446744073709551616):Calls oa 134 #[Ia .u64 (n:Int)] w λe w'=>e=na (La (Kg (G4 n)))/\Ba w w':=by
 obtain⟨S,P,I,J,K⟩:=Xl um;go_enter func134,ntmps134;have Z:Hid (n<18446744073709551616):=hn;clear hn;go_wp2;go_loopg [3,4] 8 (λg v s wr=>∃x:Nat,x<=8/\g=8-x/\s=Ia ka (56-8*(x:Int))/\Own wr w.heap.size v (Gi n x)/\Ba w wr)
 case atStart=>exact⟨0,by omega,rfl,rfl,Own.nil _ _,Zb _ _⟩
 case round=>
  obtain⟨x,hx,rfl,rfl,c,d⟩:=hrel;by_cases V:x<8
  .obtain⟨k,H⟩:=nm (56-8*x);have y:(56-8*(x:Int))=(k:Int):=by omega
   rw[y];have a:Gi n (x+1)=if n/2^k=0 then Gi n x else Gi n x++[n/2^k%256]:=by rw[<-H];rfl
   have R:k<64:=by omega
   obtain⟨q,C⟩:=nm (n/2^k);have Y:((n:Int)/2^k)=(q:Int):=by rw[iQ,C]
   rw[C]at a;have U:(0:Int)<=(k:Int):=by omega
   have p:=d.size;have l:=xx n x;have r:(k:Int)-8=56-8*((x+1:Nat):Int):=by omega
   have m:Hid ((k:Int)-8=56-8*((x+1:Nat):Int)):=r;have b:Aside (Own wr w.heap.size u3 (Gi n x)/\Ba w wr/\w.heap.size<=wr.heap.size/\(Gi n x).length<=x):=⟨c,d,p,l⟩;clear c d H C y p l r;by_cases f:q=0
   .subst f;rw[Zo rfl]at a;have h:Aside (Gi n (x+1)=Gi n x):=a;clear a;go_wp2;go_roundg (8-(x+1))
    case measure=>omega
    case rel=>exact⟨x+1,by omega,rfl,ld m.o,by rw[h.o];exact b.1,b.2.1⟩
   .rw[Zj f]at a;have X:((q:Int) != 0)=true:=by simp[f]
    have h:Aside (Gi n (x+1)=Gi n x++[q%256]):=a;have B:Hid (∀o,Own (wr.alloc o) w.heap.size u3 (Gi n x)):=λo=>b.1.alloc o;clear a f;go_wp2_with (at_builtin;refine Fq _ rfl _ _ 116 rfl 5 S underlying116 P I J K w.heap.size _ (Gi n x) rfl (B _) wr.heap.size 0 1 [q%256] rfl ?c1 ?c2 ?c3 ?_)
    case c1=>
     intro j Q;have G:j=0:=by simpa using Q
     subst G;rw[Zf,Ze];simp
    case c2=>have :=b.2.2.2;simp;omega
    case c3=>have :=b.2.2.1;simp;omega
    intro T L i;have F:Aside (Own L w.heap.size T (Gi n (x+1))/\Ba w L):=by have O:=b.2.2.1;refine⟨by rw[h.o];exact i.own,i.below (B _) (b.2.1.alloc O _) (by simp;omega)⟩
    clear i B;go_wp2;go_roundg (8-(x+1))
    case measure=>omega
    case rel=>exact⟨x+1,by omega,rfl,ld m.o,F.o⟩
  .obtain rfl:x=8:=by omega
   have z:∀W:Fa,W=wr->Sem.run oa (convert 116 9 u3) W=.ok (La (Kg (G4 n))) W:=λW N=>by subst N;exact nj W 116 9 5 underlying116 underlying5 underlying9 c
   have E:=z wr rfl;obtain⟨t,D⟩:=nm (Kg (G4 n));rw[D]at E;have M:Hid (∀u:Unit,Kg (G4 n)=t):=λ_=>D;have b:Aside (Ba w wr):=d;clear c d z D;go_wp2;go_ret;exact⟨by rw[M.o ()];rfl,b.o⟩
def K4(kind n:Nat):List Nat:=if n<=55 then[(kind+n)%256]else(kind+55+(G4 n).length)%256::G4 n
theorem Mq(kind n:Nat):(K4 kind n).length<=9:=by
 unfold K4;split;.simp
 .have :=xx n 8;simp only[Zu];unfold G4;omega
theorem NE(kind n:Nat)(w:Fa)(hown:Own w B v l)(hB:B<=w.heap.size)(hn:n<=70368744177664)(hl:l.length<=70368744177664):Calls oa 175 #[v,Ia .u8 (kind:Int),Ia ka (n:Int)] w λe w'=>∃v',e=na v'/\Dc w w' B v v' (l++K4 kind n):=by
 obtain⟨M,J,r,s,u⟩:=Xl um;by_cases C:n<=55
 .have m:K4 kind n=[(kind+n)%256]:=by unfold K4;rw[Zo C]
  have i:Hid (∀o,Own (w.alloc o) B v l):=λo=>hown.alloc o;have H:(n:Int)<=55:=by omega
  have b:Aside (Own w B v l/\B<=w.heap.size/\l.length<=70368744177664):=⟨hown,hB,hl⟩;rw[m];clear hown hB hl m hn;go_enter func175,ntmps175;go_wp2_with (at_builtin;refine Fq _ rfl _ _ 116 rfl 5 M underlying116 J r s u B _ l rfl (i _) w.heap.size 0 1 [(kind+n)%256] rfl ?c1 ?c2 ?c3 ?_)
  case c1=>
   intro j K;have p:j=0:=by simpa using K
   subst p;rw[Zf,Ze];simp
  case c2=>have :=b.2.2;simp;omega
  case c3=>have :=b.2.1;simp;omega
  intro y O a;have h:Aside (Dc w O B v y (l++[(kind+n)%256])):=a.after ((Zb _ _).alloc (Za _) _);clear a i;go_wp2;go_ret;exact⟨y,rfl,h.o⟩
 .have m:K4 kind n=(kind+55+(G4 n).length)%256::G4 n:=by unfold K4;rw[Zj C]
  have H:¬(n:Int)<=55:=by omega
  have D:=jR n;have k:=lQ n;have x:Hid (∀W,Calls oa 134 #[Ia .u64 (n:Int)] W λe w'=>e=na (La (Kg (G4 n)))/\Ba W w'):=λW=>dN n W (by omega);have S:Hid (IntKind.u64.wrap (n:Int)=(n:Int)):=zm n (by omega);have b:Aside (Own w B v l/\B<=w.heap.size/\l.length<=70368744177664):=⟨hown,hB,hl⟩;have g:=me (G4 n);have f:=qg k;rw[m];obtain⟨d,I⟩:=nm (G4 n);have E:d.length<=8:=by rw[<-I];exact D
  rw[I]at x g f⊢;obtain⟨t,U⟩:=nm (Kg d);rw[U]at x g f;have G:Hid (Ke t=d/\t.size=d.length/\d.length<=8):=⟨f,g,E⟩;clear hown hB hl m hn D k I U f;obtain⟨q,L⟩:=nm d.length;rw[L]at g E⊢;have X:Hid (d.length=q):=L;clear L;go_enter func175,ntmps175;go_wp2_with fail
  rw[S.o];refine(x _).mono ?_;rintro e z ⟨rfl,c⟩;have T:=c.size;have i:Hid (∀o,Own (z.alloc o) B v l):=λo=>(b.1.below c).alloc o;have P:Aside (Ba w z/\B<=z.heap.size):=⟨c,by have :=b.2.1;omega⟩;clear c T x S;go_wp2_with (at_builtin;refine Fq _ rfl _ _ 116 rfl 5 M underlying116 J r s u B _ l rfl (i _) z.heap.size 0 1 [(kind+55+q)%256] rfl ?c1 ?c2 ?c3 ?_)
  case c1=>
   intro j K;have p:j=0:=by simpa using K
   subst p;rw[Zf,Ze];simp
  case c2=>have :=b.2.2;simp;omega
  case c3=>have :=P.2;simp;omega
  intro y O a;have Q:=(a.after ((Zb _ _).alloc (Za _) _)).after P.1;have F:Hid (Dc w O B v y (l++[(kind+55+q)%256])):=Q;clear a i Q;go_wp2_with (at_builtin;refine zs _ rfl _ _ 116 9 rfl 5 M underlying116 underlying9 J r s u B _ (l++[(kind+55+q)%256]) rfl F.own t rfl ?d1 ?d2 ?_)
  case d1=>have :=b.2.2;have :=G.2.1;have :=G.2.2;simp;omega
  case d2=>have :=b.2.1;have :=F.grown.size;omega
  intro N V a;have R:Dc w V B v N (l++((kind+55+q)%256::d)):=by have :=F.trans a;rw[G.1]at this;simpa using this
  have h:Aside (Dc w V B v N (l++((kind+55+q)%256::d))):=R;clear a R;go_wp2;go_ret;exact⟨N,rfl,h.o⟩
def Kh(t:List Nat):List Nat:=(if t.length=1/\t[0]! <128 then[]else K4 128 t.length)++t
def Ks(t:List Nat):List Nat:=K4 192 t.length++t
theorem Ij(t:List Nat):(Kh t).length<=t.length+9:=by unfold Kh;have :=Mq 128 t.length;split<;>simp <;>omega
theorem KB(t:List Nat):(Ks t).length<=t.length+9:=by unfold Ks;have :=Mq 192 t.length;simp;omega
theorem pq(s:Da)(w:Fa)(hown:Own w B v l)(hB:B<=w.heap.size)(hs:s.size<=70368744177600)(hl:l.length<=70368744177600):Calls oa 133 #[v,La s] w λe w'=>∃v',e=na v'/\Dc w w' B v v' (l++Kh (Ke s)):=by
 obtain⟨C,z,q,r,t⟩:=Xl um;have b:=ta s;have k:Hid (Calls oa 175 #[v,Ia .u8 ((128:Nat):Int),Ia ka (s.size:Int)] w λe w'=>∃v',e=na v'/\Dc w w' B v v' (l++K4 128 s.size)):=NE 128 s.size w hown hB (by omega) (by omega);have j:Aside (Own w B v l/\B<=w.heap.size/\l.length<=70368744177600/\s.size<=70368744177600/\(K4 128 s.size).length<=9):=⟨hown,hB,hl,hs,Mq _ _⟩;have c:∀{W:Fa} {u:Value} {m:List Nat},Dc w W B v u (l++m)->∀{W':Fa} {u':Value},Dc W W' B u u' (l++(m++Ke s))->m++Ke s=Kh (Ke s)->Dc w W' B v u' (l++Kh (Ke s)):=λN _ _ O e=>by have :=N.trans O;rw[e]at this;exact this
 by_cases p:s.size=1
 .have y:0<s.size:=by omega
  have I:(Ke s)[0]! =(s[0]'y).toNat:=by unfold Ke;rw[Z9 _ 0 (by simpa using y)];simp;rfl
  by_cases x:(Ke s)[0]! <128
  .have e:([]:List Nat)++Ke s=Kh (Ke s):=by unfold Kh;rw[Zo ⟨by rw[b,p],x⟩]
   have J:((s[0]'y).toNat:Int)<128:=by omega
   have n:Hid (([]:List Nat)++Ke s=Kh (Ke s)):=e;have L:Hid (Own w B v l):=hown;clear hown hB hs hl e b I x k;go_enter func133,ntmps133;go_wp2_with (at_builtin;refine zs _ rfl _ _ 116 9 rfl 5 C underlying116 underlying9 z q r t B _ l rfl L s rfl ?d1 ?d2 ?_)
   case d1=>obtain⟨_,_,F,G,_⟩:=j.o;omega
   case d2=>exact j.2.1
   intro d o a;have H:Dc w o B v d (l++Kh (Ke s)):=by rw[<-n.o];simpa using a
   have f:Aside (Dc w o B v d (l++Kh (Ke s))):=H;clear H;clear a c;go_wp2;go_ret;exact⟨d,rfl,f.o⟩
  .have e:K4 128 s.size++Ke s=Kh (Ke s):=by unfold Kh;rw[Zj (λh=>x h.2),b]
   have J:(128:Int)<=((s[0]'y).toNat:Int):=by omega
   have n:Hid (K4 128 s.size++Ke s=Kh (Ke s)):=e;clear hown hB hs hl e b I x;go_enter func133,ntmps133;go_wp2_with fail
   rw[p]at k;refine k.mono ?_;rintro e E ⟨D,rfl,g⟩;have i:Hid (Dc w E B v D (l++K4 128 1)):=g;rw[p]at n;clear g k;have K:Aside ((K4 128 1).length<=9):=Mq _ _;go_wp2_with (at_builtin;refine zs _ rfl _ _ 116 9 rfl 5 C underlying116 underlying9 z q r t B _ (l++K4 128 1) rfl i.own s rfl ?d1 ?d2 ?_)
   case d1=>obtain⟨_,_,F,G,M⟩:=j.o;have :=K.o;rw[Zq];omega
   case d2=>have :=j.2.1;have :=i.grown.size;omega
   intro d o a;have f:Aside (Dc w o B v d (l++Kh (Ke s))):=c i a n.o;clear a c;go_wp2;go_ret;exact⟨d,rfl,f.o⟩
 .have e:K4 128 s.size++Ke s=Kh (Ke s):=by unfold Kh;rw[Zj (λh=>p (by rw[<-b];exact h.1)),b]
  have P:¬(s.size:Int)=1:=by omega
  have n:Hid (K4 128 s.size++Ke s=Kh (Ke s)):=e;clear hown hB hs hl e b p;go_enter func133,ntmps133;go_wp2_with fail
  refine k.mono ?_;rintro e E ⟨D,rfl,g⟩;have i:Hid (Dc w E B v D (l++K4 128 s.size)):=g;clear g k;go_wp2_with (at_builtin;refine zs _ rfl _ _ 116 9 rfl 5 C underlying116 underlying9 z q r t B _ (l++K4 128 s.size) rfl i.own s rfl ?d1 ?d2 ?_)
  case d1=>obtain⟨_,_,F,G,M⟩:=j.o;rw[Zq];omega
  case d2=>have :=j.2.1;have :=i.grown.size;omega
  intro d o a;have f:Aside (Dc w o B v d (l++Kh (Ke s))):=c i a n.o;clear a c;go_wp2;go_ret;exact⟨d,rfl,f.o⟩
theorem iC{u:Value}{m:List Nat}(w:Fa)(hown:Own w B v l)(hu:Own w B u m)(hne:∀k,v.ownBlock=some k->u.ownBlock≠some k)(hB:B<=w.heap.size)(hm:m.length<=70368744177600)(hl:l.length<=70368744177600):Calls oa 135 #[v,u] w λe w'=>∃v',e=na v'/\Dc w w' B v v' (l++Ks m):=by
 obtain⟨L,J,E,F,G⟩:=Xl um;have o:Hid (Calls oa 175 #[v,Ia .u8 ((192:Nat):Int),Ia ka (m.length:Int)] w λe w'=>∃v',e=na v'/\Dc w w' B v v' (l++K4 192 m.length)):=NE 192 m.length w hown hB (by omega) (by omega);have h:=Mq 192 m.length;have r:Aside (Own w B u m/\B<=w.heap.size/\l.length<=70368744177600/\m.length<=70368744177600/\(K4 192 m.length).length<=9/\(∀k,v.ownBlock=some k->u.ownBlock≠some k)):=⟨hu,hB,hl,hm,h,hne⟩;have e:l++(K4 192 m.length++m)=l++Ks m:=rfl;have y:Hid (l++(K4 192 m.length++m)=l++Ks m):=e;clear e;rcases hu with⟨rfl,rfl⟩|⟨g,cap,rfl,h1,h2,h3,h4,h5,h6⟩
 .clear hown hne hB hm hl h;go_enter func135,ntmps135;go_wp2_with fail
  refine o.mono ?_;rintro e c ⟨s,rfl,a⟩;have f:Dc w c B v s (l++K4 192 0):=a;clear a;have i:0<(l++K4 192 0).length:=by have :K4 192 0=[192]:=rfl;rw[this];simp
  obtain⟨g,cap,rfl,_,_,d,_⟩:=f.own.full i;have z:l++K4 192 0=l++Ks []:=by rw[<-y.o];simp
  have b:Hid (Dc w c B v (Ma (some ⟨g,0,none⟩) (l++K4 192 0).length cap) (l++Ks [])):=by rw[<-z];exact f
  obtain⟨n,D⟩:=nm ((l++K4 192 0).length);rw[D]at d b⊢;have M:n+0<=cap:=d;clear f o i z D;go_wp2;go_ret;exact⟨_,rfl,b.o⟩
 .clear hown hne hB hm hl h;go_enter func135,ntmps135;go_wp2_with fail
  refine o.mono ?_;rintro e c ⟨s,rfl,a⟩;have b:Hid (Dc w c B v s (l++K4 192 m.length)):=a;have p:c.heap[g]? =w.heap[g]? :=a.grown.block g h2 (λe=>r.2.2.2.2.2 g e.symm rfl);have I:Hid (∀j,j<m.length->c.cell? ⟨g,0+j,none⟩=some (Kf m[j]!)):=λj K=>by rw[Zf,Zc p];exact h6 j K
  clear a o h1 h2 h3 h4 h5 h6 p;go_wp2_with (at_builtin;refine Fq _ rfl _ _ 116 rfl 5 L underlying116 J E F G B _ (l++K4 192 m.length) rfl b.own g 0 cap m rfl I.o ?d1 ?d2 ?_)
  case d1=>obtain⟨_,_,N,O,P,_⟩:=r.o;rw[Zq];omega
  case d2=>have :=r.2.1;have :=b.grown.size;omega
  intro t H q;have C:Dc w H B v t (l++Ks m):=by have :=b.trans q;rw[<-y.o];simpa using this
  have x:Aside (Dc w H B v t (l++Ks m)):=C;clear q C;go_wp2;go_ret;exact⟨t,rfl,x.o⟩
def Kl(l:List Nat):List Nat:=l.flatMap λx=>[x/16,x%16]
theorem Cj(l:List Nat):(Kl l).length=2*l.length:=by
 induction l with
 |nil=>rfl
 |cons x l ih=>have :Kl (x::l)=[x/16,x%16]++Kl l:=rfl;rw[this,Zq,ih];simp;omega
theorem mB(l:List Nat)(x:Nat):Kl (l++[x])=Kl l++[x/16,x%16]:=by unfold Kl;rw[List.flatMap_append];simp
theorem Im(x:Nat)(h:x<4194304):wrap64 ((x:Int)+1)=((x+1:Nat):Int):=by unfold wrap64;omega
theorem TA(x:Nat)(h:x<256):bits .and .u8 (x:Int) 15=((x%16:Nat):Int):=by
 have a:∀i:Fin 256,bits .and .u8 (i.val:Int) 15=((i.val%16:Nat):Int):=by decide+kernel
 exact a ⟨x,h⟩
theorem zB(s:Da)(w:Fa)(hown:Own w B v l)(hB:B<=w.heap.size)(hs:s.size<=4194304)(hl:l.length<=4194304):Calls oa 132 #[v,La s] w λe w'=>∃v',e=na v'/\Dc w w' B v v' (l++Kl (Ke s)):=by
 obtain⟨T,S,L,M,N⟩:=Xl um;have k:=ta s;go_enter func132,ntmps132;go_wp2;go_loopg [0,8] s.size (λg u i wr=>∃x:Nat,x<=s.size/\g=s.size-x/\i=Ia ka (x:Int)/\Dc w wr B v u (l++Kl ((Ke s).take x)))
 case atStart=>exact⟨0,by omega,rfl,rfl,by simpa[Kl]using Dc.refl hown⟩
 case round=>
  obtain⟨x,V,rfl,rfl,a⟩:=hrel;by_cases f:x<s.size
  .obtain⟨c,t⟩:=nm ((Ke s)[x]!);have No:(s[x]'f).toNat=c:=by rw[<-t];unfold Ke;rw[Z9 _ x (by simpa using f)];simp;rfl
   have I:c<256:=by rw[<-No];exact Vy _
   have d:(Ke s).take (x+1)=(Ke s).take x++[c]:=by rw[Z1 (by omega),<-t,Z9 _ x (by omega)]
   have o:Kl ((Ke s).take (x+1))=Kl ((Ke s).take x)++[c/16,c%16]:=by rw[d,mB]
   have r:=TA c I;have n:(Kl ((Ke s).take x)).length=2*x:=by rw[Cj,Zx];omega
   have J:(x:Int)<(s.size:Int):=by omega
   have b:Aside (Dc w wr B v u0 (l++Kl ((Ke s).take x))/\B<=w.heap.size/\l.length<=4194304/\s.size<=4194304/\(Kl ((Ke s).take x)).length=2*x/\Kl ((Ke s).take (x+1))=Kl ((Ke s).take x)++[c/16,c%16]):=⟨a,hB,hl,hs,n,o⟩;clear a t d o n hown hB hs hl k;obtain⟨m,h⟩:=nm (l++Kl ((Ke s).take x));have p:Hid (∀u:Unit,l++Kl ((Ke s).take x)=m):=λ_=>h;have F:Hid (Own (wr.drew.alloc (ma #[Ia .u8 ((c:Int)/16),Ia .u8 ((c:Int)%16)] 5)) B u0 m):=by rw[<-h];exact b.1.own.drew.alloc _
   have E:Hid (∀j,j<[c/16,c%16].length->(wr.drew.alloc (ma #[Ia .u8 ((c:Int)/16),Ia .u8 ((c:Int)%16)] 5)).cell? ⟨wr.heap.size,0+j,none⟩=some (Kf [c/16,c%16][j]!)):=by
    intro j hj;have e:=Ze wr.drew #[Ia .u8 ((c:Int)/16),Ia .u8 ((c:Int)%16)] 5 (0+j);refine Eq.trans e ?_;match j,hj with
    |0,_=>simp
    |1,_=>simp
    |j+2,hj=>simp only[Zu,Yq]at hj;omega
   have G:m.length+[c/16,c%16].length<=140737488355328:=by obtain⟨_,_,q,U,Q,_⟩:=b.o;rw[<-h,Zq,Q];simp only[Zu,Yq];omega
   have H:B<=(wr.drew.alloc (ma #[Ia .u8 ((c:Int)/16),Ia .u8 ((c:Int)%16)] 5)).heap.size:=by have :=b.1.grown.size;have :=b.2.1;simp;omega
   have C:Hid (m.length+[c/16,c%16].length<=140737488355328):=G;have D:Hid (B<=(wr.drew.alloc (ma #[Ia .u8 ((c:Int)/16),Ia .u8 ((c:Int)%16)] 5)).heap.size):=H;clear h G H;go_wp2;go_region_law (refine jJ _ rfl (.tmp 11) (.tmp 20) 116 rfl 5 T underlying116 S L M N B u0 m (by simp[Act.eval]) F wr.heap.size 0 2 [c/16,c%16] (by simp[Act.eval]) E C D.o ?_;intro O P a)
   all_goals
    have z:Dc w P B v O (l++Kl ((Ke s).take (x+1))):=by obtain⟨q,_,_,_,_,R⟩:=b.o;rw[R,<-Xz,p.o ()];rw[p.o ()]at q;exact q.trans (a.after ((Zb _ _).drew.alloc (Za _) _))
    have y:Aside (Dc w P B v O (l++Kl ((Ke s).take (x+1)))):=z;clear z a F E C D p r No;go_wp2;obtain⟨_,hB,hl,hs,_,_⟩:=b.o;go_roundg (s.size-(x+1))
    case measure=>omega
    case rel=>exact⟨x+1,by omega,rfl,ld (Im x (by omega)),y.o⟩
  .have K:x=s.size:=by omega
   have d:(Ke s).take x=Ke s:=Zz (by omega);rw[d]at a;have J:(s.size:Int)<=(x:Int):=by omega
   have b:Aside (Dc w wr B v u0 (l++Kl (Ke s))):=a;clear a f K d hown hB hs hl k;go_wp2;go_ret;exact⟨u0,rfl,b.o⟩
def Nb:List Nat->List Nat
 |a::b::r=>(a*16+b)::Nb r
 |_=>[]
theorem LA:∀l:List Nat,(Nb l).length=l.length/2
 | []=>rfl
 | [_]=>by simp[Nb]
 |a::b::r=>by rw[Nb,Zu,LA r];simp only[Zu];omega
theorem AD:∀(l:List Nat) (a b:Nat),l.length%2=0->Nb (l++[a,b])=Nb l++[a*16+b]
 | [],a,b,_=>rfl
 | [_],_,_,h=>by simp at h
 |x::y::r,a,b,h=>by have :=AD r a b (by simp at h;omega);simp only[Vh,Nb,this]
def Kj(p:List Nat)(leaf:Bool):List Nat:=((if leaf then 32 else 0)+(if p.length%2=1 then 16+p[0]! else 0))::Nb (p.drop (p.length%2))
theorem MQ(a b:Nat)(ha:a<16)(hb:b<16):bits .or .u8 ((a:Int)*16) (b:Int)=((a*16+b:Nat):Int):=by
 have c:∀i:Fin 16,∀j:Fin 16,bits .or .u8 ((i.val:Int)*16) (j.val:Int)=((i.val*16+j.val:Nat):Int):=by decide+kernel
 exact c ⟨a,ha⟩ ⟨b,hb⟩
theorem FH(c:Nat)(h:c<16):IntKind.u8.wrap ((c:Int)*16)=(c:Int)*16:=by simp only[IntKind.wrap,IntKind.bits,IntKind.signed];simp;omega
theorem yg(r:Da)(j:Nat)(hj:j<r.size):(r[j]'hj).toNat=(Ke r)[j]! :=by unfold Ke;rw[Z9 _ j (by simpa using hj)];simp;rfl
theorem ym(s:Da):Ke (s.extract 1 s.size)=(Ke s).drop 1:=by unfold Ke;rw[<-J6];congr 1;simp only[Jh,Js,V6];rw[Zz];simp
def N0:List Nat->List Nat
 |a::b::r=>(a*16+b)::N0 r
 | [a]=>[a*16]
 | []=>[]
theorem SF:∀l:List Nat,l.length%2=0->N0 l=Nb l
 | [],_=>rfl
 | [_],h=>by simp at h
 |a::b::r,h=>by rw[N0,Nb,SF r (by simp only[Zu]at h;omega)]
theorem bD:∀l:List Nat,(N0 l).length=(l.length+1)/2
 | []=>rfl
 | [_]=>by simp[N0]
 |a::b::r=>by rw[N0,Zu,bD r];simp only[Zu];omega
theorem yD:∀(l:List Nat) (a b:Nat),l.length%2=0->N0 (l++[a,b])=N0 l++[a*16+b]
 | [],a,b,_=>rfl
 | [_],_,_,h=>by simp at h
 |x::y::r,a,b,h=>by have :=yD r a b (by simp at h;omega);simp only[Vh,N0,this]
theorem XD:∀(l:List Nat) (a:Nat),l.length%2=0->N0 (l++[a])=N0 l++[a*16]
 | [],a,_=>rfl
 | [_],_,h=>by simp at h
 |x::y::r,a,h=>by have :=XD r a (by simp at h;omega);simp only[Vh,N0,this]
theorem fQ(s:Da)(w:Fa)(hown:Own w B v l)(hB:B<=w.heap.size)(hs:s.size<=4194304)(hl:l.length<=4194304)(hn:∀x∈Ke s,x<16):Calls oa 174 #[v,La s] w λe w'=>∃v',e=na v'/\Dc w w' B v v' (l++N0 (Ke s)):=by
 obtain⟨V,T,L,M,N⟩:=Xl um;have h:=ta s;have HS:Hid (s.size<=4194304/\B<=w.heap.size/\l.length<=4194304/\(∀x∈Ke s,x<16)/\(Ke s).length=s.size):=⟨hs,hB,hl,hn,h⟩;have HW:Hid (Own w B v l):=hown;clear hown hB hs hl hn h;go_enter func174,ntmps174;go_wp2;go_loopg [0,5] s.size (λg u i wr=>∃x:Nat,2*x<=s.size+1/\g=s.size-2*x/\i=Ia ka (2*(x:Int))/\Dc w wr B v u (l++N0 ((Ke s).take (2*x))))
 case atStart=>exact⟨0,by omega,rfl,rfl,by simpa[N0]using Dc.refl HW.o⟩
 case round=>
  obtain⟨x,hx,rfl,rfl,a⟩:=hrel;obtain⟨hs,hB,hl,hn,h⟩:=HS.o;by_cases D:2*x<s.size
  .obtain⟨c,y⟩:=nm ((Ke s)[2*x]!);have No:(s[2*x]'D).toNat=c:=by rw[<-y];exact yg s (2*x) D
   have m:c<16:=by rw[<-y,Z9 (Ke s) _ (by omega)];exact hn _ (Zy _)
   have F:(Ke s)[2*x]'(by omega)=c:=by rw[<-y,Z9 (Ke s) _ (by omega)]
   have Q:wrap64 (2*(x:Int)+2)=2*((x+1:Nat):Int):=by unfold wrap64;omega
   have H:Hid (wrap64 (2*(x:Int)+2)=2*((x+1:Nat):Int)):=Q;have W:(2*(x:Int)).toNat=2*x:=by omega
   have X:(2*(x:Int)+1).toNat=2*x+1:=by omega
   have Y:2*(x:Int)<(s.size:Int):=by omega
   have k1:IntKind.i64.wrap (2*(x:Int)+1)=2*(x:Int)+1:=Ci _ (by omega) (by omega);have P:=FH c m;have Z:(0:Int)<=2*(x:Int):=by omega
   have i6:(0:Int)<=2*(x:Int)+1:=by omega
   have I:(N0 ((Ke s).take (2*x))).length<=4194304:=by rw[bD,Zx];omega
   have r:((Ke s).take (2*x)).length%2=0:=by rw[Zx];omega
   have n:∀z:Nat,N0 ((Ke s).take (2*(x+1)))=N0 ((Ke s).take (2*x))++[z]->Hid (∀k,k=wr.alloc (ma #[Ia .u8 (z:Int)] 5)->Own k B u0 (l++N0 ((Ke s).take (2*x)))/\(∀j,j<[z].length->k.cell? ⟨wr.heap.size,0+j,none⟩=some (Kf [z][j]!))/\(l++N0 ((Ke s).take (2*x))).length+[z].length<=140737488355328/\B<=k.heap.size/\∀p q,Dc k q B u0 p ((l++N0 ((Ke s).take (2*x)))++[z])->Dc w q B v p (l++N0 ((Ke s).take (2*(x+1))))):=by
    intro z o k hw;subst hw;refine⟨a.own.alloc _,?_,?_,?_,?_⟩
    .intro j hj;have U:j=0:=by simpa using hj
     subst U;exact Ze wr #[Ia .u8 (z:Int)] 5 0
    .simp only[Zq,Zu,Yq];omega
    .have :=a.grown.size;simp;omega
    .intro p q h2;rw[o,<-Xz];exact a.trans (h2.after ((Zb _ _).alloc (Za _) _))
   by_cases K:2*x+1<s.size
   .obtain⟨d,G⟩:=nm ((Ke s)[2*x+1]!);have S:(s[2*x+1]'K).toNat=d:=by rw[<-G];exact yg s (2*x+1) K
    have C:d<16:=by rw[<-G,Z9 (Ke s) _ (by omega)];exact hn _ (Zy _)
    have R:(Ke s)[2*x+1]'(by omega)=d:=by rw[<-G,Z9 (Ke s) _ (by omega)]
    have f:(Ke s).take (2*(x+1))=(Ke s).take (2*x)++[c,d]:=by rw[show 2*(x+1)=2*x+1+1 by omega,Z1 (by omega),Z1 (by omega),F,R];simp
    have J:=MQ c d m C;have O:2*(x:Int)+1<(s.size:Int):=by omega
    obtain⟨z,o⟩:=nm (c*16+d);have b:=n z (by rw[f,yD _ _ _ r,o]);rw[o]at J;clear f F R G y C m o n a hs hB hl hn h I r Q;go_wp2_with (at_builtin;refine Fq _ rfl _ _ 116 rfl 5 V underlying116 T L M N B u0 _ rfl (b _ rfl).1 wr.heap.size 0 1 [z] rfl (b _ rfl).2.1 (b _ rfl).2.2.1 (b _ rfl).2.2.2.1 ?_;intro p q a;have t:Aside (Dc w q B v p (l++N0 ((Ke s).take (2*(x+1))))):=(b _ rfl).2.2.2.2 _ _ a;clear a b)
    clear No S k1 P J W X Y O Z i6;go_roundg (s.size-2*(x+1))
    case measure=>omega
    case rel=>exact⟨x+1,by omega,rfl,ld H.o,t.o⟩
   .have f:(Ke s).take (2*(x+1))=(Ke s).take (2*x)++[c]:=by rw[Zz (by omega),show Ke s=(Ke s).take (2*x+1)from(Zz (by omega)).symm,Z1 (by omega),F];rw[V9 (by rw[Zx];omega),Jb,Nat.min_self]
    have O:(s.size:Int)<=2*(x:Int)+1:=by omega
    obtain⟨z,o⟩:=nm (c*16);have b:=n z (by rw[f,XD _ _ r,o]);have E:(c:Int)*16=(z:Int):=by omega
    rw[E]at P;clear f F y m o n a hs hB hl hn h I r Q;go_wp2_with (at_builtin;refine Fq _ rfl _ _ 116 rfl 5 V underlying116 T L M N B u0 _ rfl (b _ rfl).1 wr.heap.size 0 1 [z] rfl (b _ rfl).2.1 (b _ rfl).2.2.1 (b _ rfl).2.2.2.1 ?_;intro p q a;have t:Aside (Dc w q B v p (l++N0 ((Ke s).take (2*(x+1))))):=(b _ rfl).2.2.2.2 _ _ a;clear a b)
    clear No k1 P E W X Y O Z i6;go_roundg (s.size-2*(x+1))
    case measure=>omega
    case rel=>exact⟨x+1,by omega,rfl,ld H.o,t.o⟩
  .have ac:(s.size:Int)<=2*(x:Int):=by omega
   have f:(Ke s).take (2*x)=Ke s:=Zz (by omega);rw[f]at a;have AS:Aside (Dc w wr B v u0 (l++N0 (Ke s))):=a;clear a D f hs hB hl hn h;go_wp2;go_ret;exact⟨u0,rfl,AS.o⟩
theorem CF(s:Da)(leaf:Bool)(w:Fa)(hs:s.size<=4194304)(hn:∀x∈Ke s,x<16):Calls oa 130 #[La s,Oa leaf] w λe w'=>e=na (La (Kg (Kj (Ke s) leaf)))/\Ba w w':=by
 have c:=ta s;have p:Hid (∀(f:Nat) (r:Da) (z:Int),z=(f:Int)->(∀x∈Ke r,x<16)->r.size<=4194304->(Ke r).length%2=0->Calls oa 174 #[Ma (some ⟨w.heap.size,0,none⟩) 1 1,La r] (w.alloc (ma #[Ia .u8 z] 5)) λe w'=>∃q,e=na q/\Ba w w'/\(convert 116 9 q).run oa w'=.ok (La (Kg (f::Nb (Ke r)))) w'):=by intro f r z J y I B;subst J;have G:=Own.Ff w 5 [f] (by unfold maxLen;simp);refine(fQ r _ G (by simp) I (by simp) y).mono ?_;rintro e w' ⟨q,rfl,C⟩;refine⟨q,rfl,C.below G ((Zb _ _).alloc (Za _) _) (by simp),?_⟩;have D:=C.own;rw[SF _ B]at D;exact nj w' 116 9 5 underlying116 underlying5 underlying9 D
 by_cases a:s.size%2=1
 .have E:((s.size:Int)%2==1)=true:=by simp;omega
  have F:0<s.size:=by omega
  obtain⟨b,H⟩:=nm (s[0]'F).toNat;have j:(Ke s)[0]! =b:=by rw[<-H,yg s 0 F]
  have k:b<16:=by rw[<-j,Z9 _ 0 (by omega)];exact hn _ (Zy _)
  have K:(16+(b:Int))%256=16+(b:Int):=by omega
  have L:(32+(16+(b:Int)))%256=32+(16+(b:Int)):=by omega
  have o:Aside (s.size<=4194304/\(∀x∈Ke s,x<16)/\(Ke s).length=s.size/\(Ke s)[0]! =b/\b<16/\s.size%2=1):=⟨hs,hn,c,j,k,a⟩;clear hs hn c j k a;go_enter func130,ntmps130;cases leaf
  .go_wp2_with fail
   obtain⟨hs,hn,c,j,k,a⟩:=o.o;have d:(16+b)::Nb (Ke (s.extract 1 s.size))=Kj (Ke s) false:=by unfold Kj;rw[ym,c,a,Zo rfl,j];simp
   refine(p (16+b) (s.extract 1 s.size) (16+(b:Int)) (by simp) (by rw[ym];exact λx u=>hn x (Yu u)) (by have :=ta (s.extract 1 s.size);rw[ym,Yi,c]at this;omega) (by rw[ym,Yi,c];omega)).mono ?_;rintro e n ⟨v,rfl,g,h⟩;rw[d]at h;obtain⟨t,i⟩:=nm (Kg (Kj (Ke s) false));rw[i]at h;have m:Hid (Kg (Kj (Ke s) false)=t):=i;have l:Aside (Ba w n):=g;clear g i d hs hn c a;go_wp2;go_ret;exact⟨by rw[m.o];rfl,l.o⟩
  .go_wp2_with fail
   obtain⟨hs,hn,c,j,k,a⟩:=o.o;have d:(32+(16+b))::Nb (Ke (s.extract 1 s.size))=Kj (Ke s) true:=by unfold Kj;rw[ym,c,a,Zo rfl,j];simp
   refine(p (32+(16+b)) (s.extract 1 s.size) (32+(16+(b:Int))) (by simp) (by rw[ym];exact λx u=>hn x (Yu u)) (by have :=ta (s.extract 1 s.size);rw[ym,Yi,c]at this;omega) (by rw[ym,Yi,c];omega)).mono ?_;rintro e n ⟨v,rfl,g,h⟩;rw[d]at h;obtain⟨t,i⟩:=nm (Kg (Kj (Ke s) true));rw[i]at h;have m:Hid (Kg (Kj (Ke s) true)=t):=i;have l:Aside (Ba w n):=g;clear g i d hs hn c a;go_wp2;go_ret;exact⟨by rw[m.o];rfl,l.o⟩
 .have E:((s.size:Int)%2==1)=false:=by simp;omega
  have o:Aside (s.size<=4194304/\(∀x∈Ke s,x<16)/\(Ke s).length=s.size/\s.size%2=0):=⟨hs,hn,c,by omega⟩;clear hs hn c a;go_enter func130,ntmps130;cases leaf
  .go_wp2_with fail
   obtain⟨hs,hn,c,a⟩:=o.o;have d:0::Nb (Ke s)=Kj (Ke s) false:=by unfold Kj;rw[c,a];rfl
   refine(p 0 s 0 (by rfl) (hn) (hs) (by rw[c];exact a)).mono ?_;rintro e n ⟨v,rfl,g,h⟩;rw[d]at h;obtain⟨t,i⟩:=nm (Kg (Kj (Ke s) false));rw[i]at h;have m:Hid (Kg (Kj (Ke s) false)=t):=i;have l:Aside (Ba w n):=g;clear g i d hs hn c a;go_wp2;go_ret;exact⟨by rw[m.o];rfl,l.o⟩
  .go_wp2_with fail
   obtain⟨hs,hn,c,a⟩:=o.o;have d:32::Nb (Ke s)=Kj (Ke s) true:=by unfold Kj;rw[c,a];rfl
   refine(p 32 s 32 (by rfl) (hn) (hs) (by rw[c];exact a)).mono ?_;rintro e n ⟨v,rfl,g,h⟩;rw[d]at h;obtain⟨t,i⟩:=nm (Kg (Kj (Ke s) true));rw[i]at h;have m:Hid (Kg (Kj (Ke s) true)=t):=i;have l:Aside (Ba w n):=g;clear g i d hs hn c a;go_wp2;go_ret;exact⟨by rw[m.o];rfl,l.o⟩
def K6:List Nat->Option (List Nat×Bool)
 | []=>none
 |c::r=>if 3<c/16 then none else if c/16%2=1 then some ((c%16)::Kl r,decide (2<=c/16))else if c%16=0 then some (Kl r,decide (2<=c/16))else none
theorem lj(s:Da)(h:0<s.size):s.toList.isEmpty=false:=by
 rw[Vn];have :s.data.toList.length=s.size:=by simp
 cases e:s.data.toList with
 |nil=>rw[e]at this;simp at this;omega
 |cons a l=>rfl
theorem ky(c:Nat)(r:List Nat):K6 (c::r)=if 3<c/16 then none else if c/16%2=1 then some ((c%16)::Kl r,decide (2<=c/16))else if c%16=0 then some (Kl r,decide (2<=c/16))else none:=rfl
theorem Bw(x:Nat)(h:x<4):bits .and .u8 (x:Int) 1=((x%2:Nat):Int):=by
 have a:∀i:Fin 4,bits .and .u8 (i.val:Int) 1=((i.val%2:Nat):Int):=by decide+kernel
 exact a ⟨x,h⟩
theorem fC(x:Nat)(h:x<4):bits .and .u8 (x:Int) 2=((x/2*2:Nat):Int):=by
 have a:∀i:Fin 4,bits .and .u8 (i.val:Int) 2=((i.val/2*2:Nat):Int):=by decide+kernel
 exact a ⟨x,h⟩
theorem DJ(s:Da)(w:Fa)(hs:s.size<=4194304)(p:List Nat)(leaf:Bool)(hu:K6 (Ke s)=some (p,leaf)):Calls oa 84 #[La s] w λe w'=>e=na (Wa #[La (Kg p),Oa leaf,da])/\Ba w w':=by
 obtain⟨i0,hi,ah,ai,aj⟩:=Xl um;have h:=ta s;have X:0<s.size:=by
  rw[<-h];cases e:Ke s with
  |nil=>rw[e]at hu;cases hu
  |cons c r=>simp
 obtain⟨c,K⟩:=nm (s[0]'X).toNat;have a:=ym s;obtain⟨r,M⟩:=nm ((Ke s).drop 1);have k:Ke s=c::r:=by have e:=Yv (l:=Ke s) (i:=0) (by omega);rw[Yx,Zf,M]at e;rw[<-K,yg s 0 X,Z9 _ 0 (by omega)];exact e
 rw[M]at a;rw[k]at hu;have ae:c<256:=by rw[<-K];exact Vy _
 rw[ky]at hu;by_cases F:3<c/16;.rw[Zo F]at hu;cases hu
 rw[Zj F]at hu;obtain⟨g,W⟩:=nm (c/16);obtain⟨d,L⟩:=nm (c%16);rw[W]at F hu;rw[L]at hu;have v:=TA c ae;rw[L]at v;have O:(c:Int)/16=(g:Int):=by omega
 have J:g<4:=by omega
 have I:=Bw g J;have b2:=fC g J;have Q:=lj s X;have ak:(g:Int)<=3:=by omega
 obtain⟨z,hz⟩:=nm (g/2*2);rw[hz]at b2;obtain⟨lf,H⟩:=nm (decide (2<=g));have al:((z:Int) != 0)=lf:=by
  rw[<-H];by_cases h2:2<=g
  .have :z≠0:=by omega
   simp[h2,this]
  .have :z=0:=by omega
   simp[h2,this]
 rw[H]at hu;clear hz H;by_cases f:g%2=1
 .rw[Zo f]at hu;cases hu;have ac:bits .and .u8 (g:Int) 1=1:=by rw[I,f];rfl
  have R:Hid (Own (w.drew.alloc (ma #[Ia .u8 (d:Int)] 5)) w.heap.size (Ma none 0 0) []):=Own.nil _ _;have C:Aside (s.size<=4194304/\Ke (s.extract 1 s.size)=r/\(Ke s).length=s.size/\Ke s=c::r):=⟨hs,a,h,k⟩;clear I hs a h k M W L f F J;go_enter func84,ntmps84;go_wp2;go_region;clear K O v Q;go_wp2_with (at_builtin;refine Fq _ rfl _ _ 116 rfl 5 i0 underlying116 hi ah ai aj w.heap.size _ [] rfl R w.heap.size 0 1 [d] rfl ?c1 ?c2 ?c3 ?_)
  case c1=>
   intro j hj;have ag:j=0:=by simpa using hj
   subst ag;exact Ze w.drew #[Ia .u8 (d:Int)] 5 0
  case c2=>simp
  case c3=>simp
  intro N B G;have E:=G.below R ((Zb _ _).drew.alloc (Za _) _) (by simp);have Y:Own B w.heap.size N [d]:=by simpa using G.own
  clear G R;obtain⟨x,u⟩:=nm (s.extract 1 s.size);have n:x.size<=4194304:=by rw[<-ta,<-u,C.2.1];have h1:=C.2.2.1;rw[C.2.2.2,Zu]at h1;have :=C.1;omega
  have D:Hid (Calls oa 132 #[N,La x] B λe w'=>∃v',e=na v'/\Dc B w' w.heap.size N v' ([d]++Kl r)):=by have :=zB x B Y E.size n (by simp);rw[<-u,C.2.1,u]at this;exact this
  have o:Hid (Ba w B/\Own B w.heap.size N [d]):=⟨E,Y⟩;clear E Y n;go_wp2_with fail
  refine D.mono ?_;rintro e w2 ⟨Z,rfl,b⟩;have m:=nj (P:=oa) w2 116 9 5 underlying116 underlying5 underlying9 b.own;obtain⟨t,q⟩:=nm (Kg (d::Kl r));have V:Sem.run oa (convert 116 9 Z) w2=.ok (La t) w2:=by rw[<-q];exact m
  have S:Hid (Kg (d::Kl r)=t):=q;have T:Hid (Ba w w2):=b.below o.2 o.1 o.1.size;clear b m q D;go_wp2;go_ret3;exact⟨by rw[S.o];rfl,T.o⟩
 .rw[Zj f]at hu;by_cases y:d=0
  .rw[Zo y]at hu;cases hu;have ac:bits .and .u8 (g:Int) 1=0:=by
    rw[I];have :g%2=0:=by omega
    rw[this];rfl
   have U:bits .and .u8 (c:Int) 15=0:=by rw[v,y];rfl
   obtain⟨x,u⟩:=nm (s.extract 1 s.size);have n:x.size<=4194304:=by rw[<-ta,<-u,a];rw[k,Zu]at h;omega
   have D:Hid (Calls oa 132 #[Ma none 0 0,La x] w.drew λe w'=>∃v',e=na v'/\Dc w.drew w' w.heap.size (Ma none 0 0) v' (Kl r)):=by have :=zB (l:=[]) x w.drew (Own.nil _ w.heap.size) (Za _) n (by simp);rw[<-u,a,u]at this;exact this
   have o:Hid (Ba w w.drew/\Own w.drew w.heap.size (Ma none 0 0) []):=⟨(Zb _ _).drew,Own.nil _ _⟩;clear I hs a h k M W L f F J n v y;go_enter func84,ntmps84;go_wp2;go_region;clear K O U Q;go_wp2_with fail
   refine D.mono ?_;rintro e w2 ⟨Z,rfl,b⟩;have m:=nj (P:=oa) w2 116 9 5 underlying116 underlying5 underlying9 b.own;obtain⟨t,q⟩:=nm (Kg (Kl r));have V:Sem.run oa (convert 116 9 Z) w2=.ok (La t) w2:=by rw[<-q];exact m
   have S:Hid (Kg (Kl r)=t):=q;have T:Hid (Ba w w2):=b.below o.2 o.1 o.1.size;clear b m q D;go_wp2;go_ret3;exact⟨by rw[S.o];rfl,T.o⟩
  .rw[Zj y]at hu;cases hu
end Go.Proofs.YtpfbdlnibdfcoaaGreatDoor
