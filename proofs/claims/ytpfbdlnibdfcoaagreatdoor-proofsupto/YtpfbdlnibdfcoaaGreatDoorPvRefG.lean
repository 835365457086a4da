import Derived.Test.YtpfbdlnibdfcoaaGreatDoorPvNdA
import Derived.Test.YtpfbdlnibdfcoaaGreatDoorPvText
namespace Go.Proofs.YtpfbdlnibdfcoaaGreatDoor
open Go.RowKit Tryz
open Value renaming int->Ia,string->La,slice->Ma,bool->Oa,pointer->Qa,agg->Sa,tuple->Wa,iface->ca,nilIface->da
open IntKind renaming i64->ka
open Obj renaming cells->ma
open Ending renaming returned->na
open Tryz renaming prog->oa
set_option maxRecDepth 100000
set_option maxHeartbeats 0
def Pb:Nat->Nat->List Nat
 |0,_=>[]
 |k+1,n=>if n=0 then[]else Pb k (n/256)++[n%256]
theorem uG:∀(k n:Nat),n<256^k->Nk (Pb k n)=n/\(∀x∈Pb k n,x<256)/\(Pb k n).length<=k/\(Pb k n≠[]->(Pb k n)[0]! ≠0)/\(Pb k n=[]->n=0)
 |0,n,h=>by
  have :n=0:=by simpa using h
  subst this;exact⟨rfl,by simp[Pb],by simp[Pb],by simp[Pb],λ_=>rfl⟩
 |k+1,n,h=>by
  rw[Jk]at h;obtain⟨h1,h2,h3,h4,h5⟩:=uG k (n/256) (by omega);rw[Pb];by_cases hz:n=0;.rw[Zo hz];exact⟨hz.symm,by simp,by simp,by simp,λ_=>hz⟩
  .rw[Zj hz];refine⟨by rw[Dv,h1];omega,?_,by simp;omega,λ_=>?_,by simp⟩
   .intro x hx;rcases Yc.1 hx with hx|hx;.exact h2 x hx
    .rw[Y8.1 hx];omega
   .cases hb:Pb k (n/256)with
    |nil=>have :=h5 hb;simp only[Xi,List.getElem!_cons_zero];omega
    |cons a r=>rw[hb]at h4;have :=h4 (by simp);simpa using this
theorem ES{n:Nat}(hn:n<18446744073709551616):Pb 8 n=G4 n:=by obtain⟨a,b,c,d,_⟩:=uG 8 n (by simpa using hn);rw[<-jw _ b c d,a]
theorem TJ(n:Nat)(hn:n<18446744073709551616)(w:Fa):Calls oa 89 #[Ia .u64 (n:Int)] w λe w'=>e=na (La (Kg (G4 n)))/\Ba w w':=by
 rw[<-ES hn];have r:=Hq Qn;go_enter func89,ntmps89;go_wp2;go_loopg [0,3] 8 (λγ v s wr=>∃(g m:Nat) (l:List Nat),g=γ/\m<256^g/\v=Ia .u64 (m:Int)/\s=La (Kg l)/\Pb g m++l=Pb 8 n/\Ba w wr/\l.length+g<=8)
 case atStart=>exact⟨8,n,[],rfl,by simpa using hn,rfl,rfl,by simp,Zb _ _,by simp⟩
 case round=>
  obtain⟨g,m,l,rfl,f,rfl,rfl,a,d,b⟩:=hrel;by_cases c:m=0
  .have q:Pb g m=[]:=by cases g<;>simp[Pb,c]
   rw[q,Xi]at a;have A:=Hq (A2 a d);have y:(m:Int)=0:=by omega
   clear a d q f c b;go_wp2;go_ret;exact⟨by rw[<-A.1];rfl,A.2⟩
  .obtain⟨k,rfl⟩:∃k,g=k+1:=by
    cases g with
    |zero=>simp at f;omega
    |succ k=>exact⟨k,rfl⟩
   rw[Pb,Zj c,Xz]at a;rw[Jk]at f;have A:=Hq (A4 a d (by omega :m/256<256^k) (by simp only[Zu];omega :(m%256::l).length+k<=8));have x:0<m:=by omega
   have i:m<18446744073709551616:=by
    have t:256^(k+1)<=256^8:=Jg (by decide) (by omega);have z:(256:Nat)^8=18446744073709551616:=by decide
    rw[Jk]at t;omega
   have h:IntKind.u64.wrap ((m:Int)/256)=((m/256:Nat):Int):=by rw[show(m:Int)/256=((m/256:Nat):Int)by omega];exact zm _ (by omega)
   have j:=Hq h;clear h i;have u:=λW=>wi [m%256] l (by simp only[Zu,Yq];omega) W;have o:=r wr (m%256);have p:((m%256:Nat):Int)=(m:Int)%256:=by omega
   rw[p]at o;clear a d f p c b;go_wp2;go_roundg k
   case measure=>omega
   case rel=>exact⟨k,m/256,m%256::l,rfl,A.2.2.1,ld j.o,rfl,A.1,(A.2.1.alloc A.2.1.size _),A.2.2.2⟩
theorem IQ(k n:Nat)(hk:k=128\/k=192)(hn:n<18446744073709551616):K4 k n=if n<=55 then[k+n]else(k+55+(G4 n).length)::G4 n:=by
 have :=XE n;unfold K4;split;.rw[Vq (by omega)]
 .rw[Vq (by omega)]
theorem GB(k n:Nat)(hk:k=128\/k=192)(hn:n<=140737488355328)(w:Fa):Calls oa 136 #[Ia ka (k:Int),Ia ka (n:Int)] w λe w'=>e=na (La (Kg (K4 k n)))/\Ba w w':=by
 rw[IQ k n hk (by omega)];have o:=Hq Qn;have j:=Hq (λW=>TJ n (by omega) W);have a:=XE n;by_cases h:n<=55
 .rw[Zo h];have t:(n:Int)<=55:=by omega
  have g:wrap64 ((k:Int)+(n:Int))=((k+n:Nat):Int):=by unfold wrap64;omega
  have i:((k+n:Nat):Int)%256=((k+n:Nat):Int):=by omega
  have f:=o w (k+n);obtain⟨z,c⟩:=nm (k+n);rw[c]at g i f⊢;have u:(k:Int)+(n:Int)=(z:Int):=by omega
  clear a hn hk c h j;go_enter func136,ntmps136;go_wp2;go_ret;exact⟨rfl,(Zb _ _).alloc (Za _) _⟩
 .rw[Zj h];have t:¬(n:Int)<=55:=by omega
  have v:=zm n (by omega);have q:=me (G4 n);obtain⟨b,l⟩:=nm (G4 n);rw[l]at a q⊢;obtain⟨z,c⟩:=nm (k+55+b.length);have g:wrap64 (wrap64 ((k:Int)+55)+(b.length:Int))=(z:Int):=by unfold wrap64;omega
  have i:(z:Int)%256=(z:Int):=by omega
  have s:=λW=>wi [z] b (by simp only[Zu,Yq];omega) W;have p:Hid (∀W,Calls oa 89 #[Ia .u64 (n:Int)] W λe w'=>e=na (La (Kg b))/\Ba W w'):=λW=>l▸j W;rw[c];clear a hn hk c h j l;go_enter func136,ntmps136;go_wp2_with fail
  refine(p _).mono ?_;rintro e r ⟨rfl,d⟩;have f:=o r z;have m:Aside (Ba w r):=d;clear d;go_wp2;go_ret;exact⟨rfl,m.alloc m.size _⟩
theorem Bn(s:Da):Kg (Ke s)=s:=by
 apply ByteArray.ext;unfold Kg Ke;simp only[Xx];apply Array.toList_inj.1;simp only;conv=>rhs;rw[<-List.map_id s.data.toList]
 apply Vs;intro x _;exact UInt8.ofNat_toNat
theorem Sr(s:Da)(w:Fa)(hs:s.size<=70368744177664):Calls oa 88 #[La s] w λe w'=>e=na (La (Kg (Kh (Ke s))))/\Ba w w':=by
 have a:=ta s;have r:=Hq hs;have f:Hid (∀W,Calls oa 136 #[Ia ka 128,Ia ka (s.size:Int)] W λe w'=>e=na (La (Kg (K4 128 s.size)))/\Ba W w'):=λW=>GB 128 s.size (.inl rfl) (by omega) W;have b:=λW=>wi (K4 128 s.size) (Ke s) (by have :=Mq 128 s.size;rw[a];omega) W;rw[Bn]at b;by_cases o:s.size=1
 .have n:0<s.size:=by omega
  obtain⟨c,p⟩:=nm (s[0]'n).toNat;have i:(Ke s)[0]! =c:=by rw[<-p,yg s 0 n]
  have q:((s.size:Int)==1)=true:=by simp;omega
  by_cases l:c<128
  .have e:Kg (Kh (Ke s))=s:=by unfold Kh;rw[Zo ⟨by omega,by omega⟩,Xi,Bn]
   have m:(c:Int)<128:=by omega
   rw[e];clear hs a i l b f;go_enter func88,ntmps88;go_wp2;go_ret;exact⟨rfl,Zb _ _⟩
  .have e:Kh (Ke s)=K4 128 s.size++Ke s:=by unfold Kh;rw[Zj (by rintro⟨_,h⟩;omega),a]
   have m:¬(c:Int)<128:=by omega
   rw[e];have g:Hid (∀W,Calls oa 136 #[Ia ka 128,Ia ka 1] W λe w'=>e=na (La (Kg (K4 128 s.size)))/\Ba W w'):=by rw[o];exact λW=>GB 128 1 (.inl rfl) (by omega) W
   clear f;generalize K4 128 s.size=hd at g b;clear hs a i l e;go_enter func88,ntmps88;go_wp2_with fail
   refine(g _).mono ?_;rintro e k ⟨rfl,d⟩;have j:Aside (Ba w k):=d;clear d;go_wp2;go_ret;exact⟨rfl,j.o⟩
 .have e:Kh (Ke s)=K4 128 s.size++Ke s:=by unfold Kh;rw[Zj (by rintro⟨h,_⟩;omega),a]
  have q:((s.size:Int)==1)=false:=by simp;omega
  rw[e];generalize K4 128 s.size=hd at f b;clear hs a e;go_enter func88,ntmps88;go_wp2_with fail
  refine(f _).mono ?_;rintro e k ⟨rfl,d⟩;have j:Aside (Ba w k):=d;clear d;go_wp2;go_ret;exact⟨rfl,j.o⟩
theorem xB(s:Da)(w:Fa)(hs:s.size<=70368744177664):Calls oa 87 #[La s] w λe w'=>e=na (La (Kg (Ks (Ke s))))/\Ba w w':=by
 have b:=ta s;have d:Hid (∀W,Calls oa 136 #[Ia ka 192,Ia ka (s.size:Int)] W λe w'=>e=na (La (Kg (K4 192 s.size)))/\Ba W w'):=λW=>GB 192 s.size (.inr rfl) (by omega) W;have a:=λW=>wi (K4 192 s.size) (Ke s) (by have :=Mq 192 s.size;rw[b];omega) W;rw[Bn]at a;have e:Ks (Ke s)=K4 192 s.size++Ke s:=by unfold Ks;rw[b]
 rw[e];generalize K4 192 s.size=hd at d a;clear hs b e;go_enter func87,ntmps87;go_wp2_with fail
 refine(d _).mono ?_;rintro e g ⟨rfl,c⟩;have f:Aside (Ba w g):=c;clear c;go_wp2;go_ret;exact⟨rfl,f.o⟩
theorem oN(w:Fa)(key:List Nat)(t:TypeId)(i:Nat)(hi:i<key.length):(w.alloc (ma (key.map Kf).toArray t)).cell? ⟨w.heap.size,i,none⟩=some (Ia .u8 ((key[i]:Nat):Int)):=by rw[Ze];simp[hi]
theorem qL(key:List Nat)(hl:key.length=32)(w:Fa):Calls oa 90 #[Sa (key.map Kf).toArray] w λe w'=>e=na (La (Kg key))/\Ba w w':=by
 have l:Hid (∀t i (g:i<key.length),(w.alloc (ma (key.map Kf).toArray t)).cell? ⟨w.heap.size,i,none⟩=some (Ia .u8 ((key[i]:Nat):Int))):=λt i g=>oN w key t i g;have p:=Hq Qn;have m:=Hq hl;generalize hA:(key.map Kf).toArray=A at l⊢;clear hl hA;go_enter func90,ntmps90;go_wp2;go_loopg [3,4] 32 (λgh u i wr=>∃x:Nat,x<=32/\gh=32-x/\i=Ia ka (x:Int)/\u=La (Kg (key.take x))/\Ba w wr/\w.heap.size<wr.heap.size/\∀i (g:i<key.length),wr.cell? ⟨w.heap.size,i,none⟩=some (Ia .u8 ((key[i]:Nat):Int)))
 case atStart=>exact⟨0,by omega,rfl,rfl,rfl,(Zb _ _).alloc (Za _) _,by simp,l _⟩
 case round=>
  obtain⟨x,z,rfl,rfl,rfl,a,n,h⟩:=hrel;by_cases s:x<32
  .have j:x<key.length:=by have :=m.o;omega
   have o:(x:Int)<32:=by omega
   have q:=h x j;obtain⟨b,f⟩:=nm key[x];rw[f]at q;have c:key.take (x+1)=key.take x++[b]:=by rw[Z1 j,f]
   have k:=λW=>wi (key.take x) [b] (by rw[Zx];simp only[Zu,Yq];omega) W;rw[<-c]at k;have r:=p wr b;have d:=Hq (A3 a n h);have v:¬w.heap.size=wr.heap.size:=by omega
   clear a h c f;go_wp2;go_roundg (32-(x+1))
   case measure=>omega
   case rel=>refine⟨x+1,by omega,rfl,by first|rfl|rw[Im x (by omega)],rfl,d.1.alloc d.1.size _,by simp;omega,λi g=>?_⟩;exact(Zc (Z0 _ _ _ d.2.1)).trans (d.2.2 i g)
  .have y:x=32:=by omega
   have o:¬(x:Int)<32:=by omega
   have c:key.take x=key:=Zz (by have :=m.o;omega);rw[c];have d:Aside (Ba w wr):=a;clear a h n;go_wp2;go_ret;exact⟨rfl,d.o⟩
theorem mP(w:Fa)(z:Nat):(convert 116 9 (Ma (some ⟨w.heap.size,0,none⟩) 1 1)).run oa (w.alloc (ma #[Ia .u8 (z:Int)] 5)).drew=.ok (La (Kg [z])) (w.alloc (ma #[Ia .u8 (z:Int)] 5)).drew:=nj _ 116 9 5 underlying116 underlying5 underlying9 (Own.Ff w 5 [z] (by unfold maxLen;simp)).drew
theorem qT(w:Fa)(y z:Nat):(convert 116 9 (Ma (some ⟨w.heap.size,0,none⟩) 2 2)).run oa (w.alloc (ma #[Ia .u8 (y:Int),Ia .u8 (z:Int)] 5)).drew=.ok (La (Kg [y,z])) (w.alloc (ma #[Ia .u8 (y:Int),Ia .u8 (z:Int)] 5)).drew:=nj _ 116 9 5 underlying116 underlying5 underlying9 (Own.Ff w 5 [y,z] (by unfold maxLen;simp)).drew
theorem gI(w:Fa)(y z:Nat):(convert 116 9 (Ma (some ⟨w.heap.size,0,none⟩) 2 2)).run oa (w.alloc (ma #[Ia .u8 (y:Int),Ia .u8 (z:Int)] 5))=.ok (La (Kg [y,z])) (w.alloc (ma #[Ia .u8 (y:Int),Ia .u8 (z:Int)] 5)):=nj _ 116 9 5 underlying116 underlying5 underlying9 (Own.Ff w 5 [y,z] (by unfold maxLen;simp))
theorem aQ(s:Da)(w:Fa)(hs:s.size<=4194304):Calls oa 85 #[La s] w λe w'=>e=na (La (Kg (Kl (Ke s))))/\Ba w w':=by
 have g:=ta s;have d:=Hq (A2 hs g);have t:=Hq qT;clear hs g;go_enter func85,ntmps85;go_wp2;go_loopg [3,4] s.size (λgh u i wr=>∃x:Nat,x<=s.size/\gh=s.size-x/\i=Ia ka (x:Int)/\u=La (Kg (Kl ((Ke s).take x)))/\Ba w wr)
 case atStart=>exact⟨0,by omega,rfl,rfl,rfl,Zb _ _⟩
 case round=>
  obtain⟨x,z,rfl,rfl,rfl,a⟩:=hrel;by_cases h:x<s.size
  .have r:(x:Int)<(s.size:Int):=by omega
   obtain⟨b,k⟩:=nm ((Ke s)[x]!);have o:(s[x]'h).toNat=b:=by rw[<-k];exact yg s x h
   have y:b<256:=by rw[<-o];exact Vy _
   have c:Kl ((Ke s).take (x+1))=Kl ((Ke s).take x)++[b/16,b%16]:=by rw[Z1 (by have :=d.2;omega),<-Z9 (Ke s) x (by have :=d.2;omega),k,mB]
   have l:(Kl ((Ke s).take x)).length<=8388608:=by rw[Cj,Zx];have :=d.o;omega
   have j:=λW=>wi (Kl ((Ke s).take x)) [b/16,b%16] (by simp only[Zu,Yq];omega) W;rw[<-c]at j;have p:=λW=>t W (b/16) (b%16);have m:((b/16:Nat):Int)=(b:Int)/16:=by omega
   have n:((b%16:Nat):Int)=(b:Int)%16:=by omega
   rw[m,n]at p;have f:Aside (Ba w wr):=a;have q:=Im x (by have :=d.1;omega);have v:=Hq q;clear a c l m n k q;go_wp2_with fail
   go_region;all_goals
    go_wp2;go_roundg (s.size-(x+1))
    case measure=>omega
    case rel=>exact⟨x+1,by omega,rfl,ld v.o,rfl,(f.alloc f.size _).drew⟩
  .have r:(s.size:Int)<=(x:Int):=by omega
   have c:(Ke s).take x=Ke s:=Zz (by have :=d.2;omega);rw[c];have f:Aside (Ba w wr):=a;clear a;go_wp2;go_ret;exact⟨rfl,f.o⟩
theorem zG:∀(l:List Nat) (a:Nat),l.length%2=0->Nb (l++[a])=Nb l
 | [],_,_=>rfl
 | [_],_,h=>by simp at h
 |x::y::r,a,h=>by have :=zG r a (by simp only[Zu]at h;omega);simp only[Vh,Nb,this]
theorem Qy(s:Da)(w:Fa)(hs:s.size<=8388610)(hn:∀x∈Ke s,x<16):Calls oa 131 #[La s] w λe w'=>e=na (La (Kg (Nb (Ke s))))/\Ba w w':=by
 have l:=ta s;have f:=Hq (A3 hs l hn);have F:=Hq mP;clear hs l hn;go_enter func131,ntmps131;go_wp2;go_loopg [3,4] s.size (λgh u i wr=>∃x:Nat,2*x<=s.size/\gh=s.size-2*x/\i=Ia ka (2*(x:Int))/\u=La (Kg (Nb ((Ke s).take (2*x))))/\Ba w wr)
 case atStart=>exact⟨0,by omega,rfl,rfl,rfl,Zb _ _⟩
 case round=>
  obtain⟨x,R,rfl,rfl,rfl,a⟩:=hrel;have n:=f.1;have M:wrap64 (2*(x:Int)+1)=2*(x:Int)+1:=by unfold wrap64;omega
  have I:IntKind.i64.wrap (2*(x:Int)+1)=2*(x:Int)+1:=Ci _ (by omega) (by omega);by_cases m:2*x+1<s.size
  .have D:2*(x:Int)+1<(s.size:Int):=by omega
   have N:2*(x:Int)<(s.size:Int):=by omega
   have j:2*x<s.size:=by omega
   obtain⟨b,r⟩:=nm ((Ke s)[2*x]!);obtain⟨d,t⟩:=nm ((Ke s)[2*x+1]!);have J:(s[2*x]'j).toNat=b:=by rw[<-r];exact yg s (2*x) j
   have L:(s[2*x+1]'m).toNat=d:=by rw[<-t];exact yg s (2*x+1) m
   have B:=f.2.1;have p:(Ke s)[2*x]'(by omega)=b:=by rw[<-r,Z9 (Ke s) _ (by omega)]
   have q:(Ke s)[2*x+1]'(by omega)=d:=by rw[<-t,Z9 (Ke s) _ (by omega)]
   have h:b<16:=by rw[<-p];exact f.2.2 _ (Zy _)
   have v:d<16:=by rw[<-q];exact f.2.2 _ (Zy _)
   have o:(Ke s).take (2*(x+1))=(Ke s).take (2*x)++[b,d]:=by rw[show 2*(x+1)=2*x+1+1 by omega,Z1 (by omega),Z1 (by omega),p,q];simp
   have c:Nb ((Ke s).take (2*(x+1)))=Nb ((Ke s).take (2*x))++[b*16+d]:=by rw[o,AD _ _ _ (by rw[Zx];omega)]
   have y:(Nb ((Ke s).take (2*x))).length<=8388610:=by rw[LA,Zx];omega
   have g:=λW=>wi (Nb ((Ke s).take (2*x))) [b*16+d] (by simp only[Zu,Yq];omega) W;rw[<-c]at g;obtain⟨z,E⟩:=nm (b*16+d);rw[E]at g;have K:=λW=>F W z;have X:IntKind.u8.wrap (16*(b:Int))=16*(b:Int):=by rw[Int.mul_comm];exact FH b h
   have Y:IntKind.u8.wrap (16*(b:Int)+(d:Int))=(z:Int):=by simp only[IntKind.wrap,IntKind.bits,IntKind.signed];simp;omega
   have Z:(16*(b:Int))%256=16*(b:Int):=by omega
   have m4:(16*(b:Int)+(d:Int))%256=(z:Int):=by omega
   have S:(2*(x:Int)).toNat=2*x:=by omega
   have T:(2*(x:Int)+1).toNat=2*x+1:=by omega
   have U:(0:Int)<=2*(x:Int):=by omega
   have V:(0:Int)<=2*(x:Int)+1:=by omega
   have k:Aside (Ba w wr):=a;have C:wrap64 (2*(x:Int)+2)=2*((x+1:Nat):Int):=by unfold wrap64;omega
   have G:=Hq C;clear a o y p q r t C c E h v B n;go_wp2_with fail
   go_region;all_goals
    go_wp2;go_roundg (s.size-2*(x+1))
    case measure=>omega
    case rel=>exact⟨x+1,by omega,rfl,ld G.o,rfl,(k.alloc k.size _).drew⟩
  .have D:(s.size:Int)<=2*(x:Int)+1:=by omega
   have c:Nb ((Ke s).take (2*x))=Nb (Ke s):=by
    have Q:=f.2.1;by_cases P:2*x=s.size;.rw[Zz (by omega)]
    .have O:s.size=2*x+1:=by omega
     have H:Ke s=(Ke s).take (2*x)++[(Ke s)[2*x]'(by omega)]:=by rw[<-Z1 (by omega),Zz (by omega)]
     conv=>rhs;rw[H]
     exact(zG _ _ (by rw[Zx];omega)).symm
   rw[c];have k:Aside (Ba w wr):=a;clear a n;go_wp2;go_ret;exact⟨rfl,k.o⟩
variable{p:List Nat}
theorem EF(h:p.length%2=1)(leaf:Bool):Kj p leaf=Nb ((if leaf then 3 else 1)::p):=by
 cases p with
 |nil=>simp at h
 |cons a q=>
  unfold Kj;rw[h,Zo rfl,Nb];simp only[List.getElem!_cons_zero,Y6,Yx];cases leaf;.simp
  .simp;omega
theorem zF(h:p.length%2=0)(leaf:Bool):Kj p leaf=Nb ((if leaf then 2 else 0)::0::p):=by unfold Kj;rw[h,Zj Nat.zero_ne_one,Nb,Yx];cases leaf<;>rfl
theorem pC(s:Da)(leaf:Bool)(w:Fa)(hs:s.size<=8388608)(hn:∀x∈Ke s,x<16):Calls oa 83 #[La s,Oa leaf] w λe w'=>e=na (La (Kg (Kj (Ke s) leaf)))/\Ba w w':=by
 have j:=ta s;by_cases l:s.size%2=1
 .have n:((s.size:Int)%2==1)=true:=by simp;omega
  have d:Hid (s.size<=8388608/\(Ke s).length%2=1/\(Ke s).length=s.size/\∀x∈Ke s,x<16):=⟨hs,by rw[j];exact l,j,hn⟩;clear hs hn j l;cases leaf
  .have e:Kj (Ke s) false=Nb (1::Ke s):=(EF d.2.1 false).trans (by rfl);have i:=Qn w 1;rw[show((1:Nat):Int)=1 from rfl]at i;have b:=λW=>wi [1] (Ke s) (by have :=d.o;simp only[Zu,Yq];omega) W;have c:Ke (Kg ([1]++Ke s))=1::Ke s:=qg (λx a=>by
    rcases Yf.1 a with rfl|a;.omega
    .have :=d.2.2.2 x a;omega)
   have g:Hid (∀W,Calls oa 131 #[La (Kg ([1]++Ke s))] W λe w'=>e=na (La (Kg (Nb (1::Ke s))))/\Ba W w'):=λW=>by have h:=Qy (Kg ([1]++Ke s)) W (by have :=d.o;rw[me];simp only[Zq,Zu,Yq];omega) (by rw[c];intro x a;rcases Yf.1 a with rfl|a;omega;exact d.2.2.2 x a);rw[c]at h;exact h
   rw[Bn]at b;rw[e];generalize Kg ([1]++Ke s)=cat at b g;generalize Kg (Nb (1::Ke s))=Qd at g;clear c e;go_enter func83,ntmps83;go_wp2_with fail
   refine(g _).mono ?_;rintro e m ⟨rfl,f⟩;have k:Aside (Ba w m):=Below.up f;clear f;go_wp2;go_ret;exact⟨rfl,k.o⟩
  .have e:Kj (Ke s) true=Nb (3::Ke s):=(EF d.2.1 true).trans (by rfl);have i:=Qn w 3;rw[show((3:Nat):Int)=3 from rfl]at i;have b:=λW=>wi [3] (Ke s) (by have :=d.o;simp only[Zu,Yq];omega) W;have c:Ke (Kg ([3]++Ke s))=3::Ke s:=qg (λx a=>by
    rcases Yf.1 a with rfl|a;.omega
    .have :=d.2.2.2 x a;omega)
   have g:Hid (∀W,Calls oa 131 #[La (Kg ([3]++Ke s))] W λe w'=>e=na (La (Kg (Nb (3::Ke s))))/\Ba W w'):=λW=>by have h:=Qy (Kg ([3]++Ke s)) W (by have :=d.o;rw[me];simp only[Zq,Zu,Yq];omega) (by rw[c];intro x a;rcases Yf.1 a with rfl|a;omega;exact d.2.2.2 x a);rw[c]at h;exact h
   rw[Bn]at b;rw[e];generalize Kg ([3]++Ke s)=cat at b g;generalize Kg (Nb (3::Ke s))=Qd at g;clear c e;go_enter func83,ntmps83;go_wp2_with fail
   refine(g _).mono ?_;rintro e m ⟨rfl,f⟩;have k:Aside (Ba w m):=Below.up f;clear f;go_wp2;go_ret;exact⟨rfl,k.o⟩
 .have n:((s.size:Int)%2==1)=false:=by simp;omega
  have d:Hid (s.size<=8388608/\(Ke s).length%2=0/\(Ke s).length=s.size/\∀x∈Ke s,x<16):=⟨hs,by rw[j];omega,j,hn⟩;clear hs hn j l;cases leaf
  .have e:Kj (Ke s) false=Nb (0::0::Ke s):=(zF d.2.1 false).trans (by rfl);have i:=gI w 0 0;rw[show((0:Nat):Int)=0 from rfl]at i;have b:=λW=>wi [0,0] (Ke s) (by have :=d.o;simp only[Zu,Yq];omega) W;have c:Ke (Kg ([0,0]++Ke s))=0::0::Ke s:=qg (λx a=>by
    rcases Yf.1 a with rfl|a;.omega
    .rcases Yf.1 a with rfl|a;.omega
     .have :=d.2.2.2 x a;omega)
   have g:Hid (∀W,Calls oa 131 #[La (Kg ([0,0]++Ke s))] W λe w'=>e=na (La (Kg (Nb (0::0::Ke s))))/\Ba W w'):=λW=>by
    have h:=Qy (Kg ([0,0]++Ke s)) W (by have :=d.o;rw[me];simp only[Zq,Zu,Yq];omega) (by
     rw[c];intro x a;rcases Yf.1 a with rfl|a;.omega
     .rcases Yf.1 a with rfl|a;.omega
      .exact d.2.2.2 x a)
    rw[c]at h;exact h
   rw[Bn]at b;rw[e];generalize Kg ([0,0]++Ke s)=cat at b g;generalize Kg (Nb (0::0::Ke s))=Qd at g;clear c e;go_enter func83,ntmps83;go_wp2_with fail
   refine(g _).mono ?_;rintro e m ⟨rfl,f⟩;have k:Aside (Ba w m):=Below.up f;clear f;go_wp2;go_ret;exact⟨rfl,k.o⟩
  .have e:Kj (Ke s) true=Nb (2::0::Ke s):=(zF d.2.1 true).trans (by rfl);have i:=gI w 2 0;rw[show((0:Nat):Int)=0 from rfl,show((2:Nat):Int)=2 from rfl]at i;have b:=λW=>wi [2,0] (Ke s) (by have :=d.o;simp only[Zu,Yq];omega) W;have c:Ke (Kg ([2,0]++Ke s))=2::0::Ke s:=qg (λx a=>by
    rcases Yf.1 a with rfl|a;.omega
    .rcases Yf.1 a with rfl|a;.omega
     .have :=d.2.2.2 x a;omega)
   have g:Hid (∀W,Calls oa 131 #[La (Kg ([2,0]++Ke s))] W λe w'=>e=na (La (Kg (Nb (2::0::Ke s))))/\Ba W w'):=λW=>by
    have h:=Qy (Kg ([2,0]++Ke s)) W (by have :=d.o;rw[me];simp only[Zq,Zu,Yq];omega) (by
     rw[c];intro x a;rcases Yf.1 a with rfl|a;.omega
     .rcases Yf.1 a with rfl|a;.omega
      .exact d.2.2.2 x a)
    rw[c]at h;exact h
   rw[Bn]at b;rw[e];generalize Kg ([2,0]++Ke s)=cat at b g;generalize Kg (Nb (2::0::Ke s))=Qd at g;clear c e;go_enter func83,ntmps83;go_wp2_with fail
   refine(g _).mono ?_;rintro e m ⟨rfl,f⟩;have k:Aside (Ba w m):=Below.up f;clear f;go_wp2;go_ret;exact⟨rfl,k.o⟩
end Go.Proofs.YtpfbdlnibdfcoaaGreatDoor
