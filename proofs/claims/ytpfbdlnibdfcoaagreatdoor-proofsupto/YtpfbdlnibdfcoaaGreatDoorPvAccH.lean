import Derived.Test.YtpfbdlnibdfcoaaGreatDoorPvNdA
import Derived.Test.YtpfbdlnibdfcoaaGreatDoorPvSmaG
namespace Go.Proofs.YtpfbdlnibdfcoaaGreatDoor
open Go.RowKit Tryz
open Value renaming int->Ia,string->La,slice->Ma,bool->Oa,pointer->Qa,agg->Sa,tuple->Wa,iface->ca,nilIface->da
open IntKind renaming i64->ka
open Obj renaming cells->ma
open Ending renaming returned->na
open Tryz renaming prog->oa
set_option maxRecDepth 100000
set_option maxHeartbeats 0
section
def Fh(s:Da)(sent:Nat->Addr)(w:Fa)(e:Ending)(w':Fa):Prop:=Ba w w'/\(∀er,Gb (Ke s)=.error er->∃t v,er.val sent=ca t v/\e=na (Wa #[H0,ca t v]))/\
  ∀x,Gb (Ke s)=.ok x->∃(fr en:Nat) (l:Bool) (tx:Da) (p:Option Addr) (m c:Nat),Tree Nj kP 6 w' (λk=>w.heap.size<=k) ⟨fr,en,l,tx,Ma p m c⟩ x/\e=na (Wa #[Ea ⟨fr,en,l,tx,Ma p m c⟩,da])
variable{er:Er}
theorem Fh.err{s:Da}{sent:Nat->Addr}{w:Fa}{e:Ending}{w':Fa}{t:TypeId}{v:Value}(h:Gb (Ke s)=.error er)(hb:Ba w w')(hv:er.val sent=ca t v)(he:e=na (Wa #[H0,ca t v])):Fh s sent w e w':=⟨hb,λer' h'=>(by rw[h]at h';cases h';exact⟨t,v,hv,he⟩),λx h'=>by rw[h]at h';cases h'⟩
theorem KR(s:Da)(sent:Nat->Addr)(w:Fa)(hF:Qb w sent)(hs:2048<s.size):Calls oa 127 #[La s] w (Fh s sent w):=by
 have b:w.cell? ⟨1,0,none⟩=some (ca 395 (Qa (some (sent 1)))):=hF.var 1 (by decide);have a:1<w.heap.size:=hF.low (n:=1) (by decide);have d:=λo=>FB o b a;have e:¬w.heap.size=1:=by omega
 have c:¬1=w.heap.size:=by omega
 have f:(2048:Int)<(s.size:Int):=by omega
 have A:Aside (Gb (Ke s)=.error (.base 1)):=by show Gb (Ke s)=.error (.base 1);unfold Gb;rw[Zo (by rw[ta];exact hs)]
 clear hF hs;go_enter func127,ntmps127;go_wp2;go_region;go_wp2;refine Zv (v:=Wa #[H0,ca 395 (Qa (some (sent 1)))]) (by simp[results,results127,go_sem]) rfl ?_;exact .err A ((Zb _ _).alloc (Za _) _).drew rfl rfl
theorem yE(s:Da)(sent:Nat->Addr)(w:Fa)(hF:Qb w sent):Calls oa 127 #[La s] w (Fh s sent w):=by
 by_cases f:2048<s.size;.exact KR s sent w hF f
 .have Y:(s.size:Int)<=2048:=by omega
  have g:Gb (Ke s)=(match Kx 6 (Ke s) 0 with | .error e=>.error e| .ok x=>if x.ra<(Ke s).length then .error (.place x.ra (.base 4))else .ok x):=by unfold Gb;rw[Zj (by rw[ta];exact f)];cases Kx 6 (Ke s) 0<;>rfl
  rw[ta]at g;have S:Hid (∀W,Ba w W->Calls oa 172 #[La s,Ia ka 0,Ia ka 0] W (Pf 6 s 0 sent W)):=λW V=>TK sent 6 0 s 0 W rfl (by omega) (by omega) (hF.below V);have N:=Hq hF;have E:=Hq g;clear hF g f;go_enter func127,ntmps127;go_wp2_with fail
  refine(S _ ((Zb _ _).alloc (Za _) _)).mono ?_;rintro e o ⟨a,h,i⟩;obtain⟨F,Z⟩:=Bf a 0 (v:=Ia ka 0) rfl;obtain⟨G,f1⟩:=Bf a 1 (v:=Ia ka 0) rfl;obtain⟨H,f2⟩:=Bf a 2 (v:=Oa false) rfl;obtain⟨I,f3⟩:=Bf a 3 (v:=La ⟨#[]⟩) rfl;obtain⟨J,f4⟩:=Bf a 4 (v:=Ma none 0 0) rfl;have u:Aside (Ba w o):=Below.up a;have j:w.heap.size<o.heap.size:=by have :=a.size;simp at this;omega
  have X:=Nat.ne_of_lt j;rcases hr:Kx 6 (Ke s) 0 with K|x;.obtain⟨t,v,Q,rfl⟩:=h K hr;have d:=Hq (A2 (by rw[E.o,hr]:Gb (Ke s)=.error K) Q);clear a h i hr Q;go_wp2;refine Zv (v:=Wa #[H0,ca t v]) (by simp[results,results127,go_sem,j,F,G,H,I,J]) rfl ?_;refine .err d.1 ?_ d.2 rfl;exact(((((u.setCell (Za _) _).setCell (Za _) _).setCell (Za _) _).setCell (Za _) _).setCell (Za _) _).alloc (by simp;omega) _
  .obtain⟨l,M,p,m,c,z,rfl⟩:=i x hr;obtain⟨h0,T,U⟩:=kq (by omega) hr;obtain⟨b,r⟩:=nm x.ra;rw[r]at z T U⊢;by_cases D:b<s.size
   .have L:(b:Int)<(s.size:Int):=by omega
    have d:Aside (Gb (Ke s)=.error (.place b (.base 4))):=by show Gb (Ke s)=.error (.place b (.base 4));rw[E.o,hr];simp only;rw[r,Zo D]
    have q:=N.below u.o;have g0:o.cell? ⟨3,0,none⟩=some (ca 395 (Qa (some (sent 4)))):=q.var 4 (by decide);have g1:3<o.heap.size:=q.low (n:=4) (by decide);have g3:3<w.heap.size:=N.low (n:=4) (by decide);have g2:¬3=w.heap.size:=by omega
    have g4:¬3=o.heap.size:=by omega
    clear a h i hr z q;go_wp2;go_region;go_wp2;refine Zv (v:=Wa #[H0,Pw b (ca 395 (Qa (some (sent 4))))]) (by simp[results,results127,go_sem,j,F,G,H,I,J]) rfl ?_;refine .err d.o ?_ rfl rfl;exact((((((u.setCell (Za _) _).setCell (Za _) _).setCell (Za _) _).setCell (Za _) _).setCell (Za _) _).alloc (by simp;omega) _).drew
   .have L:(s.size:Int)<=(b:Int):=by omega
    have d:Aside (Gb (Ke s)=.ok x):=by show Gb (Ke s)=.ok x;rw[E.o,hr];simp only;rw[r,Zj D]
    have C:=Tree.Cb (λk B=>by simp at B;omega) (Za _) (λ_ _ _=>rfl) 6 z;have A2:Aside (Tree Nj kP 6 o (λk=>w.heap.size<k) ⟨0,b,l,M,Ma p m c⟩ x):=C;clear a h i hr z C;go_wp2;refine Zv (v:=Wa #[Ea ⟨0,b,l,M,Ma p m c⟩,da]) (by simp[results,results127,go_sem,j,F,G,H,I,J]) rfl ?_;refine⟨(((((u.setCell (Za _) _).setCell (Za _) _).setCell (Za _) _).setCell (Za _) _).setCell (Za _) _).alloc (by simp;omega) _,λK O=>?_,λy R=>?_⟩;.rw[d.o]at O;cases O
    .rw[d.o]at R;cases R;refine⟨0,b,l,M,p,m,c,?_,rfl⟩;refine Tree.Cb (λk B=>V1 B) (by simp) (λk B P=>?_) 6 A2.o;rw[Z0 _ _ _ (by simpa using P),Zd _ _ _ _ (by simp only;omega),Zd _ _ _ _ (by simp only;omega),Zd _ _ _ _ (by simp only;omega),Zd _ _ _ _ (by simp only;omega),Zd _ _ _ _ (by simp only;omega)]
variable{l:List Nat}
theorem FI{e:Nat}(h:Ny l=.error e):e=2\/e=3:=by
 unfold Ny at h;split at h;.cases h;exact .inl rfl
 .split at h;.cases h
  .split at h
   .cases hf:Ad l 128 with
    |error x=>rw[hf]at h;cases h;cases x<;>simp
    |ok p=>
     obtain⟨a,b⟩:=p;rw[hf]at h;simp only at h;split at h;.cases h;exact .inr rfl
     .cases h
   .cases hf:Ad l 192 with
    |error x=>rw[hf]at h;cases h;cases x<;>simp
    |ok p=>obtain⟨a,b⟩:=p;rw[hf]at h;cases h
def mi(n:Nat)(er:Er):Prop:=∃k e,er=.place k (.base e)/\k<=n/\(e=2\/e=3\/e=5)
theorem mi.mono{m n:Nat}(h:mi m er)(hmn:m<=n):mi n er:=by obtain⟨k,e,a,c,b⟩:=h;exact⟨k,e,a,by omega,b⟩
theorem FJ{rd:Nat->Except Er It}{n m:Nat}(hr:∀fr er,fr<=n->rd fr=.error er->mi m er)(ht:∀fr x,fr<=n->rd fr=.ok x->x.ra<=n):∀(k fr:Nat) (er:Er),fr<=n->Na rd n k fr=.error er->mi m er:=by
 intro k;induction k with
 |zero=>intro fr er _ h;cases h
 |succ k ih=>
  intro fr er a h;rw[Na]at h;split at h
  .cases h1:rd fr with
   |error e=>rw[h1]at h;cases h;exact hr fr _ a h1
   |ok x=>
    rw[h1]at h;simp only at h;cases h2:Na rd n k x.ra with
    |error e=>rw[h2]at h;cases h;exact ih x.ra _ (ht fr x a h1) h2
    |ok l=>rw[h2]at h;cases h
  .cases h
theorem jO:∀(d:Nat) (l:List Nat) (fr:Nat) (er:Er),(∀y∈l,y<256)->fr<=l.length->Kx d l fr=.error er->mi l.length er:=by
 intro d;induction d with
 |zero=>
  intro l fr er j c h;rw[Kx]at h;cases h1:Ny (l.drop fr)with
  |error e=>
   rw[h1]at h;cases h;rcases FI h1 with rfl|rfl;.exact⟨fr,2,rfl,c,.inl rfl⟩
   .exact⟨fr,3,rfl,c,.inr (.inl rfl)⟩
  |ok p=>
   obtain⟨i,a,b⟩:=p;rw[h1]at h;cases i with
   |true=>cases h;exact⟨fr,5,rfl,c,.inr (.inr rfl)⟩
   |false=>cases h
 |succ d ih=>
  intro l fr er j c h;rw[Kx]at h;cases h1:Ny (l.drop fr)with
  |error e=>
   rw[h1]at h;cases h;rcases FI h1 with rfl|rfl;.exact⟨fr,2,rfl,c,.inl rfl⟩
   .exact⟨fr,3,rfl,c,.inr (.inl rfl)⟩
  |ok p=>
   obtain⟨i,a,b⟩:=p;rw[h1]at h;cases i with
   |false=>cases h
   |true=>
    simp only[if_true]at h;obtain⟨q,_⟩:=jv (Iu j fr) h1;rw[Yi]at q;have r:(l.take (fr+a+b)).length=fr+a+b:=by rw[Zx];omega
    cases h2:Na (Kx d (l.take (fr+a+b))) (fr+a+b) b (fr+a)with
    |error e=>
     rw[h2]at h;cases h;refine FJ (n:=fr+a+b) (m:=l.length) (λf k o g=>?_) (λf s o g=>?_) b (fr+a) _ (by omega) h2;.exact(ih _ f k (CC j _) (by omega) g).mono (by omega)
     .have :=(ss d _ f s (CC j _) (by omega) g).2.2.1;omega
    |ok its=>rw[h2]at h;cases h
theorem lB(hl:∀y∈l,y<256)(h:Gb l=.error er):er.Wb/\er.num≠0/\er.at_<=l.length/\er.node=0/\er.proof=0:=by
 have c:∀k e,k<=l.length->(e=2\/e=3\/e=4\/e=5)->(Er.place k (.base e)).Wb/\(Er.place k (.base e)).num≠0/\(Er.place k (.base e)).at_<=l.length/\(Er.place k (.base e)).node=0/\(Er.place k (.base e)).proof=0:=by
  intro k e b a;refine⟨?_,?_,b,rfl,rfl⟩;.rcases a with rfl|rfl|rfl|rfl<;>(show _∈Gq;decide)
  .rcases a with rfl|rfl|rfl|rfl<;>simp[Er.num]
 unfold Gb at h;split at h;.cases h;exact⟨(by decide:1∈Gq),(by decide:¬1=0),Xa _,rfl,rfl⟩
 .cases h1:Kx 6 l 0 with
  |error e=>rw[h1]at h;cases h;obtain⟨k,e,rfl,b,a⟩:=jO 6 l 0 _ hl (Xa _) h1;exact c k e b (by omega)
  |ok x=>
   rw[h1]at h;simp only at h;split at h;.cases h;exact c x.ra 4 (by omega) (by omega)
   .cases h
end
section
structure Acc where
 rj:Nat
 rv:Nat
 root:List Nat
 code:List Nat
def Acc.ok(a:Acc):Prop:=a.rj<18446744073709551616/\a.rv<18446744073709551616/\a.root.length=32/\a.code.length=32/\(∀x∈a.root,x<256)/\(∀x∈a.code,x<256)
def Ku(a:Acc):List Value:=Km a.rj::Km a.rv::(a.root.map Kf++a.code.map Kf)
def Re(a:Acc):List Nat:=Kh (G4 a.rj)++Kh (G4 a.rv)++Kh a.root++Kh a.code
def R9(a:Acc):List Nat:=Ks (Re a)
variable{l:List Nat}
theorem dD{P:Program}(w:Fa)(src dst e:TypeId)(hs:P.underlying src=some (.slice e))(he:P.underlying e=some (.int .u8))(hd:P.underlying dst=some .string){b o:Nat}(h:w.rangeAt b o (l.map Kf))(m cap:Nat)(hm:m=l.length):(convert src dst (Ma (some ⟨b,o,none⟩) m cap)).run P w=.ok (La (Kg l)) w:=by
 subst hm;rw[run_convert_bytes_string w src dst e _ _ _ hs he hd];have a:=run_loadCells_list (P:=P) w ⟨b,o,none⟩ (l.map Kf) (λj u d=>by rw[X7];exact h j u d);rw[Zl]at a;have c:l.map Kf=(l.map (λn:Nat=>(n:Int))).map (Value.int .u8):=by rw[Xx];rfl
 rw[c]at a;rw[run_bytesToString w ⟨b,o,none⟩ l.length cap _ a,wF];unfold Kg;simp
theorem xr{w:Fa}{b o:Nat}{xs bs cs:List Value}(h:w.rangeAt b o (xs++bs++cs)):w.rangeAt b (o+xs.length) bs:=by intro j u a;have c:=(Zw.1 a).1;have :=h (xs.length+j) u (by rw[Xz,Z4 (by omega),Nat.add_sub_cancel_left,Yl c];exact a);rwa [<-Nat.add_assoc]at this
variable{v:Value}
theorem Own.ye{w:Fa}{B:Nat}(h:Own w B v l):∃p k,v=Ma p l.length k:=by rcases h with⟨rfl,rfl⟩|⟨g,cap,rfl,_⟩<;>exact⟨_,_,rfl⟩
theorem Mv{W0 w1 w2:Fa}{v':Value}{l':List Nat}(hb:Ba W0 w1)(hO:Own w1 W0.heap.size v l)(hg:Dc w1 w2 W0.heap.size v v' l'):Ba W0 w2:=hg.below hO hb hb.size
theorem vL(s p:Da)(w:Fa):Calls oa 219 #[La s,La p] w λe w'=>e=na (Oa (decide (p.size<=s.size/\s.extract 0 p.size=p)))/\w'=w:=by
 by_cases h:p.size<=s.size
 .have c:(p.size:Int)<=(s.size:Int):=by omega
  obtain⟨x,d⟩:=nm (s.extract 0 p.size);have A:Aside ((x.toList==p.toList)=decide (p.size<=s.size/\s.extract 0 p.size=p)):=by
   show(x.toList==p.toList)=decide (p.size<=s.size/\s.extract 0 p.size=p);rw[d];by_cases e:x=p;.subst e;simp[h]
   .have :¬x.toList=p.toList:=λa=>e (by rw[Vn,Vn]at a;exact ByteArray.ext (Array.toList_inj.1 a));simp[e,this]
  go_enter func219,ntmps219;go_wp2;go_ret;exact⟨by rw[<-A.o];rfl,rfl⟩
 .have c:(s.size:Int)<(p.size:Int):=by omega
  have b:decide (p.size<=s.size/\s.extract 0 p.size=p)=false:=Zt (λe=>h e.1);rw[b];clear b h;go_enter func219,ntmps219;go_wp2;go_ret;exact⟨rfl,rfl⟩
theorem SG(s p:Da)(w:Fa):Calls oa 199 #[La s,La p] w λe w'=>e=na (Oa (decide (p.size<=s.size/\s.extract 0 p.size=p)))/\w'=w:=by
 have a:=Hq (vL s p w);obtain⟨b,c⟩:=nm (decide (p.size<=s.size/\s.extract 0 p.size=p));rw[c]at a⊢;clear c;go_enter func199,ntmps199;go_wp2_with (go_at_call 219;refine(a.o).mono ?_;rintro e d ⟨rfl,rfl⟩)
 go_ret;exact⟨rfl,rfl⟩
abbrev Aq(at_:Nat)(sent:Nat->Addr):Value:=Pw at_ (ca 395 (Qa (some (sent 13))))
abbrev G1(fr en:Nat)(l:Bool)(tx:Da)(p:Option Addr)(m c:Nat):Value:=Sa #[Ia ka (fr:Int),Ia ka (en:Int),Oa l,La tx,Ma p m c]
theorem GC(fr en:Nat)(l:Bool)(tx:Da)(p:Option Addr)(m c:Nat)(sent:Nat->Addr)(w:Fa)(hF:Qb w sent):Calls oa 137 #[G1 fr en l tx p m c] w λe w'=>e=na (Aq fr sent)/\Ba w w':=by have b:w.cell? ⟨11,0,none⟩=some (ca 395 (Qa (some (sent 13)))):=hF.var 13 (by decide);have a:11<w.heap.size:=hF.low (n:=13) (by decide);have d:=λo=>FB o b a;clear hF;go_enter func137,ntmps137;go_wp2;go_ret;exact⟨rfl,(Zb _ _).alloc (Za _) _⟩
def G2(l:Bool)(t:List Nat):Prop:=l=false/\t.length<=8/\¬(1<=t.length/\t.take 1=[0])
instance (l:Bool) (t:List Nat):Decidable (G2 l t):=by unfold G2;infer_instance
theorem Mj{a b:Da}(h:Ke a=Ke b):a=b:=by
 unfold Ke at h;have :a.data.toList=b.data.toList:=by have c:Function.Injective UInt8.toNat:=λx y e=>UInt8.toNat_inj.1 e;exact(List.map_inj_right (λx y e=>c e)).1 h
 exact ByteArray.ext (Array.toList_inj.1 this)
theorem fH:Ke ⟨#[0]⟩=[0]:=by decide
theorem SI(tx:Da):decide ((⟨#[0]⟩:Da).size<=tx.size/\tx.extract 0 (⟨#[0]⟩:Da).size=⟨#[0]⟩)=decide (1<=(Ke tx).length/\(Ke tx).take 1=[0]):=by
 have a:(⟨#[0]⟩:Da).size=1:=rfl;rw[a,ta];congr 1;apply propext;have e:tx.extract 0 1=⟨#[0]⟩↔(Ke tx).take 1=[0]:=by
  constructor;.intro h;have :=Y5 Ke h;rw[Ok]at this;simpa[fH]using this
  .intro h;have b:Ke (tx.extract 0 1)=Ke ⟨#[0]⟩:=by rw[Ok,fH];simpa using h
   exact Mj b
 rw[e]
theorem Sq(fr en:Nat)(tx:Da)(p:Option Addr)(m c:Nat)(w:Fa)(h:G2 false (Ke tx)):Calls oa 176 #[G1 fr en false tx p m c] w λe w'=>Ba w w'/\e=na (Wa #[Ia .u64 (Nk (Ke tx):Int),da]):=by
 obtain⟨_,g,b⟩:=h;have a:=ta tx;have f:Hid (∀W,Calls oa 199 #[La tx,La ⟨#[0]⟩] W λe w'=>e=na (Oa false)/\w'=W):=λW=>by have :=SG tx ⟨#[0]⟩ W;rw[SI,Zt b]at this;exact this
 have d:=Hq (λW=>IG tx W (by omega));have i:(tx.size:Int)<=8:=by omega
 clear g b a;go_enter func176,ntmps176;go_wp2_with fail
 refine(f _).mono ?_;rintro e j ⟨rfl,rfl⟩;go_wp2_with fail
 refine(d _).mono ?_;rintro e k ⟨rfl,rfl⟩;go_wp2;go_ret2;exact⟨(Zb _ _).alloc (Za _) _,rfl⟩
theorem mD(fr en:Nat)(l:Bool)(tx:Da)(p:Option Addr)(m c:Nat)(sent:Nat->Addr)(w:Fa)(hF:Qb w sent)(h:¬G2 l (Ke tx)):Calls oa 176 #[G1 fr en l tx p m c] w λe w'=>Ba w w'/\e=na (Wa #[Ia .u64 0,Aq fr sent]):=by
 have g:Hid (∀W,Ba w W->Calls oa 137 #[G1 fr en l tx p m c] W λe w'=>e=na (Aq fr sent)/\Ba W w'):=λW q=>GC fr en l tx p m c sent W (hF.below q);clear hF;have b:=ta tx;cases l with
 |true=>
  clear h b;go_enter func176,ntmps176;go_wp2_with fail
  refine(g _ ((Zb _ _).alloc (Za _) _)).mono ?_;rintro e n ⟨rfl,f⟩;have A:Aside (Ba w n):=Below.up f;clear f;go_wp2;go_ret2;exact⟨A.o,rfl⟩
 |false=>
  by_cases j:tx.size<=8
  .have k:(tx.size:Int)<=8:=by omega
   have d:=Classical.not_not.1 (λd=>h ⟨rfl,by omega,d⟩);have o:Hid (∀W,Calls oa 199 #[La tx,La ⟨#[0]⟩] W λe w'=>e=na (Oa true)/\w'=W):=λW=>by have :=SG tx ⟨#[0]⟩ W;rw[SI,Z5 d]at this;exact this
   clear h b j d;go_enter func176,ntmps176;go_wp2_with fail
   refine(o _).mono ?_;rintro e n ⟨rfl,rfl⟩;go_wp2_with fail
   refine(g _ ((Zb _ _).alloc (Za _) _)).mono ?_;rintro e i ⟨rfl,a⟩;have A:Aside (Ba w i):=Below.up a;clear a;go_wp2;go_ret2;exact⟨A.o,rfl⟩
  .have k:(8:Int)<(tx.size:Int):=by omega
   clear h b j;go_enter func176,ntmps176;go_wp2_with fail
   refine(g _ ((Zb _ _).alloc (Za _) _)).mono ?_;rintro e i ⟨rfl,a⟩;have A:Aside (Ba w i):=Below.up a;clear a;go_wp2;go_ret2;exact⟨A.o,rfl⟩
abbrev We:Array Value:=((Array.replicate 32 0:Array Nat).toList.map Kf).toArray
theorem Ol{fn:Func}{p u:Tmp}{ty:TypeId}(h:fn.results=#[.cell p ty,.tmp u])(tmps:Array Value)(P:Program)(w:Fa)(b o:Nat)(hp:tmps.getD p undef=Qa (some ⟨b,o,none⟩))(hv:(loadVar ty ⟨b,o,none⟩).run P w=.ok v w):(results fn tmps).run P w=.ok (Wa #[v,tmps.getD u undef]) w:=by rw[results_cell_tmp h,hp];simp[asAddr,hv]
theorem Bp:We=lc:=by kernel_rfl
structure wh(w W:Fa)(tx:Da):Prop where
 below:Ba w W
 size:W.heap.size=w.heap.size+3
 text:W.cell? ⟨w.heap.size,3,none⟩=some (La tx)
 Qd:W.there (w.heap.size+1) 0 32
 var:W.there (w.heap.size+2) 0 32
theorem wh.mk'(w:Fa)(fr en:Nat)(l:Bool)(tx:Da)(p:Option Addr)(m c:Nat)(t1 t2:TypeId)(Z:Array Value)(hZ:Z.size=32):wh w (((w.alloc (ma #[Ia ka (fr:Int),Ia ka (en:Int),Oa l,La tx,Ma p m c] t1)).alloc (ma Z t2)).alloc (ma Z t2)) tx:=by
 refine⟨(((Zb _ _).alloc (Za _) _).alloc (by simp) _).alloc (by simp;omega) _,by simp,?_,?_,?_⟩;.rw[Z8 _ _ _ (by simp;omega),Z8 _ _ _ (by simp),Ze];rfl
 .have :=Le (w.alloc (ma #[Ia ka (fr:Int),Ia ka (en:Int),Oa l,La tx,Ma p m c] t1)) Z t2 32 hZ.symm;refine ve (w:=(w.alloc (ma #[Ia ka (fr:Int),Ia ka (en:Int),Oa l,La tx,Ma p m c] t1)).alloc (ma Z t2)) (by simpa using this) (Z0 _ _ _ (by simp))
 .have :=Le ((w.alloc (ma #[Ia ka (fr:Int),Ia ka (en:Int),Oa l,La tx,Ma p m c] t1)).alloc (ma Z t2)) Z t2 32 hZ.symm;simpa using this
theorem ow:We.all (·.oneCell')=true:=Yp (Bi (Array.replicate 32 0) .u8)
theorem D0:(Array.replicate 32 0:Array Nat).size=32:=by simp
theorem jH(fr en:Nat)(l:Bool)(tx:Da)(p:Option Addr)(m c:Nat)(sent:Nat->Addr)(w:Fa)(hF:Qb w sent)(h:¬(l=false/\tx.size=32)):Calls oa 177 #[G1 fr en l tx p m c] w λe w'=>Ba w w'/\e=na (Wa #[Sa We,Aq fr sent]):=by
 have r:Hid (∀W,Ba w W->Calls oa 137 #[G1 fr en l tx p m c] W λe w'=>e=na (Aq fr sent)/\Ba W w'):=λW u=>GC fr en l tx p m c sent W (hF.below u);clear hF;have f:=wh.mk' w fr en l tx p m c 204 39 We (by rw[Bp];rfl);rw[Bp]at f;have n:=Hq f;clear f;have g:∀o w2,wh w o tx->Ba o w2->(oa.info? 39).map (·.size)=some We.toList.length/\(oa.info? 39).map (·.size)=some We.size/\w2.there (w.heap.size+1) 0 We.size/\w2.there (w.heap.size+1) 0 We.toList.length/\Ba w w2:=λo w2 q t=>by obtain⟨b,i,j,d⟩:=qm D0 (ve q.Qd (t.block (w.heap.size+1) (by rw[q.size];omega)));exact⟨by simpa using b,i,j,by simpa using d,Below.behind q.below t⟩
 have s:=Hq g;clear g;have x:l=true\/(l=false/\((tx.size:Int)==32)=false):=by
  cases l with
  |true=>exact .inl rfl
  |false=>exact .inr ⟨rfl,by simp;exact λe=>h ⟨rfl,by omega⟩⟩
 clear h;rcases x with rfl|⟨rfl,hne⟩
 .go_enter func177,ntmps177;go_wp2_with fail
  refine(r _ n.below).mono ?_;rintro e w2 ⟨rfl,a⟩;obtain⟨b,i,j,d,k⟩:=s _ w2 n a;have A:=Hq (A3 d k b);clear a b d k;go_wp2_with (refine Zs rfl 39 _ _ rfl (w.heap.size+1) 0 We rfl (by rw[Bp];rfl) j i ow ?_)
  refine Zv (v:=Wa #[Sa We,Aq fr sent]) (Ol results177 _ _ _ (w.heap.size+1) 0 rfl (Yg _ _ _ 39 _ _ (Zn _ _ _ We.toList A.1) underlying39 rfl A.2.2)) rfl ⟨?_,rfl⟩;exact Cg A.2.1 (by omega) _ _
 .go_enter func177,ntmps177;go_wp2_with fail
  refine(r _ n.below).mono ?_;rintro e w2 ⟨rfl,a⟩;obtain⟨b,i,j,d,k⟩:=s _ w2 n a;have A:=Hq (A3 d k b);clear a b d k;go_wp2_with (refine Zs rfl 39 _ _ rfl (w.heap.size+1) 0 We rfl (by rw[Bp];rfl) j i ow ?_)
  refine Zv (v:=Wa #[Sa We,Aq fr sent]) (Ol results177 _ _ _ (w.heap.size+1) 0 rfl (Yg _ _ _ 39 _ _ (Zn _ _ _ We.toList A.1) underlying39 rfl A.2.2)) rfl ⟨?_,rfl⟩;exact Cg A.2.1 (by omega) _ _
theorem vC(fr en:Nat)(tx:Da)(p:Option Addr)(m c:Nat)(w:Fa)(hs:tx.size=32):Calls oa 177 #[G1 fr en false tx p m c] w λe w'=>Ba w w'/\e=na (Wa #[Sa ((Ke tx).map Kf).toArray,da]):=by
 have a:=wh.mk' w fr en false tx p m c 204 39 We (by rw[Bp];rfl);rw[Bp]at a;have y:=Hq a;clear a;have E:((tx.size:Int)==32)=true:=by simp[hs]
 have r:=ta tx;obtain⟨D,k⟩:∃D:Array Nat,D=(Ke tx).toArray:=⟨_,rfl⟩;have i:D.size=32:=by rw[k];simp;omega
 have q:(Ke tx).map Kf=D.toList.map Kf:=by rw[k]
 have n:=Hq q;have o:=Hq hs;have g:(oa.info? 5).map (·.size)=some 1:=by obtain⟨F,z,_,t,_⟩:=Xl um;rw[z];simp[t]
 clear k hs;go_enter func177,ntmps177;go_upto_region 4 with fail
 generalize hWW:World.alloc (World.alloc (World.alloc w _) _) _=W;have f:wh w W tx:=by rw[<-hWW];exact y.o
 clear hWW;have G:=f.text;have j:=bC (P:=oa) W.drew 116 9 3 5 (w.heap.size+1+1) 0 32 32 tx 32 underlying116 g (by rw[o.o];rfl) f.var;rw[Zz (by rw[r,o.o];exact Za _),n.o]at j;have A:Aside (wh w W tx):=f;clear f;go_region;generalize hW2:World.setCells W.drew (w.heap.size+1+1) 0 (D.toList.map Kf)=W2;have b:W.drew.there (w.heap.size+1+1) 0 (D.toList.map Kf).length:=by have :=A.var;simpa[i]using this
 have s:W2.rangeAt (w.heap.size+1+1) 0 (D.toList.map Kf):=by rw[<-hW2];exact Zn _ _ _ _ b
 have h:Ba w W2:=by rw[<-hW2];exact Cg A.below.drew (by omega) _ _
 have d:W2.there (w.heap.size+1) 0 32:=by refine ve A.Qd ?_;rw[<-hW2];exact(Qf _ _ _ _ _ (by omega))
 obtain⟨u,B,C,x⟩:=qm i d;have l:=Yp (Bi D .u8);have A2:=Hq (A2 x h);clear hW2 b h d x j;go_wp2_with (first| (refine Zr rfl 39 _ rfl (w.heap.size+1+1) 0 rfl (D.toList.map Kf) _ s underlying39 rfl u ?_)| (refine Zs rfl 39 _ _ rfl (w.heap.size+1) 0 (D.toList.map Kf).toArray rfl rfl C B l ?_))
 refine Zv (v:=Wa #[Sa (D.toList.map Kf).toArray,da]) (Ol results177 _ _ _ (w.heap.size+1) 0 rfl (Yg _ _ _ 39 _ _ (Zn _ _ _ _ A2.1) underlying39 rfl u)) rfl ⟨?_,?_⟩;.exact Cg A2.2 (by omega) _ _
 .rw[n.o]
end
end Go.Proofs.YtpfbdlnibdfcoaaGreatDoor
