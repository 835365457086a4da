import Derived.Test.YtpfbdlnibdfcoaaGreatDoorPvEncG
namespace Go.Proofs.YtpfbdlnibdfcoaaGreatDoor
open Go.RowKit Tryz
open Value renaming int->Ia,string->La,slice->Ma,bool->Oa,pointer->Qa,agg->Sa,tuple->Wa,iface->ca,nilIface->da
open IntKind renaming i64->ka
open Obj renaming cells->ma
open Ending renaming returned->na
open Tryz renaming prog->oa
set_option maxRecDepth 100000
set_option maxHeartbeats 0
section
theorem XE(n:Nat):(G4 n).length<=8:=xx n 8
theorem LN(n:Nat):∀x∈G4 n,x<256:=by
 have h:∀i,∀x∈Gi n i,x<256:=by
  intro i;induction i with
  |zero=>intro x a;cases a
  |succ i ih=>
   intro x a;rw[Gi]at a;split at a;.exact ih x a
   .rcases Yc.1 a with h|h;.exact ih x h
    .rw[Y8.1 h];omega
 exact h 8
def fits:Nat->It->Prop
 |_,.text _ _ _=>True
 |0,.list _ _ _=>False
 |d+1,.list _ _ l=>∀x∈l,fits d x
theorem Fo(p:List Nat)(leaf:Bool):(Kj p leaf).length=p.length/2+1:=by unfold Kj;rw[Zu,LA,Yi];omega
end
section
inductive Raw where
 |mk (mc:Bool) (text:Da) (items:List Raw)
mutual
def Raw.code:Raw->List Nat
 | .mk l t its=>if l then Ks (Eh its)else Kh (Ke t)
def Eh:List Raw->List Nat
 | []=>[]
 |x::xs=>x.code++Eh xs
end
mutual
def Raw.size:Raw->Nat
 | .mk _ t its=>1+t.size+Ag its
def Ag:List Raw->Nat
 | []=>0
 |x::xs=>x.size+Ag xs
end
theorem kt:∀k n b,b∈K4 k n->b<256:=λk n b hb=>by
 unfold K4 at hb;split at hb;.rw[Y8.1 hb];omega
 .rcases Yf.1 hb with rfl|hb;.omega
  .exact LN n b hb
def Oe(w:Fa)(v:Value)(n:Nat)(cs:List Value):Prop:=((∃p c,v=Ma p 0 c)/\n=0/\cs=[])\/∃g off cap,v=Ma (some ⟨g,off,none⟩) n cap/\w.rangeAt g off cs
variable{w:Fa}{v:Value}{n:Nat}{cs:List Value}
variable{p:Option Addr}
theorem Oe.len{m c:Nat}(h:Oe w (Ma p m c) n cs):m=n:=by
 rcases h with⟨⟨p',c',h⟩,h2,_⟩|⟨g,off,cap,e,_⟩;.simp only[Z3]at h;omega
 .simp only[Z3]at e;exact e.2.1
theorem Db.kh{B size:Nat}(h:Db w B size v n cs):Oe w v n cs:=by
 obtain⟨a,h⟩:=h;rcases h with⟨h1,h2⟩|⟨g,cap,rfl,h1,h2,h3,h4,h5,h6⟩;.subst h2;exact .inl ⟨⟨_,_,h1⟩,rfl,Ye (by simpa using a)⟩
 .exact .inr ⟨g,0,cap,rfl,h6⟩
abbrev Ni(e:El):List Value:=[Oa e.mc,La e.text,e.sub,Ia ka (e.fr:Int),Ia ka (e.ra:Int)]
abbrev Aa(e:El):Value:=Sa #[Oa e.mc,La e.text,e.sub,Ia ka (e.fr:Int),Ia ka (e.ra:Int)]
end
section
attribute [local go_sem ↓] Go.wp_at_zero Go.wp_at_succ
structure Hs(w:Fa)(b:Nat)(st:tg):Prop where
 vp:Row Km w b 0 st.1
 waits:Row Kf w b 25 st.2.1
 count:w.cell? ⟨b,161,none⟩=some (Ia ka (st.2.2:Int))
 cg:w.frozen? ⟨b,161,none⟩=false
 sk:st.1.size=25
 pi:st.2.1.size=136
 small:Kp st.1
 bytes:K3 st.2.1
 less:st.2.2<136
variable{w:Fa}{b:Nat}{L W:Array Nat}
theorem Hs.reset{v:Value}(r1:Row Km w b 0 L)(r2:Row Kf w b 25 W)(hc:w.cell? ⟨b,161,none⟩=some v)(hf:w.frozen? ⟨b,161,none⟩=false)(h1:L.size=25)(h2:W.size=136)(h3:Kp L)(h4:K3 W):Hs (w.setCell ⟨b,161,none⟩ (Ia ka 0)) b (L,W,0):=⟨r1.Cc (by omega) _,r2.Cc (by omega) _,Ys _ _ _ hc,(Z7 _ _ _ _).trans hf,h1,h2,h3,h4,by simp⟩
theorem oK:(oa.info? 5).map (·.size)=some 1:=by kernel_rfl
theorem eE(t:Da)(n:Nat):Ke (t.extract n t.size)=(Ke t).drop n:=by
 have :t.data.toList.length=t.size:=by rw[Yh];rfl
 simp only[Ke,Jh,Js,V6,J7,J6];rw[Zz];rw[Yi,Zl,this];exact Za _
theorem TN(t:Da)(n:Nat):(t.extract n t.size).size=t.size-n:=by rw[<-ta,eE,Yi,ta]
theorem UI(t:Da):t.toList.isEmpty=decide (t.size=0):=by
 rw[ByteArray.toList_eq];have :t.data.toList.length=t.size:=by rw[Yh];rfl
 cases h:t.data.toList with
 |nil=>rw[h]at this;simp at this;simp[<-this]
 |cons x l=>rw[h]at this;simp at this;simp[<-this]
theorem XF(b:Nat):∀(vs:List Value) (o:Nat) (w:Fa),w.drew.setCells b o vs=(w.setCells b o vs).drew
 | [],_,_=>rfl
 |v::r,o,w=>by rw[World.setCells,World.setCells];exact XF b r (o+1) (w.setCell ⟨b,o,none⟩ v)
variable{c n:Nat}
theorem aN(t:Da)(h:c+n<136)(hn:n<=t.size):((Ke t).take n).foldl Gg (L,W,c)=(L,putAt W c ((Ke t).take n),c+n):=by
 have a:((Ke t).take n).length=n:=by rw[Zx,ta];omega
 rw[MG _ _ _ _ (by omega),a]
theorem KS(t:Da)(h:c+n=136)(h1:0<n)(hn:n<=t.size):((Ke t).take n).foldl Gg (L,W,c)=(N4 L (putAt W c ((Ke t).take n)),putAt W c ((Ke t).take n),0):=by
 have a:((Ke t).take n).length=n:=by rw[Zx,ta];omega
 exact wC _ _ _ _ (by omega) (by omega)
theorem tQ{st1:tg}(t:Da)(n:Nat):(Ke (t.extract n t.size)).foldl Gg (((Ke t).take n).foldl Gg st1)=(Ke t).foldl Gg st1:=by rw[eE,<-List.foldl_append,Xc]
variable{w1:Fa}{o:Nat}{cs:List Value}
theorem EO{lo hi:Nat}(h:Step b lo hi w w1)(hr:w.rangeAt b o cs)(ho:hi<=o):w1.rangeAt b o cs:=λj v hv=>(h.cell _ (by omega)).trans (hr j v hv)
theorem fJ(b:Nat)(s:Da)(st:tg)(w:Fa)(hb:b<w.heap.size)(hH:Hs w b st)(hT:qb w)(hb10:16<=b):Calls oa 72 #[Qa (some ⟨b,0,none⟩),La s] w λe w'=>e=na (Wa #[])/\Step b 0 162 w w'/\Hs w' b ((Ke s).foldl Gg st):=by
 go_enter func72,ntmps72;go_wp2;go_loopg [1] s.size (λg p wr=>∃(t:Da) (y:tg),t.size<=g/\p=La t/\w.heap.size<=wr.heap.size/\Step b 0 162 w wr/\Hs wr b y/\Hid ((Ke t).foldl Gg y=(Ke s).foldl Gg st))
 case atStart=>exact⟨s,st,Za _,rfl,Za _,Step.refl _ _ _ _,hH,rfl⟩
 case round=>
  obtain⟨t,y,hg,rfl,aw,v,X,HF⟩:=hrel;clear hH;by_cases he:t.toList.isEmpty=true
  .have N:Aside (Step b 0 162 w wr/\Hs wr b y):=⟨v,X⟩;have ht:t.size=0:=by rw[UI]at he;simpa using he
   have aq:=Vv.1 ((ta t).trans ht);have HE:Hid (y=(Ke s).foldl Gg st):=by have :=HF.o;rw[aq]at this;exact this
   clear v X hT ht aq HF;go_wp2;go_end0;obtain⟨v,X⟩:=N.o;refine⟨rfl,v,?_⟩;rw[<-HE.o];exact X
  .have V:t.toList.isEmpty=false:=by simpa using he
   have ay:0<t.size:=by rw[UI]at V;have :=of_decide_eq_false V;omega
   clear he;obtain⟨L,W,c⟩:=y;obtain⟨aj,I,c3,f3,l,ac,m,R,ar⟩:=X;simp only at aj I c3 f3 l ac m R ar;obtain⟨n,Y⟩:∃n,n=Nat.min t.size (136-c):=⟨_,rfl⟩;have C:n<=t.size:=by rw[Y];exact Nat.min_le_left _ _
   have bj:n<=136-c:=by rw[Y];exact Nat.min_le_right _ _
   have H:0<n:=by rw[Y];exact Nat.lt_min.2 ⟨ay,by omega⟩
   have az:wr.there b (25+c) n:=λj hj=>by have :=I (c+j) (by omega);rw[show 25+(c+j)=25+c+j by omega]at this;exact⟨by rw[this.1];rfl,this.2⟩
   have z:=bC (P:=oa) wr.drew 116 9 3 5 b (25+c) (136-c) (136-c) t n underlying116 oK Y az;have ba:((Ke t).take n).length=n:=by rw[Zx,ta];omega
   have ai:∀x∈(Ke t).take n,x<256:=λx hx=>Qk t x (Y4 hx);have T:=@tQ (L,W,c) t n;have U:=@aN L W c n t;have S:=@KS L W c n t;obtain⟨d,bc⟩:=nm ((Ke t).take n);rw[bc]at z ba ai T U S;have o:Step b 0 162 w (wr.setCells b (25+c) (d.map Kf)):=v.setCells _ _ (by omega) (by simp;omega);have k:Row Km (wr.setCells b (25+c) (d.map Kf)) b 0 L:=aj.lg _ _ (by omega);have f:=I.put d c (by omega);have c4:(wr.setCells b (25+c) (d.map Kf)).cell? ⟨b,161,none⟩=some (Ia ka (c:Int)):=by rw[Va b (d.map Kf) (25+c) wr ⟨b,161,none⟩ (λ_ _=>by right;simp;omega)];exact c3
   have f4:(wr.setCells b (25+c) (d.map Kf)).frozen? ⟨b,161,none⟩=false:=by rw[World.frozen?_setCells];exact f3
   have E:w.heap.size<=(wr.setCells b (25+c) (d.map Kf)).heap.size:=by rw[(Og _ _ _ _).1];exact aw
   obtain⟨w1,ag⟩:=nm (wr.setCells b (25+c) (d.map Kf));have ah:wr.drew.setCells b (25+c) (d.map Kf)=w1.drew:=by rw[<-ag];exact XF _ _ _ _
   rw[ah]at z;rw[ag]at o k f c4 f4 E;have h:(putAt W c d).size=136:=by rw[XC];exact ac
   have i:=qF d ai W c R;have G:=TN t n;have N:Aside (Step b 0 162 w w1/\Row Km w1 b 0 L/\Row Kf w1 b 25 (putAt W c d)/\L.size=25/\(putAt W c d).size=136/\Kp L/\K3 (putAt W c d)/\qb w):=⟨o,k,f,l,h,m,i,hT⟩;have AF:Aside ((Ke (t.extract n t.size)).foldl Gg (d.foldl Gg (L,W,c))=(Ke s).foldl Gg st/\(c+n<136->n<=t.size->d.foldl Gg (L,W,c)=(L,putAt W c d,c+n))/\(c+n=136->0<n->n<=t.size->d.foldl Gg (L,W,c)=(N4 L (putAt W c d),putAt W c d,0))/\(t.extract n t.size).size=t.size-n):=⟨by rw[T];exact HF.o,U,S,G⟩;clear v aj I l ac m R hT az Y ba ai T U S bc o k f ah h i G HF ag f3;have i1:(0:Int)<=(c:Int):=by omega
   have i2:(c:Int)<=136:=by omega
   have i3:¬(136=c):=by omega
   go_wp2;go_region;clear z;go_wp2
   .have B:c+n=136:=by
     have :((c:Int)+(n:Int)==136)=true:=by assumption
     have :=eq_of_beq this;omega
    obtain⟨o,k,f,l,h,m,i,hT⟩:=N.o;obtain⟨Wn,O⟩:=nm (putAt W c d);rw[O]at f h i;have HW:Hid (putAt W c d=Wn):=O;obtain⟨w2,r⟩:=nm (w1.setCell ⟨b,161,none⟩ (Ia ka ((c:Int)+(n:Int))));rw[r];have J:Step b 0 162 w w2:=by rw[<-r];exact o.set (by omega) (by omega) _
    have r1:Row Km w2 b 0 L:=by rw[<-r];exact k.Cc (by omega) _
    have r2:Row Kf w2 b 25 Wn:=by rw[<-r];exact f.Cc (by omega) _
    have c5:w2.cell? ⟨b,161,none⟩=some (Ia ka ((c:Int)+(n:Int))):=by rw[<-r];exact Ys _ _ _ c4
    have f5:w2.frozen? ⟨b,161,none⟩=false:=by rw[<-r,Z7];exact f4
    have ae:=J.size;have Z:=r2.range;have ao:=hT.step J hb10 (by omega);have bi:=underlying136;have ak:(oa.info? 136).map (·.size)=some (Wn.toList.map Kf).length:=by rw[ny];simp[h]
    have F:=λu (h1:Row Km u b 0 L) (h2:qb u) (h3:b<u.heap.size)=>DD b 0 L Wn u l m h3 h1 h2 hb10 h i;have HC:Hid (∀u,Row Km u b 0 L->qb u->b<u.heap.size->Calls oa 122 #[Qa (some ⟨b,0,none⟩),Sa (Wn.toList.map Kf).toArray] u λe w'=>e=na (Wa #[])/\Step b 0 (0+25) u w'/\Row Km w' b 0 (N4 L Wn)):=F;have Q:b<w2.heap.size:=by omega
    clear N o k f O r hT F c4 f4 c3 E;go_region_held3 (λw'=>w'.rangeAt b 25 (Wn.toList.map Kf)) (first|exact Z|exact EO a Z (by omega)) (first| (go_at_call 122;refine(HC w2.drew.drew r1 ao Q).mono ?_;rintro e w' ⟨rfl,a,q⟩))
    rename_i hheld
    clear hheld;have c6:=(a.cell 161 (by omega)).trans c5;have f6:=(a.cg 161).trans f5;have r3:=a.row (b':=b) r2 Q (by omega);have bl:=Z2 ae a.size;have K:=J.trans (Step.yo (w:=w2) ⟨a.os,a.tape,a.output,a.size,a.block,a.cell,a.cg⟩ (by omega) (by omega));have A3:Aside (putAt W c d=Wn/\n<=t.size/\0<n/\t.size<=gk):=⟨HW.o,C,H,hg⟩;have A2:Aside (Step b 0 162 w w'/\Row Km w' b 0 (N4 L Wn)/\Row Kf w' b 25 Wn/\L.size=25/\Wn.size=136/\Kp L/\K3 Wn):=⟨K,q,r3,l,h,m,i⟩;have bf:Hid (c+n=136):=B;clear J r1 r2 c5 f5 Z ao bi ak HC Q a q r3 K l h m i B HW ar C bj H ae aw i1 i2 i3 hg V ay;go_wp2;obtain⟨K,q,r3,l,h,m,i⟩:=A2.o;obtain⟨hF,_,hf,G⟩:=AF.o;obtain⟨hW,C,H,hg⟩:=A3.o;have B:=bf.o;have D:=hf B H C;rw[hW]at D;have am:=(ZI L Wn).trans l;have al:=jK Wn m;generalize N4 L Wn=A at q D am al;rw[D]at hF;go_roundg (t.extract n t.size).size
    case measure=>omega
    case rel=>exact⟨t.extract n t.size,(A,Wn,0),Za _,rfl,by simpa using bl,K.set (by omega) (by omega) _,Hs.reset q r3 c6 f6 am h al i,hF⟩
   .have au:c+n<136:=by
     have :((c:Int)+(n:Int)==136)=false:=by assumption
     have :=ne_of_beq_false this;omega
    obtain⟨o,k,f,l,h,m,i,hT⟩:=N.o;obtain⟨hF,hl,_,G⟩:=AF.o;go_roundg (t.extract n t.size).size
    case measure=>omega
    case rel=>
     refine⟨t.extract n t.size,(L,putAt W c d,c+n),Za _,rfl,?_,(o.set (by omega) (by omega) _).drew,⟨(k.Cc (by omega) _).drew,(f.Cc (by omega) _).drew,?_,?_,l,h,m,i,au⟩,?_⟩;.simpa using E
     .exact(Ys _ _ _ c4).trans (by go_num)
     .exact(Z7 _ _ _ _).trans f4
     .rw[<-hl au C];exact hF
theorem eG:(oa.info? 138).map (·.size)=some 162:=by kernel_rfl
theorem ul:zeroCells138.size=162:=by kernel_rfl
def cellsOf(st:tg):List Value:=st.1.toList.map Km++(st.2.1.toList.map Kf++[Ia ka (st.2.2:Int)])
variable{st:tg}
theorem BD(h1:st.1.size=25)(h2:st.2.1.size=136):(cellsOf st).length=162:=by simp[cellsOf,h1,h2]
theorem Hs.range{w:Fa}{b:Nat}{st:tg}(h:Hs w b st):w.rangeAt b 0 (cellsOf st):=by
 have c:=h.sk;have d:=h.pi;intro j v a;rw[Zf];unfold cellsOf at a;rw[List.getElem?_append]at a;split at a
 .rename_i hj
  have :=h.vp.range j v a;rwa [Zf]at this
 .rename_i hj
  simp only[Zl,Yh,c]at hj a;rw[List.getElem?_append]at a;split at a;.have :=h.waits.range (j-25) v a;rwa [show 25+(j-25)=j by omega]at this
  .rename_i hj2
   simp only[Zl,Yh,d]at hj2 a;by_cases e:j=161;.subst e;rw[h.count];exact a
   .rw[Vb (by simp;omega)]at a;cases a
theorem Hs.Lf(ht:w.there b 0 162)(h1:st.1.size=25)(h2:st.2.1.size=136)(h3:Kp st.1)(h4:K3 st.2.1)(h5:st.2.2<136):Hs (w.setCells b 0 (cellsOf st)) b st:=by
 have e:=BD h1 h2;have d:=Zn w b 0 (cellsOf st) (by rw[e];exact ht);have c:∀j,j<162->(w.setCells b 0 (cellsOf st)).frozen? ⟨b,j,none⟩=false:=λj a=>by rw[World.frozen?_setCells];have :=(ht j a).2;rwa [Zf]at this
 generalize w.setCells b 0 (cellsOf st)=w1 at d c;refine⟨λj a=>⟨d j _ ?_,by rw[Zf];exact c j (by omega)⟩,λj a=>⟨?_,c (25+j) (by omega)⟩,?_,c 161 (by omega),h1,h2,h3,h4,h5⟩;.unfold cellsOf;rw[Yl (by simp;omega)];simp[a]
 .have :=d (25+j) (Kf st.2.1[j]!) ?_;.rwa [Zf]at this
  .unfold cellsOf;rw[Z4 (by simp;omega),Yl (by simp;omega)];simp[a,h1]
 .have :=d 161 (Ia ka (st.2.2:Int)) ?_;.rwa [Zf]at this
  .unfold cellsOf;rw[Z4 (by simp;omega),Z4 (by simp;omega)];simp[h1,h2]
theorem rS(st:tg):∀v∈cellsOf st,v.oneCell'=true:=by
 intro v a;unfold cellsOf at a;rcases Yc.1 a with h|h;.exact Bi st.1 .u64 v h
 .rcases Yc.1 h with h|h;.exact Bi st.2.1 .u8 v h
  .rw[Y8.1 h];rfl
theorem VU(w:Fa)(C:Array Value)(st:tg)(hC:C.size=32)(b:Nat)(hH:Hs w b st)(hT:qb w)(hw10:16<=w.heap.size):Hs (((w.alloc (ma C 39)).alloc (ma zeroCells138 138)).setCells (w.heap.size+1) 0 (cellsOf st)) (w.heap.size+1) st/\Ba w (((w.alloc (ma C 39)).alloc (ma zeroCells138 138)).setCells (w.heap.size+1) 0 (cellsOf st))/\(((w.alloc (ma C 39)).alloc (ma zeroCells138 138)).setCells (w.heap.size+1) 0 (cellsOf st)).there w.heap.size 0 32/\w.heap.size+1<(((w.alloc (ma C 39)).alloc (ma zeroCells138 138)).setCells (w.heap.size+1) 0 (cellsOf st)).heap.size/\qb (((w.alloc (ma C 39)).alloc (ma zeroCells138 138)).setCells (w.heap.size+1) 0 (cellsOf st)):=by
 have f:((w.alloc (ma C 39)).alloc (ma zeroCells138 138)).there (w.heap.size+1) 0 162:=by have :=Le (w.alloc (ma C 39)) zeroCells138 138 162 ul.symm;simpa using this
 have a:Ba w ((w.alloc (ma C 39)).alloc (ma zeroCells138 138)):=((Zb _ _).alloc (Za _) _).alloc (by simp) _;have e:((w.alloc (ma C 39)).alloc (ma zeroCells138 138)).there w.heap.size 0 32:=Jm (Le _ _ _ _ hC.symm) _;have d:w.heap.size+1<((w.alloc (ma C 39)).alloc (ma zeroCells138 138)).heap.size:=by simp
 generalize (w.alloc (ma C 39)).alloc (ma zeroCells138 138)=w1 at f a e d;obtain⟨g,h,i,j⟩:=Og (w.heap.size+1) (cellsOf st) 0 w1;have c:Ba w (w1.setCells (w.heap.size+1) 0 (cellsOf st)):=a.trans ⟨h,i,j,by rw[g];exact Za _,λk l=>Qf _ _ _ _ _ (by omega)⟩;exact⟨Hs.Lf f hH.sk hH.pi hH.small hH.bytes hH.less,c,Xb e _ _ _,by rw[g];exact d,hT.below c hw10⟩
theorem AG:(oa.info? 5).map (·.zero)=some (some (Ia .u8 0)):=by kernel_rfl
theorem nR{w2 w3 w4 w5:Fa}{W1:Array Nat}{x:Nat}(hH:Hs w2 (w.heap.size+1) (L,W,c))(hB:Ba w w2)(hth:w2.there w.heap.size 0 32)(hsz:w.heap.size+1<w2.heap.size)(hT:qb w2)(hw10:16<=w.heap.size)(e3:w2.setCell ⟨w.heap.size+1,25+c,none⟩ (Ia .u8 1)=w3)(e4:w3.setCells (w.heap.size+1) (25+(c+1)) ((List.replicate (135-c) 0).map Kf)=w4)(hW1:putAt (W.set! c 1) (c+1) (List.replicate (135-c) 0)=W1)(hx:W1[135]! =x)(e5:w4.setCell ⟨w.heap.size+1,160,none⟩ (Ia .u8 (((x:Int)+128)%256))=w5):(Sem.run oa (Builtin.clear_ #[116] 0 #[Ma (some ⟨w.heap.size+1,25+(c+1),none⟩) (135-c) (135-c)]) w3=.ok (Wa #[]) w4)/\(Sem.run oa (Builtin.clear_ #[116] 0 #[Ma (some ⟨w.heap.size+1,25,none⟩) 0 0]) w3=.ok (Wa #[]) (if 136=c+1 then w4 else w3))/\w3.cell? ⟨w.heap.size+1,161,none⟩=some (Ia ka (c:Int))/\w4.cell? ⟨w.heap.size+1,160,none⟩=some (Kf x)/\w4.frozen? ⟨w.heap.size+1,160,none⟩=false/\w5.rangeAt (w.heap.size+1) 25 ((W1.set! 135 ((x+128)%256)).toList.map Kf)/\Aside (Row Km w5 (w.heap.size+1) 0 L/\Ba w w5/\w5.there w.heap.size 0 32/\w.heap.size+1<w5.heap.size/\qb w5/\L.size=25/\(W1.set! 135 ((x+128)%256)).size=136/\Kp L/\K3 (W1.set! 135 ((x+128)%256))/\Hy W c=W1.set! 135 ((x+128)%256)):=by
 obtain⟨G,I,h,K,m,n,o,p,N⟩:=hH;simp only at G I h K m n o p N;have H:Row Km w3 (w.heap.size+1) 0 L:=by rw[<-e3];exact G.Cc (by omega) _
 have b:Row Kf w3 (w.heap.size+1) 25 (W.set! c 1):=by rw[<-e3];exact I.set rfl (by omega) 1 rfl
 have i:w3.cell? ⟨w.heap.size+1,161,none⟩=some (Ia ka (c:Int)):=by rw[<-e3,Zp _ _ _ _ (λe=>by have J:=Y5 Addr.off e;simp only at J;omega)];exact h
 have t:Ba w w3:=by rw[<-e3];exact hB.setCell (by simp) _
 have D:w3.there w.heap.size 0 32:=by rw[<-e3];exact Bq hth _ _
 have B:w.heap.size+1<w3.heap.size:=by rw[<-e3];simpa using hsz
 have q:qb w3:=by rw[<-e3];exact hT.ud (Zd _ _ _ _ (by simp;omega)) (Zd _ _ _ _ (by simp;omega))
 have s:(W.set! c 1).size=136:=by simp[n]
 have f:w3.there (w.heap.size+1) (25+(c+1)) (135-c):=λj O=>by have :=b (c+1+j) (by omega);rw[show 25+(c+1+j)=25+(c+1)+j by omega]at this;exact⟨by rw[this.1];rfl,this.2⟩
 have a:Row Kf w4 (w.heap.size+1) 25 W1:=by rw[<-e4,<-hW1];exact b.put _ _ (by simp;omega)
 have g:Row Km w4 (w.heap.size+1) 0 L:=by rw[<-e4];exact H.lg _ _ (by omega)
 obtain⟨F,Q,R,S⟩:=Og (w.heap.size+1) ((List.replicate (135-c) 0).map Kf) (25+(c+1)) w3;have u:Ba w w4:=by rw[<-e4];exact t.trans ⟨Q,R,S,by rw[F];exact Za _,λk U=>Qf _ _ _ _ _ (by omega)⟩
 have E:w4.there w.heap.size 0 32:=by rw[<-e4];exact Xb D _ _ _
 have C:w.heap.size+1<w4.heap.size:=by rw[<-e4,F];exact B
 have r:qb w4:=by rw[<-e4];exact q.ud (Qf _ _ _ _ _ (by omega)) (Qf _ _ _ _ _ (by omega))
 have z:W1.size=136:=by rw[<-hW1,XC];exact s
 have y:K3 W1:=by rw[<-hW1];exact qF _ (λx hx=>by rw[Jp hx];decide) _ _ (qy p _ _ (by decide))
 have d:=a 135 (by omega);rw[hx]at d;have T:Row Kf w5 (w.heap.size+1) 25 (W1.set! 135 ((x+128)%256)):=by rw[<-e5];exact a.set rfl (by omega) _ (ld (by omega))
 refine⟨?_,?_,i,d.1,d.2,T.range,?_,?_,?_,?_,?_,m,by simpa using z,o,qy y _ _ (Nat.mod_lt _ (by decide)),?_⟩;.rw[<-e4];exact bE w3 116 0 5 _ _ _ _ underlying116 AG f
 .have l:=bE (P:=oa) w3 116 0 5 (w.heap.size+1) 25 0 0 underlying116 AG (λj O=>by omega);by_cases v:136=c+1;.rw[Zo v,<-e4,show 135-c=0 by omega];exact l
  .rw[Zj v];exact l
 .rw[<-e5];exact g.Cc (by omega) _
 .rw[<-e5];exact u.setCell (by simp) _
 .rw[<-e5];exact Bq E _ _
 .rw[<-e5];simpa using C
 .rw[<-e5];exact r.ud (Zd _ _ _ _ (by simp;omega)) (Zd _ _ _ _ (by simp;omega))
 .unfold Hy;simp only[hW1,hx]
theorem LM(b:Nat)(st:tg)(w:Fa)(hH:Hs w b st)(hT:qb w)(hw10:16<=w.heap.size):Calls oa 73 #[Qa (some ⟨b,0,none⟩)] w λe w'=>e=na (Sa ((P8 st).toList.map Kf).toArray)/\Ba w w':=by
 have T:=BD hH.sk hH.pi;have g:=Yp (rS st);have K:∀o,(w.alloc o).rangeAt b 0 (cellsOf st):=λo=>World.rangeAt_alloc hH.range o;have s:(oa.info? 138).map (·.size)=some (cellsOf st).length:=by rw[eG,T]
 have t:(oa.info? 138).map (·.size)=some (cellsOf st).toArray.size:=by rw[eG];simp[T]
 have q:(cellsOf st).toArray.size=162:=by simp[T]
 have A0:Aside (∀C:Array Value,C.size=32->Hs (((w.alloc (ma C 39)).alloc (ma zeroCells138 138)).setCells (w.heap.size+1) 0 (cellsOf st)) (w.heap.size+1) st/\Ba w (((w.alloc (ma C 39)).alloc (ma zeroCells138 138)).setCells (w.heap.size+1) 0 (cellsOf st))/\(((w.alloc (ma C 39)).alloc (ma zeroCells138 138)).setCells (w.heap.size+1) 0 (cellsOf st)).there w.heap.size 0 32/\w.heap.size+1<(((w.alloc (ma C 39)).alloc (ma zeroCells138 138)).setCells (w.heap.size+1) 0 (cellsOf st)).heap.size/\qb (((w.alloc (ma C 39)).alloc (ma zeroCells138 138)).setCells (w.heap.size+1) 0 (cellsOf st))):=λC hC=>VU w C st hC b hH hT hw10;obtain⟨S,No⟩:=nm (cellsOf st);rw[No]at g K s t q A0;clear hH hT T No;have ae:∀o,((w.alloc o).alloc (ma zeroCells138 138)).there (w.heap.size+1) 0 S.toArray.size:=λo=>by have :=Le (w.alloc o) zeroCells138 138 162 ul.symm;rw[q];simpa using this
 obtain⟨L,W,c⟩:=st;go_enter func73,ntmps73;go_wp2_with (first
  | (refine Zr rfl 138 _ rfl b 0 rfl S _ (K _) underlying138 rfl s ?_)
  | (refine Zs rfl 138 _ _ rfl (w.heap.size+1) 0 S.toArray rfl rfl (ae _) t g ?_
     rw[Jz]
     obtain⟨d,G,a,y,H⟩:=A0 lc rfl
     generalize ((w.alloc (ma lc 39)).alloc (ma zeroCells138 138)).setCells (w.heap.size+1) 0 S=w2 at d G a y H⊢
     have c5:=d.count
     have B:=d.less
     simp only at c5 B
     have c6:=(d.waits c (by rw[d.pi];exact B)).1
     have f6:=(d.waits c (by rw[d.pi];exact B)).2
     have i1:(0:Int)<=(c:Int)+1:=by omega
     have i2:(c:Int)+1<=136:=by omega
     obtain⟨w3,e3⟩:=nm (w2.setCell ⟨w.heap.size+1,25+c,none⟩ (Ia .u8 1))
     obtain⟨w4,e4⟩:=nm (w3.setCells (w.heap.size+1) (25+(c+1)) ((List.replicate (135-c) 0).map Kf))
     obtain⟨W1,X⟩:=nm (putAt (W.set! c 1) (c+1) (List.replicate (135-c) 0))
     obtain⟨x,hx⟩:=nm W1[135]!
     obtain⟨w5,e5⟩:=nm (w4.setCell ⟨w.heap.size+1,160,none⟩ (Ia .u8 (((x:Int)+128)%256)))
     obtain⟨ag,ah,c7,c8,f8,r,A4⟩:=nR d G a y H hw10 e3 e4 X hx e5
     obtain⟨Wl,Y⟩:=nm (W1.set! 135 ((x+128)%256))
     rw[Y]at r A4
     have E:(oa.info? 136).map (·.size)=some (Wl.toList.map Kf).length:=by rw[ny];simp[A4.2.2.2.2.2.2.1]
     clear e4 X hx Y
     clear K s t g q ae A0 d G a y H)
  | (refine Zr rfl 136 _ rfl (w.heap.size+1) 25 rfl (Wl.toList.map Kf) _ r underlying136 rfl E ?_))
 all_goals
  obtain⟨r1,U,O,ac,V,h1,h2,h3,h4,Z⟩:=A4.o;refine(DD (w.heap.size+1) 0 L Wl w5 h1 h3 (by omega) r1 V (by omega) h2 h4).mono ?_;rintro e Q ⟨rfl,f,l⟩;have hA:N4 L (Hy W c)=N4 L Wl:=by rw[Z]
  have h:=(ZI L Wl).trans h1;have m:=U.trans ⟨f.os,f.tape,f.output,f.size,λk hk=>f.block k (by omega) (by omega)⟩;have ak:=Zm ac f.size;have i:Q.there w.heap.size 0 32:=λj J=>by have p:=f.block w.heap.size (by omega) (by omega);exact⟨by rw[Zc p];exact(O j J).1,by rw[Yd p];exact(O j J).2⟩
  have N:P8 (L,W,c)=Np (N4 L Wl) 32:=by unfold P8;rw[hA]
  have R:Hid (∀k,k=32->P8 (L,W,c)=Np (N4 L Wl) k):=λk hk=>by subst hk;exact N
  generalize N4 L Wl=A at l h R;have A6:Aside (Row Km Q (w.heap.size+1) 0 A/\A.size=25/\Ba w Q/\Q.there w.heap.size 0 32):=⟨l,h,m,i⟩;clear A4 r1 U O ac V h1 h2 h3 h4 Z f l hA h m i N r E e3 e5 ag ah c5 c6 f6 c7 c8 f8 i1 i2 B;go_wp2_with fail
  obtain⟨l,h,m,i⟩:=A6.o;refine(ZQ (w.heap.size+1) 0 A Q h ak l).mono ?_;rintro e F ⟨rfl,I⟩;have n:=Lp A 32;have aj:Hid (∀k,k=32->P8 (L,W,c)=Np A k):=R;have hr:=R 32 rfl;generalize Np A 32=D at n hr⊢;have HR:Hid (∀u:Unit,P8 (L,W,c)=D):=λ_=>hr;have z:=m.trans (I.mono (by omega));have P:F.there w.heap.size 0 32:=λj J=>by have p:=I.block w.heap.size (by omega);exact⟨by rw[Zc p];exact(i j J).1,by rw[Yd p];exact(i j J).2⟩
  have al:(oa.info? 39).map (·.size)=some (D.toList.map Kf).length:=by rw[Ck];simp[n]
  have am:(oa.info? 39).map (·.size)=some (D.toList.map Kf).toArray.size:=by rw[Ck];simp[n]
  have g:=Yp (Bi D .u8);have ai:F.there w.heap.size 0 (D.toList.map Kf).toArray.size:=by simpa[n]using P
  have a:F.there w.heap.size 0 (D.toList.map Kf).length:=by simpa[n]using P
  have A7:Aside (Ba w F/\F.there w.heap.size 0 (D.toList.map Kf).length/\D.size=32):=⟨z,a,n⟩;clear A6 R aj hr l h m i I z P a n;go_wp2_with (refine Zs rfl 39 _ _ rfl w.heap.size 0 (D.toList.map Kf).toArray rfl rfl ai am g ?_)
  obtain⟨z,a,n⟩:=A7.o;refine Zv (v:=Sa (D.toList.map Kf).toArray) (si results73 _ _ _ w.heap.size 0 rfl (Yg _ _ _ 39 _ _ (Zn _ _ _ _ a) underlying39 rfl al)) rfl ⟨?_,?_⟩;.rw[HR.o ()]
  .obtain⟨q1,q2,q3,q4⟩:=Og w.heap.size (D.toList.map Kf) 0 F;exact z.trans ⟨q2,q3,q4,by rw[q1];exact Za _,λk hk=>Qf _ _ _ _ _ (by omega)⟩
theorem Hs.uf(hr:w1.rangeAt b 0 (cellsOf st))(hf:∀j,j<162->w1.frozen? ⟨b,j,none⟩=false)(h1:st.1.size=25)(h2:st.2.1.size=136)(h3:Kp st.1)(h4:K3 st.2.1)(h5:st.2.2<136):Hs w1 b st:=by
 refine⟨λj a=>⟨hr j _ ?_,by rw[Zf];exact hf j (by omega)⟩,λj a=>⟨?_,hf (25+j) (by omega)⟩,?_,hf 161 (by omega),h1,h2,h3,h4,h5⟩;.unfold cellsOf;rw[Yl (by simp;omega)];simp[a]
 .have :=hr (25+j) (Kf st.2.1[j]!) ?_;.rwa [Zf]at this
  .unfold cellsOf;rw[Z4 (by simp;omega),Yl (by simp;omega)];simp[a,h1]
 .have :=hr 161 (Ia ka (st.2.2:Int)) ?_;.rwa [Zf]at this
  .unfold cellsOf;rw[Z4 (by simp;omega),Z4 (by simp;omega)];simp[h1,h2]
theorem oy(n j:Nat):(Array.replicate n 0:Array Nat)[j]! =0:=by
 by_cases h:j<n;.simp[h]
 .simp[h]
theorem Hs.zero(w:Fa)(C:Array Value)(t:TypeId)(hC:C=(cellsOf Ee).toArray):Hs (w.alloc (ma C t)) w.heap.size Ee:=by
 subst hC;refine Hs.uf ?_ (λj _=>Xg _ _ _ _) (by simp[Ee]) (by simp[Ee]) (λj=>?_) (λj=>?_) (by simp[Ee]);.intro j v a;rw[Zf,Ze];rw[<-a];simp
 .show(Array.replicate 25 0:Array Nat)[j]! <_;rw[oy];decide
 .show(Array.replicate 136 0:Array Nat)[j]! <_;rw[oy];decide
theorem gT:zeroCells138=(cellsOf Ee).toArray:=by kernel_rfl
theorem qm{w7:Fa}{N:Nat}{D:Array Nat}(hD:D.size=32)(ht:w7.there N 0 32):(oa.info? 39).map (·.size)=some (D.toList.map Kf).length/\(oa.info? 39).map (·.size)=some (D.toList.map Kf).toArray.size/\w7.there N 0 (D.toList.map Kf).toArray.size/\w7.there N 0 (D.toList.map Kf).length:=by
 refine⟨?_,?_,?_,?_⟩;.rw[Ck];simp[hD]
 .rw[Ck];simp[hD]
 .simpa[hD]using ht
 .simpa[hD]using ht
theorem Cg{w7:Fa}{N:Nat}(h:Ba w w7)(hN:w.heap.size<=N)(vs:List Value)(o:Nat):Ba w (w7.setCells N o vs):=by obtain⟨a,b,c,d⟩:=Og N vs o w7;exact h.trans ⟨b,c,d,by rw[a];exact Za _,λk e=>Qf _ _ _ _ _ (by omega)⟩
theorem ve(h:w.there b o n)(hb:w1.heap[b]? =w.heap[b]?):w1.there b o n:=λj hj=>
 ⟨by rw[Zc hb];exact(h j hj).1,by rw[Yd hb];exact(h j hj).2⟩
theorem tz(st:tg):(P8 st).size=32:=Lp _ _
theorem Dq(s:Da)(w:Fa)(hT:qb w)(hw10:16<=w.heap.size):Calls oa 69 #[La s] w λe w'=>e=na (Sa ((G8 s).toList.map Kf).toArray)/\Ba w w':=by
 go_enter func69,ntmps69;go_wp2_with fail
 generalize hw1:(w.alloc (ma _ 39)).alloc (ma zeroCells138 138)=w1;have l:Hs w1 (w.heap.size+1) Ee:=by rw[<-hw1];have :=Hs.zero (w.alloc (ma lc 39)) zeroCells138 138 gT;simpa using this
 have h:Ba w w1:=by rw[<-hw1];exact((Zb _ _).alloc (Za _) _).alloc (by simp) _
 have m:w1.there w.heap.size 0 32:=by rw[<-hw1];exact Jm (Le _ _ _ _ rfl) _
 have k:w.heap.size+1<w1.heap.size:=by rw[<-hw1];simp
 clear hw1;refine(fJ (w.heap.size+1) s Ee w1 k l (hT.below h hw10) (by omega)).mono ?_;rintro e w2 ⟨rfl,g,b⟩;have a:Ba w w2:=g.below h (by omega) (by omega);have d:w2.there w.heap.size 0 32:=ve m (g.block _ (by omega) (by omega));have t:w.heap.size+1<w2.heap.size:=Zm k g.size;have n:Hid (∀u:Unit,G8 s=P8 ((Ke s).foldl Gg Ee)):=λ_=>rfl;generalize (Ke s).foldl Gg Ee=st at b n;have A2:Aside (Hs w2 (w.heap.size+1) st/\Ba w w2/\w2.there w.heap.size 0 32/\qb w):=⟨b,a,d,hT⟩;clear l h m k g b a d hT;go_wp2_with fail
 obtain⟨b,a,d,hT⟩:=A2.o;refine(LM (w.heap.size+1) st w2 b (hT.below a hw10) (by omega)).mono ?_;rintro e w3 ⟨rfl,j⟩;have i:=tz st;generalize P8 st=D at i n⊢;have f:Ba w w3:=a.trans (j.mono (by omega));obtain⟨q,r,p,c⟩:=qm i (ve d (j.block _ (by omega)));have o:=Yp (Bi D .u8);have A3:Aside (Ba w w3/\w3.there w.heap.size 0 (D.toList.map Kf).length):=⟨f,c⟩;clear A2 b a d hT j f c i;go_wp2_with (refine Zs rfl 39 _ _ rfl w.heap.size 0 (D.toList.map Kf).toArray rfl rfl p r o ?_)
 obtain⟨f,c⟩:=A3.o;refine Zv (v:=Sa (D.toList.map Kf).toArray) (si results69 _ _ _ w.heap.size 0 rfl (Yg _ _ _ 39 _ _ (Zn _ _ _ _ c) underlying39 rfl q)) rfl ⟨?_,?_⟩;.rw[n.o ()]
 .exact Cg f (Za _) _ _
theorem GI(w:Fa)(D:Array Nat)(hD:D.size=32):(w.alloc (ma lc 39)).there w.heap.size 0 (D.toList.map Kf).toArray.size/\(oa.info? 39).map (·.size)=some (D.toList.map Kf).toArray.size/\(oa.info? 39).map (·.size)=some (D.toList.map Kf).length/\(D.toList.map Kf).toArray.all (·.oneCell')=true/\Ba w ((w.alloc (ma lc 39)).setCells w.heap.size 0 (D.toList.map Kf))/\((w.alloc (ma lc 39)).setCells w.heap.size 0 (D.toList.map Kf)).rangeAt w.heap.size 0 (D.toList.map Kf)/\w.heap.size<((w.alloc (ma lc 39)).setCells w.heap.size 0 (D.toList.map Kf)).heap.size:=by
 have c:(w.alloc (ma lc 39)).there w.heap.size 0 32:=Le w _ 39 32 rfl;have a:Ba w (w.alloc (ma lc 39)):=(Zb _ _).alloc (Za _) _;have b:w.heap.size<(w.alloc (ma lc 39)).heap.size:=by simp
 generalize w.alloc (ma lc 39)=w1 at c a b;obtain⟨f,g,d,e⟩:=qm hD c;exact⟨d,g,f,Yp (Bi D .u8),Cg a (Za _) _ _,Zn _ _ _ _ e,by rw[(Og _ _ _ _).1];exact b⟩
theorem lM(h:w.rangeAt b o cs)(hb:w1.heap[b]? =w.heap[b]?):w1.rangeAt b o cs:=λj v hv=>(Zc hb).trans (h j v hv)
theorem Iq(a b:Da):Ke (a++b)=Ke a++Ke b:=by unfold Ke;rw[ByteArray.data_append,Array.toList_append,Xk]
theorem rK(L:Array Nat)(k:Nat):K3 (Np L k):=by
 induction k with
 |zero=>intro j;show(Array.replicate 32 0:Array Nat)[j]! <_;rw[oy];decide
 |succ k ih=>exact qy ih _ _ (Nat.mod_lt _ (by decide))
end
section
inductive Nd where
 |no
 |leaf (p v:Da)
 |ext (p:Da) (t:Nd)
 |br (ks:List Nd)
 |stub (h:List Nat)
def Ky(c:List Nat):List Nat:=(G8 (Kg c)).toList
def Nu(c:List Nat):List Nat:=if c.length<32 then c else Kh (Ky c)
def Nd.Ou(t:Nd)(c:List Nat):List Nat:=match t with
 | .no=>Kh []
 | .stub h=>Kh h
 |_=>Nu c
mutual
def Nd.code:Nd->List Nat
 | .no=>[]
 | .leaf p v=>Ks (Kh (Kj (Ke p) true)++Kh (Ke v))
 | .ext p t=>Ks (Kh (Kj (Ke p) false)++t.Ou t.code)
 | .br ks=>Ks (Hv ks++Kh [])
 | .stub _=>[]
def Hv:List Nd->List Nat
 | []=>[]
 |x::xs=>x.Ou x.code++Hv xs
end
def Nd.ref(t:Nd):List Nat:=t.Ou t.code
theorem Nd.yk(p:Da)(t:Nd):(Nd.ext p t).code=Ks (Kh (Kj (Ke p) false)++t.ref):=by rw[Nd.code];rfl
theorem Fu(x:Nd)(xs:List Nd):Hv (x::xs)=x.ref++Hv xs:=by rw[Hv];rfl
theorem WL(a b:List Nd):Hv (a++b)=Hv a++Hv b:=by
 induction a with
 |nil=>rfl
 |cons x a ih=>rw[Vh,Fu,Fu,ih,Xz]
def Oc(p:Da):Prop:=p.size<=64/\∀x∈Ke p,x<16
mutual
def Nd.ok:Nd->Prop
 | .no=>True
 | .leaf p v=>Oc p/\v.size<=1024
 | .ext p t=>Oc p/\t.ok/\t≠ .no
 | .br ks=>ks.length=16/\E4 ks
 | .stub h=>h.length=32/\∀x∈h,x<256
def E4:List Nd->Prop
 | []=>True
 |x::xs=>x.ok/\E4 xs
end
theorem wu{x:Nd}:∀{l:List Nd},E4 l->x∈l->x.ok:=by
 intro l;induction l with
 |nil=>intro _ h;cases h
 |cons y l ih=>
  intro h a;rw[E4]at h;rcases Yf.1 a with rfl|a;.exact h.1
  .exact ih h.2 a
theorem Cw:∀{l:List Nd},(∀x∈l,x.ok)->E4 l:=by
 intro l;induction l with
 |nil=>intro _;rw[E4];trivial
 |cons y l ih=>intro h;rw[E4];exact⟨h y (Yj ..),ih λx a=>h x (Yy _ a)⟩
variable{l:List Nat}
theorem vr(h:∀x∈l,x<256):∀x∈Ks l,x<256:=by
 intro x a;unfold Ks at a;rcases Yc.1 a with a|a;.exact kt _ _ x a
 .exact h x a
theorem Li(h:∀x∈l,x<256):∀x∈Kh l,x<256:=by
 intro x a;unfold Kh at a;rcases Yc.1 a with a|a
 .split at a;.simp at a
  .exact kt _ _ x a
 .exact h x a
theorem Bh(c:List Nat):(Ky c).length=32:=by unfold Ky G8;rw[Yh];exact tz _
theorem VH(s:Da):∀x∈(G8 s).toList,x<256:=by intro x b;obtain⟨j,a,rfl⟩:=Xv b;have h:K3 (G8 s):=rK _ _;have :=h j;rw[Z9 (G8 s) j (by simpa using a)]at this;simpa using this
theorem Lk(c:List Nat):∀x∈Ky c,x<256:=VH (Kg c)
theorem JE:∀l:List Nat,(∀x∈l,x<16)->∀x∈Nb l,x<256
 | [],_=>λx hx=>by cases hx
 | [_],_=>λx hx=>by cases hx
 |a::b::r,h=>λx hx=>by
  have ha:=h a (by simp);have hb:=h b (by simp);rw[Nb]at hx;rcases Yf.1 hx with rfl|hx;.omega
  .exact JE r (λy hy=>h y (by simp[hy])) x hx
theorem cp{p:List Nat}(leaf:Bool)(h:∀x∈p,x<16):∀x∈Kj p leaf,x<256:=by
 intro x a;unfold Kj at a;rcases Yf.1 a with rfl|a
 .have :p.length%2=1->p[0]! <16:=λd=>by
   have b:0<p.length:=by omega
   rw[Z9 p 0 b];exact h _ (Zy b)
  split<;>split<;>first|omega | (have :=this (by assumption);omega)
 .exact JE _ (λy c=>h y (Yu c)) x a
variable{c:List Nat}
theorem Ll(h:∀x∈c,x<256):∀x∈Nu c,x<256:=by
 unfold Nu;split;.exact h
 .exact Li (Lk c)
mutual
theorem Nd.Ce:∀t:Nd,t.ok->∀x∈t.code,x<256
 | .no,_=>λx hx=>by rw[Nd.code]at hx;cases hx
 | .leaf p v,h=>by
  rw[Nd.ok]at h;rw[Nd.code];refine vr λx hx=>?_;rcases Yc.1 hx with hx|hx;.exact Li (cp true h.1.2) x hx
  .exact Li (Qk v) x hx
 | .ext p t,h=>by
  rw[Nd.ok]at h;have hc:=t.Ce h.2.1;have hs:∀x∈t.Ou t.code,x<256:=by
   cases t with
   |no=>exact Li (λx hx=>by cases hx)
   |stub g=>have :=h.2.1;rw[Nd.ok]at this;exact Li this.2
   |leaf _ _=>exact Ll hc
   |ext _ _=>exact Ll hc
   |br _=>exact Ll hc
  rw[Nd.code];refine vr λx hx=>?_;rcases Yc.1 hx with hx|hx;.exact Li (cp false h.1.2) x hx
  .exact hs x hx
 | .br ks,h=>by
  rw[Nd.ok]at h;rw[Nd.code];refine vr λx hx=>?_;rcases Yc.1 hx with hx|hx;.exact xD ks h.2 x hx
  .exact Li (λx hx=>by cases hx) x hx
 | .stub _,_=>λx hx=>by rw[Nd.code]at hx;cases hx
theorem xD:∀ks:List Nd,E4 ks->∀x∈Hv ks,x<256
 | [],_=>λx hx=>by rw[Hv]at hx;cases hx
 |t::ks,h=>by
  rw[E4]at h;have hc:=t.Ce h.1;have hs:∀x∈t.Ou t.code,x<256:=by
   cases t with
   |no=>exact Li (λx hx=>by cases hx)
   |stub g=>have :=h.1;rw[Nd.ok]at this;exact Li this.2
   |leaf _ _=>exact Ll hc
   |ext _ _=>exact Ll hc
   |br _=>exact Ll hc
  intro x hx;rw[Hv]at hx;rcases Yc.1 hx with hx|hx;.exact hs x hx
  .exact xD ks h.2 x hx
end
theorem Nd.uh(t:Nd)(h:t.ok):∀x∈t.ref,x<256:=by
 have a:=t.Ce h;cases t with
 |no=>exact Li (λx b=>by cases b)
 |stub g=>rw[Nd.ok]at h;exact Li h.2
 |leaf _ _=>exact Ll a
 |ext _ _=>exact Ll a
 |br _=>exact Ll a
theorem jt(h:l.length=32):(Kh l).length=33:=by unfold Kh K4;simp[h]
theorem Lr(c:List Nat):(Nu c).length<=33:=by
 unfold Nu;split;.omega
 .rw[jt (Bh c)];omega
theorem Nd.Lj(t:Nd)(h:t.ok):t.ref.length<=33:=by
 cases t with
 |no=>have :=Ij [];simp at this;show(Kh []).length<=33;omega
 |stub g=>rw[Nd.ok]at h;show(Kh g).length<=33;rw[jt h.1];omega
 |leaf _ _=>exact Lr _
 |ext _ _=>exact Lr _
 |br _=>exact Lr _
theorem jF:∀ks:List Nd,E4 ks->(Hv ks).length<=33*ks.length
 | [],_=>by rw[Hv];simp
 |t::ks,h=>by rw[E4]at h;have h1:=t.Lj h.1;have h2:=jF ks h.2;rw[Fu,Zq,Zu];omega
theorem IB(h:0<c.length):0<(Nu c).length:=by
 unfold Nu;split;.exact h
 .rw[jt (Bh c)];omega
theorem Nd.tn(t:Nd):0<t.ref.length:=by
 cases t with
 |no=>exact(mw []).1
 |stub g=>exact(mw g).1
 |leaf _ _=>exact IB (by rw[Nd.code];exact cA _)
 |ext _ _=>exact IB (by rw[Nd.code];exact cA _)
 |br _=>exact IB (by rw[Nd.code];exact cA _)
def K9:Nd->TypeId
 | .no=>0
 | .leaf _ _=>255
 | .ext _ _=>391
 | .br _=>388
 | .stub _=>228
def Ev:Nd->TypeId
 | .no=>0
 | .leaf _ _=>304
 | .ext _ _=>393
 | .br _=>386
 | .stub _=>298
abbrev Bb:=Nat->Option Nd
def od(S:Bb)(v:Value)(t:Nd):Prop:=(t=.no/\v=da)\/(t≠ .no/\∃b,v=ca (K9 t) (Qa (some ⟨b,0,none⟩))/\S b=some t)
def Mg(S:Bb):Nd->List Value->Prop
 | .no,_=>False
 | .leaf p v,r=>r=[La p,La v]
 | .ext p t,r=>∃v,r=[La p,v]/\od S v t
 | .br ks,r=>r.length=16/\∀i (h1:i<r.length) (h2:i<ks.length),od S r[i] ks[i]
 | .stub _,r=>r=[]
def Bd(t:Nd)(h:Da):Prop:=h=Kg t.ref\/(h=⟨#[]⟩/\∀x,t≠ .stub x)
def Cm(S:Bb)(w:Fa)(b:Nat)(t:Nd):Prop:=∃h r,Bd t h/\Mg S t r/\w.heap[b]? =some (ma (La h::r).toArray (Ev t) (0,0))
structure ua(B:Nat)(S:Bb)(w:Fa):Prop where
 node:∀b t,S b=some t->Cm S w b t
 ok:∀b t,S b=some t->t.ok
 low:∀b t,S b=some t->B<=b
 le:B<=w.heap.size
structure Fr(B:Nat)(S S':Bb)(w w':Fa):Prop where
 os:w'.os=w.os
 tape:w'.tape=w.tape
 output:w'.output=w.output
 size:w.heap.size<=w'.heap.size
 other:∀k,k<w.heap.size->S k=none->w'.heap[k]? =w.heap[k]?
 wa:ua B S' w'
 sub:∀b t,S b=some t->S' b=some t
 new:∀k,k<w.heap.size->S k=none->S' k=none
 kids:∀b t,S b=some t->∀j,0<j->w'.cell? ⟨b,j,none⟩=w.cell? ⟨b,j,none⟩
variable{S:Bb}{w:Fa}{b:Nat}{t:Nd}
theorem Cm.lt(h:Cm S w b t):b<w.heap.size:=by obtain⟨_,_,_,_,h⟩:=h;exact(Zg.1 h).1
theorem ua.lt{B:Nat}{S:Bb}{w:Fa}(h:ua B S w){b:Nat}{t:Nd}(hb:S b=some t):b<w.heap.size:=(h.node b t hb).lt
variable{B:Nat}{w':Fa}
theorem ua.Cb(h:ua B S w)(hs:w.heap.size<=w'.heap.size)(hb:∀k t,S k=some t->w'.heap[k]? =w.heap[k]?):ua B S w':=⟨λb t ht=>by obtain⟨g,r,h1,h2,h3⟩:=h.node b t ht;exact⟨g,r,h1,h2,(hb b t ht).trans h3⟩,h.ok,h.low,Z2 h.le hs⟩
theorem ua.below(h:ua B S w)(hb:Ba w w'):ua B S w':=h.Cb hb.size λk _ hk=>hb.block k (h.lt hk)
theorem Fr.refl(h:ua B S w):Fr B S S w w:=⟨rfl,rfl,rfl,Za _,λ_ _ _=>rfl,h,λ_ _ h=>h,λ_ _ h=>h,λ_ _ _ _ _=>rfl⟩
theorem Fr.trans{B:Nat}{S S1 S2:Bb}{w w1 w2:Fa}(h:Fr B S S1 w w1)(k:Fr B S1 S2 w1 w2):Fr B S S2 w w2:=⟨k.os.trans h.os,k.tape.trans h.tape,k.output.trans h.output,Z2 h.size k.size,λi hi hn=>(k.other i (Zm hi h.size) (h.new i hi hn)).trans (h.other i hi hn),k.wa,λb t hb=>k.sub b t (h.sub b t hb),λi hi hn=>k.new i (Zm hi h.size) (h.new i hi hn),λb t hb j hj=>(k.kids b t (h.sub b t hb) j hj).trans (h.kids b t hb j hj)⟩
theorem Fr.xa(h:ua B S w)(hb:Ba w w'):Fr B S S w w':=⟨hb.os,hb.tape,hb.output,hb.size,λk hk _=>hb.block k hk,h.below hb,λ_ _ h=>h,λ_ _ h=>h,λb _ hk j _=>hb.cell (p:=⟨b,j,none⟩) (h.lt hk)⟩
variable{k:Nat}
theorem ua.nothing(h:ua B S w)(hk:k<B):S k=none:=by
 cases hs:S k with
 |none=>rfl
 |some t=>have :=h.low k t hs;omega
variable{S':Bb}
theorem Fr.below(h:Fr B S S' w w')(hf:ua B S w):Below B w w':=⟨h.os,h.tape,h.output,h.size,λk hk=>h.other k (Zm hk hf.le) (hf.nothing hk)⟩
theorem Fr.behind{w1 w2:Fa}(h:Fr B S S' w w1)(hb:Ba w1 w2):Fr B S S' w w2:=h.trans (Fr.xa h.wa hb)
theorem Fr.cell{B:Nat}{S S':Bb}{w w':Fa}(h:Fr B S S' w w'){a:Addr}(ha:a.block<w.heap.size)(hn:S a.block=none):w'.cell? a=w.cell? a:=Zc (h.other a.block ha hn)
theorem ua.fresh(h:ua B S w)(hk:w.heap.size<=k):S k=none:=by
 cases hs:S k with
 |none=>rfl
 |some t=>have :=h.lt hs;omega
theorem od.sub(hs:∀b t,S b=some t->S' b=some t){v:Value}(h:od S v t):od S' v t:=by
 rcases h with h|⟨h,b,h1,h2⟩;.exact .inl h
 .exact .inr ⟨h,b,h1,hs b t h2⟩
theorem Mg.sub{S S':Bb}(hs:∀b t,S b=some t->S' b=some t):∀{t:Nd} {r:List Value},Mg S t r->Mg S' t r
 | .no,_,h=>h
 | .leaf _ _,_,h=>h
 | .ext _ _,_,⟨v,h1,h2⟩=>⟨v,h1,h2.sub hs⟩
 | .br _,_,⟨h1,h2⟩=>⟨h1,λi a b=>(h2 i a b).sub hs⟩
 | .stub _,_,h=>h
theorem SB{x u:Value}{r:List Value}{t:TypeId}(h:w.heap[b]? =some (ma (x::r).toArray t (0,0))):(w.setCell ⟨b,0,none⟩ u).heap[b]? =some (ma (u::r).toArray t (0,0)):=by have a:=(Zg.1 h).1;unfold World.setCell;simp only[Array.getElem?_modify,h];simp
theorem Fr.held(hf:ua B S w)(hb:S b=some t){h:Da}(hh:Bd t h):Fr B S S w (w.setCell ⟨b,0,none⟩ (La h)):=by
 refine⟨rfl,rfl,rfl,by simp,λk _ f=>Zd _ _ _ _ (λe=>?_),⟨λk u d=>?_,hf.ok,hf.low,by simpa using hf.le⟩,λ_ _ h=>h,λ_ _ h=>h,λk u _ j l=>Zp _ _ _ _ (λe=>by have :=Y5 Addr.off e;simp at this;omega)⟩;.rw[e,hb]at f;cases f
 .obtain⟨g,r,i,a,c⟩:=hf.node k u d;by_cases e:k=b;.subst e;obtain rfl:t=u:=Zi (hb.symm.trans d);exact⟨h,r,hh,a,SB c⟩
  .exact⟨g,r,i,a,(Zd _ _ _ _ e).trans c⟩
def Bb.put(S:Bb)(b:Nat)(t:Nd):Bb:=λk=>if k=b then some t else S k
theorem Bb.Ob(S:Bb)(b:Nat)(t:Nd):S.put b t b=some t:=by simp[Bb.put]
theorem Bb.mb(S:Bb)(b:Nat)(t:Nd)(h:k≠b):S.put b t k=S k:=by simp[Bb.put,h]
theorem Fr.alloc{B:Nat}{S:Bb}{w:Fa}(hf:ua B S w){t:Nd}{h:Da}{r:List Value}(hh:Bd t h)(hr:Mg S t r)(ht:t.ok):Fr B S (S.put w.heap.size t) w (w.alloc (ma (La h::r).toArray (Ev t))):=by
 have n:=hf.fresh (Za _);have c:∀b u,S b=some u->S.put w.heap.size t b=some u:=λb u d=>by have :=hf.lt d;rw[Bb.mb _ _ _ (by omega)];exact d
 refine⟨rfl,rfl,rfl,by simp,λk a _=>Z0 _ _ _ a,⟨λk u a=>?_,λk u a=>?_,λk u a=>?_,?_⟩,c,λk a h=>by rw[Bb.mb _ _ _ (by omega)];exact h,λk u a j _=>Zc (Z0 _ _ _ (hf.lt a))⟩
 .by_cases e:k=w.heap.size;.subst e;rw[Bb.Ob]at a;obtain rfl:=Zi a;refine⟨h,r,hh,hr.sub c,?_⟩;show(w.heap.push _)[w.heap.size]? =some _;exact Z6
  .rw[Bb.mb _ _ _ e]at a;obtain⟨g,m,f,i,l⟩:=hf.node k u a;exact⟨g,m,f,i.sub c,(Z0 _ _ _ (hf.lt a)).trans l⟩
 .by_cases e:k=w.heap.size;.subst e;rw[Bb.Ob]at a;obtain rfl:=Zi a;exact ht
  .rw[Bb.mb _ _ _ e]at a;exact hf.ok k u a
 .by_cases e:k=w.heap.size;.subst e;exact hf.le
  .rw[Bb.mb _ _ _ e]at a;exact hf.low k u a
 .have :=hf.le;simp;omega
end
end Go.Proofs.YtpfbdlnibdfcoaaGreatDoor
