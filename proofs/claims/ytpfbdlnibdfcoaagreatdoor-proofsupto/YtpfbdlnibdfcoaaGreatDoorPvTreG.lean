import Derived.Test.YtpfbdlnibdfcoaaGreatDoorPvReaG
namespace Go.Proofs.YtpfbdlnibdfcoaaGreatDoor
open Go.RowKit Tryz
open Value renaming int->Ia,string->La,slice->Ma,bool->Oa,pointer->Qa,agg->Sa,tuple->Wa,iface->ca,nilIface->da
open IntKind renaming i64->ka
open Obj renaming cells->ma
open Ending renaming returned->na
open Tryz renaming prog->oa
set_option maxRecDepth 100000
set_option maxHeartbeats 0
structure El where
 fr:Nat
 ra:Nat
 mc:Bool
 text:Da
 sub:Value
abbrev Nj(e:El):List Value:=[Ia ka (e.fr:Int),Ia ka (e.ra:Int),Oa e.mc,La e.text,e.sub]
abbrev Ea(e:El):Value:=Sa #[Ia ka (e.fr:Int),Ia ka (e.ra:Int),Oa e.mc,La e.text,e.sub]
def re(w:Fa)(F:Nat->Prop)(v:Value)(n:Nat)(cs:List Value):Prop:=(v=Ma none 0 0/\n=0/\cs=[])\/∃g cap,v=Ma (some ⟨g,0,none⟩) n cap/\n<=cap/\F g/\g<w.heap.size/\Plain w g/\w.rangeAt g 0 cs
theorem re.Cb{w w':Fa}{F F':Nat->Prop}{v:Value}{n:Nat}{cs:List Value}(h:re w F v n cs)(hF:∀k,F k->F' k)(hs:w.heap.size<=w'.heap.size)(hb:∀k,F k->k<w.heap.size->w'.heap[k]? =w.heap[k]?):re w' F' v n cs:=by
 rcases h with h|⟨g,cap,rfl,h0,h1,h2,hp,h3⟩;.exact .inl h
 .exact .inr ⟨g,cap,rfl,h0,hF g h1,by omega,hp.Cb (hb g h1 h2),λj u a=>(Zc (hb g h1 h2)).trans (h3 j u a)⟩
variable{w:Fa}
theorem Db.rowAt{B size:Nat}{v:Value}{n:Nat}{cs:List Value}(h:Db w B size v n cs){F:Nat->Prop}(hF:∀k,v.ownBlock=some k->F k)(hP:∀k,v.ownBlock=some k->Plain w k):re w F v n cs:=by
 obtain⟨a,h⟩:=h;rcases h with⟨h1,h2⟩|⟨g,cap,rfl,h1,h2,h3,h4,h5,h6⟩;.subst h2;exact .inl ⟨h1,rfl,Ye (by simpa using a)⟩
 .exact .inr ⟨g,cap,rfl,h3,hF g rfl,h2,hP g rfl,h6⟩
structure E1(C:Type) where
 tx:El->C->Prop
 ls:El->List C->C->Prop
def kP:E1 It:=⟨λe x=>x=.text e.fr e.ra (Ke e.text),λe l x=>e.text=Kg []/\x=.list e.fr e.ra l⟩
def En(e:El):Prop:=e.mc=false/\e.sub=Ma none 0 0
def Tree{C:Type}(enc:El->List Value)(K:E1 C):Nat->Fa->(Nat->Prop)->El->C->Prop
 |0,_,_,e,c=>En e/\K.tx e c
 |n+1,w,F,e,c=>(En e/\K.tx e c)\/(e.mc=true/\∃ps:List (El×C),re w F e.sub ps.length (ps.flatMap λp=>enc p.1)/\(∀p∈ps,Tree enc K n w F p.1 p.2)/\K.ls e (ps.map (·.2)) c)
section
variable{C:Type}{enc:El->List Value}{K:E1 C}
variable{w:Fa}{F:Nat->Prop}
theorem Tree.text{e:El}{c:C}(h:En e/\K.tx e c):∀n,Tree enc K n w F e c
 |0=>h
 |_+1=>.inl h
theorem Tree.Cb{w w':Fa}{F F':Nat->Prop}(hF:∀k,F k->F' k)(hs:w.heap.size<=w'.heap.size)(hb:∀k,F k->k<w.heap.size->w'.heap[k]? =w.heap[k]?):∀(n:Nat) {e:El} {c:C},Tree enc K n w F e c->Tree enc K n w' F' e c
 |0,_,_,h=>h
 |n+1,e,c,h=>by
  rcases h with h|⟨h1,ps,h3,h4,h5⟩;.exact .inl h
  .exact .inr ⟨h1,ps,h3.Cb hF hs hb,λp hp=>Tree.Cb hF hs hb n (h4 p hp),h5⟩
theorem Tree.below{w':Fa}{n:Nat}{e:El}{c:C}(h:Tree enc K n w F e c)(hb:Ba w w'):Tree enc K n w' F e c:=Tree.Cb (λ_ h=>h) hb.size (λk _ hk=>hb.block k hk) n h
theorem Tree.Mm{w:Fa}{F:Nat->Prop}:∀(n:Nat) {e:El} {c:C},Tree enc K n w F e c->Tree enc K n w (λk=>F k/\k<w.heap.size) e c
 |0,_,_,h=>h
 |n+1,e,c,h=>by
  rcases h with h|⟨h1,ps,h3,h4,h5⟩;.exact .inl h
  .refine .inr ⟨h1,ps,?_,λp hp=>Tree.Mm n (h4 p hp),h5⟩;rcases h3 with h3|⟨g,cap,e1,e2,e3,e4,e5⟩;.exact .inl h3
   .exact .inr ⟨g,cap,e1,e2,⟨e3,e4⟩,e4,e5⟩
theorem EI{size:Nat}(hz:∀e,(enc e).length=size):∀(ps:List (El×C)) (i:Nat) (hi:i<ps.length) (j:Nat),j<size->(ps.flatMap λp=>enc p.1)[i*size+j]? =(enc ps[i].1)[j]? :=by
 intro ps;induction ps with
 |nil=>intro i hi;simp at hi
 |cons p ps ih=>
  intro i hi j a;rw[List.flatMap_cons];cases i with
  |zero=>rw[Jr,Zf,Yl (by rw[hz];exact a)];rfl
  |succ i=>rw[Z4 (by rw[hz,Nat.add_mul,Nat.one_mul];omega),hz,show(i+1)*size+j-size=i*size+j by rw[Nat.add_mul,Nat.one_mul];omega,ih i (by simpa using hi) j a];rfl
theorem re.cells{v:Value}{size:Nat}(hz:∀e,(enc e).length=size){ps:List (El×C)}(h:re w F v ps.length (ps.flatMap λp=>enc p.1))(hp:0<ps.length):∃g cap,v=Ma (some ⟨g,0,none⟩) ps.length cap/\ps.length<=cap/\F g/\g<w.heap.size/\Plain w g/\∀i,(hi:i<ps.length)->w.rangeAt g (i*size) (enc ps[i].1):=by
 rcases h with⟨_,h,_⟩|⟨g,cap,rfl,h0,h1,h2,hpl,h3⟩;.omega
 .refine⟨g,cap,rfl,h0,h1,h2,hpl,λi hi j u a=>?_⟩;have b:j<size:=by have :=(Zw.1 a).1;rwa [hz]at this
  have :=h3 (i*size+j) u (by rw[EI hz ps i hi j b];exact a);rwa [Zf]at this
end
abbrev Gk(list:Bool)(a b:Nat):Value:=Sa #[Oa list,Ia ka (a:Int),Ia ka (b:Int)]
theorem eH(s:Da)(w:Fa)(te:TypeId)(pe:Value)(hN:∀W,Ba w W->Calls oa 218 #[La s,Ia .u8 128] W λe w'=>Ba W w'/\e=na (Wa #[Ia ka 0,Ia ka 0,ca te pe])):Calls oa 217 #[La s] w λe w'=>Ba w w'/\e=na (Wa #[Gk false 0 0,ca te pe]):=by
 have c:=Hq hN;clear hN;go_enter func217,ntmps217;go_wp2_with fail
 refine(c _ ((Zb _ _).alloc (Za _) _)).mono ?_;rintro e h ⟨a,rfl⟩;obtain⟨d,i⟩:=Bf a 0 (v:=Oa false) rfl;obtain⟨f,j⟩:=Bf a 1 (v:=Ia ka 0) rfl;obtain⟨g,k⟩:=Bf a 2 (v:=Ia ka 0) rfl;have b:Aside (Ba w h):=((Zb w.heap.size w).alloc (Za _) _).trans (a.mono (by simp));clear a;go_wp2;refine Zv (v:=Wa #[Gk false 0 0,ca te pe]) (by simp[results,results217,go_sem,d,f,g]) rfl ⟨?_,rfl⟩;exact(((b.setCell (Za _) _).setCell (Za _) _).setCell (Za _) _)
theorem OR(s:Da)(w:Fa)(a b:Nat)(hN:∀W,Ba w W->Calls oa 218 #[La s,Ia .u8 128] W λe w'=>Ba W w'/\e=na (Wa #[Ia ka (a:Int),Ia ka (b:Int),da]))(hb:((b:Int)==1)=false):Calls oa 217 #[La s] w λe w'=>Ba w w'/\e=na (Wa #[Gk false a b,da]):=by
 have f:=Hq hN;clear hN;go_enter func217,ntmps217;go_wp2_with fail
 refine(f _ ((Zb _ _).alloc (Za _) _)).mono ?_;rintro e j ⟨c,rfl⟩;obtain⟨g,k⟩:=Bf c 0 (v:=Oa false) rfl;obtain⟨h,l⟩:=Bf c 1 (v:=Ia ka 0) rfl;obtain⟨i,m⟩:=Bf c 2 (v:=Ia ka 0) rfl;have d:Aside (Ba w j):=((Zb w.heap.size w).alloc (Za _) _).trans (c.mono (by simp));clear c;go_wp2;refine Zv (v:=Wa #[Gk false a b,da]) (by simp[results,results217,go_sem,g,h,i]) rfl ⟨?_,rfl⟩;exact(((d.setCell (Za _) _).setCell (Za _) _).setCell (Za _) _)
theorem BR(s:Da)(w:Fa)(a c:Nat)(hN:∀W,Ba w W->Calls oa 218 #[La s,Ia .u8 128] W λe w'=>Ba W w'/\e=na (Wa #[Ia ka (a:Int),Ia ka 1,da]))(ha:a<s.size)(hc:(s[a]'ha).toNat=c)(h128:(128:Int)<=(c:Int)):Calls oa 217 #[La s] w λe w'=>Ba w w'/\e=na (Wa #[Gk false a 1,da]):=by
 have f:=Hq hN;clear hN;have k:(a:Int)<(s.size:Int):=by omega
 go_enter func217,ntmps217;go_wp2_with fail
 refine(f _ ((Zb _ _).alloc (Za _) _)).mono ?_;rintro e j ⟨b,rfl⟩;obtain⟨g,l⟩:=Bf b 0 (v:=Oa false) rfl;obtain⟨h,m⟩:=Bf b 1 (v:=Ia ka 0) rfl;obtain⟨i,n⟩:=Bf b 2 (v:=Ia ka 0) rfl;have d:Aside (Ba w j):=((Zb w.heap.size w).alloc (Za _) _).trans (b.mono (by simp));clear b;go_wp2;refine Zv (v:=Wa #[Gk false a 1,da]) (by simp[results,results217,go_sem,g,h,i]) rfl ⟨?_,rfl⟩;exact(((d.setCell (Za _) _).setCell (Za _) _).setCell (Za _) _)
theorem CK(s:Da)(w:Fa)(a c:Nat)(ef:Value)(hg:w.cell? ⟨12,0,none⟩=some ef)(hgl:12<w.heap.size)(hN:∀W,Ba w W->Calls oa 218 #[La s,Ia .u8 128] W λe w'=>Ba W w'/\e=na (Wa #[Ia ka (a:Int),Ia ka 1,da]))(ha:a<s.size)(hc:(s[a]'ha).toNat=c)(h128:(c:Int)<(128:Int)):Calls oa 217 #[La s] w λe w'=>Ba w w'/\e=na (Wa #[Gk false 0 0,ef]):=by
 have f:=Hq hN;clear hN;have k:(a:Int)<(s.size:Int):=by omega
 go_enter func217,ntmps217;go_wp2_with fail
 refine(f _ ((Zb _ _).alloc (Za _) _)).mono ?_;rintro e j ⟨b,rfl⟩;obtain⟨g,m⟩:=Bf b 0 (v:=Oa false) rfl;obtain⟨h,n⟩:=Bf b 1 (v:=Ia ka 0) rfl;obtain⟨i,o⟩:=Bf b 2 (v:=Ia ka 0) rfl;have d:Aside (Ba w j):=((Zb w.heap.size w).alloc (Za _) _).trans (b.mono (by simp));have l:=(d.cell hgl).trans hg;clear b;go_wp2;go_region;go_wp2;refine Zv (v:=Wa #[Gk false 0 0,ef]) (by simp[results,results217,go_sem,g,h,i]) rfl ⟨?_,rfl⟩;exact(((d.drew.setCell (Za _) _).setCell (Za _) _).setCell (Za _) _)
theorem sh(s:Da):∀x∈Ke s,x<256:=by intro x a;unfold Ke at a;obtain⟨y,_,rfl⟩:=Xd.1 a;exact Vy y
def Uw(s:Da)(kind:Nat)(w:Fa)(es ef:Value)(r:Except Bool (Nat×Nat)):Prop:=(∀x,r=.error x->∀W,Ba w W->Calls oa 218 #[La s,Ia .u8 (kind:Int)] W λe w'=>Ba W w'/\e=na (Wa #[Ia ka 0,Ia ka 0,if x then ef else es]))/\
  ∀a b,r=.ok (a,b)->∀W,Ba w W->Calls oa 218 #[La s,Ia .u8 (kind:Int)] W λe w'=>Ba W w'/\e=na (Wa #[Ia ka (a:Int),Ia ka (b:Int),da])
theorem ME(s:Da)(kind:Nat)(w:Fa)(es ef:Value)(hes:G5 w 2 es)(hef:G5 w 12 ef)(hgs:2<w.heap.size)(hgf:12<w.heap.size)(hp:0<s.size)(hs:s.size<=1048576)(hc:kind<=(Ke s)[0]!)(h63:(Ke s)[0]! -kind<=63):Uw s kind w es ef (Ad (Ke s) kind):=by
 have g:∀W,Ba w W->G5 W 2 es:=λW c=>(c.cell hgs).trans hes;have j:∀W,Ba w W->G5 W 12 ef:=λW c=>(c.cell hgf).trans hef;by_cases d:(Ke s)[0]! -kind<=55
 .refine⟨λx h W c=>?_,λa b h W c=>?_⟩
  .have k:x=false:=by
    rw[Cv d]at h;split at h;.cases h;rfl
    .cases h
   subst k;refine(cI s kind W es (g W c) hp hs hc d).mono ?_;rintro e i ⟨rfl,f⟩;rw[h];exact⟨f,rfl⟩
  .refine(cI s kind W es (g W c) hp hs hc d).mono ?_;rintro e i ⟨rfl,f⟩;rw[h];exact⟨f,rfl⟩
 .refine⟨λx h W c=>?_,λa b h W c=>?_⟩
  .refine(rF s kind W es ef (g W c) (j W c) hp hs hc d h63).mono ?_;rintro e i ⟨rfl,f⟩;rw[h];cases x with
   |false=>exact⟨f,rfl⟩
   |true=>exact⟨f,rfl⟩
  .refine(rF s kind W es ef (g W c) (j W c) hp hs hc d h63).mono ?_;rintro e i ⟨rfl,f⟩;rw[h];exact⟨f,rfl⟩
def lh(f:FuncId)(s:Da)(w:Fa)(es ef:Value)(r:Except Nat (Bool×Nat×Nat)):Prop:=(∀x,r=.error x->∃l ev,(x=2/\ev=es\/x=3/\ev=ef)/\∀W,Ba w W->Calls oa f #[La s] W λe w'=>Ba W w'/\e=na (Wa #[Gk l 0 0,ev]))/\
  ∀l a b,r=.ok (l,a,b)->∀W,Ba w W->Calls oa f #[La s] W λe w'=>Ba W w'/\e=na (Wa #[Gk l a b,da])
theorem lh.err{f:FuncId}{s:Da}{es ef:Value}{x:Nat}(h:∃l ev,(x=2/\ev=es\/x=3/\ev=ef)/\∀W,Ba w W->Calls oa f #[La s] W λe w'=>Ba W w'/\e=na (Wa #[Gk l 0 0,ev])):lh f s w es ef (.error x):=⟨λy hy=>by cases hy;exact h,λ_ _ _ hy=>by cases hy⟩
theorem lh.ok{f:FuncId}{s:Da}{w:Fa}{es ef:Value}{l:Bool}{a b:Nat}(h:∀W,Ba w W->Calls oa f #[La s] W λe w'=>Ba W w'/\e=na (Wa #[Gk l a b,da])):lh f s w es ef (.ok (l,a,b)):=⟨λy hy=>(by cases hy),λ_ _ _ hy=>by cases hy;exact h⟩
theorem pO{l:List Nat}(h0:0<l.length)(h1:128<=l[0]!)(h2:l[0]! <192):Ny l=(match Ad l 128 with
  | .error x=>.error (if x then 3 else 2)
  | .ok (a,b)=>if b=1/\l[a]! <128 then .error 3 else .ok (false,a,b)):=by
 unfold Ny
 rw[Zj (by omega),Zj (by omega),Zo h2]
 rcases Ad l 128 with x|⟨a,b⟩<;>rfl
theorem rM{l:List Nat}(h0:0<l.length)(h2:¬l[0]! <192):Ny l=(match Ad l 192 with
  | .error x=>.error (if x then 3 else 2)
  | .ok (a,b)=>.ok (true,a,b)):=by
 unfold Ny
 rw[Zj (by omega),Zj (by omega),Zj h2]
 rcases Ad l 192 with x|⟨a,b⟩<;>rfl
theorem FQ(s:Da)(w:Fa)(te:TypeId)(ps pf:Value)(hes:G5 w 2 (ca te ps))(hef:G5 w 12 (ca te pf))(hgs:2<w.heap.size)(hgf:12<w.heap.size)(hp:0<s.size)(hs:s.size<=1048576)(hc:128<=(Ke s)[0]!)(h63:(Ke s)[0]! <192):lh 217 s w (ca te ps) (ca te pf) (Ny (Ke s)):=by
 have j:=ta s;have e:=ME s 128 w _ _ hes hef hgs hgf hp hs hc (by omega);rw[pO (by omega) hc h63];cases hl:Ad (Ke s) 128 with
 |error x=>
  have e:=e.1 x hl;cases x with
  |false=>exact .err ⟨false,_,.inl ⟨rfl,rfl⟩,λW c=>eH s W te ps (λd h=>e d (Below.behind c h))⟩
  |true=>exact .err ⟨false,_,.inr ⟨rfl,rfl⟩,λW c=>eH s W te pf (λd h=>e d (Below.behind c h))⟩
 |ok p=>
  obtain⟨a,b⟩:=p;have e:=e.2 a b hl;simp only;obtain⟨_,l,_,_⟩:=sC (sh s) (by omega) hc (by omega) hl;by_cases i:b=1
  .subst i;have f:a<s.size:=by omega
   have k:=yg s a f;by_cases g:(s[a]'f).toNat<128;.rw[Zo ⟨rfl,by omega⟩];exact .err ⟨false,_,.inr ⟨rfl,rfl⟩,λW c=>CK s W a _ _ ((c.cell hgf).trans hef) (Zm hgf c.size) (λd h=>e d (Below.behind c h)) f rfl (Int.ofNat_lt.2 g)⟩
   .rw[Zj (λh=>g (by omega))];exact .ok λW c=>BR s W a _ (λd h=>e d (Below.behind c h)) f rfl (Vk.2 (Xn g))
  .rw[Zj (λh=>i h.1)];exact .ok λW c=>OR s W a b (λd h=>e d (Below.behind c h)) (by simp;omega)
theorem FB(o:Obj){g:Nat}{v:Value}(h:w.cell? ⟨g,0,none⟩=some v)(hg:g<w.heap.size):(w.alloc o).cell? ⟨g,0,none⟩=some v:=(Z8 _ _ _ hg).trans h
theorem fM(w:Fa)(s:Da)(hs:s.toList.isEmpty=true)(es:Value)(hg:w.cell? ⟨2,0,none⟩=some es)(hgl:2<w.heap.size):Calls oa 197 #[La s] w λe w'=>Ba w w'/\e=na (Wa #[Gk false 0 0,es]):=by have a:=λo=>FB o hg hgl;go_enter func197,ntmps197;go_wp2;go_region;go_wp2;refine Zv (v:=Wa #[Gk false 0 0,es]) (by simp[results,results197,go_sem]) rfl ⟨?_,rfl⟩;exact((Zb _ _).alloc (Za _) _).drew
theorem GR(w:Fa)(s:Da)(hs:s.toList.isEmpty=false)(hp:0<s.size)(c:Nat)(hc:(s[0]'hp).toNat=c)(h:(c:Int)<128):Calls oa 197 #[La s] w λe w'=>Ba w w'/\e=na (Wa #[Gk false 0 1,da]):=by go_enter func197,ntmps197;go_wp2;refine Zv (v:=Wa #[Gk false 0 1,da]) (by simp[results,results197,go_sem]) rfl ⟨?_,rfl⟩;exact(Zb _ _).alloc (Za _) _
theorem gD(w:Fa)(s:Da)(hs:s.toList.isEmpty=false)(hp:0<s.size)(c:Nat)(hc:(s[0]'hp).toNat=c)(h:(128:Int)<=(c:Int))(h2:(c:Int)<192)(l:Bool)(a b:Nat)(ev:Value)(hN:∀W,Ba w W->Calls oa 217 #[La s] W λe w'=>Ba W w'/\e=na (Wa #[Gk l a b,ev])):Calls oa 197 #[La s] w λe w'=>Ba w w'/\e=na (Wa #[Gk l a b,ev]):=by
 have g:=Hq hN;clear hN;go_enter func197,ntmps197;go_wp2_with fail
 refine(g _ ((Zb _ _).alloc (Za _) _)).mono ?_;rintro e m ⟨d,rfl⟩;obtain⟨i,n⟩:=Bf d 0 (v:=Oa false) rfl;obtain⟨j,o⟩:=Bf d 1 (v:=Ia ka 0) rfl;obtain⟨k,p⟩:=Bf d 2 (v:=Ia ka 0) rfl;have f:Aside (Ba w m):=((Zb w.heap.size w).alloc (Za _) _).trans (d.mono (by simp));clear d;go_wp2;refine Zv (v:=Wa #[Gk l a b,ev]) (by simp[results,results197,go_sem,i,j,k]) rfl ⟨?_,rfl⟩;exact(((f.setCell (Za _) _).setCell (Za _) _).setCell (Za _) _)
theorem uB(w:Fa)(s:Da)(hs:s.toList.isEmpty=false)(hp:0<s.size)(c:Nat)(hc:(s[0]'hp).toNat=c)(h2:(192:Int)<=(c:Int))(a b:Nat)(ev:Value)(hN:∀W,Ba w W->Calls oa 218 #[La s,Ia .u8 192] W λe w'=>Ba W w'/\e=na (Wa #[Ia ka (a:Int),Ia ka (b:Int),ev])):Calls oa 197 #[La s] w λe w'=>Ba w w'/\e=na (Wa #[Gk true a b,ev]):=by
 have g:=Hq hN;clear hN;have o:(128:Int)<=(c:Int):=by omega
 go_enter func197,ntmps197;go_wp2_with fail
 refine(g _ ((Zb _ _).alloc (Za _) _)).mono ?_;rintro e k ⟨d,rfl⟩;obtain⟨h,l⟩:=Bf d 0 (v:=Oa false) rfl;obtain⟨i,m⟩:=Bf d 1 (v:=Ia ka 0) rfl;obtain⟨j,n⟩:=Bf d 2 (v:=Ia ka 0) rfl;have f:Aside (Ba w k):=((Zb w.heap.size w).alloc (Za _) _).trans (d.mono (by simp));clear d;go_wp2;refine Zv (v:=Wa #[Gk true a b,ev]) (by simp[results,results197,go_sem,h,i,j]) rfl ⟨?_,rfl⟩;exact(((f.setCell (Za _) _).setCell (Za _) _).setCell (Za _) _)
theorem WI(s:Da)(w:Fa)(te:TypeId)(ps pf:Value)(hes:G5 w 2 (ca te ps))(hef:G5 w 12 (ca te pf))(hgs:2<w.heap.size)(hgf:12<w.heap.size)(hs:s.size<=1048576):lh 197 s w (ca te ps) (ca te pf) (Ny (Ke s)):=by
 have r:=ta s;by_cases c:0<s.size
 .have q:(Ke s)[0]! <256:=by rw[Z9 _ 0 (by omega)];exact sh s _ (Zy _)
  have t:=yg s 0 c;by_cases k:(s[0]'c).toNat<128
  .have e:Ny (Ke s)=.ok (false,0,1):=by unfold Ny;rw[Zj (by omega),Zo (by omega)]
   rw[e];exact .ok λW _=>GR W s (lj s c) c _ rfl (Int.ofNat_lt.2 k)
  .by_cases i:(s[0]'c).toNat<192
   .have j:=FQ s w te ps pf hes hef hgs hgf c hs (by omega) (by omega);cases hh:Ny (Ke s)with
    |error x=>obtain⟨l,m,n,g⟩:=j.1 x hh;exact .err ⟨l,m,n,λW d=>gD W s (lj s c) c _ rfl (Vk.2 (Xn k)) (Int.ofNat_lt.2 i) l 0 0 m (λf h=>g f (Below.behind d h))⟩
    |ok p=>obtain⟨l,a,b⟩:=p;have j:=j.2 l a b hh;exact .ok λW d=>gD W s (lj s c) c _ rfl (Vk.2 (Xn k)) (Int.ofNat_lt.2 i) l a b _ (λf h=>j f (Below.behind d h))
   .have g:=ME s 192 w _ _ hes hef hgs hgf c hs (by omega) (by omega);rw[rM (by omega) (by omega)];cases hl:Ad (Ke s) 192 with
    |error x=>
     have g:=g.1 x hl;cases x with
     |false=>exact .err ⟨true,_,.inl ⟨rfl,rfl⟩,λW d=>uB W s (lj s c) c _ rfl (Vk.2 (Xn i)) 0 0 _ (λf h=>g f (Below.behind d h))⟩
     |true=>exact .err ⟨true,_,.inr ⟨rfl,rfl⟩,λW d=>uB W s (lj s c) c _ rfl (Vk.2 (Xn i)) 0 0 _ (λf h=>g f (Below.behind d h))⟩
    |ok p=>obtain⟨a,b⟩:=p;have g:=g.2 a b hl;exact .ok λW d=>uB W s (lj s c) c _ rfl (Vk.2 (Xn i)) a b _ (λf h=>g f (Below.behind d h))
 .have e:Ny (Ke s)=.error 2:=by unfold Ny;rw[Zo (by omega)]
  rw[e];have o:s.toList.isEmpty=true:=by
   rw[Vn];have :s.data.toList.length=s.size:=by simp
   have e:s.data.toList=[]:=Ye (by omega);rw[e];rfl
  exact .err ⟨false,_,.inl ⟨rfl,rfl⟩,λW d=>fM W s o _ ((d.cell hgs).trans hes) (Zm hgs d.size)⟩
end Go.Proofs.YtpfbdlnibdfcoaaGreatDoor
