import Derived.ArgAppend
import Derived.BigQuiet
import Derived.BigRegion
import Derived.Deep.DeepCutAuto
import Derived.Deep.DeepHandedRow
import Derived.Deep.DrawnRows
import Derived.Deep.LoopGhost
import Derived.Deep.MidRow
import Derived.Deep.QuietTactic
import Derived.Deep.RegionHeld3
import Derived.Deep.RegionLaw
import Derived.Deep.RegionWith
import Derived.Deep.Slices
import Derived.Deep.WholeRow
import Derived.Great.BuildSlice
import Derived.LaidEql
import Derived.LaidHandle
import Derived.LaidSub
import Derived.Laws.IdiomCopy
import Derived.Laws.MakeOwn
import Derived.Laws.ResultCell
import Derived.Laws.StructEq
import Derived.Lib.AppendStr
import Derived.Lib.BufferRead
import Derived.Lib.ConvBytes
import Derived.Lib.LaidTab
import Derived.Lib.Strings
import Derived.Lib.UnsafeStr
import Derived.LoopIn
import Derived.LoopNIn
import Derived.MapKept
import Derived.OpenShut
import Derived.Orders
import Derived.OwnWalk
import Derived.OwnWalkIn
import Derived.ProofKit
import Derived.RangeFuncBound
import Derived.RangeFuncCalls
import Derived.RangeFuncLeaves
import Derived.RangeFuncNested
import Derived.RegionTactic
import Derived.RowKitTokens
import Derived.Shelf.Abstract
import Derived.Shelf.RegionOpen
import Derived.Stop.Asserts
import Derived.Stop.BytesEq
import Derived.Stop.LaidErr
import Derived.Stop.LaidTwo
import Derived.TacticsInMore
import Derived.Test.YtpfbdlnibdfcoaaGreatDoorProg
import Derived.WalkKit
import Derived.WalkSpells
import Derived.WalkLawsBesides
namespace Go.Proofs.YtpfbdlnibdfcoaaGreatDoor
open Go.RowKit Tryz
open Value renaming int->Ia,string->La,slice->Ma,bool->Oa,pointer->Qa,agg->Sa,tuple->Wa,iface->ca,nilIface->da
open IntKind renaming i64->ka
open Obj renaming cells->ma
open Ending renaming returned->na
open Tryz renaming prog->oa
set_option maxRecDepth 100000
set_option maxHeartbeats 0
section
theorem _root_.Go.RowKit.Hid.o{p:Prop}(h:Hid p):p:=h
theorem _root_.Go.Aside.o{p:Prop}(h:Aside p):p:=h
abbrev lc:Array Value:=#[.int .u8 0,.int .u8 0,.int .u8 0,.int .u8 0,.int .u8 0,.int .u8 0,.int .u8 0,.int .u8 0,.int .u8 0,.int .u8 0,.int .u8 0,.int .u8 0,.int .u8 0,.int .u8 0,.int .u8 0,.int .u8 0,.int .u8 0,.int .u8 0,.int .u8 0,.int .u8 0,.int .u8 0,.int .u8 0,.int .u8 0,.int .u8 0,.int .u8 0,.int .u8 0,.int .u8 0,.int .u8 0,.int .u8 0,.int .u8 0,.int .u8 0,.int .u8 0]
abbrev Ba(w w':World):Prop:=Below w.heap.size w w'
abbrev Da:=ByteArray
abbrev Fa:=World
theorem Za:type_of% @Nat.le_refl:=@Nat.le_refl
theorem Zb:type_of% @Go.RowKit.Below.refl:=@Go.RowKit.Below.refl
theorem Zc:type_of% @Go.World.cell?_of_block:=@Go.World.cell?_of_block
theorem Zd:type_of% @Go.RowKit.Below.heap_setCell:=@Go.RowKit.Below.heap_setCell
theorem Ze:type_of% @Go.World.cell?_alloc_new:=@Go.World.cell?_alloc_new
theorem Zf:type_of% @Nat.zero_add:=@Nat.zero_add
theorem Zg:type_of% @Array.getElem?_eq_some_iff:=@Array.getElem?_eq_some_iff
theorem Zi:type_of% @Option.some.inj:=@Option.some.inj
theorem Zj:type_of% @if_neg:=@if_neg
theorem Zk:type_of% @List.getElem?_eq_getElem:=@List.getElem?_eq_getElem
theorem Zl:type_of% @List.length_map:=@List.length_map
theorem Zm:type_of% @Nat.lt_of_lt_of_le:=@Nat.lt_of_lt_of_le
theorem Zn:type_of% @Go.World.rangeAt_setCells_same:=@Go.World.rangeAt_setCells_same
theorem Zo:type_of% @if_pos:=@if_pos
theorem Zp:type_of% @Go.World.cell?_setCell_other:=@Go.World.cell?_setCell_other
theorem Zq:type_of% @List.length_append:=@List.length_append
theorem Zr:type_of% @Go.wpList_load_mid:=@Go.wpList_load_mid
theorem Zs:type_of% @Go.wpList_store_mid:=@Go.wpList_store_mid
theorem Zt:type_of% @decide_eq_false:=@decide_eq_false
theorem Zu:type_of% @List.length_cons:=@List.length_cons
theorem Zv:type_of% @Go.bodyPost_ret:=@Go.bodyPost_ret
theorem Zw:type_of% @List.getElem?_eq_some_iff:=@List.getElem?_eq_some_iff
theorem Zx:type_of% @List.length_take:=@List.length_take
theorem Zy:type_of% @List.getElem_mem:=@List.getElem_mem
theorem Zz:type_of% @List.take_of_length_le:=@List.take_of_length_le
theorem Z0:type_of% @Go.RowKit.Below.heap_alloc:=@Go.RowKit.Below.heap_alloc
theorem Z1:type_of% @List.take_succ_eq_append_getElem:=@List.take_succ_eq_append_getElem
theorem Z2:type_of% @Nat.le_trans:=@Nat.le_trans
theorem Z3:type_of% @Go.Value.slice.injEq:=@Go.Value.slice.injEq
theorem Z4:type_of% @List.getElem?_append_right:=@List.getElem?_append_right
theorem Z5:type_of% @decide_eq_true:=@decide_eq_true
theorem Z6:type_of% @Array.getElem?_push_size:=@Array.getElem?_push_size
theorem Z7:type_of% @Go.World.frozen?_setCell:=@Go.World.frozen?_setCell
theorem Z8:type_of% @Go.World.cell?_alloc_past:=@Go.World.cell?_alloc_past
theorem Z9:type_of% @getElem!_pos:=@getElem!_pos
theorem Ya:type_of% @Array.getD_eq_getD_getElem? :=@Array.getD_eq_getD_getElem?
theorem Yb:type_of% @List.getD_eq_getElem?_getD:=@List.getD_eq_getElem?_getD
theorem Yc:type_of% @List.mem_append:=@List.mem_append
theorem Yd:type_of% @Go.World.frozen?_of_block:=@Go.World.frozen?_of_block
theorem Ye:type_of% @List.eq_nil_of_length_eq_zero:=@List.eq_nil_of_length_eq_zero
theorem Yf:type_of% @List.mem_cons:=@List.mem_cons
theorem Yg:type_of% @Go.run_loadVar_mid:=@Go.run_loadVar_mid
theorem Yh:type_of% @Array.length_toList:=@Array.length_toList
theorem Yi:type_of% @List.length_drop:=@List.length_drop
theorem Yj:type_of% @List.mem_cons_self:=@List.mem_cons_self
theorem Yk:type_of% @Option.getD_some:=@Option.getD_some
theorem Yl:type_of% @List.getElem?_append_left:=@List.getElem?_append_left
theorem Ym:type_of% @List.size_toArray:=@List.size_toArray
theorem Yn:type_of% @List.setIfInBounds_toArray:=@List.setIfInBounds_toArray
theorem Yo:type_of% @Go.World.block_lt_of_cell? :=@Go.World.block_lt_of_cell?
theorem Yp:type_of% @Go.all_oneCell_toArray:=@Go.all_oneCell_toArray
theorem Yq:type_of% @List.length_nil:=@List.length_nil
theorem Yr:type_of% @Go.RowKit.Below.setCell:=@Go.RowKit.Below.setCell
theorem Ys:type_of% @Go.World.cell?_setCell_same:=@Go.World.cell?_setCell_same
theorem Yt:type_of% @List.getElem?_map:=@List.getElem?_map
theorem Yu:type_of% @List.mem_of_mem_drop:=@List.mem_of_mem_drop
theorem Yv:type_of% @List.drop_eq_getElem_cons:=@List.drop_eq_getElem_cons
theorem Yw:type_of% @List.set_cons_succ:=@List.set_cons_succ
theorem Yx:type_of% @List.drop_zero:=@List.drop_zero
theorem Yy:type_of% @List.mem_cons_of_mem:=@List.mem_cons_of_mem
theorem Yz:type_of% @Go.World.size_alloc:=@Go.World.size_alloc
theorem Y4:type_of% @List.mem_of_mem_take:=@List.mem_of_mem_take
theorem Y5:type_of% @congrArg:=@congrArg
theorem Y6:type_of% @List.drop_succ_cons:=@List.drop_succ_cons
theorem Y7:type_of% @List.take_succ_cons:=@List.take_succ_cons
theorem Y8:type_of% @List.mem_singleton:=@List.mem_singleton
theorem Y9:type_of% @List.set_cons_zero:=@List.set_cons_zero
theorem Xa:type_of% @Nat.zero_le:=@Nat.zero_le
theorem Xb:type_of% @Go.World.there_setCells:=@Go.World.there_setCells
theorem Xc:type_of% @List.take_append_drop:=@List.take_append_drop
theorem Xd:type_of% @List.mem_map:=@List.mem_map
theorem Xe:type_of% @beq_eq_false_iff_ne:=@beq_eq_false_iff_ne
theorem Xf:type_of% @List.getElem_map:=@List.getElem_map
theorem Xg:type_of% @Go.World.frozen?_alloc_new:=@Go.World.frozen?_alloc_new
theorem Xh:type_of% @Array.getElem?_eq_getElem:=@Array.getElem?_eq_getElem
theorem Xi:type_of% @List.nil_append:=@List.nil_append
theorem Xj:type_of% @Option.some.injEq:=@Option.some.injEq
theorem Xk:type_of% @List.map_append:=@List.map_append
theorem Xl:type_of% @Go.info_parts:=@Go.info_parts
theorem Xm:type_of% @List.map_cons:=@List.map_cons
theorem Xn:type_of% @Nat.le_of_not_lt:=@Nat.le_of_not_lt
theorem Xo:type_of% @Go.run_callFunc_extern:=@Go.run_callFunc_extern
theorem Xp:type_of% @List.getElem?_take_of_lt:=@List.getElem?_take_of_lt
theorem Xq:type_of% @Int.tmod_eq_emod_of_nonneg:=@Int.tmod_eq_emod_of_nonneg
theorem Xr:type_of% @List.take_zero:=@List.take_zero
theorem Xs:type_of% @Go.World.putObj_heap_other:=@Go.World.putObj_heap_other
theorem Xt:type_of% @Go.run_typeAssert_lacksB:=@Go.run_typeAssert_lacksB
theorem Xu:type_of% @List.mem_filter:=@List.mem_filter
theorem Xv:type_of% @List.getElem_of_mem:=@List.getElem_of_mem
theorem Xw:type_of% @List.drop_eq_nil_of_le:=@List.drop_eq_nil_of_le
theorem Xx:type_of% @List.map_map:=@List.map_map
theorem Xy:type_of% @List.all_eq_true:=@List.all_eq_true
theorem Xz:type_of% @List.append_assoc:=@List.append_assoc
theorem X3:type_of% @List.mem_range:=@List.mem_range
theorem X4:type_of% @Go.wpQuiet_nil:=@Go.wpQuiet_nil
theorem X5:type_of% @Bool.and_eq_true:=@Bool.and_eq_true
theorem X6:type_of% @List.foldl_cons:=@List.foldl_cons
theorem X7:type_of% @Go.Addr.add_mid:=@Go.Addr.add_mid
theorem X8:type_of% @Array.size_setIfInBounds:=@Array.size_setIfInBounds
theorem X9:type_of% @Option.isSome_iff_exists:=@Option.isSome_iff_exists
theorem Va:type_of% @Go.World.cell?_setCells_out:=@Go.World.cell?_setCells_out
theorem Vb:type_of% @List.getElem?_eq_none:=@List.getElem?_eq_none
theorem Vc:type_of% @List.mem_append_right:=@List.mem_append_right
theorem Vd:type_of% @Go.Oper.wp_mono:=@Go.Oper.wp_mono
theorem Ve:type_of% @List.length_set:=@List.length_set
theorem Vf:type_of% @Nat.min_eq_left:=@Nat.min_eq_left
theorem Vg:type_of% @List.append_cancel_left:=@List.append_cancel_left
theorem Vh:type_of% @List.cons_append:=@List.cons_append
theorem Vi:type_of% @List.not_mem_nil:=@List.not_mem_nil
theorem Vj:type_of% @Go.wp_region_any:=@Go.wp_region_any
theorem Vk:type_of% @Int.ofNat_le:=@Int.ofNat_le
theorem Vl:type_of% @List.getElem_cons_zero:=@List.getElem_cons_zero
theorem Vm:type_of% @Array.getElem?_setIfInBounds:=@Array.getElem?_setIfInBounds
theorem Vn:type_of% @Go.Lib.toList_data:=@Go.Lib.toList_data
theorem Vo:type_of% @List.cons.injEq:=@List.cons.injEq
theorem Vp:type_of% @Option.map_some:=@Option.map_some
theorem Vq:type_of% @Nat.mod_eq_of_lt:=@Nat.mod_eq_of_lt
theorem Vr:type_of% @Go.World.frozen?_alloc_past:=@Go.World.frozen?_alloc_past
theorem Vs:type_of% @List.map_congr_left:=@List.map_congr_left
theorem Vt:type_of% @List.getElem_drop:=@List.getElem_drop
theorem Vu:type_of% @List.getElem_take:=@List.getElem_take
theorem Vv:type_of% @List.length_eq_zero_iff:=@List.length_eq_zero_iff
theorem Vw:type_of% @List.mem_of_getElem? :=@List.mem_of_getElem?
theorem Vx:type_of% @Nat.lt_of_le_of_lt:=@Nat.lt_of_le_of_lt
theorem Vy:type_of% @UInt8.toNat_lt:=@UInt8.toNat_lt
theorem Vz:type_of% @Go.World.alloc_heap_new:=@Go.World.alloc_heap_new
theorem V0:type_of% @Nat.add_zero:=@Nat.add_zero
theorem V1:type_of% @Nat.le_of_lt:=@Nat.le_of_lt
theorem V6:type_of% @List.extract_eq_take_drop:=@List.extract_eq_take_drop
theorem V7:type_of% @List.mem_map_of_mem:=@List.mem_map_of_mem
theorem V8:type_of% @Go.RowKit.Below.alloc:=@Go.RowKit.Below.alloc
theorem V9:type_of% @List.take_append_of_le_length:=@List.take_append_of_le_length
theorem Ja:type_of% @Go.u64_xor_nat:=@Go.u64_xor_nat
theorem Jb:type_of% @List.take_take:=@List.take_take
theorem Jc:type_of% @List.drop_left':=@List.drop_left'
theorem Jd:type_of% @List.take_left':=@List.take_left'
theorem Je:type_of% @Go.Sem.run_bind:=@Go.Sem.run_bind
theorem Jf:type_of% @Go.IntKind.wrap_u64:=@Go.IntKind.wrap_u64
theorem Jg:type_of% @Nat.pow_le_pow_right:=@Nat.pow_le_pow_right
theorem Jh:type_of% @ByteArray.data_extract:=@ByteArray.data_extract
theorem Ji:type_of% @List.drop_of_length_le:=@List.drop_of_length_le
theorem Jj:type_of% @List.take_add_one:=@List.take_add_one
theorem Jk:type_of% @Nat.pow_succ:=@Nat.pow_succ
theorem Jl:type_of% @Go.Value.iface.injEq:=@Go.Value.iface.injEq
theorem Jm:type_of% @Go.World.there_alloc:=@Go.World.there_alloc
theorem Jn:type_of% @Array.all_eq_true':=@Array.all_eq_true'
theorem Jo:type_of% @Nat.lt_succ_self:=@Nat.lt_succ_self
theorem Jp:type_of% @List.eq_of_mem_replicate:=@List.eq_of_mem_replicate
theorem Jq:type_of% @Nat.le_of_eq:=@Nat.le_of_eq
theorem Jr:type_of% @Nat.zero_mul:=@Nat.zero_mul
theorem Js:type_of% @Array.toList_extract:=@Array.toList_extract
theorem Jt:type_of% @List.drop_drop:=@List.drop_drop
theorem Ju:type_of% @Go.cell_of_row:=@Go.cell_of_row
theorem Jv:type_of% @Go.wp_load_mid:=@Go.wp_load_mid
theorem Jw:type_of% @decide_eq_true_eq:=@decide_eq_true_eq
theorem Jx:type_of% @of_decide_eq_true:=@of_decide_eq_true
theorem Jy:type_of% @List.append_nil:=@List.append_nil
theorem Jz:type_of% @List.toList_toArray:=@List.toList_toArray
theorem J3:type_of% @Nat.add_comm:=@Nat.add_comm
theorem J4:type_of% @Nat.sub_self:=@Nat.sub_self
theorem J5:type_of% @Go.wp_store_mid:=@Go.wp_store_mid
theorem J6:type_of% @List.map_drop:=@List.map_drop
theorem J7:type_of% @List.map_take:=@List.map_take
theorem J8:type_of% @List.filter_cons:=@List.filter_cons
theorem J9:type_of% @List.map_nil:=@List.map_nil
theorem Ka:type_of% @Nat.sub_zero:=@Nat.sub_zero
theorem Kb:type_of% @Go.RowKit.Below.drew:=@Go.RowKit.Below.drew
theorem Kd:type_of% @Go.frozen_of_row:=@Go.frozen_of_row
theorem nm{α:Sort _}(a:α):∃x,a=x:=⟨_,rfl⟩
variable{p q:Prop}
theorem A2(a:p)(b:q):p/\q:=⟨a,b⟩
variable{r:Prop}
theorem A3(a:p)(b:q)(c:r):p/\q/\r:=⟨a,b,c⟩
variable{s:Prop}
theorem A4(a:p)(b:q)(c:r)(d:s):p/\q/\r/\s:=⟨a,b,c,d⟩
theorem A5{t:Prop}(a:p)(b:q)(c:r)(d:s)(e:t):p/\q/\r/\s/\t:=⟨a,b,c,d,e⟩
theorem A6{t u:Prop}(a:p)(b:q)(c:r)(d:s)(e:t)(f:u):p/\q/\r/\s/\t/\u:=⟨a,b,c,d,e,f⟩
abbrev Kf(n:Nat):Value:=Ia .u8 (n:Int)
abbrev Km(n:Nat):Value:=Ia .u64 (n:Int)
variable{k:IntKind}
theorem ld{a b:Int}(h:a=b):Value.int k a=Ia k b:=by rw[h]
theorem bI{a b:Int}(h:a=b):Ending.returned (Ia k a)=na (Ia k b):=by rw[h]
def Row(enc:Nat->Value)(w:Fa)(b off:Nat)(d:Array Nat):Prop:=∀j,j<d.size->w.cell? ⟨b,off+j,none⟩=some (enc d[j]!)/\w.frozen? ⟨b,off+j,none⟩=false
structure Step(b lo hi:Nat)(w w':Fa):Prop where
 os:w'.os=w.os
 tape:w'.tape=w.tape
 output:w'.output=w.output
 size:w.heap.size<=w'.heap.size
 block:∀k,k<w.heap.size->k≠b->w'.heap[k]? =w.heap[k]?
 cell:∀o,(o<lo\/hi<=o)->w'.cell? ⟨b,o,none⟩=w.cell? ⟨b,o,none⟩
 cg:∀o,w'.frozen? ⟨b,o,none⟩=w.frozen? ⟨b,o,none⟩
theorem Step.refl(b lo hi:Nat)(w:Fa):Step b lo hi w w:=⟨rfl,rfl,rfl,Za _,λ_ _ _=>rfl,λ_ _=>rfl,λ_=>rfl⟩
theorem Step.trans{b lo hi:Nat}{w w1 w2:Fa}(h:Step b lo hi w w1)(k:Step b lo hi w1 w2):Step b lo hi w w2:=⟨k.os.trans h.os,k.tape.trans h.tape,k.output.trans h.output,Z2 h.size k.size,
  λi hi hb=>(k.block i (Zm hi h.size) hb).trans (h.block i hi hb),λo ho=>(k.cell o ho).trans (h.cell o ho),λo=>(k.cg o).trans (h.cg o)⟩
variable{b lo hi:Nat}{w w1:Fa}
theorem Step.yo{lo' hi':Nat}(h:Step b lo hi w w1)(h1:lo'<=lo)(h2:hi<=hi'):Step b lo' hi' w w1:=⟨h.os,h.tape,h.output,h.size,h.block,λo ho=>h.cell o (by omega),h.cg⟩
theorem Step.drew{b lo hi:Nat}{w w1:Fa}(h:Step b lo hi w w1):Step b lo hi w w1.drew:=⟨h.os,h.tape,h.output,h.size,h.block,h.cell,h.cg⟩
theorem Step.drewN{b lo hi:Nat}{w w1:Fa}(h:Step b lo hi w w1)(n:Nat):Step b lo hi w (w1.drewN n):=⟨h.os,h.tape,h.output,h.size,h.block,h.cell,h.cg⟩
theorem Step.alloc{b lo hi:Nat}{w w1:Fa}(h:Step b lo hi w w1)(hb:b<w.heap.size)(o:Obj):Step b lo hi w (w1.alloc o):=by have f:=h.size;exact⟨h.os,h.tape,h.output,by simp;omega,λk d c=>(Z0 w1 o k (by omega)).trans (h.block k d c),λa e=>(Z8 _ _ _ (by omega)).trans (h.cell a e),λa=>(Vr _ _ _ (by omega)).trans (h.cg a)⟩
theorem Step.Cd(h:Step b lo hi w w1)(hb:b<w.heap.size){p:Addr}(hp:w.heap.size<=p.block)(u:Value):Step b lo hi w (w1.setCell p u):=⟨h.os,h.tape,h.output,by simpa[World.setCell]using h.size,λk hk hkb=>(Zd w1 p u k (by omega)).trans (h.block k hk hkb),
  λo ho=>(Zc (Zd w1 p u b (by omega))).trans (h.cell o ho),λo=>(Yd (Zd w1 p u b (by omega))).trans (h.cg o)⟩
theorem Step.set(h:Step b lo hi w w1){o:Nat}(h1:lo<=o)(h2:o<hi)(u:Value):Step b lo hi w (w1.setCell ⟨b,o,none⟩ u):=⟨h.os,h.tape,h.output,by simpa[World.setCell]using h.size,λk hk hkb=>(Zd w1 _ u k (by simpa using hkb)).trans (h.block k hk hkb),
  λo' ho=>(Zp _ _ _ _ (λe=>by have e2:=Y5 Addr.off e;simp only at e2;omega)).trans (h.cell o' ho),λo'=>(Z7 _ _ _ _).trans (h.cg o')⟩
variable{enc:Nat->Value}{off:Nat}{d:Array Nat}
theorem Row.of_eq{w':Fa}(h:Row enc w b off d)(hb:w'.heap[b]? =w.heap[b]?):Row enc w' b off d:=λj hj=>⟨(Zc hb).trans (h j hj).1,(Yd hb).trans (h j hj).2⟩
theorem Row.drew{enc:Nat->Value}{w:Fa}{b off:Nat}{d:Array Nat}(h:Row enc w b off d):Row enc w.drew b off d:=h
theorem Row.drewN{enc:Nat->Value}{w:Fa}{b off:Nat}{d:Array Nat}(h:Row enc w b off d)(n:Nat):Row enc (w.drewN n) b off d:=h
theorem Row.alloc{enc:Nat->Value}{w:Fa}{b off:Nat}{d:Array Nat}(h:Row enc w b off d)(hb:b<w.heap.size)(o:Obj):Row enc (w.alloc o) b off d:=h.of_eq (Z0 w o b hb)
theorem Row.Cd(h:Row enc w b off d)(p:Addr)(hp:b≠p.block)(u:Value):Row enc (w.setCell p u) b off d:=h.of_eq (Zd w p u b hp)
theorem Row.Cc(h:Row enc w b off d){o:Nat}(ho:o<off\/off+d.size<=o)(u:Value):Row enc (w.setCell ⟨b,o,none⟩ u) b off d:=λj hj=>⟨(Zp _ _ _ _ (λe=>by have e2:=Y5 Addr.off e;simp only at e2;omega)).trans (h j hj).1,(Z7 _ _ _ _).trans (h j hj).2⟩
theorem ry(d:Array Nat)(j x:Nat)(hj:j<d.size):(d.set! j x)[j]! =x:=by simp[hj]
theorem dA(d:Array Nat)(i j x:Nat)(hij:i≠j):(d.set! i x)[j]! =d[j]! :=by simp only[getElem!_def,Array.set!_eq_setIfInBounds,Vm];rw[Zj hij]
theorem Row.set{enc:Nat->Value}{w:Fa}{b off:Nat}{d:Array Nat}(h:Row enc w b off d){j o:Nat}(ho:o=off+j)(hj:j<d.size)(x:Nat){v:Value}(hv:v=enc x):Row enc (w.setCell ⟨b,o,none⟩ v) b off (d.set! j x):=by
 subst hv ho;intro i g;have a:i<d.size:=by simpa using g
 refine⟨?_,(Z7 _ _ _ _).trans (h i a).2⟩;by_cases e:i=j;.subst e;rw[ry d i x a];exact Ys _ _ _ (h i a).1
 .rw[dA d j i x (λc=>e c.symm)];exact(Zp _ _ _ _ (λc=>by have f:=Y5 Addr.off c;simp only at f;omega)).trans (h i a).1
theorem Step.row(h:Step b lo hi w w1){b':Nat}(hr:Row enc w b' off d)(hb':b'<w.heap.size)(ho:b'≠b\/off+d.size<=lo\/hi<=off):Row enc w1 b' off d:=by
 by_cases e:b'=b;.subst e;intro j a;exact⟨(h.cell _ (by omega)).trans (hr j a).1,(h.cg _).trans (hr j a).2⟩
 .exact hr.of_eq (h.block b' hb' e)
theorem Step.below{B:Nat}{w0:Fa}(h0:Below B w0 w)(h:Step b lo hi w w1)(hb:B<=b)(hB:B<=w.heap.size):Below B w0 w1:=h0.trans ⟨h.os,h.tape,h.output,h.size,λk hk=>h.block k (by omega) (by omega)⟩
theorem Row.new(w:Fa)(d:Array Nat)(t:TypeId):Row enc (w.alloc (ma (d.map enc) t)) w.heap.size 0 d:=by intro j a;refine⟨?_,Xg _ _ _ _⟩;rw[Zf,Ze];simp[a]
end
section
def Nc(x k:Nat):Nat:=(x*2^k%18446744073709551616) ||| (x/2^(64-k))
variable{P:Program}
theorem qG(x k:Nat)(hk:k<=64)(w:Fa):Sem.run P (Op.shift .shl .u64 (x:Int) .u64 (k:Int)) w=.ok (Ia .u64 ((x*2^k%18446744073709551616:Nat):Int)) w:=by
 have h:¬((k:Int)<0):=by omega
 have a:min k 64=k:=by omega
 simp only[Op.shift,h,if_false,Int.toNat_natCast,IntKind.bits,a,Jf];show Result.ok _ _=_;congr 2
theorem yC(x k:Nat)(hk:k<=64)(w:Fa):Sem.run P (Op.shift .shr .u64 (x:Int) .u64 (k:Int)) w=.ok (Ia .u64 ((x/2^k:Nat):Int)) w:=by
 have h:¬((k:Int)<0):=by omega
 have a:min k 64=k:=by omega
 simp only[Op.shift,h,if_false,Int.toNat_natCast,IntKind.bits,a];show Result.ok _ _=_;congr 2;rw[Int.fdiv_eq_ediv_of_nonneg _ (by exact Int.le_of_lt (Int.pow_pos (by decide)))];push_cast;rfl
theorem wo(x k:Nat)(hx:x<18446744073709551616):Nc x k<18446744073709551616:=by have a:x*2^k%18446744073709551616<2^64:=Nat.mod_lt _ (by decide);have b:x/2^(64-k)<2^64:=Vx (Nat.div_le_self _ _) (by omega);exact Nat.or_lt_two_pow a b
theorem gG(x k:Nat)(hx:x<18446744073709551616):bits BinOp.or IntKind.u64 (IntKind.u64.wrap ((x:Int)*2^k)) ((x:Int)/2^(64-k))=((Nc x k:Nat):Int):=by
 have a:IntKind.u64.wrap ((x:Int)*2^k)=((x*2^k%18446744073709551616:Nat):Int):=by rw[Jf,Int.natCast_emod,Int.natCast_mul,Int.natCast_pow];rfl
 have b:((x:Int)/2^(64-k))=((x/2^(64-k):Nat):Int):=by push_cast;rfl
 rw[a,b,u64_or_nat _ _ (Nat.mod_lt _ (by decide)) (Vx (Nat.div_le_self _ _) hx)];rfl
theorem VI(x k:Nat)(w:Fa)(hx:x<18446744073709551616)(hk:k<64):Calls oa 196 #[Ia .u64 (x:Int),Ia ka (k:Int)] w λe w'=>e=na (Ia .u64 ((Nc x k:Nat):Int))/\w'=w:=by
 have c:bits BinOp.and IntKind.u64 (k:Int) 63=(k:Int):=by have :=u64_and_nat k 63 (by omega) (by omega);rw[show((63:Nat):Int)=63 from rfl]at this;rw[this,nat_mask6];congr 1;omega
 have b:=λw=>qG (P:=oa) x k (by omega) w;have a:=λw=>yC (P:=oa) x (64-k) (by omega) w;rw[show((64-k:Nat):Int)=64-(k:Int)by omega]at a;go_enter func196,ntmps196;go_wp2;go_ret;exact⟨bI (gG x k hx),rfl⟩
def N5(ub:Array Nat)(fr:Nat):Nat->Nat
 |0=>0
 |k+1=>N5 ub fr k ||| ub[fr+k]! *2^(8*k)%18446744073709551616
theorem fB(ub:Array Nat)(fr k:Nat):N5 ub fr k<18446744073709551616:=by
 induction k with
 |zero=>simp[N5]
 |succ k ih=>exact Nat.or_lt_two_pow (n:=64) ih (Nat.mod_lt _ (by decide))
theorem uN(ub:Array Nat)(fr k:Nat):bits BinOp.or IntKind.u64 ((N5 ub fr k:Nat):Int) (IntKind.u64.wrap (((ub[fr+k]! :Nat):Int)*2^(8*k)))=((N5 ub fr (k+1):Nat):Int):=by
 have a:IntKind.u64.wrap (((ub[fr+k]! :Nat):Int)*2^(8*k))=((ub[fr+k]! *2^(8*k)%18446744073709551616:Nat):Int):=by rw[Jf,Int.natCast_emod,Int.natCast_mul,Int.natCast_pow];rfl
 rw[a,u64_or_nat _ _ (fB _ _ _) (Nat.mod_lt _ (by decide))];rfl
theorem IP(ub:Array Nat)(fr:Nat)(w:Fa)(hs:ub.size=136)(hb:∀j:Nat,ub[j]! <256)(hf:fr+8<=136):Calls oa 165 #[Sa (ub.map Kf),Ia ka (fr:Int)] w λe w'=>e=na (Ia .u64 ((N5 ub fr 8:Nat):Int))/\w'=w.alloc (ma (ub.map Kf) 136):=by
 have b:∀j,j<136->(w.alloc (ma (ub.map Kf) 136)).cell? ⟨w.heap.size,j,none⟩=some (Kf ub[j]!):=by intro j m;simp[hs,m]
 go_enter func165,ntmps165;go_wp2;generalize hw1:w.alloc (ma (ub.map Kf) 136)=w1 at b⊢;have h:Hid (w.alloc (ma (ub.map Kf) 136)=w1):=hw1;clear hw1;go_loop [5,7] (λn i=>∃k:Nat,k<=8/\i=Ia ka k/\n=Ia .u64 ((N5 ub fr k:Nat):Int)) (λ_ i=>8-(intOf i).toNat)
 case atStart=>exact⟨0,Xa _,rfl,rfl⟩
 case round=>
  obtain⟨k,q,rfl,rfl⟩:=hrel;by_cases p:k<8
  .have l:=b (fr+k) (by omega);have o:=hb (fr+k);have a:=uN ub fr k;clear b hb;obtain⟨x,c⟩:=nm (ub[fr+k]!);obtain⟨y,d⟩:=nm (N5 ub fr k);rw[c]at l o a;rw[d]at a⊢;have g:=(show Hid _ from a);clear c d a;go_wp2;go_round;case rel=>exact⟨k+1,by omega,by go_num,ld g.o⟩
   case measure=>simp[intOf];omega
  .have f:k=8:=by omega
   subst f;go_wp2;go_ret;exact⟨rfl,h.symm⟩
def N7(L:Array Nat):Nat->Array Nat
 |0=>#[0,0,0,0,0]
 |k+1=>(N7 L k).set! (k/5) ((N7 L k)[k/5]! ^^^L[k]!)
theorem VA(L:Array Nat)(k:Nat):(N7 L k).size=5:=by
 induction k with
 |zero=>rfl
 |succ k ih=>simp[N7,ih]
def Kp(L:Array Nat):Prop:=∀j:Nat,L[j]! <18446744073709551616
variable{L:Array Nat}
theorem Mn(h:Kp L)(i x:Nat)(hx:x<18446744073709551616):Kp (L.set! i x):=by
 intro j;by_cases a:j<L.size
 .by_cases e:i=j;.subst e;rw[ry L i x a];exact hx
  .rw[dA L i j x e];exact h j
 .have :(L.set! i x)[j]! =0:=by simp[a]
  rw[this];decide
variable{b:Nat}
theorem oh{a:Nat}(ha:a<18446744073709551616)(hb:b<18446744073709551616):a^^^b<18446744073709551616:=Nat.xor_lt_two_pow (n:=64) ha hb
theorem TB(h:Kp L)(k:Nat):Kp (N7 L k):=by
 induction k with
 |zero=>
  intro j;show(#[0,0,0,0,0]:Array Nat)[j]! <_;match j with
  |0=>decide
  |1=>decide
  |2=>decide
  |3=>decide
  |4=>decide
  |j+5=>simp
 |succ k ih=>exact Mn ih _ _ (oh (ih _) (h _))
def Gc(c L:Array Nat):Nat->Array Nat
 |0=>L
 |k+1=>(Gc c L k).set! k ((Gc c L k)[k]! ^^^(c[(k/5+4)%5]! ^^^Nc c[(k/5+1)%5]! 1))
theorem dG(c L:Array Nat)(k:Nat):(Gc c L k).size=L.size:=by
 induction k with
 |zero=>rfl
 |succ k ih=>simp[Gc,ih]
theorem cH{c:Array Nat}(hc:Kp c)(h:Kp L)(k:Nat):Kp (Gc c L k):=by
 induction k with
 |zero=>exact h
 |succ k ih=>exact Mn ih _ _ (oh (ih _) (oh (hc _) (wo _ _ (hc _))))
def Ax(L:Array Nat):Array Nat:=Gc (N7 L 25) L 25
theorem KQ(x:Nat)(w:Fa)(hx:x<18446744073709551616):Calls oa 196 #[Ia .u64 (x:Int),Ia ka 1] w λe w'=>e=na (Ia .u64 ((Nc x 1:Nat):Int))/\w'=w:=VI x 1 w hx (by omega)
theorem QS(b off:Nat)(L:Array Nat)(w:Fa)(hL:L.size=25)(hS:Kp L)(hb:b<w.heap.size)(hR:Row Km w b off L):Calls oa 166 #[Qa (some ⟨b,off,none⟩)] w λe w'=>e=na (Wa #[])/\Step b off (off+25) w w'/\Row Km w' b off (Ax L):=by
 have W:Row Km (w.alloc (ma #[Ia .u64 0,Ia .u64 0,Ia .u64 0,Ia .u64 0,Ia .u64 0] 125)) w.heap.size 0 (N7 L 0):=by
  have e:Array.map Km #[0,0,0,0,0]=#[Ia .u64 0,Ia .u64 0,Ia .u64 0,Ia .u64 0,Ia .u64 0]:=by simp
  have h:=Row.new (enc:=Km) w #[0,0,0,0,0] 125;rw[e]at h;exact h
 go_enter func166,ntmps166;go_wp2;go_loopg [8] 5 (λg i wr=>∃x:Nat,x<=5/\g=5-x/\i=Ia ka x/\w.heap.size<wr.heap.size/\Step b off (off+25) w wr/\Row Km wr w.heap.size 0 (N7 L (5*x))/\Row Km wr b off L)
 case atStart=>exact⟨0,by omega,rfl,rfl,by simp,(Step.refl _ _ _ _).alloc hb _,W,hR.alloc hb _⟩
 case round=>
  obtain⟨x,Z,rfl,rfl,p,f,d,a⟩:=hrel;clear W hR;by_cases J:x<5
  .go_wp2;go_loopg [11] 5 (λg i wr=>∃y:Nat,y<=5/\g=5-y/\i=Ia ka y/\w.heap.size<wr.heap.size/\Step b off (off+25) w wr/\Row Km wr w.heap.size 0 (N7 L (5*x+y))/\Row Km wr b off L)
   case atStart=>exact⟨0,by omega,rfl,rfl,p,f,d,a⟩
   case round=>
    obtain⟨y,hy,rfl,rfl,p,f,d,a⟩:=hrel;by_cases P:y<5
    .obtain⟨E,R⟩:=d x (by rw[VA];omega);obtain⟨z,F⟩:=a (5*x+y) (by omega);rw[Zf]at E R;rw[show off+(5*x+y)=off+x*5+y by omega]at z F;have O:=TB hS (5*x+y) x;have B:=hS (5*x+y);have n:N7 L (5*x+(y+1))=(N7 L (5*x+y)).set! x ((N7 L (5*x+y))[x]! ^^^L[5*x+y]!):=by show N7 L (5*x+y+1)=_;simp only[N7];rw[show(5*x+y)/5=x by omega]
     have o:=Ja _ _ O B;obtain⟨u,s⟩:=nm ((N7 L (5*x+y))[x]!);obtain⟨v,r⟩:=nm (L[5*x+y]!);rw[s]at E n o;rw[r]at z n o;have q:Aside (Step b off (off+25) w wr/\Row Km wr w.heap.size 0 (N7 L (5*x+y))/\Row Km wr b off L/\N7 L (5*x+(y+1))=(N7 L (5*x+y)).set! x (u^^^v)/\bits .xor .u64 (u:Int) (v:Int)=((u^^^v:Nat):Int)/\Kp L):=⟨f,d,a,n,o,hS⟩;clear s r f d a n o O B hS;go_wp2;go_region;go_wp2;obtain⟨f,d,a,n,o,hS⟩:=q.o;go_roundg (5-(y+1))
     case measure=>omega
     case rel=>
      refine⟨y+1,by omega,rfl,by go_num,by simpa using p,(f.drew).Cd hb (by simp) _,?_,?_⟩;.rw[n];exact d.drew.set (by simp) (by rw[VA];omega) _ (ld o)
      .exact a.drew.Cd _ (by simp;omega) _
    .have D:y=5:=by omega
     subst D;have q:Aside (Step b off (off+25) w wr/\Row Km wr w.heap.size 0 (N7 L (5*x+5))/\Row Km wr b off L/\Kp L):=⟨f,d,a,hS⟩;clear f d a hS;go_wp2;obtain⟨f,d,a,hS⟩:=q.o;go_roundg (5-(x+1))
     case measure=>omega
     case rel=>exact⟨x+1,by omega,rfl,by go_num,p,f,d,a⟩
  .have C:x=5:=by omega
   rw[C]at d;have ac:(5:Int)<=(x:Int):=by omega
   clear J C;have q:Aside (Step b off (off+25) w wr/\Row Km wr w.heap.size 0 (N7 L (5*5))/\Row Km wr b off L/\Kp L):=⟨f,d,a,hS⟩;clear f d a hS;go_wp2;obtain⟨f,d,a,hS⟩:=q.o;obtain⟨c,H⟩:=nm (N7 L (5*5));have No:c.size=5:=by rw[<-H];exact VA _ _
   have m:Kp c:=by rw[<-H];exact TB hS _
   rw[H]at d;have Y:Hid (∀k,k=25->N7 L k=c):=λk S=>by subst S;exact H
   clear H;go_loopg [29] 5 (λg i wr=>∃x:Nat,x<=5/\g=5-x/\i=Ia ka x/\w.heap.size<wr.heap.size/\Step b off (off+25) w wr/\Row Km wr w.heap.size 0 c/\Row Km wr b off (Gc c L (5*x)))
   case atStart=>exact⟨0,by omega,rfl,rfl,p,f,d,a⟩
   case round=>
    obtain⟨l,ae,rfl,rfl,p,f,d,a⟩:=hrel;clear Z;by_cases J:l<5
    .obtain⟨E,R⟩:=d ((l+4)%5) (by omega);obtain⟨z,F⟩:=d ((l+1)%5) (by omega);rw[Zf]at E z;have N:=m ((l+4)%5);have G:=m ((l+1)%5);obtain⟨u,s⟩:=nm (c[(l+4)%5]!);obtain⟨v,r⟩:=nm (c[(l+1)%5]!);rw[s]at E N;rw[r]at z G;have q:Aside (Step b off (off+25) w wr/\Row Km wr w.heap.size 0 c/\Row Km wr b off (Gc c L (5*l))/\c[(l+4)%5]! =u/\c[(l+1)%5]! =v/\Kp L/\Kp c/\c.size=5):=⟨f,d,a,s,r,hS,m,No⟩;clear s r f d a hS m R F No N;go_wp2;go_quiet ((go_at_call 196;exact Calls.quiet_of_same (KQ _ _ G)))
     go_wp2;obtain⟨f,d,a,s,r,hS,m,No⟩:=q.o;clear E z G q;have t:=dG c L;have I:=λk=>cH m hS k;have Q:u^^^Nc v 1<18446744073709551616:=by rw[<-s,<-r];exact oh (m _) (wo _ _ (m _))
     have K:bits .xor .u64 (u:Int) ((Nc v 1:Nat):Int)=((u^^^Nc v 1:Nat):Int):=Ja _ _ (by rw[<-s];exact m _) (by rw[<-r];exact wo _ _ (m _));have V:Hid (bits .xor .u64 (u:Int) ((Nc v 1:Nat):Int)=((u^^^Nc v 1:Nat):Int)):=K;have M:Hid (u^^^Nc v 1<18446744073709551616):=Q;rw[K];have U:Hid (c[(l+4)%5]! ^^^Nc c[(l+1)%5]! 1=u^^^Nc v 1):=by show _=_;rw[s,r]
     clear K Q s r V;obtain⟨j,X⟩:=nm (u^^^Nc v 1);rw[X]at M U⊢;clear X;go_loopg [44] 5 (λg i wr=>∃y:Nat,y<=5/\g=5-y/\i=Ia ka y/\w.heap.size<wr.heap.size/\Step b off (off+25) w wr/\Row Km wr w.heap.size 0 c/\Row Km wr b off (Gc c L (5*l+y)))
     case atStart=>exact⟨0,by omega,rfl,rfl,p,f.drewN _,d.drewN _,a.drewN _⟩
     case round=>
      obtain⟨y,hy,rfl,rfl,p,f,d,a⟩:=hrel;by_cases P:y<5
      .obtain⟨z,F⟩:=a (5*l+y) (by rw[t];omega);rw[show off+(5*l+y)=off+l*5+y by omega]at z F;have B:=I (5*l+y) (5*l+y);have n:Gc c L (5*l+(y+1))=(Gc c L (5*l+y)).set! (5*l+y) ((Gc c L (5*l+y))[5*l+y]! ^^^j):=by show Gc c L (5*l+y+1)=_;simp only[Gc];rw[show(5*l+y)/5=l by omega,U.o]
       have o:=Ja _ _ B M.o;obtain⟨v,r⟩:=nm ((Gc c L (5*l+y))[5*l+y]!);rw[r]at z n o;have q:Aside (Step b off (off+25) w wr/\Row Km wr w.heap.size 0 c/\Row Km wr b off (Gc c L (5*l+y))/\Gc c L (5*l+(y+1))=(Gc c L (5*l+y)).set! (5*l+y) (v^^^j)/\bits .xor .u64 (v:Int) (j:Int)=((v^^^j:Nat):Int)/\Kp L/\Kp c/\∀k,(Gc c L k).size=L.size):=⟨f,d,a,n,o,hS,m,t⟩;clear r f d a n o B hS m No t I;go_wp2;go_region;go_wp2;obtain⟨f,d,a,n,o,hS,m,t⟩:=q.o;go_roundg (5-(y+1))
       case measure=>omega
       case rel=>refine⟨y+1,by omega,rfl,by go_num,by simpa using p,f.drew.set (by omega) (by omega) _,d.drew.Cd _ (by simp;omega) _,?_⟩;rw[n];exact a.drew.set (by omega) (by rw[t];omega) _ (ld o)
      .have D:y=5:=by omega
       rw[D]at a;have T:(5:Int)<=(y:Int):=by omega
       have q:Aside (Step b off (off+25) w wr/\Row Km wr w.heap.size 0 c/\Row Km wr b off (Gc c L (5*l+5))/\Kp L/\Kp c):=⟨f,d,a,hS,m⟩;clear f d a hS m No t I D P;go_wp2;obtain⟨f,d,a,hS,m⟩:=q.o;go_roundg (5-(l+1))
       case measure=>omega
       case rel=>exact⟨l+1,by omega,rfl,by go_num,p,f,d,a⟩
    .have C:l=5:=by omega
     rw[C]at a;have T:(5:Int)<=(l:Int):=by omega
     have q:Aside (Step b off (off+25) w wr/\∀k,k=25->Row Km wr b off (Gc c L k)):=⟨f,λk S=>by subst S;exact a⟩;clear f d a hS m No C J;go_wp2;go_end0;obtain⟨f,a⟩:=q.o;refine⟨rfl,f,?_⟩;have :=a 25 rfl;rw[<-Y.o 25 rfl]at this;exact this
variable{enc:Nat->Value}{w:Fa}{off:Nat}{d:Array Nat}
theorem Row.range(h:Row enc w b off d):w.rangeAt b off (d.toList.map enc):=by
 intro j v c;have a:j<d.size:=by have :=(Zw.1 c).1;simpa using this
 rw[(h j a).1];rw[<-c];simp[a]
theorem Row.Lf(d:Array Nat)(h:w.there b off d.size):Row enc (w.setCells b off (d.toList.map enc)) b off d:=by
 intro j a;have c:w.there b off (d.toList.map enc).length:=by simpa using h
 refine⟨Zn w b off _ c j _ ?_,by rw[World.frozen?_setCells];exact(h j a).2⟩;simp[a]
theorem Qf(b:Nat):∀(vs:List Value) (o:Nat) (w:Fa) (k:Nat),k≠b->(w.setCells b o vs).heap[k]? =w.heap[k]?
 | [],_,_,_,_=>rfl
 |v::r,o,w,k,h=>by rw[World.setCells,Qf b r (o+1) _ k h];exact Zd w _ v k h
theorem Og(b:Nat):∀(vs:List Value) (o:Nat) (w:Fa),(w.setCells b o vs).heap.size=w.heap.size/\(w.setCells b o vs).os=w.os/\(w.setCells b o vs).tape=w.tape/\(w.setCells b o vs).output=w.output
 | [],_,_=>⟨rfl,rfl,rfl,rfl⟩
 |v::r,o,w=>by rw[World.setCells];obtain⟨h1,h2,h3,h4⟩:=Og b r (o+1) (w.setCell ⟨b,o,none⟩ v);exact⟨h1.trans (by simp[World.setCell]),h2,h3,h4⟩
theorem Row.yc(h:Row enc w b off d)(b' o:Nat)(hb:b≠b')(vs:List Value):Row enc (w.setCells b' o vs) b off d:=h.of_eq (Qf b' vs o w b hb)
variable{w1:Fa}
theorem Step.yc{lo hi:Nat}(h:Step b lo hi w w1)(hb:b<w.heap.size){b' o:Nat}(hp:w.heap.size<=b')(vs:List Value):Step b lo hi w (w1.setCells b' o vs):=by obtain⟨d,e,f,g⟩:=Og b' vs o w1;exact⟨e.trans h.os,f.trans h.tape,g.trans h.output,by rw[d];exact h.size,λk i c=>(Qf b' vs o w1 k (by omega)).trans (h.block k i c),λa j=>(Zc (Qf b' vs o w1 b (by omega))).trans (h.cell a j),λa=>(Yd (Qf b' vs o w1 b (by omega))).trans (h.cg a)⟩
theorem Bi(d:Array Nat)(k:IntKind):∀v∈d.toList.map (λn:Nat=>Value.int k (n:Int)),v.oneCell'=true:=by intro v a;simp only[Xd]at a;obtain⟨n,_,rfl⟩:=a;rfl
attribute [local go_sem ↓] Go.wp_at_zero Go.wp_at_succ
def Fb:Array Nat:=#[0,36,3,41,18,1,44,10,45,2,62,6,43,15,61,28,55,25,21,56,27,20,39,8,14]
def cb:Array Nat:=#[1,32898,9223372036854808714,9223372039002292224,32907,2147483649,9223372039002292353,9223372036854808585,138,136,2147516425,2147483658,2147516555,9223372036854775947,9223372036854808713,9223372036854808579,9223372036854808578,9223372036854775936,32778,9223372039002259466,9223372039002292353,9223372036854808704,2147483649,9223372039002292232]
def qb(w:Fa):Prop:=(∀j,j<25->w.cell? ⟨15,j,none⟩=some (Ia ka ((Fb[j]! :Nat):Int)))/\(∀j,j<24->w.cell? ⟨13,j,none⟩=some (Ia .u64 ((cb[j]! :Nat):Int)))
theorem qb.ud(h:qb w)(h7:w1.heap[13]? =w.heap[13]?)(h9:w1.heap[15]? =w.heap[15]?):qb w1:=⟨λj hj=>(Zc h9).trans (h.1 j hj),λj hj=>(Zc h7).trans (h.2 j hj)⟩
theorem qb.step{lo hi:Nat}(h:qb w)(hs:Step b lo hi w w1)(hb:16<=b)(hw:16<=w.heap.size):qb w1:=h.ud (hs.block 13 (by omega) (by omega)) (hs.block 15 (by omega) (by omega))
theorem qb.below(h:qb w)(hs:Ba w w1)(hw:16<=w.heap.size):qb w1:=h.ud (hs.block 13 (by omega)) (hs.block 15 (by omega))
theorem zD(j:Nat):Fb[j]! <64:=by
 by_cases h:j<25
 .have :∀i:Fin 25,Fb[i.val]! <64:=by decide
  exact this ⟨j,h⟩
 .have :Fb[j]! =0:=by have a:Fb.size=25:=rfl;simp[a,h]
  rw[this];decide
def Ho(L:Array Nat):Nat->Array Nat
 |0=>L
 |k+1=>(Ho L k).set! (5*(k%5)+(2*(k/5)+3*(k%5))%5) (Nc L[k]! Fb[k]!)
theorem zv(L:Array Nat)(k:Nat):(Ho L k).size=L.size:=by
 induction k with
 |zero=>rfl
 |succ k ih=>simp[Ho,ih]
theorem JB(h:Kp L)(k:Nat):Kp (Ho L k):=by
 induction k with
 |zero=>exact h
 |succ k ih=>exact Mn ih _ _ (wo _ _ (h _))
theorem Mz:(oa.info? 126).map (·.size)=some 25:=by kernel_rfl
theorem Le(w:Fa)(C:Array Value)(t:TypeId)(n:Nat)(h:n=C.size):(w.alloc (ma C t)).there w.heap.size 0 n:=by
 intro j a;refine⟨?_,Xg _ _ _ _⟩;rw[Zf,Ze];have :j<C.size:=by omega
 simp[this]
theorem Ci(n:Int)(h1: -9223372036854775808<=n)(h2:n<9223372036854775808):IntKind.i64.wrap n=n:=by simp only[IntKind.wrap,IntKind.bits,IntKind.signed];simp;omega
theorem vJ(b off:Nat)(L:Array Nat)(w:Fa)(hL:L.size=25)(hS:Kp L)(hb:b<w.heap.size)(hR:Row Km w b off L)(hT:qb w)(hb10:16<=b):Calls oa 167 #[Qa (some ⟨b,off,none⟩)] w λe w'=>e=na (Wa #[])/\Step b off (off+25) w w'/\Row Km w' b off (Ho L 25):=by
 have s:=hR.range;have h:(oa.info? 126).map (·.size)=some (L.toList.map Km).length:=by rw[Mz];simp[hL]
 have o:(oa.info? 126).map (·.size)=some (L.toList.map Km).toArray.size:=by rw[Mz];simp[hL]
 have n:=Yp (Bi L .u64);have m:(L.toList.map Km).toArray.size=25:=by simp[hL]
 have P:Aside (qb w/\Row Km w b off L/\Kp L/\L.size=25):=⟨hT,hR,hS,hL⟩;clear hT hR hS hL;go_enter func167,ntmps167;go_wp2_with (first
  | (refine Zr rfl 126 _ rfl b off rfl (L.toList.map Km) _ s underlying126 rfl h ?_)
  | (refine Zs rfl 126 _ _ rfl w.heap.size 0 (L.toList.map Km).toArray rfl rfl (Le _ _ _ _ m) o n ?_))
 obtain⟨hT,hR,hS,hL⟩:=P.o;generalize hw0:w.alloc (ma _ 126)=w0;have F:Step b off (off+25) w w0:=by rw[<-hw0];exact(Step.refl _ _ _ _).alloc hb _
 have H:w.heap.size<w0.heap.size:=by rw[<-hw0];simp
 have J:w0.there w.heap.size 0 L.size:=by rw[<-hw0,hL];exact Le _ _ _ _ rfl
 have D:Row Km w0 b off L:=by rw[<-hw0];exact hR.alloc hb _
 clear hw0 hR s h o n m P;generalize hw1:w0.setCells w.heap.size 0 (L.toList.map Km)=w1;have G:Step b off (off+25) w w1:=by rw[<-hw1];exact F.yc hb (Za _) _
 have I:w.heap.size<w1.heap.size:=by rw[<-hw1,(Og _ _ _ _).1];exact H
 have p:Row Km w1 w.heap.size 0 L:=by rw[<-hw1];exact Row.Lf L J
 have E:Row Km w1 b off L:=by rw[<-hw1];exact D.yc _ _ (by omega) _
 have O:16<=w.heap.size:=by omega
 clear hw1 F H J D;go_loopg [9] 5 (λg i wr=>∃x:Nat,x<=5/\g=5-x/\i=Ia ka x/\w.heap.size<wr.heap.size/\Step b off (off+25) w wr/\Row Km wr w.heap.size 0 L/\Row Km wr b off (Ho L (5*x)))
 case atStart=>exact⟨0,by omega,rfl,rfl,I,G,p,E⟩
 case round=>
  obtain⟨x,hx,rfl,rfl,h,c,d,a⟩:=hrel;clear I G p E;by_cases S:x<5
  .have Q:Aside (Step b off (off+25) w wr/\Row Km wr w.heap.size 0 L/\Row Km wr b off (Ho L (5*x))/\qb w/\Kp L/\L.size=25):=⟨c,d,a,hT,hS,hL⟩;clear c d a hT hS hL;have hd:decide ((x:Int)<5)=true:=Z5 (by omega);go_wp2;obtain⟨c,d,a,hT,hS,hL⟩:=Q.o;go_loopg [12] 5 (λg i wr=>∃y:Nat,y<=5/\g=5-y/\i=Ia ka y/\w.heap.size<wr.heap.size/\Step b off (off+25) w wr/\Row Km wr w.heap.size 0 L/\Row Km wr b off (Ho L (5*x+y)))
   case atStart=>exact⟨0,by omega,rfl,rfl,h,c,d,a⟩
   case round=>
    obtain⟨y,hy,rfl,rfl,h,c,d,a⟩:=hrel;clear Q;by_cases T:y<5
    .have r:=zv L (5*x+y);obtain⟨K,f1⟩:=d (5*x+y) (by omega);obtain⟨R,f3⟩:=a (5*y+(2*x+3*y)%5) (by omega);have l:=(hT.step c hb10 O).1 (5*x+y) (by omega);have t:=zD (5*x+y);have q:=hS (5*x+y);rw[show 0+(5*x+y)=x*5+y by omega]at K f1;rw[show 5*x+y=x*5+y by omega]at l;rw[show off+(5*y+(2*x+3*y)%5)=off+y*5+(2*x+3*y)%5 by omega]at R f3;have f:Ho L (5*x+(y+1))=(Ho L (5*x+y)).set! (5*y+(2*x+3*y)%5) (Nc L[5*x+y]! Fb[5*x+y]!):=by show Ho L (5*x+y+1)=_;simp only[Ho];rw[show(5*x+y)/5=x by omega,show(5*x+y)%5=y by omega]
     rw[show x*5+y=5*x+y by omega]at l;obtain⟨u,U⟩:=nm (L[5*x+y]!);obtain⟨v,V⟩:=nm (Fb[5*x+y]!);obtain⟨z,W⟩:=nm ((Ho L (5*x+y))[5*y+(2*x+3*y)%5]!);rw[U]at K f q;rw[V]at l f t;rw[W]at R;rw[show 5*x+y=x*5+y by omega]at l;have j:Aside (Step b off (off+25) w wr/\Row Km wr w.heap.size 0 L/\Row Km wr b off (Ho L (5*x+y))/\Ho L (5*x+(y+1))=(Ho L (5*x+y)).set! (5*y+(2*x+3*y)%5) (Nc u v)/\(Ho L (5*x+y)).size=25):=⟨c,d,a,f,by omega⟩;clear U V W c d a f r hS hL hT;have Z:IntKind.i64.wrap (2*(x:Int))=2*(x:Int):=Ci _ (by omega) (by omega);have a2:IntKind.i64.wrap (3*(y:Int))=3*(y:Int):=Ci _ (by omega) (by omega);have a3:IntKind.i64.wrap (2*(x:Int)+3*(y:Int))=2*(x:Int)+3*(y:Int):=Ci _ (by omega) (by omega);have i0:(2*(x:Int)+3*(y:Int)).tmod 5=(2*(x:Int)+3*(y:Int))%5:=Xq (by omega);have i1:(0:Int)<=(2*(x:Int)+3*(y:Int))%5:=by omega
     have i2:(2*(x:Int)+3*(y:Int))%5<5:=by omega
     have i3:((2*(x:Int)+3*(y:Int))%5).toNat=(2*x+3*y)%5:=by omega
     go_wp2;have X:(⟨b,off+y*5+(2*x+3*y)%5,none⟩:Addr)≠⟨w.heap.size,x*5+y,none⟩:=λe=>by have N:=Y5 Addr.block e;simp only at N;omega
     have Y:(⟨b,off+y*5+(2*x+3*y)%5,none⟩:Addr)≠⟨15,x*5+y,none⟩:=λe=>by have N:=Y5 Addr.block e;simp only at N;omega
     have ag:(x:Int)<5:=by omega
     go_region_held3 (λw'=>w'.cell? ⟨w.heap.size,x*5+y,none⟩=some (Km u)/\w'.cell? ⟨15,x*5+y,none⟩=some (Ia ka (v:Int))) (first| (go_keep;done)|exact⟨(Zp _ _ _ _ X).trans K,(Zp _ _ _ _ Y).trans l⟩) (first| (go_at_call 196;refine(VI _ _ _ q t).mono ?_;rintro e w' ⟨rfl,rfl⟩))
     clear Z a2 a3 i0 i1 i2 i3 X Y;go_wp2;obtain⟨c,d,a,f,r⟩:=j.o;go_roundg (5-(y+1))
     case measure=>omega
     case rel=>refine⟨y+1,by omega,rfl,by go_num,by simpa using h,c.drew.set (by omega) (by omega) _,d.drew.Cd _ (by simp;omega) _,?_⟩;rw[f];exact a.drew.set (by omega) (by omega) _ rfl
    .have C:y=5:=by omega
     rw[C]at a;have ac:(5:Int)<=(y:Int):=by omega
     have j:Aside (Step b off (off+25) w wr/\Row Km wr w.heap.size 0 L/\Row Km wr b off (Ho L (5*x+5))):=⟨c,d,a⟩;clear c d a hS hT hL C T;go_wp2;obtain⟨c,d,a⟩:=j.o;go_roundg (5-(x+1))
     case measure=>omega
     case rel=>exact⟨x+1,by omega,rfl,by go_num,h,c,d,a⟩
  .have B:x=5:=by omega
   rw[B]at a;have ae:(5:Int)<=(x:Int):=by omega
   have j:Aside (Step b off (off+25) w wr/\∀k,k=25->Row Km wr b off (Ho L k)):=⟨c,λk hk=>by subst hk;exact a⟩;clear c d a hS hT hL B S;go_wp2;go_end0;obtain⟨c,a⟩:=j.o;exact⟨rfl,c,a 25 rfl⟩
end
end Go.Proofs.YtpfbdlnibdfcoaaGreatDoor
