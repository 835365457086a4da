import Derived.Test.YtpfbdlnibdfcoaaGreatDoorPvNibG
namespace Go.Proofs.YtpfbdlnibdfcoaaGreatDoor
open Go.RowKit Tryz
open Value renaming int->Ia,string->La,slice->Ma,bool->Oa,pointer->Qa,agg->Sa,tuple->Wa,iface->ca,nilIface->da
open IntKind renaming i64->ka
open Obj renaming cells->ma
open Ending renaming returned->na
open Tryz renaming prog->oa
set_option maxRecDepth 100000
set_option maxHeartbeats 0
theorem Qn(w:Fa)(z:Nat):(convert 116 9 (Ma (some ⟨w.heap.size,0,none⟩) 1 1)).run oa (w.alloc (ma #[Ia .u8 (z:Int)] 5))=.ok (La (Kg [z])) (w.alloc (ma #[Ia .u8 (z:Int)] 5)):=nj _ 116 9 5 underlying116 underlying5 underlying9 (Own.Ff w 5 [z] (by unfold maxLen;simp))
theorem tM(a b:List Nat):Kg a++Kg b=Kg (a++b):=by apply ByteArray.ext;simp[Kg,ByteArray.data_append]
theorem wi(a b:List Nat)(h:a.length+b.length<=140737488355328)(W:Fa):Sem.run oa (Op.stringOp .add (Kg a) (Kg b)) W=.ok (La (Kg (a++b))) W:=by rw[<-tM];exact run_string_add_sum W _ _ (by rw[me,me];omega)
end Go.Proofs.YtpfbdlnibdfcoaaGreatDoor
