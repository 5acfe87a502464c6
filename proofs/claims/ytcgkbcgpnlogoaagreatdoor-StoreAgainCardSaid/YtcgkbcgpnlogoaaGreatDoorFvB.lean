/- The types of a store's walks: how many cells, and what a new variable holds. -/
import Derived.Test.YtcgkbcgpnlogoaaGreatDoorFvA
import Derived.Test.YtcgkbcgpnlogoaaGreatDoorProg
import Derived.KernelRfl
namespace Go.Proofs.YtcgkbcgpnlogoaaGreatDoor.Fv
open Go.RowKit
instance rt_Slab : RowTy Tryz.prog 28 5 := ⟨⟨_, Tryz.underlying28, rfl⟩, by kernel_rfl⟩
instance rt_Head : RowTy Tryz.prog 30 3 := ⟨⟨_, Tryz.underlying30, rfl⟩, by kernel_rfl⟩
instance rt_Store : RowTy Tryz.prog 37 13 := ⟨⟨_, Tryz.underlying37, rfl⟩, by kernel_rfl⟩
instance rt_Clock : RowTy Tryz.prog 35 2 := ⟨⟨_, Tryz.underlying35, rfl⟩, by kernel_rfl⟩
instance rt_Frame : RowTy Tryz.prog 124 5 := ⟨⟨_, Tryz.underlying124, rfl⟩, by kernel_rfl⟩
instance rt_Page : RowTy Tryz.prog 133 2 := ⟨⟨_, Tryz.underlying133, rfl⟩, by kernel_rfl⟩
instance rt_Image : RowTy Tryz.prog 116 2 := ⟨⟨_, Tryz.underlying116, rfl⟩, by kernel_rfl⟩
instance ot_int : OneTy Tryz.prog 3 := ⟨⟨_, Tryz.underlying3, rfl⟩, by kernel_rfl⟩
instance ot_string : OneTy Tryz.prog 9 := ⟨⟨_, Tryz.underlying9, rfl⟩, by kernel_rfl⟩
instance ot_bool : OneTy Tryz.prog 4 := ⟨⟨_, Tryz.underlying4, rfl⟩, by kernel_rfl⟩
instance ot_Errno : OneTy Tryz.prog 38 := ⟨⟨_, Tryz.underlying38, rfl⟩, by kernel_rfl⟩
instance ot_Images : OneTy Tryz.prog 31 := ⟨⟨_, Tryz.underlying31, rfl⟩, by kernel_rfl⟩
instance ot_Pages : OneTy Tryz.prog 32 := ⟨⟨_, Tryz.underlying32, rfl⟩, by kernel_rfl⟩
instance zt_Slab : ZeroTy Tryz.prog 28 [.slice none 0 0, .slice none 0 0, .bool false, .int .i64 0, .int .i64 0] := ⟨⟨.agg #[.slice none 0 0, .slice none 0 0, .bool false, .int .i64 0, .int .i64 0], by kernel_rfl, rfl⟩⟩
instance zt_Head : ZeroTy Tryz.prog 30 [.int .i64 0, .int .i64 0, .int .i64 0] := ⟨⟨.agg #[.int .i64 0, .int .i64 0, .int .i64 0], by kernel_rfl, rfl⟩⟩
instance zt_Frame : ZeroTy Tryz.prog 124 [.int .i64 0, .int .i64 0, .bool false, .int .i64 0, .string ⟨#[]⟩] := ⟨⟨.agg #[.int .i64 0, .int .i64 0, .bool false, .int .i64 0, .string ⟨#[]⟩], by kernel_rfl, rfl⟩⟩
instance zt_Clock : ZeroTy Tryz.prog 35 [.slice none 0 0, .int .i64 0] := ⟨⟨.agg #[.slice none 0 0, .int .i64 0], by kernel_rfl, rfl⟩⟩
instance zt_Page : ZeroTy Tryz.prog 133 [.int .i64 0, .string ⟨#[]⟩] := ⟨⟨.agg #[.int .i64 0, .string ⟨#[]⟩], by kernel_rfl, rfl⟩⟩
instance zt_Image : ZeroTy Tryz.prog 116 [.int .i64 0, .int .i64 0] := ⟨⟨.agg #[.int .i64 0, .int .i64 0], by kernel_rfl, rfl⟩⟩
instance zt_Store : ZeroTy Tryz.prog 37 [.slice none 0 0, .slice none 0 0, .bool false, .int .i64 0, .int .i64 0, .int .i64 0, .int .i64 0, .int .i64 0, .int .i64 0, .slice none 0 0, .slice none 0 0, .slice none 0 0, .int .i64 0] := ⟨⟨.agg #[.slice none 0 0, .slice none 0 0, .bool false, .int .i64 0, .int .i64 0, .int .i64 0, .int .i64 0, .int .i64 0, .int .i64 0, .slice none 0 0, .slice none 0 0, .slice none 0 0, .int .i64 0], by kernel_rfl, rfl⟩⟩
end Go.Proofs.YtcgkbcgpnlogoaaGreatDoor.Fv
