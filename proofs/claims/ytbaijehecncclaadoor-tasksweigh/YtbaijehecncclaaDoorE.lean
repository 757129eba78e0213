/- Contract of named. -/
import Derived.Test.YtbaijehecncclaaDoorB0
namespace Go.Proofs.YtbaijehecncclaaDoor
open Go.RowKit

def tonName : ByteArray := { data := #[116, 111, 110] }
theorem named_ton (w : World) : Calls Tryd.prog 53 #[.string tonName] w fun e w' => e = .returned (.tuple #[.iface 96 (.pointer (some ⟨w.heap.size, 0, none⟩)), .bool true]) ∧ w' = w.alloc (.cells #[.bool false, .int .i64 0, .bool false, .int .i64 0] 100) := by
  unfold tonName
  go_enter Tryd.func53, Tryd.ntmps53
  go_wp2
  go_ret2
  exact ⟨rfl, rfl⟩

def tofName : ByteArray := { data := #[116, 111, 102] }
theorem named_tof (w : World) : Calls Tryd.prog 53 #[.string tofName] w fun e w' => e = .returned (.tuple #[.iface 101 (.pointer (some ⟨w.heap.size, 0, none⟩)), .bool true]) ∧ w' = w.alloc (.cells #[.bool false, .int .i64 0, .bool false, .int .i64 0] 102) := by
  unfold tofName
  go_enter Tryd.func53, Tryd.ntmps53
  go_wp2
  go_ret2
  exact ⟨rfl, rfl⟩

def tpName : ByteArray := { data := #[116, 112] }
theorem named_tp (w : World) : Calls Tryd.prog 53 #[.string tpName] w fun e w' => e = .returned (.tuple #[.iface 103 (.pointer (some ⟨w.heap.size, 0, none⟩)), .bool true]) ∧ w' = w.alloc (.cells #[.bool false, .int .i64 0, .bool false, .int .i64 0] 104) := by
  unfold tpName
  go_enter Tryd.func53, Tryd.ntmps53
  go_wp2
  go_ret2
  exact ⟨rfl, rfl⟩

def ctuName : ByteArray := { data := #[99, 116, 117] }
theorem named_ctu (w : World) : Calls Tryd.prog 53 #[.string ctuName] w fun e w' => e = .returned (.tuple #[.iface 105 (.pointer (some ⟨w.heap.size, 0, none⟩)), .bool true]) ∧ w' = w.alloc (.cells #[.bool false, .int .i64 0] 109) := by
  unfold ctuName
  go_enter Tryd.func53, Tryd.ntmps53
  go_wp2
  go_ret2
  exact ⟨rfl, rfl⟩

def ctdName : ByteArray := { data := #[99, 116, 100] }
theorem named_ctd (w : World) : Calls Tryd.prog 53 #[.string ctdName] w fun e w' => e = .returned (.tuple #[.iface 110 (.pointer (some ⟨w.heap.size, 0, none⟩)), .bool true]) ∧ w' = w.alloc (.cells #[.bool false, .int .i64 0] 111) := by
  unfold ctdName
  go_enter Tryd.func53, Tryd.ntmps53
  go_wp2
  go_ret2
  exact ⟨rfl, rfl⟩

def ctudName : ByteArray := { data := #[99, 116, 117, 100] }
theorem named_ctud (w : World) : Calls Tryd.prog 53 #[.string ctudName] w fun e w' => e = .returned (.tuple #[.iface 112 (.pointer (some ⟨w.heap.size, 0, none⟩)), .bool true]) ∧ w' = w.alloc (.cells #[.bool false, .bool false, .int .i64 0] 114) := by
  unfold ctudName
  go_enter Tryd.func53, Tryd.ntmps53
  go_wp2
  go_ret2
  exact ⟨rfl, rfl⟩

def rtrigName : ByteArray := { data := #[114, 95, 116, 114, 105, 103] }
theorem named_rtrig (w : World) : Calls Tryd.prog 53 #[.string rtrigName] w fun e w' => e = .returned (.tuple #[.iface 115 (.pointer (some ⟨w.heap.size, 0, none⟩)), .bool true]) ∧ w' = w.alloc (.cells #[.bool false] 119) := by
  unfold rtrigName
  go_enter Tryd.func53, Tryd.ntmps53
  go_wp2
  go_ret2
  exact ⟨rfl, rfl⟩

def ftrigName : ByteArray := { data := #[102, 95, 116, 114, 105, 103] }
theorem named_ftrig (w : World) : Calls Tryd.prog 53 #[.string ftrigName] w fun e w' => e = .returned (.tuple #[.iface 120 (.pointer (some ⟨w.heap.size, 0, none⟩)), .bool true]) ∧ w' = w.alloc (.cells #[.bool false] 121) := by
  unfold ftrigName
  go_enter Tryd.func53, Tryd.ntmps53
  go_wp2
  go_ret2
  exact ⟨rfl, rfl⟩

def srName : ByteArray := { data := #[115, 114] }
theorem named_sr (w : World) : Calls Tryd.prog 53 #[.string srName] w fun e w' => e = .returned (.tuple #[.iface 122 (.pointer (some ⟨w.heap.size, 0, none⟩)), .bool true]) ∧ w' = w.alloc (.cells #[.bool false] 126) := by
  unfold srName
  go_enter Tryd.func53, Tryd.ntmps53
  go_wp2
  go_ret2
  exact ⟨rfl, rfl⟩

def rsName : ByteArray := { data := #[114, 115] }
theorem named_rs (w : World) : Calls Tryd.prog 53 #[.string rsName] w fun e w' => e = .returned (.tuple #[.iface 127 (.pointer (some ⟨w.heap.size, 0, none⟩)), .bool true]) ∧ w' = w.alloc (.cells #[.bool false] 128) := by
  unfold rsName
  go_enter Tryd.func53, Tryd.ntmps53
  go_wp2
  go_ret2
  exact ⟨rfl, rfl⟩

def rampName : ByteArray := { data := #[114, 97, 109, 112] }
theorem named_ramp (w : World) : Calls Tryd.prog 53 #[.string rampName] w fun e w' => e = .returned (.tuple #[.iface 129 (.pointer (some ⟨w.heap.size, 0, none⟩)), .bool true]) ∧ w' = w.alloc (.cells #[.int .i64 0] 131) := by
  unfold rampName
  go_enter Tryd.func53, Tryd.ntmps53
  go_wp2
  go_ret2
  exact ⟨rfl, rfl⟩

def hystName : ByteArray := { data := #[104, 121, 115, 116] }
theorem named_hyst (w : World) : Calls Tryd.prog 53 #[.string hystName] w fun e w' => e = .returned (.tuple #[.iface 132 (.pointer (some ⟨w.heap.size, 0, none⟩)), .bool true]) ∧ w' = w.alloc (.cells #[.bool false] 133) := by
  unfold hystName
  go_enter Tryd.func53, Tryd.ntmps53
  go_wp2
  go_ret2
  exact ⟨rfl, rfl⟩

theorem named_else (s : ByteArray) (w : World) (h0 : (s.toList == [116, 111, 110]) = false) (h1 : (s.toList == [116, 111, 102]) = false) (h2 : (s.toList == [116, 112]) = false) (h3 : (s.toList == [99, 116, 117]) = false) (h4 : (s.toList == [99, 116, 100]) = false) (h5 : (s.toList == [99, 116, 117, 100]) = false) (h6 : (s.toList == [114, 95, 116, 114, 105, 103]) = false) (h7 : (s.toList == [102, 95, 116, 114, 105, 103]) = false) (h8 : (s.toList == [115, 114]) = false) (h9 : (s.toList == [114, 115]) = false) (h10 : (s.toList == [114, 97, 109, 112]) = false) (h11 : (s.toList == [104, 121, 115, 116]) = false) :
    Calls Tryd.prog 53 #[.string s] w fun e w' => e = .returned (.tuple #[.nilIface, .bool false]) ∧ w' = w := by
  go_enter Tryd.func53, Tryd.ntmps53
  go_wp2
  all_goals go_ret2
  all_goals exact ⟨rfl, rfl⟩

end Go.Proofs.YtbaijehecncclaaDoor
