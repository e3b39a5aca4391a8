/-
  What is proved here: errors.Is at an Errno, over this program, at errors that package fault made.
-/
import Derived.Test.YtaageigehobdmaaDoorAs4
namespace Go.Proofs.YtaageigehobdmaaDoor
open Go.RowKit Go.Extern.Stop Go.Stop Go.Extern

/-! ### errors.Is -/
theorem comparableE (w : World) : ((ReflectliteType.method fun t => do Rtype.noPackHeld "Comparable" t; pure (.bool (← typeInfo t).comparable)) #[.agg #[.pointer (some ⟨4, 22, none⟩)]]).run Tryd.prog w = .ok (.bool true) w := by kernel_rfl
theorem callComparable (w : World) : (callFunc 81 #[.agg #[.pointer (some ⟨4, 22, none⟩)]]).run Tryd.prog w = .ok (.value (.bool true)) w := by
  rw [@run_callFunc_extern Tryd.prog 81 _ (ReflectliteType.method fun t => do Rtype.noPackHeld "Comparable" t; pure (.bool (← typeInfo t).comparable)) Tryd.func81 (by kernel_rfl) (by kernel_rfl) (by kernel_rfl) (by kernel_rfl), comparableE]
  rfl
theorem isCompE : (Tryd.prog.info? 22).map (·.comparable) = some true := by kernel_rfl
/-- two errors that are numbers of api's are alike just if the numbers are -/
theorem eql_errno (a b : Int) (w : World) : (binOp .eql 27 (.iface 22 (.int .i64 a)) (.iface 22 (.int .i64 b))).run Tryd.prog w = .ok (.bool (a == b)) w := by
  obtain ⟨i, hi, hc⟩ := Option.map_eq_some_iff.1 isCompE
  have h : ∀ d : Nat, (Op.equalIn (d + 2) 27 (.iface 22 (.int .i64 a)) (.iface 22 (.int .i64 b))).run Tryd.prog w = .ok (a == b) w := fun d => by
    simp [Op.equalIn, run_underlying Tryd.underlying27, run_underlying Tryd.underlying22, typeInfo, hi, hc]
  simp only [binOp]
  simp [Op.equal, Op.maxDepth, h 9998]

set_option maxHeartbeats 4000000 in
/-- errors.is with a number for its target: is it the chain's own? -/
theorem is_errno (B : Nat) (l : List (ByteArray × Int)) (v : Value) (n f : Int) (w : World) (hc : Chain B w n v l) :
    Calls Tryd.prog 38 #[v, .iface 22 (.int .i64 f), .bool true] w fun ev w' => ev = .returned (.bool (n == f)) ∧ w' = w := by
  have hty := fun (x : Value) => run_eql_iface_types (P := Tryd.prog) 43 22 x (.int .i64 f) Tryd.underlying27 (by decide) w
  have hee := eql_errno n f w
  have nW := noIsW
  have nE := noIsE
  have mU := methodUnwrap
  have hU := hasUnwrapW
  have nU := noUnwrapE
  have nV := noUnwrapsE
  obtain ⟨bf, hbf⟩ : ∃ b, b = (n == f) := ⟨_, rfl⟩
  rw [← hbf] at hee ⊢
  clear hbf
  go_enter Tryd.func38, Tryd.ntmps38
  go_wp2
  go_loopg [0] l.length (fun k x wr => ∃ l', l'.length = k ∧ wr = w ∧ Chain B w n x l')
  case atStart => exact ⟨l, rfl, rfl, hc⟩
  case round =>
    obtain ⟨l', hl, rfl, hch⟩ := hrel
    clear hc
    rcases hch.parts with ⟨rfl, rfl⟩ | ⟨b, s, k, x, l2, rfl, rfl, h1, h2, h3, h4, h5⟩
    · clear hch
      cases bf
      all_goals
        go_wp2
        go_ret
        exact ⟨rfl, rfl⟩
    · clear hch
      obtain ⟨ty, y, rfl⟩ := h5.iface
      have HC := hideIt h5
      clear h5 h2 h3
      go_wp2_with (first | (go_at_call 74; refine (unwrap_any b _ _ h4).mono ?_; rintro e w' ⟨rfl, rfl⟩))
      go_roundg l2.length
      case rel => exact ⟨l2, rfl, rfl, HC.out⟩
      case measure => simp at hl; omega

set_option maxHeartbeats 4000000 in
theorem Is_errno (B : Nat) (l : List (ByteArray × Int)) (v : Value) (n f : Int) (w : World) (hc : Chain B w n v l) :
    Calls Tryd.prog 27 #[v, .iface 22 (.int .i64 f)] w fun ev w' => ev = .returned (.bool (n == f)) ∧ w' = w := by
  have h37 := @run_callFunc_extern Tryd.prog 37 _ ReflectliteType.typeOf Tryd.func37 (by kernel_rfl) (by kernel_rfl) (by kernel_rfl) (by kernel_rfl)
  have h81 := callComparable
  have tE := typeOfE
  have mC := methodComparable
  have HA := hideIt (is_errno B l v n f w hc)
  obtain ⟨ty, y, rfl⟩ := hc.iface
  clear hc
  go_enter Tryd.func27, Tryd.ntmps27
  go_wp2_with (go_at_call 38; refine HA.out.mono ?_; rintro e w' ⟨rfl, rfl⟩)
  go_ret
  exact ⟨rfl, rfl⟩

set_option maxHeartbeats 4000000 in
theorem Is_nil (f : Int) (w : World) :
    Calls Tryd.prog 27 #[.nilIface, .iface 22 (.int .i64 f)] w fun ev w' => ev = .returned (.bool false) ∧ w' = w := by
  have hn := run_eql_iface_nil_left (P := Tryd.prog) w 22 (.int .i64 f) Tryd.underlying27
  go_enter Tryd.func27, Tryd.ntmps27
  go_wp2
  go_ret
  exact ⟨rfl, rfl⟩
end Go.Proofs.YtaageigehobdmaaDoor
