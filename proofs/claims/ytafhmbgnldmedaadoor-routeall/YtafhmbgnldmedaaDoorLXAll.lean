/-
  What is proved here: the walk of cohortlaw09.RouteAll, over this program.
-/
import Derived.Test.YtafhmbgnldmedaaDoorPL
namespace Go.Proofs.YtafhmbgnldmedaaDoor
open Go.RowKit Go.Extern.Stop Go.Stop Go.Extern

theorem own_upd {L : List Pc} {fk tk k : List UInt8} {s : Int} {q : Pc} (h : OwnIs L k q) : OwnIs (L.map (updP fk tk s)) k (updP fk tk s q) := by
  obtain ⟨a, h1, h2⟩ := h
  refine ⟨a, ⟨by simpa using h1.1, fun j x hj hx => ?_, fun j x hj hx => ?_⟩, by rw [List.getElem?_map, h2]; rfl⟩
  · rw [List.getElem?_map, Option.map_eq_some_iff] at hx
    obtain ⟨y, hy, rfl⟩ := hx
    rw [updP_from]; exact h1.2.1 j y hj hy
  · rw [List.getElem?_map, Option.map_eq_some_iff] at hx
    obtain ⟨y, hy, rfl⟩ := hx
    rw [updP_from]; exact h1.2.2 j y hj hy
theorem all_step {L L' : List Pc} {key : List UInt8} {s a : Int} {x : Pc} (hf : FitP L) (h : MoveIs L [] [] s 0 a L') (hx : OwnIs L key x) : OwnIs L' key (x.1, s, x.2.2 + 1) := by
  obtain ⟨_, _, M1, M2, c1, c2, _, _, rfl⟩ := move_ok h
  obtain rfl := cut_one (cut_nil hf.lin) c1
  obtain rfl := cut_one (cut_nil hf.lin) c2
  have h1 := own_upd (fk := []) (tk := []) (s := s) hx
  unfold updP at h1
  rw [inR_iff.2 ⟨kLt_nil _, Or.inl rfl⟩, if_pos rfl] at h1
  exact h1
theorem small20 (t : UInt8) : ∃ T : Nat, T < 20 ∧ (t.toNat : Int) % 20 = (T : Int) := ⟨t.toNat % 20, Nat.mod_lt _ (by decide), by omega⟩
theorem small4 (t : UInt8) : ∃ T : Nat, T < 4 ∧ (t.toNat : Int) % 4 = (T : Int) := ⟨t.toNat % 4, Nat.mod_lt _ (by decide), by omega⟩
set_option maxRecDepth 100000 in
set_option maxHeartbeats 16000000 in
theorem rall_true (v : Value) (l : List Pc) (sh ti : UInt8) (key : List UInt8) (w : World) (hv : PcsIn w (· < w.heap.size) v l) (hn : l.length ≤ maxLen) (hg : ET w) (ht : PT w) :
    Calls Tryd.prog 7 #[v, .int .u8 sh.toNat, .int .u8 ti.toNat, .string ⟨key.toArray⟩] w fun e w' => e = .returned (.bool true) ∧ Below w.heap.size w w' := by
  have HV0 : Hid (Env w w) := ⟨Below.refl _ _, hg, ht⟩
  have HH := hideIt (head09_true w hg ht)
  have HA := hideIt (And.intro hv hn)
  obtain ⟨a, cap, rfl⟩ := hv.form
  clear hg ht hv hn
  go_enter Tryd.func7, Tryd.ntmps7
  go_wp2_with fail
  refine HH.out.mono ?_
  rintro e w1 ⟨rfl, hb1⟩
  have HV1 := hideIt (HV0.out.next hb1)
  have HP1 := hideIt (HA.out.1.kept (kept_next (w0 := w) hb1))
  clear hb1 HH
  go_wp2_with fail
  refine (rqOf_any w1 _ _ l HP1.out HA.out.2).mono ?_
  rintro e w2 ⟨n, k, hof, ⟨hn, er, rfl, ho, hb2⟩ | ⟨rfl, p, rfl, hnr⟩⟩
  case inl =>
    have HV2 := hideIt (HV1.out.next hb2)
    obtain ⟨ty, y, rfl⟩ := ho.iface
    clear hb2 ho
    go_wp2
    go_ret
    exact ⟨rfl, HV2.out.1⟩
  have hf : FitP l := by
    rcases of_fit hof with ⟨_, h⟩ | ⟨h, _⟩
    · exact h
    · exact absurd rfl h
  have HS2 := hideIt (Rs.new HV1.out hnr hf)
  clear hof hnr hf HP1 HV1
  obtain ⟨T, hT, hTe⟩ := small20 ti
  obtain ⟨S, hS, hSe⟩ := small4 sh
  have hti := ti.toNat_lt
  have hsh := sh.toNat_lt
  go_wp2_with fail
  refine (rqOwner_any w2 p _ l key HS2.out.rt HS2.out.fit.lin HS2.out.few).mono ?_
  rintro e w3 ⟨x0, rfl, hx, hb3⟩
  have HX := hideIt hx
  have HOK := hideIt (HS2.out.fit.ok (own_mem hx))
  unfold pcV
  obtain ⟨W3, hW, hwb, hr3⟩ := room_pc w3 x0
  have HS3 := hideIt ((HS2.out.next hb3).next hwb)
  have HN3 := hideIt ((HS2.out.next hb3).ne (Nat.le_refl _))
  have HR3 := hideIt hr3
  clear hx hb3 hwb hr3 HS2
  go_wp2
  rw [← hW]
  simp only [hSe]
  clear hW hSe hsh
  go_loopw [14, 15] (fun dv i wr => ∃ (k d : Nat) (lk : List Pc), k ≤ T ∧ d ≤ k ∧ i = .int .i64 k ∧ dv = .int .i64 d ∧ Hid (Rs w wr p lk) ∧ Hid (∃ x, OwnIs lk key x ∧ x.1 = x0.1 ∧ x.2.2 = x0.2.2 + d ∧ (0 < d → x.2.1 = S)) ∧ Hid (R3 wr w3.heap.size (.string ⟨x0.1.toArray⟩) (.int .i64 x0.2.1) (.int .i64 x0.2.2))) (fun _ i _ => T - (intOf i).toNat)
  case atStart => exact ⟨0, 0, l, Nat.zero_le _, Nat.le_refl _, rfl, rfl, HS3, hideIt ⟨x0, HX.out, rfl, by simp, fun h => by omega⟩, HR3⟩
  case round =>
    obtain ⟨k, d, lk, hk, hd, rfl, rfl, HS, HO, HR⟩ := hrel
    by_cases hlt : k < T
    · go_wp2_with fail
      refine (rqMove_any wr p _ lk [] [] S HS.out.rt HS.out.fit).mono ?_
      rintro e w4 ⟨n, k4, l', er, rfl, hm, her, hr, hg⟩
      have HS4 := hideIt (HS.out.move hr hg hm)
      have HR4 := hideIt (HR.out.grown hg HN3.out)
      have HMV := hideIt hm
      have her2 := move_err her
      clear hm her hr hg HR
      rcases her2 with ⟨rfl, rfl⟩ | ⟨hn, ty, y, rfl⟩
      · have HO4 : Hid (∃ x, OwnIs l' key x ∧ x.1 = x0.1 ∧ x.2.2 = x0.2.2 + ((d + 1 : Nat) : Int) ∧ (0 < d + 1 → x.2.1 = S)) := hideIt (by
          obtain ⟨x, h1, h2, h3, h4⟩ := HO.out
          exact ⟨_, all_step HS.out.fit HMV.out h1, h2, by show x.2.2 + 1 = _; omega, fun _ => rfl⟩)
        go_wp2
        go_roundw
        case rel => exact ⟨k + 1, d + 1, l', by omega, by omega, by go_num, by go_num, HS4, HO4, HR4⟩
        case measure => simp [intOf]; omega
      · obtain rfl := move_bad HMV.out hn
        clear hn
        go_wp2
        go_roundw
        case rel => exact ⟨k + 1, d, l', by omega, by omega, by go_num, rfl, HS4, HO, HR4⟩
        case measure => simp [intOf]; omega
    · go_wp2_with fail
      refine (rqOwner_any wr p _ lk key HS.out.rt HS.out.fit.lin HS.out.few).mono ?_
      rintro e w5 ⟨x, rfl, hx, hb5⟩
      obtain ⟨x2, h1, h2, h3, h4⟩ := HO.out
      obtain rfl := own_one h1 hx
      unfold pcV
      rw [h2, h3]
      obtain ⟨W5, hW, hwb, hr5⟩ := room_pc w5 (x0.1, x2.2.1, x0.2.2 + d)
      have HS5 := hideIt ((HS.out.next hb5).next hwb)
      have r0 := ((HR.out.next hb5).next hwb).1
      have r2 := ((HR.out.next hb5).next hwb).2.2
      have n0 := hr5.1
      have n1 := hr5.2.1
      have n2 := hr5.2.2
      have hwe : IntKind.i64.wrap (x0.2.2 + (d : Int)) = x0.2.2 + (d : Int) := by have := HOK.out.2.2.2; simp [IntKind.wrap, IntKind.bits, IntKind.signed]; omega
      dsimp only at hW
      clear hx hb5 hwb hr5 h1 h2 h3 HR HS
      by_cases hd0 : d = 0
      · subst hd0
        rw [show ((0 : Nat) : Int) = 0 from rfl, Int.add_zero] at hW n2 hwe ⊢
        subst hW
        go_wp2_with fail
        go_ret
        exact ⟨rfl, HS5.out.env.1⟩
      · have hxs := h4 (by omega)
        have hd1 : (0 : Int) < (d : Int) := by omega
        rw [hxs] at hW n1 ⊢
        subst hW
        go_wp2_with fail
        go_ret
        exact ⟨rfl, HS5.out.env.1⟩
end Go.Proofs.YtafhmbgnldmedaaDoor
