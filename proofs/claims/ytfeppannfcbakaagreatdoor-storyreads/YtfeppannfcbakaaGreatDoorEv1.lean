import Derived.Test.YtfeppannfcbakaaGreatDoorJ1
import Derived.Deep.RegionHeld3
namespace Go.Proofs.YtfeppannfcbakaaGreatDoor
open Go.RowKit
set_option linter.unusedVariables false
set_option maxRecDepth 100000
set_option maxHeartbeats 6400000
inductive Th where
 | int (o : Nat) | cod (o : Nat) | fre (o : Nat) | sta (o : Nat) | dat (o : Nat) | op (o : Nat) | res (o : Nat) | look (o : Nat) | sht (o : Nat)
def thV (P : Nat) : Th → Value
 | .int o => .iface 97 (.pointer (some ⟨P, o, none⟩))
 | .cod o => .iface 98 (.pointer (some ⟨P, o, none⟩))
 | .fre o => .iface 101 (.pointer (some ⟨P, o, none⟩))
 | .sta o => .iface 140 (.agg #[.pointer (some ⟨P, o, none⟩)])
 | .dat o => .iface 141 (.pointer (some ⟨P, o, none⟩))
 | .op o => .iface 99 (.pointer (some ⟨P, o, none⟩))
 | .res o => .iface 100 (.pointer (some ⟨P, o, none⟩))
 | .look o => .iface 102 (.pointer (some ⟨P, o, none⟩))
 | .sht o => .iface 103 (.pointer (some ⟨P, o, none⟩))
def lookL (o : Nat) : List Th := [.int o, .sta (o + 1), .int (o + 2), .int (o + 3), .int (o + 4), .int (o + 5), .int (o + 6), .int (o + 7)]
def shtL (o : Nat) : List Th := [.int o, .int (o + 1), .dat (o + 2)]
def kindT (k : Int) : List Th :=
 if k = 1 then [.int 1, .cod 5] else if k = 2 then [.int 1, .int 2, .op 7] else if k = 3 then [.int 1, .int 2, .int 4, .op 7] else if k = 4 then [.int 1, .int 2, .int 3, .res 19] else if k = 5 then [.int 1, .int 2, .int 3, .int 4, .res 19] else if k = 6 then [.int 1, .int 3, .fre 6, .int 12, .int 13, .op 14, .res 19] else if k = 7 ∨ k = 10 then [.int 1, .look 22] else if k = 11 then [.int 1, .sht 30] else [.int 1]
def ThPost (P : Nat) (l : List Th) (cs : List Comp) (e : Ending) (w' : World) : Prop := ∃ b, e = .returned (.slice (some ⟨b, 0, none⟩) l.length l.length) ∧ All (blkC b (l.map (thV P)) 20 :: cs) w'
theorem sheetT {P o : Nat} {cs : List Comp} {w : World} (A : All cs w) : Calls Tryz.prog 85 #[.pointer (some ⟨P, o, none⟩)] w (ThPost P (shtL o) cs) := by
 have HA := hid A
 clear A
 go_enter Tryz.func85, Tryz.ntmps85
 go_upto_region 1 with fail
 refine wp_region_held_drew (S := (fun _ => True)) (by kernel_rfl) trivial (fun hHeld => ?_)
 have KD := hid HA.out.drew
 generalize World.drew _ = wd at *
 refine wpAnyH_take (i := 0) (oi := _) (v := ?_) rfl (by kernel_rfl) (by kernel_rfl) (by kernel_rfl) (fun _ _ _ h => h) (Or.inl ⟨by rfl, ?_⟩) hHeld ?_
 rotate_left
 · intro W hSw
   (try dsimp only at hSw)
   go_simp
   (try with_reducible rfl)
 (try simp only [puS])
 refine wpAnyH_take (i := 1) (oi := _) (v := ?_) rfl (by kernel_rfl) (by kernel_rfl) (by kernel_rfl) (fun _ _ _ h => h) (Or.inl ⟨by rfl, ?_⟩) hHeld ?_
 rotate_left
 · intro W hSw
   (try dsimp only at hSw)
   go_simp
   (try with_reducible rfl)
 (try simp only [puS])
 refine wpAnyH_take (i := 2) (oi := _) (v := ?_) rfl (by kernel_rfl) (by kernel_rfl) (by kernel_rfl) (fun _ _ _ h => h) (Or.inl ⟨by rfl, ?_⟩) hHeld ?_
 rotate_left
 · intro W hSw
   (try dsimp only at hSw)
   go_simp
   (try with_reducible rfl)
 (try simp only [puS])
 refine wpAnyH_take (i := 3) (oi := _) (v := ?_) rfl (by kernel_rfl) (by kernel_rfl) (by kernel_rfl) (fun _ _ _ h => h) (Or.inl ⟨by rfl, ?_⟩) hHeld ?_
 rotate_left
 · intro W hSw
   (try dsimp only at hSw)
   go_simp
   (try with_reducible rfl)
 (try simp only [puS])
 refine wpAnyH_take (i := 4) (oi := _) (v := ?_) rfl (by kernel_rfl) (by kernel_rfl) (by kernel_rfl) (fun _ _ _ h => h) (Or.inl ⟨by rfl, ?_⟩) hHeld ?_
 rotate_left
 · intro W hSw
   (try dsimp only at hSw)
   go_simp
   (try with_reducible rfl)
 (try simp only [puS])
 refine wpAnyH_take (i := 5) (oi := _) (v := ?_) rfl (by kernel_rfl) (by kernel_rfl) (by kernel_rfl) (fun _ _ _ h => h) (Or.inl ⟨by rfl, ?_⟩) hHeld ?_
 rotate_left
 · intro W hSw
   (try dsimp only at hSw)
   go_simp
   (try with_reducible rfl)
 (try simp only [puS])
 refine wpAnyH_take (i := 6) (oi := _) (v := ?_) rfl (by kernel_rfl) (by kernel_rfl) (by kernel_rfl) (fun _ _ _ h => h) (Or.inl ⟨by rfl, ?_⟩) hHeld ?_
 rotate_left
 · intro W hSw
   (try dsimp only at hSw)
   go_simp
   (try with_reducible rfl)
 (try simp only [puS])
 refine wpAnyH_take (i := 7) (oi := _) (v := ?_) rfl (by kernel_rfl) (by kernel_rfl) (by kernel_rfl) (fun _ _ _ h => h) (Or.inl ⟨by rfl, ?_⟩) hHeld ?_
 rotate_left
 · intro W hSw
   (try dsimp only at hSw)
   go_simp
   (try with_reducible rfl)
 (try simp only [puS])
 refine wpAnyH_take (i := 8) (oi := _) (v := ?_) rfl (by kernel_rfl) (by kernel_rfl) (by kernel_rfl) (fun _ _ _ h => h) (Or.inl ⟨by rfl, ?_⟩) hHeld ?_
 rotate_left
 · intro W hSw
   (try dsimp only at hSw)
   go_simp
   (try with_reducible rfl)
 (try simp only [puS])
 refine wpAnyH_take (i := 9) (oi := _) (v := ?_) rfl (by kernel_rfl) (by kernel_rfl) (by kernel_rfl) (fun _ _ _ h => h) (Or.inl ⟨by rfl, ?_⟩) hHeld ?_
 rotate_left
 · intro W hSw
   (try dsimp only at hSw)
   go_simp
   (try with_reducible rfl)
 (try simp only [puS])
 refine wpAnyH_take (i := 10) (oi := _) (v := ?_) rfl (by kernel_rfl) (by kernel_rfl) (by kernel_rfl) (fun _ _ _ h => h) (Or.inl ⟨by rfl, ?_⟩) hHeld ?_
 rotate_left
 · intro W hSw
   (try dsimp only at hSw)
   go_simp
   (try with_reducible rfl)
 (try simp only [puS])
 refine wpAnyH_take (i := 11) (oi := _) (v := ?_) rfl (by kernel_rfl) (by kernel_rfl) (by kernel_rfl) (fun _ _ _ h => h) (Or.inl ⟨by rfl, ?_⟩) hHeld ?_
 rotate_left
 · intro W hSw
   (try dsimp only at hSw)
   go_simp
   (try with_reducible rfl)
 (try simp only [puS])
 refine wpAnyH_ready (rs := [12]) (by kernel_rfl) (by simp) ?_
 refine AllReadyH.cons (o := _) rfl (fun K hK => ?_) AllReadyH.nil
 go_simp
 skip
 refine hK.out _ _ trivial (fun hHeld => ?_)
 clear hK K
 (try simp only [puS])
 refine wpAnyH_take (i := 13) (oi := { dst := some 2, op := Go.Op.assign (.tmp 15), type := 65, pos := "things.go:64", after := #[{ on := 12, ground := Go.Ground.data }, { on := 0, ground := Go.Ground.phase }, { on := 1, ground := Go.Ground.phase }, { on := 2, ground := Go.Ground.phase }, { on := 3, ground := Go.Ground.phase }, { on := 4, ground := Go.Ground.phase }, { on := 5, ground := Go.Ground.phase }, { on := 6, ground := Go.Ground.phase }, { on := 7, ground := Go.Ground.phase }, { on := 8, ground := Go.Ground.phase }, { on := 9, ground := Go.Ground.phase }, { on := 10, ground := Go.Ground.phase }, { on := 11, ground := Go.Ground.phase }, { on := 12, ground := Go.Ground.phase }], guard := Option.none }) (v := ?_) rfl (by kernel_rfl) (by kernel_rfl) (by kernel_rfl) (fun _ _ _ h => h) (Or.inl ⟨by rfl, ?_⟩) hHeld ?_
 rotate_left
 · intro W hSw
   (try dsimp only at hSw)
   go_simp
   (try with_reducible rfl)
 (try simp only [puS])
 refine wpAnyH_done (by kernel_rfl) ?_ _
 clear hHeld
 go_wp2
 go_ret
 exact ⟨_, rfl, KD.out.addBlk _ _⟩
theorem lookT {P o : Nat} {cs : List Comp} {w : World} (A : All cs w) : Calls Tryz.prog 84 #[.pointer (some ⟨P, o, none⟩)] w (ThPost P (lookL o) cs) := by
 have HA := hid A
 clear A
 go_enter Tryz.func84, Tryz.ntmps84
 go_upto_region 1 with fail
 refine wp_region_held_drew (S := (fun _ => True)) (by kernel_rfl) trivial (fun hHeld => ?_)
 have KD := hid HA.out.drew
 generalize World.drew _ = wd at *
 refine wpAnyH_take (i := 0) (oi := _) (v := ?_) rfl (by kernel_rfl) (by kernel_rfl) (by kernel_rfl) (fun _ _ _ h => h) (Or.inl ⟨by rfl, ?_⟩) hHeld ?_
 rotate_left
 · intro W hSw
   (try dsimp only at hSw)
   go_simp
   (try with_reducible rfl)
 (try simp only [puS])
 refine wpAnyH_take (i := 1) (oi := _) (v := ?_) rfl (by kernel_rfl) (by kernel_rfl) (by kernel_rfl) (fun _ _ _ h => h) (Or.inl ⟨by rfl, ?_⟩) hHeld ?_
 rotate_left
 · intro W hSw
   (try dsimp only at hSw)
   go_simp
   (try with_reducible rfl)
 (try simp only [puS])
 refine wpAnyH_take (i := 2) (oi := _) (v := ?_) rfl (by kernel_rfl) (by kernel_rfl) (by kernel_rfl) (fun _ _ _ h => h) (Or.inl ⟨by rfl, ?_⟩) hHeld ?_
 rotate_left
 · intro W hSw
   (try dsimp only at hSw)
   go_simp
   (try with_reducible rfl)
 (try simp only [puS])
 refine wpAnyH_take (i := 3) (oi := _) (v := ?_) rfl (by kernel_rfl) (by kernel_rfl) (by kernel_rfl) (fun _ _ _ h => h) (Or.inl ⟨by rfl, ?_⟩) hHeld ?_
 rotate_left
 · intro W hSw
   (try dsimp only at hSw)
   go_simp
   (try with_reducible rfl)
 (try simp only [puS])
 refine wpAnyH_take (i := 4) (oi := _) (v := ?_) rfl (by kernel_rfl) (by kernel_rfl) (by kernel_rfl) (fun _ _ _ h => h) (Or.inl ⟨by rfl, ?_⟩) hHeld ?_
 rotate_left
 · intro W hSw
   (try dsimp only at hSw)
   go_simp
   (try with_reducible rfl)
 (try simp only [puS])
 refine wpAnyH_take (i := 5) (oi := _) (v := ?_) rfl (by kernel_rfl) (by kernel_rfl) (by kernel_rfl) (fun _ _ _ h => h) (Or.inl ⟨by rfl, ?_⟩) hHeld ?_
 rotate_left
 · intro W hSw
   (try dsimp only at hSw)
   go_simp
   (try with_reducible rfl)
 (try simp only [puS])
 refine wpAnyH_take (i := 6) (oi := _) (v := ?_) rfl (by kernel_rfl) (by kernel_rfl) (by kernel_rfl) (fun _ _ _ h => h) (Or.inl ⟨by rfl, ?_⟩) hHeld ?_
 rotate_left
 · intro W hSw
   (try dsimp only at hSw)
   go_simp
   (try with_reducible rfl)
 (try simp only [puS])
 refine wpAnyH_take (i := 7) (oi := _) (v := ?_) rfl (by kernel_rfl) (by kernel_rfl) (by kernel_rfl) (fun _ _ _ h => h) (Or.inl ⟨by rfl, ?_⟩) hHeld ?_
 rotate_left
 · intro W hSw
   (try dsimp only at hSw)
   go_simp
   (try with_reducible rfl)
 (try simp only [puS])
 refine wpAnyH_take (i := 8) (oi := _) (v := ?_) rfl (by kernel_rfl) (by kernel_rfl) (by kernel_rfl) (fun _ _ _ h => h) (Or.inl ⟨by rfl, ?_⟩) hHeld ?_
 rotate_left
 · intro W hSw
   (try dsimp only at hSw)
   go_simp
   (try with_reducible rfl)
 (try simp only [puS])
 refine wpAnyH_take (i := 9) (oi := _) (v := ?_) rfl (by kernel_rfl) (by kernel_rfl) (by kernel_rfl) (fun _ _ _ h => h) (Or.inl ⟨by rfl, ?_⟩) hHeld ?_
 rotate_left
 · intro W hSw
   (try dsimp only at hSw)
   go_simp
   (try with_reducible rfl)
 (try simp only [puS])
 refine wpAnyH_take (i := 10) (oi := _) (v := ?_) rfl (by kernel_rfl) (by kernel_rfl) (by kernel_rfl) (fun _ _ _ h => h) (Or.inl ⟨by rfl, ?_⟩) hHeld ?_
 rotate_left
 · intro W hSw
   (try dsimp only at hSw)
   go_simp
   (try with_reducible rfl)
 (try simp only [puS])
 refine wpAnyH_take (i := 11) (oi := _) (v := ?_) rfl (by kernel_rfl) (by kernel_rfl) (by kernel_rfl) (fun _ _ _ h => h) (Or.inl ⟨by rfl, ?_⟩) hHeld ?_
 rotate_left
 · intro W hSw
   (try dsimp only at hSw)
   go_simp
   (try with_reducible rfl)
 (try simp only [puS])
 refine wpAnyH_take (i := 12) (oi := _) (v := ?_) rfl (by kernel_rfl) (by kernel_rfl) (by kernel_rfl) (fun _ _ _ h => h) (Or.inl ⟨by rfl, ?_⟩) hHeld ?_
 rotate_left
 · intro W hSw
   (try dsimp only at hSw)
   go_simp
   (try with_reducible rfl)
 (try simp only [puS])
 refine wpAnyH_take (i := 13) (oi := _) (v := ?_) rfl (by kernel_rfl) (by kernel_rfl) (by kernel_rfl) (fun _ _ _ h => h) (Or.inl ⟨by rfl, ?_⟩) hHeld ?_
 rotate_left
 · intro W hSw
   (try dsimp only at hSw)
   go_simp
   (try with_reducible rfl)
 (try simp only [puS])
 refine wpAnyH_take (i := 14) (oi := _) (v := ?_) rfl (by kernel_rfl) (by kernel_rfl) (by kernel_rfl) (fun _ _ _ h => h) (Or.inl ⟨by rfl, ?_⟩) hHeld ?_
 rotate_left
 · intro W hSw
   (try dsimp only at hSw)
   go_simp
   (try with_reducible rfl)
 (try simp only [puS])
 refine wpAnyH_take (i := 15) (oi := _) (v := ?_) rfl (by kernel_rfl) (by kernel_rfl) (by kernel_rfl) (fun _ _ _ h => h) (Or.inl ⟨by rfl, ?_⟩) hHeld ?_
 rotate_left
 · intro W hSw
   (try dsimp only at hSw)
   go_simp
   (try with_reducible rfl)
 (try simp only [puS])
 refine wpAnyH_take (i := 16) (oi := _) (v := ?_) rfl (by kernel_rfl) (by kernel_rfl) (by kernel_rfl) (fun _ _ _ h => h) (Or.inl ⟨by rfl, ?_⟩) hHeld ?_
 rotate_left
 · intro W hSw
   (try dsimp only at hSw)
   go_simp
   (try with_reducible rfl)
 (try simp only [puS])
 refine wpAnyH_take (i := 17) (oi := _) (v := ?_) rfl (by kernel_rfl) (by kernel_rfl) (by kernel_rfl) (fun _ _ _ h => h) (Or.inl ⟨by rfl, ?_⟩) hHeld ?_
 rotate_left
 · intro W hSw
   (try dsimp only at hSw)
   go_simp
   (try with_reducible rfl)
 (try simp only [puS])
 refine wpAnyH_take (i := 18) (oi := _) (v := ?_) rfl (by kernel_rfl) (by kernel_rfl) (by kernel_rfl) (fun _ _ _ h => h) (Or.inl ⟨by rfl, ?_⟩) hHeld ?_
 rotate_left
 · intro W hSw
   (try dsimp only at hSw)
   go_simp
   (try with_reducible rfl)
 (try simp only [puS])
 refine wpAnyH_take (i := 19) (oi := _) (v := ?_) rfl (by kernel_rfl) (by kernel_rfl) (by kernel_rfl) (fun _ _ _ h => h) (Or.inl ⟨by rfl, ?_⟩) hHeld ?_
 rotate_left
 · intro W hSw
   (try dsimp only at hSw)
   go_simp
   (try with_reducible rfl)
 (try simp only [puS])
 refine wpAnyH_take (i := 20) (oi := _) (v := ?_) rfl (by kernel_rfl) (by kernel_rfl) (by kernel_rfl) (fun _ _ _ h => h) (Or.inl ⟨by rfl, ?_⟩) hHeld ?_
 rotate_left
 · intro W hSw
   (try dsimp only at hSw)
   go_simp
   (try with_reducible rfl)
 (try simp only [puS])
 refine wpAnyH_take (i := 21) (oi := _) (v := ?_) rfl (by kernel_rfl) (by kernel_rfl) (by kernel_rfl) (fun _ _ _ h => h) (Or.inl ⟨by rfl, ?_⟩) hHeld ?_
 rotate_left
 · intro W hSw
   (try dsimp only at hSw)
   go_simp
   (try with_reducible rfl)
 (try simp only [puS])
 refine wpAnyH_take (i := 22) (oi := _) (v := ?_) rfl (by kernel_rfl) (by kernel_rfl) (by kernel_rfl) (fun _ _ _ h => h) (Or.inl ⟨by rfl, ?_⟩) hHeld ?_
 rotate_left
 · intro W hSw
   (try dsimp only at hSw)
   go_simp
   (try with_reducible rfl)
 (try simp only [puS])
 refine wpAnyH_take (i := 23) (oi := _) (v := ?_) rfl (by kernel_rfl) (by kernel_rfl) (by kernel_rfl) (fun _ _ _ h => h) (Or.inl ⟨by rfl, ?_⟩) hHeld ?_
 rotate_left
 · intro W hSw
   (try dsimp only at hSw)
   go_simp
   (try with_reducible rfl)
 (try simp only [puS])
 refine wpAnyH_take (i := 24) (oi := _) (v := ?_) rfl (by kernel_rfl) (by kernel_rfl) (by kernel_rfl) (fun _ _ _ h => h) (Or.inl ⟨by rfl, ?_⟩) hHeld ?_
 rotate_left
 · intro W hSw
   (try dsimp only at hSw)
   go_simp
   (try with_reducible rfl)
 (try simp only [puS])
 refine wpAnyH_take (i := 25) (oi := _) (v := ?_) rfl (by kernel_rfl) (by kernel_rfl) (by kernel_rfl) (fun _ _ _ h => h) (Or.inl ⟨by rfl, ?_⟩) hHeld ?_
 rotate_left
 · intro W hSw
   (try dsimp only at hSw)
   go_simp
   (try with_reducible rfl)
 (try simp only [puS])
 refine wpAnyH_take (i := 26) (oi := _) (v := ?_) rfl (by kernel_rfl) (by kernel_rfl) (by kernel_rfl) (fun _ _ _ h => h) (Or.inl ⟨by rfl, ?_⟩) hHeld ?_
 rotate_left
 · intro W hSw
   (try dsimp only at hSw)
   go_simp
   (try with_reducible rfl)
 (try simp only [puS])
 refine wpAnyH_take (i := 27) (oi := _) (v := ?_) rfl (by kernel_rfl) (by kernel_rfl) (by kernel_rfl) (fun _ _ _ h => h) (Or.inl ⟨by rfl, ?_⟩) hHeld ?_
 rotate_left
 · intro W hSw
   (try dsimp only at hSw)
   go_simp
   (try with_reducible rfl)
 (try simp only [puS])
 refine wpAnyH_take (i := 28) (oi := _) (v := ?_) rfl (by kernel_rfl) (by kernel_rfl) (by kernel_rfl) (fun _ _ _ h => h) (Or.inl ⟨by rfl, ?_⟩) hHeld ?_
 rotate_left
 · intro W hSw
   (try dsimp only at hSw)
   go_simp
   (try with_reducible rfl)
 (try simp only [puS])
 refine wpAnyH_take (i := 29) (oi := _) (v := ?_) rfl (by kernel_rfl) (by kernel_rfl) (by kernel_rfl) (fun _ _ _ h => h) (Or.inl ⟨by rfl, ?_⟩) hHeld ?_
 rotate_left
 · intro W hSw
   (try dsimp only at hSw)
   go_simp
   (try with_reducible rfl)
 (try simp only [puS])
 refine wpAnyH_take (i := 30) (oi := _) (v := ?_) rfl (by kernel_rfl) (by kernel_rfl) (by kernel_rfl) (fun _ _ _ h => h) (Or.inl ⟨by rfl, ?_⟩) hHeld ?_
 rotate_left
 · intro W hSw
   (try dsimp only at hSw)
   go_simp
   (try with_reducible rfl)
 (try simp only [puS])
 refine wpAnyH_take (i := 31) (oi := _) (v := ?_) rfl (by kernel_rfl) (by kernel_rfl) (by kernel_rfl) (fun _ _ _ h => h) (Or.inl ⟨by rfl, ?_⟩) hHeld ?_
 rotate_left
 · intro W hSw
   (try dsimp only at hSw)
   go_simp
   (try with_reducible rfl)
 (try simp only [puS])
 refine wpAnyH_take (i := 32) (oi := _) (v := ?_) rfl (by kernel_rfl) (by kernel_rfl) (by kernel_rfl) (fun _ _ _ h => h) (Or.inl ⟨by rfl, ?_⟩) hHeld ?_
 rotate_left
 · intro W hSw
   (try dsimp only at hSw)
   go_simp
   (try with_reducible rfl)
 (try simp only [puS])
 refine wpAnyH_ready (rs := [33]) (by kernel_rfl) (by simp) ?_
 refine AllReadyH.cons (o := _) rfl (fun K hK => ?_) AllReadyH.nil
 go_simp
 skip
 refine hK.out _ _ trivial (fun hHeld => ?_)
 clear hK K
 (try simp only [puS])
 refine wpAnyH_take (i := 34) (oi := { dst := some 2, op := Go.Op.assign (.tmp 36), type := 65, pos := "things.go:60", after := #[{ on := 33, ground := Go.Ground.data }, { on := 0, ground := Go.Ground.phase }, { on := 1, ground := Go.Ground.phase }, { on := 2, ground := Go.Ground.phase }, { on := 3, ground := Go.Ground.phase }, { on := 4, ground := Go.Ground.phase }, { on := 5, ground := Go.Ground.phase }, { on := 6, ground := Go.Ground.phase }, { on := 7, ground := Go.Ground.phase }, { on := 8, ground := Go.Ground.phase }, { on := 9, ground := Go.Ground.phase }, { on := 10, ground := Go.Ground.phase }, { on := 11, ground := Go.Ground.phase }, { on := 12, ground := Go.Ground.phase }, { on := 13, ground := Go.Ground.phase }, { on := 14, ground := Go.Ground.phase }, { on := 15, ground := Go.Ground.phase }, { on := 16, ground := Go.Ground.phase }, { on := 17, ground := Go.Ground.phase }, { on := 18, ground := Go.Ground.phase }, { on := 19, ground := Go.Ground.phase }, { on := 20, ground := Go.Ground.phase }, { on := 21, ground := Go.Ground.phase }, { on := 22, ground := Go.Ground.phase }, { on := 23, ground := Go.Ground.phase }, { on := 24, ground := Go.Ground.phase }, { on := 25, ground := Go.Ground.phase }, { on := 26, ground := Go.Ground.phase }, { on := 27, ground := Go.Ground.phase }, { on := 28, ground := Go.Ground.phase }, { on := 29, ground := Go.Ground.phase }, { on := 30, ground := Go.Ground.phase }, { on := 31, ground := Go.Ground.phase }, { on := 32, ground := Go.Ground.phase }, { on := 33, ground := Go.Ground.phase }], guard := Option.none }) (v := ?_) rfl (by kernel_rfl) (by kernel_rfl) (by kernel_rfl) (fun _ _ _ h => h) (Or.inl ⟨by rfl, ?_⟩) hHeld ?_
 rotate_left
 · intro W hSw
   (try dsimp only at hSw)
   go_simp
   (try with_reducible rfl)
 (try simp only [puS])
 refine wpAnyH_done (by kernel_rfl) ?_ _
 clear hHeld
 go_wp2
 go_ret
 exact ⟨_, rfl, KD.out.addBlk _ _⟩
theorem things_any {P : Nat} {k : Int} {cs : List Comp} {w : World} (A : All cs w) (h0 : w.cell? ⟨P, 0, none⟩ = some (.int .i64 k)) : Calls Tryz.prog 28 #[.pointer (some ⟨P, 0, none⟩)] w (ThPost P (kindT k) cs) := by
 have HA := hid A
 clear A
 unfold kindT
 by_cases h1 : k = 1
 · rw [if_pos h1]
   subst h1
   go_enter Tryz.func28, Tryz.ntmps28
   go_upto_region 3 with fail
   refine wp_region_held_drew (S := (fun _ => True)) (by kernel_rfl) trivial (fun hHeld => ?_)
   have KD := hid HA.out.drew
   generalize World.drew _ = wd at *
   refine wpAnyH_take (i := 0) (oi := _) (v := ?_) rfl (by kernel_rfl) (by kernel_rfl) (by kernel_rfl) (fun _ _ _ h => h) (Or.inl ⟨by rfl, ?_⟩) hHeld ?_
   rotate_left
   · intro W hSw
     (try dsimp only at hSw)
     go_simp
     (try with_reducible rfl)
   (try simp only [puS])
   refine wpAnyH_take (i := 1) (oi := _) (v := ?_) rfl (by kernel_rfl) (by kernel_rfl) (by kernel_rfl) (fun _ _ _ h => h) (Or.inl ⟨by rfl, ?_⟩) hHeld ?_
   rotate_left
   · intro W hSw
     (try dsimp only at hSw)
     go_simp
     (try with_reducible rfl)
   (try simp only [puS])
   refine wpAnyH_take (i := 2) (oi := _) (v := ?_) rfl (by kernel_rfl) (by kernel_rfl) (by kernel_rfl) (fun _ _ _ h => h) (Or.inl ⟨by rfl, ?_⟩) hHeld ?_
   rotate_left
   · intro W hSw
     (try dsimp only at hSw)
     go_simp
     (try with_reducible rfl)
   (try simp only [puS])
   refine wpAnyH_take (i := 3) (oi := _) (v := ?_) rfl (by kernel_rfl) (by kernel_rfl) (by kernel_rfl) (fun _ _ _ h => h) (Or.inl ⟨by rfl, ?_⟩) hHeld ?_
   rotate_left
   · intro W hSw
     (try dsimp only at hSw)
     go_simp
     (try with_reducible rfl)
   (try simp only [puS])
   refine wpAnyH_take (i := 4) (oi := _) (v := ?_) rfl (by kernel_rfl) (by kernel_rfl) (by kernel_rfl) (fun _ _ _ h => h) (Or.inl ⟨by rfl, ?_⟩) hHeld ?_
   rotate_left
   · intro W hSw
     (try dsimp only at hSw)
     go_simp
     (try with_reducible rfl)
   (try simp only [puS])
   refine wpAnyH_take (i := 5) (oi := _) (v := ?_) rfl (by kernel_rfl) (by kernel_rfl) (by kernel_rfl) (fun _ _ _ h => h) (Or.inl ⟨by rfl, ?_⟩) hHeld ?_
   rotate_left
   · intro W hSw
     (try dsimp only at hSw)
     go_simp
     (try with_reducible rfl)
   (try simp only [puS])
   refine wpAnyH_take (i := 6) (oi := _) (v := ?_) rfl (by kernel_rfl) (by kernel_rfl) (by kernel_rfl) (fun _ _ _ h => h) (Or.inl ⟨by rfl, ?_⟩) hHeld ?_
   rotate_left
   · intro W hSw
     (try dsimp only at hSw)
     go_simp
     (try with_reducible rfl)
   (try simp only [puS])
   refine wpAnyH_take (i := 7) (oi := _) (v := ?_) rfl (by kernel_rfl) (by kernel_rfl) (by kernel_rfl) (fun _ _ _ h => h) (Or.inl ⟨by rfl, ?_⟩) hHeld ?_
   rotate_left
   · intro W hSw
     (try dsimp only at hSw)
     go_simp
     (try with_reducible rfl)
   (try simp only [puS])
   refine wpAnyH_ready (rs := [8]) (by kernel_rfl) (by simp) ?_
   refine AllReadyH.cons (o := _) rfl (fun K hK => ?_) AllReadyH.nil
   go_simp
   skip
   refine hK.out _ _ trivial (fun hHeld => ?_)
   clear hK K
   (try simp only [puS])
   refine wpAnyH_take (i := 9) (oi := { dst := some 2, op := Go.Op.assign (.tmp 17), type := 65, pos := "things.go:40", after := #[{ on := 8, ground := Go.Ground.data }, { on := 0, ground := Go.Ground.phase }, { on := 1, ground := Go.Ground.phase }, { on := 2, ground := Go.Ground.phase }, { on := 3, ground := Go.Ground.phase }, { on := 4, ground := Go.Ground.phase }, { on := 5, ground := Go.Ground.phase }, { on := 6, ground := Go.Ground.phase }, { on := 7, ground := Go.Ground.phase }, { on := 8, ground := Go.Ground.phase }], guard := Option.none }) (v := ?_) rfl (by kernel_rfl) (by kernel_rfl) (by kernel_rfl) (fun _ _ _ h => h) (Or.inl ⟨by rfl, ?_⟩) hHeld ?_
   rotate_left
   · intro W hSw
     (try dsimp only at hSw)
     go_simp
     (try with_reducible rfl)
   (try simp only [puS])
   refine wpAnyH_done (by kernel_rfl) ?_ _
   clear hHeld
   go_wp2
   go_ret
   exact ⟨_, rfl, KD.out.addBlk _ _⟩
 rw [if_neg h1]
 have e1 : (k == 1) = false := by simpa using h1
 by_cases h2 : k = 2
 · rw [if_pos h2]
   subst h2
   go_enter Tryz.func28, Tryz.ntmps28
   go_upto_region 5 with fail
   refine wp_region_held_drew (S := (fun _ => True)) (by kernel_rfl) trivial (fun hHeld => ?_)
   have KD := hid HA.out.drew
   generalize World.drew _ = wd at *
   refine wpAnyH_take (i := 0) (oi := _) (v := ?_) rfl (by kernel_rfl) (by kernel_rfl) (by kernel_rfl) (fun _ _ _ h => h) (Or.inl ⟨by rfl, ?_⟩) hHeld ?_
   rotate_left
   · intro W hSw
     (try dsimp only at hSw)
     go_simp
     (try with_reducible rfl)
   (try simp only [puS])
   refine wpAnyH_take (i := 1) (oi := _) (v := ?_) rfl (by kernel_rfl) (by kernel_rfl) (by kernel_rfl) (fun _ _ _ h => h) (Or.inl ⟨by rfl, ?_⟩) hHeld ?_
   rotate_left
   · intro W hSw
     (try dsimp only at hSw)
     go_simp
     (try with_reducible rfl)
   (try simp only [puS])
   refine wpAnyH_take (i := 2) (oi := _) (v := ?_) rfl (by kernel_rfl) (by kernel_rfl) (by kernel_rfl) (fun _ _ _ h => h) (Or.inl ⟨by rfl, ?_⟩) hHeld ?_
   rotate_left
   · intro W hSw
     (try dsimp only at hSw)
     go_simp
     (try with_reducible rfl)
   (try simp only [puS])
   refine wpAnyH_take (i := 3) (oi := _) (v := ?_) rfl (by kernel_rfl) (by kernel_rfl) (by kernel_rfl) (fun _ _ _ h => h) (Or.inl ⟨by rfl, ?_⟩) hHeld ?_
   rotate_left
   · intro W hSw
     (try dsimp only at hSw)
     go_simp
     (try with_reducible rfl)
   (try simp only [puS])
   refine wpAnyH_take (i := 4) (oi := _) (v := ?_) rfl (by kernel_rfl) (by kernel_rfl) (by kernel_rfl) (fun _ _ _ h => h) (Or.inl ⟨by rfl, ?_⟩) hHeld ?_
   rotate_left
   · intro W hSw
     (try dsimp only at hSw)
     go_simp
     (try with_reducible rfl)
   (try simp only [puS])
   refine wpAnyH_take (i := 5) (oi := _) (v := ?_) rfl (by kernel_rfl) (by kernel_rfl) (by kernel_rfl) (fun _ _ _ h => h) (Or.inl ⟨by rfl, ?_⟩) hHeld ?_
   rotate_left
   · intro W hSw
     (try dsimp only at hSw)
     go_simp
     (try with_reducible rfl)
   (try simp only [puS])
   refine wpAnyH_take (i := 6) (oi := _) (v := ?_) rfl (by kernel_rfl) (by kernel_rfl) (by kernel_rfl) (fun _ _ _ h => h) (Or.inl ⟨by rfl, ?_⟩) hHeld ?_
   rotate_left
   · intro W hSw
     (try dsimp only at hSw)
     go_simp
     (try with_reducible rfl)
   (try simp only [puS])
   refine wpAnyH_take (i := 7) (oi := _) (v := ?_) rfl (by kernel_rfl) (by kernel_rfl) (by kernel_rfl) (fun _ _ _ h => h) (Or.inl ⟨by rfl, ?_⟩) hHeld ?_
   rotate_left
   · intro W hSw
     (try dsimp only at hSw)
     go_simp
     (try with_reducible rfl)
   (try simp only [puS])
   refine wpAnyH_take (i := 8) (oi := _) (v := ?_) rfl (by kernel_rfl) (by kernel_rfl) (by kernel_rfl) (fun _ _ _ h => h) (Or.inl ⟨by rfl, ?_⟩) hHeld ?_
   rotate_left
   · intro W hSw
     (try dsimp only at hSw)
     go_simp
     (try with_reducible rfl)
   (try simp only [puS])
   refine wpAnyH_take (i := 9) (oi := _) (v := ?_) rfl (by kernel_rfl) (by kernel_rfl) (by kernel_rfl) (fun _ _ _ h => h) (Or.inl ⟨by rfl, ?_⟩) hHeld ?_
   rotate_left
   · intro W hSw
     (try dsimp only at hSw)
     go_simp
     (try with_reducible rfl)
   (try simp only [puS])
   refine wpAnyH_take (i := 10) (oi := _) (v := ?_) rfl (by kernel_rfl) (by kernel_rfl) (by kernel_rfl) (fun _ _ _ h => h) (Or.inl ⟨by rfl, ?_⟩) hHeld ?_
   rotate_left
   · intro W hSw
     (try dsimp only at hSw)
     go_simp
     (try with_reducible rfl)
   (try simp only [puS])
   refine wpAnyH_take (i := 11) (oi := _) (v := ?_) rfl (by kernel_rfl) (by kernel_rfl) (by kernel_rfl) (fun _ _ _ h => h) (Or.inl ⟨by rfl, ?_⟩) hHeld ?_
   rotate_left
   · intro W hSw
     (try dsimp only at hSw)
     go_simp
     (try with_reducible rfl)
   (try simp only [puS])
   refine wpAnyH_ready (rs := [12]) (by kernel_rfl) (by simp) ?_
   refine AllReadyH.cons (o := _) rfl (fun K hK => ?_) AllReadyH.nil
   go_simp
   skip
   refine hK.out _ _ trivial (fun hHeld => ?_)
   clear hK K
   (try simp only [puS])
   refine wpAnyH_take (i := 13) (oi := { dst := some 2, op := Go.Op.assign (.tmp 32), type := 65, pos := "things.go:42", after := #[{ on := 12, ground := Go.Ground.data }, { on := 0, ground := Go.Ground.phase }, { on := 1, ground := Go.Ground.phase }, { on := 2, ground := Go.Ground.phase }, { on := 3, ground := Go.Ground.phase }, { on := 4, ground := Go.Ground.phase }, { on := 5, ground := Go.Ground.phase }, { on := 6, ground := Go.Ground.phase }, { on := 7, ground := Go.Ground.phase }, { on := 8, ground := Go.Ground.phase }, { on := 9, ground := Go.Ground.phase }, { on := 10, ground := Go.Ground.phase }, { on := 11, ground := Go.Ground.phase }, { on := 12, ground := Go.Ground.phase }], guard := Option.none }) (v := ?_) rfl (by kernel_rfl) (by kernel_rfl) (by kernel_rfl) (fun _ _ _ h => h) (Or.inl ⟨by rfl, ?_⟩) hHeld ?_
   rotate_left
   · intro W hSw
     (try dsimp only at hSw)
     go_simp
     (try with_reducible rfl)
   (try simp only [puS])
   refine wpAnyH_done (by kernel_rfl) ?_ _
   clear hHeld
   go_wp2
   go_ret
   exact ⟨_, rfl, KD.out.addBlk _ _⟩
 rw [if_neg h2]
 have e2 : (k == 2) = false := by simpa using h2
 by_cases h3 : k = 3
 · rw [if_pos h3]
   subst h3
   go_enter Tryz.func28, Tryz.ntmps28
   go_upto_region 7 with fail
   refine wp_region_held_drew (S := (fun _ => True)) (by kernel_rfl) trivial (fun hHeld => ?_)
   have KD := hid HA.out.drew
   generalize World.drew _ = wd at *
   refine wpAnyH_take (i := 0) (oi := _) (v := ?_) rfl (by kernel_rfl) (by kernel_rfl) (by kernel_rfl) (fun _ _ _ h => h) (Or.inl ⟨by rfl, ?_⟩) hHeld ?_
   rotate_left
   · intro W hSw
     (try dsimp only at hSw)
     go_simp
     (try with_reducible rfl)
   (try simp only [puS])
   refine wpAnyH_take (i := 1) (oi := _) (v := ?_) rfl (by kernel_rfl) (by kernel_rfl) (by kernel_rfl) (fun _ _ _ h => h) (Or.inl ⟨by rfl, ?_⟩) hHeld ?_
   rotate_left
   · intro W hSw
     (try dsimp only at hSw)
     go_simp
     (try with_reducible rfl)
   (try simp only [puS])
   refine wpAnyH_take (i := 2) (oi := _) (v := ?_) rfl (by kernel_rfl) (by kernel_rfl) (by kernel_rfl) (fun _ _ _ h => h) (Or.inl ⟨by rfl, ?_⟩) hHeld ?_
   rotate_left
   · intro W hSw
     (try dsimp only at hSw)
     go_simp
     (try with_reducible rfl)
   (try simp only [puS])
   refine wpAnyH_take (i := 3) (oi := _) (v := ?_) rfl (by kernel_rfl) (by kernel_rfl) (by kernel_rfl) (fun _ _ _ h => h) (Or.inl ⟨by rfl, ?_⟩) hHeld ?_
   rotate_left
   · intro W hSw
     (try dsimp only at hSw)
     go_simp
     (try with_reducible rfl)
   (try simp only [puS])
   refine wpAnyH_take (i := 4) (oi := _) (v := ?_) rfl (by kernel_rfl) (by kernel_rfl) (by kernel_rfl) (fun _ _ _ h => h) (Or.inl ⟨by rfl, ?_⟩) hHeld ?_
   rotate_left
   · intro W hSw
     (try dsimp only at hSw)
     go_simp
     (try with_reducible rfl)
   (try simp only [puS])
   refine wpAnyH_take (i := 5) (oi := _) (v := ?_) rfl (by kernel_rfl) (by kernel_rfl) (by kernel_rfl) (fun _ _ _ h => h) (Or.inl ⟨by rfl, ?_⟩) hHeld ?_
   rotate_left
   · intro W hSw
     (try dsimp only at hSw)
     go_simp
     (try with_reducible rfl)
   (try simp only [puS])
   refine wpAnyH_take (i := 6) (oi := _) (v := ?_) rfl (by kernel_rfl) (by kernel_rfl) (by kernel_rfl) (fun _ _ _ h => h) (Or.inl ⟨by rfl, ?_⟩) hHeld ?_
   rotate_left
   · intro W hSw
     (try dsimp only at hSw)
     go_simp
     (try with_reducible rfl)
   (try simp only [puS])
   refine wpAnyH_take (i := 7) (oi := _) (v := ?_) rfl (by kernel_rfl) (by kernel_rfl) (by kernel_rfl) (fun _ _ _ h => h) (Or.inl ⟨by rfl, ?_⟩) hHeld ?_
   rotate_left
   · intro W hSw
     (try dsimp only at hSw)
     go_simp
     (try with_reducible rfl)
   (try simp only [puS])
   refine wpAnyH_take (i := 8) (oi := _) (v := ?_) rfl (by kernel_rfl) (by kernel_rfl) (by kernel_rfl) (fun _ _ _ h => h) (Or.inl ⟨by rfl, ?_⟩) hHeld ?_
   rotate_left
   · intro W hSw
     (try dsimp only at hSw)
     go_simp
     (try with_reducible rfl)
   (try simp only [puS])
   refine wpAnyH_take (i := 9) (oi := _) (v := ?_) rfl (by kernel_rfl) (by kernel_rfl) (by kernel_rfl) (fun _ _ _ h => h) (Or.inl ⟨by rfl, ?_⟩) hHeld ?_
   rotate_left
   · intro W hSw
     (try dsimp only at hSw)
     go_simp
     (try with_reducible rfl)
   (try simp only [puS])
   refine wpAnyH_take (i := 10) (oi := _) (v := ?_) rfl (by kernel_rfl) (by kernel_rfl) (by kernel_rfl) (fun _ _ _ h => h) (Or.inl ⟨by rfl, ?_⟩) hHeld ?_
   rotate_left
   · intro W hSw
     (try dsimp only at hSw)
     go_simp
     (try with_reducible rfl)
   (try simp only [puS])
   refine wpAnyH_take (i := 11) (oi := _) (v := ?_) rfl (by kernel_rfl) (by kernel_rfl) (by kernel_rfl) (fun _ _ _ h => h) (Or.inl ⟨by rfl, ?_⟩) hHeld ?_
   rotate_left
   · intro W hSw
     (try dsimp only at hSw)
     go_simp
     (try with_reducible rfl)
   (try simp only [puS])
   refine wpAnyH_take (i := 12) (oi := _) (v := ?_) rfl (by kernel_rfl) (by kernel_rfl) (by kernel_rfl) (fun _ _ _ h => h) (Or.inl ⟨by rfl, ?_⟩) hHeld ?_
   rotate_left
   · intro W hSw
     (try dsimp only at hSw)
     go_simp
     (try with_reducible rfl)
   (try simp only [puS])
   refine wpAnyH_take (i := 13) (oi := _) (v := ?_) rfl (by kernel_rfl) (by kernel_rfl) (by kernel_rfl) (fun _ _ _ h => h) (Or.inl ⟨by rfl, ?_⟩) hHeld ?_
   rotate_left
   · intro W hSw
     (try dsimp only at hSw)
     go_simp
     (try with_reducible rfl)
   (try simp only [puS])
   refine wpAnyH_take (i := 14) (oi := _) (v := ?_) rfl (by kernel_rfl) (by kernel_rfl) (by kernel_rfl) (fun _ _ _ h => h) (Or.inl ⟨by rfl, ?_⟩) hHeld ?_
   rotate_left
   · intro W hSw
     (try dsimp only at hSw)
     go_simp
     (try with_reducible rfl)
   (try simp only [puS])
   refine wpAnyH_take (i := 15) (oi := _) (v := ?_) rfl (by kernel_rfl) (by kernel_rfl) (by kernel_rfl) (fun _ _ _ h => h) (Or.inl ⟨by rfl, ?_⟩) hHeld ?_
   rotate_left
   · intro W hSw
     (try dsimp only at hSw)
     go_simp
     (try with_reducible rfl)
   (try simp only [puS])
   refine wpAnyH_ready (rs := [16]) (by kernel_rfl) (by simp) ?_
   refine AllReadyH.cons (o := _) rfl (fun K hK => ?_) AllReadyH.nil
   go_simp
   skip
   refine hK.out _ _ trivial (fun hHeld => ?_)
   clear hK K
   (try simp only [puS])
   refine wpAnyH_take (i := 17) (oi := { dst := some 2, op := Go.Op.assign (.tmp 51), type := 65, pos := "things.go:44", after := #[{ on := 16, ground := Go.Ground.data }, { on := 0, ground := Go.Ground.phase }, { on := 1, ground := Go.Ground.phase }, { on := 2, ground := Go.Ground.phase }, { on := 3, ground := Go.Ground.phase }, { on := 4, ground := Go.Ground.phase }, { on := 5, ground := Go.Ground.phase }, { on := 6, ground := Go.Ground.phase }, { on := 7, ground := Go.Ground.phase }, { on := 8, ground := Go.Ground.phase }, { on := 9, ground := Go.Ground.phase }, { on := 10, ground := Go.Ground.phase }, { on := 11, ground := Go.Ground.phase }, { on := 12, ground := Go.Ground.phase }, { on := 13, ground := Go.Ground.phase }, { on := 14, ground := Go.Ground.phase }, { on := 15, ground := Go.Ground.phase }, { on := 16, ground := Go.Ground.phase }], guard := Option.none }) (v := ?_) rfl (by kernel_rfl) (by kernel_rfl) (by kernel_rfl) (fun _ _ _ h => h) (Or.inl ⟨by rfl, ?_⟩) hHeld ?_
   rotate_left
   · intro W hSw
     (try dsimp only at hSw)
     go_simp
     (try with_reducible rfl)
   (try simp only [puS])
   refine wpAnyH_done (by kernel_rfl) ?_ _
   clear hHeld
   go_wp2
   go_ret
   exact ⟨_, rfl, KD.out.addBlk _ _⟩
 rw [if_neg h3]
 have e3 : (k == 3) = false := by simpa using h3
 by_cases h4 : k = 4
 · rw [if_pos h4]
   subst h4
   go_enter Tryz.func28, Tryz.ntmps28
   go_upto_region 9 with fail
   refine wp_region_held_drew (S := (fun _ => True)) (by kernel_rfl) trivial (fun hHeld => ?_)
   have KD := hid HA.out.drew
   generalize World.drew _ = wd at *
   refine wpAnyH_take (i := 0) (oi := _) (v := ?_) rfl (by kernel_rfl) (by kernel_rfl) (by kernel_rfl) (fun _ _ _ h => h) (Or.inl ⟨by rfl, ?_⟩) hHeld ?_
   rotate_left
   · intro W hSw
     (try dsimp only at hSw)
     go_simp
     (try with_reducible rfl)
   (try simp only [puS])
   refine wpAnyH_take (i := 1) (oi := _) (v := ?_) rfl (by kernel_rfl) (by kernel_rfl) (by kernel_rfl) (fun _ _ _ h => h) (Or.inl ⟨by rfl, ?_⟩) hHeld ?_
   rotate_left
   · intro W hSw
     (try dsimp only at hSw)
     go_simp
     (try with_reducible rfl)
   (try simp only [puS])
   refine wpAnyH_take (i := 2) (oi := _) (v := ?_) rfl (by kernel_rfl) (by kernel_rfl) (by kernel_rfl) (fun _ _ _ h => h) (Or.inl ⟨by rfl, ?_⟩) hHeld ?_
   rotate_left
   · intro W hSw
     (try dsimp only at hSw)
     go_simp
     (try with_reducible rfl)
   (try simp only [puS])
   refine wpAnyH_take (i := 3) (oi := _) (v := ?_) rfl (by kernel_rfl) (by kernel_rfl) (by kernel_rfl) (fun _ _ _ h => h) (Or.inl ⟨by rfl, ?_⟩) hHeld ?_
   rotate_left
   · intro W hSw
     (try dsimp only at hSw)
     go_simp
     (try with_reducible rfl)
   (try simp only [puS])
   refine wpAnyH_take (i := 4) (oi := _) (v := ?_) rfl (by kernel_rfl) (by kernel_rfl) (by kernel_rfl) (fun _ _ _ h => h) (Or.inl ⟨by rfl, ?_⟩) hHeld ?_
   rotate_left
   · intro W hSw
     (try dsimp only at hSw)
     go_simp
     (try with_reducible rfl)
   (try simp only [puS])
   refine wpAnyH_take (i := 5) (oi := _) (v := ?_) rfl (by kernel_rfl) (by kernel_rfl) (by kernel_rfl) (fun _ _ _ h => h) (Or.inl ⟨by rfl, ?_⟩) hHeld ?_
   rotate_left
   · intro W hSw
     (try dsimp only at hSw)
     go_simp
     (try with_reducible rfl)
   (try simp only [puS])
   refine wpAnyH_take (i := 6) (oi := _) (v := ?_) rfl (by kernel_rfl) (by kernel_rfl) (by kernel_rfl) (fun _ _ _ h => h) (Or.inl ⟨by rfl, ?_⟩) hHeld ?_
   rotate_left
   · intro W hSw
     (try dsimp only at hSw)
     go_simp
     (try with_reducible rfl)
   (try simp only [puS])
   refine wpAnyH_take (i := 7) (oi := _) (v := ?_) rfl (by kernel_rfl) (by kernel_rfl) (by kernel_rfl) (fun _ _ _ h => h) (Or.inl ⟨by rfl, ?_⟩) hHeld ?_
   rotate_left
   · intro W hSw
     (try dsimp only at hSw)
     go_simp
     (try with_reducible rfl)
   (try simp only [puS])
   refine wpAnyH_take (i := 8) (oi := _) (v := ?_) rfl (by kernel_rfl) (by kernel_rfl) (by kernel_rfl) (fun _ _ _ h => h) (Or.inl ⟨by rfl, ?_⟩) hHeld ?_
   rotate_left
   · intro W hSw
     (try dsimp only at hSw)
     go_simp
     (try with_reducible rfl)
   (try simp only [puS])
   refine wpAnyH_take (i := 9) (oi := _) (v := ?_) rfl (by kernel_rfl) (by kernel_rfl) (by kernel_rfl) (fun _ _ _ h => h) (Or.inl ⟨by rfl, ?_⟩) hHeld ?_
   rotate_left
   · intro W hSw
     (try dsimp only at hSw)
     go_simp
     (try with_reducible rfl)
   (try simp only [puS])
   refine wpAnyH_take (i := 10) (oi := _) (v := ?_) rfl (by kernel_rfl) (by kernel_rfl) (by kernel_rfl) (fun _ _ _ h => h) (Or.inl ⟨by rfl, ?_⟩) hHeld ?_
   rotate_left
   · intro W hSw
     (try dsimp only at hSw)
     go_simp
     (try with_reducible rfl)
   (try simp only [puS])
   refine wpAnyH_take (i := 11) (oi := _) (v := ?_) rfl (by kernel_rfl) (by kernel_rfl) (by kernel_rfl) (fun _ _ _ h => h) (Or.inl ⟨by rfl, ?_⟩) hHeld ?_
   rotate_left
   · intro W hSw
     (try dsimp only at hSw)
     go_simp
     (try with_reducible rfl)
   (try simp only [puS])
   refine wpAnyH_take (i := 12) (oi := _) (v := ?_) rfl (by kernel_rfl) (by kernel_rfl) (by kernel_rfl) (fun _ _ _ h => h) (Or.inl ⟨by rfl, ?_⟩) hHeld ?_
   rotate_left
   · intro W hSw
     (try dsimp only at hSw)
     go_simp
     (try with_reducible rfl)
   (try simp only [puS])
   refine wpAnyH_take (i := 13) (oi := _) (v := ?_) rfl (by kernel_rfl) (by kernel_rfl) (by kernel_rfl) (fun _ _ _ h => h) (Or.inl ⟨by rfl, ?_⟩) hHeld ?_
   rotate_left
   · intro W hSw
     (try dsimp only at hSw)
     go_simp
     (try with_reducible rfl)
   (try simp only [puS])
   refine wpAnyH_take (i := 14) (oi := _) (v := ?_) rfl (by kernel_rfl) (by kernel_rfl) (by kernel_rfl) (fun _ _ _ h => h) (Or.inl ⟨by rfl, ?_⟩) hHeld ?_
   rotate_left
   · intro W hSw
     (try dsimp only at hSw)
     go_simp
     (try with_reducible rfl)
   (try simp only [puS])
   refine wpAnyH_take (i := 15) (oi := _) (v := ?_) rfl (by kernel_rfl) (by kernel_rfl) (by kernel_rfl) (fun _ _ _ h => h) (Or.inl ⟨by rfl, ?_⟩) hHeld ?_
   rotate_left
   · intro W hSw
     (try dsimp only at hSw)
     go_simp
     (try with_reducible rfl)
   (try simp only [puS])
   refine wpAnyH_ready (rs := [16]) (by kernel_rfl) (by simp) ?_
   refine AllReadyH.cons (o := _) rfl (fun K hK => ?_) AllReadyH.nil
   go_simp
   skip
   refine hK.out _ _ trivial (fun hHeld => ?_)
   clear hK K
   (try simp only [puS])
   refine wpAnyH_take (i := 17) (oi := { dst := some 2, op := Go.Op.assign (.tmp 70), type := 65, pos := "things.go:46", after := #[{ on := 16, ground := Go.Ground.data }, { on := 0, ground := Go.Ground.phase }, { on := 1, ground := Go.Ground.phase }, { on := 2, ground := Go.Ground.phase }, { on := 3, ground := Go.Ground.phase }, { on := 4, ground := Go.Ground.phase }, { on := 5, ground := Go.Ground.phase }, { on := 6, ground := Go.Ground.phase }, { on := 7, ground := Go.Ground.phase }, { on := 8, ground := Go.Ground.phase }, { on := 9, ground := Go.Ground.phase }, { on := 10, ground := Go.Ground.phase }, { on := 11, ground := Go.Ground.phase }, { on := 12, ground := Go.Ground.phase }, { on := 13, ground := Go.Ground.phase }, { on := 14, ground := Go.Ground.phase }, { on := 15, ground := Go.Ground.phase }, { on := 16, ground := Go.Ground.phase }], guard := Option.none }) (v := ?_) rfl (by kernel_rfl) (by kernel_rfl) (by kernel_rfl) (fun _ _ _ h => h) (Or.inl ⟨by rfl, ?_⟩) hHeld ?_
   rotate_left
   · intro W hSw
     (try dsimp only at hSw)
     go_simp
     (try with_reducible rfl)
   (try simp only [puS])
   refine wpAnyH_done (by kernel_rfl) ?_ _
   clear hHeld
   go_wp2
   go_ret
   exact ⟨_, rfl, KD.out.addBlk _ _⟩
 rw [if_neg h4]
 have e4 : (k == 4) = false := by simpa using h4
 by_cases h5 : k = 5
 · rw [if_pos h5]
   subst h5
   go_enter Tryz.func28, Tryz.ntmps28
   go_upto_region 11 with fail
   refine wp_region_held_drew (S := (fun _ => True)) (by kernel_rfl) trivial (fun hHeld => ?_)
   have KD := hid HA.out.drew
   generalize World.drew _ = wd at *
   refine wpAnyH_take (i := 0) (oi := _) (v := ?_) rfl (by kernel_rfl) (by kernel_rfl) (by kernel_rfl) (fun _ _ _ h => h) (Or.inl ⟨by rfl, ?_⟩) hHeld ?_
   rotate_left
   · intro W hSw
     (try dsimp only at hSw)
     go_simp
     (try with_reducible rfl)
   (try simp only [puS])
   refine wpAnyH_take (i := 1) (oi := _) (v := ?_) rfl (by kernel_rfl) (by kernel_rfl) (by kernel_rfl) (fun _ _ _ h => h) (Or.inl ⟨by rfl, ?_⟩) hHeld ?_
   rotate_left
   · intro W hSw
     (try dsimp only at hSw)
     go_simp
     (try with_reducible rfl)
   (try simp only [puS])
   refine wpAnyH_take (i := 2) (oi := _) (v := ?_) rfl (by kernel_rfl) (by kernel_rfl) (by kernel_rfl) (fun _ _ _ h => h) (Or.inl ⟨by rfl, ?_⟩) hHeld ?_
   rotate_left
   · intro W hSw
     (try dsimp only at hSw)
     go_simp
     (try with_reducible rfl)
   (try simp only [puS])
   refine wpAnyH_take (i := 3) (oi := _) (v := ?_) rfl (by kernel_rfl) (by kernel_rfl) (by kernel_rfl) (fun _ _ _ h => h) (Or.inl ⟨by rfl, ?_⟩) hHeld ?_
   rotate_left
   · intro W hSw
     (try dsimp only at hSw)
     go_simp
     (try with_reducible rfl)
   (try simp only [puS])
   refine wpAnyH_take (i := 4) (oi := _) (v := ?_) rfl (by kernel_rfl) (by kernel_rfl) (by kernel_rfl) (fun _ _ _ h => h) (Or.inl ⟨by rfl, ?_⟩) hHeld ?_
   rotate_left
   · intro W hSw
     (try dsimp only at hSw)
     go_simp
     (try with_reducible rfl)
   (try simp only [puS])
   refine wpAnyH_take (i := 5) (oi := _) (v := ?_) rfl (by kernel_rfl) (by kernel_rfl) (by kernel_rfl) (fun _ _ _ h => h) (Or.inl ⟨by rfl, ?_⟩) hHeld ?_
   rotate_left
   · intro W hSw
     (try dsimp only at hSw)
     go_simp
     (try with_reducible rfl)
   (try simp only [puS])
   refine wpAnyH_take (i := 6) (oi := _) (v := ?_) rfl (by kernel_rfl) (by kernel_rfl) (by kernel_rfl) (fun _ _ _ h => h) (Or.inl ⟨by rfl, ?_⟩) hHeld ?_
   rotate_left
   · intro W hSw
     (try dsimp only at hSw)
     go_simp
     (try with_reducible rfl)
   (try simp only [puS])
   refine wpAnyH_take (i := 7) (oi := _) (v := ?_) rfl (by kernel_rfl) (by kernel_rfl) (by kernel_rfl) (fun _ _ _ h => h) (Or.inl ⟨by rfl, ?_⟩) hHeld ?_
   rotate_left
   · intro W hSw
     (try dsimp only at hSw)
     go_simp
     (try with_reducible rfl)
   (try simp only [puS])
   refine wpAnyH_take (i := 8) (oi := _) (v := ?_) rfl (by kernel_rfl) (by kernel_rfl) (by kernel_rfl) (fun _ _ _ h => h) (Or.inl ⟨by rfl, ?_⟩) hHeld ?_
   rotate_left
   · intro W hSw
     (try dsimp only at hSw)
     go_simp
     (try with_reducible rfl)
   (try simp only [puS])
   refine wpAnyH_take (i := 9) (oi := _) (v := ?_) rfl (by kernel_rfl) (by kernel_rfl) (by kernel_rfl) (fun _ _ _ h => h) (Or.inl ⟨by rfl, ?_⟩) hHeld ?_
   rotate_left
   · intro W hSw
     (try dsimp only at hSw)
     go_simp
     (try with_reducible rfl)
   (try simp only [puS])
   refine wpAnyH_take (i := 10) (oi := _) (v := ?_) rfl (by kernel_rfl) (by kernel_rfl) (by kernel_rfl) (fun _ _ _ h => h) (Or.inl ⟨by rfl, ?_⟩) hHeld ?_
   rotate_left
   · intro W hSw
     (try dsimp only at hSw)
     go_simp
     (try with_reducible rfl)
   (try simp only [puS])
   refine wpAnyH_take (i := 11) (oi := _) (v := ?_) rfl (by kernel_rfl) (by kernel_rfl) (by kernel_rfl) (fun _ _ _ h => h) (Or.inl ⟨by rfl, ?_⟩) hHeld ?_
   rotate_left
   · intro W hSw
     (try dsimp only at hSw)
     go_simp
     (try with_reducible rfl)
   (try simp only [puS])
   refine wpAnyH_take (i := 12) (oi := _) (v := ?_) rfl (by kernel_rfl) (by kernel_rfl) (by kernel_rfl) (fun _ _ _ h => h) (Or.inl ⟨by rfl, ?_⟩) hHeld ?_
   rotate_left
   · intro W hSw
     (try dsimp only at hSw)
     go_simp
     (try with_reducible rfl)
   (try simp only [puS])
   refine wpAnyH_take (i := 13) (oi := _) (v := ?_) rfl (by kernel_rfl) (by kernel_rfl) (by kernel_rfl) (fun _ _ _ h => h) (Or.inl ⟨by rfl, ?_⟩) hHeld ?_
   rotate_left
   · intro W hSw
     (try dsimp only at hSw)
     go_simp
     (try with_reducible rfl)
   (try simp only [puS])
   refine wpAnyH_take (i := 14) (oi := _) (v := ?_) rfl (by kernel_rfl) (by kernel_rfl) (by kernel_rfl) (fun _ _ _ h => h) (Or.inl ⟨by rfl, ?_⟩) hHeld ?_
   rotate_left
   · intro W hSw
     (try dsimp only at hSw)
     go_simp
     (try with_reducible rfl)
   (try simp only [puS])
   refine wpAnyH_take (i := 15) (oi := _) (v := ?_) rfl (by kernel_rfl) (by kernel_rfl) (by kernel_rfl) (fun _ _ _ h => h) (Or.inl ⟨by rfl, ?_⟩) hHeld ?_
   rotate_left
   · intro W hSw
     (try dsimp only at hSw)
     go_simp
     (try with_reducible rfl)
   (try simp only [puS])
   refine wpAnyH_take (i := 16) (oi := _) (v := ?_) rfl (by kernel_rfl) (by kernel_rfl) (by kernel_rfl) (fun _ _ _ h => h) (Or.inl ⟨by rfl, ?_⟩) hHeld ?_
   rotate_left
   · intro W hSw
     (try dsimp only at hSw)
     go_simp
     (try with_reducible rfl)
   (try simp only [puS])
   refine wpAnyH_take (i := 17) (oi := _) (v := ?_) rfl (by kernel_rfl) (by kernel_rfl) (by kernel_rfl) (fun _ _ _ h => h) (Or.inl ⟨by rfl, ?_⟩) hHeld ?_
   rotate_left
   · intro W hSw
     (try dsimp only at hSw)
     go_simp
     (try with_reducible rfl)
   (try simp only [puS])
   refine wpAnyH_take (i := 18) (oi := _) (v := ?_) rfl (by kernel_rfl) (by kernel_rfl) (by kernel_rfl) (fun _ _ _ h => h) (Or.inl ⟨by rfl, ?_⟩) hHeld ?_
   rotate_left
   · intro W hSw
     (try dsimp only at hSw)
     go_simp
     (try with_reducible rfl)
   (try simp only [puS])
   refine wpAnyH_take (i := 19) (oi := _) (v := ?_) rfl (by kernel_rfl) (by kernel_rfl) (by kernel_rfl) (fun _ _ _ h => h) (Or.inl ⟨by rfl, ?_⟩) hHeld ?_
   rotate_left
   · intro W hSw
     (try dsimp only at hSw)
     go_simp
     (try with_reducible rfl)
   (try simp only [puS])
   refine wpAnyH_ready (rs := [20]) (by kernel_rfl) (by simp) ?_
   refine AllReadyH.cons (o := _) rfl (fun K hK => ?_) AllReadyH.nil
   go_simp
   skip
   refine hK.out _ _ trivial (fun hHeld => ?_)
   clear hK K
   (try simp only [puS])
   refine wpAnyH_take (i := 21) (oi := { dst := some 2, op := Go.Op.assign (.tmp 93), type := 65, pos := "things.go:48", after := #[{ on := 20, ground := Go.Ground.data }, { on := 0, ground := Go.Ground.phase }, { on := 1, ground := Go.Ground.phase }, { on := 2, ground := Go.Ground.phase }, { on := 3, ground := Go.Ground.phase }, { on := 4, ground := Go.Ground.phase }, { on := 5, ground := Go.Ground.phase }, { on := 6, ground := Go.Ground.phase }, { on := 7, ground := Go.Ground.phase }, { on := 8, ground := Go.Ground.phase }, { on := 9, ground := Go.Ground.phase }, { on := 10, ground := Go.Ground.phase }, { on := 11, ground := Go.Ground.phase }, { on := 12, ground := Go.Ground.phase }, { on := 13, ground := Go.Ground.phase }, { on := 14, ground := Go.Ground.phase }, { on := 15, ground := Go.Ground.phase }, { on := 16, ground := Go.Ground.phase }, { on := 17, ground := Go.Ground.phase }, { on := 18, ground := Go.Ground.phase }, { on := 19, ground := Go.Ground.phase }, { on := 20, ground := Go.Ground.phase }], guard := Option.none }) (v := ?_) rfl (by kernel_rfl) (by kernel_rfl) (by kernel_rfl) (fun _ _ _ h => h) (Or.inl ⟨by rfl, ?_⟩) hHeld ?_
   rotate_left
   · intro W hSw
     (try dsimp only at hSw)
     go_simp
     (try with_reducible rfl)
   (try simp only [puS])
   refine wpAnyH_done (by kernel_rfl) ?_ _
   clear hHeld
   go_wp2
   go_ret
   exact ⟨_, rfl, KD.out.addBlk _ _⟩
 rw [if_neg h5]
 have e5 : (k == 5) = false := by simpa using h5
 by_cases h6 : k = 6
 · rw [if_pos h6]
   subst h6
   go_enter Tryz.func28, Tryz.ntmps28
   go_upto_region 13 with fail
   refine wp_region_held_drew (S := (fun _ => True)) (by kernel_rfl) trivial (fun hHeld => ?_)
   have KD := hid HA.out.drew
   generalize World.drew _ = wd at *
   refine wpAnyH_take (i := 0) (oi := _) (v := ?_) rfl (by kernel_rfl) (by kernel_rfl) (by kernel_rfl) (fun _ _ _ h => h) (Or.inl ⟨by rfl, ?_⟩) hHeld ?_
   rotate_left
   · intro W hSw
     (try dsimp only at hSw)
     go_simp
     (try with_reducible rfl)
   (try simp only [puS])
   refine wpAnyH_take (i := 1) (oi := _) (v := ?_) rfl (by kernel_rfl) (by kernel_rfl) (by kernel_rfl) (fun _ _ _ h => h) (Or.inl ⟨by rfl, ?_⟩) hHeld ?_
   rotate_left
   · intro W hSw
     (try dsimp only at hSw)
     go_simp
     (try with_reducible rfl)
   (try simp only [puS])
   refine wpAnyH_take (i := 2) (oi := _) (v := ?_) rfl (by kernel_rfl) (by kernel_rfl) (by kernel_rfl) (fun _ _ _ h => h) (Or.inl ⟨by rfl, ?_⟩) hHeld ?_
   rotate_left
   · intro W hSw
     (try dsimp only at hSw)
     go_simp
     (try with_reducible rfl)
   (try simp only [puS])
   refine wpAnyH_take (i := 3) (oi := _) (v := ?_) rfl (by kernel_rfl) (by kernel_rfl) (by kernel_rfl) (fun _ _ _ h => h) (Or.inl ⟨by rfl, ?_⟩) hHeld ?_
   rotate_left
   · intro W hSw
     (try dsimp only at hSw)
     go_simp
     (try with_reducible rfl)
   (try simp only [puS])
   refine wpAnyH_take (i := 4) (oi := _) (v := ?_) rfl (by kernel_rfl) (by kernel_rfl) (by kernel_rfl) (fun _ _ _ h => h) (Or.inl ⟨by rfl, ?_⟩) hHeld ?_
   rotate_left
   · intro W hSw
     (try dsimp only at hSw)
     go_simp
     (try with_reducible rfl)
   (try simp only [puS])
   refine wpAnyH_take (i := 5) (oi := _) (v := ?_) rfl (by kernel_rfl) (by kernel_rfl) (by kernel_rfl) (fun _ _ _ h => h) (Or.inl ⟨by rfl, ?_⟩) hHeld ?_
   rotate_left
   · intro W hSw
     (try dsimp only at hSw)
     go_simp
     (try with_reducible rfl)
   (try simp only [puS])
   refine wpAnyH_take (i := 6) (oi := _) (v := ?_) rfl (by kernel_rfl) (by kernel_rfl) (by kernel_rfl) (fun _ _ _ h => h) (Or.inl ⟨by rfl, ?_⟩) hHeld ?_
   rotate_left
   · intro W hSw
     (try dsimp only at hSw)
     go_simp
     (try with_reducible rfl)
   (try simp only [puS])
   refine wpAnyH_take (i := 7) (oi := _) (v := ?_) rfl (by kernel_rfl) (by kernel_rfl) (by kernel_rfl) (fun _ _ _ h => h) (Or.inl ⟨by rfl, ?_⟩) hHeld ?_
   rotate_left
   · intro W hSw
     (try dsimp only at hSw)
     go_simp
     (try with_reducible rfl)
   (try simp only [puS])
   refine wpAnyH_take (i := 8) (oi := _) (v := ?_) rfl (by kernel_rfl) (by kernel_rfl) (by kernel_rfl) (fun _ _ _ h => h) (Or.inl ⟨by rfl, ?_⟩) hHeld ?_
   rotate_left
   · intro W hSw
     (try dsimp only at hSw)
     go_simp
     (try with_reducible rfl)
   (try simp only [puS])
   refine wpAnyH_take (i := 9) (oi := _) (v := ?_) rfl (by kernel_rfl) (by kernel_rfl) (by kernel_rfl) (fun _ _ _ h => h) (Or.inl ⟨by rfl, ?_⟩) hHeld ?_
   rotate_left
   · intro W hSw
     (try dsimp only at hSw)
     go_simp
     (try with_reducible rfl)
   (try simp only [puS])
   refine wpAnyH_take (i := 10) (oi := _) (v := ?_) rfl (by kernel_rfl) (by kernel_rfl) (by kernel_rfl) (fun _ _ _ h => h) (Or.inl ⟨by rfl, ?_⟩) hHeld ?_
   rotate_left
   · intro W hSw
     (try dsimp only at hSw)
     go_simp
     (try with_reducible rfl)
   (try simp only [puS])
   refine wpAnyH_take (i := 11) (oi := _) (v := ?_) rfl (by kernel_rfl) (by kernel_rfl) (by kernel_rfl) (fun _ _ _ h => h) (Or.inl ⟨by rfl, ?_⟩) hHeld ?_
   rotate_left
   · intro W hSw
     (try dsimp only at hSw)
     go_simp
     (try with_reducible rfl)
   (try simp only [puS])
   refine wpAnyH_take (i := 12) (oi := _) (v := ?_) rfl (by kernel_rfl) (by kernel_rfl) (by kernel_rfl) (fun _ _ _ h => h) (Or.inl ⟨by rfl, ?_⟩) hHeld ?_
   rotate_left
   · intro W hSw
     (try dsimp only at hSw)
     go_simp
     (try with_reducible rfl)
   (try simp only [puS])
   refine wpAnyH_take (i := 13) (oi := _) (v := ?_) rfl (by kernel_rfl) (by kernel_rfl) (by kernel_rfl) (fun _ _ _ h => h) (Or.inl ⟨by rfl, ?_⟩) hHeld ?_
   rotate_left
   · intro W hSw
     (try dsimp only at hSw)
     go_simp
     (try with_reducible rfl)
   (try simp only [puS])
   refine wpAnyH_take (i := 14) (oi := _) (v := ?_) rfl (by kernel_rfl) (by kernel_rfl) (by kernel_rfl) (fun _ _ _ h => h) (Or.inl ⟨by rfl, ?_⟩) hHeld ?_
   rotate_left
   · intro W hSw
     (try dsimp only at hSw)
     go_simp
     (try with_reducible rfl)
   (try simp only [puS])
   refine wpAnyH_take (i := 15) (oi := _) (v := ?_) rfl (by kernel_rfl) (by kernel_rfl) (by kernel_rfl) (fun _ _ _ h => h) (Or.inl ⟨by rfl, ?_⟩) hHeld ?_
   rotate_left
   · intro W hSw
     (try dsimp only at hSw)
     go_simp
     (try with_reducible rfl)
   (try simp only [puS])
   refine wpAnyH_take (i := 16) (oi := _) (v := ?_) rfl (by kernel_rfl) (by kernel_rfl) (by kernel_rfl) (fun _ _ _ h => h) (Or.inl ⟨by rfl, ?_⟩) hHeld ?_
   rotate_left
   · intro W hSw
     (try dsimp only at hSw)
     go_simp
     (try with_reducible rfl)
   (try simp only [puS])
   refine wpAnyH_take (i := 17) (oi := _) (v := ?_) rfl (by kernel_rfl) (by kernel_rfl) (by kernel_rfl) (fun _ _ _ h => h) (Or.inl ⟨by rfl, ?_⟩) hHeld ?_
   rotate_left
   · intro W hSw
     (try dsimp only at hSw)
     go_simp
     (try with_reducible rfl)
   (try simp only [puS])
   refine wpAnyH_take (i := 18) (oi := _) (v := ?_) rfl (by kernel_rfl) (by kernel_rfl) (by kernel_rfl) (fun _ _ _ h => h) (Or.inl ⟨by rfl, ?_⟩) hHeld ?_
   rotate_left
   · intro W hSw
     (try dsimp only at hSw)
     go_simp
     (try with_reducible rfl)
   (try simp only [puS])
   refine wpAnyH_take (i := 19) (oi := _) (v := ?_) rfl (by kernel_rfl) (by kernel_rfl) (by kernel_rfl) (fun _ _ _ h => h) (Or.inl ⟨by rfl, ?_⟩) hHeld ?_
   rotate_left
   · intro W hSw
     (try dsimp only at hSw)
     go_simp
     (try with_reducible rfl)
   (try simp only [puS])
   refine wpAnyH_take (i := 20) (oi := _) (v := ?_) rfl (by kernel_rfl) (by kernel_rfl) (by kernel_rfl) (fun _ _ _ h => h) (Or.inl ⟨by rfl, ?_⟩) hHeld ?_
   rotate_left
   · intro W hSw
     (try dsimp only at hSw)
     go_simp
     (try with_reducible rfl)
   (try simp only [puS])
   refine wpAnyH_take (i := 21) (oi := _) (v := ?_) rfl (by kernel_rfl) (by kernel_rfl) (by kernel_rfl) (fun _ _ _ h => h) (Or.inl ⟨by rfl, ?_⟩) hHeld ?_
   rotate_left
   · intro W hSw
     (try dsimp only at hSw)
     go_simp
     (try with_reducible rfl)
   (try simp only [puS])
   refine wpAnyH_take (i := 22) (oi := _) (v := ?_) rfl (by kernel_rfl) (by kernel_rfl) (by kernel_rfl) (fun _ _ _ h => h) (Or.inl ⟨by rfl, ?_⟩) hHeld ?_
   rotate_left
   · intro W hSw
     (try dsimp only at hSw)
     go_simp
     (try with_reducible rfl)
   (try simp only [puS])
   refine wpAnyH_take (i := 23) (oi := _) (v := ?_) rfl (by kernel_rfl) (by kernel_rfl) (by kernel_rfl) (fun _ _ _ h => h) (Or.inl ⟨by rfl, ?_⟩) hHeld ?_
   rotate_left
   · intro W hSw
     (try dsimp only at hSw)
     go_simp
     (try with_reducible rfl)
   (try simp only [puS])
   refine wpAnyH_take (i := 24) (oi := _) (v := ?_) rfl (by kernel_rfl) (by kernel_rfl) (by kernel_rfl) (fun _ _ _ h => h) (Or.inl ⟨by rfl, ?_⟩) hHeld ?_
   rotate_left
   · intro W hSw
     (try dsimp only at hSw)
     go_simp
     (try with_reducible rfl)
   (try simp only [puS])
   refine wpAnyH_take (i := 25) (oi := _) (v := ?_) rfl (by kernel_rfl) (by kernel_rfl) (by kernel_rfl) (fun _ _ _ h => h) (Or.inl ⟨by rfl, ?_⟩) hHeld ?_
   rotate_left
   · intro W hSw
     (try dsimp only at hSw)
     go_simp
     (try with_reducible rfl)
   (try simp only [puS])
   refine wpAnyH_take (i := 26) (oi := _) (v := ?_) rfl (by kernel_rfl) (by kernel_rfl) (by kernel_rfl) (fun _ _ _ h => h) (Or.inl ⟨by rfl, ?_⟩) hHeld ?_
   rotate_left
   · intro W hSw
     (try dsimp only at hSw)
     go_simp
     (try with_reducible rfl)
   (try simp only [puS])
   refine wpAnyH_take (i := 27) (oi := _) (v := ?_) rfl (by kernel_rfl) (by kernel_rfl) (by kernel_rfl) (fun _ _ _ h => h) (Or.inl ⟨by rfl, ?_⟩) hHeld ?_
   rotate_left
   · intro W hSw
     (try dsimp only at hSw)
     go_simp
     (try with_reducible rfl)
   (try simp only [puS])
   refine wpAnyH_take (i := 28) (oi := _) (v := ?_) rfl (by kernel_rfl) (by kernel_rfl) (by kernel_rfl) (fun _ _ _ h => h) (Or.inl ⟨by rfl, ?_⟩) hHeld ?_
   rotate_left
   · intro W hSw
     (try dsimp only at hSw)
     go_simp
     (try with_reducible rfl)
   (try simp only [puS])
   refine wpAnyH_take (i := 29) (oi := _) (v := ?_) rfl (by kernel_rfl) (by kernel_rfl) (by kernel_rfl) (fun _ _ _ h => h) (Or.inl ⟨by rfl, ?_⟩) hHeld ?_
   rotate_left
   · intro W hSw
     (try dsimp only at hSw)
     go_simp
     (try with_reducible rfl)
   (try simp only [puS])
   refine wpAnyH_take (i := 30) (oi := _) (v := ?_) rfl (by kernel_rfl) (by kernel_rfl) (by kernel_rfl) (fun _ _ _ h => h) (Or.inl ⟨by rfl, ?_⟩) hHeld ?_
   rotate_left
   · intro W hSw
     (try dsimp only at hSw)
     go_simp
     (try with_reducible rfl)
   (try simp only [puS])
   refine wpAnyH_ready (rs := [31]) (by kernel_rfl) (by simp) ?_
   refine AllReadyH.cons (o := _) rfl (fun K hK => ?_) AllReadyH.nil
   go_simp
   skip
   refine hK.out _ _ trivial (fun hHeld => ?_)
   clear hK K
   (try simp only [puS])
   refine wpAnyH_take (i := 32) (oi := { dst := some 2, op := Go.Op.assign (.tmp 127), type := 65, pos := "things.go:50", after := #[{ on := 31, ground := Go.Ground.data }, { on := 0, ground := Go.Ground.phase }, { on := 1, ground := Go.Ground.phase }, { on := 2, ground := Go.Ground.phase }, { on := 3, ground := Go.Ground.phase }, { on := 4, ground := Go.Ground.phase }, { on := 5, ground := Go.Ground.phase }, { on := 6, ground := Go.Ground.phase }, { on := 7, ground := Go.Ground.phase }, { on := 8, ground := Go.Ground.phase }, { on := 9, ground := Go.Ground.phase }, { on := 10, ground := Go.Ground.phase }, { on := 11, ground := Go.Ground.phase }, { on := 12, ground := Go.Ground.phase }, { on := 13, ground := Go.Ground.phase }, { on := 14, ground := Go.Ground.phase }, { on := 15, ground := Go.Ground.phase }, { on := 16, ground := Go.Ground.phase }, { on := 17, ground := Go.Ground.phase }, { on := 18, ground := Go.Ground.phase }, { on := 19, ground := Go.Ground.phase }, { on := 20, ground := Go.Ground.phase }, { on := 21, ground := Go.Ground.phase }, { on := 22, ground := Go.Ground.phase }, { on := 23, ground := Go.Ground.phase }, { on := 24, ground := Go.Ground.phase }, { on := 25, ground := Go.Ground.phase }, { on := 26, ground := Go.Ground.phase }, { on := 27, ground := Go.Ground.phase }, { on := 28, ground := Go.Ground.phase }, { on := 29, ground := Go.Ground.phase }, { on := 30, ground := Go.Ground.phase }, { on := 31, ground := Go.Ground.phase }], guard := Option.none }) (v := ?_) rfl (by kernel_rfl) (by kernel_rfl) (by kernel_rfl) (fun _ _ _ h => h) (Or.inl ⟨by rfl, ?_⟩) hHeld ?_
   rotate_left
   · intro W hSw
     (try dsimp only at hSw)
     go_simp
     (try with_reducible rfl)
   (try simp only [puS])
   refine wpAnyH_done (by kernel_rfl) ?_ _
   clear hHeld
   go_wp2
   go_ret
   exact ⟨_, rfl, KD.out.addBlk _ _⟩
 rw [if_neg h6]
 have e6 : (k == 6) = false := by simpa using h6
 by_cases h7 : k = 7
 · rw [if_pos (Or.inl h7)]
   subst h7
   go_enter Tryz.func28, Tryz.ntmps28
   go_upto_region 16 with fail
   refine wp_region_held_drew (S := (fun _ => True)) (by kernel_rfl) trivial (fun hHeld => ?_)
   have KD := hid HA.out.drew
   generalize World.drew _ = wd at *
   refine wpAnyH_take (i := 0) (oi := _) (v := ?_) rfl (by kernel_rfl) (by kernel_rfl) (by kernel_rfl) (fun _ _ _ h => h) (Or.inl ⟨by rfl, ?_⟩) hHeld ?_
   rotate_left
   · intro W hSw
     (try dsimp only at hSw)
     go_simp
     (try with_reducible rfl)
   (try simp only [puS])
   refine wpAnyH_take (i := 1) (oi := _) (v := ?_) rfl (by kernel_rfl) (by kernel_rfl) (by kernel_rfl) (fun _ _ _ h => h) (Or.inl ⟨by rfl, ?_⟩) hHeld ?_
   rotate_left
   · intro W hSw
     (try dsimp only at hSw)
     go_simp
     (try with_reducible rfl)
   (try simp only [puS])
   refine wpAnyH_take (i := 2) (oi := _) (v := ?_) rfl (by kernel_rfl) (by kernel_rfl) (by kernel_rfl) (fun _ _ _ h => h) (Or.inl ⟨by rfl, ?_⟩) hHeld ?_
   rotate_left
   · intro W hSw
     (try dsimp only at hSw)
     go_simp
     (try with_reducible rfl)
   (try simp only [puS])
   refine wpAnyH_take (i := 3) (oi := _) (v := ?_) rfl (by kernel_rfl) (by kernel_rfl) (by kernel_rfl) (fun _ _ _ h => h) (Or.inl ⟨by rfl, ?_⟩) hHeld ?_
   rotate_left
   · intro W hSw
     (try dsimp only at hSw)
     go_simp
     (try with_reducible rfl)
   (try simp only [puS])
   refine wpAnyH_take (i := 4) (oi := _) (v := ?_) rfl (by kernel_rfl) (by kernel_rfl) (by kernel_rfl) (fun _ _ _ h => h) (Or.inl ⟨by rfl, ?_⟩) hHeld ?_
   rotate_left
   · intro W hSw
     (try dsimp only at hSw)
     go_simp
     (try with_reducible rfl)
   (try simp only [puS])
   refine wpAnyH_take (i := 5) (oi := _) (v := ?_) rfl (by kernel_rfl) (by kernel_rfl) (by kernel_rfl) (fun _ _ _ h => h) (Or.inl ⟨by rfl, ?_⟩) hHeld ?_
   rotate_left
   · intro W hSw
     (try dsimp only at hSw)
     go_simp
     (try with_reducible rfl)
   (try simp only [puS])
   refine wpAnyH_take (i := 6) (oi := _) (v := ?_) rfl (by kernel_rfl) (by kernel_rfl) (by kernel_rfl) (fun _ _ _ h => h) (Or.inl ⟨by rfl, ?_⟩) hHeld ?_
   rotate_left
   · intro W hSw
     (try dsimp only at hSw)
     go_simp
     (try with_reducible rfl)
   (try simp only [puS])
   refine wpAnyH_take (i := 7) (oi := _) (v := ?_) rfl (by kernel_rfl) (by kernel_rfl) (by kernel_rfl) (fun _ _ _ h => h) (Or.inl ⟨by rfl, ?_⟩) hHeld ?_
   rotate_left
   · intro W hSw
     (try dsimp only at hSw)
     go_simp
     (try with_reducible rfl)
   (try simp only [puS])
   refine wpAnyH_ready (rs := [8]) (by kernel_rfl) (by simp) ?_
   refine AllReadyH.cons (o := _) rfl (fun K hK => ?_) AllReadyH.nil
   go_simp
   skip
   refine hK.out _ _ trivial (fun hHeld => ?_)
   clear hK K
   (try simp only [puS])
   refine wpAnyH_take (i := 9) (oi := { dst := some 2, op := Go.Op.assign (.tmp 139), type := 65, pos := "things.go:52", after := #[{ on := 8, ground := Go.Ground.data }, { on := 0, ground := Go.Ground.phase }, { on := 1, ground := Go.Ground.phase }, { on := 2, ground := Go.Ground.phase }, { on := 3, ground := Go.Ground.phase }, { on := 4, ground := Go.Ground.phase }, { on := 5, ground := Go.Ground.phase }, { on := 6, ground := Go.Ground.phase }, { on := 7, ground := Go.Ground.phase }, { on := 8, ground := Go.Ground.phase }], guard := Option.none }) (v := ?_) rfl (by kernel_rfl) (by kernel_rfl) (by kernel_rfl) (fun _ _ _ h => h) (Or.inl ⟨by rfl, ?_⟩) hHeld ?_
   rotate_left
   · intro W hSw
     (try dsimp only at hSw)
     go_simp
     (try with_reducible rfl)
   (try simp only [puS])
   refine wpAnyH_done (by kernel_rfl) ?_ _
   clear hHeld
   go_wp2
   go_ret
   exact ⟨_, rfl, KD.out.addBlk _ _⟩
 have e7 : (k == 7) = false := by simpa using h7
 by_cases hx : k = 10
 · rw [if_pos (Or.inr hx)]
   subst hx
   go_enter Tryz.func28, Tryz.ntmps28
   go_upto_region 16 with fail
   refine wp_region_held_drew (S := (fun _ => True)) (by kernel_rfl) trivial (fun hHeld => ?_)
   have KD := hid HA.out.drew
   generalize World.drew _ = wd at *
   refine wpAnyH_take (i := 0) (oi := _) (v := ?_) rfl (by kernel_rfl) (by kernel_rfl) (by kernel_rfl) (fun _ _ _ h => h) (Or.inl ⟨by rfl, ?_⟩) hHeld ?_
   rotate_left
   · intro W hSw
     (try dsimp only at hSw)
     go_simp
     (try with_reducible rfl)
   (try simp only [puS])
   refine wpAnyH_take (i := 1) (oi := _) (v := ?_) rfl (by kernel_rfl) (by kernel_rfl) (by kernel_rfl) (fun _ _ _ h => h) (Or.inl ⟨by rfl, ?_⟩) hHeld ?_
   rotate_left
   · intro W hSw
     (try dsimp only at hSw)
     go_simp
     (try with_reducible rfl)
   (try simp only [puS])
   refine wpAnyH_take (i := 2) (oi := _) (v := ?_) rfl (by kernel_rfl) (by kernel_rfl) (by kernel_rfl) (fun _ _ _ h => h) (Or.inl ⟨by rfl, ?_⟩) hHeld ?_
   rotate_left
   · intro W hSw
     (try dsimp only at hSw)
     go_simp
     (try with_reducible rfl)
   (try simp only [puS])
   refine wpAnyH_take (i := 3) (oi := _) (v := ?_) rfl (by kernel_rfl) (by kernel_rfl) (by kernel_rfl) (fun _ _ _ h => h) (Or.inl ⟨by rfl, ?_⟩) hHeld ?_
   rotate_left
   · intro W hSw
     (try dsimp only at hSw)
     go_simp
     (try with_reducible rfl)
   (try simp only [puS])
   refine wpAnyH_take (i := 4) (oi := _) (v := ?_) rfl (by kernel_rfl) (by kernel_rfl) (by kernel_rfl) (fun _ _ _ h => h) (Or.inl ⟨by rfl, ?_⟩) hHeld ?_
   rotate_left
   · intro W hSw
     (try dsimp only at hSw)
     go_simp
     (try with_reducible rfl)
   (try simp only [puS])
   refine wpAnyH_take (i := 5) (oi := _) (v := ?_) rfl (by kernel_rfl) (by kernel_rfl) (by kernel_rfl) (fun _ _ _ h => h) (Or.inl ⟨by rfl, ?_⟩) hHeld ?_
   rotate_left
   · intro W hSw
     (try dsimp only at hSw)
     go_simp
     (try with_reducible rfl)
   (try simp only [puS])
   refine wpAnyH_take (i := 6) (oi := _) (v := ?_) rfl (by kernel_rfl) (by kernel_rfl) (by kernel_rfl) (fun _ _ _ h => h) (Or.inl ⟨by rfl, ?_⟩) hHeld ?_
   rotate_left
   · intro W hSw
     (try dsimp only at hSw)
     go_simp
     (try with_reducible rfl)
   (try simp only [puS])
   refine wpAnyH_take (i := 7) (oi := _) (v := ?_) rfl (by kernel_rfl) (by kernel_rfl) (by kernel_rfl) (fun _ _ _ h => h) (Or.inl ⟨by rfl, ?_⟩) hHeld ?_
   rotate_left
   · intro W hSw
     (try dsimp only at hSw)
     go_simp
     (try with_reducible rfl)
   (try simp only [puS])
   refine wpAnyH_ready (rs := [8]) (by kernel_rfl) (by simp) ?_
   refine AllReadyH.cons (o := _) rfl (fun K hK => ?_) AllReadyH.nil
   go_simp
   skip
   refine hK.out _ _ trivial (fun hHeld => ?_)
   clear hK K
   (try simp only [puS])
   refine wpAnyH_take (i := 9) (oi := { dst := some 2, op := Go.Op.assign (.tmp 139), type := 65, pos := "things.go:52", after := #[{ on := 8, ground := Go.Ground.data }, { on := 0, ground := Go.Ground.phase }, { on := 1, ground := Go.Ground.phase }, { on := 2, ground := Go.Ground.phase }, { on := 3, ground := Go.Ground.phase }, { on := 4, ground := Go.Ground.phase }, { on := 5, ground := Go.Ground.phase }, { on := 6, ground := Go.Ground.phase }, { on := 7, ground := Go.Ground.phase }, { on := 8, ground := Go.Ground.phase }], guard := Option.none }) (v := ?_) rfl (by kernel_rfl) (by kernel_rfl) (by kernel_rfl) (fun _ _ _ h => h) (Or.inl ⟨by rfl, ?_⟩) hHeld ?_
   rotate_left
   · intro W hSw
     (try dsimp only at hSw)
     go_simp
     (try with_reducible rfl)
   (try simp only [puS])
   refine wpAnyH_done (by kernel_rfl) ?_ _
   clear hHeld
   go_wp2
   go_ret
   exact ⟨_, rfl, KD.out.addBlk _ _⟩
 have ex : (k == 10) = false := by simpa using hx
 rw [if_neg (by omega)]
 by_cases hy : k = 11
 · rw [if_pos hy]
   subst hy
   go_enter Tryz.func28, Tryz.ntmps28
   go_upto_region 18 with fail
   refine wp_region_held_drew (S := (fun _ => True)) (by kernel_rfl) trivial (fun hHeld => ?_)
   have KD := hid HA.out.drew
   generalize World.drew _ = wd at *
   refine wpAnyH_take (i := 0) (oi := _) (v := ?_) rfl (by kernel_rfl) (by kernel_rfl) (by kernel_rfl) (fun _ _ _ h => h) (Or.inl ⟨by rfl, ?_⟩) hHeld ?_
   rotate_left
   · intro W hSw
     (try dsimp only at hSw)
     go_simp
     (try with_reducible rfl)
   (try simp only [puS])
   refine wpAnyH_take (i := 1) (oi := _) (v := ?_) rfl (by kernel_rfl) (by kernel_rfl) (by kernel_rfl) (fun _ _ _ h => h) (Or.inl ⟨by rfl, ?_⟩) hHeld ?_
   rotate_left
   · intro W hSw
     (try dsimp only at hSw)
     go_simp
     (try with_reducible rfl)
   (try simp only [puS])
   refine wpAnyH_take (i := 2) (oi := _) (v := ?_) rfl (by kernel_rfl) (by kernel_rfl) (by kernel_rfl) (fun _ _ _ h => h) (Or.inl ⟨by rfl, ?_⟩) hHeld ?_
   rotate_left
   · intro W hSw
     (try dsimp only at hSw)
     go_simp
     (try with_reducible rfl)
   (try simp only [puS])
   refine wpAnyH_take (i := 3) (oi := _) (v := ?_) rfl (by kernel_rfl) (by kernel_rfl) (by kernel_rfl) (fun _ _ _ h => h) (Or.inl ⟨by rfl, ?_⟩) hHeld ?_
   rotate_left
   · intro W hSw
     (try dsimp only at hSw)
     go_simp
     (try with_reducible rfl)
   (try simp only [puS])
   refine wpAnyH_take (i := 4) (oi := _) (v := ?_) rfl (by kernel_rfl) (by kernel_rfl) (by kernel_rfl) (fun _ _ _ h => h) (Or.inl ⟨by rfl, ?_⟩) hHeld ?_
   rotate_left
   · intro W hSw
     (try dsimp only at hSw)
     go_simp
     (try with_reducible rfl)
   (try simp only [puS])
   refine wpAnyH_take (i := 5) (oi := _) (v := ?_) rfl (by kernel_rfl) (by kernel_rfl) (by kernel_rfl) (fun _ _ _ h => h) (Or.inl ⟨by rfl, ?_⟩) hHeld ?_
   rotate_left
   · intro W hSw
     (try dsimp only at hSw)
     go_simp
     (try with_reducible rfl)
   (try simp only [puS])
   refine wpAnyH_take (i := 6) (oi := _) (v := ?_) rfl (by kernel_rfl) (by kernel_rfl) (by kernel_rfl) (fun _ _ _ h => h) (Or.inl ⟨by rfl, ?_⟩) hHeld ?_
   rotate_left
   · intro W hSw
     (try dsimp only at hSw)
     go_simp
     (try with_reducible rfl)
   (try simp only [puS])
   refine wpAnyH_take (i := 7) (oi := _) (v := ?_) rfl (by kernel_rfl) (by kernel_rfl) (by kernel_rfl) (fun _ _ _ h => h) (Or.inl ⟨by rfl, ?_⟩) hHeld ?_
   rotate_left
   · intro W hSw
     (try dsimp only at hSw)
     go_simp
     (try with_reducible rfl)
   (try simp only [puS])
   refine wpAnyH_ready (rs := [8]) (by kernel_rfl) (by simp) ?_
   refine AllReadyH.cons (o := _) rfl (fun K hK => ?_) AllReadyH.nil
   go_simp
   skip
   refine hK.out _ _ trivial (fun hHeld => ?_)
   clear hK K
   (try simp only [puS])
   refine wpAnyH_take (i := 9) (oi := { dst := some 2, op := Go.Op.assign (.tmp 150), type := 65, pos := "things.go:54", after := #[{ on := 8, ground := Go.Ground.data }, { on := 0, ground := Go.Ground.phase }, { on := 1, ground := Go.Ground.phase }, { on := 2, ground := Go.Ground.phase }, { on := 3, ground := Go.Ground.phase }, { on := 4, ground := Go.Ground.phase }, { on := 5, ground := Go.Ground.phase }, { on := 6, ground := Go.Ground.phase }, { on := 7, ground := Go.Ground.phase }, { on := 8, ground := Go.Ground.phase }], guard := Option.none }) (v := ?_) rfl (by kernel_rfl) (by kernel_rfl) (by kernel_rfl) (fun _ _ _ h => h) (Or.inl ⟨by rfl, ?_⟩) hHeld ?_
   rotate_left
   · intro W hSw
     (try dsimp only at hSw)
     go_simp
     (try with_reducible rfl)
   (try simp only [puS])
   refine wpAnyH_done (by kernel_rfl) ?_ _
   clear hHeld
   go_wp2
   go_ret
   exact ⟨_, rfl, KD.out.addBlk _ _⟩
 rw [if_neg hy]
 have ey : (k == 11) = false := by simpa using hy
 clear h1 h2 h3 h4 h5 h6 h7 hx hy
 go_enter Tryz.func28, Tryz.ntmps28
 go_wp2
 go_ret
 exact ⟨_, rfl, HA.out.addBlk _ _⟩
end Go.Proofs.YtfeppannfcbakaaGreatDoor
