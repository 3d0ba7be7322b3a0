import Derived.Test.YtdhkdniddjnigaaGreatDoorGg
namespace Go.Proofs.YtdhkdniddjnigaaGreatDoor
open Go.RowKit
set_option linter.unusedVariables false

def reqV (P : Nat) (q : Wi) : Value := .agg #[ptr P, .int .i64 q.o.k, .string ⟨q.o.nm.toArray⟩, .string ⟨q.o.tx.toArray⟩, .int .i64 (q.o.n : Int), .int .i64 (q.o.m : Int)]
def queV (P : Nat) (q : Wi) : Value := .agg #[ptr P, .int .i64 q.o.k, .string ⟨q.o.nm.toArray⟩, .string ⟨q.o.tx.toArray⟩, .int .i64 (q.o.n : Int), .int .i64 (q.o.m : Int), .int .i64 q.who]
set_option maxRecDepth 1000000 in
theorem reqBegin_any {P : Nat} {x : Px} {b m n1 n2 : Int} {cs : List Comp} {w w0 : World} (h : All (pxL P x b m n1 n2 ++ cs) w) (hT : Tab w0) (hin : inC w0 ∈ cs) (I : PxI x m n1 n2) (q : Wi) (hq : q.ask = false) :
    Calls Tryz.prog 163 #[reqV P q] w (BgPost P x b m n1 n2 q cs) := by
  have C := hid (submit_any (h.alloc (.cells #[ptr P, .int .i64 q.o.k, .string ⟨q.o.nm.toArray⟩, .string ⟨q.o.tx.toArray⟩, .int .i64 (q.o.n : Int), .int .i64 (q.o.m : Int)] 216)) hT hin I q hq)
  unfold OpR.val at C
  unfold reqV
  clear h hT hin I hq
  obtain ⟨BP, hBP⟩ : ∃ BP, Hid (BP = BgPost P x b m n1 n2 q cs) := ⟨_, hid rfl⟩
  have HF : Hid (∀ e w', BP e w' → ∃ v er, e = .returned (.tuple #[v, .int .i64 er]) ∧ ∃ ao n c, v = .slice ao n c) := hid (fun e w' h => by
    rw [hBP.out] at h
    rcases h with ⟨_, rfl, _⟩ | ⟨_, H, rfl, _⟩
    · exact ⟨_, _, rfl, _, _, _, rfl⟩
    · exact ⟨_, _, rfl, _, _, _, rfl⟩)
  rw [← hBP.out] at C ⊢
  clear hBP
  generalize ByteArray.mk q.o.nm.toArray = NM at *
  generalize ByteArray.mk q.o.tx.toArray = TX at *
  generalize q.o.k = k at *
  generalize (q.o.n : Int) = nn at *
  generalize (q.o.m : Int) = mm at *
  go_enter Tryz.func163, Tryz.ntmps163
  go_wp2_with (go_at_call 191; refine C.out.mono ?_; rintro e w' hp; obtain ⟨v, er, rfl, ao, n, c, rfl⟩ := HF.out e w' hp; have HP := hid hp; clear hp)
  exact HP.out
set_option maxRecDepth 1000000 in
theorem queBegin_any {P : Nat} {x : Px} {b m n1 n2 : Int} {cs : List Comp} {w w0 : World} (h : All (pxL P x b m n1 n2 ++ cs) w) (hT : Tab w0) (hin : inC w0 ∈ cs) (I : PxI x m n1 n2) (q : Wi) (hq : q.ask = true) :
    Calls Tryz.prog 165 #[queV P q] w (BgPost P x b m n1 n2 q cs) := by
  have C := hid (ask_any' (h.alloc (.cells #[ptr P, .int .i64 q.o.k, .string ⟨q.o.nm.toArray⟩, .string ⟨q.o.tx.toArray⟩, .int .i64 (q.o.n : Int), .int .i64 (q.o.m : Int), .int .i64 q.who] 218)) hT hin I q hq)
  unfold OpR.val at C
  unfold queV
  clear h hT hin I hq
  obtain ⟨BP, hBP⟩ : ∃ BP, Hid (BP = BgPost P x b m n1 n2 q cs) := ⟨_, hid rfl⟩
  have HF : Hid (∀ e w', BP e w' → ∃ v er, e = .returned (.tuple #[v, .int .i64 er]) ∧ ∃ ao n c, v = .slice ao n c) := hid (fun e w' h => by
    rw [hBP.out] at h
    rcases h with ⟨_, rfl, _⟩ | ⟨_, H, rfl, _⟩
    · exact ⟨_, _, rfl, _, _, _, rfl⟩
    · exact ⟨_, _, rfl, _, _, _, rfl⟩)
  rw [← hBP.out] at C ⊢
  clear hBP
  generalize ByteArray.mk q.o.nm.toArray = NM at *
  generalize ByteArray.mk q.o.tx.toArray = TX at *
  generalize q.o.k = k at *
  generalize q.who = who at *
  generalize (q.o.n : Int) = nn at *
  generalize (q.o.m : Int) = mm at *
  go_enter Tryz.func165, Tryz.ntmps165
  go_wp2_with (go_at_call 193; refine C.out.mono ?_; rintro e w' hp; obtain ⟨v, er, rfl, ao, n, c, rfl⟩ := HF.out e w' hp; have HP := hid hp; clear hp)
  exact HP.out
end Go.Proofs.YtdhkdniddjnigaaGreatDoor
