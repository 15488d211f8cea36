/- The document's Make: all ways. -/
import Derived.Test.YtnbpfbmhheimbaaGreatDoorSpRefM
namespace Go.Proofs.YtnbpfbmhheimbaaGreatDoor
open Go.RowKit Go.Proofs.Fld Go.Proofs.Rng Go.Proofs.Spc Go.Shelf Go.Sort

theorem RMake_w {w : World} {ao : Option Addr} {k0 cap : Nat} {zs : List Ov} {l : List Ob} {c : Int} {nm : It} {q k m : Int} {a : List Ob} {kr : Nat} (hr : mkR l q nm k m = (c, a)) (hkr : a.length = kr) (hnm : nm.length ≤ 100000) (hL : SO w ao k0 cap zs l) :
    Calls Tryz.prog 29 #[.slice ao k0 cap, .int .i64 q, .string (bs nm), .int .i64 k, .int .i64 m] w (ResS c a kr w) := by
  cases h1 : rightB l with
  | false =>
    rw [mk_e1 h1] at hr
    obtain ⟨rfl, rfl⟩ := Prod.mk.inj hr
    subst hkr
    exact mkd_1 hnm h1 hL
  | true =>
    cases h2 : nameB nm with
    | false =>
      rw [mk_e2 h1 h2] at hr
      obtain ⟨rfl, rfl⟩ := Prod.mk.inj hr
      subst hkr
      exact mkd_2 hnm h1 h2 hL
    | true =>
      by_cases h3 : k ≠ 1 ∧ k ≠ 2
      · rw [mk_e3 h1 h2 h3] at hr
        obtain ⟨rfl, rfl⟩ := Prod.mk.inj hr
        subst hkr
        exact mkd_3 hnm h1 h2 h3 hL
      · have h3' : k = 1 ∨ k = 2 := by omega
        cases h4 : getO l nm with
        | some o =>
          rw [mk_e4 h1 h2 h3' h4] at hr
          obtain ⟨rfl, rfl⟩ := Prod.mk.inj hr
          subst hkr
          rcases h3' with rfl | rfl
          · exact mkd_41 (_k := 0) hnm h1 h2 h4 hL
          · exact mkd_42 (_k := 0) hnm h1 h2 h4 hL
        | none =>
          by_cases h5 : m < 0 ∨ 2000 < m
          · rw [mk_e5 h1 h2 h3' h4 (.inr h5)] at hr
            obtain ⟨rfl, rfl⟩ := Prod.mk.inj hr
            subst hkr
            rcases h3' with rfl | rfl
            · exact mkd_51 (_k := 0) hnm h1 h2 h4 h5 hL
            · exact mkd_52 (_k := 0) hnm h1 h2 h4 h5 hL
          · rcases h3' with rfl | rfl
            · by_cases h6 : m = 0
              · subst h6
                rw [mk_doc h1 h2 (.inl rfl) h4 (fun _ => rfl) (by omega) (by omega)] at hr
                exact mkd_ok1 hnm h1 h2 h4 rfl hr hkr hL
              · rw [mk_e5 h1 h2 (.inl rfl) h4 (.inl ⟨rfl, h6⟩)] at hr
                obtain ⟨rfl, rfl⟩ := Prod.mk.inj hr
                subst hkr
                exact mkd_6 (_k := 0) hnm h1 h2 h4 h5 h6 hL
            · rw [mk_doc h1 h2 (.inr rfl) h4 (fun h => by omega) (by omega) (by omega)] at hr
              exact mkd_ok2 hnm h1 h2 h4 h5 rfl hr hkr hL

end Go.Proofs.YtnbpfbmhheimbaaGreatDoor
