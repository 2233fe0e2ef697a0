import PyProof.Rows.All
import Wide.All
import OpenK.AllK
import Wide.FinOn
import HandS.ForMost
import HandS.IsInst
import HandS.WideBits
import HandS.Style
import HandS.SortInts
import HandS.EndTab
import HandS.NoneIn
import HandS.Walk
import PyProof.LongRange
import HandS.Gcd
import HandS.Conv
import HandS.More
import HandS.SetFor
import HandS.SortRule
import HandS.Zip
import HandS.Flow
import KE.DatumOrd
import KE.DatumMore
import HandS.ExcInit
import HandS.ExcField
import HandS.ExcSuper
import HandS.TryMany
import HandS.WordsExc
import HandS.Lambda
import KE.KExcSuper
import PySem.Challenge.RW_farwrap_k14_two_lines_compared
set_option Elab.async false
set_option linter.all false
set_option maxRecDepth 100000
set_option maxHeartbeats 4000000
namespace Fw
open PySem L2
def rIntC : List V → Hp → VK → Prop := fun xs H Q => (∃ i, xs = [.int i] ∧ Q (.int i) H) ∨ ∃ k, xs = [.bl k] ∧ Q (.int (if k then 1 else 0)) H
def ab (x : Int) : Int := if x < 0 then -x else x
def rIsNn : R2 := fun x y H Q => y = .non ∧ Q (.bl (decide (x = .non))) H
def rAbsC : List V → Hp → VK → Prop := fun xs H Q => ∃ i, xs = [.int i] ∧ Q (.int (if i < 0 then -i else i)) H
def rLenS (K : PySem.W.Frag) : List V → Hp → VK → Prop := fun xs H Q => ∃ p ys, xs = [.ref p] ∧ (SqL K H p ys ∨ SqT K H p ys) ∧ Q (.int ys.length) H
section
variable {X : Cx} {CX : CXT} {k : Nat} {f : Addr} {fd : FuncData} {ps ks : List Str} {sp : Sp} {E : XK} {x : Str} {p pos : Pos} {kws : List Keyword} {tk : TA} {g : List Value → List Value → List Value} {gV : List V → List V → List V}
/-- f(k = v, ..), no positional argument -/
theorem pe_callK0 (F : FnOk X.prog X.w X.K X.mg X.base CX k f fd ps sp) (hr : Room k X.A) (hg : Gl X x) (hm : X.mg x = some (.ref f)) (hk : PySem.W.keepIn X.K (.ref f) = true) (hb : KBinds X.K fd ps ks g gV) (hx : Passes CX X E)
    (hkw : PK X kws tk) (hall : (backToKw pos (keywordEach kws X.env)).all (·.1.isSome) = true := by rfl) (hks : (backToKw pos (keywordEach kws X.env)).filterMap (·.1) = ks := by rfl)
    (hdb : (x == ("__debug__" : Str)) = false := by decide)
    (hpl : ((backTo pos (starEach [] X.env)).any (·.1) || (backToKw pos (keywordEach kws X.env)).any (·.1.isNone)) = false := by rfl) :
    PE X (.Call (.Name x p) [] kws pos) (tCallK sp gV E tNil tk) := by
  refine ⟨fun pins s σ H Q I h => ?_⟩
  refine wpAny_Call_Name_kw (ld_glob I hg hm ?_ hdb)
  refine PySem.W.callWith_KW0 (h₀ := X.base) I.ok.mod.kin hk hall ?_ hpl
  have q : tk σ H fun zs H2 => sp (gV [] zs) H2 Q E := h
  refine thn (hkw.run pos pins s σ H _ I q) fun ws s2 ⟨zs, H2, I2, rz, q2⟩ => ⟨I2.kIn, ?_⟩
  rw [hks]
  exact run_fnk F hr hb hx I2 .nil rz q2
end

section
variable {K : PySem.W.Frag} {C : Addr} {σ : L2.St} {H : Hp} {Q : VK} {D : Ends} {ta tb tc te : TE} {tt tu : TT} {r : R2}
theorem w_c {v : V} (q : Q v H) : tC v σ H Q := q
theorem w_var {i : Nat} {v : V} (h : σ[i]? = some (some v)) (q : Q v H) : tVar i σ H Q := ⟨v, h, q⟩
theorem w_v0 {v : V} {r : L2.St} (q : Q v H) : tVar 0 (some v :: r) H Q := ⟨v, rfl, q⟩
theorem w_n0 {y : Option V} {v : V} {r : L2.St} {Q : L2.St → Hp → Prop} (q : Q (some v :: r) H) : gName 0 v (y :: r) H Q := q
theorem w_v1 {x0 : Option V} {v : V} {r : L2.St} (q : Q v H) : tVar 1 (x0 :: some v :: r) H Q := ⟨v, rfl, q⟩
theorem w_n1 {x0 : Option V} {y : Option V} {v : V} {r : L2.St} {Q : L2.St → Hp → Prop} (q : Q (x0 :: some v :: r) H) : gName 1 v (x0 :: y :: r) H Q := q
theorem w_v2 {x0 x1 : Option V} {v : V} {r : L2.St} (q : Q v H) : tVar 2 (x0 :: x1 :: some v :: r) H Q := ⟨v, rfl, q⟩
theorem w_n2 {x0 x1 : Option V} {y : Option V} {v : V} {r : L2.St} {Q : L2.St → Hp → Prop} (q : Q (x0 :: x1 :: some v :: r) H) : gName 2 v (x0 :: x1 :: y :: r) H Q := q
theorem w_v3 {x0 x1 x2 : Option V} {v : V} {r : L2.St} (q : Q v H) : tVar 3 (x0 :: x1 :: x2 :: some v :: r) H Q := ⟨v, rfl, q⟩
theorem w_n3 {x0 x1 x2 : Option V} {y : Option V} {v : V} {r : L2.St} {Q : L2.St → Hp → Prop} (q : Q (x0 :: x1 :: x2 :: some v :: r) H) : gName 3 v (x0 :: x1 :: x2 :: y :: r) H Q := q
theorem w_v4 {x0 x1 x2 x3 : Option V} {v : V} {r : L2.St} (q : Q v H) : tVar 4 (x0 :: x1 :: x2 :: x3 :: some v :: r) H Q := ⟨v, rfl, q⟩
theorem w_n4 {x0 x1 x2 x3 : Option V} {y : Option V} {v : V} {r : L2.St} {Q : L2.St → Hp → Prop} (q : Q (x0 :: x1 :: x2 :: x3 :: some v :: r) H) : gName 4 v (x0 :: x1 :: x2 :: x3 :: y :: r) H Q := q
theorem w_v5 {x0 x1 x2 x3 x4 : Option V} {v : V} {r : L2.St} (q : Q v H) : tVar 5 (x0 :: x1 :: x2 :: x3 :: x4 :: some v :: r) H Q := ⟨v, rfl, q⟩
theorem w_n5 {x0 x1 x2 x3 x4 : Option V} {y : Option V} {v : V} {r : L2.St} {Q : L2.St → Hp → Prop} (q : Q (x0 :: x1 :: x2 :: x3 :: x4 :: some v :: r) H) : gName 5 v (x0 :: x1 :: x2 :: x3 :: x4 :: y :: r) H Q := q
theorem w_v6 {x0 x1 x2 x3 x4 x5 : Option V} {v : V} {r : L2.St} (q : Q v H) : tVar 6 (x0 :: x1 :: x2 :: x3 :: x4 :: x5 :: some v :: r) H Q := ⟨v, rfl, q⟩
theorem w_n6 {x0 x1 x2 x3 x4 x5 : Option V} {y : Option V} {v : V} {r : L2.St} {Q : L2.St → Hp → Prop} (q : Q (x0 :: x1 :: x2 :: x3 :: x4 :: x5 :: some v :: r) H) : gName 6 v (x0 :: x1 :: x2 :: x3 :: x4 :: x5 :: y :: r) H Q := q
theorem w_v7 {x0 x1 x2 x3 x4 x5 x6 : Option V} {v : V} {r : L2.St} (q : Q v H) : tVar 7 (x0 :: x1 :: x2 :: x3 :: x4 :: x5 :: x6 :: some v :: r) H Q := ⟨v, rfl, q⟩
theorem w_n7 {x0 x1 x2 x3 x4 x5 x6 : Option V} {y : Option V} {v : V} {r : L2.St} {Q : L2.St → Hp → Prop} (q : Q (x0 :: x1 :: x2 :: x3 :: x4 :: x5 :: x6 :: some v :: r) H) : gName 7 v (x0 :: x1 :: x2 :: x3 :: x4 :: x5 :: x6 :: y :: r) H Q := q
theorem w_v8 {x0 x1 x2 x3 x4 x5 x6 x7 : Option V} {v : V} {r : L2.St} (q : Q v H) : tVar 8 (x0 :: x1 :: x2 :: x3 :: x4 :: x5 :: x6 :: x7 :: some v :: r) H Q := ⟨v, rfl, q⟩
theorem w_n8 {x0 x1 x2 x3 x4 x5 x6 x7 : Option V} {y : Option V} {v : V} {r : L2.St} {Q : L2.St → Hp → Prop} (q : Q (x0 :: x1 :: x2 :: x3 :: x4 :: x5 :: x6 :: x7 :: some v :: r) H) : gName 8 v (x0 :: x1 :: x2 :: x3 :: x4 :: x5 :: x6 :: x7 :: y :: r) H Q := q
theorem w_v9 {x0 x1 x2 x3 x4 x5 x6 x7 x8 : Option V} {v : V} {r : L2.St} (q : Q v H) : tVar 9 (x0 :: x1 :: x2 :: x3 :: x4 :: x5 :: x6 :: x7 :: x8 :: some v :: r) H Q := ⟨v, rfl, q⟩
theorem w_n9 {x0 x1 x2 x3 x4 x5 x6 x7 x8 : Option V} {y : Option V} {v : V} {r : L2.St} {Q : L2.St → Hp → Prop} (q : Q (x0 :: x1 :: x2 :: x3 :: x4 :: x5 :: x6 :: x7 :: x8 :: some v :: r) H) : gName 9 v (x0 :: x1 :: x2 :: x3 :: x4 :: x5 :: x6 :: x7 :: x8 :: y :: r) H Q := q
theorem w_v10 {x0 x1 x2 x3 x4 x5 x6 x7 x8 x9 : Option V} {v : V} {r : L2.St} (q : Q v H) : tVar 10 (x0 :: x1 :: x2 :: x3 :: x4 :: x5 :: x6 :: x7 :: x8 :: x9 :: some v :: r) H Q := ⟨v, rfl, q⟩
theorem w_n10 {x0 x1 x2 x3 x4 x5 x6 x7 x8 x9 : Option V} {y : Option V} {v : V} {r : L2.St} {Q : L2.St → Hp → Prop} (q : Q (x0 :: x1 :: x2 :: x3 :: x4 :: x5 :: x6 :: x7 :: x8 :: x9 :: some v :: r) H) : gName 10 v (x0 :: x1 :: x2 :: x3 :: x4 :: x5 :: x6 :: x7 :: x8 :: x9 :: y :: r) H Q := q
theorem w_v11 {x0 x1 x2 x3 x4 x5 x6 x7 x8 x9 x10 : Option V} {v : V} {r : L2.St} (q : Q v H) : tVar 11 (x0 :: x1 :: x2 :: x3 :: x4 :: x5 :: x6 :: x7 :: x8 :: x9 :: x10 :: some v :: r) H Q := ⟨v, rfl, q⟩
theorem w_n11 {x0 x1 x2 x3 x4 x5 x6 x7 x8 x9 x10 : Option V} {y : Option V} {v : V} {r : L2.St} {Q : L2.St → Hp → Prop} (q : Q (x0 :: x1 :: x2 :: x3 :: x4 :: x5 :: x6 :: x7 :: x8 :: x9 :: x10 :: some v :: r) H) : gName 11 v (x0 :: x1 :: x2 :: x3 :: x4 :: x5 :: x6 :: x7 :: x8 :: x9 :: x10 :: y :: r) H Q := q
theorem w_v12 {x0 x1 x2 x3 x4 x5 x6 x7 x8 x9 x10 x11 : Option V} {v : V} {r : L2.St} (q : Q v H) : tVar 12 (x0 :: x1 :: x2 :: x3 :: x4 :: x5 :: x6 :: x7 :: x8 :: x9 :: x10 :: x11 :: some v :: r) H Q := ⟨v, rfl, q⟩
theorem w_n12 {x0 x1 x2 x3 x4 x5 x6 x7 x8 x9 x10 x11 : Option V} {y : Option V} {v : V} {r : L2.St} {Q : L2.St → Hp → Prop} (q : Q (x0 :: x1 :: x2 :: x3 :: x4 :: x5 :: x6 :: x7 :: x8 :: x9 :: x10 :: x11 :: some v :: r) H) : gName 12 v (x0 :: x1 :: x2 :: x3 :: x4 :: x5 :: x6 :: x7 :: x8 :: x9 :: x10 :: x11 :: y :: r) H Q := q
theorem w_v13 {x0 x1 x2 x3 x4 x5 x6 x7 x8 x9 x10 x11 x12 : Option V} {v : V} {r : L2.St} (q : Q v H) : tVar 13 (x0 :: x1 :: x2 :: x3 :: x4 :: x5 :: x6 :: x7 :: x8 :: x9 :: x10 :: x11 :: x12 :: some v :: r) H Q := ⟨v, rfl, q⟩
theorem w_n13 {x0 x1 x2 x3 x4 x5 x6 x7 x8 x9 x10 x11 x12 : Option V} {y : Option V} {v : V} {r : L2.St} {Q : L2.St → Hp → Prop} (q : Q (x0 :: x1 :: x2 :: x3 :: x4 :: x5 :: x6 :: x7 :: x8 :: x9 :: x10 :: x11 :: x12 :: some v :: r) H) : gName 13 v (x0 :: x1 :: x2 :: x3 :: x4 :: x5 :: x6 :: x7 :: x8 :: x9 :: x10 :: x11 :: x12 :: y :: r) H Q := q
theorem w_v14 {x0 x1 x2 x3 x4 x5 x6 x7 x8 x9 x10 x11 x12 x13 : Option V} {v : V} {r : L2.St} (q : Q v H) : tVar 14 (x0 :: x1 :: x2 :: x3 :: x4 :: x5 :: x6 :: x7 :: x8 :: x9 :: x10 :: x11 :: x12 :: x13 :: some v :: r) H Q := ⟨v, rfl, q⟩
theorem w_n14 {x0 x1 x2 x3 x4 x5 x6 x7 x8 x9 x10 x11 x12 x13 : Option V} {y : Option V} {v : V} {r : L2.St} {Q : L2.St → Hp → Prop} (q : Q (x0 :: x1 :: x2 :: x3 :: x4 :: x5 :: x6 :: x7 :: x8 :: x9 :: x10 :: x11 :: x12 :: x13 :: some v :: r) H) : gName 14 v (x0 :: x1 :: x2 :: x3 :: x4 :: x5 :: x6 :: x7 :: x8 :: x9 :: x10 :: x11 :: x12 :: x13 :: y :: r) H Q := q
theorem w_v15 {x0 x1 x2 x3 x4 x5 x6 x7 x8 x9 x10 x11 x12 x13 x14 : Option V} {v : V} {r : L2.St} (q : Q v H) : tVar 15 (x0 :: x1 :: x2 :: x3 :: x4 :: x5 :: x6 :: x7 :: x8 :: x9 :: x10 :: x11 :: x12 :: x13 :: x14 :: some v :: r) H Q := ⟨v, rfl, q⟩
theorem w_n15 {x0 x1 x2 x3 x4 x5 x6 x7 x8 x9 x10 x11 x12 x13 x14 : Option V} {y : Option V} {v : V} {r : L2.St} {Q : L2.St → Hp → Prop} (q : Q (x0 :: x1 :: x2 :: x3 :: x4 :: x5 :: x6 :: x7 :: x8 :: x9 :: x10 :: x11 :: x12 :: x13 :: x14 :: some v :: r) H) : gName 15 v (x0 :: x1 :: x2 :: x3 :: x4 :: x5 :: x6 :: x7 :: x8 :: x9 :: x10 :: x11 :: x12 :: x13 :: x14 :: y :: r) H Q := q
theorem w_v16 {x0 x1 x2 x3 x4 x5 x6 x7 x8 x9 x10 x11 x12 x13 x14 x15 : Option V} {v : V} {r : L2.St} (q : Q v H) : tVar 16 (x0 :: x1 :: x2 :: x3 :: x4 :: x5 :: x6 :: x7 :: x8 :: x9 :: x10 :: x11 :: x12 :: x13 :: x14 :: x15 :: some v :: r) H Q := ⟨v, rfl, q⟩
theorem w_n16 {x0 x1 x2 x3 x4 x5 x6 x7 x8 x9 x10 x11 x12 x13 x14 x15 : Option V} {y : Option V} {v : V} {r : L2.St} {Q : L2.St → Hp → Prop} (q : Q (x0 :: x1 :: x2 :: x3 :: x4 :: x5 :: x6 :: x7 :: x8 :: x9 :: x10 :: x11 :: x12 :: x13 :: x14 :: x15 :: some v :: r) H) : gName 16 v (x0 :: x1 :: x2 :: x3 :: x4 :: x5 :: x6 :: x7 :: x8 :: x9 :: x10 :: x11 :: x12 :: x13 :: x14 :: x15 :: y :: r) H Q := q
theorem w_v17 {x0 x1 x2 x3 x4 x5 x6 x7 x8 x9 x10 x11 x12 x13 x14 x15 x16 : Option V} {v : V} {r : L2.St} (q : Q v H) : tVar 17 (x0 :: x1 :: x2 :: x3 :: x4 :: x5 :: x6 :: x7 :: x8 :: x9 :: x10 :: x11 :: x12 :: x13 :: x14 :: x15 :: x16 :: some v :: r) H Q := ⟨v, rfl, q⟩
theorem w_n17 {x0 x1 x2 x3 x4 x5 x6 x7 x8 x9 x10 x11 x12 x13 x14 x15 x16 : Option V} {y : Option V} {v : V} {r : L2.St} {Q : L2.St → Hp → Prop} (q : Q (x0 :: x1 :: x2 :: x3 :: x4 :: x5 :: x6 :: x7 :: x8 :: x9 :: x10 :: x11 :: x12 :: x13 :: x14 :: x15 :: x16 :: some v :: r) H) : gName 17 v (x0 :: x1 :: x2 :: x3 :: x4 :: x5 :: x6 :: x7 :: x8 :: x9 :: x10 :: x11 :: x12 :: x13 :: x14 :: x15 :: x16 :: y :: r) H Q := q
theorem w_v18 {x0 x1 x2 x3 x4 x5 x6 x7 x8 x9 x10 x11 x12 x13 x14 x15 x16 x17 : Option V} {v : V} {r : L2.St} (q : Q v H) : tVar 18 (x0 :: x1 :: x2 :: x3 :: x4 :: x5 :: x6 :: x7 :: x8 :: x9 :: x10 :: x11 :: x12 :: x13 :: x14 :: x15 :: x16 :: x17 :: some v :: r) H Q := ⟨v, rfl, q⟩
theorem w_n18 {x0 x1 x2 x3 x4 x5 x6 x7 x8 x9 x10 x11 x12 x13 x14 x15 x16 x17 : Option V} {y : Option V} {v : V} {r : L2.St} {Q : L2.St → Hp → Prop} (q : Q (x0 :: x1 :: x2 :: x3 :: x4 :: x5 :: x6 :: x7 :: x8 :: x9 :: x10 :: x11 :: x12 :: x13 :: x14 :: x15 :: x16 :: x17 :: some v :: r) H) : gName 18 v (x0 :: x1 :: x2 :: x3 :: x4 :: x5 :: x6 :: x7 :: x8 :: x9 :: x10 :: x11 :: x12 :: x13 :: x14 :: x15 :: x16 :: x17 :: y :: r) H Q := q
theorem w_v19 {x0 x1 x2 x3 x4 x5 x6 x7 x8 x9 x10 x11 x12 x13 x14 x15 x16 x17 x18 : Option V} {v : V} {r : L2.St} (q : Q v H) : tVar 19 (x0 :: x1 :: x2 :: x3 :: x4 :: x5 :: x6 :: x7 :: x8 :: x9 :: x10 :: x11 :: x12 :: x13 :: x14 :: x15 :: x16 :: x17 :: x18 :: some v :: r) H Q := ⟨v, rfl, q⟩
theorem w_n19 {x0 x1 x2 x3 x4 x5 x6 x7 x8 x9 x10 x11 x12 x13 x14 x15 x16 x17 x18 : Option V} {y : Option V} {v : V} {r : L2.St} {Q : L2.St → Hp → Prop} (q : Q (x0 :: x1 :: x2 :: x3 :: x4 :: x5 :: x6 :: x7 :: x8 :: x9 :: x10 :: x11 :: x12 :: x13 :: x14 :: x15 :: x16 :: x17 :: x18 :: some v :: r) H) : gName 19 v (x0 :: x1 :: x2 :: x3 :: x4 :: x5 :: x6 :: x7 :: x8 :: x9 :: x10 :: x11 :: x12 :: x13 :: x14 :: x15 :: x16 :: x17 :: x18 :: y :: r) H Q := q
theorem w_v20 {x0 x1 x2 x3 x4 x5 x6 x7 x8 x9 x10 x11 x12 x13 x14 x15 x16 x17 x18 x19 : Option V} {v : V} {r : L2.St} (q : Q v H) : tVar 20 (x0 :: x1 :: x2 :: x3 :: x4 :: x5 :: x6 :: x7 :: x8 :: x9 :: x10 :: x11 :: x12 :: x13 :: x14 :: x15 :: x16 :: x17 :: x18 :: x19 :: some v :: r) H Q := ⟨v, rfl, q⟩
theorem w_n20 {x0 x1 x2 x3 x4 x5 x6 x7 x8 x9 x10 x11 x12 x13 x14 x15 x16 x17 x18 x19 : Option V} {y : Option V} {v : V} {r : L2.St} {Q : L2.St → Hp → Prop} (q : Q (x0 :: x1 :: x2 :: x3 :: x4 :: x5 :: x6 :: x7 :: x8 :: x9 :: x10 :: x11 :: x12 :: x13 :: x14 :: x15 :: x16 :: x17 :: x18 :: x19 :: some v :: r) H) : gName 20 v (x0 :: x1 :: x2 :: x3 :: x4 :: x5 :: x6 :: x7 :: x8 :: x9 :: x10 :: x11 :: x12 :: x13 :: x14 :: x15 :: x16 :: x17 :: x18 :: x19 :: y :: r) H Q := q
theorem w_v21 {x0 x1 x2 x3 x4 x5 x6 x7 x8 x9 x10 x11 x12 x13 x14 x15 x16 x17 x18 x19 x20 : Option V} {v : V} {r : L2.St} (q : Q v H) : tVar 21 (x0 :: x1 :: x2 :: x3 :: x4 :: x5 :: x6 :: x7 :: x8 :: x9 :: x10 :: x11 :: x12 :: x13 :: x14 :: x15 :: x16 :: x17 :: x18 :: x19 :: x20 :: some v :: r) H Q := ⟨v, rfl, q⟩
theorem w_n21 {x0 x1 x2 x3 x4 x5 x6 x7 x8 x9 x10 x11 x12 x13 x14 x15 x16 x17 x18 x19 x20 : Option V} {y : Option V} {v : V} {r : L2.St} {Q : L2.St → Hp → Prop} (q : Q (x0 :: x1 :: x2 :: x3 :: x4 :: x5 :: x6 :: x7 :: x8 :: x9 :: x10 :: x11 :: x12 :: x13 :: x14 :: x15 :: x16 :: x17 :: x18 :: x19 :: x20 :: some v :: r) H) : gName 21 v (x0 :: x1 :: x2 :: x3 :: x4 :: x5 :: x6 :: x7 :: x8 :: x9 :: x10 :: x11 :: x12 :: x13 :: x14 :: x15 :: x16 :: x17 :: x18 :: x19 :: x20 :: y :: r) H Q := q
theorem w_v22 {x0 x1 x2 x3 x4 x5 x6 x7 x8 x9 x10 x11 x12 x13 x14 x15 x16 x17 x18 x19 x20 x21 : Option V} {v : V} {r : L2.St} (q : Q v H) : tVar 22 (x0 :: x1 :: x2 :: x3 :: x4 :: x5 :: x6 :: x7 :: x8 :: x9 :: x10 :: x11 :: x12 :: x13 :: x14 :: x15 :: x16 :: x17 :: x18 :: x19 :: x20 :: x21 :: some v :: r) H Q := ⟨v, rfl, q⟩
theorem w_n22 {x0 x1 x2 x3 x4 x5 x6 x7 x8 x9 x10 x11 x12 x13 x14 x15 x16 x17 x18 x19 x20 x21 : Option V} {y : Option V} {v : V} {r : L2.St} {Q : L2.St → Hp → Prop} (q : Q (x0 :: x1 :: x2 :: x3 :: x4 :: x5 :: x6 :: x7 :: x8 :: x9 :: x10 :: x11 :: x12 :: x13 :: x14 :: x15 :: x16 :: x17 :: x18 :: x19 :: x20 :: x21 :: some v :: r) H) : gName 22 v (x0 :: x1 :: x2 :: x3 :: x4 :: x5 :: x6 :: x7 :: x8 :: x9 :: x10 :: x11 :: x12 :: x13 :: x14 :: x15 :: x16 :: x17 :: x18 :: x19 :: x20 :: x21 :: y :: r) H Q := q
theorem w_v23 {x0 x1 x2 x3 x4 x5 x6 x7 x8 x9 x10 x11 x12 x13 x14 x15 x16 x17 x18 x19 x20 x21 x22 : Option V} {v : V} {r : L2.St} (q : Q v H) : tVar 23 (x0 :: x1 :: x2 :: x3 :: x4 :: x5 :: x6 :: x7 :: x8 :: x9 :: x10 :: x11 :: x12 :: x13 :: x14 :: x15 :: x16 :: x17 :: x18 :: x19 :: x20 :: x21 :: x22 :: some v :: r) H Q := ⟨v, rfl, q⟩
theorem w_n23 {x0 x1 x2 x3 x4 x5 x6 x7 x8 x9 x10 x11 x12 x13 x14 x15 x16 x17 x18 x19 x20 x21 x22 : Option V} {y : Option V} {v : V} {r : L2.St} {Q : L2.St → Hp → Prop} (q : Q (x0 :: x1 :: x2 :: x3 :: x4 :: x5 :: x6 :: x7 :: x8 :: x9 :: x10 :: x11 :: x12 :: x13 :: x14 :: x15 :: x16 :: x17 :: x18 :: x19 :: x20 :: x21 :: x22 :: some v :: r) H) : gName 23 v (x0 :: x1 :: x2 :: x3 :: x4 :: x5 :: x6 :: x7 :: x8 :: x9 :: x10 :: x11 :: x12 :: x13 :: x14 :: x15 :: x16 :: x17 :: x18 :: x19 :: x20 :: x21 :: x22 :: y :: r) H Q := q
theorem w_v24 {x0 x1 x2 x3 x4 x5 x6 x7 x8 x9 x10 x11 x12 x13 x14 x15 x16 x17 x18 x19 x20 x21 x22 x23 : Option V} {v : V} {r : L2.St} (q : Q v H) : tVar 24 (x0 :: x1 :: x2 :: x3 :: x4 :: x5 :: x6 :: x7 :: x8 :: x9 :: x10 :: x11 :: x12 :: x13 :: x14 :: x15 :: x16 :: x17 :: x18 :: x19 :: x20 :: x21 :: x22 :: x23 :: some v :: r) H Q := ⟨v, rfl, q⟩
theorem w_n24 {x0 x1 x2 x3 x4 x5 x6 x7 x8 x9 x10 x11 x12 x13 x14 x15 x16 x17 x18 x19 x20 x21 x22 x23 : Option V} {y : Option V} {v : V} {r : L2.St} {Q : L2.St → Hp → Prop} (q : Q (x0 :: x1 :: x2 :: x3 :: x4 :: x5 :: x6 :: x7 :: x8 :: x9 :: x10 :: x11 :: x12 :: x13 :: x14 :: x15 :: x16 :: x17 :: x18 :: x19 :: x20 :: x21 :: x22 :: x23 :: some v :: r) H) : gName 24 v (x0 :: x1 :: x2 :: x3 :: x4 :: x5 :: x6 :: x7 :: x8 :: x9 :: x10 :: x11 :: x12 :: x13 :: x14 :: x15 :: x16 :: x17 :: x18 :: x19 :: x20 :: x21 :: x22 :: x23 :: y :: r) H Q := q
theorem w_v25 {x0 x1 x2 x3 x4 x5 x6 x7 x8 x9 x10 x11 x12 x13 x14 x15 x16 x17 x18 x19 x20 x21 x22 x23 x24 : Option V} {v : V} {r : L2.St} (q : Q v H) : tVar 25 (x0 :: x1 :: x2 :: x3 :: x4 :: x5 :: x6 :: x7 :: x8 :: x9 :: x10 :: x11 :: x12 :: x13 :: x14 :: x15 :: x16 :: x17 :: x18 :: x19 :: x20 :: x21 :: x22 :: x23 :: x24 :: some v :: r) H Q := ⟨v, rfl, q⟩
theorem w_n25 {x0 x1 x2 x3 x4 x5 x6 x7 x8 x9 x10 x11 x12 x13 x14 x15 x16 x17 x18 x19 x20 x21 x22 x23 x24 : Option V} {y : Option V} {v : V} {r : L2.St} {Q : L2.St → Hp → Prop} (q : Q (x0 :: x1 :: x2 :: x3 :: x4 :: x5 :: x6 :: x7 :: x8 :: x9 :: x10 :: x11 :: x12 :: x13 :: x14 :: x15 :: x16 :: x17 :: x18 :: x19 :: x20 :: x21 :: x22 :: x23 :: x24 :: some v :: r) H) : gName 25 v (x0 :: x1 :: x2 :: x3 :: x4 :: x5 :: x6 :: x7 :: x8 :: x9 :: x10 :: x11 :: x12 :: x13 :: x14 :: x15 :: x16 :: x17 :: x18 :: x19 :: x20 :: x21 :: x22 :: x23 :: x24 :: y :: r) H Q := q
theorem w_v26 {x0 x1 x2 x3 x4 x5 x6 x7 x8 x9 x10 x11 x12 x13 x14 x15 x16 x17 x18 x19 x20 x21 x22 x23 x24 x25 : Option V} {v : V} {r : L2.St} (q : Q v H) : tVar 26 (x0 :: x1 :: x2 :: x3 :: x4 :: x5 :: x6 :: x7 :: x8 :: x9 :: x10 :: x11 :: x12 :: x13 :: x14 :: x15 :: x16 :: x17 :: x18 :: x19 :: x20 :: x21 :: x22 :: x23 :: x24 :: x25 :: some v :: r) H Q := ⟨v, rfl, q⟩
theorem w_n26 {x0 x1 x2 x3 x4 x5 x6 x7 x8 x9 x10 x11 x12 x13 x14 x15 x16 x17 x18 x19 x20 x21 x22 x23 x24 x25 : Option V} {y : Option V} {v : V} {r : L2.St} {Q : L2.St → Hp → Prop} (q : Q (x0 :: x1 :: x2 :: x3 :: x4 :: x5 :: x6 :: x7 :: x8 :: x9 :: x10 :: x11 :: x12 :: x13 :: x14 :: x15 :: x16 :: x17 :: x18 :: x19 :: x20 :: x21 :: x22 :: x23 :: x24 :: x25 :: some v :: r) H) : gName 26 v (x0 :: x1 :: x2 :: x3 :: x4 :: x5 :: x6 :: x7 :: x8 :: x9 :: x10 :: x11 :: x12 :: x13 :: x14 :: x15 :: x16 :: x17 :: x18 :: x19 :: x20 :: x21 :: x22 :: x23 :: x24 :: x25 :: y :: r) H Q := q
theorem w_v27 {x0 x1 x2 x3 x4 x5 x6 x7 x8 x9 x10 x11 x12 x13 x14 x15 x16 x17 x18 x19 x20 x21 x22 x23 x24 x25 x26 : Option V} {v : V} {r : L2.St} (q : Q v H) : tVar 27 (x0 :: x1 :: x2 :: x3 :: x4 :: x5 :: x6 :: x7 :: x8 :: x9 :: x10 :: x11 :: x12 :: x13 :: x14 :: x15 :: x16 :: x17 :: x18 :: x19 :: x20 :: x21 :: x22 :: x23 :: x24 :: x25 :: x26 :: some v :: r) H Q := ⟨v, rfl, q⟩
theorem w_n27 {x0 x1 x2 x3 x4 x5 x6 x7 x8 x9 x10 x11 x12 x13 x14 x15 x16 x17 x18 x19 x20 x21 x22 x23 x24 x25 x26 : Option V} {y : Option V} {v : V} {r : L2.St} {Q : L2.St → Hp → Prop} (q : Q (x0 :: x1 :: x2 :: x3 :: x4 :: x5 :: x6 :: x7 :: x8 :: x9 :: x10 :: x11 :: x12 :: x13 :: x14 :: x15 :: x16 :: x17 :: x18 :: x19 :: x20 :: x21 :: x22 :: x23 :: x24 :: x25 :: x26 :: some v :: r) H) : gName 27 v (x0 :: x1 :: x2 :: x3 :: x4 :: x5 :: x6 :: x7 :: x8 :: x9 :: x10 :: x11 :: x12 :: x13 :: x14 :: x15 :: x16 :: x17 :: x18 :: x19 :: x20 :: x21 :: x22 :: x23 :: x24 :: x25 :: x26 :: y :: r) H Q := q
theorem w_v28 {x0 x1 x2 x3 x4 x5 x6 x7 x8 x9 x10 x11 x12 x13 x14 x15 x16 x17 x18 x19 x20 x21 x22 x23 x24 x25 x26 x27 : Option V} {v : V} {r : L2.St} (q : Q v H) : tVar 28 (x0 :: x1 :: x2 :: x3 :: x4 :: x5 :: x6 :: x7 :: x8 :: x9 :: x10 :: x11 :: x12 :: x13 :: x14 :: x15 :: x16 :: x17 :: x18 :: x19 :: x20 :: x21 :: x22 :: x23 :: x24 :: x25 :: x26 :: x27 :: some v :: r) H Q := ⟨v, rfl, q⟩
theorem w_n28 {x0 x1 x2 x3 x4 x5 x6 x7 x8 x9 x10 x11 x12 x13 x14 x15 x16 x17 x18 x19 x20 x21 x22 x23 x24 x25 x26 x27 : Option V} {y : Option V} {v : V} {r : L2.St} {Q : L2.St → Hp → Prop} (q : Q (x0 :: x1 :: x2 :: x3 :: x4 :: x5 :: x6 :: x7 :: x8 :: x9 :: x10 :: x11 :: x12 :: x13 :: x14 :: x15 :: x16 :: x17 :: x18 :: x19 :: x20 :: x21 :: x22 :: x23 :: x24 :: x25 :: x26 :: x27 :: some v :: r) H) : gName 28 v (x0 :: x1 :: x2 :: x3 :: x4 :: x5 :: x6 :: x7 :: x8 :: x9 :: x10 :: x11 :: x12 :: x13 :: x14 :: x15 :: x16 :: x17 :: x18 :: x19 :: x20 :: x21 :: x22 :: x23 :: x24 :: x25 :: x26 :: x27 :: y :: r) H Q := q
theorem w_v29 {x0 x1 x2 x3 x4 x5 x6 x7 x8 x9 x10 x11 x12 x13 x14 x15 x16 x17 x18 x19 x20 x21 x22 x23 x24 x25 x26 x27 x28 : Option V} {v : V} {r : L2.St} (q : Q v H) : tVar 29 (x0 :: x1 :: x2 :: x3 :: x4 :: x5 :: x6 :: x7 :: x8 :: x9 :: x10 :: x11 :: x12 :: x13 :: x14 :: x15 :: x16 :: x17 :: x18 :: x19 :: x20 :: x21 :: x22 :: x23 :: x24 :: x25 :: x26 :: x27 :: x28 :: some v :: r) H Q := ⟨v, rfl, q⟩
theorem w_n29 {x0 x1 x2 x3 x4 x5 x6 x7 x8 x9 x10 x11 x12 x13 x14 x15 x16 x17 x18 x19 x20 x21 x22 x23 x24 x25 x26 x27 x28 : Option V} {y : Option V} {v : V} {r : L2.St} {Q : L2.St → Hp → Prop} (q : Q (x0 :: x1 :: x2 :: x3 :: x4 :: x5 :: x6 :: x7 :: x8 :: x9 :: x10 :: x11 :: x12 :: x13 :: x14 :: x15 :: x16 :: x17 :: x18 :: x19 :: x20 :: x21 :: x22 :: x23 :: x24 :: x25 :: x26 :: x27 :: x28 :: some v :: r) H) : gName 29 v (x0 :: x1 :: x2 :: x3 :: x4 :: x5 :: x6 :: x7 :: x8 :: x9 :: x10 :: x11 :: x12 :: x13 :: x14 :: x15 :: x16 :: x17 :: x18 :: x19 :: x20 :: x21 :: x22 :: x23 :: x24 :: x25 :: x26 :: x27 :: x28 :: y :: r) H Q := q
theorem w_v30 {x0 x1 x2 x3 x4 x5 x6 x7 x8 x9 x10 x11 x12 x13 x14 x15 x16 x17 x18 x19 x20 x21 x22 x23 x24 x25 x26 x27 x28 x29 : Option V} {v : V} {r : L2.St} (q : Q v H) : tVar 30 (x0 :: x1 :: x2 :: x3 :: x4 :: x5 :: x6 :: x7 :: x8 :: x9 :: x10 :: x11 :: x12 :: x13 :: x14 :: x15 :: x16 :: x17 :: x18 :: x19 :: x20 :: x21 :: x22 :: x23 :: x24 :: x25 :: x26 :: x27 :: x28 :: x29 :: some v :: r) H Q := ⟨v, rfl, q⟩
theorem w_n30 {x0 x1 x2 x3 x4 x5 x6 x7 x8 x9 x10 x11 x12 x13 x14 x15 x16 x17 x18 x19 x20 x21 x22 x23 x24 x25 x26 x27 x28 x29 : Option V} {y : Option V} {v : V} {r : L2.St} {Q : L2.St → Hp → Prop} (q : Q (x0 :: x1 :: x2 :: x3 :: x4 :: x5 :: x6 :: x7 :: x8 :: x9 :: x10 :: x11 :: x12 :: x13 :: x14 :: x15 :: x16 :: x17 :: x18 :: x19 :: x20 :: x21 :: x22 :: x23 :: x24 :: x25 :: x26 :: x27 :: x28 :: x29 :: some v :: r) H) : gName 30 v (x0 :: x1 :: x2 :: x3 :: x4 :: x5 :: x6 :: x7 :: x8 :: x9 :: x10 :: x11 :: x12 :: x13 :: x14 :: x15 :: x16 :: x17 :: x18 :: x19 :: x20 :: x21 :: x22 :: x23 :: x24 :: x25 :: x26 :: x27 :: x28 :: x29 :: y :: r) H Q := q
theorem w_v31 {x0 x1 x2 x3 x4 x5 x6 x7 x8 x9 x10 x11 x12 x13 x14 x15 x16 x17 x18 x19 x20 x21 x22 x23 x24 x25 x26 x27 x28 x29 x30 : Option V} {v : V} {r : L2.St} (q : Q v H) : tVar 31 (x0 :: x1 :: x2 :: x3 :: x4 :: x5 :: x6 :: x7 :: x8 :: x9 :: x10 :: x11 :: x12 :: x13 :: x14 :: x15 :: x16 :: x17 :: x18 :: x19 :: x20 :: x21 :: x22 :: x23 :: x24 :: x25 :: x26 :: x27 :: x28 :: x29 :: x30 :: some v :: r) H Q := ⟨v, rfl, q⟩
theorem w_n31 {x0 x1 x2 x3 x4 x5 x6 x7 x8 x9 x10 x11 x12 x13 x14 x15 x16 x17 x18 x19 x20 x21 x22 x23 x24 x25 x26 x27 x28 x29 x30 : Option V} {y : Option V} {v : V} {r : L2.St} {Q : L2.St → Hp → Prop} (q : Q (x0 :: x1 :: x2 :: x3 :: x4 :: x5 :: x6 :: x7 :: x8 :: x9 :: x10 :: x11 :: x12 :: x13 :: x14 :: x15 :: x16 :: x17 :: x18 :: x19 :: x20 :: x21 :: x22 :: x23 :: x24 :: x25 :: x26 :: x27 :: x28 :: x29 :: x30 :: some v :: r) H) : gName 31 v (x0 :: x1 :: x2 :: x3 :: x4 :: x5 :: x6 :: x7 :: x8 :: x9 :: x10 :: x11 :: x12 :: x13 :: x14 :: x15 :: x16 :: x17 :: x18 :: x19 :: x20 :: x21 :: x22 :: x23 :: x24 :: x25 :: x26 :: x27 :: x28 :: x29 :: x30 :: y :: r) H Q := q
theorem w_op (q : ta σ H fun x H1 => tb σ H1 fun y H2 => r x y H2 Q) : tOp r ta tb σ H Q := q
theorem w_un {r : V → Hp → VK → Prop} (q : ta σ H fun x H1 => r x H1 Q) : tUn r ta σ H Q := q
theorem w_chain {r' : R2} (q : ta σ H fun x H1 => tb σ H1 fun y H2 => r x y H2 fun z H3 => ∃ k, z = .bl k ∧ (if k = true then tc σ H3 fun w' H4 => r' y w' H4 Q else Q (.bl false) H3)) : tChain r r' ta tb tc σ H Q := q
theorem w_I {CC : Int → Int → Prop} {g : Int → Int → V} {i j : Int} (c : CC i j) (q : Q (g i j) H) : rI CC g (.int i) (.int j) H Q := ⟨i, j, rfl, rfl, c, q⟩
theorem w_I0 {g : Int → Int → V} {i j : Int} (q : Q (g i j) H) : rI0 g (.int i) (.int j) H Q := ⟨i, j, rfl, rfl, q⟩
theorem w_U {g : Int → V} {i : Int} (q : Q (g i) H) : rU g (.int i) H Q := ⟨i, rfl, q⟩
theorem w_eqI {i j : Int} (q : Q (.bl (decide (i = j))) H) : rEq (.int i) (.int j) H Q := by
  refine ⟨rfl, ?_⟩
  have e : decide (V.int i = V.int j) = decide (i = j) := by
    by_cases h : i = j
    · rw [h]; simp
    · rw [decide_eq_false h, decide_eq_false (fun z => h (V.int.inj z))]
  rw [e]; exact q
theorem w_neI {i j : Int} (q : Q (.bl (!decide (i = j))) H) : rNe (.int i) (.int j) H Q := by
  refine ⟨rfl, ?_⟩
  have e : decide (V.int i = V.int j) = decide (i = j) := by
    by_cases h : i = j
    · rw [h]; simp
    · rw [decide_eq_false h, decide_eq_false (fun z => h (V.int.inj z))]
  rw [e]; exact q
theorem w_eqB {i j : Bool} (q : Q (.bl (decide (i = j))) H) : rEq (.bl i) (.bl j) H Q := by
  refine ⟨rfl, ?_⟩
  have e : decide (V.bl i = V.bl j) = decide (i = j) := by
    by_cases h : i = j
    · rw [h]; simp
    · rw [decide_eq_false h, decide_eq_false (fun z => h (V.bl.inj z))]
  rw [e]; exact q
theorem w_neB {i j : Bool} (q : Q (.bl (!decide (i = j))) H) : rNe (.bl i) (.bl j) H Q := by
  refine ⟨rfl, ?_⟩
  have e : decide (V.bl i = V.bl j) = decide (i = j) := by
    by_cases h : i = j
    · rw [h]; simp
    · rw [decide_eq_false h, decide_eq_false (fun z => h (V.bl.inj z))]
  rw [e]; exact q
theorem w_eqS {i j : Str} (q : Q (.bl (decide (i = j))) H) : rEq (.str i) (.str j) H Q := by
  refine ⟨rfl, ?_⟩
  have e : decide (V.str i = V.str j) = decide (i = j) := by
    by_cases h : i = j
    · rw [h]; simp
    · rw [decide_eq_false h, decide_eq_false (fun z => h (V.str.inj z))]
  rw [e]; exact q
theorem w_test {Q : Bool → Hp → Prop} (q : te σ H fun x H' => ∃ k, x = .bl k ∧ Q k H') : tTest te σ H Q := q
theorem w_B {Q : Bool → Hp → Prop} (q : te σ H fun x H' => ∃ k, x = .bl k ∧ Q k H') : tB te σ H Q := q
theorem w_exb {b : Bool} {P : Bool → Prop} (q : P b) : ∃ k, V.bl b = .bl k ∧ P k := ⟨b, rfl, q⟩
theorem w_exi {i : Int} {P : Int → Prop} (q : P i) : ∃ k, V.int i = .int k ∧ P k := ⟨i, rfl, q⟩
theorem w_exr {a : Addr} {P : Addr → Prop} (q : P a) : ∃ k, V.ref a = .ref k ∧ P k := ⟨a, rfl, q⟩
theorem w_and {Q : Bool → Hp → Prop} (q : tt σ H fun c H1 => if c = true then tu σ H1 Q else Q false H1) : tAnd tt tu σ H Q := q
theorem w_or {Q : Bool → Hp → Prop} (q : tt σ H fun c H1 => if c = true then Q true H1 else tu σ H1 Q) : tOr tt tu σ H Q := q
theorem w_not {Q : Bool → Hp → Prop} (q : tt σ H fun c H1 => Q (!c) H1) : tNot tt σ H Q := q
theorem w_andV (q : ta σ H fun x H1 => ∃ c, x = .bl c ∧ if c = true then tb σ H1 Q else Q (.bl false) H1) : tAndV ta tb σ H Q := q
theorem w_orV (q : ta σ H fun x H1 => ∃ c, x = .bl c ∧ if c = true then Q (.bl true) H1 else tb σ H1 Q) : tOrV ta tb σ H Q := q
theorem w_notV (q : ta σ H fun x H1 => ∃ c, x = .bl c ∧ Q (.bl (!c)) H1) : tNotV ta σ H Q := q
/-- what evaluates to one value, whatever follows -/
theorem w_val (v : V) (hE : ∀ Q : VK, Q v H → te σ H Q) (q : Q v H) : te σ H Q := hE Q q
theorem w_if (q : tt σ H fun c H1 => if c = true then ta σ H1 Q else tb σ H1 Q) : tIf tt ta tb σ H Q := q
theorem w_nil {Q : List V → Hp → Prop} (q : Q [] H) : tNil σ H Q := q
theorem w_cons {tr : TA} {Q : List V → Hp → Prop} (q : ta σ H fun x H1 => tr σ H1 fun xs H2 => Q (x :: xs) H2) : tCons ta tr σ H Q := q
theorem w_call {sp : Sp} {E : XK} {t : TA} (q : t σ H fun vs H1 => sp (vs ++ []) H1 Q E) : tCall sp [] E t σ H Q := q
theorem w_callK {sp : Sp} {gV : List V → List V → List V} {E : XK} {t tk : TA} (q : t σ H fun vs H1 => tk σ H1 fun zs H2 => sp (gV vs zs) H2 Q E) : tCallK sp gV E t tk σ H Q := q
theorem w_make {sp : Sp} {E : XK} {t : TA} (q : t σ H fun vs H1 => ∀ x dx, H1 x = none → H1 dx = none → dx ≠ x → sp (.ref x :: (vs ++ [])) (upd (upd H1 dx (.own x)) x (.ins C dx [])) (fun v H2 => v = .non ∧ Q (.ref x) H2) E) : tMake C sp [] E t σ H Q := q
theorem w_cb {r : List V → Hp → VK → Prop} {t : TA} (q : t σ H fun vs H1 => r vs H1 Q) : tCB r t σ H Q := q
theorem w_int {i : Int} (q : Q (.int i) H) : rIntC [.int i] H Q := .inl ⟨i, rfl, q⟩
theorem w_intB {i : Bool} (q : Q (.int (if i then 1 else 0)) H) : rIntC [.bl i] H Q := .inr ⟨i, rfl, q⟩
theorem w_isNn (q : Q (.bl true) H) : rIsNn .non .non H Q := ⟨rfl, q⟩
theorem w_isNi {i : Int} (q : Q (.bl false) H) : rIsNn (.int i) .non H Q := ⟨rfl, q⟩
theorem w_abs {i : Int} (q : Q (.int (ab i)) H) : rAbsC [.int i] H Q := ⟨i, rfl, q⟩
theorem w_bits {to : TE} (q : to σ H fun x H1 => ∃ i, x = .int i ∧ Q (.int (Builtin.Int.intBits i : Nat)) H1) : tBits to σ H Q := q
theorem w_ixL {p : Addr} {xs : List V} {i : Int} {v : V} (h : H p = some (.lst xs)) (e : atI xs i = some v) (q : Q v H) : rIxL K (.ref p) (.int i) H Q := ⟨p, xs, i, v, rfl, rfl, SqL.of h, e, q⟩
theorem w_ixT {p : Addr} {xs : List V} {i : Int} {v : V} (h : H p = some (.tup xs)) (e : atI xs i = some v) (q : Q v H) : rIxT K (.ref p) (.int i) H Q := ⟨p, xs, i, v, rfl, rfl, SqT.of h, e, q⟩
theorem w_setL {p : Addr} {xs : List V} {i : Int} {v : V} {j : Nat} {Q : Hp → Prop} (h : H p = some (.lst xs)) (e : ixN xs.length i = some j) (q : Q (upd H p (.lst (xs.set j v)))) : rSetL (.ref p) (.int i) v H Q := ⟨p, xs, i, j, rfl, rfl, h, e, q⟩
theorem w_sl {r : V → Option Int → Option Int → Hp → VK → Prop} {tl th : TO} (q : te σ H fun x H1 => tl σ H1 fun l H2 => th σ H2 fun u H3 => r x l u H3 Q) : L2.tSl r te tl th σ H Q := q
theorem w_part {Q : Option Int → Hp → Prop} (q : te σ H fun x H1 => ∃ i, x = .int i ∧ Q (some i) H1) : tPart te σ H Q := q
theorem w_nopart {Q : Option Int → Hp → Prop} (q : Q none H) : tNoPart σ H Q := q
theorem w_slL {a : Addr} {xs : List V} {lo hi : Option Int} (h : SqL K H a xs) (q : ∀ p, H p = none → Q (.ref p) (upd H p (.lst (cutV xs lo hi)))) : rSlL K (.ref a) lo hi H Q := ⟨a, xs, rfl, h, q⟩
theorem w_lst {t : TA} (q : t σ H fun xs H1 => xs.length ≤ sizeLine ∧ ∀ p, H1 p = none → Q (.ref p) (upd H1 p (.lst xs))) : tLst t σ H Q := q
theorem w_tup {t : TA} (q : t σ H fun xs H1 => xs.length ≤ sizeLine ∧ ∀ p, H1 p = none → Q (.ref p) (upd H1 p (.tup xs))) : tTup t σ H Q := q
theorem w_cat {l b : Addr} {xs zs : List V} (h1 : H l = some (.lst xs)) (h2 : H b = some (.lst zs)) (n : xs.length + zs.length ≤ sizeLine) (q : ∀ p, H p = none → Q (.ref p) (upd H p (.lst (xs ++ zs)))) : rCat (.ref l) (.ref b) H Q := ⟨l, b, xs, zs, rfl, rfl, h1, h2, n, q⟩
theorem w_dnewK (q : ∀ d, H d = none → Q (.ref d) (upd H d (.dK []))) : tDNewK σ H Q := q
theorem w_eqNil {p q : Addr} (hp : H p = some (.lst [])) (hq : H q = some (.lst [])) (k : Q (.bl true) H) : rEqD K (.ref p) (.ref q) H Q := ⟨.list [], .list [], .lst (SqL.of hp) .nil, .lst (SqL.of hq) .nil, by decide, by decide, k⟩
theorem w_wipe1 {g : TG} {v : V} {vs : List Nat} {σ' : L2.St} {Q : L2.St → Hp → Prop} (e : wipe σ vs = σ') (q : g v σ' H Q) : g v (wipe σ vs) H Q := by rw [e]; exact q
theorem w_inT {p : Addr} {x : V} {xs : List V} (h : SqT K H p xs) (f1 : flatV x = true) (f2 : xs.all flatV = true) (q : Q (.bl (inV x xs)) H) : rIn K false x (.ref p) H Q := ⟨p, xs, rfl, .inr h, f1, f2, q⟩
theorem w_meth0 {C : Addr} {m : Str} {sp : Sp} {E : XK} (q : ta σ H fun x H1 => ∃ a dx fs, x = .ref a ∧ H1 a = some (.ins C dx fs) ∧ fs.lookup m = none ∧ sp (x :: ([] ++ [])) H1 Q E) : tMeth C m sp [] E ta tNil σ H Q := q
theorem w_par {i j : Nat} {t : TA} (q : t σ H fun vs H1 => ∃ v w, vs = [v, w] ∧ D.nx ((σ.set i (some v)).set j (some w)) H1) : tPar i j t D σ H := q
theorem w_exvw {a c : V} {P : V → V → Prop} (q : P a c) : ∃ v w, [a, c] = [v, w] ∧ P v w := ⟨a, c, rfl, q⟩
theorem w_while {tc : TT} {tb : TS} (W : Nat → L2.St → Hp → Prop) (m0 : Nat) (h0 : W m0 σ H) (hs : ∀ m σ H, W m σ H → tc σ H fun b H1 => if b = true then ∃ N : L2.St → Hp → Prop, (∀ σ' H', N σ' H' → ∃ m', m' < m ∧ W m' σ' H') ∧ tb { D with nx := N, ct := N, bk := D.nx } σ H1 else D.nx σ H1) : tWhile tc tb D σ H := ⟨W, ⟨m0, h0⟩, hs⟩
theorem w_rep {l : Addr} {k : Int} {xs : List V} (h : H l = some (.lst xs)) (k0 : 0 ≤ k) (k1 : k ≤ 1000) (n : xs.length * k.toNat ≤ sizeLine) (q : ∀ p, H p = none → Q (.ref p) (upd H p (.lst (List.replicate k.toNat xs).flatten))) : rRep (.ref l) (.int k) H Q := ⟨l, k, xs, rfl, rfl, h, by omega, by omega, n, q⟩
theorem w_dget {td ty : TE} (q : td σ H fun x H1 => ty σ H1 fun y H2 => ∃ a v, x = .ref a ∧ DGet H2 a y (some v) ∧ Q v H2) : tDGet td ty σ H Q := q
-- statements
theorem w_next (q : D.nx σ H) : tNext D σ H := q
theorem w_seq {t u : TS} (q : t { D with nx := u D } σ H) : tSeq t u D σ H := q
theorem w_drop (q : te σ H fun _ H1 => D.nx σ H1) : tDrop te D σ H := q
theorem w_ret (q : te σ H D.rt) : tRet te D σ H := q
theorem w_retN (q : D.rt .non H) : tRetN D σ H := q
theorem w_ifS {t u : TS} (q : tt σ H fun b H1 => if b = true then t D σ H1 else u D σ H1) : tIfS tt t u D σ H := q
theorem w_asg {g : TG} (q : te σ H fun x H1 => g x σ H1 D.nx) : tAsg te g D σ H := q
theorem w_name {i : Nat} {v : V} {Q : L2.St → Hp → Prop} (q : Q (σ.set i (some v)) H) : gName i v σ H Q := q
theorem w_gnil {Q : L2.St → Hp → Prop} (q : Q σ H) : gNil [] σ H Q := ⟨rfl, q⟩
theorem w_gcons {t : TG} {u : TGs} {v : V} {r : List V} {Q : L2.St → Hp → Prop} (q : t v σ H fun σ' H' => u r σ' H' Q) : gCons t u (v :: r) σ H Q := ⟨v, r, rfl, q⟩
theorem w_gtup {n : Nat} {t : TGs} {a : Addr} {xs : List V} {Q : L2.St → Hp → Prop} (h : H a = some (.tup xs)) (l : xs.length = n) (q : t xs σ H Q) : gTup K n t (.ref a) σ H Q := ⟨a, xs, rfl, SqT.of h, l, q⟩
theorem w_gsub {to ti : TE} {t : TSet} {v : V} {Q : L2.St → Hp → Prop} (q : to σ H fun o H1 => ti σ H1 fun i H2 => t o i v H2 fun H3 => Q σ H3) : gSub to ti t v σ H Q := q
/-- what a for asks of the thing walked -/
def ForW (g : TG) (tb : TS) (D : Ends) (σ : L2.St) (H1 : Hp) (J : It) : Prop := ∃ W : Nat → Nat → L2.St → Hp → Prop, (∃ m, W 0 m σ H1) ∧ ∀ i m σ H, W i m σ H →
    (J.stop i H ∧ D.nx σ H) ∨ (J.go i H ∧ ∃ N : L2.St → Hp → Prop, (∀ σ' H', N σ' H' → ∃ m', m' < m ∧ W (i + 1) m' σ' H') ∧ ∀ x H', J.yld i H x H' → g x σ H' fun σ2 H2 => tb { D with nx := N, ct := N, bk := D.nx } σ2 H2)
theorem w_for {wi : TI} {g : TG} {tb : TS} (q : wi σ H fun J H1 => ForW g tb D σ H1 J) : tFor wi g tb D σ H := q
def LcW (g : TG) (tt : TT) (te : TE) (vs : List Nat) (σ : L2.St) (Q : VK) (H1 : Hp) (J : It) : Prop := ∀ D, H1 D = none → ∃ W : Nat → Nat → Hp → Prop, (∃ m, W 0 m (upd H1 D (.lst []))) ∧ ∀ i m H, W i m H →
  (J.stop i H ∧ Q (.ref D) H) ∨ (J.go i H ∧ ∃ Nx : Hp → Prop, (∀ H', Nx H' → ∃ m', m' < m ∧ W (i + 1) m' H') ∧ ∀ x H', J.yld i H x H' → g x (wipe σ vs) H' fun σ2 H2 => wipe σ2 vs = wipe σ vs ∧ tt σ2 H2 fun b H3 =>
    if b = true then te σ2 H3 fun y H4 => ∃ acc, H4 D = some (.lst acc) ∧ acc.length < sizeLine ∧ Nx (upd H4 D (.lst (acc ++ [y]))) else Nx H3)
theorem w_lc {wi : TI} {g : TG} {vs : List Nat} (q : wi σ H fun J H1 => LcW g tt te vs σ Q H1 J) : tLc wi g tt te vs σ H Q := q
theorem w_yes {Q : Bool → Hp → Prop} (q : Q true H) : tYes σ H Q := q
theorem w_iList {tl : TE} {R : It → Hp → Prop} (q : tl σ H fun x H1 => ∃ a, x = .ref a ∧ (∃ xs, SqL K H1 a xs) ∧ R (Itl K a) H1) : iList K tl σ H R := q
theorem w_fld {f : Str} (q : ta σ H fun x H1 => ∃ a C dx fs v, x = .ref a ∧ H1 a = some (.ins C dx fs) ∧ Cls K C ∧ NoAttr K C f ∧ fs.lookup f = some v ∧ Q v H1) : tFld K ta f σ H Q := q
theorem w_sfld {tv : TE} {f : Str} (q : tv σ H fun y H1 => ta σ H1 fun x H2 => ∃ a C dx fs, x = .ref a ∧ H2 a = some (.ins C dx fs) ∧ Cls K C ∧ NoAttr K C f ∧ fs.length < 1000 ∧ D.nx σ (upd H2 a (.ins C dx (putF f y fs)))) : sFld K ta tv f D σ H := q
theorem w_len {p : Addr} {ys : List V} (h : H p = some (.lst ys)) (q : Q (.int (ys.length : Int)) H) : rLenS K [.ref p] H Q := ⟨p, ys, rfl, .inl (SqL.of h), q⟩
theorem w_all {p : Addr} {bs : List Bool} (h : H p = some (.lst (bs.map V.bl))) (q : Q (.bl (bs.all id)) H) : rAll K [.ref p] H Q := ⟨p, bs, rfl, SqL.of h, q⟩
theorem w_iRng1 {ta : TA} {R : It → Hp → Prop} (q : ta σ H fun vs H1 => ∃ j : Int, vs = [.int j] ∧ -(2 ^ 62) ≤ j ∧ j < 2 ^ 62 ∧ R (Itr 0 j.toNat) H1) : iRng1 ta σ H R := q
-- tests
theorem w_dec {P A B : Prop} [Decidable P] (h1 : P → A) (h2 : ¬ P → B) : if decide P = true then A else B := by
  by_cases h : P
  · rw [decide_eq_true h, if_pos rfl]; exact h1 h
  · rw [decide_eq_false h, if_neg Bool.false_ne_true]; exact h2 h
theorem w_ndec {P A B : Prop} [Decidable P] (h1 : ¬ P → A) (h2 : P → B) : if (!decide P) = true then A else B := by
  by_cases h : P
  · rw [decide_eq_true h]; exact iteF (h2 h)
  · rw [decide_eq_false h]; exact iteT (h1 h)
theorem w_decT {P A B : Prop} [Decidable P] (h : P) (q : A) : if decide P = true then A else B := by rw [decide_eq_true h, if_pos rfl]; exact q
theorem w_decF {P A B : Prop} [Decidable P] (h : ¬ P) (q : B) : if decide P = true then A else B := by rw [decide_eq_false h, if_neg Bool.false_ne_true]; exact q
theorem w_ndecT {P A B : Prop} [Decidable P] (h : P) (q : B) : if (!decide P) = true then A else B := by rw [decide_eq_true h]; exact iteF q
theorem w_ndecF {P A B : Prop} [Decidable P] (h : ¬ P) (q : A) : if (!decide P) = true then A else B := by rw [decide_eq_false h]; exact iteT q
theorem w_bT {b : Bool} {A B : Prop} (h : b = true) (q : A) : if b = true then A else B := by rw [if_pos h]; exact q
theorem w_bF {b : Bool} {A B : Prop} (h : b = false) (q : B) : if b = true then A else B := by rw [h]; exact iteF q
end

theorem map_get {α : Type} {f : α → V} {l : List α} {i : Nat} {x : V} (h : (l.map f)[i]? = some x) : ∃ z, l[i]? = some z ∧ x = f z := by
  rw [List.getElem?_map] at h
  cases e : l[i]? with
  | none => rw [e] at h; cases h
  | some z => rw [e] at h; exact ⟨z, rfl, (Option.some.inj h).symm⟩
theorem get_lt {α : Type} {l : List α} {i : Nat} {x : α} (h : l[i]? = some x) : i < l.length := (List.getElem?_eq_some_iff.mp h).1
theorem tk_more {α : Type} {l : List α} {i : Nat} {x : α} (h : l[i]? = some x) : l.take (i + 1) = l.take i ++ [x] := by
  rw [List.take_add_one, h]; rfl
/-- a new object leaves the others -/
theorem gn {H : Hp} {l q : Addr} {o u : HO} (h : H l = some o) (hn : H q = none) : (L2.upd H q u) l = some o := by
  rw [upd_ne (ne_of_none h hn)]; exact h
theorem cut_map {α : Type} (f : α → V) (ns : List α) (lo hi : Option Int) : ∃ ms : List α, cutV (ns.map f) lo hi = ms.map f ∧ ms.length ≤ ns.length ∧ ∀ m ∈ ms, m ∈ ns := by
  refine ⟨(ns.drop (HT.sIx (ns.map f).length 0 lo)).take (HT.sIx (ns.map f).length (ns.map f).length hi - HT.sIx (ns.map f).length 0 lo), ?_, ?_, fun m hm => List.mem_of_mem_drop (List.mem_of_mem_take hm)⟩
  · unfold cutV; rw [← List.map_drop, ← List.map_take]
  · rw [List.length_take, List.length_drop]; omega
theorem cut_take {α : Type} (f : α → V) (ns : List α) (n : Nat) : cutV (ns.map f) none (some (n : Int)) = (ns.take n).map f := by
  unfold cutV
  rw [HT.sIx_none, HT.sIx_nat, List.drop_zero, Nat.sub_zero, List.length_map, ← List.map_take]
  congr 1
  by_cases h : n ≤ ns.length
  · rw [Nat.min_eq_left h]
  · rw [Nat.min_eq_right (by omega), List.take_length, List.take_of_length_le (by omega)]
theorem sm_mut {H H' : Hp} {D : Addr} {o : HO} (a : Same H H') (h : H D = none) : Same H (L2.upd H' D o) := fun q u e => by
  rw [upd_ne (ne_of_none e h)]; exact a q u e
theorem cpow {j n : Nat} (h : j ≤ 1000000) (e : (n : Int).natAbs < 2 ^ 64) : CPow (n : Int) (j : Int) := ⟨Int.natCast_nonneg _, by omega, e⟩

/-! match over texts -/
structure PMs (X : Cx) (cs : List MatchCase) (t : V → TS) : Prop where
  run : ∀ (pins : List (Addr × Obj)) (s : Shared) (σ : L2.St) (H : Hp) (D : Ends) (v : V) (u : Value) (first : Bool), Inv X pins σ H s → RelV v u → t v D σ H →
    wpAny (model X.prog X.w) X.A (matchCases cs X.env u first) (SP X pins D) X.xe s
def tCaseS (x : Str) (tb : TS) (tr : V → TS) : V → TS := fun v D σ H => ∃ z, v = .str z ∧ if decide (z = x) = true then tb D σ H else tr v D σ H
def tCaseA (tb : TS) : V → TS := fun _ => tb
def tMatch (te : TE) (t : V → TS) : TS := fun D σ H => te σ H fun v H1 => t v D σ H1
section
variable {X : Cx} {body : List Stmt} {rest : List MatchCase} {tb : TS} {tr : V → TS}
theorem pm_nil : PMs X [] (fun _ => tNext) := ⟨fun pins s σ H D v u first I r q => wpAny_matchCases_nil ⟨σ, H, I, q⟩⟩
theorem pm_any {p : Pos} (hb : PSs X body tb) : PMs X (⟨.MatchAs none none p, none, body⟩ :: rest) (tCaseA tb) := by
  refine ⟨fun pins s σ H D v u first I r q => ?_⟩
  refine wpAny_matchCases_cons (wpAny_matchPattern_Capture ?_)
  exact wpAny_assignInOrder_none (hb.run pins s σ H D I q)
theorem pm_str {x : Str} {j : Nat} {p p2 : Pos} (hb : PSs X body tb) (hr : PMs X rest tr) : PMs X (⟨.MatchValue (.Constant (.str x) j p) p2, none, body⟩ :: rest) (tCaseS x tb tr) := by
  refine ⟨fun pins s σ H D v u first I r q => ?_⟩
  obtain ⟨z, rfl, q⟩ := q
  refine wpAny_matchCases_cons (wpAny_matchPattern_Value ?_)
  refine thn ((pe_str (X := X) (x := x) (j := j) (pos := p)).run pins s σ H (fun y H1 => y = .str x ∧ H1 = H) I ⟨rfl, rfl⟩) fun w s1 ⟨y, H1, I1, r1, e1, e2⟩ => ?_
  subst e1 e2
  refine thn (op_eq (X := X) pins s1 σ H1 (.str z) (.str x) u w (fun y H2 => y = .bl (decide (V.str z = V.str x)) ∧ H2 = H1) I1 r r1 ⟨rfl, rfl, rfl⟩) fun c s2 ⟨y, H2, I2, r2, e1, e2⟩ => ?_
  subst e1 e2
  cases r2
  refine wpAny_truthy_bool ?_
  have e : decide (V.str z = V.str x) = decide (z = x) := by
    by_cases h : z = x
    · rw [h]; simp
    · rw [decide_eq_false h, decide_eq_false (fun k => h (V.str.inj k))]
  rw [e]
  by_cases h : z = x
  · rw [decide_eq_true h, if_pos rfl] at q
    rw [decide_eq_true h]
    exact wpAny_assignInOrder_none (hb.run pins s2 σ H2 D I2 q)
  · rw [decide_eq_false h, if_neg Bool.false_ne_true] at q
    rw [decide_eq_false h]
    exact hr.run pins s2 σ H2 D _ u false I2 r q
theorem ps_match {e : Expr} {te : TE} {cs : List MatchCase} {t : V → TS} {pos : Pos} (he : PE X e te) (hc : PMs X cs t) : PS X (.Match e cs pos) (tMatch te t) := by
  refine ⟨fun pins s σ H D I h => wpAny_Match (thn (he.run pins s σ H _ I h) fun u s1 ⟨v, H1, I1, r1, q1⟩ => ?_)⟩
  exact hc.run pins s1 σ H1 D v u true I1 r1 q1
end
section
variable {σ : L2.St} {H : Hp} {D : Ends} {te : TE} {tb : TS} {tr : V → TS}
theorem w_match {t : V → TS} (q : te σ H fun v H1 => t v D σ H1) : tMatch te t D σ H := q
theorem w_caseA {v : V} (q : tb D σ H) : tCaseA tb v D σ H := q
theorem w_caseS {x z : Str} (q : if decide (z = x) = true then tb D σ H else tr (.str z) D σ H) : tCaseS x tb tr (.str z) D σ H := ⟨z, rfl, q⟩
theorem w_caseT {x : Str} (q : tb D σ H) : tCaseS x tb tr (.str x) D σ H := ⟨x, rfl, by rw [decide_eq_true rfl, if_pos rfl]; exact q⟩
theorem w_caseF {x z : Str} (h : z ≠ x) (q : tr (.str z) D σ H) : tCaseS x tb tr (.str z) D σ H := ⟨z, rfl, by rw [decide_eq_false h, if_neg Bool.false_ne_true]; exact q⟩
end
end Fw
namespace Fw
open PySem PySem.Spec PyProof.Rows L2 LamX
/-! ### lambdas of one parameter, handed to a def as its first argument -/
/-- a later state: what was not tracked at (HD, sD), while stk ran, still stands -/
structure Later (stk : List Env) (HD : Hp) (sD : Shared) (outer : List Env) (H : Hp) (s : Shared) : Prop where
  un : Un (frs stk) [] HD H sD.heap s.heap
  new : ∀ b ∈ frs outer, b ∈ frs stk ∨ sD.heap.objs.size ≤ b
  sz : sD.heap.objs.size ≤ s.heap.objs.size
theorem Later.refl (stk : List Env) (H : Hp) (s : Shared) : Later stk H s stk H s := ⟨Un.refl, fun _ h => .inl h, Nat.le_refl _⟩
theorem Later.trans {k1 k2 k3 : List Env} {H1 H2 H3 : Hp} {s1 s2 s3 : Shared} (a : Later k1 H1 s1 k2 H2 s2) (b : Later k2 H2 s2 k3 H3 s3) : Later k1 H1 s1 k3 H3 s3 := by
  have nf : ∀ c o, s1.heap.get? c = some o → c ∉ frs k1 → c ∉ frs k2 := fun c o e n z => (a.new c z).elim n fun l => Nat.lt_irrefl _ (Nat.lt_of_lt_of_le (Heap.lt_size e) l)
  refine ⟨⟨fun c o q n hc hx => ?_, fun c o q n hc hx => ?_, fun c o q n hx => ?_, fun c o q hx => ?_, fun c xs q => b.un.tups c xs (a.un.tups c xs q), fun c o xs q => b.un.frzs c o xs (a.un.frzs c o xs q), fun c ps q => ?_⟩, fun c hc => ?_, Nat.le_trans a.sz b.sz⟩
  · exact b.un.keep c o (a.un.keep c o q n hc hx) (a.un.free c o q n hx) (nf c o q hc) hx
  · obtain ⟨sl, e1⟩ := a.un.slot c o q n hc hx
    obtain ⟨sl', e2⟩ := b.un.any e1 (a.un.free c o q n hx) hx
    exact ⟨sl', e2⟩
  · obtain ⟨o', e1⟩ := a.un.there c o q hx
    exact b.un.free c o' e1 (a.un.free c o q n hx) hx
  · obtain ⟨o', e1⟩ := a.un.there c o q hx
    exact b.un.there c o' e1 hx
  · obtain ⟨m1, e1⟩ := a.un.tbls c ps q
    obtain ⟨m2, e2⟩ := b.un.tbls c _ e1
    exact ⟨m1 ++ m2, by rw [e2, Array.append_assoc]⟩
  · rcases b.new c hc with z | z
    · exact a.new c z
    · exact .inr (Nat.le_trans a.sz z)
theorem later_of {X : Cx} {pins : List (Addr × Obj)} {σ : L2.St} {H : Hp} {s : Shared} (I : Inv X pins σ H s) (hex : X.ex = []) : Later X.outer X.H_0 X.s_0 X.stack H s := by
  refine ⟨?_, fun b hb => (List.mem_cons.mp (I.stkSub b hb)).elim (fun e => .inr (by rw [e]; exact I.ok.above)) .inl, I.sz⟩
  have u := I.base
  rw [hex] at u
  exact u
/-- what may be called: f, with the promise sp, from level k on -/
abbrev CP := Nat → Addr → Sp → Prop
structure Cal (P : Program) (w : World) (K : PySem.W.Frag) (mg : Str → Option Value) (base : Heap) (stk : List Env) (HD : Hp) (sD : Shared) (k : Nat) (f : Addr) (sp : Sp) : Prop where
  fn : ∀ (outer : List Env) (s : Shared) (H : Hp), Later stk HD sD outer H s → PySem.W.FnAt f s.heap
  run : ∀ (A : Around) (outer : List Env) (s : Shared) (H : Hp) (us : List Value) (vs : List V) (Q : VK), Room k A → Env0 P w K mg base A outer s H → Later stk HD sD outer H s → Vals vs us → sp vs H Q E0 →
    codeAny (model P w) A (.call (.ref f) ⟨us, []⟩) (CR L2.CX0 outer P w H s Q E0) s
section
variable {P : Program} {w : World} {K : PySem.W.Frag} {mg : Str → Option Value} {base : Heap}
theorem Cal.later {k1 k2 : List Env} {H1 H2 : Hp} {s1 s2 : Shared} {k : Nat} {f : Addr} {sp : Sp} (c : Cal P w K mg base k1 H1 s1 k f sp) (l : Later k1 H1 s1 k2 H2 s2) : Cal P w K mg base k2 H2 s2 k f sp :=
  ⟨fun o s H z => c.fn o s H (l.trans z), fun A o s H us vs Q hr e z => c.run A o s H us vs Q hr e (l.trans z)⟩
theorem Cal.imp {stk : List Env} {H1 : Hp} {s1 : Shared} {k k' : Nat} {f : Addr} {sp sp' : Sp} (c : Cal P w K mg base stk H1 s1 k f sp) (hk : k ≤ k') (h : ∀ vs H Q, sp' vs H Q E0 → sp vs H Q E0) : Cal P w K mg base stk H1 s1 k' f sp' :=
  ⟨c.fn, fun A o s H us vs Q hr e z r q => c.run A o s H us vs Q (hr.mono hk) e z r (h _ _ _ q)⟩
/-- a def that may be handed what can be called -/
structure FnOkC (P : Program) (w : World) (K : PySem.W.Frag) (mg : Str → Option Value) (base : Heap) (k : Nat) (f : Addr) (fd : FuncData) (ps : List Str) (spc : CP → Sp) : Prop where
  len : ∀ C vs H Q E, spc C vs H Q E → vs.length = ps.length
  run : ∀ (A : Around) (outer : List Env) (s : Shared) (H : Hp) (args : Args) (us : List Value) (vs : List V) (Q : VK), Room k A → Env0 P w K mg base A outer s H → BindsTo s fd args (ps.zip us) → Vals vs us → spc (Cal P w K mg base outer H s) vs H Q E0 →
    codeAny (model P w) A (.call (.ref f) args) (CR L2.CX0 outer P w H s Q E0) s
theorem okC {x qual : Str} {st : Stmt} {f : Addr} {fd : FuncData} {N ps : List Str} {k : Nat} {spc : CP → Sp} (F : L2.Fun K x qual st f fd) (S : FnScope N ps (defScope st)) (len : ∀ C vs H Q E, spc C vs H Q E → vs.length = ps.length)
    (hbody : ∀ (cdv : Value) (A : Around) (outer : List Env) (s : Shared) (H : Hp) (vs : List V) (Q : VK), Room k (A.deeper (envOfC qual (defScope st) s.heap.objs.size f cdv)) → spc (Cal P w K mg base outer H s) vs H Q E0 →
      ∃ t, PSs (cxOf L2.CX0 P w K mg base N qual (defScope st) f cdv A outer s H E0).nox (defBody st) t ∧ t { nx := fun _ H' => Q .non H', rt := Q } (L2.start N vs) H) : FnOkC P w K mg base (k + 1) f fd ps spc := by
  obtain ⟨oc, od, kV, doc, pm, an, cdv, ct, osl, rfl, lk, hcd⟩ := F.ex
  refine ⟨len, fun A outer s H args us vs Q hr e0 hb r h => ?_⟩
  refine run_ofS (N := N) lk hcd S hr e0 hb r (len _ _ _ _ _ h) fun hr' => ?_
  obtain ⟨t, ht, q⟩ := hbody cdv A outer s H vs Q hr' h
  exact ⟨t, ht.nox, q⟩
end
/-- a def whose code object is known, for its lambdas -/
structure FunT (K : PySem.W.Frag) (x qual : Str) (st : Stmt) (f : Addr) (fd : FuncData) (c : Addr) : Prop where
  ex : ∃ (oc : Value) (od : Option Addr) (kV doc pm : Value) (an : Option Addr) (ct : Value) (osl : Array (Option Value)),
    fd = PySem.W.fnOf x qual (defArgs st) (defBody st) (defScope st) .none kV doc pm an (.ref c) ct ∧ K.lookup f = some ⟨oc, od, .func fd, osl⟩ ∧ PySem.W.codeIn K (.ref c) qual = true
section
variable {P : Program} {w : World} {K : PySem.W.Frag} {mg : Str → Option Value} {base : Heap}
theorem FunT.ok {x qual : Str} {st : Stmt} {f c : Addr} {fd : FuncData} {N ps : List Str} {k : Nat} {sp : Sp} (F : FunT K x qual st f fd c) (S : FnScope N ps (defScope st)) (len : ∀ vs H Q E, sp vs H Q E → vs.length = ps.length)
    (hbody : ∀ (A : Around) (outer : List Env) (s : Shared) (H : Hp) (vs : List V) (Q : VK) (E : XK), Room k (A.deeper (envOfC qual (defScope st) s.heap.objs.size f (.ref c))) → sp vs H Q E →
      ∃ t, PSs (cxOf L2.CX0 P w K mg base N qual (defScope st) f (.ref c) A outer s H E).nox (defBody st) t ∧ t { nx := fun _ H' => Q .non H', rt := Q } (L2.start N vs) H) : FnOk P w K mg base L2.CX0 (k + 1) f fd ps sp := by
  obtain ⟨oc, od, kV, doc, pm, an, ct, osl, rfl, lk, hcd⟩ := F.ex
  refine fn_of lk hcd S len fun A outer s H vs Q E hr hsp => ?_
  obtain ⟨t, h, q⟩ := hbody A outer s H vs Q E hr hsp
  exact ⟨t, h.nox, q⟩
theorem FunT.okC {x qual : Str} {st : Stmt} {f c : Addr} {fd : FuncData} {N ps : List Str} {k : Nat} {spc : CP → Sp} (F : FunT K x qual st f fd c) (S : FnScope N ps (defScope st)) (len : ∀ C vs H Q E, spc C vs H Q E → vs.length = ps.length)
    (hbody : ∀ (A : Around) (outer : List Env) (s : Shared) (H : Hp) (vs : List V) (Q : VK), Room k (A.deeper (envOfC qual (defScope st) s.heap.objs.size f (.ref c))) → spc (Cal P w K mg base outer H s) vs H Q E0 →
      ∃ t, PSs (cxOf L2.CX0 P w K mg base N qual (defScope st) f (.ref c) A outer s H E0).nox (defBody st) t ∧ t { nx := fun _ H' => Q .non H', rt := Q } (L2.start N vs) H) : FnOkC P w K mg base (k + 1) f fd ps spc := by
  obtain ⟨oc, od, kV, doc, pm, an, ct, osl, rfl, lk, hcd⟩ := F.ex
  refine ⟨len, fun A outer s H args us vs Q hr e0 hb r h => ?_⟩
  refine run_ofS (N := N) lk hcd S hr e0 hb r (len _ _ _ _ _ h) fun hr' => ?_
  obtain ⟨t, ht, q⟩ := hbody A outer s H vs Q hr' h
  exact ⟨t, ht.nox, q⟩
theorem FunT.toFun {x qual : Str} {st : Stmt} {f c : Addr} {fd : FuncData} (F : FunT K x qual st f fd c) (kp : PySem.W.keepIn K (.ref f) = true) : L2.Fun K x qual st f fd := by
  obtain ⟨oc, od, kV, doc, pm, an, ct, osl, e, lk, hcd⟩ := F.ex
  exact ⟨⟨oc, od, kV, doc, pm, an, .ref c, ct, osl, e, lk, hcd⟩, kp⟩
theorem funT_mk {x qual : Str} {st : Stmt} {f c : Addr} {oc : Value} {od an : Option Addr} {osl : Array (Option Value)} {kV doc pm ct : Value} (l : K.lookup f = some ⟨oc, od, .func (PySem.W.fnOf x qual (defArgs st) (defBody st) (defScope st) .none kV doc pm an (.ref c) ct), osl⟩)
    (h : PySem.W.codeIn K (.ref c) qual = true) : FunT K x qual st f (PySem.W.fnOf x qual (defArgs st) (defBody st) (defScope st) .none kV doc pm an (.ref c) ct) c := ⟨⟨oc, od, kV, doc, pm, an, ct, osl, rfl, l, h⟩⟩
end
/-- what can be called in X: what its def was handed -/
abbrev Kn (X : Cx) : CP := Cal X.prog X.w X.K X.mg X.base X.outer X.H_0 X.s_0
/-! ### the lambda's names -/
structure LamP (sc scope : Scope) (par : Str) : Prop where
  kind : scope.kind = .function
  co : scope.isCoroutine = false
  gen : scope.isGenerator = false
  own : ∀ y ∈ scope.names, y.2 ≠ .cell ∧ (y.2 = .local → y.1 = par)
  par : scope.names.lookup par = some .local
  free : ∀ y ∈ scope.names, y.2 = .free → sc.names.lookup y.1 = some .cell ∨ sc.names.lookup y.1 = some .free
def lamPB (sc scope : Scope) (par : Str) : Bool :=
  decide (scope.kind = .function) && !scope.isCoroutine && !scope.isGenerator && decide (scope.names.lookup par = some .local) && scope.names.all fun y => !decide (y.2 = .cell) && (!decide (y.2 = .local) || decide (y.1 = par)) && (!decide (y.2 = .free) || decide (sc.names.lookup y.1 = some .cell) || decide (sc.names.lookup y.1 = some .free))
theorem lamP_by {sc scope : Scope} {par : Str} (h : lamPB sc scope par = true) : LamP sc scope par := by
  unfold lamPB at h
  simp only [Bool.and_eq_true, Bool.or_eq_true, Bool.not_eq_true', decide_eq_true_eq, decide_eq_false_iff_not, List.all_eq_true] at h
  obtain ⟨⟨⟨⟨h1, h2⟩, h3⟩, h5⟩, h4⟩ := h
  refine ⟨h1, h2, h3, fun y hy => ⟨(h4 y hy).1.1, fun e => ?_⟩, h5, fun y hy e => ?_⟩
  · rcases (h4 y hy).1.2 with z | z
    · exact absurd e z
    · exact z
  · rcases (h4 y hy).2 with (z | z) | z
    · exact absurd e z
    · exact .inl z
    · exact .inr z
theorem LamP.has {X : Cx} {scope : Scope} {par : Str} (L : LamP X.env.scope scope par) (ok : X.Ok) : ∀ y ∈ scope.names, y.2 = .free → ∃ c, X.env.cells.lookup y.1 = some c := fun y hy e => by
  rcases L.free y hy e with k | k
  · exact ok.has _ (.inl k)
  · exact ok.has _ (.inr k)
/-- the context of the lambda's body, entered at s from the frames outer: X's names and the parameter -/
def lamCxP (X : Cx) (A : Around) (outer : List Env) (s : Shared) (H : Hp) (scope : Scope) (f c' : Addr) (par : Str) : Cx where
  prog := X.prog
  w := X.w
  K := X.K
  mg := X.mg
  base := X.base
  A := A.deeper (lamEnv X scope s.heap.objs.size f c')
  N := X.N ++ [par]
  s_0 := s
  H_0 := H
  env := lamEnv X scope s.heap.objs.size f c'
  outer := outer
  stack := lamEnv X scope s.heap.objs.size f c' :: outer
  ex := []
  fn := fun _ => false
  calm := true
  pn := []
  xe := fun e s' => wpAny (model X.prog X.w) (A.deeper (lamEnv X scope s.heap.objs.size f c')) (leaving (lamEnv X scope s.heap.objs.size f c') e) (fun _ s'' => L2.CX0 outer H s E0 e s'') (fun e' s'' => L2.CX0 outer H s E0 e' s'') s'
section
variable {X : Cx} {pins : List (Addr × Obj)} {σ : L2.St} {H HZ : Hp} {s s1 : Shared}
theorem lam_startP {A : Around} {outer : List Env} {scope : Scope} {f c' : Addr} {h₁ : Heap} {tk : Nat} {par : Str} {v : V} {u : Value} (I : Inv X pins σ H s) (L : LamP X.env.scope scope par) (hpar : par ∉ X.N) (rv : RelV v u)
    (e0 : Env0 X.prog X.w X.K X.mg X.base A outer s1 HZ) (hd : A.handled = none)
    (un : Un (frs X.stack) [] H HZ s.heap s1.heap) (hns : h₁.Ns s1.heap.objs.size fun y => ([(par, u)] : List (Str × Value)).reverse.lookup y) (kp : ∀ b o, s1.heap.get? b = some o → h₁.get? b = some o) :
    Inv (lamCxP X A outer s1 HZ scope f c' par) [] (σ ++ [some v]) HZ { s1 with heap := h₁, toks := tk } := by
  have hfree := L.has I.ok
  have cm : ∀ {y c}, (cloFrom X.env.cells scope.names []).lookup y = some c → X.env.cells.lookup y = some c := fun {y c} e => by
    rcases cloFrom_mem (PySem.mem_of_lookup e) with hm | ⟨h1, h2⟩
    · cases hm
    · obtain ⟨c1, hc⟩ := hfree _ h1 rfl
      have hc : X.env.cells.lookup y = some c1 := hc
      have e2 : c = c1 := by
        rw [h2, hc] <;> rfl
      rw [e2]
      exact hc
  have look : ∀ {y}, scope.names.lookup y = some .free → ∃ c, (cloFrom X.env.cells scope.names []).lookup y = some c := fun {y} hl => by
    have hy : (y, NameKind.free) ∈ scope.names := PySem.mem_of_lookup hl
    exact mem_lookup (cloFrom_has (cells := X.env.cells) (acc := []) hy)
  have cellK : ∀ {c : Addr} {v : Option Value}, H c = none → s.heap.IsCell c v → h₁.IsCell c v := fun {c v} n ⟨o, ho, hd⟩ => by
    obtain ⟨sl, q⟩ := un.any ho n (by simp)
    exact ⟨_, kp _ _ q, hd⟩
  have noA : ∀ b : Addr, b ∉ (lamCxP X A outer s1 HZ scope f c' par).ex := fun b z => absurd (show b ∈ ([] : List Addr) from z) (by simp)
  refine ⟨⟨e0.mod, L.kind, rfl, rfl, Nat.le_refl _, fun y z c e1 e2 => I.ok.inj y z c (cm e1) (cm e2), fun y hy => ?_, fun y c z _ => ?_, fun _ => hd, Around.frames_deeper e0.frames, .inr ⟨rfl, rfl⟩, fun b z => absurd z (noA b), e0.bs, e0.bsz, fun b _ _ => noA b,
      fun b z => absurd z (noA b), e0.funs, e0.frf⟩,
    rfl, e0.bare, Un.kept kp, ⟨_, hns, fun i y v' e1 e2 e3 => ?_⟩, fun y c e => ?_, e0.hok.fresh (Nat.le_refl _), fun y c e => ?_, fun q hq => absurd (show q ∈ ([] : List (Addr × Obj)) ++ [] from hq) (by simp), e0.hok.kept kp, ?_⟩
  · have hy : scope.names.lookup y = some .cell ∨ scope.names.lookup y = some .free := hy
    rcases hy with hy | hy
    · exact absurd rfl (L.own _ (PySem.mem_of_lookup hy)).1
    · exact look hy
  · have z : false = true := z
    cases z
  · have e3 : Vis scope y := e3
    have e1 : (X.N ++ [par])[i]? = some y := e1
    by_cases hi : i < X.N.length
    · rw [List.getElem?_append_left hi] at e1
      rw [List.getElem?_append_left (by rw [I.len]; exact hi)] at e2
      have ny : y ≠ par := fun z => hpar (by rw [← z]; exact List.mem_of_getElem? e1)
      rcases e3 with k | k | k
      · exact absurd ((L.own _ (PySem.mem_of_lookup k)).2 rfl) ny
      · exact absurd rfl (L.own _ (PySem.mem_of_lookup k)).1
      · obtain ⟨m, hn, hl⟩ := I.loc
        have hvis : Vis X.env.scope y := (L.free _ (PySem.mem_of_lookup k) rfl).elim (fun k => .inr (.inl k)) (fun k => .inr (.inr k))
        obtain ⟨w', r, q⟩ := hl i y v' e1 e2 hvis
        obtain ⟨c2, h2⟩ := look k
        refine ⟨w', r, .inr ⟨.inr k, c2, h2, ?_⟩⟩
        have c1 := cm h2
        rcases q with ⟨k', _⟩ | ⟨_, c3, e', z⟩
        · have k' : X.env.scope.names.lookup y = some .local := k'
          rcases L.free _ (PySem.mem_of_lookup k) rfl with k2 | k2 <;> rw [show X.env.scope.names.lookup y = _ from k2] at k' <;> cases k'
        · rw [c1] at e'
          cases e'
          exact cellK (I.freeC y _ c1) z
    · have hi' : i = X.N.length := by
        have := (List.getElem?_eq_some_iff.mp e1).1
        rw [List.length_append, List.length_singleton] at this
        omega
      subst hi'
      rw [List.getElem?_append_right (Nat.le_refl _), Nat.sub_self] at e1
      rw [← I.len, List.getElem?_append_right (Nat.le_refl _), Nat.sub_self] at e2
      cases e1
      cases e2
      refine ⟨u, rv, .inl ⟨L.par, ?_⟩⟩
      show ([(par, u)] : List (Str × Value)).lookup par = some u
      simp [List.lookup]
  · obtain ⟨w', z⟩ := I.cell y c (cm e)
    exact ⟨w', cellK (I.freeC y c (cm e)) z⟩
  · obtain ⟨v, o, ho, hd⟩ := I.cell y c (cm e)
    exact un.free c o ho (I.freeC y c (cm e)) (by simp)
  · show (σ ++ [some v]).length = (X.N ++ [par]).length
    rw [List.length_append, List.length_append, I.len]
    rfl
/-- the promise of a lambda: its code object, its body's reading -/
def spLam (c' : Addr) (q : Str) (σ : L2.St) (tb : TE) : Sp := fun vs H Q _ => ∃ v, vs = [v] ∧ H c' = some (CodeO c' q) ∧ tb (σ ++ [some v]) H Q
theorem lam_cal {C : CP} {scope : Scope} {par : Str} {params : Arguments} {body : Expr} {pm ctv : Value} {f c' : Addr} {kb : Nat} {tb : TE} (I : Inv X pins σ H s) (L : LamP X.env.scope scope par) (hpar : par ∉ X.N) (hex : X.ex = [])
    (hf : s.heap.get? f = some (PySem.W.kla_obj "<lambda>" (X.env.qual ++ "<lambda>") params body scope (cloFrom X.env.cells scope.names []) pm c' ctv)) (hfn : H f = none) (hfr : f ∉ frs X.stack)
    (hbind : ∀ (q : Str) (cl : List (Str × Addr)) (pm cv ctv u : Value), bindArgs (PySem.W.kla_fn "<lambda>" q params body scope cl pm cv ctv) ⟨[u], []⟩ = pure [(par, u)])
    (hC : ∀ k f sp, C k f sp → Kn X k f sp)
    (hbody : ∀ (A : Around) (outer : List Env) (s1 : Shared) (H1 : Hp), (∀ k f sp, C k f sp → Kn (lamCxP X A outer s1 H1 scope f c' par).nox k f sp) → Room kb (A.deeper (lamEnv X scope s1.heap.objs.size f c')) → PE (lamCxP X A outer s1 H1 scope f c' par).nox body tb) :
    Cal X.prog X.w X.K X.mg X.base X.stack H s (kb + 1) f (spLam c' (X.env.qual ++ "<lambda>") σ tb) := by
  have at1 : ∀ (outer : List Env) (s1 : Shared) (H1 : Hp), Later X.stack H s outer H1 s1 → s1.heap.get? f = some (PySem.W.kla_obj "<lambda>" (X.env.qual ++ "<lambda>") params body scope (cloFrom X.env.cells scope.names []) pm c' ctv) :=
    fun outer s1 H1 l => l.un.keep f _ hf hfn hfr (by simp)
  refine ⟨fun outer s1 H1 l => ⟨_, _, _, _, at1 outer s1 H1 l⟩, fun A outer s1 HZ us vs Q hr e0 l r h => ?_⟩
  obtain ⟨v, rfl, hc, ht⟩ := h
  obtain ⟨u, rfl, rv⟩ : ∃ u, us = [u] ∧ RelV v u := by
    cases r with
    | cons r1 r2 => cases r2 with | nil => exact ⟨_, rfl, r1⟩
  have of1 := at1 outer s1 HZ l
  obtain ⟨⟨oc, ws, t, hoc, hdc, hvc⟩, _, _⟩ := e0.hok c' _ hc
  have lim : s1.heap.NoLimit := e0.mod.nolimit.keeps fun b o e => (e0.bs b o e).1
  refine PySem.W.kla_callFunE hr.depth of1 rfl L.co L.gen rfl ⟨c', oc, ws, t, rfl, hoc, hdc, hvc⟩ ?_
  rw [hbind]
  refine wpAny_pure (wpAny_newFunctionEnv (fun y hy => (L.own y hy).1) (fun y hy => ?_) (fun h₁ hns hsb => ⟨lim.fresh _ hsb, ?_⟩) L.kind)
  · have e : y = (par, u) := by simpa using hy
    rw [e]
    exact L.par
  show codeAny _ _ (.expr body (lamEnv X scope s1.heap.objs.size f c')) _ _
  have kp : ∀ b o, s1.heap.get? b = some o → h₁.get? b = some o := fun b o e => hsb.extBut b o (Nat.ne_of_lt (Heap.lt_size e)) (Heap.get?_push_of_some _ e)
  have J : Inv (lamCxP X A outer s1 HZ scope f c' par) [] (σ ++ [some v]) HZ { s1 with heap := h₁, toks := s1.toks + ([(par, u)] : List (Str × Value)).length } := lam_startP I L hpar rv e0 hr.hd l.un hns kp
  have hb := hbody A outer s1 HZ (fun k f sp c => (hC k f sp c).later ((later_of I hex).trans l)) (hr.deeper _)
  refine PySem.W.kla_codeExpr (wpAny_mono (hb.nox.run [] _ _ HZ Q J ht) (fun v s' hq => ?_) fun e s' hq => hq)
  obtain ⟨w', H', J', rv', q⟩ := hq
  exact ⟨w', H', J'.os, J'.bare, J'.base, J'.hok, rv', q⟩
/-- x(e, ..), x a parameter (or a captured name) that holds what can be called -/
def tCal (C : CP) (k i : Nat) (t : TA) : TE := fun σ H Q => ∃ f sp, σ[i]? = some (some (.ref f)) ∧ C k f sp ∧ t σ H fun vs H1 => sp vs H1 Q E0
theorem pe_cal {C : CP} {k i : Nat} {a : Str} {e : Expr} {es : List Expr} {t : TA} {p pos : Pos} (hC : ∀ k f sp, C k f sp → Kn X k f sp) (hr : Room k X.A) (hN : X.N[i]? = some a) (hv : Vis X.env.scope a) (hex : X.ex = []) (ha : PA X (e :: es) t)
    (hd : (a == ("__debug__" : Str)) = false := by decide) (hcd : (a == ("__classdict__" : Str)) = false := by decide) (he : starEach (e :: es) X.env = (false, eval e X.env) :: starEach es X.env := by rfl) (hpl : (backTo pos (starEach es X.env)).any (·.1) = false := by rfl) :
    PE X (.Call (.Name a p) (e :: es) [] pos) (tCal C k i t) := by
  refine ⟨fun pins s σ H Q I h => ?_⟩
  obtain ⟨f, sp, hs, hc, ht⟩ := h
  refine wpAny_Call_Name_kw (thn ((pe_var (pos := p) (i := i) hN hv hd hcd).run pins s σ H (fun v H1 => v = .ref f ∧ H1 = H) I ⟨.ref f, hs, rfl, rfl⟩) fun u s1 ⟨v, H1, I1, r1, q1⟩ => ?_)
  obtain ⟨ev, eH⟩ := q1
  subst ev
  rw [eH] at I1
  obtain rfl : u = Value.ref f := r1
  have cal := hC k f sp hc
  refine PySem.W.callWith_F (cal.fn _ _ _ (later_of I1 hex)) (thn (ha.run pos pins s1 σ H _ I1 ht) fun us s2 ⟨vs, H2, I2, r, q⟩ => ⟨cal.fn _ _ _ (later_of I2 hex), ?_⟩) he hpl
  refine wpAny_call (codeAny_mono (cal.run X.A X.stack s2 H2 us vs Q hr I2.env0 (later_of I2 hex) r q) fun r s' hq => ?_)
  cases r with
  | error e => exact (show False from hq).elim
  | ok fl =>
    cases fl with
    | ret u => exact I2.after hq
    | next => exact False.elim hq
    | brk => exact False.elim hq
    | cont => exact False.elim hq
/-- x(e, ..), x a local name that holds one of some defs -/
def tCallV (C : Addr → Sp → Prop) (i : Nat) (t : TA) : TE := fun σ H Q => ∃ f sp, σ[i]? = some (some (.ref f)) ∧ C f sp ∧ t σ H fun vs H1 => sp vs H1 Q E0
theorem pe_callV {C : Addr → Sp → Prop} {i : Nat} {a : Str} {e : Expr} {es : List Expr} {t : TA} {p pos : Pos}
    (hC : ∀ f sp, C f sp → ∃ (k : Nat) (fd : FuncData) (ps : List Str), FnOk X.prog X.w X.K X.mg X.base L2.CX0 k f fd ps sp ∧ Room k X.A ∧ PySem.W.keepIn X.K (.ref f) = true ∧ L2.Binds X.K fd ps [])
    (hN : X.N[i]? = some a) (hv : Vis X.env.scope a) (ha : PA X (e :: es) t)
    (hd : (a == ("__debug__" : Str)) = false := by decide) (hcd : (a == ("__classdict__" : Str)) = false := by decide) (he : starEach (e :: es) X.env = (false, eval e X.env) :: starEach es X.env := by rfl) (hpl : (backTo pos (starEach es X.env)).any (·.1) = false := by rfl) :
    PE X (.Call (.Name a p) (e :: es) [] pos) (tCallV C i t) := by
  refine ⟨fun pins s σ H Q I h => ?_⟩
  obtain ⟨f, sp, hs, hc, ht⟩ := h
  refine wpAny_Call_Name_kw (thn ((pe_var (pos := p) (i := i) hN hv hd hcd).run pins s σ H (fun v H1 => v = .ref f ∧ H1 = H) I ⟨.ref f, hs, rfl, rfl⟩) fun u s1 ⟨v, H1, I1, r1, q1⟩ => ?_)
  obtain ⟨ev, eH⟩ := q1
  subst ev
  rw [eH] at I1
  obtain rfl : u = Value.ref f := r1
  obtain ⟨k, fd, ps, F, hr, hk, hb⟩ := hC f sp hc
  refine PySem.W.callWith_K (h₀ := X.base) I1.ok.mod.kin hk (thn (ha.run pos pins s1 σ H _ I1 ht) fun us s2 ⟨vs, H2, I2, r, q⟩ => ⟨I2.kIn, ?_⟩) he hpl
  exact run_fn (dvs := []) (ds := []) F hr hb .nil pass0 I2 r (by rw [List.append_nil]; exact q)
/-- all but the tables stays, the tables are told -/
def Sm (T : List (Addr × Str)) (H H' : Hp) : Prop := ExtN H H' ∧ (Tabs T H → Tabs T H')
theorem Sm.refl {T : List (Addr × Str)} (H : Hp) : Sm T H H := ⟨ExtN.refl H, fun h => h⟩
theorem Sm.trans {T : List (Addr × Str)} {H H1 H2 : Hp} (a : Sm T H H1) (b : Sm T H1 H2) : Sm T H H2 := ⟨a.1.trans b.1, fun h => b.2 (a.2 h)⟩
def tLamC (T : List (Addr × Str)) (q : Str) (spc : CP → Sp) (C : CP) (kb : Nat) (tb : TE) (t : TA) : TE := fun σ H Q => Tabs T H ∧ ∀ (f c' : Addr) (H1 : Hp), Sm T H H1 → H1 c' = some (CodeO c' q) → t σ H1 fun vs H2 =>
  ∀ C' : CP, (∀ k g sp, C k g sp → C' k g sp) → (∀ k sp, kb + 1 ≤ k → (∀ ws H3 Q3, sp ws H3 Q3 E0 → spLam c' q σ tb ws H3 Q3 E0) → C' k f sp) → spc C' (.ref f :: vs) H2 Q E0
/-- x(lambda par: body, e, ..) -/
theorem pe_lamC {T : List (Addr × Str)} {x par : Str} {g c P : Addr} {kg kb : Nat} {fd : FuncData} {ps : List Str} {spc : CP → Sp} {C : CP} {params : Arguments} {body : Expr} {scope : Scope} {tb : TE} {t : TA} {es : List Expr} {p lpos pos : Pos}
    (G : FnOkC X.prog X.w X.K X.mg X.base kg g fd ps spc) (hr : Room kg X.A) (hg : Gl X x) (hm : X.mg x = some (.ref g)) (hk : PySem.W.keepIn X.K (.ref g) = true) (hb : L2.Binds X.K fd ps [])
    (TB : TabB X.base X.mg c P) (hcode : X.env.code = .ref c) (hmT : (P, X.env.qual ++ "<lambda>") ∈ T) (hu : ∀ p ∈ T, p.1 = P → p.2 = X.env.qual ++ "<lambda>")
    (L : LamP X.env.scope scope par) (hpar : par ∉ X.N) (hex : X.ex = []) (hdef : defaultsOf params X.env = ([], []))
    (hbind : ∀ (q : Str) (cl : List (Str × Addr)) (pm cv ctv u : Value), bindArgs (PySem.W.kla_fn "<lambda>" q params body scope cl pm cv ctv) ⟨[u], []⟩ = pure [(par, u)])
    (hC : ∀ k f sp, C k f sp → Kn X k f sp)
    (hbody : ∀ (A : Around) (outer : List Env) (s1 : Shared) (H1 : Hp) (f c' : Addr), (∀ k f sp, C k f sp → Kn (lamCxP X A outer s1 H1 scope f c' par).nox k f sp) → Room kb (A.deeper (lamEnv X scope s1.heap.objs.size f c')) → PE (lamCxP X A outer s1 H1 scope f c' par).nox body tb)
    (ha : PA X es t) (hdb : (x == ("__debug__" : Str)) = false := by decide) (hpl : (backTo pos (starEach es X.env)).any (·.1) = false := by rfl) :
    PE X (.Call (.Name x p) (.Lambda params body scope lpos :: es) [] pos) (tLamC T (X.env.qual ++ "<lambda>") spc C kb tb t) := by
  refine ⟨fun pins s σ H Q I h => ?_⟩
  obtain ⟨hT, h⟩ := h
  refine wpAny_Call_Name_kw (ld_glob I hg hm ?_ hdb)
  refine PySem.W.callWith_K (h₀ := X.base) I.ok.mod.kin hk ?_ (by rfl) hpl
  show wpAny _ _ (spliced ((false, eval (.Lambda params body scope lpos) X.env) :: backTo pos (starEach es X.env))) _ _ s
  refine Calls.spliced_cons (lam_make2 (E := X.xe) I TB hcode hmT hu hT hdef (L.has I.ok) fun f c' pm' ctv H1 s' I1 eN T1 hf hfn hfr hco => ?_)
  have nfL : f ≠ X.env.locals := fun z => by
    obtain ⟨m, ⟨o, es, ep, ho, hd, _⟩, _⟩ := I1.loc
    rw [← z, hf] at ho
    cases ho
    cases hd
  have nfs : f ∉ X.fs := fun z => hfr (by
    rcases I1.ok.stk with e | ⟨e, hfm⟩
    · rw [e]; exact z
    · rw [e]
      unfold frs
      rw [List.filterMap_cons, hfm]
      exact List.mem_cons_of_mem _ z)
  have I2 : Inv X ((f, PySem.W.kla_obj "<lambda>" (X.env.qual ++ "<lambda>") params body scope (cloFrom X.env.cells scope.names []) pm' c' ctv) :: pins) σ H1 s' := I1.pins_of fun q hq => by
    rcases List.mem_cons.mp hq with e | hq
    · rw [e]
      exact ⟨hf, hfn, nfL, nfs, fun v z => by cases z⟩
    · exact I1.pin q (List.mem_append_right _ hq)
  refine thn (ha.run pos _ s' σ H1 _ I2 (h f c' H1 ⟨eN, fun _ => T1⟩ hco)) fun us s2 ⟨vs, H2, I3, r, q⟩ => ⟨I3.kIn, ?_⟩
  obtain ⟨pf, pn, _, _, _⟩ := I3.pin _ (List.mem_append_right _ (List.mem_cons_self (a := (f, PySem.W.kla_obj "<lambda>" (X.env.qual ++ "<lambda>") params body scope (cloFrom X.env.cells scope.names []) pm' c' ctv))))
  have I4 : Inv X pins σ H2 s2 := I3.pins_of fun q hq => I3.pin q (List.mem_append_right _ (List.mem_cons_of_mem _ hq))
  have cal := lam_cal (C := C) (f := f) (c' := c') (kb := kb) (tb := tb) I4 L hpar hex pf pn hfr hbind hC fun A outer s1 H1 hk hr => hbody A outer s1 H1 f c' hk hr
  have hsp := q (Cal X.prog X.w X.K X.mg X.base X.stack H2 s2) (fun k g sp z => (hC k g sp z).later (later_of I4 hex)) (fun k sp hk z => cal.imp hk z)
  have r2 : Vals (.ref f :: vs) (.ref f :: us) := .cons rfl r
  have hl : (Value.ref f :: us).length = ps.length := by rw [← r2.length]; exact G.len _ _ _ _ _ hsp
  have hbi := hb s2 (.ref f :: us) I4.kIn (by rw [List.append_nil]; exact hl)
  rw [List.append_nil] at hbi
  refine wpAny_call (codeAny_mono (G.run X.A X.stack s2 H2 ⟨.ref f :: us, []⟩ (.ref f :: us) (.ref f :: vs) Q hr I4.env0 hbi r2 hsp) fun r s' hq => ?_)
  cases r with
  | error e => exact (show False from hq).elim
  | ok fl =>
    cases fl with
    | ret u => exact I4.after hq
    | next => exact False.elim hq
    | brk => exact False.elim hq
    | cont => exact False.elim hq
end
theorem Sm.of {T : List (Addr × Str)} {H H' : Hp} (a : Same H H') : Sm T H H' := ⟨fun b o e _ => a b o e, fun h => h.ext a⟩
theorem Sm.at {T : List (Addr × Str)} {H H' : Hp} {a : Addr} {o : HO} (s : Sm T H H') (h : H a = some o) (n : ∀ ps, o ≠ .tbl ps := by intro ps z; cases z) : H' a = some o := s.1 a o h n
theorem Sm.new {T : List (Addr × Str)} {H H' : Hp} {r : Addr} {o : HO} (s : Sm T H H') (h : H' r = none) : Sm T H (upd H' r o) := s.trans (.of fun q u e => by rw [upd_ne (ne_of_none e h)]; exact e)
theorem Sm.mut {T : List (Addr × Str)} {H H' : Hp} {r : Addr} {o u : HO} (s : Sm T H H') (hn : H r = none) (h : H' r = some u) (hu : ∀ ps, u ≠ .tbl ps := by intro ps z; cases z) (hc : ∀ c q, u ≠ CodeO c q := by intro c q z; cases z) : Sm T H (upd H' r o) := by
  refine ⟨fun b w e n => ?_, fun t p hp => ?_⟩
  · rw [upd_ne (ne_of_none e hn)]
    exact s.1 b w e n
  · obtain ⟨ps, a1, a2, a3⟩ := s.2 t p hp
    refine ⟨ps, by rw [upd_ne (fun z => by rw [z, h] at a1; cases a1; exact hu ps rfl)]; exact a1, a2, fun pos cv e => ?_⟩
    obtain ⟨c, e1, e2⟩ := a3 pos cv e
    exact ⟨c, e1, by rw [upd_ne (fun z => by rw [z, h] at e2; exact hc _ _ (Option.some.inj e2))]; exact e2⟩
theorem Sm.seqT {K : PySem.W.Frag} {T : List (Addr × Str)} {H H' : Hp} {a : Addr} {xs : List V} (s : Sm T H H') (h : SqL K H a xs) : SqL K H' a xs := by
  rcases h with (h | ⟨o, h⟩) | h
  · exact .inl (.inl (s.at h))
  · exact .inl (.inr ⟨o, s.at h⟩)
  · exact .inr h
theorem tabIn_of {K : PySem.W.Frag} {x : Str} {f c P : Addr} {oc o1 : Value} {od o2 : Option Addr} {fd : FuncData} {sl o3 : Array (Option Value)} {vs : Array Value} (a : PySem.W.nsIn K mainGlobals x = some (some (.ref f))) (l : K.lookup f = some ⟨oc, od, .func fd, sl⟩) (hc : fd.code = .ref c)
    (lc : K.lookup c = some ⟨o1, o2, .fields vs, o3⟩) (hv : vs[11]? = some (.ref P)) : PySem.W.tabIn K x = some (c, P) := by
  unfold PySem.W.tabIn
  rw [a]
  simp only [l, hc, lc, hv]
theorem no_tab {K : PySem.W.Frag} {h : Heap} {P : Addr} (X : K.In h) (hP : h.get? P = some { cls := .none, data := .fields #[] }) (hK : PySem.W.noTabs K = true) : K.lookup P = none := by
  cases q : K.lookup P with
  | none => rfl
  | some o =>
    have e := X _ _ q
    rw [hP] at e
    cases e
    have h2 := List.all_eq_true.mp hK (P, _) (PySem.W.mem_of_lookupK q)
    exact absurd (show false = true from h2) Bool.false_ne_true
theorem tab_uniq : ∀ {l : List (Addr × Str)}, (l.map (·.1)).Nodup → ∀ {P : Addr} {s : Str}, (P, s) ∈ l → ∀ p ∈ l, p.1 = P → p.2 = s
  | [], _, _, _, h => by cases h
  | q :: r, nd, P, s, h => fun p hp e => by
    rw [List.map_cons, List.nodup_cons] at nd
    rcases List.mem_cons.mp h with h | h
    · rcases List.mem_cons.mp hp with hp | hp
      · rw [hp, ← h]
      · exact absurd (List.mem_map.mpr ⟨p, hp, by rw [e, ← h]⟩) nd.1
    · rcases List.mem_cons.mp hp with hp | hp
      · exact absurd (List.mem_map.mpr ⟨_, h, by rw [← e, hp]⟩) nd.1
      · exact tab_uniq nd.2 h p hp e
/-- the end, with tables -/
theorem walk_tabs {l : PySem.W.OpenLaw} {n k : Nat} {q : Program} {loose : List Str} {XP : (Str → Option Value) → Heap → Prop} {YP : World → Heap → Prop} {d : DefRec} {K : Params → PySem.W.Frag} {CX : World → CXT} {x : Str}
    (hn : l.most = some n) (hn2 : n ≤ sizeLine) (hdf : d.params.defaults = []) (hr : Room k callerA) (hY : ∀ (w : World) (h : Heap), YP w h → (K w.params).In h)
    (F : ∀ (w : World) (mg : Str → Option Value) (fa : Addr) (h : Heap), (∀ (y : Str) (c P : Addr), ((recsOf q).find? (fun e => e.name == y)).isSome = true → PySem.W.tabIn (K w.params) y = some (c, P) → PySem.W.CodeHd h c P ∧ h.get? P = some { cls := .none, data := .fields #[] }) →
      (K w.params).In h → h.Ns mainGlobals mg → mg d.name = some (.ref fa) → LawAtS l w (K w.params) (CX w) k n x mg fa h)
    (hCX : ∀ (w : World) (H : Hp) (s : Shared) (e : Value) (s' : Shared), CX w [] H s (fun _ _ _ => False) e s' → False) :
    PySem.W.WalkO q loose XP YP l.row.toRowW d [] (fun f vs => PySem.call f vs) := by
  refine Att.attach_callB hn hdf fun w s₀ s₁ mg mb fa o pm cd doc a vs ns G Y ho hd hcd hmg hobj hints hlen hbits hg => ?_
  have KX := hY w _ Y
  obtain ⟨fd, cs, sp, hT, nT, C, hb, hsp, hF⟩ := F w mg fa _ (fun y c P hr ht => by
    obtain ⟨d', hd'⟩ := Option.isSome_iff_exists.mp hr
    exact PySem.W.tab_of G.T KX hd' ht) KX G.T.g hmg
  exact law_callTs KX G.T.g G.T.b G.T.builtins G.T.nolimit hg hT nT C G.T.bmain hobj hints (Nat.le_trans hlen hn2) hr hF hb (fun H hH hS => hsp H a ns hlen hbits hH hS) fun H e s' => hCX w H s₁ e s'
end Fw
namespace Fw
/-! ### sums, counts -/
def sZ (f : Nat → Int) : Nat → Int
  | 0 => 0
  | n + 1 => sZ f n + f n
theorem sZ_congr {f g : Nat → Int} : ∀ {n : Nat}, (∀ i, i < n → f i = g i) → sZ f n = sZ g n
  | 0, _ => rfl
  | n + 1, h => by
    show sZ f n + f n = sZ g n + g n
    rw [sZ_congr (n := n) fun i hi => h i (by omega), h n (by omega)]
theorem sZ_add (f g : Nat → Int) : ∀ n : Nat, sZ (fun i => f i + g i) n = sZ f n + sZ g n
  | 0 => rfl
  | n + 1 => by
    show sZ _ n + (f n + g n) = (sZ f n + f n) + (sZ g n + g n)
    rw [sZ_add f g n]; omega
theorem sZ_sub (f g : Nat → Int) : ∀ n : Nat, sZ (fun i => f i - g i) n = sZ f n - sZ g n
  | 0 => rfl
  | n + 1 => by
    show sZ _ n + (f n - g n) = (sZ f n + f n) - (sZ g n + g n)
    rw [sZ_sub f g n]; omega
theorem sZ_zero : ∀ n : Nat, sZ (fun _ => 0) n = 0
  | 0 => rfl
  | n + 1 => by
    show sZ _ n + 0 = 0
    rw [sZ_zero n]; rfl
theorem sZ_const (c : Int) : ∀ n : Nat, sZ (fun _ => c) n = n * c
  | 0 => by simp [sZ]
  | n + 1 => by
    show sZ _ n + c = _
    rw [sZ_const c n, Int.natCast_succ, Int.add_mul, Int.one_mul]
theorem sZ_mul (c : Int) (f : Nat → Int) : ∀ n : Nat, sZ (fun i => c * f i) n = c * sZ f n
  | 0 => by simp [sZ]
  | n + 1 => by
    show sZ _ n + c * f n = c * (sZ f n + f n)
    rw [sZ_mul c f n, Int.mul_add]
theorem sZ_head (f : Nat → Int) : ∀ n : Nat, sZ f (n + 1) = f 0 + sZ (fun i => f (i + 1)) n
  | 0 => by simp [sZ]
  | n + 1 => by
    show sZ f (n + 1) + f (n + 1) = f 0 + (sZ (fun i => f (i + 1)) n + f (n + 1))
    rw [sZ_head f n]; omega
theorem sZ_rev (f : Nat → Int) : ∀ n : Nat, sZ (fun i => f (n - 1 - i)) n = sZ f n
  | 0 => rfl
  | n + 1 => by
    rw [sZ_head]
    show f (n + 1 - 1 - 0) + _ = sZ f n + f n
    have e : sZ (fun i => f (n + 1 - 1 - (i + 1))) n = sZ (fun i => f (n - 1 - i)) n := sZ_congr fun i _ => by
      show f _ = f _
      congr 1; omega
    rw [e, sZ_rev f n, Nat.add_sub_cancel, Nat.sub_zero]; omega
theorem sZ_swap (f : Nat → Nat → Int) (m : Nat) : ∀ n : Nat, sZ (fun i => sZ (fun j => f i j) m) n = sZ (fun j => sZ (fun i => f i j) n) m
  | 0 => by
    show 0 = sZ (fun _ => 0) m
    rw [sZ_zero]
  | n + 1 => by
    show sZ _ n + sZ _ m = _
    rw [sZ_swap f m n, ← sZ_add]
    rfl
theorem sZ_split (f : Nat → Int) (n : Nat) : ∀ m : Nat, sZ f (n + m) = sZ f n + sZ (fun i => f (n + i)) m
  | 0 => by show sZ f n = sZ f n + 0; omega
  | m + 1 => by
    show sZ f (n + m) + f (n + m) = sZ f n + (sZ _ m + f (n + m))
    rw [sZ_split f n m]; omega
theorem sZ_nonneg {f : Nat → Int} : ∀ {n : Nat}, (∀ i, i < n → 0 ≤ f i) → 0 ≤ sZ f n
  | 0, _ => Int.le_refl 0
  | n + 1, h => by
    have a := sZ_nonneg (f := f) (n := n) fun i hi => h i (by omega)
    have b := h n (by omega)
    show 0 ≤ sZ f n + f n
    omega
/-- n (n - 1) / 2 -/
theorem sZ_id : ∀ n : Nat, sZ (fun i => (i : Int)) n = (n : Int) * ((n : Int) - 1) / 2
  | 0 => by simp [sZ]
  | n + 1 => by
    show sZ _ n + (n : Int) = _
    rw [sZ_id n]
    have e : ((n + 1 : Nat) : Int) * (((n + 1 : Nat) : Int) - 1) = (n : Int) * ((n : Int) - 1) + 2 * n := by
      rw [Int.natCast_succ, show (n : Int) + 1 - 1 = n by omega, Int.add_mul, Int.mul_sub]
      omega
    rw [e, Int.mul_comm 2 (n : Int), Int.add_mul_ediv_right _ _ (by decide)]
/-! ### sums of quotients -/
def QS (a b m : Int) (n : Nat) : Int := sZ (fun i => (a * i + b) / m) n
theorem QS_red (a b : Int) {m : Int} (hm : 0 < m) (n : Nat) : QS a b m n = (n : Int) * ((n : Int) - 1) / 2 * (a / m) + (n : Int) * (b / m) + QS (a % m) (b % m) m n := by
  unfold QS
  have e : sZ (fun i => (a * (i : Int) + b) / m) n = sZ (fun i => ((a / m) * (i : Int) + b / m) + (a % m * (i : Int) + b % m) / m) n := sZ_congr fun i _ => by
    have ea := Int.emod_add_mul_ediv a m
    have eb := Int.emod_add_mul_ediv b m
    have z : a * (i : Int) + b = (a % m * (i : Int) + b % m) + m * ((a / m) * (i : Int) + b / m) := by
      have h1 : a * (i : Int) = (a % m + m * (a / m)) * (i : Int) := by rw [ea]
      rw [h1, Int.add_mul, Int.mul_add, Int.mul_assoc]
      omega
    show (a * (i : Int) + b) / m = _
    rw [z, Int.add_mul_ediv_left _ _ (Int.ne_of_gt hm)]
    omega
  rw [e, sZ_add, sZ_add, sZ_mul, sZ_const, sZ_id, Int.mul_comm (a / m)]
/-- how often (j + 1) m ≤ y -/
theorem sZ_le {m y : Int} (hm : 0 < m) (hy : 0 ≤ y) : ∀ n : Nat, y / m ≤ n → sZ (fun j => if ((j : Int) + 1) * m ≤ y then 1 else 0) n = y / m
  | 0, h => by
    have := Int.ediv_nonneg hy (Int.le_of_lt hm)
    show 0 = y / m
    omega
  | n + 1, h => by
    have iff : ((n : Int) + 1) * m ≤ y ↔ (n : Int) + 1 ≤ y / m := (Int.le_ediv_iff_mul_le hm).symm
    show sZ _ n + (if ((n : Int) + 1) * m ≤ y then 1 else 0) = y / m
    by_cases c : (n : Int) + 1 ≤ y / m
    · have e : y / m = (n : Int) + 1 := by omega
      rw [if_pos (iff.mpr c), e]
      have all : sZ (fun j => if ((j : Int) + 1) * m ≤ y then 1 else 0) n = sZ (fun _ => 1) n := sZ_congr fun j hj => by
        have : ((j : Int) + 1) * m ≤ y := (Int.le_ediv_iff_mul_le hm).mp (by omega)
        rw [if_pos this]
      rw [all, sZ_const]; omega
    · rw [if_neg fun z => c (iff.mp z), sZ_le hm hy n (by omega)]; omega
/-- the points below a line, row by row -/
theorem QS_turn {a b m : Int} (ha : 0 < a) (ham : a < m) (hb : 0 ≤ b) (hbm : b < m) (n : Nat) {N : Nat} (hN : (N : Int) = (a * n + b) / m) : QS a b m n = QS m ((a * n + b) % m) a N := by
  have hm : 0 < m := by omega
  unfold QS
  have hai : ∀ i : Nat, 0 ≤ a * (i : Int) := fun i => Int.mul_nonneg (Int.le_of_lt ha) (Int.natCast_nonneg i)
  have e1 : sZ (fun i => (a * (i : Int) + b) / m) n = sZ (fun i => sZ (fun j => if ((j : Int) + 1) * m ≤ a * (i : Int) + b then 1 else 0) N) n := sZ_congr fun i hi => by
    refine (sZ_le hm (by have := hai i; omega) N ?_).symm
    rw [hN]
    refine Int.ediv_le_ediv hm ?_
    have : a * (i : Int) ≤ a * (n : Int) := Int.mul_le_mul_of_nonneg_left (by omega) (Int.le_of_lt ha)
    omega
  rw [e1, sZ_swap]
  have e2 : sZ (fun j => sZ (fun i => if ((j : Int) + 1) * m ≤ a * (i : Int) + b then 1 else 0) n) N = sZ (fun j => (a * n + b - ((j : Int) + 1) * m) / a) N := sZ_congr fun j hj => by
    rw [← sZ_rev]
    have hjm : ((j : Int) + 1) * m ≤ a * n + b := (Int.le_ediv_iff_mul_le hm).mp (by omega)
    have hm1 : m ≤ ((j : Int) + 1) * m := by
      have : 1 * m ≤ ((j : Int) + 1) * m := Int.mul_le_mul_of_nonneg_right (by omega) (Int.le_of_lt hm)
      omega
    refine Eq.trans (sZ_congr fun i hi => ?_) (sZ_le ha (y := a * n + b - ((j : Int) + 1) * m) (by omega) n ?_)
    · have e : a * ((n - 1 - i : Nat) : Int) = a * n - ((i : Int) + 1) * a := by
        rw [show ((n - 1 - i : Nat) : Int) = (n : Int) - ((i : Int) + 1) by omega, Int.mul_sub, Int.mul_comm a ((i : Int) + 1)]
      show (if ((j : Int) + 1) * m ≤ a * ((n - 1 - i : Nat) : Int) + b then (1 : Int) else 0) = _
      rw [e]
      by_cases c : ((i : Int) + 1) * a ≤ a * n + b - ((j : Int) + 1) * m
      · rw [if_pos c, if_pos (by omega)]
      · rw [if_neg c, if_neg (by omega)]
    · have : (a * n + b - ((j : Int) + 1) * m) / a ≤ (a * n) / a := Int.ediv_le_ediv ha (by omega)
      rw [Int.mul_ediv_cancel_left _ (Int.ne_of_gt ha)] at this
      exact this
  rw [e2, ← sZ_rev]
  refine sZ_congr fun t ht => ?_
  have er := Int.emod_add_mul_ediv (a * n + b) m
  show (a * n + b - (((N - 1 - t : Nat) : Int) + 1) * m) / a = (m * t + (a * n + b) % m) / a
  congr 1
  rw [show ((N - 1 - t : Nat) : Int) + 1 = (N : Int) - t by omega, Int.sub_mul, hN, Int.mul_comm _ m, Int.mul_comm _ m]
  omega
theorem QS_zero {a b m : Int} (ha : 0 ≤ a) (hb : 0 ≤ b) (n : Nat) (h : a * n + b < m) : QS a b m n = 0 := by
  unfold QS
  have e : sZ (fun i => (a * (i : Int) + b) / m) n = sZ (fun _ => 0) n := sZ_congr fun i hi => by
    have h1 : a * (i : Int) ≤ a * (n : Int) := Int.mul_le_mul_of_nonneg_left (by omega) ha
    exact Int.ediv_eq_zero_of_lt (by have := Int.mul_nonneg ha (Int.natCast_nonneg i); omega) (by omega)
  rw [e, sZ_zero]
/-! ### how many x from first on -/
def cN (p : Int → Bool) (first : Int) (n : Nat) : Int := sZ (fun i => if p (first + i) = true then 1 else 0) n
def tot (p : Int → Bool) (first last : Int) : Int := cN p first (last - first + 1).toNat
theorem tot_nonneg (p : Int → Bool) (first last : Int) : 0 ≤ tot p first last := sZ_nonneg fun i _ => by
  show 0 ≤ (if p (first + i) = true then (1 : Int) else 0)
  split <;> decide
theorem tot_none {p : Int → Bool} {first last : Int} (h : last < first) : tot p first last = 0 := by
  unfold tot
  rw [show (last - first + 1).toNat = 0 by omega]
  rfl
theorem tot_step (p : Int → Bool) {first last : Int} (h : first ≤ last) : tot p first last = tot p first (last - 1) + (if p last = true then 1 else 0) := by
  unfold tot
  rw [show (last - first + 1).toNat = (last - 1 - first + 1).toNat + 1 by omega]
  show cN p first _ + (if p (first + (((last - 1 - first + 1).toNat : Nat) : Int)) = true then 1 else 0) = _
  rw [show first + (((last - 1 - first + 1).toNat : Nat) : Int) = last by omega]
theorem tot_split (p : Int → Bool) {first mid last : Int} (h1 : first - 1 ≤ mid) (h2 : mid ≤ last) : tot p first last = tot p first mid + tot p (mid + 1) last := by
  unfold tot cN
  rw [show (last - first + 1).toNat = (mid - first + 1).toNat + (last - (mid + 1) + 1).toNat by omega, sZ_split]
  congr 1
  refine sZ_congr fun i _ => ?_
  rw [show first + (((mid - first + 1).toNat + i : Nat) : Int) = mid + 1 + i by omega]
theorem tot_mono (p : Int → Bool) {first m n : Int} (h : m ≤ n) : tot p first m ≤ tot p first n := by
  by_cases c : first - 1 ≤ m
  · rw [tot_split p c h]
    have := tot_nonneg p (m + 1) n
    omega
  · rw [tot_none (p := p) (show m < first by omega)]
    exact tot_nonneg p first n
theorem tot_one (p : Int → Bool) (x : Int) : tot p x x = if p x = true then 1 else 0 := by
  rw [tot_step p (Int.le_refl x), tot_none (show x - 1 < x by omega)]; omega
theorem tot_congr {p q : Int → Bool} {first last : Int} (h : ∀ x, first ≤ x → x ≤ last → p x = q x) : tot p first last = tot q first last := by
  unfold tot cN
  refine sZ_congr fun i hi => ?_
  rw [h (first + i) (by omega) (by omega)]
theorem tot_pos {p : Int → Bool} {first last x : Int} (h1 : first ≤ x) (h2 : x ≤ last) (hp : p x = true) : 0 < tot p first last := by
  have a := tot_mono p (first := first) h2
  rw [tot_step p h1, if_pos hp] at a
  have := tot_nonneg p first (x - 1)
  omega
theorem tot_zero_iff {p : Int → Bool} {first last : Int} : tot p first last = 0 ↔ ∀ x, first ≤ x → x ≤ last → p x = false := by
  constructor
  · intro h x h1 h2
    cases e : p x with
    | false => rfl
    | true => have := tot_pos h1 h2 e; omega
  · intro h
    rw [tot_congr (q := fun _ => false) h]
    unfold tot cN
    rw [show (fun i : Nat => if (fun _ : Int => false) (first + i) = true then (1 : Int) else 0) = fun _ => 0 from rfl, sZ_zero]
theorem tot_le (p : Int → Bool) {first last : Int} (h : first ≤ last + 1) : tot p first last ≤ last - first + 1 := by
  have key : ∀ n : Nat, cN p first n ≤ n := fun n => by
    induction n with
    | zero => exact Int.le_refl 0
    | succ n ih =>
      show cN p first n + (if p (first + n) = true then 1 else 0) ≤ _
      split <;> omega
  have := key (last - first + 1).toNat
  unfold tot
  omega
theorem tot_all_iff {p : Int → Bool} {first last : Int} (h : first ≤ last + 1) : tot p first last = last - first + 1 ↔ ∀ x, first ≤ x → x ≤ last → p x = true := by
  have neg : tot p first last + tot (fun x => !p x) first last = last - first + 1 := by
    unfold tot cN
    rw [← sZ_add, sZ_congr (g := fun _ => 1) fun i _ => (by show ((if p (first + i) = true then (1 : Int) else 0) + if (!p (first + i)) = true then 1 else 0) = 1; cases p (first + i) <;> rfl), sZ_const]
    omega
  constructor
  · intro e x h1 h2
    have := tot_zero_iff.mp (show tot (fun x => !p x) first last = 0 by omega) x h1 h2
    cases q : p x with
    | true => rfl
    | false => rw [q] at this; cases this
  · intro e
    have : tot (fun x => !p x) first last = 0 := tot_zero_iff.mpr fun x h1 h2 => by
      show (!p x) = false
      rw [e x h1 h2]; rfl
    omega
theorem tot_not {p : Int → Bool} {first last : Int} (h : first ≤ last + 1) : tot (fun x => !p x) first last = last - first + 1 - tot p first last := by
  have neg : tot p first last + tot (fun x => !p x) first last = last - first + 1 := by
    unfold tot cN
    rw [← sZ_add, sZ_congr (g := fun _ => 1) fun i _ => (by show ((if p (first + i) = true then (1 : Int) else 0) + if (!p (first + i)) = true then 1 else 0) = 1; cases p (first + i) <;> rfl), sZ_const]
    omega
  omega
/-- moving along -/
theorem tot_shift (p : Int → Bool) (first last d : Int) : tot (fun x => p (x + d)) first last = tot p (first + d) (last + d) := by
  unfold tot cN
  rw [show (last + d - (first + d) + 1).toNat = (last - first + 1).toNat by omega]
  refine sZ_congr fun i _ => ?_
  show (if p (first + (i : Int) + d) = true then (1 : Int) else 0) = _
  rw [show first + (i : Int) + d = first + d + i by omega]
/-- turning round -/
theorem tot_turn (p : Int → Bool) (first last : Int) : tot (fun x => p (-x)) first last = tot p (-last) (-first) := by
  unfold tot cN
  rw [show (-first - -last + 1).toNat = (last - first + 1).toNat by omega, ← sZ_rev]
  refine sZ_congr fun i hi => ?_
  show (if p (-(first + (((last - first + 1).toNat - 1 - i : Nat) : Int))) = true then (1 : Int) else 0) = _
  rw [show -(first + (((last - first + 1).toNat - 1 - i : Nat) : Int)) = -last + i by omega]
/-! ### the results of a line within bounds -/
/-- of the integers that are equal to y modulo m, one is from lo to hi -/
def inR (m lo hi y : Int) : Bool := decide (lo ≤ hi ∧ (y - lo) % m ≤ hi - lo)
theorem inR_quot {m lo hi : Int} (hm : 0 < m) (h1 : lo ≤ hi) (h2 : hi - lo < m) (y : Int) : (y - lo) / m - (y - hi - 1) / m = if inR m lo hi y = true then 1 else 0 := by
  have d1 := Int.emod_add_mul_ediv (y - lo) m
  have r0 := Int.emod_nonneg (y - lo) (Int.ne_of_gt hm)
  have r1 := Int.emod_lt_of_pos (y - lo) hm
  unfold inR
  by_cases c : (y - lo) % m ≤ hi - lo
  · rw [if_pos (decide_eq_true ⟨h1, c⟩)]
    have e : y - hi - 1 = ((y - lo) % m + (m - (hi - lo) - 1)) + m * ((y - lo) / m - 1) := by
      rw [Int.mul_sub, Int.mul_one]; omega
    have z := Int.ediv_eq_zero_of_lt (a := (y - lo) % m + (m - (hi - lo) - 1)) (b := m) (by omega) (by omega)
    rw [e, Int.add_mul_ediv_left _ _ (Int.ne_of_gt hm), z]
    omega
  · rw [if_neg (by rw [decide_eq_true_eq]; exact fun z => c z.2)]
    have e : y - hi - 1 = ((y - lo) % m - (hi - lo) - 1) + m * ((y - lo) / m) := by omega
    have z := Int.ediv_eq_zero_of_lt (a := (y - lo) % m - (hi - lo) - 1) (b := m) (by omega) (by omega)
    rw [e, Int.add_mul_ediv_left _ _ (Int.ne_of_gt hm), z]
    omega
/-- what quotient_total tells -/
def QT (a b m first last : Int) : Int := sZ (fun i => (a * (first + i) + b) / m) (last - first + 1).toNat
theorem QT_QS (a b m first last : Int) : QT a b m first last = QS a (b + a * first) m (last - first + 1).toNat := by
  unfold QT QS
  refine sZ_congr fun i _ => ?_
  rw [Int.mul_add]
  congr 1; omega
theorem QT_between {a b m first last lo hi : Int} (hm : 0 < m) (h1 : lo ≤ hi) (h2 : hi - lo < m) : QT a (b - lo) m first last - QT a (b - hi - 1) m first last = tot (fun x => inR m lo hi (a * x + b)) first last := by
  unfold QT tot cN
  rw [← sZ_sub]
  refine sZ_congr fun i _ => ?_
  rw [← inR_quot hm h1 h2]
  rw [show a * (first + (i : Int)) + (b - lo) = a * (first + (i : Int)) + b - lo by omega, show a * (first + (i : Int)) + (b - hi - 1) = a * (first + (i : Int)) + b - hi - 1 by omega]
theorem inR_none {m lo hi : Int} (h : hi < lo) (y : Int) : inR m lo hi y = false := decide_eq_false fun z => by omega
theorem tot_never {p : Int → Bool} (h : ∀ x, p x = false) (first last : Int) : tot p first last = 0 := tot_zero_iff.mpr fun x _ _ => h x
end Fw
namespace Fw
/-! ### the wanted ones, in a row -/
def wl (p : Int → Bool) (f : Int) (n : Nat) : List Int := ((List.range n).map fun i : Nat => f + (i : Int)).filter p
theorem wl_succ (p : Int → Bool) (f : Int) (n : Nat) : wl p f (n + 1) = wl p f n ++ (if p (f + n) = true then [f + (n : Int)] else []) := by
  unfold wl
  rw [List.range_succ, List.map_append, List.filter_append, List.map_singleton]
  congr 1
  cases h : p (f + (n : Int)) with
  | true => rw [List.filter_cons_of_pos h, if_pos rfl]; rfl
  | false => rw [List.filter_cons_of_neg (by rw [h]; exact Bool.false_ne_true), if_neg Bool.false_ne_true]; rfl
theorem wl_len (p : Int → Bool) (f : Int) : ∀ n : Nat, ((wl p f n).length : Int) = cN p f n
  | 0 => rfl
  | n + 1 => by
    rw [wl_succ, List.length_append]
    show _ = cN p f n + (if p (f + n) = true then 1 else 0)
    rw [← wl_len p f n]
    split <;> simp
theorem wl_tot {p : Int → Bool} {f l : Int} {n : Nat} (h : l - f + 1 = n) : ((wl p f n).length : Int) = tot p f l := by
  rw [wl_len]
  unfold tot
  rw [show (l - f + 1).toNat = n by omega]
theorem wl_mem {p : Int → Bool} {f : Int} {n : Nat} {x : Int} : x ∈ wl p f n ↔ f ≤ x ∧ x < f + n ∧ p x = true := by
  unfold wl
  rw [List.mem_filter, List.mem_map]
  constructor
  · rintro ⟨⟨i, hi, rfl⟩, h⟩
    have := List.mem_range.mp hi
    exact ⟨by omega, by omega, h⟩
  · rintro ⟨h1, h2, h3⟩
    exact ⟨⟨(x - f).toNat, List.mem_range.mpr (by omega), by omega⟩, h3⟩
/-- number k has k ahead -/
theorem wl_get {p : Int → Bool} {f : Int} : ∀ {n k : Nat} {x : Int}, (wl p f n)[k]? = some x → f ≤ x ∧ x < f + n ∧ p x = true ∧ tot p f (x - 1) = k
  | 0, k, x, h => by simp [wl] at h
  | n + 1, k, x, h => by
    rw [wl_succ] at h
    by_cases c : k < (wl p f n).length
    · rw [List.getElem?_append_left c] at h
      obtain ⟨a, b, d, e⟩ := wl_get h
      exact ⟨a, by omega, d, e⟩
    · rw [List.getElem?_append_right (by omega)] at h
      by_cases hp : p (f + n) = true
      · rw [if_pos hp] at h
        have e0 : k - (wl p f n).length = 0 := by
          have := (List.getElem?_eq_some_iff.mp h).1
          simpa using this
        rw [e0] at h
        have ex : f + (n : Int) = x := by simpa using h
        subst ex
        refine ⟨by omega, by omega, hp, ?_⟩
        rw [← wl_tot (n := n) (by omega)]
        omega
      · rw [if_neg hp] at h
        simp at h
theorem at_unique {p : Int → Bool} {f x y j : Int} (x1 : f ≤ x) (px : p x = true) (xj : tot p f (x - 1) = j) (y1 : f ≤ y) (py : p y = true) (yj : tot p f (y - 1) = j) : x = y := by
  rcases Int.lt_trichotomy x y with h | h | h
  · have := tot_mono p (first := f) (show x ≤ y - 1 by omega)
    rw [tot_step p x1, if_pos px] at this
    omega
  · exact h
  · have := tot_mono p (first := f) (show y ≤ x - 1 by omega)
    rw [tot_step p y1, if_pos py] at this
    omega
theorem wl_at {p : Int → Bool} {f : Int} {n k : Nat} {x y : Int} (h : (wl p f n)[k]? = some x) (y1 : f ≤ y) (py : p y = true) (yj : tot p f (y - 1) = k) : y = x := by
  obtain ⟨a, _, c, d⟩ := wl_get h
  exact at_unique y1 py yj a c d
theorem wl_nil {p : Int → Bool} {f l : Int} {n : Nat} (h : l - f + 1 = n) : wl p f n = [] ↔ tot p f l = 0 := by
  rw [← wl_tot h, ← List.length_eq_zero_iff]; omega
end Fw
namespace Fw
open PySem PySem.Spec PyProof.Rows L2
/-! ### ranges of any ints -/
theorem turn_long {P : Program} {w : World} {K : PySem.W.Frag} {tg : Expr} (it : Addr) (lo : Int) (n : Nat) : Turn P w K tg (Itr lo n) [it] it (fun i h => IsLongIter h it (lo + (i : Nat) * 1) ((n : Int) - (i : Nat)) 1) where
  mem := by simp
  obj := fun i h st b hb => by
    have e : b = it := by simpa using hb
    subst e
    exact ⟨_, st, fun v z => by
      have z' : Data.fields _ = Data.cell v := z
      cases z'⟩
  keep := fun i h h' st k => k it (by simp) _ st
  item := by
    intro X hP hw hK hc i pins s σ H E I hf st hg
    subst hP hw hK
    obtain ⟨f0, f1, f2, f3, f4, f5⟩ := hf it (by simp)
    have W := Walks.longrange (prog := X.prog) (w := X.w) (I.ok.hd hc) it lo 1 n
    refine W.item i s _ _ hg st fun v h' tk hv st' kk => ?_
    obtain ⟨t, rfl⟩ := hv
    have I1 : Inv X pins σ H { s with heap := h', toks := tk } := I.turned (fun b o hb e => kk b o (by simpa using hb) e) f0 f1 f3 f4 f5
    refine ⟨_, rfl, go_of (s := { s with heap := h', toks := tk }) (n := "longrange_iterator") st' rfl rfl (by decide) ⟨.int (lo + i), H, I1, ⟨t, ?_⟩, ⟨rfl, rfl⟩, st', fun b hb => (hf b hb).1⟩⟩
    rw [Int.mul_one]
  done := by
    intro X hP hw hK hc i pins s σ H E I hf st hg
    subst hP hw hK
    obtain ⟨f0, f1, f2, f3, f4, f5⟩ := hf it (by simp)
    exact wpAny_pyNext_long_end (I.ok.hd hc) st (by have : n ≤ i := hg; omega) fun h' eb => ⟨rfl, I.turned (t' := s.toks) (fun b o hb e => eb b o hb e) f0 f1 f3 f4 f5⟩
  self := fun _ _ _ _ _ st h => wpAny_pyIter_longiter st h
section
variable {X : Cx} {tg : Expr}
theorem range_itL {pins : List (Addr × Obj)} {σ : L2.St} {H : Hp} {s : Shared} {R : It → Hp → Prop} {E : Value → Shared → Prop} {lo hi : Int} {t u v : Tok} {tk : Nat} (I : Inv X pins σ H s)
    (q : R (Itr lo (hi - lo).toNat) H) : wpAny (model X.prog X.w) X.A (pyIter (.ref s.heap.objs.size)) (PIE X pins σ tg R) E { s with heap := s.heap.push { cls := .type "range", data := .fields #[.int lo t, .int hi u, .int 1 v] }, toks := tk } := by
  have I1 : Inv X pins σ H { s with heap := s.heap.push { cls := .type "range", data := .fields #[.int lo t, .int hi u, .int 1 v] }, toks := tk } := I.kept fun b o e => Heap.get?_push_of_some _ e
  have e1 : lo + ((0 : Nat) : Int) * 1 = lo := by simp
  have e2 : (((hi - lo).toNat : Nat) : Int) - ((0 : Nat) : Int) = Builtin.Range.rangeSize lo hi 1 := by rw [rangeSize_one]; split <;> omega
  cases hsm : Builtin.Range.small lo hi 1 with
  | true =>
    refine wpAny_pyIter_range (IsRange.new ..) hsm ?_
    refine ⟨(s.heap.push { cls := .type "range", data := .fields #[.int lo t, .int hi u, .int 1 v] }).objs.size, [(s.heap.push { cls := .type "range", data := .fields #[.int lo t, .int hi u, .int 1 v] }).objs.size], _, _, H, rfl,
      I1.kept (t' := tk) fun b o e => Heap.get?_push_of_some _ e, turn_range _ lo (hi - lo).toNat, ?_, fun b hb => ?_, q⟩
    · show IsRangeIter _ _ (lo + ((0 : Nat) : Int) * 1) ((((hi - lo).toNat : Nat) : Int) - ((0 : Nat) : Int)) 1
      rw [e1, e2]
      exact Heap.get?_push_size _ rfl
    · have e : b = (s.heap.push { cls := .type "range", data := .fields #[.int lo t, .int hi u, .int 1 v] }).objs.size := by simpa using hb
      subst e
      exact I1.fpOk (Nat.le_refl _) (I1.hok.fresh (Nat.le_refl _))
  | false =>
    refine wpAny_pyIter_longrange (IsRange.new ..) hsm ?_
    refine ⟨(s.heap.push { cls := .type "range", data := .fields #[.int lo t, .int hi u, .int 1 v] }).objs.size, [(s.heap.push { cls := .type "range", data := .fields #[.int lo t, .int hi u, .int 1 v] }).objs.size], _, _, H, rfl,
      I1.kept (t' := tk) fun b o e => Heap.get?_push_of_some _ e, turn_long _ lo (hi - lo).toNat, ?_, fun b hb => ?_, q⟩
    · show IsLongIter _ _ (lo + ((0 : Nat) : Int) * 1) ((((hi - lo).toNat : Nat) : Int) - ((0 : Nat) : Int)) 1
      rw [e1, e2]
      exact Heap.get?_push_size _ rfl
    · have e : b = (s.heap.push { cls := .type "range", data := .fields #[.int lo t, .int hi u, .int 1 v] }).objs.size := by simpa using hb
      subst e
      exact I1.fpOk (Nat.le_refl _) (I1.hok.fresh (Nat.le_refl _))
def iRngL (ta : TA) : TI := fun σ H R => ta σ H fun vs H1 => ∃ i j : Int, vs = [.int i, .int j] ∧ R (Itr i (j - i).toNat) H1
theorem pi_rangeL {a b : Expr} {ta : TA} {p pos : Pos} (hg : Gl X "range") (hm : X.mg "range" = none) (ha : PA X [a, b] ta) (hs : starEach [a, b] X.env = [(false, eval a X.env), (false, eval b X.env)] := by rfl) (hs2 : starEach [b] X.env = [(false, eval b X.env)] := by rfl) :
    PI X tg (.Call (.Name "range" p) [a, b] [] pos) (iRngL ta) := by
  refine ⟨fun pins s σ H R I h => ?_⟩
  refine Call_ (ld_blt I hg hm boot_range (PyProof.Rows.callWith_type1 (thn (ha.run pos pins s σ H _ I h) fun us s1 ⟨vs, H1, I1, r1, q1⟩ => ?_) (by rw [hs, hs2]) (by rw [hs2]; rfl)))
  obtain ⟨i, j, e, q⟩ := q1
  subst e
  cases r1 with
  | cons r rr =>
    cases rr with
    | cons r' rr =>
      cases rr
      obtain ⟨t, rfl⟩ := r
      obtain ⟨t', rfl⟩ := r'
      exact call_range_2 (range_itL I1 q)
end
end Fw
namespace Fw
/-! ### walks around a circle -/
structure Wk where
  (s t m e k r : Int)
def hn (s t p : Int) : Int := if s ≤ p + t then p + t - s else p + t
def hc (w : Wk) (p : Int) : Int := w.e + (if p < w.m then w.k else 0) + (if w.s ≤ p + w.t then w.r else 0)
def hP (w : Wk) : Nat → Int → Int
  | 0, p => p
  | n + 1, p => hn w.s w.t (hP w n p)
def hC (w : Wk) : Nat → Int → Int
  | 0, _ => 0
  | n + 1, p => hC w n p + hc w (hP w n p)
theorem hP_add (w : Wk) (m : Nat) (p : Int) : ∀ n : Nat, hP w (m + n) p = hP w n (hP w m p)
  | 0 => rfl
  | n + 1 => by
    show hn w.s w.t (hP w (m + n) p) = hn w.s w.t (hP w n (hP w m p))
    rw [hP_add w m p n]
theorem hC_add (w : Wk) (m : Nat) (p : Int) : ∀ n : Nat, hC w (m + n) p = hC w m p + hC w n (hP w m p)
  | 0 => by show hC w m p = hC w m p + 0; omega
  | n + 1 => by
    show hC w (m + n) p + hc w (hP w (m + n) p) = hC w m p + (hC w n (hP w m p) + hc w (hP w n (hP w m p)))
    rw [hC_add w m p n, hP_add w m p n]; omega
structure WF (w : Wk) : Prop where
  s0 : 0 < w.s
  t0 : 0 ≤ w.t
  ts : w.t < w.s
  m0 : 0 ≤ w.m
  ms : w.m ≤ w.s
  nn : ∀ p, 0 ≤ p → p < w.s → 0 ≤ hc w p
theorem hP_rng {w : Wk} (h : WF w) {p : Int} (p0 : 0 ≤ p) (p1 : p < w.s) : ∀ n : Nat, 0 ≤ hP w n p ∧ hP w n p < w.s
  | 0 => ⟨p0, p1⟩
  | n + 1 => by
    obtain ⟨a, b⟩ := hP_rng h p0 p1 n
    have t0 := h.t0
    have ts := h.ts
    show 0 ≤ hn w.s w.t (hP w n p) ∧ hn w.s w.t (hP w n p) < w.s
    unfold hn
    split <;> omega
theorem hC_nn {w : Wk} (h : WF w) {p : Int} (p0 : 0 ≤ p) (p1 : p < w.s) : ∀ n : Nat, 0 ≤ hC w n p
  | 0 => Int.le_refl _
  | n + 1 => by
    have a := hC_nn h p0 p1 n
    obtain ⟨b, c⟩ := hP_rng h p0 p1 n
    have := h.nn _ b c
    show 0 ≤ hC w n p + hc w (hP w n p)
    omega
theorem hC_mono {w : Wk} (h : WF w) {p : Int} (p0 : 0 ≤ p) (p1 : p < w.s) {m n : Nat} (hmn : m ≤ n) : hC w m p ≤ hC w n p := by
  obtain ⟨k, rfl⟩ : ∃ k, n = m + k := ⟨n - m, by omega⟩
  rw [hC_add]
  obtain ⟨a, b⟩ := hP_rng h p0 p1 m
  have := hC_nn h a b k
  omega
/-- n steps are done within the budget b, one more is not; g is left -/
def hT (w : Wk) (p b : Int) (n : Nat) (g : Int) : Prop := hC w n p + g = b ∧ 0 ≤ g ∧ g < hc w (hP w n p)
theorem hT_lt {w : Wk} (h : WF w) {p b g : Int} {n N : Nat} (p0 : 0 ≤ p) (p1 : p < w.s) (t : hT w p b n g) (hN : b < hC w N p) : n < N := by
  refine Nat.lt_of_not_le fun c => ?_
  have := hC_mono h p0 p1 c
  have := t.1
  have := t.2.1
  omega
theorem hT_ge {w : Wk} (h : WF w) {p b g : Int} {n N : Nat} (p0 : 0 ≤ p) (p1 : p < w.s) (t : hT w p b n g) (hN : hC w N p ≤ b) : N ≤ n := by
  refine Nat.le_of_not_lt fun c => ?_
  have h1 := hC_mono h p0 p1 (show n + 1 ≤ N from c)
  have h2 : hC w (n + 1) p = hC w n p + hc w (hP w n p) := rfl
  have := t.1
  have := t.2.2
  omega
/-! ceilings -/
theorem hceil {b t m i : Int} (ht : 0 < t) : b + i * t < m ↔ i < -((b - m) / t) := by
  have e := Int.ediv_lt_iff_lt_mul (a := b - m) (b := -i) ht
  rw [Int.neg_mul] at e
  constructor
  · intro h
    have := e.mpr (by omega)
    omega
  · intro h
    have := e.mp (by omega)
    omega
def Wk.mst (w : Wk) (b : Int) : Int := max 0 (-((b - w.m) / w.t))
def Wk.most (w : Wk) (b : Int) : Int := -((b - w.s) / w.t) - 1
def Wk.cost (w : Wk) (b n : Int) : Int := n * w.e + min n (w.mst b) * w.k
theorem mst_iff {w : Wk} (ht : 0 < w.t) {b i : Int} (hi : 0 ≤ i) : i < w.mst b ↔ b + i * w.t < w.m := by
  rw [hceil ht]; unfold Wk.mst; omega
theorem most_iff {w : Wk} (ht : 0 < w.t) {b i : Int} : i ≤ w.most b ↔ b + i * w.t < w.s := by
  rw [hceil ht]; unfold Wk.most; omega
/-- within a lap -/
theorem lap_in {w : Wk} (h : WF w) (ht : 0 < w.t) {b : Int} (b0 : 0 ≤ b) : ∀ n : Nat, (n : Int) ≤ w.most b → hP w n b = b + n * w.t ∧ hC w n b = w.cost b n
  | 0, _ => by
    refine ⟨?_, ?_⟩
    · show b = b + (0 : Nat) * w.t
      rw [show ((0 : Nat) : Int) = 0 from rfl, Int.zero_mul]; omega
    · show (0 : Int) = w.cost b (0 : Nat)
      unfold Wk.cost
      have : 0 ≤ w.mst b := by unfold Wk.mst; omega
      rw [show ((0 : Nat) : Int) = 0 from rfl, Int.zero_mul, show min 0 (w.mst b) = 0 by omega, Int.zero_mul]; rfl
  | n + 1, hn' => by
    obtain ⟨e1, e2⟩ := lap_in h ht b0 n (by omega)
    have a1 := (most_iff (w := w) ht).mp hn'
    have e3 : ((n + 1 : Nat) : Int) * w.t = n * w.t + w.t := by rw [Int.natCast_succ, Int.add_mul, Int.one_mul]
    have m1 := mst_iff (w := w) ht (b := b) (i := (n : Int)) (by omega)
    constructor
    · show hn w.s w.t (hP w n b) = _
      unfold hn
      rw [e1, if_neg (by omega), e3]; omega
    · show hC w n b + hc w (hP w n b) = _
      rw [e2, e1]
      unfold hc Wk.cost
      rw [if_neg (show ¬ w.s ≤ b + n * w.t + w.t by omega)]
      have e4 : ((n + 1 : Nat) : Int) * w.e = n * w.e + w.e := by rw [Int.natCast_succ, Int.add_mul, Int.one_mul]
      by_cases c : b + n * w.t < w.m
      · have c2 := m1.mpr c
        rw [if_pos c, show min (n : Int) (w.mst b) = n by omega, show min ((n + 1 : Nat) : Int) (w.mst b) = (n : Int) + 1 by omega, e4, Int.add_mul, Int.one_mul]; omega
      · have c2 := fun z => c (m1.mp z)
        rw [if_neg c, show min (n : Int) (w.mst b) = w.mst b by omega, show min ((n + 1 : Nat) : Int) (w.mst b) = w.mst b by omega, e4]; omega
def Wk.lng (w : Wk) : Int := -(-w.s / w.t)
def Wk.laps (w : Wk) : Wk := ⟨w.t, w.lng * w.t - w.s, w.m % w.t, w.lng * w.e + w.m / w.t * w.k + w.r, w.k, -w.e⟩
theorem lng_b {w : Wk} (ht : 0 < w.t) : w.s ≤ w.lng * w.t ∧ w.lng * w.t < w.s + w.t := by
  have e := Int.mul_ediv_add_emod (-w.s) w.t
  have r0 := Int.emod_nonneg (-w.s) (Int.ne_of_gt ht)
  have r1 := Int.emod_lt_of_pos (-w.s) ht
  unfold Wk.lng
  rw [Int.neg_mul, Int.mul_comm]
  omega
theorem mst_val {w : Wk} (h : WF w) (ht : 0 < w.t) {b : Int} (b0 : 0 ≤ b) (b1 : b < w.t) : w.mst b = w.m / w.t + (if b < w.m % w.t then 1 else 0) := by
  have e := Int.mul_ediv_add_emod w.m w.t
  have r0 := Int.emod_nonneg w.m (Int.ne_of_gt ht)
  have r1 := Int.emod_lt_of_pos w.m ht
  have q0 : 0 ≤ w.m / w.t := Int.ediv_nonneg h.m0 (Int.le_of_lt ht)
  have key : ∀ i : Int, 0 ≤ i → (i < w.mst b ↔ i < w.m / w.t + (if b < w.m % w.t then 1 else 0)) := fun i i0 => by
    rw [mst_iff ht i0]
    rw [Int.mul_comm i]
    rw [Int.mul_comm] at e
    rw [Int.mul_comm w.t]
    constructor
    · intro z
      by_cases c : i < w.m / w.t
      · split <;> omega
      · have := Int.mul_le_mul_of_nonneg_right (show w.m / w.t ≤ i by omega) (Int.le_of_lt ht)
        by_cases c2 : i = w.m / w.t
        · rw [c2] at z
          rw [if_pos (by omega)]; omega
        · have := Int.mul_le_mul_of_nonneg_right (show w.m / w.t + 1 ≤ i by omega) (Int.le_of_lt ht)
          rw [Int.add_mul, Int.one_mul] at this
          omega
    · intro z
      by_cases c : i < w.m / w.t
      · have := Int.mul_le_mul_of_nonneg_right (show i + 1 ≤ w.m / w.t by omega) (Int.le_of_lt ht)
        rw [Int.add_mul, Int.one_mul] at this
        omega
      · split at z
        · have c2 : i = w.m / w.t := by omega
          rw [c2]; omega
        · omega
  have n0 : 0 ≤ w.mst b := by unfold Wk.mst; omega
  have n1 : 0 ≤ w.m / w.t + (if b < w.m % w.t then (1 : Int) else 0) := by split <;> omega
  generalize w.m / w.t + (if b < w.m % w.t then (1 : Int) else 0) = z at *
  rcases Int.lt_trichotomy (w.mst b) z with c | c | c
  · have := (key _ n0).mpr c; omega
  · exact c
  · have := (key _ n1).mp c; omega
/-- a whole lap is a step of the walk of laps -/
theorem lap_one {w : Wk} (h : WF w) (ht : 0 < w.t) {b : Int} (b0 : 0 ≤ b) (b1 : b < w.t) : ∃ L : Nat, (L : Int) = w.most b + 1 ∧ 1 ≤ L ∧ hP w L b = hn w.laps.s w.laps.t b ∧ hC w L b = hc w.laps b ∧ b + L * w.t - w.s = hn w.laps.s w.laps.t b := by
  have ts := h.ts
  obtain ⟨l1, l2⟩ := lng_b (w := w) ht
  have mo0 : 0 ≤ w.most b := (most_iff (w := w) ht).mpr (by rw [Int.zero_mul]; omega)
  obtain ⟨n, hn'⟩ := Int.eq_ofNat_of_zero_le mo0
  obtain ⟨e1, e2⟩ := lap_in h ht b0 n (by omega)
  have a1 := (most_iff (w := w) ht (b := b) (i := (n : Int))).mp (by omega)
  have a2 : ¬ b + ((n : Int) + 1) * w.t < w.s := fun z => by
    have := (most_iff (w := w) ht).mpr z
    omega
  rw [Int.add_mul, Int.one_mul] at a2
  have e3 : ((n + 1 : Nat) : Int) * w.t = n * w.t + w.t := by rw [Int.natCast_succ, Int.add_mul, Int.one_mul]
  have pos : b + (n * w.t + w.t) - w.s = hn w.laps.s w.laps.t b := by
    show _ = hn w.t (w.lng * w.t - w.s) b
    unfold hn
    -- n + 1 is lng or one less
    have c1 : (n : Int) + 1 ≤ w.lng := by
      refine Int.not_lt.mp fun z => ?_
      have := Int.mul_le_mul_of_nonneg_right (show w.lng ≤ (n : Int) by omega) (Int.le_of_lt ht)
      omega
    have c2 : w.lng ≤ (n : Int) + 2 := by
      refine Int.not_lt.mp fun z => ?_
      have := Int.mul_le_mul_of_nonneg_right (show (n : Int) + 3 ≤ w.lng by omega) (Int.le_of_lt ht)
      rw [Int.add_mul] at this
      omega
    by_cases c : w.lng = (n : Int) + 1
    · have : w.lng * w.t = n * w.t + w.t := by rw [c, Int.add_mul, Int.one_mul]
      rw [if_neg (by omega)]; omega
    · have c3 : w.lng = (n : Int) + 2 := by omega
      have : w.lng * w.t = n * w.t + 2 * w.t := by rw [c3, Int.add_mul]
      rw [if_pos (by omega)]; omega
  refine ⟨n + 1, by omega, by omega, ?_, ?_, by rw [e3]; exact pos⟩
  · show hn w.s w.t (hP w n b) = _
    rw [← pos, e1]
    unfold hn
    rw [if_pos (by omega)]; omega
  · show hC w n b + hc w (hP w n b) = _
    rw [e2, e1]
    have mv := mst_val h ht b0 b1
    have mm : ∀ i : Int, 0 ≤ i → (i < w.mst b ↔ b + i * w.t < w.m) := fun i hi => mst_iff ht hi
    have mn := mm (n : Int) (by omega)
    have ml : w.mst b ≤ (n : Int) + 1 := by
      refine Int.not_lt.mp fun z => ?_
      have := (mm ((n : Int) + 1) (by omega)).mp z
      rw [Int.add_mul, Int.one_mul] at this
      have := h.ms
      omega
    have lhs : w.cost b n + hc w (b + n * w.t) = (n + 1) * w.e + w.mst b * w.k + w.r := by
      unfold Wk.cost hc
      rw [if_pos (show w.s ≤ b + n * w.t + w.t by omega), Int.add_mul, Int.one_mul]
      by_cases c : b + n * w.t < w.m
      · have := mn.mpr c
        rw [if_pos c, show min (n : Int) (w.mst b) = n by omega, show w.mst b = (n : Int) + 1 by omega, Int.add_mul, Int.one_mul]; omega
      · have := fun z => c (mn.mp z)
        rw [if_neg c, show min (n : Int) (w.mst b) = w.mst b by omega]; omega
    rw [lhs, mv]
    show _ = (w.lng * w.e + w.m / w.t * w.k + w.r) + (if b < w.m % w.t then w.k else 0) + (if w.t ≤ b + (w.lng * w.t - w.s) then -w.e else 0)
    have en : ((n : Int) + 1) * w.e = w.lng * w.e + (if w.t ≤ b + (w.lng * w.t - w.s) then -w.e else 0) := by
      have p2 := pos
      change _ = hn w.t (w.lng * w.t - w.s) b at p2
      unfold hn at p2
      split at p2
      · rename_i c
        rw [if_pos c]
        have : (w.lng - ((n : Int) + 1) - 1) * w.t = 0 := by
          rw [Int.sub_mul, Int.sub_mul, Int.add_mul, Int.one_mul]; omega
        have : w.lng - ((n : Int) + 1) - 1 = 0 := by
          rcases Int.mul_eq_zero.mp this with z | z
          · exact z
          · omega
        rw [show w.lng = (n : Int) + 1 + 1 by omega, Int.add_mul ((n : Int) + 1), Int.one_mul]; omega
      · rename_i c
        rw [if_neg c]
        have : (w.lng - ((n : Int) + 1)) * w.t = 0 := by
          rw [Int.sub_mul, Int.add_mul, Int.one_mul]; omega
        have : w.lng - ((n : Int) + 1) = 0 := by
          rcases Int.mul_eq_zero.mp this with z | z
          · exact z
          · omega
        rw [show w.lng = (n : Int) + 1 by omega]; omega
    rw [en, Int.add_mul]
    by_cases c : b < w.m % w.t
    · rw [if_pos c, if_pos c, Int.one_mul]; omega
    · rw [if_neg c, if_neg c, Int.zero_mul]; omega
theorem laps_wf {w : Wk} (h : WF w) (ht : 0 < w.t) : WF w.laps := by
  obtain ⟨l1, l2⟩ := lng_b (w := w) ht
  refine ⟨ht, by show 0 ≤ w.lng * w.t - w.s; omega, by show w.lng * w.t - w.s < w.t; omega, Int.emod_nonneg _ (Int.ne_of_gt ht), Int.le_of_lt (Int.emod_lt_of_pos _ ht), fun p p0 p1 => ?_⟩
  obtain ⟨L, _, _, _, e, _⟩ := lap_one h ht p0 p1
  rw [← e]
  exact hC_nn h p0 (by have := h.ts; have : p < w.t := p1; omega) L
/-- many laps -/
theorem lap_many {w : Wk} (h : WF w) (ht : 0 < w.t) {b : Int} (b0 : 0 ≤ b) (b1 : b < w.t) : ∀ N : Nat, ∃ S : Nat, N ≤ S ∧ hP w S b = hP w.laps N b ∧ hC w S b = hC w.laps N b ∧ b + S * w.t - N * w.s = hP w.laps N b
  | 0 => ⟨0, Nat.le_refl _, rfl, rfl, by
    show b + (0 : Nat) * w.t - (0 : Nat) * w.s = b
    rw [show ((0 : Nat) : Int) = 0 from rfl, Int.zero_mul, Int.zero_mul]; omega⟩
  | N + 1 => by
    obtain ⟨S, hS, e1, e2, e3⟩ := lap_many h ht b0 b1 N
    obtain ⟨r0, r1⟩ := hP_rng (laps_wf h ht) b0 (show b < w.laps.s from b1) N
    obtain ⟨L, _, hL, f1, f2, f3⟩ := lap_one h ht r0 r1
    refine ⟨S + L, by omega, ?_, ?_, ?_⟩
    · rw [hP_add, e1, f1]; rfl
    · rw [hC_add, e1, e2, f2]; rfl
    · show _ = hn w.laps.s w.laps.t (hP w.laps N b)
      rw [← f3, ← e3, Int.natCast_add, Int.add_mul, Int.natCast_succ, Int.add_mul, Int.one_mul]; omega
/-! mirrored -/
def Wk.mir (w : Wk) : Wk := ⟨w.s, w.s - w.t, w.s - w.m, w.e + w.k + w.r, -w.k, -w.r⟩
theorem mir_hc {w : Wk} (h : WF w) {p : Int} (p0 : 0 ≤ p) (p1 : p < w.s) : hc w.mir (w.s - 1 - p) = hc w p := by
  show (w.e + w.k + w.r) + (if w.s - 1 - p < w.s - w.m then -w.k else 0) + (if w.s ≤ w.s - 1 - p + (w.s - w.t) then -w.r else 0) = w.e + (if p < w.m then w.k else 0) + (if w.s ≤ p + w.t then w.r else 0)
  have ts := h.ts
  by_cases c1 : p < w.m
  · rw [if_neg (show ¬ w.s - 1 - p < w.s - w.m by omega), if_pos c1]
    by_cases c2 : w.s ≤ p + w.t
    · rw [if_neg (show ¬ w.s ≤ w.s - 1 - p + (w.s - w.t) by omega), if_pos c2]; omega
    · rw [if_pos (show w.s ≤ w.s - 1 - p + (w.s - w.t) by omega), if_neg c2]; omega
  · rw [if_pos (show w.s - 1 - p < w.s - w.m by omega), if_neg c1]
    by_cases c2 : w.s ≤ p + w.t
    · rw [if_neg (show ¬ w.s ≤ w.s - 1 - p + (w.s - w.t) by omega), if_pos c2]; omega
    · rw [if_pos (show w.s ≤ w.s - 1 - p + (w.s - w.t) by omega), if_neg c2]; omega
theorem mir_wf {w : Wk} (h : WF w) (ht : 0 < w.t) : WF w.mir := by
  have ts := h.ts
  have m0 := h.m0
  have ms := h.ms
  refine ⟨h.s0, by show 0 ≤ w.s - w.t; omega, by show w.s - w.t < w.s; omega, by show 0 ≤ w.s - w.m; omega, by show w.s - w.m ≤ w.s; omega, fun p p0 p1 => ?_⟩
  have p1 : p < w.s := p1
  have e := mir_hc h (p := w.s - 1 - p) (by omega) (by omega)
  rw [show w.s - 1 - (w.s - 1 - p) = p by omega] at e
  rw [e]
  exact h.nn _ (by omega) (by omega)
theorem mir_hP {w : Wk} (h : WF w) {p : Int} (p0 : 0 ≤ p) (p1 : p < w.s) : ∀ n : Nat, hP w.mir n (w.s - 1 - p) = w.s - 1 - hP w n p ∧ hC w.mir n (w.s - 1 - p) = hC w n p
  | 0 => ⟨rfl, rfl⟩
  | n + 1 => by
    obtain ⟨e1, e2⟩ := mir_hP h p0 p1 n
    obtain ⟨r0, r1⟩ := hP_rng h p0 p1 n
    constructor
    · show hn w.s (w.s - w.t) (hP w.mir n (w.s - 1 - p)) = w.s - 1 - hn w.s w.t (hP w n p)
      rw [e1]
      unfold hn
      by_cases c : w.s ≤ hP w n p + w.t
      · rw [if_pos c, if_neg (by omega)]; omega
      · rw [if_neg c, if_pos (by omega)]; omega
    · show hC w.mir n (w.s - 1 - p) + hc w.mir (hP w.mir n (w.s - 1 - p)) = hC w n p + hc w (hP w n p)
      rw [e2, e1, mir_hc h r0 r1]
theorem mir_hT {w : Wk} (h : WF w) {p b g : Int} {n : Nat} (p0 : 0 ≤ p) (p1 : p < w.s) (t : hT w.mir (w.s - 1 - p) b n g) : hT w p b n g := by
  obtain ⟨e1, e2⟩ := mir_hP h p0 p1 n
  obtain ⟨r0, r1⟩ := hP_rng h p0 p1 n
  obtain ⟨t1, t2, t3⟩ := t
  rw [e2] at t1
  rw [e1, mir_hc h r0 r1] at t3
  exact ⟨t1, t2, t3⟩
/-! as many steps of a lap as a budget allows -/
def Wk.sfor (w : Wk) (b g : Int) : Int :=
  if min (w.most b) (w.mst b) * (w.e + w.k) > g then g / (w.e + w.k)
  else if (w.most b - min (w.most b) (w.mst b)) * w.e > g - min (w.most b) (w.mst b) * (w.e + w.k) then min (w.most b) (w.mst b) + (g - min (w.most b) (w.mst b) * (w.e + w.k)) / w.e
  else w.most b
theorem sfor_ok {w : Wk} (h : WF w) (ht : 0 < w.t) {b g : Int} (b0 : 0 ≤ b) (b1 : b < w.t) (g0 : 0 ≤ g) : ∃ n : Nat, w.sfor b g = (n : Int) ∧ (n : Int) ≤ w.most b ∧ w.cost b n ≤ g ∧ ((n : Int) < w.most b → g < w.cost b ((n : Int) + 1)) := by
  have ts := h.ts
  have mo0 : 0 ≤ w.most b := (most_iff (w := w) ht).mpr (by rw [Int.zero_mul]; omega)
  have ms0 : 0 ≤ w.mst b := by unfold Wk.mst; omega
  -- what a step costs
  have stp : ∀ i : Int, 0 ≤ i → i < w.most b → 0 ≤ w.e + (if i < w.mst b then w.k else 0) := fun i i0 i1 => by
    have c1 := (most_iff (w := w) ht (b := b) (i := i + 1)).mp (by omega)
    rw [Int.add_mul, Int.one_mul] at c1
    have c2 := Int.mul_nonneg i0 (Int.le_of_lt ht)
    have e := h.nn (b + i * w.t) (by omega) (by omega)
    have c3 := mst_iff (w := w) ht (b := b) i0
    unfold hc at e
    rw [if_neg (show ¬ w.s ≤ b + i * w.t + w.t by omega)] at e
    by_cases c : i < w.mst b
    · rw [if_pos c]; rw [if_pos (c3.mp c)] at e; omega
    · rw [if_neg c]; rw [if_neg (fun z => c (c3.mpr z))] at e; omega
  unfold Wk.sfor
  obtain ⟨n0, hn0⟩ : ∃ n0, n0 = min (w.most b) (w.mst b) := ⟨_, rfl⟩
  rw [← hn0]
  have e1 : 0 ≤ n0 ∧ n0 ≤ w.most b ∧ n0 ≤ w.mst b := by omega
  have cost1 : ∀ n : Int, n ≤ n0 → w.cost b n = n * (w.e + w.k) := fun n z => by
    unfold Wk.cost
    rw [show min n (w.mst b) = n by omega, Int.mul_add]
  have cost2 : ∀ n : Int, n0 ≤ n → n ≤ w.most b → w.cost b n = n0 * (w.e + w.k) + (n - n0) * w.e := fun n z1 z2 => by
    unfold Wk.cost
    have : min n (w.mst b) = n0 := by omega
    rw [this, Int.mul_add, Int.sub_mul]; omega
  by_cases c1 : n0 * (w.e + w.k) > g
  · rw [if_pos c1]
    have n0p : 0 < n0 := by
      refine Int.not_le.mp fun z => ?_
      have : n0 = 0 := by omega
      rw [this, Int.zero_mul] at c1; omega
    have ek : 0 < w.e + w.k := by
      refine Int.not_le.mp fun z => ?_
      have := Int.mul_nonneg (show 0 ≤ n0 by omega) (show 0 ≤ -(w.e + w.k) by omega)
      rw [Int.mul_neg] at this; omega
    have q0 := Int.ediv_nonneg g0 (Int.le_of_lt ek)
    have e := Int.mul_ediv_add_emod g (w.e + w.k)
    have r0 := Int.emod_nonneg g (Int.ne_of_gt ek)
    have r1 := Int.emod_lt_of_pos g ek
    obtain ⟨n, hn'⟩ := Int.eq_ofNat_of_zero_le q0
    have lt : g / (w.e + w.k) < n0 := (Int.ediv_lt_iff_lt_mul ek).mpr c1
    rw [Int.mul_comm] at e
    refine ⟨n, hn', by omega, ?_, fun _ => ?_⟩
    · rw [cost1 _ (by omega), ← hn']; omega
    · rw [cost1 _ (by omega), ← hn', Int.add_mul, Int.one_mul]; omega
  · rw [if_neg c1]
    by_cases c2 : (w.most b - n0) * w.e > g - n0 * (w.e + w.k)
    · rw [if_pos c2]
      have lt : n0 < w.most b := by
        refine Int.not_le.mp fun z => ?_
        rw [show w.most b - n0 = 0 by omega, Int.zero_mul] at c2; omega
      have ep : 0 < w.e := by
        refine Int.not_le.mp fun z => ?_
        have := Int.mul_nonneg (show 0 ≤ w.most b - n0 by omega) (show 0 ≤ -w.e by omega)
        rw [Int.mul_neg] at this; omega
      obtain ⟨rest, hr⟩ : ∃ rest, rest = g - n0 * (w.e + w.k) := ⟨_, rfl⟩
      rw [← hr] at c2 ⊢
      have q0 := Int.ediv_nonneg (show 0 ≤ rest by omega) (Int.le_of_lt ep)
      have e := Int.mul_ediv_add_emod rest w.e
      have r0 := Int.emod_nonneg rest (Int.ne_of_gt ep)
      have r1 := Int.emod_lt_of_pos rest ep
      have lt2 : rest / w.e < w.most b - n0 := (Int.ediv_lt_iff_lt_mul ep).mpr c2
      obtain ⟨n, hn'⟩ := Int.eq_ofNat_of_zero_le (show 0 ≤ n0 + rest / w.e by omega)
      rw [Int.mul_comm] at e
      refine ⟨n, hn', by omega, ?_, fun _ => ?_⟩
      · rw [cost2 _ (by omega) (by omega), show (n : Int) - n0 = rest / w.e by omega]; omega
      · rw [cost2 _ (by omega) (by omega), show (n : Int) + 1 - n0 = rest / w.e + 1 by omega, Int.add_mul, Int.one_mul]; omega
    · rw [if_neg c2]
      obtain ⟨n, hn'⟩ := Int.eq_ofNat_of_zero_le mo0
      refine ⟨n, hn', by omega, ?_, fun z => by omega⟩
      rw [cost2 _ (by omega) (by omega), ← hn']; omega
/-- from laps back to steps -/
def Wk.steps (w : Wk) (p N : Int) : Int := -(-(N * w.s - p) / w.t)
theorem back_ok {w : Wk} (h : WF w) (ht : 0 < w.t) {p b g : Int} {N : Nat} (p0 : 0 ≤ p) (p1 : p < w.t) (t : hT w.laps p b N g) :
    ∃ S n : Nat, w.steps p N = (S : Int) ∧ 0 ≤ S * w.t - (N * w.s - p) ∧ S * w.t - (N * w.s - p) < w.t ∧ w.sfor (S * w.t - (N * w.s - p)) g = (n : Int) ∧ hT w p b (S + n) (g - w.cost (S * w.t - (N * w.s - p)) n) := by
  obtain ⟨S, hS, e1, e2, e3⟩ := lap_many h ht p0 p1 N
  obtain ⟨r0, r1⟩ := hP_rng (laps_wf h ht) p0 (show p < w.laps.s from p1) N
  have r1 : hP w.laps N p < w.t := r1
  have eb : S * w.t - (N * w.s - p) = hP w.laps N p := by omega
  have eS : w.steps p N = (S : Int) := by
    unfold Wk.steps
    have : -(N * w.s - p) = hP w.laps N p + w.t * (-(S : Int)) := by rw [Int.mul_neg, Int.mul_comm w.t]; omega
    rw [this, Int.add_mul_ediv_left _ _ (Int.ne_of_gt ht), Int.ediv_eq_zero_of_lt r0 r1]; omega
  obtain ⟨t1, t2, t3⟩ := t
  obtain ⟨n, n1, n2, n3, n4⟩ := sfor_ok h ht r0 r1 t2
  obtain ⟨i1, i2⟩ := lap_in h ht r0 n n2
  obtain ⟨L, hL, _, _, f2, _⟩ := lap_one h ht r0 r1
  refine ⟨S, n, eS, by omega, by omega, by rw [eb]; exact n1, ?_⟩
  rw [eb]
  refine ⟨?_, by omega, ?_⟩
  · rw [hC_add, e1, e2, i2]; omega
  · rw [hP_add, e1]
    by_cases c : (n : Int) < w.most (hP w.laps N p)
    · obtain ⟨_, j2⟩ := lap_in h ht r0 (n + 1) (by omega)
      have : hC w (n + 1) (hP w.laps N p) = hC w n (hP w.laps N p) + hc w (hP w n (hP w.laps N p)) := rfl
      have := n4 c
      rw [show ((n : Int) + 1) = ((n + 1 : Nat) : Int) by omega] at this
      omega
    · have eL : L = n + 1 := by omega
      rw [eL] at f2
      have : hC w (n + 1) (hP w.laps N p) = hC w n (hP w.laps N p) + hc w (hP w n (hP w.laps N p)) := rfl
      omega
/-- the walk that began where the lap of its first place does -/
theorem ahead_ok {w : Wk} (h : WF w) (ht : 0 < w.t) {p : Int} (p0 : 0 ≤ p) (p1 : p < w.s) : ∃ A : Nat, p / w.t = (A : Int) ∧ hP w A (p % w.t) = p ∧ hC w A (p % w.t) = w.cost (p % w.t) A := by
  have e := Int.mul_ediv_add_emod p w.t
  have r0 := Int.emod_nonneg p (Int.ne_of_gt ht)
  obtain ⟨A, hA⟩ := Int.eq_ofNat_of_zero_le (Int.ediv_nonneg p0 (Int.le_of_lt ht))
  rw [hA, Int.mul_comm] at e
  obtain ⟨e1, e2⟩ := lap_in h ht r0 A ((most_iff ht).mpr (by omega))
  exact ⟨A, hA, by rw [e1]; omega, e2⟩
theorem ahead_hT {w : Wk} (h : WF w) {q p b g : Int} {A X : Nat} (q0 : 0 ≤ q) (q1 : q < w.s) (b0 : 0 ≤ b) (e1 : hP w A q = p) (t : hT w q (b + hC w A q) X g) : A ≤ X ∧ hT w p b (X - A) g := by
  have ax := hT_ge h q0 q1 t (show hC w A q ≤ b + hC w A q by omega)
  obtain ⟨t1, t2, t3⟩ := t
  obtain ⟨k, rfl⟩ : ∃ k, X = A + k := ⟨X - A, by omega⟩
  rw [hC_add, e1] at t1
  rw [hP_add, e1] at t3
  rw [Nat.add_sub_cancel_left]
  exact ⟨ax, by omega, t2, t3⟩
/-- where no place changes -/
theorem base_hT {w : Wk} (h : WF w) (ht : w.t = 0) {p b : Int} {N : Nat} (p0 : 0 ≤ p) (p1 : p < w.s) (b0 : 0 ≤ b) (hN : b < hC w N p) : 0 < w.e + (if p < w.m then w.k else 0) ∧ ∃ n : Nat, b / (w.e + (if p < w.m then w.k else 0)) = (n : Int) ∧ hT w p b n (b % (w.e + (if p < w.m then w.k else 0))) := by
  have eP : ∀ n, hP w n p = p := fun n => by
    induction n with
    | zero => rfl
    | succ n ih =>
      show hn w.s w.t (hP w n p) = p
      rw [ih]
      unfold hn
      rw [if_neg (by omega), ht]; omega
  have ec : hc w p = w.e + (if p < w.m then w.k else 0) := by
    unfold hc
    rw [if_neg (show ¬ w.s ≤ p + w.t by omega)]; omega
  have eC : ∀ n : Nat, hC w n p = n * hc w p := fun n => by
    induction n with
    | zero => show (0 : Int) = (0 : Nat) * hc w p; rw [show ((0 : Nat) : Int) = 0 from rfl, Int.zero_mul]
    | succ n ih =>
      show hC w n p + hc w (hP w n p) = _
      rw [ih, eP, Int.natCast_succ, Int.add_mul, Int.one_mul]
  have c0 : 0 < hc w p := by
    refine Int.not_le.mp fun z => ?_
    rw [eC] at hN
    have := Int.mul_nonneg (show (0 : Int) ≤ N by omega) (show 0 ≤ -hc w p by omega)
    rw [Int.mul_neg] at this; omega
  rw [← ec]
  refine ⟨c0, ?_⟩
  have e := Int.mul_ediv_add_emod b (hc w p)
  obtain ⟨n, hn'⟩ := Int.eq_ofNat_of_zero_le (Int.ediv_nonneg b0 (Int.le_of_lt c0))
  rw [hn', Int.mul_comm] at e
  refine ⟨n, hn', ?_, Int.emod_nonneg _ (Int.ne_of_gt c0), ?_⟩
  · rw [eC]; exact e
  · rw [eP]; exact Int.emod_lt_of_pos _ c0
/-! how great all that is -/
structure WB (w : Wk) : Prop where
  s1 : w.s ≤ 2 ^ 129
  ex : ∃ E : Int, 0 ≤ E ∧ (-E ≤ w.e ∧ w.e ≤ E) ∧ (-E ≤ w.k ∧ w.k ≤ E) ∧ (-E ≤ w.r ∧ w.r ≤ E) ∧ E * w.s ^ 5 ≤ 2 ^ 700
theorem wb_top {s t m : Int} (s0 : 0 < s) (s1 : s ≤ 2 ^ 129) : WB ⟨s, t, m, 0, 1, 0⟩ := by
  refine ⟨s1, 1, by decide, ⟨by show -1 ≤ (0 : Int); decide, by show (0 : Int) ≤ 1; decide⟩, ⟨by show -1 ≤ (1 : Int); decide, Int.le_refl _⟩, ⟨by show -1 ≤ (0 : Int); decide, by show (0 : Int) ≤ 1; decide⟩, ?_⟩
  show 1 * s ^ 5 ≤ 2 ^ 700
  rw [Int.one_mul]
  have h : s.toNat ^ 5 ≤ (2 ^ 129) ^ 5 := Nat.pow_le_pow_left (by omega) 5
  have h2 : (2 ^ 129) ^ 5 ≤ 2 ^ 700 := by decide +kernel
  have e : s = (s.toNat : Int) := by omega
  rw [e]
  have h3 := Nat.le_trans h h2
  exact_mod_cast h3
theorem wb_mul {E a b : Int} (h : -E ≤ a ∧ a ≤ E) (b0 : 0 ≤ b) : -(b * E) ≤ b * a ∧ b * a ≤ b * E := by
  have h1 := Int.mul_le_mul_of_nonneg_left h.1 b0
  have h2 := Int.mul_le_mul_of_nonneg_left h.2 b0
  rw [Int.mul_neg] at h1
  exact ⟨h1, h2⟩
/-- the walk whose laps are taken: this one, or mirrored -/
def Wk.low (w : Wk) : Wk := if w.s < 2 * w.t then w.mir else w
theorem low_facts {w : Wk} (h : WF w) (ht : 0 < w.t) : WF w.low ∧ 0 < w.low.t ∧ 2 * w.low.t ≤ w.s ∧ w.low.s = w.s := by
  have ts := h.ts
  unfold Wk.low
  split
  · exact ⟨mir_wf h ht, by show 0 < w.s - w.t; omega, by show 2 * (w.s - w.t) ≤ w.s; omega, rfl⟩
  · exact ⟨h, ht, by omega, rfl⟩
theorem low_ex {w : Wk} (b : WB w) : ∃ E : Int, 0 ≤ E ∧ (-(3 * E) ≤ w.low.e ∧ w.low.e ≤ 3 * E) ∧ (-(3 * E) ≤ w.low.k ∧ w.low.k ≤ 3 * E) ∧ (-(3 * E) ≤ w.low.r ∧ w.low.r ≤ 3 * E) ∧ E * w.s ^ 5 ≤ 2 ^ 700 := by
  obtain ⟨_, E, e0, ee, ek, er, c⟩ := b
  refine ⟨E, e0, ?_, ?_, ?_, c⟩
  all_goals
    unfold Wk.low
    split
  · show -(3 * E) ≤ w.e + w.k + w.r ∧ w.e + w.k + w.r ≤ 3 * E; omega
  · omega
  · show -(3 * E) ≤ -w.k ∧ -w.k ≤ 3 * E; omega
  · omega
  · show -(3 * E) ≤ -w.r ∧ -w.r ≤ 3 * E; omega
  · omega
theorem wb_laps {w : Wk} (h : WF w) (ht : 0 < w.t) (b : WB w) : WB w.low.laps := by
  obtain ⟨hl, tl, t2, es⟩ := low_facts h ht
  obtain ⟨E, e0, ee, ek, er, c⟩ := low_ex b
  obtain ⟨l1, l2⟩ := lng_b (w := w.low) tl
  have s0 := h.s0
  have m0 := hl.m0
  have ms := hl.ms
  rw [es] at l1 l2 ms
  have q0 : 0 ≤ w.low.m / w.low.t := Int.ediv_nonneg m0 (Int.le_of_lt tl)
  have q1 : w.low.m / w.low.t * w.low.t ≤ w.low.m := Int.ediv_mul_le _ (Int.ne_of_gt tl)
  have n0 : 0 ≤ w.low.lng := by
    refine Int.not_lt.mp fun z => ?_
    have := Int.mul_le_mul_of_nonneg_right (show w.low.lng ≤ 0 by omega) (Int.le_of_lt tl)
    rw [Int.zero_mul] at this; omega
  have f1 := wb_mul ee n0
  have f2 := wb_mul ek q0
  have s1 := b.s1
  obtain ⟨M, hM⟩ : ∃ M, M = w.low.lng + w.low.m / w.low.t + 1 := ⟨_, rfl⟩
  have sum : M * (3 * E) = w.low.lng * (3 * E) + w.low.m / w.low.t * (3 * E) + 3 * E := by rw [hM, Int.add_mul, Int.add_mul, Int.one_mul]
  have M1 : 1 ≤ M := by omega
  have M3 : 3 * E ≤ M * (3 * E) := by
    have := Int.mul_le_mul_of_nonneg_right M1 (show 0 ≤ 3 * E by omega)
    rw [Int.one_mul] at this; exact this
  refine ⟨by show w.low.t ≤ 2 ^ 129; omega, M * (3 * E), Int.mul_nonneg (by omega) (by omega), ?_, ?_, ?_, ?_⟩
  · show -(M * (3 * E)) ≤ w.low.lng * w.low.e + w.low.m / w.low.t * w.low.k + w.low.r ∧ w.low.lng * w.low.e + w.low.m / w.low.t * w.low.k + w.low.r ≤ M * (3 * E)
    omega
  · show -(M * (3 * E)) ≤ w.low.k ∧ w.low.k ≤ M * (3 * E)
    omega
  · show -(M * (3 * E)) ≤ -w.low.e ∧ -w.low.e ≤ M * (3 * E)
    omega
  · show M * (3 * E) * w.low.t ^ 5 ≤ 2 ^ 700
    refine Int.le_trans ?_ c
    have Mt : M * w.low.t ≤ 3 * w.s := by
      rw [hM, Int.add_mul, Int.add_mul, Int.one_mul]; omega
    have t4 : 9 * w.low.t ^ 4 ≤ w.s ^ 4 := by
      have h1 : (2 * w.low.t.toNat) ^ 4 ≤ w.s.toNat ^ 4 := Nat.pow_le_pow_left (by omega) 4
      have e1 : w.low.t = (w.low.t.toNat : Int) := by omega
      have e2 : w.s = (w.s.toNat : Int) := by omega
      rw [Nat.mul_pow] at h1
      have h2 : 9 * w.low.t.toNat ^ 4 ≤ w.s.toNat ^ 4 := by
        have : 2 ^ 4 * w.low.t.toNat ^ 4 = 16 * w.low.t.toNat ^ 4 := rfl
        omega
      rw [e1, e2]
      exact_mod_cast h2
    have p4 : 0 ≤ w.low.t ^ 4 := Int.pow_nonneg (Int.le_of_lt tl)
    have g1 : M * (3 * E) * w.low.t ^ 5 = (M * w.low.t) * (3 * E * w.low.t ^ 4) := by
      rw [show (5 : Nat) = 4 + 1 from rfl, Int.pow_succ]
      rw [Int.mul_assoc M, Int.mul_assoc M, ← Int.mul_assoc (3 * E), Int.mul_comm (3 * E * w.low.t ^ 4) w.low.t]
    have g2 := Int.mul_le_mul_of_nonneg_right Mt (show 0 ≤ 3 * E * w.low.t ^ 4 from Int.mul_nonneg (by omega) p4)
    have g3 : 3 * w.s * (3 * E * w.low.t ^ 4) = (E * w.s) * (9 * w.low.t ^ 4) := by
      rw [show 3 * w.s * (3 * E * w.low.t ^ 4) = 3 * (w.s * (3 * E * w.low.t ^ 4)) by rw [Int.mul_assoc], show 3 * E * w.low.t ^ 4 = 3 * (E * w.low.t ^ 4) by rw [Int.mul_assoc], Int.mul_left_comm w.s 3, Int.mul_left_comm (E * w.s) 9, Int.mul_comm E w.s, Int.mul_assoc w.s E]
      omega
    have g4 := Int.mul_le_mul_of_nonneg_left t4 (show 0 ≤ E * w.s from Int.mul_nonneg e0 (Int.le_of_lt s0))
    have g5 : E * w.s * w.s ^ 4 = E * w.s ^ 5 := by
      have p5 : w.s ^ 5 = w.s ^ 4 * w.s := Int.pow_succ _ _
      rw [p5, Int.mul_comm (w.s ^ 4) w.s, Int.mul_assoc]
    omega
theorem wb_E {w : Wk} (h : WF w) (b : WB w) : ∃ E : Int, 0 ≤ E ∧ (-E ≤ w.e ∧ w.e ≤ E) ∧ (-E ≤ w.k ∧ w.k ≤ E) ∧ (-E ≤ w.r ∧ w.r ≤ E) ∧ E ≤ 2 ^ 700 ∧ E * w.s ≤ 2 ^ 700 := by
  obtain ⟨_, E, e0, ee, ek, er, c⟩ := b
  have s0 := h.s0
  have one : ∀ n : Nat, 1 ≤ w.s ^ n := fun n => by
    have := Int.pow_pos (m := n) s0; omega
  refine ⟨E, e0, ee, ek, er, ?_, ?_⟩
  · have := Int.mul_le_mul_of_nonneg_left (one 5) e0
    rw [Int.mul_one] at this; omega
  · have g5 : E * w.s * w.s ^ 4 = E * w.s ^ 5 := by
      have p5 : w.s ^ 5 = w.s ^ 4 * w.s := Int.pow_succ _ _
      rw [p5, Int.mul_comm (w.s ^ 4) w.s, Int.mul_assoc]
    have := Int.mul_le_mul_of_nonneg_left (one 4) (show 0 ≤ E * w.s from Int.mul_nonneg e0 (Int.le_of_lt s0))
    rw [Int.mul_one] at this; omega
end Fw
namespace Fw
open PySem L2
def rDivC : List V → Hp → VK → Prop := fun xs H Q => ∃ i j, xs = [.int i, .int j] ∧ CDivP i j ∧ ∀ p, H p = none → Q (.ref p) (upd H p (.tup [.int (i / j), .int (i % j)]))
def rmax2C : List V → Hp → VK → Prop := fun xs H Q => ∃ i j : Int, xs = [.int i, .int j] ∧ Q (.int (if j > i then j else i)) H
def rmin2C : List V → Hp → VK → Prop := fun xs H Q => ∃ i j : Int, xs = [.int i, .int j] ∧ Q (.int (if j < i then j else i)) H
section
variable {σ : L2.St} {H : Hp} {Q : VK} {D : Ends} {te : TE}
theorem w_aug {i : Nat} {x : V} {g : Int → Int → Int} (hx : σ[i]? = some (some x)) (q : te σ H fun y H1 => ∃ u v : Int, x = .int u ∧ y = .int v ∧ D.nx (σ.set i (some (.int (g u v)))) H1) : tAug i te (ipI g) D σ H := ⟨x, hx, q⟩
theorem w_augR {i : Nat} {x : V} {r : R2} (hx : σ[i]? = some (some x)) (q : te σ H fun y H1 => r x y H1 fun z H2 => D.nx (σ.set i (some z)) H2) : tAug i te r D σ H := ⟨x, hx, q⟩
theorem w_ipi {u v : Int} {P : Int → Int → Prop} (q : P u v) : ∃ a b : Int, V.int u = .int a ∧ V.int v = .int b ∧ P a b := ⟨u, v, rfl, rfl, q⟩
theorem w_max2 {i j : Int} (q : Q (.int (max i j)) H) : rmax2C [.int i, .int j] H Q := ⟨i, j, rfl, by
  have e : (if j > i then j else i) = max i j := by split <;> omega
  rw [e]; exact q⟩
theorem w_min2 {i j : Int} (q : Q (.int (min i j)) H) : rmin2C [.int i, .int j] H Q := ⟨i, j, rfl, by
  have e : (if j < i then j else i) = min i j := by split <;> omega
  rw [e]; exact q⟩
theorem w_lenT {K : PySem.W.Frag} {p : Addr} {ys : List V} (h : H p = some (.tup ys)) (q : Q (.int (ys.length : Int)) H) : rLenS K [.ref p] H Q := ⟨p, ys, rfl, .inr (SqT.of h), q⟩
theorem w_stJ {c : Prop} [Decidable c] {ta tb : TS} (R : L2.St → Hp → Prop) (h1 : c → ∀ D' : Ends, (∀ σ' H', R σ' H' → D'.nx σ' H') → ta D' σ H) (h2 : ¬ c → ∀ D' : Ends, (∀ σ' H', R σ' H' → D'.nx σ' H') → tb D' σ H) (q : ∀ σ' H', R σ' H' → D.nx σ' H') : if decide c = true then ta D σ H else tb D σ H := w_dec (fun z => h1 z D q) (fun z => h2 z D q)
theorem w_bm {K : PySem.W.Frag} {T : String} {r : V → List V → Hp → VK → Prop} {to : TE} {t : TA} (q : to σ H fun x H1 => tyV K T x H1 ∧ t σ H1 fun xs H2 => r x xs H2 Q) : tBM K T r to t σ H Q := q
theorem w_ifJ {tt : TT} {ta tb : TE} (R : V → Hp → Prop) (h1 : ∀ Q : VK, (∀ x H', R x H' → Q x H') → tIf tt ta tb σ H Q) (q : ∀ x H', R x H' → Q x H') : tIf tt ta tb σ H Q := h1 Q q
/-- whatever an expression's value is, as far as R tells of it -/
theorem w_any (R : V → Hp → Prop) (h1 : ∀ Q : VK, (∀ x H', R x H' → Q x H') → te σ H Q) (q : ∀ x H', R x H' → Q x H') : te σ H Q := h1 Q q
theorem w_tst {tt : TT} {Q : Bool → Hp → Prop} (R : Bool → Hp → Prop) (h : ∀ Q : Bool → Hp → Prop, (∀ b H', R b H' → Q b H') → tt σ H Q) (q : ∀ b H', R b H' → Q b H') : tt σ H Q := h Q q
/-- c and tt, as a test that comes out false -/
theorem w_decJ {c : Prop} [Decidable c] {tt : TT} {Q : Bool → Hp → Prop} (R : Hp → Prop) (h1 : c → ∀ Q : Bool → Hp → Prop, (∀ H', R H' → Q false H') → tt σ H Q) (h2 : ¬ c → R H) (q : ∀ H', R H' → Q false H') : if decide c = true then tt σ H Q else Q false H := w_dec (fun z => h1 z Q q) (fun z => q H (h2 z))
end
section
variable {K : PySem.W.Frag} {σ : L2.St} {H : Hp} {Q : VK} {D : Ends} {te : TE}
theorem w_itT {tl : TE} {R : It → Hp → Prop} (q : tl σ H fun x H1 => ∃ a, x = .ref a ∧ (∃ xs, SqT K H1 a xs) ∧ R (Itt K a) H1) : iTup K tl σ H R := q
theorem w_itE {ta : TA} {R : It → Hp → Prop} (q : ta σ H fun vs H1 => ∃ a xs, vs = [.ref a] ∧ SqL K H1 a xs ∧ R (Ite K a) H1) : iEnum K ta σ H R := q
theorem w_minL {a : Addr} {ns : List Int} (h : SqL K H a (ns.map V.int)) (n : 0 < ns.length) (q : ∀ m, m ∈ ns → (∀ y, y ∈ ns → m ≤ y) → Q (.int m) H) : rMin K [.ref a] H Q := ⟨a, ns, rfl, h, n, q⟩
theorem w_truL {p : Addr} {xs : List V} {P : Bool → Prop} (h : SqL K H p xs) (q : P (!xs.isEmpty)) : ∃ k, TruV K (.ref p) H k ∧ P k := ⟨_, .inl ⟨xs, h, rfl⟩, q⟩
theorem w_notinL {p : Addr} {x : V} {xs : List V} (h : SqL K H p xs) (f1 : flatV x = true) (f2 : xs.all flatV = true) (q : Q (.bl (!inV x xs)) H) : rIn K true x (.ref p) H Q := ⟨p, xs, rfl, .inl h, f1, f2, q⟩
theorem w_inL {p : Addr} {x : V} {xs : List V} (h : SqL K H p xs) (f1 : flatV x = true) (f2 : xs.all flatV = true) (q : Q (.bl (inV x xs)) H) : rIn K false x (.ref p) H Q := ⟨p, xs, rfl, .inl h, f1, f2, q⟩
theorem w_eqDg {x y : V} {d e : PyData} (hx : Dp K H x d) (hy : Dp K H y e) (sd : SeqAt.shaped d = true) (se : SeqAt.shaped e = true) (q : Q (.bl (PyData.eqv d e)) H) : rEqD K x y H Q := ⟨d, e, hx, hy, sd, se, q⟩
theorem w_neDg {x y : V} {d e : PyData} (hx : Dp K H x d) (hy : Dp K H y e) (sd : SeqAt.shaped d = true) (se : SeqAt.shaped e = true) (q : Q (.bl (!PyData.eqv d e)) H) : rNeD K x y H Q := ⟨d, e, hx, hy, sd, se, q⟩
end
theorem flat_ints (is : List Int) : (is.map V.int).all flatV = true := by
  induction is with
  | nil => rfl
  | cons x r ih => rw [List.map_cons, List.all_cons, ih]; rfl
theorem inV_ints (i : Int) (is : List Int) : inV (.int i) (is.map V.int) = decide (i ∈ is) := by
  unfold inV
  induction is with
  | nil => simp
  | cons x r ih =>
    rw [List.map_cons, List.any_cons, ih]
    by_cases h : i = x
    · subst h
      rw [show eqV (V.int i) (V.int i) = true by simp [eqV]]; simp
    · have e1 : eqV (V.int x) (V.int i) = false := by simp [eqV]; exact fun z => h z.symm
      have e2 : eqV (V.int i) (V.int x) = false := by simp [eqV]; exact h
      first | rw [e1] | rw [e2]
      simp [h]
theorem w_rng2 {σ : L2.St} {H : Hp} {ta : TA} {R : It → Hp → Prop} (q : ta σ H fun vs H1 => ∃ i j : Int, vs = [.int i, .int j] ∧ (-(2 ^ 62) ≤ i ∧ i < 2 ^ 62 ∧ -(2 ^ 62) ≤ j ∧ j < 2 ^ 62) ∧ R (Itr i (j - i).toNat) H1) : iRng2 ta σ H R := q
theorem w_neOg {H : Hp} {Q : VK} {x y : V} (hx : x = .non ∨ ∃ i, x = .int i) (hy : y = .non ∨ ∃ i, y = .int i) (q : Q (.bl (!decide (x = y))) H) : rNe x y H Q := ⟨by
  rcases hx with rfl | ⟨i, rfl⟩ <;> rcases hy with rfl | ⟨j, rfl⟩ <;> rfl, q⟩
theorem w_itZ {K : PySem.W.Frag} {σ : L2.St} {H : Hp} {ta : TA} {R : It → Hp → Prop} (q : ta σ H fun vs H1 => ∃ a b xs ys, vs = [.ref a, .ref b] ∧ SqL K H1 a xs ∧ SqL K H1 b ys ∧ R (Itz K a b) H1) : iZip K ta σ H R := q
theorem w_srt {K : PySem.W.Frag} {H : Hp} {Q : VK} {a : Addr} {ns : List Int} (h : SqL K H a (ns.map V.int)) (q : ∀ (ns' : List Int) (p : Addr), ns'.Perm ns → ns'.Pairwise (· ≤ ·) → H p = none → Q (.ref p) (upd H p (.lst (ns'.map V.int)))) : rSortedI K [.ref a] H Q := ⟨a, ns, rfl, h, q⟩
theorem w_isNr {H : Hp} {Q : VK} {r : Addr} (q : Q (.bl false) H) : rIsNn (.ref r) .non H Q := ⟨rfl, q⟩
theorem w_boolJ {b : Bool} {tt : TT} {σ : L2.St} {H : Hp} {Q : Bool → Hp → Prop} (R : Hp → Prop) (h1 : b = true → ∀ Q : Bool → Hp → Prop, (∀ H', R H' → Q false H') → tt σ H Q) (h2 : b = false → R H) (q : ∀ H', R H' → Q false H') : if b = true then tt σ H Q else Q false H := by
  cases b with
  | true => exact iteT (h1 rfl Q q)
  | false => exact iteF (q H (h2 rfl))
theorem w_par3 {i j l : Nat} {t : TA} {D : Ends} {σ : L2.St} {H : Hp} (q : t σ H fun vs H1 => ∃ u v w, vs = [u, v, w] ∧ D.nx (((σ.set i (some u)).set j (some v)).set l (some w)) H1) : tPar3 i j l t D σ H := q
theorem w_itR {K : PySem.W.Frag} {σ : L2.St} {H : Hp} {ta : TA} {R : It → Hp → Prop} (q : ta σ H fun vs H1 => ∃ a xs, vs = [.ref a] ∧ SqL K H1 a xs ∧ R (Itv K a xs.length) H1) : iRev K ta σ H R := q
theorem w_methA {C : Addr} {m : Str} {sp : Sp} {E : XK} {ta : TE} {t : TA} {σ : L2.St} {H : Hp} {Q : VK} (q : ta σ H fun x H1 => ∃ a dx fs, x = .ref a ∧ H1 a = some (.ins C dx fs) ∧ fs.lookup m = none ∧ t σ H1 fun vs H2 => sp (x :: (vs ++ [])) H2 Q E) : tMeth C m sp [] E ta t σ H Q := q
end Fw
namespace Fw
open PySem PySem.Spec PyProof.Rows L2 LamX
/-! ### the lambda's names -/
structure LamP2 (sc scope : Scope) (pa pb : Str) : Prop where
  kind : scope.kind = .function
  co : scope.isCoroutine = false
  gen : scope.isGenerator = false
  own : ∀ y ∈ scope.names, y.2 ≠ .cell ∧ (y.2 = .local → y.1 = pa ∨ y.1 = pb)
  par : scope.names.lookup pa = some .local
  parb : scope.names.lookup pb = some .local
  ne : pa ≠ pb
  free : ∀ y ∈ scope.names, y.2 = .free → sc.names.lookup y.1 = some .cell ∨ sc.names.lookup y.1 = some .free
def lamPB2 (sc scope : Scope) (pa pb : Str) : Bool :=
  decide (scope.kind = .function) && !scope.isCoroutine && !scope.isGenerator && decide (scope.names.lookup pa = some .local) && decide (scope.names.lookup pb = some .local) && decide (pa ≠ pb) && scope.names.all fun y => !decide (y.2 = .cell) && (!decide (y.2 = .local) || (decide (y.1 = pa) || decide (y.1 = pb))) && (!decide (y.2 = .free) || decide (sc.names.lookup y.1 = some .cell) || decide (sc.names.lookup y.1 = some .free))
theorem lamP2_by {sc scope : Scope} {pa pb : Str} (h : lamPB2 sc scope pa pb = true) : LamP2 sc scope pa pb := by
  unfold lamPB2 at h
  simp only [Bool.and_eq_true, Bool.or_eq_true, Bool.not_eq_true', decide_eq_true_eq, decide_eq_false_iff_not, List.all_eq_true] at h
  obtain ⟨⟨⟨⟨⟨⟨h1, h2⟩, h3⟩, h5⟩, h6⟩, h7⟩, h4⟩ := h
  refine ⟨h1, h2, h3, fun y hy => ⟨(h4 y hy).1.1, fun e => ?_⟩, h5, h6, h7, fun y hy e => ?_⟩
  · rcases (h4 y hy).1.2 with z | z
    · exact absurd e z
    · exact z
  · rcases (h4 y hy).2 with (z | z) | z
    · exact absurd e z
    · exact .inl z
    · exact .inr z
theorem LamP2.has {X : Cx} {scope : Scope} {pa pb : Str} (L : LamP2 X.env.scope scope pa pb) (ok : X.Ok) : ∀ y ∈ scope.names, y.2 = .free → ∃ c, X.env.cells.lookup y.1 = some c := fun y hy e => by
  rcases L.free y hy e with k | k
  · exact ok.has _ (.inl k)
  · exact ok.has _ (.inr k)
/-- the context of the lambda's body, entered at s from the frames outer: X's names and the parameter -/
def lamCxP2 (X : Cx) (A : Around) (outer : List Env) (s : Shared) (H : Hp) (scope : Scope) (f c' : Addr) (pa pb : Str) : Cx where
  prog := X.prog
  w := X.w
  K := X.K
  mg := X.mg
  base := X.base
  A := A.deeper (lamEnv X scope s.heap.objs.size f c')
  N := X.N ++ [pa, pb]
  s_0 := s
  H_0 := H
  env := lamEnv X scope s.heap.objs.size f c'
  outer := outer
  stack := lamEnv X scope s.heap.objs.size f c' :: outer
  ex := []
  fn := fun _ => false
  calm := true
  pn := []
  xe := fun e s' => wpAny (model X.prog X.w) (A.deeper (lamEnv X scope s.heap.objs.size f c')) (leaving (lamEnv X scope s.heap.objs.size f c') e) (fun _ s'' => L2.CX0 outer H s E0 e s'') (fun e' s'' => L2.CX0 outer H s E0 e' s'') s'
section
variable {X : Cx} {pins : List (Addr × Obj)} {σ : L2.St} {H HZ : Hp} {s s1 : Shared}
theorem lam_startP2 {A : Around} {outer : List Env} {scope : Scope} {f c' : Addr} {h₁ : Heap} {tk : Nat} {pa pb : Str} {v v2 : V} {u u2 : Value} (I : Inv X pins σ H s) (L : LamP2 X.env.scope scope pa pb) (hpar : pa ∉ X.N) (hpbr : pb ∉ X.N) (rv : RelV v u) (rv2 : RelV v2 u2)
    (e0 : Env0 X.prog X.w X.K X.mg X.base A outer s1 HZ) (hd : A.handled = none)
    (un : Un (frs X.stack) [] H HZ s.heap s1.heap) (hns : h₁.Ns s1.heap.objs.size fun y => ([(pa, u), (pb, u2)] : List (Str × Value)).reverse.lookup y) (kp : ∀ b o, s1.heap.get? b = some o → h₁.get? b = some o) :
    Inv (lamCxP2 X A outer s1 HZ scope f c' pa pb) [] (σ ++ [some v, some v2]) HZ { s1 with heap := h₁, toks := tk } := by
  have hfree := L.has I.ok
  have cm : ∀ {y c}, (cloFrom X.env.cells scope.names []).lookup y = some c → X.env.cells.lookup y = some c := fun {y c} e => by
    rcases cloFrom_mem (PySem.mem_of_lookup e) with hm | ⟨h1, h2⟩
    · cases hm
    · obtain ⟨c1, hc⟩ := hfree _ h1 rfl
      have hc : X.env.cells.lookup y = some c1 := hc
      have e2 : c = c1 := by
        rw [h2, hc] <;> rfl
      rw [e2]
      exact hc
  have look : ∀ {y}, scope.names.lookup y = some .free → ∃ c, (cloFrom X.env.cells scope.names []).lookup y = some c := fun {y} hl => by
    have hy : (y, NameKind.free) ∈ scope.names := PySem.mem_of_lookup hl
    exact mem_lookup (cloFrom_has (cells := X.env.cells) (acc := []) hy)
  have cellK : ∀ {c : Addr} {v : Option Value}, H c = none → s.heap.IsCell c v → h₁.IsCell c v := fun {c v} n ⟨o, ho, hd⟩ => by
    obtain ⟨sl, q⟩ := un.any ho n (by simp)
    exact ⟨_, kp _ _ q, hd⟩
  have noA : ∀ b : Addr, b ∉ (lamCxP2 X A outer s1 HZ scope f c' pa pb).ex := fun b z => absurd (show b ∈ ([] : List Addr) from z) (by simp)
  refine ⟨⟨e0.mod, L.kind, rfl, rfl, Nat.le_refl _, fun y z c e1 e2 => I.ok.inj y z c (cm e1) (cm e2), fun y hy => ?_, fun y c z _ => ?_, fun _ => hd, Around.frames_deeper e0.frames, .inr ⟨rfl, rfl⟩, fun b z => absurd z (noA b), e0.bs, e0.bsz, fun b _ _ => noA b,
      fun b z => absurd z (noA b), e0.funs, e0.frf⟩,
    rfl, e0.bare, Un.kept kp, ⟨_, hns, fun i y v' e1 e2 e3 => ?_⟩, fun y c e => ?_, e0.hok.fresh (Nat.le_refl _), fun y c e => ?_, fun q hq => absurd (show q ∈ ([] : List (Addr × Obj)) ++ [] from hq) (by simp), e0.hok.kept kp, ?_⟩
  · have hy : scope.names.lookup y = some .cell ∨ scope.names.lookup y = some .free := hy
    rcases hy with hy | hy
    · exact absurd rfl (L.own _ (PySem.mem_of_lookup hy)).1
    · exact look hy
  · have z : false = true := z
    cases z
  · have e3 : Vis scope y := e3
    have e1 : (X.N ++ [pa, pb])[i]? = some y := e1
    by_cases hi : i < X.N.length
    · rw [List.getElem?_append_left hi] at e1
      rw [List.getElem?_append_left (by rw [I.len]; exact hi)] at e2
      have ny : ¬ (y = pa ∨ y = pb) := fun z => z.elim (fun z => hpar (by rw [← z]; exact List.mem_of_getElem? e1)) (fun z => hpbr (by rw [← z]; exact List.mem_of_getElem? e1))
      rcases e3 with k | k | k
      · exact absurd ((L.own _ (PySem.mem_of_lookup k)).2 rfl) ny
      · exact absurd rfl (L.own _ (PySem.mem_of_lookup k)).1
      · obtain ⟨m, hn, hl⟩ := I.loc
        have hvis : Vis X.env.scope y := (L.free _ (PySem.mem_of_lookup k) rfl).elim (fun k => .inr (.inl k)) (fun k => .inr (.inr k))
        obtain ⟨w', r, q⟩ := hl i y v' e1 e2 hvis
        obtain ⟨c2, h2⟩ := look k
        refine ⟨w', r, .inr ⟨.inr k, c2, h2, ?_⟩⟩
        have c1 := cm h2
        rcases q with ⟨k', _⟩ | ⟨_, c3, e', z⟩
        · have k' : X.env.scope.names.lookup y = some .local := k'
          rcases L.free _ (PySem.mem_of_lookup k) rfl with k2 | k2 <;> rw [show X.env.scope.names.lookup y = _ from k2] at k' <;> cases k'
        · rw [c1] at e'
          cases e'
          exact cellK (I.freeC y _ c1) z
    · have hi' : i = X.N.length ∨ i = X.N.length + 1 := by
        have := (List.getElem?_eq_some_iff.mp e1).1
        rw [List.length_append] at this
        have : i < X.N.length + 2 := this
        omega
      rcases hi' with rfl | rfl
      · rw [List.getElem?_append_right (Nat.le_refl _), Nat.sub_self] at e1
        rw [← I.len, List.getElem?_append_right (Nat.le_refl _), Nat.sub_self] at e2
        cases e1
        cases e2
        refine ⟨u, rv, .inl ⟨L.par, ?_⟩⟩
        show ([(pb, u2), (pa, u)] : List (Str × Value)).lookup pa = some u
        rw [List.lookup, show (pa == pb) = false from by simpa using L.ne]
        simp [List.lookup]
      · rw [List.getElem?_append_right (by omega), show X.N.length + 1 - X.N.length = 1 by omega] at e1
        rw [← I.len, List.getElem?_append_right (by omega), show σ.length + 1 - σ.length = 1 by omega] at e2
        cases e1
        cases e2
        refine ⟨u2, rv2, .inl ⟨L.parb, ?_⟩⟩
        show ([(pb, u2), (pa, u)] : List (Str × Value)).lookup pb = some u2
        simp [List.lookup]
  · obtain ⟨w', z⟩ := I.cell y c (cm e)
    exact ⟨w', cellK (I.freeC y c (cm e)) z⟩
  · obtain ⟨v, o, ho, hd⟩ := I.cell y c (cm e)
    exact un.free c o ho (I.freeC y c (cm e)) (by simp)
  · show (σ ++ [some v, some v2]).length = (X.N ++ [pa, pb]).length
    rw [List.length_append, List.length_append, I.len]
    rfl
/-- the promise of a lambda: its code object, its body's reading -/
def spLam2 (c' : Addr) (q : Str) (σ : L2.St) (tb : TE) : Sp := fun vs H Q _ => ∃ v v2, vs = [v, v2] ∧ H c' = some (CodeO c' q) ∧ tb (σ ++ [some v, some v2]) H Q
theorem lam_cal2 {C : CP} {scope : Scope} {pa pb : Str} {params : Arguments} {body : Expr} {pm ctv : Value} {f c' : Addr} {kb : Nat} {tb : TE} (I : Inv X pins σ H s) (L : LamP2 X.env.scope scope pa pb) (hpar : pa ∉ X.N) (hpbr : pb ∉ X.N) (hex : X.ex = [])
    (hf : s.heap.get? f = some (PySem.W.kla_obj "<lambda>" (X.env.qual ++ "<lambda>") params body scope (cloFrom X.env.cells scope.names []) pm c' ctv)) (hfn : H f = none) (hfr : f ∉ frs X.stack)
    (hbind : ∀ (q : Str) (cl : List (Str × Addr)) (pm cv ctv u u2 : Value), bindArgs (PySem.W.kla_fn "<lambda>" q params body scope cl pm cv ctv) ⟨[u, u2], []⟩ = pure [(pa, u), (pb, u2)])
    (hC : ∀ k f sp, C k f sp → Kn X k f sp)
    (hbody : ∀ (A : Around) (outer : List Env) (s1 : Shared) (H1 : Hp), (∀ k f sp, C k f sp → Kn (lamCxP2 X A outer s1 H1 scope f c' pa pb).nox k f sp) → Room kb (A.deeper (lamEnv X scope s1.heap.objs.size f c')) → PE (lamCxP2 X A outer s1 H1 scope f c' pa pb).nox body tb) :
    Cal X.prog X.w X.K X.mg X.base X.stack H s (kb + 1) f (spLam2 c' (X.env.qual ++ "<lambda>") σ tb) := by
  have at1 : ∀ (outer : List Env) (s1 : Shared) (H1 : Hp), Later X.stack H s outer H1 s1 → s1.heap.get? f = some (PySem.W.kla_obj "<lambda>" (X.env.qual ++ "<lambda>") params body scope (cloFrom X.env.cells scope.names []) pm c' ctv) :=
    fun outer s1 H1 l => l.un.keep f _ hf hfn hfr (by simp)
  refine ⟨fun outer s1 H1 l => ⟨_, _, _, _, at1 outer s1 H1 l⟩, fun A outer s1 HZ us vs Q hr e0 l r h => ?_⟩
  obtain ⟨v, v2, rfl, hc, ht⟩ := h
  obtain ⟨u, u2, rfl, rv, rv2⟩ : ∃ u u2, us = [u, u2] ∧ RelV v u ∧ RelV v2 u2 := by
    cases r with
    | cons r1 r2 => cases r2 with | cons r3 r4 => cases r4 with | nil => exact ⟨_, _, rfl, r1, r3⟩
  have of1 := at1 outer s1 HZ l
  obtain ⟨⟨oc, ws, t, hoc, hdc, hvc⟩, _, _⟩ := e0.hok c' _ hc
  have lim : s1.heap.NoLimit := e0.mod.nolimit.keeps fun b o e => (e0.bs b o e).1
  refine PySem.W.kla_callFunE hr.depth of1 rfl L.co L.gen rfl ⟨c', oc, ws, t, rfl, hoc, hdc, hvc⟩ ?_
  rw [hbind]
  refine wpAny_pure (wpAny_newFunctionEnv (fun y hy => (L.own y hy).1) (fun y hy => ?_) (fun h₁ hns hsb => ⟨lim.fresh _ hsb, ?_⟩) L.kind)
  · have e : y = (pa, u) ∨ y = (pb, u2) := by simpa using hy
    rcases e with e | e <;> rw [e]
    · exact L.par
    · exact L.parb
  show codeAny _ _ (.expr body (lamEnv X scope s1.heap.objs.size f c')) _ _
  have kp : ∀ b o, s1.heap.get? b = some o → h₁.get? b = some o := fun b o e => hsb.extBut b o (Nat.ne_of_lt (Heap.lt_size e)) (Heap.get?_push_of_some _ e)
  have J : Inv (lamCxP2 X A outer s1 HZ scope f c' pa pb) [] (σ ++ [some v, some v2]) HZ { s1 with heap := h₁, toks := s1.toks + ([(pa, u), (pb, u2)] : List (Str × Value)).length } := lam_startP2 I L hpar hpbr rv rv2 e0 hr.hd l.un hns kp
  have hb := hbody A outer s1 HZ (fun k f sp c => (hC k f sp c).later ((later_of I hex).trans l)) (hr.deeper _)
  refine PySem.W.kla_codeExpr (wpAny_mono (hb.nox.run [] _ _ HZ Q J ht) (fun v s' hq => ?_) fun e s' hq => hq)
  obtain ⟨w', H', J', rv', q⟩ := hq
  exact ⟨w', H', J'.os, J'.bare, J'.base, J'.hok, rv', q⟩
def tLamC2 (T : List (Addr × Str)) (q : Str) (spc : CP → Sp) (C : CP) (kb : Nat) (tb : TE) (t : TA) : TE := fun σ H Q => Tabs T H ∧ ∀ (f c' : Addr) (H1 : Hp), Sm T H H1 → H1 c' = some (CodeO c' q) → t σ H1 fun vs H2 =>
  ∀ C' : CP, (∀ k g sp, C k g sp → C' k g sp) → (∀ k sp, kb + 1 ≤ k → (∀ ws H3 Q3, sp ws H3 Q3 E0 → spLam2 c' q σ tb ws H3 Q3 E0) → C' k f sp) → spc C' (.ref f :: vs) H2 Q E0
/-- x(lambda par: body, e, ..) -/
theorem pe_lamC2 {T : List (Addr × Str)} {x pa pb : Str} {g c P : Addr} {kg kb : Nat} {fd : FuncData} {ps : List Str} {spc : CP → Sp} {C : CP} {params : Arguments} {body : Expr} {scope : Scope} {tb : TE} {t : TA} {es : List Expr} {p lpos pos : Pos}
    (G : FnOkC X.prog X.w X.K X.mg X.base kg g fd ps spc) (hr : Room kg X.A) (hg : Gl X x) (hm : X.mg x = some (.ref g)) (hk : PySem.W.keepIn X.K (.ref g) = true) (hb : L2.Binds X.K fd ps [])
    (TB : TabB X.base X.mg c P) (hcode : X.env.code = .ref c) (hmT : (P, X.env.qual ++ "<lambda>") ∈ T) (hu : ∀ p ∈ T, p.1 = P → p.2 = X.env.qual ++ "<lambda>")
    (L : LamP2 X.env.scope scope pa pb) (hpar : pa ∉ X.N) (hpbr : pb ∉ X.N) (hex : X.ex = []) (hdef : defaultsOf params X.env = ([], []))
    (hbind : ∀ (q : Str) (cl : List (Str × Addr)) (pm cv ctv u u2 : Value), bindArgs (PySem.W.kla_fn "<lambda>" q params body scope cl pm cv ctv) ⟨[u, u2], []⟩ = pure [(pa, u), (pb, u2)])
    (hC : ∀ k f sp, C k f sp → Kn X k f sp)
    (hbody : ∀ (A : Around) (outer : List Env) (s1 : Shared) (H1 : Hp) (f c' : Addr), (∀ k f sp, C k f sp → Kn (lamCxP2 X A outer s1 H1 scope f c' pa pb).nox k f sp) → Room kb (A.deeper (lamEnv X scope s1.heap.objs.size f c')) → PE (lamCxP2 X A outer s1 H1 scope f c' pa pb).nox body tb)
    (ha : PA X es t) (hdb : (x == ("__debug__" : Str)) = false := by decide) (hpl : (backTo pos (starEach es X.env)).any (·.1) = false := by rfl) :
    PE X (.Call (.Name x p) (.Lambda params body scope lpos :: es) [] pos) (tLamC2 T (X.env.qual ++ "<lambda>") spc C kb tb t) := by
  refine ⟨fun pins s σ H Q I h => ?_⟩
  obtain ⟨hT, h⟩ := h
  refine wpAny_Call_Name_kw (ld_glob I hg hm ?_ hdb)
  refine PySem.W.callWith_K (h₀ := X.base) I.ok.mod.kin hk ?_ (by rfl) hpl
  show wpAny _ _ (spliced ((false, eval (.Lambda params body scope lpos) X.env) :: backTo pos (starEach es X.env))) _ _ s
  refine Calls.spliced_cons (lam_make2 (E := X.xe) I TB hcode hmT hu hT hdef (L.has I.ok) fun f c' pm' ctv H1 s' I1 eN T1 hf hfn hfr hco => ?_)
  have nfL : f ≠ X.env.locals := fun z => by
    obtain ⟨m, ⟨o, es, ep, ho, hd, _⟩, _⟩ := I1.loc
    rw [← z, hf] at ho
    cases ho
    cases hd
  have nfs : f ∉ X.fs := fun z => hfr (by
    rcases I1.ok.stk with e | ⟨e, hfm⟩
    · rw [e]; exact z
    · rw [e]
      unfold frs
      rw [List.filterMap_cons, hfm]
      exact List.mem_cons_of_mem _ z)
  have I2 : Inv X ((f, PySem.W.kla_obj "<lambda>" (X.env.qual ++ "<lambda>") params body scope (cloFrom X.env.cells scope.names []) pm' c' ctv) :: pins) σ H1 s' := I1.pins_of fun q hq => by
    rcases List.mem_cons.mp hq with e | hq
    · rw [e]
      exact ⟨hf, hfn, nfL, nfs, fun v z => by cases z⟩
    · exact I1.pin q (List.mem_append_right _ hq)
  refine thn (ha.run pos _ s' σ H1 _ I2 (h f c' H1 ⟨eN, fun _ => T1⟩ hco)) fun us s2 ⟨vs, H2, I3, r, q⟩ => ⟨I3.kIn, ?_⟩
  obtain ⟨pf, pn, _, _, _⟩ := I3.pin _ (List.mem_append_right _ (List.mem_cons_self (a := (f, PySem.W.kla_obj "<lambda>" (X.env.qual ++ "<lambda>") params body scope (cloFrom X.env.cells scope.names []) pm' c' ctv))))
  have I4 : Inv X pins σ H2 s2 := I3.pins_of fun q hq => I3.pin q (List.mem_append_right _ (List.mem_cons_of_mem _ hq))
  have cal := lam_cal2 (C := C) (f := f) (c' := c') (kb := kb) (tb := tb) I4 L hpar hpbr hex pf pn hfr hbind hC fun A outer s1 H1 hk hr => hbody A outer s1 H1 f c' hk hr
  have hsp := q (Cal X.prog X.w X.K X.mg X.base X.stack H2 s2) (fun k g sp z => (hC k g sp z).later (later_of I4 hex)) (fun k sp hk z => cal.imp hk z)
  have r2 : Vals (.ref f :: vs) (.ref f :: us) := .cons rfl r
  have hl : (Value.ref f :: us).length = ps.length := by rw [← r2.length]; exact G.len _ _ _ _ _ hsp
  have hbi := hb s2 (.ref f :: us) I4.kIn (by rw [List.append_nil]; exact hl)
  rw [List.append_nil] at hbi
  refine wpAny_call (codeAny_mono (G.run X.A X.stack s2 H2 ⟨.ref f :: us, []⟩ (.ref f :: us) (.ref f :: vs) Q hr I4.env0 hbi r2 hsp) fun r s' hq => ?_)
  cases r with
  | error e => exact (show False from hq).elim
  | ok fl =>
    cases fl with
    | ret u => exact I4.after hq
    | next => exact False.elim hq
    | brk => exact False.elim hq
    | cont => exact False.elim hq
end
theorem lit_nil {P : Params} : PySem.W.KeysLit P [] := trivial
theorem lit_cons {P : Params} {e : DictEntry} {r : List DictEntry} {x : Str} {t : Tok} (h1 : e.key = .str x t) (h2 : e.hash = PyData.keyHash P x) (h : PySem.W.KeysLit P r) : PySem.W.KeysLit P (e :: r) := ⟨⟨x, t, h1, h2⟩, h⟩
end Fw
namespace Fw
open PySem PySem.W PySem.Calls PyProof.Rows
/-! ### an own exception class under ArithmeticError, its __init__ with super().__init__(..) -/
abbrev aeTail : List Value := [.type "ArithmeticError", .type "Exception", .type "BaseException", .type "object"]
/-- own classes, then ArithmeticError's mro -/
def refsAE : List Value → Bool
  | .ref _ :: r => refsAE r
  | l => l == aeTail
theorem refsAE_cases : ∀ l : List Value, refsAE l = true → (∃ c r, l = .ref c :: r ∧ refsAE r = true) ∨ l = aeTail
  | [], e => .inr (beq_iff_eq.mp e)
  | .ref c :: r, e => .inl ⟨c, r, rfl, e⟩
  | .none :: _, e => .inr (beq_iff_eq.mp e)
  | .ellipsis :: _, e => .inr (beq_iff_eq.mp e)
  | .notImplemented :: _, e => .inr (beq_iff_eq.mp e)
  | .bool _ :: _, e => .inr (beq_iff_eq.mp e)
  | .int _ _ :: _, e => .inr (beq_iff_eq.mp e)
  | .float _ _ :: _, e => .inr (beq_iff_eq.mp e)
  | .str _ _ :: _, e => .inr (beq_iff_eq.mp e)
  | .bytes _ _ :: _, e => .inr (beq_iff_eq.mp e)
  | .type _ :: _, e => .inr (beq_iff_eq.mp e)
  | .builtin _ :: _, e => .inr (beq_iff_eq.mp e)
theorem refsAE_pass (self : Value) : ∀ l : List Value, refsAE l = true → refuseLoop self "__setattr__" l = pure () := by
  intro l
  induction l with
  | nil => intro e; exact absurd e (by decide)
  | cons a r ih =>
    intro e
    rcases refsAE_cases (a :: r) e with ⟨c, r', q, h⟩ | q
    · obtain ⟨rfl, rfl⟩ := List.cons.inj q
      rw [refuseLoop_ref]; exact ih h
    · rw [q]; exact F.store_ArithmeticError.passes self
theorem refsAE_contains (X : String) : ∀ l : List Value, refsAE l = true → l.contains (.type X) = aeTail.contains (.type X) := by
  intro l
  induction l with
  | nil => intro e; exact absurd e (by decide)
  | cons a r ih =>
    intro e
    rcases refsAE_cases (a :: r) e with ⟨c, r', q, h⟩ | q
    · obtain ⟨rfl, rfl⟩ := List.cons.inj q
      rw [List.contains_cons, ih h]; rfl
    · rw [q]
theorem refsAE_ne {l : List Value} (e : refsAE l = true) : l.isEmpty = false := by
  cases l with
  | nil => exact absurd e (by decide)
  | cons _ _ => rfl
section
open Builtin Builtin.ObjectAttr
variable {prog : Program} {w : World} {A : Around} {E : Value → Shared → Prop} {R : Result → Shared → Prop} {hp : Heap} {g : Array GenState} {d : Drawn} {t : Nat} {os : OsState}
theorem exc_osaA {K : W.Frag} {name : Str} {tk : Tok} {v : Value} {x C : Addr} {fv : Array Value} {cd : ClassData}
    (X : K.In hp) (hx : hp.get? x = some { cls := .ref C, data := .fields fv }) (hcd : W.clsIn K C = some cd) (hm : refsAE cd.mro = true) (hh : cd.hasDict = true) (ha : W.findIn K (.ref C) name = some none)
    (hq : ∀ h' tk' dx, (∀ b o, b ≠ x → hp.get? b = some o → h'.get? b = some o) → hp.objs.size ≤ dx → dx ≠ x → h'.get? x = some { cls := .ref C, dict := some dx, data := .fields fv } →
      h'.Ns1 dx (fun y => if y = name then some v else none) → R (.ok (.ret .none)) ⟨h', g, d, tk', os⟩) :
    codeAny (model prog w) A (.call (.builtin "object.__setattr__") ⟨[.ref x, .str name tk, v], []⟩) R ⟨hp, g, d, t, os⟩ := by
  have I : W.InstAt hp x { cls := .ref C, data := .fields fv } C none := ⟨hx, rfl, rfl, trivial⟩
  have SF := F.store_object
  have ne := refsAE_ne hm
  have hob : cd.mro.contains (.type "object") = true := (refsAE_contains "object" _ hm).trans (by decide +kernel)
  have hxs : x ≠ hp.objs.size := Nat.ne_of_lt (Heap.lt_size hx)
  have sub : W.Looks (model prog w) hp (isInstance (.ref x) (.type "object")) true := I.type.andThen (W.looks_mroIn X (by unfold W.mroIn; rw [hcd, Option.bind_some, if_neg (by rw [ne]; decide), hob]))
  refine codeAny_call_builtin SF.slot.plain SF.entry (@W.check_slot (model prog w) _ _ ⟨hp, g, d, t, os⟩ "object.__setattr__" "object" "__setattr__" (.ref x) [.str name tk, v] [] _ SF.kind SF.split sub (SF.args (.ref x) (.str name tk) v) ?_)
  have hmr : W.Looks (model prog w) hp (mroOf (.ref C)) cd.mro := (W.looks_clsIn X hcd).andThen .now
  have L3 : W.Looks (model prog w) hp (storeTaker? none) none := .now
  have hcls : W.Looks (model prog w) hp (classData C) cd := W.looks_clsIn X hcd
  rw [W.osa_eq, refuse_eq]
  refine wpAny_bind (wpAny_bind (I.type.at (wpAny_bind (hmr.at ?_))))
  rw [refsAE_pass _ _ hm]
  refine wpAny_pure (wpAny_bind (I.type.at (wpAny_bind ((W.looks_findIn X ha).at (wpAny_bind (L3.at ?_))))))
  show wpAny _ _ (storeInOwnDict (.ref x) (.ref C) (.str name tk) name v false) _ _ _
  obtain ⟨nm, bs, mro, ns, qn, hd, sn, sb, ab, col, del⟩ := cd
  dsimp only at hh
  subst hh
  unfold storeInOwnDict ownDictForStores
  repeat (first | with_reducible refine HandSPX.store_in_new ?_ ?_ | with_reducible refine wpAny_loadPart_at hx ?_ | with_reducible refine hcls.at ?_ | wp_step)
  · exact ⟨_, #[], _, (Heap.get?_update_ne _ _ _ _ hxs.symm).trans (Heap.get?_push_at rfl rfl), rfl, fun e he => absurd he (by simp), fun _ => rfl⟩
  · intro h' tk' hn' hs
    have hx₁ : (hp.push { cls := .type "dict", data := .dict #[] }).get? x = some { cls := .ref C, data := .fields fv } := Heap.get?_push_of_some _ hx
    refine hq h' tk' hp.objs.size (fun b o hb ho => ?_) (Nat.le_refl _) hxs.symm ?_ hn'
    · exact (hs.2 b (Nat.ne_of_lt (Heap.lt_size ho))).trans ((Heap.get?_update_ne _ _ _ _ hb).trans (Heap.get?_push_of_some _ ho))
    · exact (hs.2 x hxs).trans (Heap.get?_update_self _ hx₁ rfl)
end
/-! ### the wrapper is called -/
section
variable {prog : Program} {w : World} {A : Around} {E : Value → Shared → Prop} {h : Heap} {g : Array GenState} {d : Drawn} {t : Nat} {os : OsState}
variable {nm q : Str} {C N : Addr} {bs bm bmB : List Value} {hdct : Bool} {sn : List Str} {sub : List Value} {ab : Bool} {col : Option Bool} {dd : Option Addr} {k0 k1 k2 k3 k5 : Option Value} {B newId i : String}
theorem call_mw (FB : ExcBaseFacts B newId i bmB) {u e t0 : Addr} {rest : List Value} {Q : Value → Shared → Prop}
    (hC : h.get? C = some (excClassObj nm q C N bs bm hdct sn sub ab col dd k0 k1 k2 k3 k5 newId)) (he : h.get? e = some (HandSPX.excO C t0)) (hu : h.get? u = some (kxs_mw i e)) (hrest : rest.length ≤ sizeLine)
    (hq : ∀ h' t1, (∀ b o, b ≠ e → h.get? b = some o → h'.get? b = some o) → h'.get? e = some (HandSPX.excO C t1) → Q .none ⟨h', g, d, t, os⟩) :
    wpAny (model prog w) A (call (.ref u) rest) Q E ⟨h, g, d, t, os⟩ := by
  refine wpAny_call (codeAny_of_tree ?_)
  show wpAny _ A.in1 (callAny (.ref u) ⟨rest, []⟩) _ _ _
  simp only [callAny]
  refine wpAny_bind (wpAny_load hu ?_)
  simp only [kxs_mw, show (Value.type "method-wrapper" == Value.type "method" || Value.type "method-wrapper" == Value.type "builtin_function_or_method" || Value.type "method-wrapper" == Value.type "method-wrapper") = true by decide, if_true]
  refine KFB.if_so (by decide) ?_
  refine wpAny_bind (check_bound_init FB.toExcCallFacts hC he rfl ?_)
  refine wpAny_bind (wpAny_pure (wpAny_pure ?_))
  refine ⟨plainId_quiet FB.init.plain _, codeAny_builtin FB.initEntry ?_⟩
  refine exc_init_tree (cls := .ref C) (t0 := t0) (dv := none) (c2 := .none) (c3 := .none) (b4 := .bool false) he hrest fun h' k e' _ => ?_
  exact hq h' h.objs.size k e'
end

/-! ### __init__ of such a class -/
/-- what the written part says of the class and of its __init__ -/
structure AexI (P : Program) (K : Frag) (C fI cc : Addr) (name qual : Str) (params : Arguments) (body : List Stmt) (scope : Scope) : Prop where
  cls : ∃ nm q N bs bm sn sub ab col dd k0 k1 k2 k3 k5, K.lookup C = some (excClassObj nm q C N bs bm true sn sub ab col dd k0 k1 k2 k3 k5 "ArithmeticError.__new__") ∧ refsAE bm = true
  sa : findIn K (.ref C) "__setattr__" = some (some (.builtin "object.__setattr__"))
  sup : ks_superIn K C C "__init__" = some (some (.builtin "ArithmeticError.__init__"))
  opq : nsIn K cStatics "thirdparty.any" = some none
  sb : subIn K (.ref C) (.type "ArithmeticError") = some true
  sC : mroIn K C (.ref C) = some true
  fn : ∃ oc od kV doc pm an cda ct osl, K.lookup fI = some ⟨oc, od, .func (ksFn name qual params body scope .none kV doc pm an (.ref cda) ct cc), osl⟩ ∧ codeIn K (.ref cda) qual = true ∧
    ∃ ccl cdd vs ccs file tf, K.lookup cda = some ⟨ccl, cdd, .fields vs, ccs⟩ ∧ vs[2]? = some (.str file tf) ∧ ((P.main.file : Str) == file) = true
  cell : ∃ cl cld csl, K.lookup cc = some ⟨cl, cld, .cell (some (.ref C)), csl⟩
section
variable {prog : Program} {w : World} {A : Around} {R : Result → Shared → Prop} {h : Heap} {g : Array GenState} {d : Drawn} {t : Nat} {os : OsState}
theorem init_run {K : Frag} {mg : Str → Option Value} {C fI cc x t0 : Addr} {u : Value} {name qual prm f : Str} {params : Arguments} {scope : Scope} {e : Expr} {p0 p1 p2 p3 p4 apos cpos epos apos2 : Pos}
    (T : AexI prog K C fI cc name qual params [.Expr (.Call (.Attribute (.Call (.Name "super" p0) [] [] p1) "__init__" apos) [e] [] cpos) epos, .Assign [.Attribute (.Name "self" p2) f p3] (.Name prm p4) apos2] scope)
    (hroom : A.depth < recursionLimit) (X : K.In h) (lim : h.NoLimit) (gl : h.Ns mainGlobals mg) (blt : ∃ mb, h.Ns builtinsNs mb ∧ ∀ (x : Str), x ≠ Str.ofString "__name__" → mb x = bootBuiltins x) (hsu : mg "super" = none)
    (hKx : K.lookup x = none) (hpd : (prm == ("__debug__" : Str)) = false) (hx : h.get? x = some (HandSPX.excO C t0)) (hno : findIn K (.ref C) f = some none)
    (hbind : ∀ {kV doc pm an cdv ct} (s : Shared), BindsTo s (ksFn name qual params [.Expr (.Call (.Attribute (.Call (.Name "super" p0) [] [] p1) "__init__" apos) [e] [] cpos) epos, .Assign [.Attribute (.Name "self" p2) f p3] (.Name prm p4) apos2] scope .none kV doc pm an cdv ct cc) ⟨[.ref x, u], []⟩ [((("self" : Str)), Value.ref x), (prm, u)])
    (hps : ∃ ar, (params.posonlyargs ++ params.args).head? = some ar ∧ ar.arg = ("self" : Str))
    (hks : scope.names.lookup ("super" : Str) = some .globalImplicit) (hkc : scope.names.lookup ("__class__" : Str) = some .free) (hka : scope.names.lookup ("self" : Str) = some .local) (hkp : scope.names.lookup prm = some .local) (hk : scope.kind = .function)
    (hcell : ∀ x ∈ scope.names, x.2 ≠ .cell) (hco : scope.isCoroutine = false) (hgen : scope.isGenerator = false) (hne : prm ≠ ("self" : Str))
    {pl : Env → Sem Bool} (hcall : ∀ env : Env, eval (.Call (.Attribute (.Call (.Name "super" p0) [] [] p1) "__init__" apos) [e] [] cpos) env = (do
      let ov ← attributeBase (.Call (.Name "super" p0) [] [] p1) "__init__" env (eval (.Call (.Name "super" p0) [] [] p1) env)
      standAt apos.atName
      let (f, first) ← holding [ov] (getMethod ov "__init__" (pl env))
      callWith cpos f first (backTo cpos (starEach [e] env)) []))
    (hst : ∀ env : Env, starEach [e] env = (false, eval e env) :: starEach [] env) (hsw : ∀ env : Env, swapsWith (.Name prm p4) (some (.Attribute (.Name "self" p2) f p3)) apos2.line env = pure false)
    (htop : (prog.main.scope.names.lookup ("super" : Str)).isSome = false)
    (he : ∀ {A : Around} {E : Value → Shared → Prop} {Q : Value → Shared → Prop} {env : Env} (s : Shared), env.scope = scope → s.heap.Ns env.locals (fun y => [(("self" : Str), Value.ref x), (prm, u)].reverse.lookup y) →
      (∀ z t', Q z { s with toks := t' }) → wpAny (model prog w) A (eval e env) Q E s)
    (hq : ∀ h' t' t1 dx, (∀ b o, b ≠ x → h.get? b = some o → h'.get? b = some o) → h.objs.size ≤ dx → dx ≠ x → h'.get? x = some { cls := .ref C, dict := some dx, data := .fields #[.ref t1, .none, .none, .none, .bool false, .none] } →
      h'.Ns1 dx (fun y => if y = f then some u else none) → R (.ok (.ret .none)) ⟨h', g, d, t', os⟩) :
    codeAny (model prog w) A (.call (.ref fI) ⟨[.ref x, u], []⟩) R ⟨h, g, d, t, os⟩ := by
  obtain ⟨oc, od, kV, doc, pm, an, cda, ct, osl, lk, hcd, ccl, cdd, vs, ccs, file, tf, lcd, hvs, hfile⟩ := T.fn
  obtain ⟨cl, cld, csl, lcell⟩ := T.cell
  obtain ⟨ar, hp, har⟩ := hps
  refine ks_codeAny_call_defAt (binds := [(("self" : Str), Value.ref x), (prm, u)]) hroom (X _ _ lk) rfl lim (codeRec_of X hcd) rfl (hbind _) hcell (fun y hy => ?_) (fun h₁ hns hk₁ => ?_) hco hgen hk
  · rcases List.mem_cons.mp hy with rfl | hy
    · exact hka
    · rw [List.mem_singleton.mp hy]; exact hkp
  have X1 : K.In h₁ := X.keeps hk₁
  have hx1 := hk₁ _ _ hx
  obtain ⟨mb, hb1, hb2⟩ := blt
  obtain ⟨nm, q, N, bs, bm, sn, sub, ab, col, dd, k0, k1, k2, k3, k5, hC, hbm⟩ := T.cls
  have hcl : clsIn K C = some { name := nm, bases := bs, mro := .ref C :: bm, ns := N, qualname := q, hasDict := true, slotNames := sn, subclasses := sub, abstract := ab, collection := col, hasDel := false } := by unfold clsIn; rw [hC] <;> rfl
  refine ks_wpAt_execs_cons (ks_wpAt_Expr_any (ks_wpAt_MethodCall (pl := pl _) ?_ (hcall _)) (by show (scope.kind == .module && _) = false; rw [hk]; rfl))
  refine ks_wpAt_super_base (f := fI) (cc := cda) hks hkc (by decide) rfl (X1 _ _ lk) rfl hp rfl (X1 _ _ lcd) rfl hvs hfile htop ?_
  refine ks_loadName_global hk hks (loadGlobal_builtin (gl.keeps hk₁) hsu (hb1.keeps hk₁) ((hb2 _ (by decide)).trans (by first | rfl | kernel_rfl)) ⟨rfl, ?_⟩)
  refine wpAny_loadName_free hk hkc rfl ⟨_, X1 _ _ lcell, rfl⟩ ?_
  refine wpAny_loadName_local hk (by rw [har]; exact hka) hns (v := .ref x) (by rw [har]; show ([(prm, u), ((("self" : Str)), Value.ref x)] : List (Str × Value)).lookup _ = _; rw [List.lookup_cons, show (("self" : Str) == prm) = false from beq_eq_false_iff_ne.mpr (Ne.symm hne)]; rfl) ?_
  obtain ⟨oC, hCo, hCd⟩ : ∃ oD, h₁.get? C = some oD ∧ oD.data = .cls { name := nm, bases := bs, mro := .ref C :: bm, ns := N, qualname := q, hasDict := true, slotNames := sn, subclasses := sub, abstract := ab, collection := col, hasDel := false } := ⟨_, X1 _ _ hC, rfl⟩
  refine ks_wpAny_isType_cls hCo hCd ⟨rfl, ?_⟩
  refine ks_wpAny_call_super hCo hCd hx1 rfl (fun c z => (by cases z)) (looks_mroIn X1 T.sC) (fun h₂ e₂ k₂ => ?_)
  have X2 : K.In h₂ := X1.keeps k₂
  have I2 : InstAt h₂ x (HandSPX.excO C t0) C none := ⟨k₂ _ _ hx1, rfl, rfl, trivial⟩
  have hsup := T.sup
  unfold ks_superIn at hsup
  rw [hcl] at hsup
  refine kxs_getMethod kxs_ArithmeticError e₂ (looks_opaque X2 T.opq) (l₀ := .ref C :: bm) (fun A Q E s k q => wpAny_bind ((looks_clsIn X2 hcl) A _ E s k (wpAny_pure q))) rfl X2 hsup (I2.type.andThen (looks_subIn X2 T.sb)) (ks_ne X2 I2 hcl) (by decide) ?_
  have k3 : ∀ b o, h₂.get? b = some o → (h₂.push (kxs_mw "ArithmeticError.__init__" x)).get? b = some o := fun b o e => Heap.get?_push_of_some _ e
  have e3 : (h₂.push (kxs_mw "ArithmeticError.__init__" x)).get? h₂.objs.size = some (kxs_mw "ArithmeticError.__init__" x) := Heap.get?_push_at rfl rfl
  generalize h₂.push (kxs_mw "ArithmeticError.__init__" x) = h₃ at k3 e3
  have kk : ∀ b o, h₁.get? b = some o → h₃.get? b = some o := fun b o e => k3 _ _ (k₂ _ _ e)
  show wpAny _ _ (callWith cpos (.ref h₂.objs.size) [] (backTo cpos (starEach [e] _)) []) _ _ _
  rw [hst]
  refine kxs_callWith (i := "ArithmeticError.__init__") (x := x) (by rfl) (evalArgs_plain ?_)
  show wpAny _ _ (spliced ((false, eval e _) :: backTo cpos (starEach [] _))) _ _ _
  refine spliced_cons (he _ rfl ((hns.keeps kk)) fun z t' => spliced_nil ⟨e3, ?_⟩)
  refine call_mw F.excBase_ArithmeticError (X2.keeps k3 _ _ hC) (kk _ _ hx1) e3 (by show 1 ≤ sizeLine; decide) (fun h₄ t1 k4 e4 => ?_)
  have X4 : K.In h₄ := fun a o ha => k4 a o (fun z => by rw [z, hKx] at ha; cases ha) (X2.keeps k3 a o ha)
  have lx : x < h.objs.size := Heap.lt_size hx
  have ns4 := (hns.keeps kk).at fun o y => k4 _ _ (Nat.ne_of_gt lx) y
  have sz : h.objs.size < h₄.objs.size := by
    obtain ⟨o, _, _, ho, _⟩ := ns4
    exact Heap.lt_size ho
  refine ks_wpAt_execs_cons (ks_wpAt_Assign_Attr ?_ (hsw _))
  refine wpAt_of_wpAny (ESX.ldL ns4 (v := u) (by show ([(prm, u), (("self" : Str), Value.ref x)] : List (Str × Value)).lookup _ = _; rw [List.lookup_cons, beq_self_eq_true]) ?_ hk hkp hpd)
  refine ESX.ldL ns4 (v := .ref x) (by show ([(prm, u), (("self" : Str), Value.ref x)] : List (Str × Value)).lookup _ = _; rw [List.lookup_cons, show (("self" : Str) == prm) = false from beq_eq_false_iff_ne.mpr (Ne.symm hne)]; rfl) ?_ hk hka (by decide)
  refine set_plain X4 (ox := HandSPX.excO C t1) (od := none) ⟨e4, rfl, rfl, trivial⟩ T.sa ?_
  refine exc_osaA X4 e4 hcl (show refsAE (.ref C :: bm) = true from hbm) rfl hno (fun h' tk' dx k dn dne hx' hn => ?_)
  refine wpAt_of_wpAny ?_
  show wpAny _ _ (pure Flow.next) _ _ _
  refine wpAny_pure ?_
  exact hq h' _ t1 dx (fun b o n e => k b o n (k4 b o n (kk b o (hk₁ b o e)))) (Nat.le_trans (Nat.le_of_lt sz) dn) dne hx' hn
end

section
open L2 PySem.Spec
variable {X : Cx} {C fI cc : Addr} {name qual prm f x : Str} {params : Arguments} {scope : Scope} {a1 : Expr} {e : Expr} {ta : TA} {p pos p0 p1 p2 p3 p4 apos cpos epos apos2 : Pos}
/-- C(v), v a text -/
def tMkA (C : Addr) (f : Str) (ta : TA) : L2.St → Hp → XK → Prop := fun σ H Q => ta σ H fun vs H1 => ∃ y : Str, vs = [.str y] ∧ y.length ≤ sizeLine ∧ ∀ d, H1 d = none → Q (.ref C) (some d) (upd H1 d (.xd [(f, .str y)]))
theorem pmk_aex (T : AexI X.prog X.K C fI cc name qual params [.Expr (.Call (.Attribute (.Call (.Name "super" p0) [] [] p1) "__init__" apos) [e] [] cpos) epos, .Assign [.Attribute (.Name "self" p2) f p3] (.Name prm p4) apos2] scope)
    (exC : subIn X.K (.ref C) (.type "BaseException") = some true) (tyC : typeIn X.K (.ref C) = some (.type "type")) (kC : keepIn X.K (.ref C) = true)
    (iC : findIn X.K (.ref C) "__init__" = some (some (.ref fI))) (tI : typeIn X.K (.ref fI) = some (.type "function"))
    (hr : Room 2 X.A) (hsu : X.mg "super" = none) (hno : findIn X.K (.ref C) f = some none) (hpd : (prm == ("__debug__" : Str)) = false)
    (hbind : ∀ {kV doc pm an cdv ct} (x u : Value) (s : Shared), BindsTo s (ksFn name qual params [.Expr (.Call (.Attribute (.Call (.Name "super" p0) [] [] p1) "__init__" apos) [e] [] cpos) epos, .Assign [.Attribute (.Name "self" p2) f p3] (.Name prm p4) apos2] scope .none kV doc pm an cdv ct cc) ⟨[x, u], []⟩ [((("self" : Str)), x), (prm, u)])
    (hps : ∃ ar, (params.posonlyargs ++ params.args).head? = some ar ∧ ar.arg = ("self" : Str))
    (hks : scope.names.lookup ("super" : Str) = some .globalImplicit) (hkc : scope.names.lookup ("__class__" : Str) = some .free) (hka : scope.names.lookup ("self" : Str) = some .local) (hkp : scope.names.lookup prm = some .local) (hk : scope.kind = .function)
    (hcell : ∀ x ∈ scope.names, x.2 ≠ .cell) (hco : scope.isCoroutine = false) (hgen : scope.isGenerator = false) (hne : prm ≠ ("self" : Str))
    {pl : Env → Sem Bool} (hcall : ∀ env : Env, eval (.Call (.Attribute (.Call (.Name "super" p0) [] [] p1) "__init__" apos) [e] [] cpos) env = (do
      let ov ← attributeBase (.Call (.Name "super" p0) [] [] p1) "__init__" env (eval (.Call (.Name "super" p0) [] [] p1) env)
      standAt apos.atName
      let (f, first) ← holding [ov] (getMethod ov "__init__" (pl env))
      callWith cpos f first (backTo cpos (starEach [e] env)) []))
    (hst : ∀ env : Env, starEach [e] env = (false, eval e env) :: starEach [] env) (hsw : ∀ env : Env, swapsWith (.Name prm p4) (some (.Attribute (.Name "self" p2) f p3)) apos2.line env = pure false)
    (htop : (X.prog.main.scope.names.lookup ("super" : Str)).isSome = false)
    (he : ∀ (y : Str) (tk : Tok) (x : Value), y.length ≤ sizeLine → ∀ {A : Around} {E : Value → Shared → Prop} {Q : Value → Shared → Prop} {env : Env} (s : Shared), env.scope = scope → s.heap.Ns env.locals (fun z => [(("self" : Str), x), (prm, Value.str y tk)].reverse.lookup z) →
      (∀ z t', Q z { s with toks := t' }) → wpAny (model X.prog X.w) A (eval e env) Q E s)
    (hg : Gl X x) (hm : X.mg x = some (.ref C)) (ha : PA X [a1] ta)
    (hdb : (x == ("__debug__" : Str)) = false := by decide) (hs1 : starEach [a1] X.env = (false, eval a1 X.env) :: starEach [] X.env := by rfl) (hpl : (backTo pos (starEach [] X.env)).any (·.1) = false := by rfl) :
    PMk X (.Call (.Name x p) [a1] [] pos) (tMkA C f ta) := by
  intro pins s σ H Q I h
  obtain ⟨nm, q, N, bs, bm, sn, sub, ab, col, dd, k0, k1, k2, k3, k5, hC, hbm⟩ := T.cls
  refine wpAny_Call_Name_kw (ld_glob I hg hm ?_ hdb)
  refine PySem.W.callWith_K (h₀ := X.base) I.ok.mod.kin kC (thn (ha.run pos pins s σ H _ I h) fun us s1 ⟨vs, H1, I1, r1, y, ev, hy, q1⟩ => ⟨I1.kIn, ?_⟩) hs1 hpl
  show wpAny _ _ (call (.ref C) us) _ _ _
  subst ev
  obtain ⟨u, rfl, ru⟩ := r1.one
  obtain ⟨tu, rfl⟩ := (show ∃ t, u = Value.str y t from ru)
  obtain ⟨hp, g, dr, tk, os⟩ := s1
  have hsz : hp.objs.size ≤ hp.objs.size + 1 := Nat.le_succ _
  have hn : H1 (hp.objs.size + 1) = none := I1.hok.fresh hsz
  have kk : ∀ b o, hp.get? b = some o → ((hp.push (PySem.W.kdv_tup [.str y tu])).push (PySem.HandSPX.excO C hp.objs.size)).get? b = some o := fun b o e => Heap.get?_push_of_some _ (Heap.get?_push_of_some _ e)
  have hget : ((hp.push (PySem.W.kdv_tup [.str y tu])).push (PySem.HandSPX.excO C hp.objs.size)).get? (hp.objs.size + 1) = some (PySem.HandSPX.excO C hp.objs.size) := by heap_get
  have I2 : Inv X pins σ (upd H1 (hp.objs.size + 1) (exo (hp.objs.size + 1) C none)) ⟨(hp.push (PySem.W.kdv_tup [.str y tu])).push (PySem.HandSPX.excO C hp.objs.size), g, dr, tk, os⟩ :=
    I1.laid (t' := tk) (a := hp.objs.size + 1) (o := exo (hp.objs.size + 1) C none) (h' := (hp.push (PySem.W.kdv_tup [.str y tu])).push (PySem.HandSPX.excO C hp.objs.size)) kk hsz (exo_ok hget)
  have hKx : X.K.lookup (hp.objs.size + 1) = none := by
    cases z : X.K.lookup (hp.objs.size + 1) with
    | none => rfl
    | some o =>
      have := Heap.lt_size (I1.kIn _ _ z)
      exact absurd this (Nat.not_lt.mpr hsz)
  refine wpAny_call (PySem.HandSPX.call_own F.excBase_ArithmeticError (fun Y => refsAE_contains Y bm hbm) (I1.kIn _ _ hC) (PySem.W.looks_findIn I1.kIn iC) (fun self => PySem.W.bind_fn I1.kIn self tI) (by show 1 ≤ sizeLine; decide)
    (init_run T (hr.make C _ []).depth I2.kIn (I2.ok.mod.nolimit.keeps I2.bk) (I2.ok.mod.glob.keeps I2.bk) (let ⟨mb, h1, h2⟩ := I2.ok.mod.blt; ⟨mb, h1.keeps I2.bk, h2⟩) hsu hKx hpd hget hno (hbind _ _) hps hks hkc hka hkp hk hcell hco hgen hne hcall hst hsw htop (he y tu _ hy) fun h' t' t1 d k dn dne hx' hn' => ?_))
  refine ⟨rfl, ?_⟩
  generalize hh2 : (hp.push (PySem.W.kdv_tup [.str y tu])).push (PySem.HandSPX.excO C hp.objs.size) = hp2 at kk hget I2 k dn hx' hn'
  generalize ha' : hp.objs.size + 1 = a at *
  have ea : upd H1 a (exo a C none) a = some (exo a C none) := upd_same
  have hnd2 : upd H1 a (exo a C none) d = none := I2.hok.fresh dn
  have hd1 : H1 d = none := by rw [upd_ne dne] at hnd2; exact hnd2
  have nd : ∀ {b : Addr} {o : Obj}, hp2.get? b = some o → b ≠ d := fun {b o} q => Nat.ne_of_lt (Nat.lt_of_lt_of_le (Heap.lt_size q) dn)
  have na : ∀ {b : Addr}, upd H1 a (exo a C none) b = none → b ≠ a := fun {b} n z => by
    rw [z, ea] at n
    cases n
  have un : Un (frs X.stack) [] (upd H1 a (exo a C none)) (upd (upd (upd H1 a (exo a C none)) d (exd d [(f, V.str y)])) a (exo a C (some d))) hp2 h' := {
    keep := fun b o q n _ _ => k b o (na n) q
    slot := fun b o q n _ _ => ⟨o.slots, k b o (na n) q⟩
    free := fun b o q n _ => by rw [upd_ne (na n), upd_ne (nd q)]; exact n
    there := fun b o q _ => by
      by_cases hb : b = a
      · exact ⟨_, by rw [hb]; exact hx'⟩
      · exact ⟨o, k b o hb q⟩
    tups := fun b xs q => by rw [upd_ne (at_ne ea q exo_tup), upd_ne (ne_of_none q hnd2)]; exact q
    frzs := fun b o v q => by rw [upd_ne (at_ne ea q exo_frz), upd_ne (ne_of_none q hnd2)]; exact q
    tbls := fun b ps q => ⟨#[], by rw [upd_ne (at_ne ea q exo_tbl), upd_ne (ne_of_none q hnd2), q]; simp⟩ }
  have hok : HOk X.prog X.w (upd (upd (upd H1 a (exo a C none)) d (exd d [(f, V.str y)])) a (exo a C (some d))) h' := fun b o q => by
    by_cases hb : b = a
    · subst hb
      rw [upd_same] at q
      cases q
      exact exo_ok hx'
    · rw [upd_ne hb] at q
      by_cases hd : b = d
      · subst hd
        rw [upd_same] at q
        cases q
        exact exd_ok hn' (relO_put (fs := []) ru fun g => True.intro)
      · rw [upd_ne hd] at q
        exact (I2.hok b o q).stay (fun c v hc z => k c v (by
            rcases hc with hc | hc
            · rw [hc]
              exact hb
            · exact at_ne ea hc exo_own) z)
          (fun c hc => by rw [upd_ne (at_ne ea hc exo_own), upd_ne (ne_of_none hc hnd2)]; exact hc) (fun c xs hc => by rw [upd_ne (at_ne ea hc exo_tup), upd_ne (ne_of_none hc hnd2)]; exact hc)
  have eq1 : upd (del (upd (upd (upd H1 a (exo a C none)) d (exd d [(f, V.str y)])) a (exo a C (some d))) a) d (.xd [(f, V.str y)]) = upd H1 d (.xd [(f, V.str y)]) := by
    funext b
    by_cases hb : b = d
    · rw [hb, upd_same, upd_same]
    · rw [upd_ne hb, upd_ne hb]
      by_cases hba : b = a
      · rw [hba, del_same, hn]
      · rw [del_ne hba, upd_ne hba, upd_ne hb, upd_ne hba]
  refine mk_end (raises_own exC tyC) I1 (by omega) kk un hok rfl I1.bare upd_same (by rw [upd_ne dne]; exact upd_same) hd1 ?_
  rw [eq1]
  exact q1 d hd1
end

/-! ### the facts, bundled: of the def's text, of the program, of the written part -/
/-- def __init__(self, prm): super().__init__(e); self.f = prm, e an expression of prm -/
structure AexS (st : Stmt) (f : Str) : Prop where
  ex : ∃ (prm : Str) (e : Expr) (p0 p1 p2 p3 p4 apos cpos epos apos2 : Pos) (pl : Env → Sem Bool),
    L2.defBody st = [.Expr (.Call (.Attribute (.Call (.Name "super" p0) [] [] p1) "__init__" apos) [e] [] cpos) epos, .Assign [.Attribute (.Name "self" p2) f p3] (.Name prm p4) apos2] ∧
    (prm == ("__debug__" : Str)) = false ∧
    (∀ {qual : Str} {kV doc pm an cdv ct cc} (x u : Value) (s : Shared), BindsTo s (ksFn "__init__" qual (L2.defArgs st) (L2.defBody st) (L2.defScope st) .none kV doc pm an cdv ct cc) ⟨[x, u], []⟩ [((("self" : Str)), x), (prm, u)]) ∧
    (∃ ar, ((L2.defArgs st).posonlyargs ++ (L2.defArgs st).args).head? = some ar ∧ ar.arg = ("self" : Str)) ∧
    (L2.defScope st).names.lookup ("super" : Str) = some .globalImplicit ∧ (L2.defScope st).names.lookup ("__class__" : Str) = some .free ∧ (L2.defScope st).names.lookup ("self" : Str) = some .local ∧ (L2.defScope st).names.lookup prm = some .local ∧ (L2.defScope st).kind = .function ∧
    (∀ x ∈ (L2.defScope st).names, x.2 ≠ .cell) ∧ (L2.defScope st).isCoroutine = false ∧ (L2.defScope st).isGenerator = false ∧ prm ≠ ("self" : Str) ∧
    (∀ env : Env, eval (.Call (.Attribute (.Call (.Name "super" p0) [] [] p1) "__init__" apos) [e] [] cpos) env = (do
      let ov ← attributeBase (.Call (.Name "super" p0) [] [] p1) "__init__" env (eval (.Call (.Name "super" p0) [] [] p1) env)
      standAt apos.atName
      let (f, first) ← holding [ov] (getMethod ov "__init__" (pl env))
      callWith cpos f first (backTo cpos (starEach [e] env)) [])) ∧
    (∀ env : Env, starEach [e] env = (false, eval e env) :: starEach [] env) ∧ (∀ env : Env, swapsWith (.Name prm p4) (some (.Attribute (.Name "self" p2) f p3)) apos2.line env = pure false) ∧
    (∀ (prog : Program) (w : World) (y : Str) (tk : Tok) (x : Value), y.length ≤ sizeLine → ∀ {A : Around} {E : Value → Shared → Prop} {Q : Value → Shared → Prop} {env : Env} (s : Shared), env.scope = L2.defScope st → s.heap.Ns env.locals (fun z => [(("self" : Str), x), (prm, Value.str y tk)].reverse.lookup z) →
      (∀ z t', Q z { s with toks := t' }) → wpAny (model prog w) A (eval e env) Q E s)
/-- {prm} -/
theorem fmt_run {prog : Program} {w : World} {y : Str} {tk : Tok} {x : Value} (hy : y.length ≤ sizeLine) {A : Around} {E : Value → Shared → Prop} {Q : Value → Shared → Prop} {env : Env} {prm : Str} {p p1 p2 : Pos} (s : Shared)
    (hk : env.scope.kind = .function) (hl : env.kindOf prm = some .local) (hd : (prm == ("__debug__" : Str)) = false) (hn : s.heap.Ns env.locals (fun z => [(("self" : Str), x), (prm, Value.str y tk)].reverse.lookup z)) (q : ∀ z t', Q z { s with toks := t' }) :
    wpAny (model prog w) A (eval (.JoinedStr [.FormattedValue (.Name prm p) (-1) none p1] p2) env) Q E s := by
  refine wpAny_JoinedStr_one (wpAny_FormattedValue_plain ?_)
  refine ESX.ldL hn (v := .str y tk) (by show ([(prm, Value.str y tk), (("self" : Str), x)] : List (Str × Value)).lookup _ = _; rw [List.lookup_cons, beq_self_eq_true]) ?_ hk hl hd
  exact wpAny_formatField_str (q _ s.toks) (q _ _) hy
structure PX (P : Program) (fl : Str) : Prop where
  file : ((P.main.file : Str) == fl) = true
  sup : (P.main.scope.names.lookup ("super" : Str)).isSome = false
/-- the class x at C: C(text) keeps the text in f -/
structure AexK (K : Frag) (mg : Str → Option Value) (C : Addr) (fl x f : Str) : Prop where
  g : mg x = some (.ref C)
  su : mg "super" = none
  exC : subIn K (.ref C) (.type "BaseException") = some true
  tyC : typeIn K (.ref C) = some (.type "type")
  kC : keepIn K (.ref C) = true
  no : findIn K (.ref C) f = some none
  cls : ∃ nm q N bs bm sn sub ab col dd k0 k1 k2 k3 k5, K.lookup C = some (excClassObj nm q C N bs bm true sn sub ab col dd k0 k1 k2 k3 k5 "ArithmeticError.__new__") ∧ refsAE bm = true
  sa : findIn K (.ref C) "__setattr__" = some (some (.builtin "object.__setattr__"))
  sup : ks_superIn K C C "__init__" = some (some (.builtin "ArithmeticError.__init__"))
  opq : nsIn K cStatics "thirdparty.any" = some none
  sb : subIn K (.ref C) (.type "ArithmeticError") = some true
  sC : mroIn K C (.ref C) = some true
  xf : L2.XfC K C
  ex : exmOne K (.ref C) (.ref C) = some true
  ini : ∃ (fI cc : Addr) (qual : Str) (st : Stmt), AexS st f ∧ findIn K (.ref C) "__init__" = some (some (.ref fI)) ∧ typeIn K (.ref fI) = some (.type "function") ∧
    (∃ oc od kV doc pm an cda ct osl, K.lookup fI = some ⟨oc, od, .func (ksFn "__init__" qual (L2.defArgs st) (L2.defBody st) (L2.defScope st) .none kV doc pm an (.ref cda) ct cc), osl⟩ ∧ codeIn K (.ref cda) qual = true ∧
      ∃ ccl cdd vs ccs tf, K.lookup cda = some ⟨ccl, cdd, .fields vs, ccs⟩ ∧ vs[2]? = some (.str fl tf)) ∧
    ∃ cl cld csl, K.lookup cc = some ⟨cl, cld, .cell (some (.ref C)), csl⟩
section
open L2 PySem.Spec
variable {X : Cx} {C : Addr} {fl x f : Str} {a1 : Expr} {ta : TA} {p pos : Pos}
/-- raise x(e), e a text -/
theorem pmk_ax (T : AexK X.K X.mg C fl x f) (PP : PX X.prog fl) (hr : Room 2 X.A) (hg : Gl X x) (ha : PA X [a1] ta)
    (hdb : (x == ("__debug__" : Str)) = false := by decide) (hs1 : starEach [a1] X.env = (false, eval a1 X.env) :: starEach [] X.env := by rfl) (hpl : (backTo pos (starEach [] X.env)).any (·.1) = false := by rfl) :
    PMk X (.Call (.Name x p) [a1] [] pos) (tMkA C f ta) := by
  obtain ⟨fI, cc, qual, st, S, iC, tI, ⟨oc, od, kV, doc, pm, an, cda, ct, osl, lk, hcd, ccl, cdd, vs, ccs, tf, lcd, hvs⟩, cl, cld, csl, lcell⟩ := T.ini
  obtain ⟨prm, e, p0, p1, p2, p3, p4, apos, cpos, epos, apos2, pl, hbody, hpd, hbind, hps, hks, hkc, hka, hkp, hk, hcell, hco, hgen, hne, hcall, hst, hsw, he⟩ := S.ex
  rw [hbody] at lk hbind
  have TI : AexI X.prog X.K C fI cc "__init__" qual (L2.defArgs st) _ (L2.defScope st) := ⟨T.cls, T.sa, T.sup, T.opq, T.sb, T.sC, ⟨oc, od, kV, doc, pm, an, cda, ct, osl, lk, hcd, ccl, cdd, vs, ccs, fl, tf, lcd, hvs, PP.file⟩, ⟨cl, cld, csl, lcell⟩⟩
  exact pmk_aex TI T.exC T.tyC T.kC iC tI hr T.su T.no hpd (fun x u s => hbind x u s) hps hks hkc hka hkp hk hcell hco hgen hne hcall hst hsw PP.sup (fun y tk x hy => he _ _ y tk x hy) hg T.g ha hdb hs1 hpl
end

/-! ### try: ask() / except C as e: return e.f / return None, handed a lambda without parameters -/
section
open L2 PySem.Spec LamX
theorem takes_len {X : Cx} {W : WX} (tk : Takes X W) : Takes X (fun cls d σ H => σ.length = X.N.length → W cls d σ H) := fun u s' x => by
  obtain ⟨a, B, sI, pins, σ, H, cls, d, e1, I, h1, h2, h3, h4, h5, h6, w⟩ := x
  exact tk u s' ⟨a, B, sI, pins, σ, H, cls, d, e1, I, h1, h2, h3, h4, h5, h6, w I.len⟩
def TTarg (CS : Addr) (fld : Str) : (XK → Hp → VK → Prop) → Hp → VK → Prop := fun tl H Q =>
  tl (fun cls d H' => cls = .ref CS ∧ ∃ (dd : Addr) (fs : List (Str × V)) (v : V), d = some dd ∧ H' dd = some (.xd fs) ∧ fs.lookup fld = some v ∧ Q v H') H fun _ H' => Q .non H'
theorem arg_gives {X : Cx} {x a e n q fld : Str} {sg : Scope} {g CS : Addr} {cdg : Value} {j : Nat} {p1 p2 p3 p4 p5 p6 p7 p8 p9 p10 p11 : Pos}
    (T : XfC X.K CS) (hno : findIn X.K (.ref CS) fld = some none) (hex : exmOne X.K (.ref CS) (.ref CS) = some true)
    (hge : sg.names.lookup e = some .globalImplicit) (hme : X.mg e = some (.ref CS)) (hde : (e == ("__debug__" : Str)) = false) (hnl : sg.names.lookup n = some .local) (hne : a ≠ n) (hdn : (n == ("__debug__" : Str)) = false) (hcn : (n == ("__classdict__" : Str)) = false) :
    GivesTo X [a, n] x sg g cdg [.Try [.Expr (.Call (.Name a p1) [] [] p2) p3] [.ExceptHandler (some (.Name e p4)) (some n) [.Return (some (.Attribute (.Name n p5) fld p6)) p7] p8] [] [] p9, .Return (some (.Constant .none j p10)) p11] a q (TTarg CS fld) := by
  intro f c' s H Q tl act hc h
  have hgl : Gl (cxOf C8.CX0 X.prog X.w X.K X.mg X.base [a, n] x sg g cdg X.A X.stack s H C8.E0).nox e := hge
  refine ⟨_, pss_cons (ps_try_as (X := (cxOf C8.CX0 X.prog X.w X.K X.mg X.base [a, n] x sg g cdg X.A X.stack s H C8.E0).nox) (c := .ref CS) (i := 1)
      (tb := fun W D σ H => ∃ Ech : XK, (∀ cls d σ' H', Ech cls d H' → σ'.length = 2 → W cls d σ' H') ∧ σ[0]? = some (some (.ref f)) ∧ H c' = some (CodeO c' q) ∧ tl Ech H (fun _ H' => D.nx σ H'))
      rfl rfl (List.nodup_cons.mpr ⟨fun z => hne (List.mem_singleton.mp z), List.nodup_cons.mpr ⟨fun z => (by cases z), List.nodup_nil⟩⟩) rfl hnl ⟨hgl, hde, .inl hme⟩ LamX.takes0 (fun W pn xe tk _ => ?_)
      (fun a oe cls d pn hz hf => pss_one (ps_ret (pe_xf T hno hz hf (pe_var (i := 1) rfl (.inl hnl) hdn hcn))))) (pss_one (ps_ret pe_non)), ?_⟩
  · refine ⟨fun pins s' σ H' D I h' => ?_⟩
    obtain ⟨Ech, hW, h1, h2, h3⟩ := h'
    have hp := act (fun cls d σ H => σ.length = 2 → W cls d σ H) pn xe Ech p1 p2 (takes_len tk) hW
    have hq := pss_one (ps_expr (pos := p3) hp)
    exact hq.run pins s' σ H' D I ⟨h1, h2, h3⟩
  · refine ⟨fun cls d H' => cls = .ref CS ∧ ∃ (dd : Addr) (fs : List (Str × V)) (v : V), d = some dd ∧ H' dd = some (.xd fs) ∧ fs.lookup fld = some v ∧ Q v H', fun cls d σ' H' ⟨e1, dd, fs, v, e2, e3, e4, e5⟩ hl => ?_, rfl, hc, h⟩
    subst e1
    refine ⟨true, hex, fun _ a' _ => ?_, fun z => by cases z⟩
    match σ', hl with
    | [u, w], _ => exact ⟨_, rfl, rfl, rfl, dd, fs, v, e2, e3, e4, e5⟩

/-- x(lambda: body), x such a def -/
theorem pe_refused {X : Cx} {Tb : List (Addr × Str)} {x a e n fld fl : Str} {g CS c P : Addr} {fd : FuncData} {st : Stmt} {k : Nat} {j : Nat} {p1 p2 p3 p4 p5 p6 p7 p8 p9 p10 p11 p lpos pos : Pos} {params : Arguments} {body : Expr} {scope : Scope} {t : XK → TE}
    (F : L2.Fun X.K x x st g fd) (hb : L2.Binds X.K fd [a] []) (Sg : FnScope [a, n] [a] (L2.defScope st)) (hg : Gl X x) (hm : X.mg x = some (.ref g)) (hk : keepIn X.K (.ref g) = true) (AX : AexK X.K X.mg CS fl e fld)
    (hbd : L2.defBody st = [.Try [.Expr (.Call (.Name a p1) [] [] p2) p3] [.ExceptHandler (some (.Name e p4)) (some n) [.Return (some (.Attribute (.Name n p5) fld p6)) p7] p8] [] [] p9, .Return (some (.Constant .none j p10)) p11])
    (hge : (L2.defScope st).names.lookup e = some .globalImplicit) (hal : (L2.defScope st).names.lookup a = some .local) (hnl : (L2.defScope st).names.lookup n = some .local)
    (TB : TabB X.base X.mg c P) (hcode : X.env.code = .ref c) (hmT : (P, X.env.qual ++ "<lambda>") ∈ Tb) (hu : ∀ p ∈ Tb, p.1 = P → p.2 = X.env.qual ++ "<lambda>") (hr : Room (k + 2) X.A) (L : LamS X.env.scope scope) (hdef : defaultsOf params X.env = ([], []))
    (hbind : ∀ (q : Str) (cl : List (Str × Addr)) (pm cv ctv : Value), bindArgs (kla_fn "<lambda>" q params body scope cl pm cv ctv) ⟨[], []⟩ = pure [])
    (hbody : ∀ (A : Around) (outer : List Env) (s : Shared) (H : Hp) (E : XK) (f c' : Addr), Room k (A.deeper (lamEnv X scope s.heap.objs.size f c')) → PE (lamCx X A outer s H E scope f c') body (t E))
    (hde : (e == ("__debug__" : Str)) = false := by decide) (hne : a ≠ n := by decide) (hdn : (n == ("__debug__" : Str)) = false := by decide) (hcn : (n == ("__classdict__" : Str)) = false := by decide)
    (hdb : (x == ("__debug__" : Str)) = false := by decide) (hd : (a == ("__debug__" : Str)) = false := by decide) (hcd : (a == ("__classdict__" : Str)) = false := by decide) :
    PE X (.Call (.Name x p) [.Lambda params body scope lpos] [] pos) (tLam Tb (TTarg CS fld) t) := by
  obtain ⟨oc, od, kV, doc, pm, an, cdv, ct, osl, rfl, lk, hcg⟩ := F.ex
  exact pe_lamcall (Ng := [a, n]) hg hm hk lk hcg hb Sg rfl (.inl hal) (by rw [hbd]; exact arg_gives AX.xf AX.no AX.ex hge AX.g hde hnl hne hdn hcn) TB hcode hmT hu hr L hdef hbind hbody hdb hd hcd
end
end Fw
local macro_rules | `(tactic| walk_at "rd") => `(tactic| repeat (first
  | (with_reducible show L2.tVar _ _ _ _; first | with_reducible refine Fw.w_v0 ?_ | with_reducible refine Fw.w_v1 ?_ | with_reducible refine Fw.w_v2 ?_ | with_reducible refine Fw.w_v3 ?_ | with_reducible refine Fw.w_v4 ?_ | with_reducible refine Fw.w_v5 ?_ | with_reducible refine Fw.w_v6 ?_ | with_reducible refine Fw.w_v7 ?_ | with_reducible refine Fw.w_v8 ?_ | with_reducible refine Fw.w_v9 ?_ | with_reducible refine Fw.w_v10 ?_ | with_reducible refine Fw.w_v11 ?_ | with_reducible refine Fw.w_v12 ?_ | with_reducible refine Fw.w_v13 ?_ | with_reducible refine Fw.w_v14 ?_ | with_reducible refine Fw.w_v15 ?_ | with_reducible refine Fw.w_v16 ?_ | with_reducible refine Fw.w_v17 ?_ | with_reducible refine Fw.w_v18 ?_ | with_reducible refine Fw.w_v19 ?_ | with_reducible refine Fw.w_v20 ?_ | with_reducible refine Fw.w_v21 ?_ | with_reducible refine Fw.w_v22 ?_ | with_reducible refine Fw.w_v23 ?_ | with_reducible refine Fw.w_v24 ?_ | with_reducible refine Fw.w_v25 ?_ | with_reducible refine Fw.w_v26 ?_ | with_reducible refine Fw.w_v27 ?_ | with_reducible refine Fw.w_v28 ?_ | with_reducible refine Fw.w_v29 ?_ | with_reducible refine Fw.w_v30 ?_ | with_reducible refine Fw.w_v31 ?_ | with_reducible refine Fw.w_var (by with_unfolding_all exact rfl) ?_)
  | with_reducible refine Fw.w_cons ?_
  | with_reducible refine Fw.w_c ?_
  | with_reducible refine Fw.w_op ?_
  | with_reducible refine Fw.w_nil ?_
  | with_reducible refine Fw.w_I0 ?_
  | with_reducible refine Fw.w_seq ?_
  | with_reducible refine Fw.w_asg ?_
  | (with_reducible show L2.gName _ _ (L2.wipe _ _) _ _; dsimp only [L2.wipe, List.set, List.map])
  | (with_reducible show L2.gTup _ _ _ _ (L2.wipe _ _) _ _; dsimp only [L2.wipe, List.set, List.map])
  | (with_reducible show L2.gName _ _ _ _ _; first | with_reducible refine Fw.w_n0 ?_ | with_reducible refine Fw.w_n1 ?_ | with_reducible refine Fw.w_n2 ?_ | with_reducible refine Fw.w_n3 ?_ | with_reducible refine Fw.w_n4 ?_ | with_reducible refine Fw.w_n5 ?_ | with_reducible refine Fw.w_n6 ?_ | with_reducible refine Fw.w_n7 ?_ | with_reducible refine Fw.w_n8 ?_ | with_reducible refine Fw.w_n9 ?_ | with_reducible refine Fw.w_n10 ?_ | with_reducible refine Fw.w_n11 ?_ | with_reducible refine Fw.w_n12 ?_ | with_reducible refine Fw.w_n13 ?_ | with_reducible refine Fw.w_n14 ?_ | with_reducible refine Fw.w_n15 ?_ | with_reducible refine Fw.w_n16 ?_ | with_reducible refine Fw.w_n17 ?_ | with_reducible refine Fw.w_n18 ?_ | with_reducible refine Fw.w_n19 ?_ | with_reducible refine Fw.w_n20 ?_ | with_reducible refine Fw.w_n21 ?_ | with_reducible refine Fw.w_n22 ?_ | with_reducible refine Fw.w_n23 ?_ | with_reducible refine Fw.w_n24 ?_ | with_reducible refine Fw.w_n25 ?_ | with_reducible refine Fw.w_n26 ?_ | with_reducible refine Fw.w_n27 ?_ | with_reducible refine Fw.w_n28 ?_ | with_reducible refine Fw.w_n29 ?_ | with_reducible refine Fw.w_n30 ?_ | with_reducible refine Fw.w_n31 ?_ | with_reducible refine Fw.w_name ?_)
  | with_reducible refine Fw.w_call ?_
  | with_reducible refine Fw.w_exb ?_
  | with_reducible refine Fw.w_test ?_
  | (with_reducible show L2.rI _ _ _ _ _ _; with_reducible refine Fw.w_I (by with_unfolding_all first | exact Or.inl ⟨by decide, by decide⟩ | exact Or.inr ⟨by decide, by decide⟩ | exact ⟨by decide, by decide⟩ | exact ⟨by decide, by decide, by decide⟩ | (show (0 : Int) < _; decide)) ?_)
  | with_reducible refine Fw.w_neI ?_
  | with_reducible refine Fw.w_ifS ?_
  | with_reducible refine Fw.w_next ?_
  | with_reducible refine Fw.w_callK ?_
  | with_reducible refine Fw.w_ret ?_
  | with_reducible refine Fw.w_cb ?_
  | with_reducible refine Fw.w_int ?_
  | (with_reducible show L2.rIxL _ _ _ _ _; with_reducible refine Fw.w_ixL (by first | assumption | exact L2.upd_same) (by with_unfolding_all rfl) ?_)
  | (with_reducible show L2.rIxT _ _ _ _ _; with_reducible refine Fw.w_ixT (by first | assumption | exact L2.upd_same) (by with_unfolding_all rfl) ?_)
  | (with_reducible show L2.rSetL _ _ _ _ _; with_reducible refine Fw.w_setL (by first | assumption | exact L2.upd_same) (by with_unfolding_all rfl) ?_)
  | (with_reducible show L2.gTup _ _ _ _ _ _ _; with_reducible refine Fw.w_gtup (by first | assumption | exact L2.upd_same) rfl ?_)
  | with_reducible refine Fw.w_U ?_
  | with_reducible refine Fw.w_un ?_
  | with_reducible refine Fw.w_eqI ?_
  | with_reducible refine Fw.w_eqB ?_
  | with_reducible refine Fw.w_neB ?_
  | with_reducible refine Fw.w_eqS ?_
  | with_reducible refine Fw.w_exi ?_
  | with_reducible refine Fw.w_exr ?_
  | with_reducible refine Fw.w_B ?_
  | with_reducible refine Fw.w_and ?_
  | with_reducible refine Fw.w_or ?_
  | with_reducible refine Fw.w_not ?_
  | with_reducible refine Fw.w_andV ?_
  | with_reducible refine Fw.w_notV ?_
  | with_reducible refine Fw.w_make ?_
  | with_reducible refine Fw.w_intB ?_
  | with_reducible refine Fw.w_abs ?_
  | with_reducible refine Fw.w_bits ?_
  | with_reducible refine Fw.w_sl ?_
  | with_reducible refine Fw.w_part ?_
  | with_reducible refine Fw.w_nopart ?_
  | with_reducible refine Fw.w_lst ?_
  | with_reducible refine Fw.w_tup ?_
  | with_reducible refine Fw.w_dnewK ?_
  | with_reducible refine Fw.w_dget ?_
  | with_reducible refine Fw.w_isNn ?_
  | with_reducible refine Fw.w_isNi ?_
  | with_reducible refine Fw.w_meth0 ?_
  | with_reducible refine Fw.w_match ?_
  | with_reducible refine Fw.w_caseA ?_
  | with_reducible refine Fw.w_caseT ?_
  | with_reducible refine Fw.w_par ?_
  | (with_reducible refine Fw.w_exvw ?_; try dsimp only [List.set])
  | with_reducible refine Fw.w_drop ?_
  | with_reducible refine Fw.w_retN ?_
  | with_reducible refine Fw.w_gnil ?_
  | with_reducible refine Fw.w_gcons ?_
  | with_reducible refine Fw.w_gsub ?_
  | with_reducible refine Fw.w_for ?_
  | with_reducible refine Fw.w_lc ?_
  | with_reducible refine Fw.w_yes ?_
  | with_reducible refine Fw.w_iList ?_
  | with_reducible refine Fw.w_iRng1 ?_
  | with_reducible refine Fw.w_sfld ?_))
namespace Fw
open PySem L2
def top (i : Nat) : Stmt := PySem.Challenge.pw_farwrap_k14_two_lines_compared.main.body.getD i (.Pass ⟨0, 0, 0, 0⟩)
abbrev s_Walk___init__ : Stmt := inClass (top 5) 0
abbrev s_Walk_mirrored : Stmt := inClass (top 5) 1
abbrev s_Walk_of_laps : Stmt := inClass (top 5) 2
abbrev s_Walk_marked_steps : Stmt := inClass (top 5) 3
abbrev s_Walk_cost : Stmt := inClass (top 5) 4
abbrev s_Walk_steps_for : Stmt := inClass (top 5) 5
abbrev s__steps_to_visit : Stmt := top 6
abbrev s_hit_at : Stmt := top 7
abbrev s_is_integer : Stmt := top 10
abbrev s_check_integer : Stmt := top 11
abbrev s_is_sixty_digits : Stmt := top 12
abbrev s_check_sixty_digits : Stmt := top 13
abbrev s_is_count : Stmt := top 14
abbrev s_check_number : Stmt := top 15
abbrev s_is_word : Stmt := top 19
abbrev s_check_word : Stmt := top 20
abbrev s_opposite : Stmt := top 21
abbrev s_stands : Stmt := top 22
abbrev s_Kind___init__ : Stmt := inClass (top 25) 0
abbrev s_check_kind : Stmt := top 26
abbrev s_least : Stmt := top 27
abbrev s_greatest : Stmt := top 28
abbrev s_wrapped : Stmt := top 29
abbrev s_quotient_total : Stmt := top 31
abbrev s_total_between : Stmt := top 32
abbrev s_check_line : Stmt := top 34
abbrev s_check_range : Stmt := top 35
abbrev s_exact_at : Stmt := top 36
abbrev s_wanted_of : Stmt := top 38
abbrev s__check_lines : Stmt := top 40
abbrev s__check : Stmt := top 41
abbrev s_compares : Stmt := top 42
abbrev s__count : Stmt := top 43
abbrev s__gap : Stmt := top 44
abbrev s__less_total : Stmt := top 45
abbrev s__equal_total : Stmt := top 46
abbrev s__total : Stmt := top 47
abbrev s_holds : Stmt := top 48
abbrev s__less_hits : Stmt := top 49
abbrev s__hits : Stmt := top 50
abbrev s__holding : Stmt := top 51
abbrev s__first_holding : Stmt := top 52
abbrev s_first_holding : Stmt := top 53
abbrev s_last_holding : Stmt := top 54
abbrev s_holding_at : Stmt := top 55
abbrev s__ordered_parts : Stmt := top 56
abbrev s__surprising_parts : Stmt := top 57
abbrev s_surprises : Stmt := top 58
abbrev s_first_surprise : Stmt := top 59
abbrev s__law_deck : Stmt := top 61
abbrev s__law_deal : Stmt := top 62
abbrev s__law_choice : Stmt := top 63
abbrev s__law_great : Stmt := top 64
abbrev s__law_near : Stmt := top 65
abbrev s__law_some : Stmt := top 66
abbrev s__law_pair : Stmt := top 67
abbrev s__law_table : Stmt := top 68
abbrev s__law_is_so : Stmt := top 69
abbrev s__law_right : Stmt := top 70
abbrev s__law_refused : Stmt := top 71
abbrev s__law_none_right : Stmt := top 72
abbrev s__law_named_right : Stmt := top 73
abbrev s_law : Stmt := top 74
abbrev s_InvalidBound___init__ : Stmt := inClass (top 3) 0
theorem sc_Walk___init__ : FnScope ["self", "size", "step", "marks", "each", "marked", "around"] ["self", "size", "step", "marks", "each", "marked", "around"] (defScope s_Walk___init__) := ⟨rfl, rfl, rfl, by decide +kernel, rfl, by decide +kernel, by decide +kernel⟩
theorem sc_Walk_mirrored : FnScope ["self", "each"] ["self"] (defScope s_Walk_mirrored) := ⟨rfl, rfl, rfl, by decide +kernel, rfl, by decide +kernel, by decide +kernel⟩
theorem sc_Walk_of_laps : FnScope ["self", "longest", "step", "each"] ["self"] (defScope s_Walk_of_laps) := ⟨rfl, rfl, rfl, by decide +kernel, rfl, by decide +kernel, by decide +kernel⟩
theorem sc_Walk_marked_steps : FnScope ["self", "begin"] ["self", "begin"] (defScope s_Walk_marked_steps) := ⟨rfl, rfl, rfl, by decide +kernel, rfl, by decide +kernel, by decide +kernel⟩
theorem sc_Walk_cost : FnScope ["self", "begin", "steps"] ["self", "begin", "steps"] (defScope s_Walk_cost) := ⟨rfl, rfl, rfl, by decide +kernel, rfl, by decide +kernel, by decide +kernel⟩
theorem sc_Walk_steps_for : FnScope ["self", "begin", "budget", "most", "steps", "rest"] ["self", "begin", "budget"] (defScope s_Walk_steps_for) := ⟨rfl, rfl, rfl, by decide +kernel, rfl, by decide +kernel, by decide +kernel⟩
theorem sc__steps_to_visit : FnScope ["size", "step", "marks", "place", "j", "walk", "budget", "outer", "ahead", "steps", "distance", "begin", "more"] ["size", "step", "marks", "place", "j"] (defScope s__steps_to_visit) := ⟨rfl, rfl, rfl, by decide +kernel, rfl, by decide +kernel, by decide +kernel⟩
theorem sc_hit_at : FnScope ["line", "size", "first", "low", "high", "j", "a", "b"] ["line", "size", "first", "low", "high", "j"] (defScope s_hit_at) := ⟨rfl, rfl, rfl, by decide +kernel, rfl, by decide +kernel, by decide +kernel⟩
theorem sc_is_integer : FnScope ["value"] ["value"] (defScope s_is_integer) := ⟨rfl, rfl, rfl, by decide +kernel, rfl, by decide +kernel, by decide +kernel⟩
theorem sc_check_integer : FnScope ["value", "argument"] ["value", "argument"] (defScope s_check_integer) := ⟨rfl, rfl, rfl, by decide +kernel, rfl, by decide +kernel, by decide +kernel⟩
theorem sc_is_sixty_digits : FnScope ["value"] ["value"] (defScope s_is_sixty_digits) := ⟨rfl, rfl, rfl, by decide +kernel, rfl, by decide +kernel, by decide +kernel⟩
theorem sc_check_sixty_digits : FnScope ["value", "argument"] ["value", "argument"] (defScope s_check_sixty_digits) := ⟨rfl, rfl, rfl, by decide +kernel, rfl, by decide +kernel, by decide +kernel⟩
theorem sc_is_count : FnScope ["value"] ["value"] (defScope s_is_count) := ⟨rfl, rfl, rfl, by decide +kernel, rfl, by decide +kernel, by decide +kernel⟩
theorem sc_check_number : FnScope ["j", "total"] ["j", "total"] (defScope s_check_number) := ⟨rfl, rfl, rfl, by decide +kernel, rfl, by decide +kernel, by decide +kernel⟩
theorem sc_is_word : FnScope ["value", "words"] ["value", "words"] (defScope s_is_word) := ⟨rfl, rfl, rfl, by decide +kernel, rfl, by decide +kernel, by decide +kernel⟩
theorem sc_check_word : FnScope ["word", "words", "argument"] ["word", "words", "argument"] (defScope s_check_word) := ⟨rfl, rfl, rfl, by decide +kernel, rfl, by decide +kernel, by decide +kernel⟩
theorem sc_opposite : FnScope ["relation"] ["relation"] (defScope s_opposite) := ⟨rfl, rfl, rfl, by decide +kernel, rfl, by decide +kernel, by decide +kernel⟩
theorem sc_stands : FnScope ["y", "relation", "z"] ["y", "relation", "z"] (defScope s_stands) := ⟨rfl, rfl, rfl, by decide +kernel, rfl, by decide +kernel, by decide +kernel⟩
theorem sc_Kind___init__ : FnScope ["self", "bits", "is_signed"] ["self", "bits", "is_signed"] (defScope s_Kind___init__) := ⟨rfl, rfl, rfl, by decide +kernel, rfl, by decide +kernel, by decide +kernel⟩
theorem sc_check_kind : FnScope ["kind"] ["kind"] (defScope s_check_kind) := ⟨rfl, rfl, rfl, by decide +kernel, rfl, by decide +kernel, by decide +kernel⟩
theorem sc_least : FnScope ["kind"] ["kind"] (defScope s_least) := ⟨rfl, rfl, rfl, by decide +kernel, rfl, by decide +kernel, by decide +kernel⟩
theorem sc_greatest : FnScope ["kind"] ["kind"] (defScope s_greatest) := ⟨rfl, rfl, rfl, by decide +kernel, rfl, by decide +kernel, by decide +kernel⟩
theorem sc_wrapped : FnScope ["kind", "n", "low"] ["kind", "n"] (defScope s_wrapped) := ⟨rfl, rfl, rfl, by decide +kernel, rfl, by decide +kernel, by decide +kernel⟩
theorem sc_quotient_total : FnScope ["line", "size", "first", "last", "a", "b", "count", "total", "top"] ["line", "size", "first", "last"] (defScope s_quotient_total) := ⟨rfl, rfl, rfl, by decide +kernel, rfl, by decide +kernel, by decide +kernel⟩
theorem sc_total_between : FnScope ["line", "size", "first", "last", "low", "high", "a", "b"] ["line", "size", "first", "last", "low", "high"] (defScope s_total_between) := ⟨rfl, rfl, rfl, by decide +kernel, rfl, by decide +kernel, by decide +kernel⟩
theorem sc_check_line : FnScope ["line", "argument"] ["line", "argument"] (defScope s_check_line) := ⟨rfl, rfl, rfl, by decide +kernel, rfl, by decide +kernel, by decide +kernel⟩
theorem sc_check_range : FnScope ["first", "last"] ["first", "last"] (defScope s_check_range) := ⟨rfl, rfl, rfl, by decide +kernel, rfl, by decide +kernel, by decide +kernel⟩
theorem sc_exact_at : FnScope ["line", "x", "a", "b"] ["line", "x"] (defScope s_exact_at) := ⟨rfl, rfl, rfl, by decide +kernel, rfl, by decide +kernel, by decide +kernel⟩
theorem sc_wanted_of : FnScope ["total", "first", "last", "many", "j", "doubt", "width", "room", "guess", "middle", "is_low", "split", "ahead", "is_ahead"] ["total", "first", "last", "many", "j"] (defScope s_wanted_of) := ⟨rfl, rfl, rfl, by decide +kernel, rfl, by decide +kernel, by decide +kernel⟩
theorem sc__check_lines : FnScope ["kind", "one", "relation", "other"] ["kind", "one", "relation", "other"] (defScope s__check_lines) := ⟨rfl, rfl, rfl, by decide +kernel, rfl, by decide +kernel, by decide +kernel⟩
theorem sc__check : FnScope ["kind", "one", "relation", "other", "first", "last"] ["kind", "one", "relation", "other", "first", "last"] (defScope s__check) := ⟨rfl, rfl, rfl, by decide +kernel, rfl, by decide +kernel, by decide +kernel⟩
theorem sc_compares : FnScope ["kind", "one", "relation", "other", "x"] ["kind", "one", "relation", "other", "x"] (defScope s_compares) := ⟨rfl, rfl, rfl, by decide +kernel, rfl, by decide +kernel, by decide +kernel⟩
theorem sc__count : FnScope ["first", "last"] ["first", "last"] (defScope s__count) := ⟨rfl, rfl, rfl, by decide +kernel, rfl, by decide +kernel, by decide +kernel⟩
theorem sc__gap : FnScope ["one", "other"] ["one", "other"] (defScope s__gap) := ⟨rfl, rfl, rfl, by decide +kernel, rfl, by decide +kernel, by decide +kernel⟩
theorem sc__less_total : FnScope ["kind", "one", "other", "first", "last", "size", "base", "one_total", "other_total"] ["kind", "one", "other", "first", "last"] (defScope s__less_total) := ⟨rfl, rfl, rfl, by decide +kernel, rfl, by decide +kernel, by decide +kernel⟩
theorem sc__equal_total : FnScope ["kind", "one", "other", "first", "last"] ["kind", "one", "other", "first", "last"] (defScope s__equal_total) := ⟨rfl, rfl, rfl, by decide +kernel, rfl, by decide +kernel, by decide +kernel⟩
theorem sc__total : FnScope ["kind", "one", "relation", "other", "first", "last"] ["kind", "one", "relation", "other", "first", "last"] (defScope s__total) := ⟨rfl, rfl, rfl, by decide +kernel, rfl, by decide +kernel, by decide +kernel⟩
theorem sc_holds : FnScope ["kind", "one", "relation", "other", "first", "last"] ["kind", "one", "relation", "other", "first", "last"] (defScope s_holds) := ⟨rfl, rfl, rfl, by decide +kernel, rfl, by decide +kernel, by decide +kernel⟩
theorem sc__less_hits : FnScope ["kind", "one", "other", "size", "low", "high", "gap"] ["kind", "one", "other"] (defScope s__less_hits) := ⟨rfl, rfl, rfl, by decide +kernel, rfl, by decide +kernel, by decide +kernel⟩
theorem sc__hits : FnScope ["kind", "one", "relation", "other", "size", "found", "line", "low", "high"] ["kind", "one", "relation", "other"] (defScope s__hits) := ⟨rfl, rfl, rfl, by decide +kernel, rfl, by decide +kernel, by decide +kernel⟩
theorem sc__holding : FnScope ["kind", "one", "relation", "other", "first", "last", "total", "j", "hits", "line", "low", "high"] ["kind", "one", "relation", "other", "first", "last", "total", "j"] (defScope s__holding) := ⟨rfl, rfl, rfl, by decide +kernel, rfl, by decide +kernel, by decide +kernel⟩
theorem sc__first_holding : FnScope ["kind", "one", "relation", "other", "first", "last", "total"] ["kind", "one", "relation", "other", "first", "last"] (defScope s__first_holding) := ⟨rfl, rfl, rfl, by decide +kernel, rfl, by decide +kernel, by decide +kernel⟩
theorem sc_first_holding : FnScope ["kind", "one", "relation", "other", "first", "last"] ["kind", "one", "relation", "other", "first", "last"] (defScope s_first_holding) := ⟨rfl, rfl, rfl, by decide +kernel, rfl, by decide +kernel, by decide +kernel⟩
theorem sc_last_holding : FnScope ["kind", "one", "relation", "other", "first", "last", "total"] ["kind", "one", "relation", "other", "first", "last"] (defScope s_last_holding) := ⟨rfl, rfl, rfl, by decide +kernel, rfl, by decide +kernel, by decide +kernel⟩
theorem sc_holding_at : FnScope ["kind", "one", "relation", "other", "first", "last", "j", "total"] ["kind", "one", "relation", "other", "first", "last", "j"] (defScope s_holding_at) := ⟨rfl, rfl, rfl, by decide +kernel, rfl, by decide +kernel, by decide +kernel⟩
theorem sc__ordered_parts : FnScope ["one", "other", "first", "last", "slope", "above", "crossing"] ["one", "other", "first", "last"] (defScope s__ordered_parts) := ⟨rfl, rfl, rfl, by decide +kernel, rfl, by decide +kernel, by decide +kernel⟩
theorem sc__surprising_parts : FnScope ["one", "relation", "other", "first", "last", "start", "end"] ["one", "relation", "other", "first", "last"] (defScope s__surprising_parts) := ⟨rfl, rfl, rfl, by decide +kernel, rfl, by decide +kernel, by decide +kernel⟩
theorem sc_surprises : FnScope ["kind", "one", "relation", "other", "first", "last", "parts", "start", "end", "wanted"] ["kind", "one", "relation", "other", "first", "last"] (defScope s_surprises) := ⟨rfl, rfl, rfl, by decide +kernel, rfl, by decide +kernel, by decide +kernel⟩
theorem sc_first_surprise : FnScope ["kind", "one", "relation", "other", "first", "last", "start", "end", "wanted", "x"] ["kind", "one", "relation", "other", "first", "last"] (defScope s_first_surprise) := ⟨rfl, rfl, rfl, by decide +kernel, rfl, by decide +kernel, by decide +kernel⟩
theorem sc__law_deck : FnScope ["_law_cell"] ["_law_cell"] (defScope s__law_deck) := ⟨rfl, rfl, rfl, by decide +kernel, rfl, by decide +kernel, by decide +kernel⟩
theorem sc__law_deal : FnScope ["_law_deck_here", "_law_many", "_law_card", "_law_mixed"] ["_law_deck_here", "_law_many"] (defScope s__law_deal) := ⟨rfl, rfl, rfl, by decide +kernel, rfl, by decide +kernel, by decide +kernel⟩
theorem sc__law_choice : FnScope ["_law_deck_here", "_law_some_here"] ["_law_deck_here", "_law_some_here"] (defScope s__law_choice) := ⟨rfl, rfl, rfl, by decide +kernel, rfl, by decide +kernel, by decide +kernel⟩
theorem sc__law_great : FnScope ["_law_deck_here", "_law_most", "_law_found", "_law_turn"] ["_law_deck_here", "_law_most"] (defScope s__law_great) := ⟨rfl, rfl, rfl, by decide +kernel, rfl, by decide +kernel, by decide +kernel⟩
theorem sc__law_near : FnScope ["_law_deck_here", "_law_bits", "_law_is_signed", "_law_size"] ["_law_deck_here"] (defScope s__law_near) := ⟨rfl, rfl, rfl, by decide +kernel, rfl, by decide +kernel, by decide +kernel⟩
theorem sc__law_some : FnScope ["_law_deck_here", "_law_size", "_law_many"] ["_law_deck_here", "_law_size"] (defScope s__law_some) := ⟨rfl, rfl, rfl, by decide +kernel, rfl, by decide +kernel, by decide +kernel⟩
theorem sc__law_pair : FnScope ["_law_deck_here", "_law_size", "_law_mine", "_law_its"] ["_law_deck_here", "_law_size"] (defScope s__law_pair) := ⟨rfl, rfl, rfl, by decide +kernel, rfl, by decide +kernel, by decide +kernel⟩
theorem sc__law_table : FnScope ["_law_mine", "_law_its", "_law_least_one", "_law_size", "_law_begin", "_law_end", "_law_found", "_law_at", "_law_left", "_law_right_here", "_law_line"] ["_law_mine", "_law_its", "_law_least_one", "_law_size", "_law_begin", "_law_end"] (defScope s__law_table) := ⟨rfl, rfl, rfl, by decide +kernel, rfl, by decide +kernel, by decide +kernel⟩
theorem sc__law_is_so : FnScope ["_law_word", "_law_gap"] ["_law_word", "_law_gap"] (defScope s__law_is_so) := ⟨rfl, rfl, rfl, by decide +kernel, rfl, by decide +kernel, by decide +kernel⟩
theorem sc__law_right : FnScope ["_law_deck_here", "_law_own", "_law_least_one", "_law_size", "_law_mine", "_law_its", "_law_begin", "_law_end", "_law_table_here", "_law_word", "_law_due", "_law_gap", "_law_at", "_law_k"] ["_law_deck_here"] (defScope s__law_right) := ⟨rfl, rfl, rfl, by decide +kernel, rfl, by decide +kernel, by decide +kernel⟩
theorem sc__law_refused : FnScope ["_law_ask", "e"] ["_law_ask"] (defScope s__law_refused) := ⟨rfl, rfl, rfl, by decide +kernel, rfl, by decide +kernel, by decide +kernel⟩
theorem sc__law_none_right : FnScope ["_law_deck_here", "_law_bits", "_law_is_signed", "_law_own", "_law_size", "_law_mine", "_law_its", "_law_turn", "_law_begin", "_law_gap", "_law_end", "_law_word", "_law_told", "_law_ask", "_law_k"] ["_law_deck_here"] (defScope s__law_none_right) := ⟨rfl, rfl, rfl, by decide +kernel, rfl, by decide +kernel, by decide +kernel⟩
theorem sc__law_named_right : FnScope ["_law_byte", "_law_pair_here", "_law_line_here"] [] (defScope s__law_named_right) := ⟨rfl, rfl, rfl, by decide +kernel, rfl, by decide +kernel, by decide +kernel⟩
theorem sc_law : FnScope ["_law_script", "_law_cell", "_law_deck_here"] ["_law_script"] (defScope s_law) := ⟨rfl, rfl, rfl, by decide +kernel, rfl, by decide +kernel, by decide +kernel⟩
theorem axs_InvalidBound : AexS s_InvalidBound___init__ "argument" := ⟨⟨"argument", _, _, _, _, _, _, _, _, _, _, _, rfl, by decide, fun x u s => .of_eq rfl, ⟨_, rfl, rfl⟩, rfl, rfl, rfl, rfl, rfl, by decide +kernel, rfl, rfl, by decide, fun env => rfl, fun env => rfl, fun env => rfl, fun prog w y tk x hy A E Q env s hs hn q => fmt_run hy s (by rw [hs]; rfl) (by show env.scope.names.lookup _ = _; rw [hs]; rfl) (by decide) hn q⟩⟩

/-- a kind's object -/
def kf (w : Nat) (s : Bool) : List (Str × V) := [("bits", .int (w : Int)), ("is_signed", .bl s)]
structure Kd (C : Addr) (H : Hp) (p : Addr) (w : Nat) (s : Bool) : Prop where
  ex : ∃ dx, H p = some (.ins C dx (kf w s))
  w1 : 1 ≤ w
  w2 : w ≤ 128
theorem kf_bits (w : Nat) (s : Bool) : (kf w s).lookup ("bits" : Str) = some (.int (w : Int)) := by unfold kf; simp [List.lookup]
theorem kf_sign (w : Nat) (s : Bool) : (kf w s).lookup ("is_signed" : Str) = some (.bl s) := by
  have e : (("is_signed" : Str) == ("bits" : Str)) = false := by decide +kernel
  unfold kf; simp [List.lookup, e]
/-- the values of a kind, wrapping -/
def loK (w : Nat) (s : Bool) : Int := if s = true then -(2 ^ (w - 1)) else 0
def hiK (w : Nat) (s : Bool) : Int := loK w s + 2 ^ w - 1
def wr (w : Nat) (s : Bool) (n : Int) : Int := loK w s + (n - loK w s) % 2 ^ w
theorem p2 (w : Nat) : (0 : Int) < 2 ^ w := Int.pow_pos (by decide)
theorem p2s {w : Nat} (h : 1 ≤ w) : (2 : Int) ^ w = 2 * 2 ^ (w - 1) := by
  obtain ⟨k, rfl⟩ : ∃ k, w = k + 1 := ⟨w - 1, by omega⟩
  rw [Nat.add_sub_cancel, Int.pow_succ, Int.mul_comm]
theorem wr_lo (w : Nat) (s : Bool) (n : Int) : loK w s ≤ wr w s n := by
  have := Int.emod_nonneg (n - loK w s) (show (2 : Int) ^ w ≠ 0 from Int.ne_of_gt (p2 w))
  unfold wr; omega
theorem wr_hi (w : Nat) (s : Bool) (n : Int) : wr w s n ≤ hiK w s := by
  have := Int.emod_lt_of_pos (n - loK w s) (p2 w)
  unfold wr hiK; omega
theorem wr_id {w : Nat} {s : Bool} {n : Int} (h1 : loK w s ≤ n) (h2 : n ≤ hiK w s) : wr w s n = n := by
  unfold wr
  rw [Int.emod_eq_of_lt (by omega) (by unfold hiK at h2; omega)]
  omega
/-- what the law takes for the same -/
def pl (w : Nat) (s : Bool) (n : Int) : Int := if s = true ∧ 2 ^ (w - 1) ≤ n % 2 ^ w then n % 2 ^ w - 2 ^ w else n % 2 ^ w
theorem pl_wr {w : Nat} (hw : 1 ≤ w) (s : Bool) (n : Int) : pl w s n = wr w s n := by
  have hp := p2 (w - 1)
  have e := p2s hw
  have h0 := Int.emod_nonneg n (show (2 : Int) ^ w ≠ 0 from Int.ne_of_gt (p2 w))
  have h1 := Int.emod_lt_of_pos n (p2 w)
  cases s with
  | false =>
    have hl : loK w false = 0 := by unfold loK; rw [if_neg Bool.false_ne_true]
    unfold pl wr
    rw [if_neg (by intro z; exact Bool.false_ne_true z.1), hl, Int.sub_zero, Int.zero_add]
  | true =>
    have hl : loK w true = -(2 ^ (w - 1)) := by unfold loK; rw [if_pos rfl]
    unfold pl wr
    rw [hl]
    have ed : n % 2 ^ w = n - 2 ^ w * (n / 2 ^ w) := Int.emod_def n _
    by_cases c : 2 ^ (w - 1) ≤ n % 2 ^ w
    · rw [if_pos ⟨rfl, c⟩]
      have q : (n - -(2 ^ (w - 1))) % 2 ^ w = n % 2 ^ w - 2 ^ (w - 1) := by
        have z : n - -(2 ^ (w - 1)) = (n % 2 ^ w - 2 ^ (w - 1)) + 2 ^ w * (n / 2 ^ w + 1) := by
          rw [Int.mul_add, Int.mul_one]; omega
        rw [z, Int.add_mul_emod_self_left, Int.emod_eq_of_lt (by omega) (by omega)]
      rw [q]; omega
    · rw [if_neg (fun z => c z.2)]
      have q : (n - -(2 ^ (w - 1))) % 2 ^ w = n % 2 ^ w + 2 ^ (w - 1) := by
        have z : n - -(2 ^ (w - 1)) = (n % 2 ^ w + 2 ^ (w - 1)) + 2 ^ w * (n / 2 ^ w) := by omega
        rw [z, Int.add_mul_emod_self_left, Int.emod_eq_of_lt (by omega) (by omega)]
      rw [q]; omega
/-- all but p as it was -/
def Kp (p : Addr) (H H' : Hp) : Prop := ∀ q o, q ≠ p → H q = some o → H' q = some o
theorem Kp.refl (p : Addr) (H : Hp) : Kp p H H := fun _ _ _ h => h
theorem Kp.trans {p : Addr} {H H1 H2 : Hp} (a : Kp p H H1) (b : Kp p H1 H2) : Kp p H H2 := fun q o n h => b q o n (a q o n h)
theorem Kp.upd {p : Addr} {H H1 : Hp} {o : HO} (a : Kp p H H1) : Kp p H (upd H1 p o) := fun q u n h => by rw [upd_ne n]; exact a q u n h
theorem Kp.new {p r : Addr} {H H1 : Hp} {o : HO} (a : Kp p H H1) (h : H1 r = none) : Kp p H (L2.upd H1 r o) := fun q u n e => by
  have z := a q u n e
  rw [upd_ne (ne_of_none z h)]; exact z
theorem Kp.of_same {p : Addr} {H H' : Hp} (a : Same H H') : Kp p H H' := fun q o _ h => a q o h
theorem sm_new {H H1 : Hp} {r : Addr} {o : HO} (a : Same H H1) (h : H1 r = none) : Same H (L2.upd H1 r o) := fun q u e => by
  have z := a q u e
  rw [upd_ne (ne_of_none z h)]; exact z
theorem Kp.free {p r : Addr} {H H' : Hp} (a : Kp p H H') (hr : r ≠ p) (h : H' r = none) : H r = none := by
  cases q : H r with
  | none => rfl
  | some o => rw [a r o hr q] at h; cases h
theorem same_free {H H' : Hp} {r : Addr} (a : Same H H') (h : H' r = none) : H r = none := a.free h
/-- a source of draws -/
def SrcAt (H : Hp) (p : Addr) : Prop := ∃ a b c : Int, H p = some (.lst [.int a, .int b, .int c])
theorem SrcAt.same {H H' : Hp} {p : Addr} (h : SrcAt H p) (s : Same H H') : SrcAt H' p := by
  obtain ⟨a, b, c, e⟩ := h
  exact ⟨a, b, c, s _ _ e⟩
theorem kp_mut {p D : Addr} {H H' : Hp} {o : HO} (a : Kp p H H') (h : H D = none) : Kp p H (L2.upd H' D o) := fun q u n e => by
  rw [upd_ne (ne_of_none e h)]; exact a q u n e
theorem SrcAt.mut {H : Hp} {p D : Addr} {o : HO} (h : SrcAt H p) (n : D ≠ p) : SrcAt (L2.upd H D o) p := by
  obtain ⟨a, b, c, e⟩ := h
  exact ⟨a, b, c, by rw [upd_ne (Ne.symm n)]; exact e⟩
theorem SrcAt.ne {H : Hp} {p q : Addr} (h : SrcAt H p) (n : H q = none) : q ≠ p := by
  obtain ⟨a, b, c, e⟩ := h
  exact (ne_of_none e n).symm
theorem b9 {m : Int} (h : m.natAbs < 2 ^ 200) : m.natAbs < 2 ^ 8999 := Nat.lt_trans h (Nat.pow_lt_pow_right (by decide) (by decide))
theorem SrcAt.new {H : Hp} {p r : Addr} {o : HO} (h : SrcAt H p) (n : H r = none) : SrcAt (L2.upd H r o) p := h.same (sm_new (Same.refl H) n)
theorem Kd.same {C : Addr} {H H' : Hp} {p : Addr} {w : Nat} {s : Bool} (h : Kd C H p w s) (e : Same H H') : Kd C H' p w s := by
  obtain ⟨⟨dx, q⟩, a, b⟩ := h
  exact ⟨⟨dx, e _ _ q⟩, a, b⟩
theorem Kd.kp {C : Addr} {H H' : Hp} {p r : Addr} {w : Nat} {s : Bool} (h : Kd C H p w s) (hr : SrcAt H r) (e : Kp r H H') : Kd C H' p w s := by
  obtain ⟨⟨dx, q⟩, a, b⟩ := h
  obtain ⟨_, _, _, z⟩ := hr
  exact ⟨⟨dx, e _ _ (ne_of q z (by intro y; cases y)) q⟩, a, b⟩
/-- how a value that is asked for whether it is an integer looks -/
def IntQ (K : PySem.W.Frag) (H : Hp) (v : V) (b : Bool) : Prop := ∃ t : String, TyX K H v (.type t) ∧ kitB t "int" = some (b || t == "bool") ∧ (b = true ∨ t = "bool" → True) ∧ (∃ c, kitB t "bool" = some c ∧ ((b || t == "bool") && !c) = b)
theorem IntQ.int {K : PySem.W.Frag} {H : Hp} (i : Int) : IntQ K H (.int i) true := ⟨"int", .base (.int i), by decide +kernel, fun _ => trivial, false, by decide +kernel, rfl⟩
theorem IntQ.bl {K : PySem.W.Frag} {H : Hp} (i : Bool) : IntQ K H (.bl i) false := ⟨"bool", .base (.bl i), by decide +kernel, fun _ => trivial, true, by decide +kernel, rfl⟩
theorem IntQ.non {K : PySem.W.Frag} {H : Hp} : IntQ K H .non false := ⟨"NoneType", .base .non, by decide +kernel, fun _ => trivial, false, by decide +kernel, rfl⟩
theorem IntQ.str {K : PySem.W.Frag} {H : Hp} (z : Str) : IntQ K H (.str z) false := ⟨"str", .base (.str z), by decide +kernel, fun _ => trivial, false, by decide +kernel, rfl⟩
theorem IntQ.lst {K : PySem.W.Frag} {H : Hp} {a : Addr} {xs : List V} (h : H a = some (.lst xs)) : IntQ K H (.ref a) false := ⟨"list", .base (.lst h), by decide +kernel, fun _ => trivial, false, by decide +kernel, rfl⟩
theorem IntQ.tup {K : PySem.W.Frag} {H : Hp} {a : Addr} {xs : List V} (h : H a = some (.tup xs)) : IntQ K H (.ref a) false := ⟨"tuple", .base (.tup h), by decide +kernel, fun _ => trivial, false, by decide +kernel, rfl⟩
theorem IntQ.dK {K : PySem.W.Frag} {H : Hp} {a : Addr} {xs : List (Key × V)} (h : H a = some (.dK xs)) : IntQ K H (.ref a) false := ⟨"dict", .base (.dK h), by decide +kernel, fun _ => trivial, false, by decide +kernel, rfl⟩
/-- a row of kinds' parts: a list at D of tuples -/
structure RowAt (H : Hp) (p D : Addr) (rs : List (Addr × Nat × Bool)) : Prop where
  lst : H D = some (.lst (rs.map fun r => V.ref r.1))
  nD : D ≠ p
  tup : ∀ r ∈ rs, H r.1 = some (.tup [.int (r.2.1 : Int), .bl r.2.2]) ∧ r.1 ≠ p ∧ 1 ≤ r.2.1 ∧ r.2.1 ≤ 128
theorem RowAt.kp {H H' : Hp} {p D : Addr} {rs : List (Addr × Nat × Bool)} (h : RowAt H p D rs) (e : Kp p H H') : RowAt H' p D rs :=
  ⟨e _ _ h.nD h.lst, h.nD, fun r hr => ⟨e _ _ (h.tup r hr).2.1 (h.tup r hr).1, (h.tup r hr).2⟩⟩
/-- a list at E of kinds -/
structure KdsAt (C : Addr) (H : Hp) (p E : Addr) (ks : List (Addr × Nat × Bool)) : Prop where
  lst : H E = some (.lst (ks.map fun r => V.ref r.1))
  nE : E ≠ p
  kd : ∀ r ∈ ks, Kd C H r.1 r.2.1 r.2.2 ∧ r.1 ≠ p
theorem KdsAt.kp {C : Addr} {H H' : Hp} {p E : Addr} {ks : List (Addr × Nat × Bool)} (h : KdsAt C H p E ks) (e : Kp p H H') : KdsAt C H' p E ks :=
  ⟨e _ _ h.nE h.lst, h.nE, fun r hr => by
    obtain ⟨⟨⟨dx, q⟩, a, b⟩, n⟩ := h.kd r hr
    exact ⟨⟨⟨dx, e _ _ n q⟩, a, b⟩, n⟩⟩
def wrs (ks : List (Addr × Nat × Bool)) (n : Int) : Int := ks.foldl (fun n k => wr k.2.1 k.2.2 n) n
theorem wrs_eq : ∀ {ks rs : List (Addr × Nat × Bool)} (_ : ks.map (·.2) = rs.map (·.2)) (n : Int), wrs ks n = wrs rs n
  | [], [], _, _ => rfl
  | [], _ :: _, h, _ => by simp at h
  | _ :: _, [], h, _ => by simp at h
  | k :: ks, r :: rs, h, n => by
    rw [List.map_cons, List.map_cons, List.cons.injEq] at h
    show wrs ks (wr k.2.1 k.2.2 n) = wrs rs (wr r.2.1 r.2.2 n)
    rw [h.1]
    exact wrs_eq h.2 _
theorem wrs_more (ks : List (Addr × Nat × Bool)) (r : Addr × Nat × Bool) (n : Int) : wrs (ks ++ [r]) n = wr r.2.1 r.2.2 (wrs ks n) := by
  unfold wrs; rw [List.foldl_append]; rfl

/-! ### lines -/
def BB (n : Int) : Prop := n.natAbs < 2 ^ 300
def SD (n : Int) : Prop := -(10 ^ 60) < n ∧ n < 10 ^ 60
theorem SD.bb {n : Int} (h : SD n) : BB n := by
  obtain ⟨a, b⟩ := h
  unfold BB
  exact Nat.lt_trans (show n.natAbs < 10 ^ 60 by omega) (by decide +kernel)
theorem bbk {wd : Nat} {s : Bool} (h : wd ≤ 128) {n : Int} (h1 : loK wd s ≤ n) (h2 : n ≤ hiK wd s) : BB n := by
  have e : (2 : Int) ^ wd ≤ 2 ^ 128 := by
    have := Nat.pow_le_pow_right (n := 2) (by decide) h
    exact_mod_cast this
  have e1 : (2 : Int) ^ (wd - 1) ≤ 2 ^ 128 := by
    have := Nat.pow_le_pow_right (n := 2) (by decide) (show wd - 1 ≤ 128 by omega)
    exact_mod_cast this
  have p1 := p2 (wd - 1)
  have l0 : -(2 ^ 128) ≤ loK wd s ∧ loK wd s ≤ 0 := by unfold loK; split <;> omega
  have hh : hiK wd s ≤ 2 ^ 128 := by unfold hiK; omega
  unfold BB
  exact Nat.lt_of_le_of_lt (show n.natAbs ≤ 2 ^ 128 by omega) (by decide +kernel)
theorem bb_pow {wd : Nat} (h : wd ≤ 128) : BB (2 ^ wd) := by
  unfold BB
  rw [Int.natAbs_pow]
  exact Nat.pow_lt_pow_right (by decide) (by show wd < 300; omega)
/-- all but the source stays, the tables are told -/
def Kq (TS : List (Addr × Str)) (p : Addr) (H H' : Hp) : Prop := (∀ q o, q ≠ p → H q = some o → (∀ ps, o ≠ .tbl ps) → H' q = some o) ∧ (LamX.Tabs TS H → LamX.Tabs TS H')
section
variable {TS : List (Addr × Str)} {p : Addr} {H H1 H2 : Hp}
theorem Kq.refl (H : Hp) : Kq TS p H H := ⟨fun _ _ _ h _ => h, fun h => h⟩
theorem Kq.trans (a : Kq TS p H H1) (b : Kq TS p H1 H2) : Kq TS p H H2 := ⟨fun q o n h t => b.1 q o n (a.1 q o n h t) t, fun h => b.2 (a.2 h)⟩
theorem Kq.of (a : Sm TS H H1) : Kq TS p H H1 := ⟨fun q o _ h t => a.1 q o h t, a.2⟩
theorem Kp.toQ (a : Kp p H H1) (hl : ∃ xs, H p = some (.lst xs)) : Kq TS p H H1 := by
  obtain ⟨xs, hp⟩ := hl
  refine ⟨fun q o n h _ => a q o n h, fun t b hb => ?_⟩
  obtain ⟨ps, a1, a2, a3⟩ := t b hb
  refine ⟨ps, a _ _ (ne_of a1 hp (by intro z; cases z)) a1, a2, fun pos cv e => ?_⟩
  obtain ⟨c, e1, e2⟩ := a3 pos cv e
  exact ⟨c, e1, a _ _ (ne_of e2 hp (by unfold LamX.CodeO; intro z; cases z)) e2⟩
theorem Kq.at {a : Addr} {o : HO} (s : Kq TS p H H1) (n : a ≠ p) (h : H a = some o) (t : ∀ ps, o ≠ .tbl ps := by intro ps z; cases z) : H1 a = some o := s.1 a o n h t
theorem Kq.free {r : Addr} {xs : List V} (s : Kq TS p H H1) (hp : H1 p = some (.lst xs)) (t : ∀ ps, H r ≠ some (.tbl ps)) (h : H1 r = none) : H r = none := by
  cases q : H r with
  | none => rfl
  | some o =>
    by_cases e : r = p
    · rw [e, hp] at h; cases h
    · rw [s.1 r o e q (fun ps z => t ps (by rw [q, z]))] at h; cases h
end
/-- a source of draws, after at most n of them -/
def SrcN (n : Nat) (H : Hp) (p : Addr) : Prop := ∃ a b c : Int, H p = some (.lst [.int a, .int b, .int c]) ∧ 0 ≤ b ∧ b < 2147483648 ∧ 0 ≤ c ∧ c ≤ n
section
variable {TS : List (Addr × Str)} {p : Addr} {H H1 : Hp} {n m : Nat}
theorem SrcN.lst (h : SrcN n H p) : ∃ xs, H p = some (.lst xs) := by
  obtain ⟨a, b, c, e, _⟩ := h
  exact ⟨_, e⟩
theorem SrcN.le (h : SrcN n H p) (k : n ≤ m) : SrcN m H p := by
  obtain ⟨a, b, c, e, h1, h2, h3, h4⟩ := h
  exact ⟨a, b, c, e, h1, h2, h3, by omega⟩
theorem SrcN.sm (h : SrcN n H p) (s : Sm TS H H1) : SrcN n H1 p := by
  obtain ⟨a, b, c, e, r⟩ := h
  exact ⟨a, b, c, s.at e, r⟩
theorem SrcN.same (h : SrcN n H p) (s : Same H H1) : SrcN n H1 p := by
  obtain ⟨a, b, c, e, r⟩ := h
  exact ⟨a, b, c, s _ _ e, r⟩
theorem SrcN.new {r : Addr} {o : HO} (h : SrcN n H p) (k : H r = none) : SrcN n (upd H r o) p := h.same (sm_new (Same.refl H) k)
theorem SrcN.ne {q : Addr} (h : SrcN n H p) (k : H q = none) : q ≠ p := by
  obtain ⟨_, e⟩ := h.lst
  exact (ne_of_none e k).symm
theorem SrcN.mut {r : Addr} {o : HO} (h : SrcN n H p) (k : r ≠ p) : SrcN n (upd H r o) p := by
  obtain ⟨a, b, c, e, rest⟩ := h
  exact ⟨a, b, c, by rw [upd_ne k.symm]; exact e, rest⟩
theorem SrcN.ne_of {q : Addr} {o : HO} (h : SrcN n H p) (k : H q = some o) (t : ∀ xs, o ≠ .lst xs := by intro xs z; cases z) : q ≠ p := by
  obtain ⟨xs, e⟩ := h.lst
  exact L2.ne_of k e (t xs)
end
/-- the x whose result is from lo to hi -/
def rsP (wd : Nat) (a b lo hi : Int) : Int → Bool := fun x => inR (2 ^ wd) lo hi (a * x + b)
theorem rsP_wr {wd : Nat} {s : Bool} {a b lo hi x : Int} (h1 : loK wd s ≤ lo) (h2 : hi ≤ hiK wd s) : rsP wd a b lo hi x = decide (lo ≤ wr wd s (a * x + b) ∧ wr wd s (a * x + b) ≤ hi) := by
  have hp := p2 wd
  have a1 := wr_lo wd s (a * x + b)
  have a2 := wr_hi wd s (a * x + b)
  have em : ∃ q, a * x + b = wr wd s (a * x + b) + 2 ^ wd * q := by
    refine ⟨(a * x + b - loK wd s) / 2 ^ wd, ?_⟩
    have := Int.emod_add_mul_ediv (a * x + b - loK wd s) (2 ^ wd)
    unfold wr; omega
  obtain ⟨q, e⟩ := em
  generalize wr wd s (a * x + b) = y at a1 a2 e ⊢
  unfold rsP inR
  rw [e]
  unfold hiK at *
  by_cases c2 : lo ≤ hi
  · by_cases c : lo ≤ y
    · have z : (y + 2 ^ wd * q - lo) % 2 ^ wd = y - lo := by
        rw [show y + 2 ^ wd * q - lo = (y - lo) + 2 ^ wd * q by omega, Int.add_mul_emod_self_left, Int.emod_eq_of_lt (by omega) (by omega)]
      rw [z]
      by_cases c3 : y ≤ hi
      · rw [decide_eq_true ⟨c2, by omega⟩, decide_eq_true ⟨c, c3⟩]
      · rw [decide_eq_false fun z => by omega, decide_eq_false fun z => c3 z.2]
    · have z : (y + 2 ^ wd * q - lo) % 2 ^ wd = y - lo + 2 ^ wd := by
        rw [show y + 2 ^ wd * q - lo = (y - lo + 2 ^ wd) + 2 ^ wd * (q - 1) by rw [Int.mul_sub, Int.mul_one]; omega, Int.add_mul_emod_self_left, Int.emod_eq_of_lt (by omega) (by omega)]
      rw [z, decide_eq_false fun z => by omega, decide_eq_false fun z => c z.1]
  · rw [decide_eq_false fun z => c2 z.1, decide_eq_false fun z => by omega]
def FirstOf (p : Int → Bool) (f l : Int) (v : V) : Prop := (v = .non ∧ tot p f l = 0) ∨ ∃ x, v = .int x ∧ f ≤ x ∧ x ≤ l ∧ p x = true ∧ tot p f (x - 1) = 0
def LastOf (p : Int → Bool) (f l : Int) (v : V) : Prop := (v = .non ∧ tot p f l = 0) ∨ ∃ x, v = .int x ∧ f ≤ x ∧ x ≤ l ∧ p x = true ∧ tot p (x + 1) l = 0
def AtOf (p : Int → Bool) (f l j x : Int) : Prop := f ≤ x ∧ x ≤ l ∧ p x = true ∧ tot p f (x - 1) = j
def spP_ (TS : List (Addr × Str)) (H : Hp) (P : Int → Bool) (first last : Int) : Sp := fun vs H' Q _ => ∃ e : Int, vs = [.int e] ∧ first ≤ e ∧ e < last ∧ Sm TS H H' ∧ ∀ H'', Sm TS H' H'' → Q (.bl (P e)) H''
def spT_ (TS : List (Addr × Str)) (H : Hp) (p : Int → Bool) (first last : Int) : Sp := fun vs H' Q _ => ∃ e : Int, vs = [.int e] ∧ (e = last ∨ (first ≤ e ∧ e ≤ last)) ∧ Sm TS H H' ∧ ∀ H'', Sm TS H' H'' → Q (.int (tot p first e)) H''

theorem Kd.sm {C : Addr} {TS : List (Addr × Str)} {H H' : Hp} {p : Addr} {w : Nat} {s : Bool} (h : Kd C H p w s) (e : Sm TS H H') : Kd C H' p w s := by
  obtain ⟨⟨dx, q⟩, a, b⟩ := h
  exact ⟨⟨dx, e.at q⟩, a, b⟩
theorem Kd.kq {C : Addr} {TS : List (Addr × Str)} {H H' : Hp} {p r : Addr} {w : Nat} {s : Bool} (h : Kd C H p w s) (n : p ≠ r) (e : Kq TS r H H') : Kd C H' p w s := by
  obtain ⟨⟨dx, q⟩, a, b⟩ := h
  exact ⟨⟨dx, e.at n q⟩, a, b⟩

theorem loK_hi (w : Nat) (s : Bool) : hiK w s = loK w s + 2 ^ w - 1 := rfl
theorem loK_b {wd : Nat} {s : Bool} (h : wd ≤ 128) : -(2 ^ 128) ≤ loK wd s ∧ loK wd s ≤ 0 ∧ hiK wd s ≤ 2 ^ 128 ∧ 0 ≤ hiK wd s + 1 ∧ (2 : Int) ^ wd ≤ 2 ^ 128 := by
  have e : (2 : Int) ^ wd ≤ 2 ^ 128 := by
    have := Nat.pow_le_pow_right (n := 2) (by decide) h
    exact_mod_cast this
  have e1 : (2 : Int) ^ (wd - 1) ≤ 2 ^ 128 := by
    have := Nat.pow_le_pow_right (n := 2) (by decide) (show wd - 1 ≤ 128 by omega)
    exact_mod_cast this
  have p1 := p2 (wd - 1)
  have p0 := p2 wd
  have e3 : (2 : Int) ^ (wd - 1) ≤ 2 ^ wd := by
    have := Nat.pow_le_pow_right (n := 2) (by decide) (show wd - 1 ≤ wd by omega)
    exact_mod_cast this
  cases s with
  | false =>
    have l : loK wd false = 0 := by unfold loK; rw [if_neg Bool.false_ne_true]
    refine ⟨by omega, by omega, by unfold hiK; omega, by unfold hiK; omega, e⟩
  | true =>
    have l : loK wd true = -(2 ^ (wd - 1)) := by unfold loK; rw [if_pos rfl]
    refine ⟨by omega, by omega, by unfold hiK; omega, by unfold hiK; omega, e⟩
theorem bb_of {n : Int} (h1 : -(2 ^ 299) ≤ n) (h2 : n ≤ 2 ^ 299) : BB n := by
  unfold BB
  exact Nat.lt_of_le_of_lt (show n.natAbs ≤ 2 ^ 299 by omega) (by decide +kernel)
theorem p128 : (2 : Int) ^ 128 < 2 ^ 290 := by decide +kernel
theorem p290 : (2 : Int) ^ 290 * 8 ≤ 2 ^ 299 := by decide +kernel
theorem wr_q (w : Nat) (s : Bool) (n : Int) : wr w s n = n - 2 ^ w * ((n - loK w s) / 2 ^ w) := by
  have := Int.emod_add_mul_ediv (n - loK w s) (2 ^ w)
  unfold wr; omega
theorem wr_in {w : Nat} {s : Bool} {n k : Int} (h1 : loK w s + 2 ^ w * k ≤ n) (h2 : n ≤ hiK w s + 2 ^ w * k) : wr w s n = n - 2 ^ w * k := by
  unfold hiK at h2
  have e : n - loK w s = (n - loK w s - 2 ^ w * k) + 2 ^ w * k := by omega
  unfold wr
  rw [e, Int.add_mul_emod_self_left, Int.emod_eq_of_lt (by omega) (by omega)]
  omega
theorem wr_add (w : Nat) (s : Bool) (n a : Int) : wr w s (n + a) = if wr w s n + a % 2 ^ w ≤ hiK w s then wr w s n + a % 2 ^ w else wr w s n + a % 2 ^ w - 2 ^ w := by
  have hp := p2 w
  have e1 := wr_q w s n
  have e2 := Int.emod_add_mul_ediv a (2 ^ w)
  have a0 := Int.emod_nonneg a (Int.ne_of_gt hp)
  have a1 := Int.emod_lt_of_pos a hp
  have w0 := wr_lo w s n
  have w1 := wr_hi w s n
  generalize (n - loK w s) / 2 ^ w = q at e1
  generalize a / 2 ^ w = r at e2
  generalize a % 2 ^ w = c at *
  by_cases z : wr w s n + c ≤ hiK w s
  · rw [if_pos z]
    have := wr_in (w := w) (s := s) (n := n + a) (k := q + r) (by rw [Int.mul_add]; omega) (by rw [Int.mul_add]; omega)
    rw [this, Int.mul_add]; omega
  · rw [if_neg z]
    have := wr_in (w := w) (s := s) (n := n + a) (k := q + r + 1) (by rw [Int.mul_add, Int.mul_add]; unfold hiK at z; omega) (by rw [Int.mul_add, Int.mul_add]; unfold hiK at *; omega)
    rw [this, Int.mul_add, Int.mul_add]; omega
/-- the descents -/
def dsP (wd : Nat) (s : Bool) (a b : Int) : Int → Bool := fun x => decide (wr wd s (a * (x + 1) + b) < wr wd s (a * x + b))
theorem dsP_rs (wd : Nat) (s : Bool) (a b x : Int) : rsP wd a b (hiK wd s + 1 - a % 2 ^ wd) (hiK wd s) x = dsP wd s a b x := by
  have hp := p2 wd
  have a0 := Int.emod_nonneg a (Int.ne_of_gt hp)
  have a1 := Int.emod_lt_of_pos a hp
  have w0 := wr_lo wd s (a * x + b)
  have w1 := wr_hi wd s (a * x + b)
  rw [rsP_wr (s := s) (by unfold hiK; omega) (Int.le_refl _)]
  unfold dsP
  rw [show a * (x + 1) + b = (a * x + b) + a by rw [Int.mul_add]; omega, wr_add wd s (a * x + b) a]
  by_cases z : wr wd s (a * x + b) + a % 2 ^ wd ≤ hiK wd s
  · rw [if_pos z, decide_eq_false fun y => by omega, decide_eq_false fun y => by omega]
  · rw [if_neg z, decide_eq_true (show _ ∧ _ from ⟨by omega, w1⟩), decide_eq_true (by omega)]
theorem mk_same {H H1 : Hp} {kx dx : Addr} {o1 o2 : HO} (nx : H kx = none) (ndx : H dx = none) (kp : Kp kx (upd (upd H dx o1) kx o2) H1) : Same H H1 := fun b o e => kp b o (ne_of_none e nx) (by rw [upd_ne (ne_of_none e nx), upd_ne (ne_of_none e ndx)]; exact e)
section
variable {TS : List (Addr × Str)} {p : Addr} {H H1 H2 : Hp}
theorem Kq.new {r : Addr} {o : HO} (s : Kq TS p H H1) (h : H1 r = none) : Kq TS p H (upd H1 r o) := s.trans (.of ((Sm.refl H1).new h))
theorem Kq.same (s : Kq TS p H H1) (h : Same H1 H2) : Kq TS p H H2 := s.trans (.of (Sm.of h))
theorem Kq.sm (s : Kq TS p H H1) (h : Sm TS H1 H2) : Kq TS p H H2 := s.trans (.of h)
/-- p is new: the change of p is no change to what was there -/
theorem Kq.mut {r : Addr} {o u : HO} (s : Kq TS p H H1) (hn : H r = none) (h : H1 r = some u) (hu : ∀ ps, u ≠ .tbl ps := by intro ps z; cases z) (hc : ∀ c q, u ≠ LamX.CodeO c q := by intro c q z; cases z) : Kq TS p H (upd H1 r o) := by
  refine ⟨fun q w n e t => ?_, fun t b hb => ?_⟩
  · rw [upd_ne (ne_of_none e hn)]
    exact s.1 q w n e t
  · obtain ⟨ps, a1, a2, a3⟩ := s.2 t b hb
    refine ⟨ps, by rw [upd_ne (fun z => by rw [z, h] at a1; cases a1; exact hu ps rfl)]; exact a1, a2, fun pos cv e => ?_⟩
    obtain ⟨c, e1, e2⟩ := a3 pos cv e
    exact ⟨c, e1, by rw [upd_ne (fun z => by rw [z, h] at e2; exact hc _ _ (Option.some.inj e2))]; exact e2⟩
theorem Kq.out {H3 : Hp} (a : Sm TS H H1) (n : H1 p = none) (b : Sm TS H1 H2) (s : Kq TS p H2 H3) : Sm TS H H3 := ⟨fun q o e t => s.1 q o (ne_of_none (a.1 q o e t) n) (b.1 q o (a.1 q o e t) t) t, fun h => s.2 (b.2 (a.2 h))⟩
end

theorem b28 {n : Int} (h : BB n) : n.natAbs < 2 ^ 2800 := Nat.lt_of_lt_of_le h (Nat.pow_le_pow_right (by decide) (by decide))
theorem b89 {n : Int} (h : BB n) : n.natAbs < 2 ^ 8999 := Nat.lt_of_lt_of_le h (Nat.pow_le_pow_right (by decide) (by decide))
theorem bb_sm {n : Int} (h1 : -(2 ^ 64) ≤ n) (h2 : n ≤ 2 ^ 64) : BB n := by
  have : (2 : Int) ^ 64 ≤ 2 ^ 299 := by decide +kernel
  exact bb_of (by omega) (by omega)
theorem bb_ten {n : Int} (h1 : -(10 ^ 62) ≤ n) (h2 : n ≤ 10 ^ 62) : BB n := by
  have : (10 : Int) ^ 62 ≤ 2 ^ 299 := by decide +kernel
  exact bb_of (by omega) (by omega)
theorem SD.of {n : Int} (h1 : -(10 ^ 60) < n) (h2 : n < 10 ^ 60) : SD n := ⟨h1, h2⟩
theorem eqv_rfl {d : PyData} (h : d.canLay0 = true) : PyData.eqv d d = true := PySem.SeqAt.eqv_refl d h

theorem lo_val {wd : Nat} (h : 1 ≤ wd) (s : Bool) : 0 - 2 ^ wd / 2 * (if s = true then (1 : Int) else 0) = loK wd s := by
  have e := p2s h
  have hp := p2 (wd - 1)
  cases s with
  | false =>
    unfold loK
    rw [if_neg Bool.false_ne_true, if_neg Bool.false_ne_true]; omega
  | true =>
    unfold loK
    rw [if_pos rfl, if_pos rfl]; omega

theorem lay_ints : ∀ is : List Int, PyData.canLayAll0 (is.map PyData.int) = true
  | [] => rfl
  | x :: r => by
    rw [List.map_cons, PyData.canLayAll0, lay_ints r]; rfl
theorem depth_ints : ∀ is : List Int, PyData.depthAll (is.map PyData.int) = 0
  | [] => by simp only [List.map_nil, PyData.depthAll]
  | x :: r => by
    rw [List.map_cons, PyData.depthAll, depth_ints r]; simp [PyData.depth]
theorem eqv_ints : ∀ is js : List Int, PyData.eqvAll (is.map PyData.int) (js.map PyData.int) = decide (is = js)
  | [], [] => by simp [PyData.eqvAll]
  | [], _ :: _ => by simp [PyData.eqvAll]
  | _ :: _, [] => by simp [PyData.eqvAll]
  | x :: xs, y :: ys => by
    rw [List.map_cons, List.map_cons, PyData.eqvAll, eqv_ints xs ys, show PyData.eqv (.int x) (.int y) = decide (x = y) from by simp only [PyData.eqv]; rfl, ← Bool.decide_and]
    exact decide_eq_decide.mpr (by rw [List.cons.injEq])
theorem shaped_ints (is : List Int) : SeqAt.shaped (.list (is.map PyData.int)) = true := by
  unfold SeqAt.shaped
  rw [show PyData.canLay0 (.list (is.map PyData.int)) = PyData.canLayAll0 (is.map PyData.int) from by simp only [PyData.canLay0], lay_ints, show PyData.depth (.list (is.map PyData.int)) = PyData.depthAll (is.map PyData.int) + 1 from by simp only [PyData.depth], depth_ints]
  rfl
theorem dp_ints {K : PySem.W.Frag} {H : Hp} : ∀ is : List Int, DpAll K H (is.map V.int) (is.map PyData.int)
  | [] => .nil
  | x :: r => .cons (.int x) (dp_ints r)

/-! ### walks, as objects -/
def wkf (w : Wk) : List (Str × V) := [("size", .int w.s), ("step", .int w.t), ("marks", .int w.m), ("each", .int w.e), ("marked", .int w.k), ("around", .int w.r)]
def Wd (C : Addr) (H : Hp) (p : Addr) (w : Wk) : Prop := ∃ dx, H p = some (.ins C dx (wkf w))
theorem Wd.same {C : Addr} {H H' : Hp} {p : Addr} {w : Wk} (h : Wd C H p w) (e : Same H H') : Wd C H' p w := by
  obtain ⟨dx, q⟩ := h
  exact ⟨dx, e _ _ q⟩
theorem wk1 (w : Wk) : (wkf w).lookup ("size" : Str) = some (.int w.s) := by unfold wkf; simp [List.lookup]
theorem wk2 (w : Wk) : (wkf w).lookup ("step" : Str) = some (.int w.t) := by
  have e : (("step" : Str) == ("size" : Str)) = false := by decide +kernel
  unfold wkf; simp [List.lookup, e]
theorem wk3 (w : Wk) : (wkf w).lookup ("marks" : Str) = some (.int w.m) := by
  have e : (("marks" : Str) == ("size" : Str)) = false := by decide +kernel
  have e2 : (("marks" : Str) == ("step" : Str)) = false := by decide +kernel
  unfold wkf; simp [List.lookup, e, e2]
theorem wk4 (w : Wk) : (wkf w).lookup ("each" : Str) = some (.int w.e) := by
  have e : (("each" : Str) == ("size" : Str)) = false := by decide +kernel
  have e2 : (("each" : Str) == ("step" : Str)) = false := by decide +kernel
  have e3 : (("each" : Str) == ("marks" : Str)) = false := by decide +kernel
  unfold wkf; simp [List.lookup, e, e2, e3]
theorem wk5 (w : Wk) : (wkf w).lookup ("marked" : Str) = some (.int w.k) := by
  have e : (("marked" : Str) == ("size" : Str)) = false := by decide +kernel
  have e2 : (("marked" : Str) == ("step" : Str)) = false := by decide +kernel
  have e3 : (("marked" : Str) == ("marks" : Str)) = false := by decide +kernel
  have e4 : (("marked" : Str) == ("each" : Str)) = false := by decide +kernel
  unfold wkf; simp [List.lookup, e, e2, e3, e4]
theorem wk6 (w : Wk) : (wkf w).lookup ("around" : Str) = some (.int w.r) := by
  have e : (("around" : Str) == ("size" : Str)) = false := by decide +kernel
  have e2 : (("around" : Str) == ("step" : Str)) = false := by decide +kernel
  have e3 : (("around" : Str) == ("marks" : Str)) = false := by decide +kernel
  have e4 : (("around" : Str) == ("each" : Str)) = false := by decide +kernel
  have e5 : (("around" : Str) == ("marked" : Str)) = false := by decide +kernel
  unfold wkf; simp [List.lookup, e, e2, e3, e4, e5]
theorem bbE {x : Int} (h1 : -(2 ^ 700) ≤ x) (h2 : x ≤ 2 ^ 700) : x.natAbs < 2 ^ 701 := by
  have e : (2 : Nat) ^ 701 = 2 * 2 ^ 700 := by rw [Nat.pow_succ, Nat.mul_comm]
  have c : ((2 ^ 700 : Nat) : Int) = (2 : Int) ^ 700 := Int.natCast_pow 2 700
  have : 0 < 2 ^ 700 := Nat.pow_pos (show 0 < 2 by decide)
  omega
theorem bb129 {x : Int} (h1 : -(2 ^ 129) ≤ x) (h2 : x ≤ 2 ^ 129) : x.natAbs < 2 ^ 130 := by
  have e : (2 : Nat) ^ 130 = 2 * 2 ^ 129 := by decide +kernel
  have c : ((2 ^ 129 : Nat) : Int) = (2 : Int) ^ 129 := Int.natCast_pow 2 129
  omega
theorem putW (w : Wk) : putF "around" (.int w.r) (putF "marked" (.int w.k) (putF "each" (.int w.e) (putF "marks" (.int w.m) (putF "step" (.int w.t) (putF "size" (.int w.s) []))))) = wkf w := by
  have f01 : ¬ ("size" : Str) = "step" := by decide +kernel
  have f02 : ¬ ("size" : Str) = "marks" := by decide +kernel
  have f12 : ¬ ("step" : Str) = "marks" := by decide +kernel
  have f03 : ¬ ("size" : Str) = "each" := by decide +kernel
  have f13 : ¬ ("step" : Str) = "each" := by decide +kernel
  have f23 : ¬ ("marks" : Str) = "each" := by decide +kernel
  have f04 : ¬ ("size" : Str) = "marked" := by decide +kernel
  have f14 : ¬ ("step" : Str) = "marked" := by decide +kernel
  have f24 : ¬ ("marks" : Str) = "marked" := by decide +kernel
  have f34 : ¬ ("each" : Str) = "marked" := by decide +kernel
  have f05 : ¬ ("size" : Str) = "around" := by decide +kernel
  have f15 : ¬ ("step" : Str) = "around" := by decide +kernel
  have f25 : ¬ ("marks" : Str) = "around" := by decide +kernel
  have f35 : ¬ ("each" : Str) = "around" := by decide +kernel
  have f45 : ¬ ("marked" : Str) = "around" := by decide +kernel
  unfold wkf
  simp only [putF, if_neg f01, if_neg f02, if_neg f12, if_neg f03, if_neg f13, if_neg f23, if_neg f04, if_neg f14, if_neg f24, if_neg f34, if_neg f05, if_neg f15, if_neg f25, if_neg f35, if_neg f45]
structure WkB (w : Wk) : Prop where
  e : w.e.natAbs < 2 ^ 701
  k : w.k.natAbs < 2 ^ 701
  r : w.r.natAbs < 2 ^ 701
  s : w.s.natAbs < 2 ^ 130
  t : w.t.natAbs < 2 ^ 130
  m : w.m.natAbs < 2 ^ 130
theorem wkb {w : Wk} (h : WF w) (b : WB w) : WkB w := by
  obtain ⟨E, e0, ee, ek, er, el, _⟩ := wb_E h b
  have s0 := h.s0
  have t0 := h.t0
  have ts := h.ts
  have m0 := h.m0
  have ms := h.ms
  have s1 := b.s1
  exact ⟨bbE (by omega) (by omega), bbE (by omega) (by omega), bbE (by omega) (by omega), bb129 (by omega) (by omega), bb129 (by omega) (by omega), bb129 (by omega) (by omega)⟩

theorem abs_min {w : Wk} {b n : Int} (n0 : 0 ≤ n) (h : n.natAbs < 2 ^ 600) : (min n (w.mst b)).natAbs < 2 ^ 600 := by
  have : 0 ≤ w.mst b := by unfold Wk.mst; omega
  omega
theorem nopW (w : Wk) {f : Str} (h : ∀ x ∈ ([("size" : Str), "step", "marks", "each", "marked", "around"] : List Str), (f == x) = false) : (wkf w).lookup f = none := by
  unfold wkf
  have h1 := h "size" (by simp)
  have h2 := h "step" (by simp)
  have h3 := h "marks" (by simp)
  have h4 := h "each" (by simp)
  have h5 := h "marked" (by simp)
  have h6 := h "around" (by simp)
  simp [List.lookup, h1, h2, h3, h4, h5, h6]
theorem nW1 (w : Wk) : (wkf w).lookup ("marked_steps" : Str) = none := nopW w (by decide +kernel)
theorem nW2 (w : Wk) : (wkf w).lookup ("cost" : Str) = none := nopW w (by decide +kernel)
theorem nW3 (w : Wk) : (wkf w).lookup ("steps_for" : Str) = none := nopW w (by decide +kernel)
theorem nW4 (w : Wk) : (wkf w).lookup ("mirrored" : Str) = none := nopW w (by decide +kernel)
theorem nW5 (w : Wk) : (wkf w).lookup ("of_laps" : Str) = none := nopW w (by decide +kernel)
theorem sum_b {a b : Int} (ha : a.natAbs < 2 ^ 701) (hb : b.natAbs < 2 ^ 701) : (a + b).natAbs < 2 ^ 702 := by
  have e : (2 : Nat) ^ 702 = 2 * 2 ^ 701 := by rw [Nat.pow_succ, Nat.mul_comm]
  omega

theorem lt_two_pow (n : Nat) {x : Int} (h0 : 0 ≤ x) (h : x < 2 ^ n) : x.natAbs < 2 ^ n := by
  have c : ((2 ^ n : Nat) : Int) = (2 : Int) ^ n := Int.natCast_pow 2 n
  omega
def Bnd (w : Wk) (p b : Int) : Prop := ∀ (N : Nat) (g : Int), hT w p b N g → N < 2 ^ 402 ∧ 0 ≤ g
structure Ent (v : Wk) (q : Int) : Prop where
  wf : WF v
  t0 : 0 < v.t
  q0 : 0 ≤ q
  q1 : q < v.t
  wb : WkB v
def Chain (W0 : Wk) (P0 J0 : Int) : List (Wk × Int × Nat × Int) → Wk → Int → Int → Prop
  | [], w, p, b => w = W0 ∧ p = P0 ∧ b = J0
  | e :: r, w, p, b => w = e.1.laps ∧ p = e.2.1 ∧ b = e.2.2.2 ∧ Ent e.1 e.2.1 ∧ ∃ w' p' b', Chain W0 P0 J0 r w' p' b' ∧ Bnd w' p' b' ∧ ∀ (X : Nat) (g : Int), hT e.1 e.2.1 e.2.2.2 X g → e.2.2.1 ≤ X ∧ hT w' p' b' (X - e.2.2.1) g
def RowE (C : Addr) (H : Hp) (t : Addr) (e : Wk × Int × Nat × Int) : Prop := ∃ wa, H t = some (.tup [.ref wa, .int e.2.1, .int (e.2.2.1 : Int)]) ∧ Wd C H wa e.1
def Rows (C : Addr) (H : Hp) (D : Addr) (st : List (Wk × Int × Nat × Int)) : Prop := ∃ ts : List Addr, H D = some (.lst (ts.map V.ref)) ∧ ts.length = st.length ∧ ∀ (i : Nat) (t : Addr) (e : Wk × Int × Nat × Int), ts[i]? = some t → st.reverse[i]? = some e → RowE C H t e
theorem RowE.same {C : Addr} {H H' : Hp} {t : Addr} {e : Wk × Int × Nat × Int} (h : RowE C H t e) (s : Same H H') : RowE C H' t e := by
  obtain ⟨wa, h1, h2⟩ := h
  exact ⟨wa, s _ _ h1, h2.same s⟩
theorem Rows.same {C : Addr} {H H' : Hp} {D : Addr} {st : List (Wk × Int × Nat × Int)} (h : Rows C H D st) (s : Same H H') : Rows C H' D st := by
  obtain ⟨ts, h1, h2, h3⟩ := h
  exact ⟨ts, s _ _ h1, h2, fun i t e a b => (h3 i t e a b).same s⟩
theorem Wd.mut {C : Addr} {H : Hp} {p D : Addr} {w : Wk} {xs ys : List V} (hD : H D = some (.lst xs)) (h : Wd C H p w) : Wd C (L2.upd H D (.lst ys)) p w := by
  obtain ⟨dx, e⟩ := h
  exact ⟨dx, by rw [upd_ne (ne_of e hD (by intro z; cases z))]; exact e⟩
theorem RowE.mut {C : Addr} {H : Hp} {t D : Addr} {e : Wk × Int × Nat × Int} {xs ys : List V} (hD : H D = some (.lst xs)) (h : RowE C H t e) : RowE C (L2.upd H D (.lst ys)) t e := by
  obtain ⟨wa, h1, h2⟩ := h
  exact ⟨wa, by rw [upd_ne (ne_of h1 hD (by intro z; cases z))]; exact h1, h2.mut hD⟩
theorem Rows.push {C : Addr} {H : Hp} {D t : Addr} {st : List (Wk × Int × Nat × Int)} {e : Wk × Int × Nat × Int} {ts : List Addr} (h1 : H D = some (.lst (ts.map V.ref))) (h2 : ts.length = st.length) (h3 : ∀ (i : Nat) (t : Addr) (e : Wk × Int × Nat × Int), ts[i]? = some t → st.reverse[i]? = some e → RowE C H t e) (h : RowE C H t e) : Rows C (L2.upd H D (.lst (ts.map V.ref ++ [.ref t]))) D (e :: st) := by
  refine ⟨ts ++ [t], by rw [upd_same, List.map_append]; rfl, by rw [List.length_append, h2]; rfl, fun i t' e' a b => ?_⟩
  rw [List.reverse_cons] at b
  by_cases c : i < ts.length
  · rw [List.getElem?_append_left c] at a
    rw [List.getElem?_append_left (by rw [List.length_reverse, ← h2]; exact c)] at b
    exact (h3 i t' e' a b).mut h1
  · have z : i = ts.length := by
      have := (List.getElem?_eq_some_iff.mp a).1
      rw [List.length_append, List.length_singleton] at this
      omega
    subst z
    rw [List.getElem?_append_right (Nat.le_refl _), Nat.sub_self] at a
    rw [List.getElem?_append_right (by rw [List.length_reverse, h2]; exact Nat.le_refl _), List.length_reverse, h2, Nat.sub_self] at b
    obtain rfl : t = t' := Option.some.inj a
    obtain rfl : e = e' := Option.some.inj b
    exact h.mut h1
def plow (w : Wk) (p : Int) : Int := if w.s < 2 * w.t then w.s - 1 - p else p
theorem plow_ok {w : Wk} (h : WF w) (ht : 0 < w.t) {p : Int} (p0 : 0 ≤ p) (p1 : p < w.s) : (0 ≤ plow w p ∧ plow w p < w.low.s) ∧ (∀ N, hC w.low N (plow w p) = hC w N p) ∧ ∀ {b : Int} {n : Nat} {g : Int}, hT w.low (plow w p) b n g → hT w p b n g := by
  unfold plow Wk.low
  split
  · refine ⟨⟨by omega, by show w.s - 1 - p < w.s; omega⟩, fun N => (mir_hP h p0 p1 N).2, fun {b n g} t => mir_hT h p0 p1 t⟩
  · exact ⟨⟨p0, p1⟩, fun _ => rfl, fun t => t⟩
theorem bits130 {x : Int} (h : x.natAbs < 2 ^ 900) {y : Int} (hy : 0 < y) : CDivP x y := by
  have a := PyProof.Rows.intBits_le h
  exact divp_ok hy (by omega)

theorem hit_pos {a b lo hi S : Int} (s0 : 0 < S) (h1 : lo ≤ hi) (h2 : hi - lo < S) (f : Int) : ∀ n : Nat, hP ⟨S, a % S, hi - lo + 1, 0, 1, 0⟩ n ((a * f + b - lo) % S) = (a * (f + (n : Int)) + b - lo) % S ∧ hC ⟨S, a % S, hi - lo + 1, 0, 1, 0⟩ n ((a * f + b - lo) % S) = tot (fun x => inR S lo hi (a * x + b)) f (f + (n : Int) - 1)
  | 0 => by
    refine ⟨?_, ?_⟩
    · show (a * f + b - lo) % S = (a * (f + ((0 : Nat) : Int)) + b - lo) % S
      rw [show f + ((0 : Nat) : Int) = f by omega]
    · show (0 : Int) = _
      rw [tot_none (by omega)]
  | n + 1 => by
    obtain ⟨e1, e2⟩ := hit_pos s0 h1 h2 f n
    have r0 := Int.emod_nonneg (a * (f + (n : Int)) + b - lo) (Int.ne_of_gt s0)
    have r1 := Int.emod_lt_of_pos (a * (f + (n : Int)) + b - lo) s0
    have t0 := Int.emod_nonneg a (Int.ne_of_gt s0)
    have t1 := Int.emod_lt_of_pos a s0
    have ad : (a * (f + ((n + 1 : Nat) : Int)) + b - lo) % S = ((a * (f + (n : Int)) + b - lo) % S + a % S) % S := by
      rw [← Int.add_emod]
      congr 1
      rw [show f + ((n + 1 : Nat) : Int) = (f + (n : Int)) + 1 by omega, Int.mul_add, Int.mul_one]; omega
    constructor
    · show hn S (a % S) (hP ⟨S, a % S, hi - lo + 1, 0, 1, 0⟩ n ((a * f + b - lo) % S)) = _
      rw [e1, ad]
      unfold hn
      clear e1 e2 ad
      generalize (a * (f + (n : Int)) + b - lo) % S = r at *
      generalize a % S = q at *
      split
      · have e : (r + q) % S = r + q - S := by
          have e0 : r + q = (r + q - S) + S * 1 := by omega
          rw [e0, Int.add_mul_emod_self_left, Int.emod_eq_of_lt (by omega) (by omega)]
          omega
        rw [e]
      · rw [Int.emod_eq_of_lt (by omega) (by omega)]
    · show hC ⟨S, a % S, hi - lo + 1, 0, 1, 0⟩ n ((a * f + b - lo) % S) + hc ⟨S, a % S, hi - lo + 1, 0, 1, 0⟩ (hP ⟨S, a % S, hi - lo + 1, 0, 1, 0⟩ n ((a * f + b - lo) % S)) = _
      rw [e2, e1, show f + ((n + 1 : Nat) : Int) - 1 = f + (n : Int) by omega, tot_step _ (show f ≤ f + (n : Int) by omega)]
      congr 1
      unfold hc inR
      dsimp only
      by_cases c : (a * (f + (n : Int)) + b - lo) % S < hi - lo + 1
      · rw [if_pos c, if_pos (decide_eq_true ⟨h1, by omega⟩)]; split <;> omega
      · rw [if_neg c, show decide (lo ≤ hi ∧ (a * (f + (n : Int)) + b - lo) % S ≤ hi - lo) = false from decide_eq_false (fun z => by omega), if_neg Bool.false_ne_true]; split <;> omega
theorem hit_is {a b lo hi S : Int} (s0 : 0 < S) (h1 : lo ≤ hi) (h2 : hi - lo < S) {f j g : Int} {n : Nat} (h : hT ⟨S, a % S, hi - lo + 1, 0, 1, 0⟩ ((a * f + b - lo) % S) j n g) : inR S lo hi (a * (f + (n : Int)) + b) = true ∧ tot (fun x => inR S lo hi (a * x + b)) f (f + (n : Int) - 1) = j := by
  obtain ⟨e1, e2⟩ := hit_pos (a := a) (b := b) s0 h1 h2 f n
  obtain ⟨t1, t2, t3⟩ := h
  rw [e2] at t1
  rw [e1] at t3
  unfold hc at t3
  dsimp only at t3
  by_cases c : (a * (f + (n : Int)) + b - lo) % S < hi - lo + 1
  · refine ⟨decide_eq_true ⟨h1, by omega⟩, ?_⟩
    rw [if_pos c] at t3
    split at t3 <;> omega
  · rw [if_neg c] at t3
    split at t3 <;> omega

/-! ### two lines -/
def Rel (z : Str) : Prop := z = "<" ∨ z = "<=" ∨ z = "==" ∨ z = "!=" ∨ z = ">=" ∨ z = ">"
def relB (z : Str) (y w : Int) : Bool := if z = "<" then decide (y < w) else if z = "<=" then decide (y ≤ w) else if z = "==" then decide (y = w) else if z = "!=" then !decide (y = w) else if z = ">=" then decide (w ≤ y) else decide (w < y)
theorem rel1 (y w : Int) : relB "<" y w = decide (y < w) := if_pos rfl
theorem rel2 (y w : Int) : relB "<=" y w = decide (y ≤ w) := by unfold relB; rw [if_neg (by decide +kernel), if_pos rfl]
theorem rel3 (y w : Int) : relB "==" y w = decide (y = w) := by unfold relB; rw [if_neg (by decide +kernel), if_neg (by decide +kernel), if_pos rfl]
theorem rel4 (y w : Int) : relB "!=" y w = !decide (y = w) := by unfold relB; rw [if_neg (by decide +kernel), if_neg (by decide +kernel), if_neg (by decide +kernel), if_pos rfl]
theorem rel5 (y w : Int) : relB ">=" y w = decide (w ≤ y) := by unfold relB; rw [if_neg (by decide +kernel), if_neg (by decide +kernel), if_neg (by decide +kernel), if_neg (by decide +kernel), if_pos rfl]
theorem rel6 (y w : Int) : relB ">" y w = decide (w < y) := by unfold relB; rw [if_neg (by decide +kernel), if_neg (by decide +kernel), if_neg (by decide +kernel), if_neg (by decide +kernel), if_neg (by decide +kernel)]
theorem rel_sg {z : Str} (hz : Rel z) {y w y' w' : Int} (h1 : y < w ↔ y' < w') (h2 : y = w ↔ y' = w') : relB z y w = relB z y' w' := by
  rcases hz with rfl | rfl | rfl | rfl | rfl | rfl
  · rw [rel1, rel1, decide_eq_decide.mpr h1]
  · rw [rel2, rel2]; exact decide_eq_decide.mpr (by omega)
  · rw [rel3, rel3, decide_eq_decide.mpr h2]
  · rw [rel4, rel4, decide_eq_decide.mpr h2]
  · rw [rel5, rel5]; exact decide_eq_decide.mpr (by omega)
  · rw [rel6, rel6]; exact decide_eq_decide.mpr (by omega)
/-- the x at which the results of two lines stand in a relation -/
def cmP (wd : Nat) (s : Bool) (z : Str) (a b c d : Int) : Int → Bool := fun x => relB z (wr wd s (a * x + b)) (wr wd s (c * x + d))
theorem tot_notM (p : Int → Bool) (f l : Int) : tot (fun x => !p x) f l = max 0 (l - f + 1) - tot p f l := by
  by_cases h : f ≤ l + 1
  · rw [tot_not h]
    have := tot_le p h
    omega
  · rw [tot_none (show l < f by omega), tot_none (show l < f by omega)]; omega
theorem lt_quot (wd : Nat) (s : Bool) (y v : Int) : (y - loK wd s) / 2 ^ wd - (v - loK wd s) / 2 ^ wd - (y - v) / 2 ^ wd = if relB "<" (wr wd s y) (wr wd s v) = true then 1 else 0 := by
  have hp := p2 wd
  have e1 := wr_q wd s y
  have e2 := wr_q wd s v
  have y0 := wr_lo wd s y
  have y1 := wr_hi wd s y
  have v0 := wr_lo wd s v
  have v1 := wr_hi wd s v
  unfold hiK at y1 v1
  rw [rel1]
  generalize (y - loK wd s) / 2 ^ wd = q at *
  generalize (v - loK wd s) / 2 ^ wd = r at *
  have em : 2 ^ wd * (q - r) = 2 ^ wd * q - 2 ^ wd * r := Int.mul_sub _ _ _
  have em1 : 2 ^ wd * (q - r - 1) = 2 ^ wd * q - 2 ^ wd * r - 2 ^ wd := by rw [Int.mul_sub, em, Int.mul_one]
  by_cases c : wr wd s y < wr wd s v
  · rw [if_pos (decide_eq_true c)]
    have z : (y - v) / 2 ^ wd = q - r - 1 := by
      have e : y - v = (wr wd s y - wr wd s v + 2 ^ wd) + 2 ^ wd * (q - r - 1) := by omega
      rw [e, Int.add_mul_ediv_left _ _ (Int.ne_of_gt hp), Int.ediv_eq_zero_of_lt (by omega) (by omega)]; omega
    omega
  · rw [if_neg (by rw [decide_eq_true_eq]; exact c)]
    have z : (y - v) / 2 ^ wd = q - r := by
      have e : y - v = (wr wd s y - wr wd s v) + 2 ^ wd * (q - r) := by omega
      rw [e, Int.add_mul_ediv_left _ _ (Int.ne_of_gt hp), Int.ediv_eq_zero_of_lt (by omega) (by omega)]; omega
    omega
theorem QT_lt (wd : Nat) (s : Bool) (a b c d f l : Int) : QT (a - 0) (b - loK wd s) (2 ^ wd) f l - QT (c - 0) (d - loK wd s) (2 ^ wd) f l - QT (a - c) (b - d) (2 ^ wd) f l = tot (cmP wd s "<" a b c d) f l := by
  unfold QT tot cN
  rw [← sZ_sub, ← sZ_sub]
  refine sZ_congr fun i _ => ?_
  show _ = (if relB "<" (wr wd s (a * (f + (i : Int)) + b)) (wr wd s (c * (f + (i : Int)) + d)) = true then (1 : Int) else 0)
  rw [← lt_quot, Int.sub_zero, Int.sub_zero, Int.sub_mul]
  rw [show a * (f + (i : Int)) + (b - loK wd s) = a * (f + (i : Int)) + b - loK wd s by omega, show c * (f + (i : Int)) + (d - loK wd s) = c * (f + (i : Int)) + d - loK wd s by omega, show a * (f + (i : Int)) - c * (f + (i : Int)) + (b - d) = a * (f + (i : Int)) + b - (c * (f + (i : Int)) + d) by omega]
theorem wr_eq_iff (wd : Nat) (s : Bool) (y v : Int) : wr wd s y = wr wd s v ↔ (y - v) % 2 ^ wd = 0 := by
  have hp := p2 wd
  have e1 := wr_q wd s y
  have e2 := wr_q wd s v
  have y0 := wr_lo wd s y
  have y1 := wr_hi wd s y
  have v0 := wr_lo wd s v
  have v1 := wr_hi wd s v
  unfold hiK at y1 v1
  generalize (y - loK wd s) / 2 ^ wd = q at *
  generalize (v - loK wd s) / 2 ^ wd = r at *
  have em : 2 ^ wd * (q - r) = 2 ^ wd * q - 2 ^ wd * r := Int.mul_sub _ _ _
  have em1 : 2 ^ wd * (q - r - 1) = 2 ^ wd * q - 2 ^ wd * r - 2 ^ wd := by rw [Int.mul_sub, em, Int.mul_one]
  by_cases c : wr wd s v ≤ wr wd s y
  · have e : y - v = (wr wd s y - wr wd s v) + 2 ^ wd * (q - r) := by omega
    rw [e, Int.add_mul_emod_self_left, Int.emod_eq_of_lt (by omega) (by omega)]; omega
  · have e : y - v = (wr wd s y - wr wd s v + 2 ^ wd) + 2 ^ wd * (q - r - 1) := by omega
    rw [e, Int.add_mul_emod_self_left, Int.emod_eq_of_lt (by omega) (by omega)]; omega
theorem eq_inR (wd : Nat) (s : Bool) (a b c d x : Int) : inR (2 ^ wd) 0 0 ((a - c) * x + (b - d)) = cmP wd s "==" a b c d x := by
  have hp := p2 wd
  unfold cmP inR
  rw [rel3, show (a - c) * x + (b - d) - 0 = a * x + b - (c * x + d) by rw [Int.sub_mul]; omega]
  have := Int.emod_nonneg (a * x + b - (c * x + d)) (Int.ne_of_gt hp)
  refine decide_eq_decide.mpr ?_
  rw [wr_eq_iff]; omega
theorem cm_not {z z' : Str} (h : ∀ y w, relB z' y w = !relB z y w) (wd : Nat) (s : Bool) (a b c d f l : Int) : tot (cmP wd s z' a b c d) f l = max 0 (l - f + 1) - tot (cmP wd s z a b c d) f l := by
  rw [← tot_notM]
  exact tot_congr fun x _ _ => h _ _
theorem cm_turn {z z' : Str} (h : ∀ y w, relB z' y w = relB z w y) (wd : Nat) (s : Bool) (a b c d f l : Int) : tot (cmP wd s z' a b c d) f l = tot (cmP wd s z c d a b) f l := tot_congr fun x _ _ => h _ _
theorem rn25 (y w : Int) : relB "<=" y w = !relB "<" w y := by rw [rel1, rel2, ← decide_not]; exact decide_eq_decide.mpr (by omega)
theorem rn5 (y w : Int) : relB ">=" y w = !relB "<" y w := by rw [rel1, rel5, ← decide_not]; exact decide_eq_decide.mpr (by omega)
theorem rn4 (y w : Int) : relB "!=" y w = !relB "==" y w := by rw [rel4, rel3]
theorem rn6 (y w : Int) : relB ">" y w = relB "<" w y := by rw [rel6, rel1]
/-- surprises -/
def suP (wd : Nat) (s : Bool) (z : Str) (a b c d : Int) : Int → Bool := fun x => cmP wd s z a b c d x != relB z (a * x + b) (c * x + d)
theorem su_part {wd : Nat} {s : Bool} {z : Str} {a b c d f l : Int} {e : Bool} (h : ∀ x, f ≤ x → x ≤ l → relB z (a * x + b) (c * x + d) = e) : tot (suP wd s z a b c d) f l = if e = true then max 0 (l - f + 1) - tot (cmP wd s z a b c d) f l else tot (cmP wd s z a b c d) f l := by
  cases e with
  | true =>
    rw [if_pos rfl, ← tot_notM]
    refine tot_congr fun x h1 h2 => ?_
    unfold suP
    rw [h x h1 h2]; cases cmP wd s z a b c d x <;> rfl
  | false =>
    rw [if_neg Bool.false_ne_true]
    refine tot_congr fun x h1 h2 => ?_
    unfold suP
    rw [h x h1 h2]; cases cmP wd s z a b c d x <;> rfl
def CDivNW (_ j : Int) : Prop := j ≠ 0 ∧ j.natAbs.log2 < 9000
theorem op_fdivNW {X : Cx} : OpR X (binaryOp .FloorDiv) (rI CDivNW fun i j => .int (i.fdiv j)) := opI fun _ _ _ _ _ _ _ hc q => PyProof.Rows.floordiv_int hc.1 q (.inl (PyProof.noPylong_of_log2 hc.2))
theorem divnw {i j : Int} (h : j ≠ 0) (b : BB j) : CDivNW i j := ⟨h, Nat.lt_of_lt_of_le (PySem.Flt.log2_lt_of (k := 300) (by decide) b) (by decide)⟩
/-- where two lines cross -/
theorem cross_lt {u v x : Int} (hu : u ≠ 0) (h : x < (-v).fdiv u) : (0 < u → u * x + v < 0) ∧ (u < 0 → 0 < u * x + v) := by
  constructor
  · intro hp
    rw [Int.fdiv_eq_ediv_of_nonneg _ (Int.le_of_lt hp)] at h
    have h1 := (Int.le_ediv_iff_mul_le hp (a := x + 1) (b := -v)).mp (by omega)
    rw [Int.add_mul, Int.one_mul, Int.mul_comm x u] at h1
    omega
  · intro hn
    have e : (-v).fdiv u = v.fdiv (-u) := by rw [← Int.neg_fdiv_neg, Int.neg_neg]
    rw [e, Int.fdiv_eq_ediv_of_nonneg _ (by omega)] at h
    have h1 := (Int.le_ediv_iff_mul_le (show 0 < -u by omega) (a := x + 1) (b := v)).mp (by omega)
    rw [Int.add_mul, Int.one_mul, Int.mul_neg, Int.mul_comm x u] at h1
    omega
theorem cross_gt {u v x : Int} (hu : u ≠ 0) (h : (-v).fdiv u < x) : (0 < u → 0 < u * x + v) ∧ (u < 0 → u * x + v < 0) := by
  constructor
  · intro hp
    rw [Int.fdiv_eq_ediv_of_nonneg _ (Int.le_of_lt hp)] at h
    have h1 := (Int.ediv_lt_iff_lt_mul hp (a := -v) (b := x)).mp h
    rw [Int.mul_comm x u] at h1
    omega
  · intro hn
    have e : (-v).fdiv u = v.fdiv (-u) := by rw [← Int.neg_fdiv_neg, Int.neg_neg]
    rw [e, Int.fdiv_eq_ediv_of_nonneg _ (by omega)] at h
    have h1 := (Int.ediv_lt_iff_lt_mul (show 0 < -u by omega) (a := v) (b := x)).mp h
    rw [Int.mul_neg, Int.mul_comm x u] at h1
    omega
theorem fdiv_bb {u v : Int} (hu : u ≠ 0) : (v.fdiv u).natAbs ≤ v.natAbs + 1 := by
  rcases Int.lt_or_gt_of_ne hu with h | h
  · have e : v.fdiv u = (-v).fdiv (-u) := by rw [Int.neg_fdiv_neg]
    rw [e, Int.fdiv_eq_ediv_of_nonneg _ (by omega)]
    have := Int.natAbs_ediv_le_natAbs (-v) (-u)
    omega
  · rw [Int.fdiv_eq_ediv_of_nonneg _ (Int.le_of_lt h)]
    have := Int.natAbs_ediv_le_natAbs v u
    omega
/-- the parts of a range, at each of which the lines are in one order -/
structure Parts (a b c d f l : Int) (ps : List (Int × Int)) : Prop where
  sum : ∀ p : Int → Bool, (ps.map fun r => tot p r.1 r.2).sum = tot p f l
  one : ∀ r ∈ ps, ∀ x, r.1 ≤ x → x ≤ r.2 → ((a * x + b < c * x + d ↔ a * r.1 + b < c * r.1 + d) ∧ (a * x + b = c * x + d ↔ a * r.1 + b = c * r.1 + d))
  bb : ∀ r ∈ ps, BB r.1 ∧ BB r.2
theorem parts1 {a b c d f l : Int} (h : a - c = 0) (bf : BB f) (bl : BB l) : Parts a b c d f l [(f, l)] := by
  have e : a = c := by omega
  subst e
  refine ⟨fun p => by simp, fun r hr x _ _ => by omega, fun r hr => ?_⟩
  rw [List.mem_singleton.mp hr]
  exact ⟨bf, bl⟩
theorem parts3 {a b c d f l : Int} (h : a - c ≠ 0) (sb : SD b) (sd : SD d) (sf : SD f) (sl : SD l) : Parts a b c d f l [(f, min l ((-(b - d)).fdiv (a - c) - 1)), (max f ((-(b - d)).fdiv (a - c)), min l ((-(b - d)).fdiv (a - c))), (max f ((-(b - d)).fdiv (a - c) + 1), l)] := by
  have g : ∀ x, a * x + b - (c * x + d) = (a - c) * x + (b - d) := fun x => by rw [Int.sub_mul]; omega
  have lt := fun x h' => cross_lt (u := a - c) (v := b - d) (x := x) h h'
  have gt := fun x h' => cross_gt (u := a - c) (v := b - d) (x := x) h h'
  have kb := fdiv_bb (u := a - c) (v := -(b - d)) h
  generalize (-(b - d)).fdiv (a - c) = k at *
  obtain ⟨b1, b2⟩ := sb
  obtain ⟨d1, d2⟩ := sd
  obtain ⟨f1, f2⟩ := sf
  obtain ⟨l1, l2⟩ := sl
  have p10 : (10 : Int) ^ 60 * 4 < 10 ^ 62 := by decide +kernel
  refine ⟨fun p => ?_, fun r hr x x1 x2 => ?_, fun r hr => ?_⟩
  · simp only [List.map_cons, List.map_nil, List.sum_cons, List.sum_nil]
    by_cases c1 : l < k
    · rw [show min l (k - 1) = l by omega, tot_none (p := p) (show min l k < max f k by omega), tot_none (p := p) (show l < max f (k + 1) by omega)]; omega
    · by_cases c2 : k < f
      · rw [tot_none (p := p) (show min l (k - 1) < f by omega), tot_none (p := p) (show min l k < max f k by omega), show max f (k + 1) = f by omega]; omega
      · rw [tot_split p (first := f) (mid := k - 1) (last := l) (by omega) (by omega), tot_split p (first := k - 1 + 1) (mid := k) (last := l) (by omega) (by omega), show min l (k - 1) = k - 1 by omega, show max f k = k by omega, show min l k = k by omega, show max f (k + 1) = k + 1 by omega, show k - 1 + 1 = k by omega]; omega
  · have key : ∀ y w : Int, (y < k ∧ w < k) ∨ (k < y ∧ k < w) → ((a * y + b < c * y + d ↔ a * w + b < c * w + d) ∧ (a * y + b = c * y + d ↔ a * w + b = c * w + d)) := fun y w hyw => by
      have g1 := g y
      have g2 := g w
      rcases hyw with ⟨h1, h2⟩ | ⟨h1, h2⟩
      · obtain ⟨u1, u2⟩ := lt y h1
        obtain ⟨w1, w2⟩ := lt w h2
        rcases Int.lt_or_gt_of_ne h with z | z
        · have := u2 z; have := w2 z; omega
        · have := u1 z; have := w1 z; omega
      · obtain ⟨u1, u2⟩ := gt y h1
        obtain ⟨w1, w2⟩ := gt w h2
        rcases Int.lt_or_gt_of_ne h with z | z
        · have := u2 z; have := w2 z; omega
        · have := u1 z; have := w1 z; omega
    rcases List.mem_cons.mp hr with rfl | hr
    · exact key _ _ (.inl ⟨by omega, by omega⟩)
    · rcases List.mem_cons.mp hr with rfl | hr
      · have e : x = max f k := by omega
        rw [e]
        exact ⟨Iff.rfl, Iff.rfl⟩
      · rw [List.mem_singleton.mp hr] at x1 x2 ⊢
        exact key _ _ (.inr ⟨by omega, by omega⟩)
  · have bk : BB k ∧ BB (k - 1) ∧ BB (k + 1) := ⟨bb_ten (by omega) (by omega), bb_ten (by omega) (by omega), bb_ten (by omega) (by omega)⟩
    have bf : BB f := bb_ten (by omega) (by omega)
    have bl : BB l := bb_ten (by omega) (by omega)
    have mn : ∀ u v : Int, BB u → BB v → BB (min u v) ∧ BB (max u v) := fun u v h1 h2 => by
      unfold BB at *
      constructor <;> omega
    rcases List.mem_cons.mp hr with rfl | hr
    · exact ⟨bf, (mn _ _ bl bk.2.1).1⟩
    · rcases List.mem_cons.mp hr with rfl | hr
      · exact ⟨(mn _ _ bf bk.1).2, (mn _ _ bl bk.1).1⟩
      · rw [List.mem_singleton.mp hr]
        exact ⟨(mn _ _ bf bk.2.2).2, bl⟩

theorem rel_in {z : Str} (h : Rel z) : inV (.str z) [.str "<", .str "<=", .str "==", .str "!=", .str ">=", .str ">"] = true := by
  rcases h with rfl | rfl | rfl | rfl | rfl | rfl <;> decide +kernel
theorem emod_is {n m q r : Int} (h : n = r + m * q) (r0 : 0 ≤ r) (r1 : r < m) : n % m = r := by
  rw [h, Int.add_mul_emod_self_left, Int.emod_eq_of_lt r0 r1]
theorem inR_not {S lo hi v : Int} (s0 : 0 < S) (h1 : -1 ≤ hi - lo) (h2 : hi - lo ≤ S - 1) : inR S (hi + 1) (lo + S - 1) v = !inR S lo hi v := by
  unfold inR
  have u0 := Int.emod_nonneg (v - lo) (Int.ne_of_gt s0)
  have u1 := Int.emod_lt_of_pos (v - lo) s0
  have u2 := Int.emod_add_mul_ediv (v - lo) S
  generalize (v - lo) % S = u at *
  generalize (v - lo) / S = q at *
  by_cases c : u ≤ hi - lo
  · rw [show decide (lo ≤ hi ∧ u ≤ hi - lo) = true from decide_eq_true (by omega), Bool.not_true]
    by_cases f : hi - lo = S - 1
    · exact decide_eq_false (by omega)
    rw [emod_is (n := v - (hi + 1)) (q := q - 1) (r := u - (hi - lo) - 1 + S) (by rw [Int.mul_sub]; omega) (by omega) (by omega)]
    exact decide_eq_false (by omega)
  · rw [show decide (lo ≤ hi ∧ u ≤ hi - lo) = false from decide_eq_false (by omega), Bool.not_false]
    rw [emod_is (n := v - (hi + 1)) (q := q) (r := u - (hi - lo) - 1) (by omega) (by omega) (by omega)]
    exact decide_eq_true (by omega)
/-- for each x the relation stands just where a line lies in a stretch -/
def HitsLt (wd : Nat) (s : Bool) (a b c d e f lo hi : Int) : Prop := (-1 ≤ hi - lo ∧ hi - lo ≤ 2 ^ wd - 1) ∧ ∀ x, decide (wr wd s (a * x + b) < wr wd s (c * x + d)) = inR (2 ^ wd) lo hi (e * x + f)
theorem wr_slope {wd : Nat} {s : Bool} {a : Int} (h : a % 2 ^ wd = 0) (b x : Int) : wr wd s (a * x + b) = wr wd s b := by
  unfold wr
  congr 1
  have u := Int.emod_add_mul_ediv a (2 ^ wd)
  have v : a * x = 2 ^ wd * (a / 2 ^ wd * x) := by
    rw [← Int.mul_assoc]; congr 1; omega
  rw [v, show 2 ^ wd * (a / 2 ^ wd * x) + b - loK wd s = (b - loK wd s) + 2 ^ wd * (a / 2 ^ wd * x) by omega, Int.add_mul_emod_self_left]
theorem lt_one {wd : Nat} {s : Bool} {a b c d : Int} (h : a % 2 ^ wd = 0) : HitsLt wd s a b c d c d (wr wd s b + 1) (hiK wd s) := by
  have hh : hiK wd s = loK wd s + 2 ^ wd - 1 := rfl
  have w0 := wr_lo wd s b
  have w1 := wr_hi wd s b
  refine ⟨by omega, fun x => ?_⟩
  rw [wr_slope h]
  have e := rsP_wr (wd := wd) (s := s) (a := c) (b := d) (lo := wr wd s b + 1) (hi := hiK wd s) (x := x) (by omega) (Int.le_refl _)
  have e' : inR (2 ^ wd) (wr wd s b + 1) (hiK wd s) (c * x + d) = _ := e
  rw [e']
  have := wr_hi wd s (c * x + d)
  exact decide_eq_decide.mpr (by omega)
theorem lt_other {wd : Nat} {s : Bool} {a b c d : Int} (h : c % 2 ^ wd = 0) : HitsLt wd s a b c d a b (loK wd s) (wr wd s d - 1) := by
  have hh : hiK wd s = loK wd s + 2 ^ wd - 1 := rfl
  have w0 := wr_lo wd s d
  have w1 := wr_hi wd s d
  refine ⟨by omega, fun x => ?_⟩
  rw [wr_slope h]
  have e := rsP_wr (wd := wd) (s := s) (a := a) (b := b) (lo := loK wd s) (hi := wr wd s d - 1) (x := x) (by omega) (by omega)
  have e' : inR (2 ^ wd) (loK wd s) (wr wd s d - 1) (a * x + b) = _ := e
  rw [e']
  have := wr_lo wd s (a * x + b)
  exact decide_eq_decide.mpr (by omega)
theorem lt_gap {wd : Nat} {s : Bool} {a b c d : Int} (h : (a - c) % 2 ^ wd = 0) : HitsLt wd s a b c d a b (loK wd s) (loK wd s + (b - d) % 2 ^ wd - 1) := by
  have hp := p2 wd
  have hh : hiK wd s = loK wd s + 2 ^ wd - 1 := rfl
  have g0 := Int.emod_nonneg (b - d) (Int.ne_of_gt hp)
  have g1 := Int.emod_lt_of_pos (b - d) hp
  have g2 := Int.emod_add_mul_ediv (b - d) (2 ^ wd)
  refine ⟨by omega, fun x => ?_⟩
  have e := rsP_wr (wd := wd) (s := s) (a := a) (b := b) (lo := loK wd s) (hi := loK wd s + (b - d) % 2 ^ wd - 1) (x := x) (by omega) (by omega)
  have e' : inR (2 ^ wd) (loK wd s) (loK wd s + (b - d) % 2 ^ wd - 1) (a * x + b) = _ := e
  rw [e']
  have w0 := wr_lo wd s (c * x + d)
  have w1 := wr_hi wd s (c * x + d)
  have w2 := wr_q wd s (c * x + d)
  have v0 := wr_lo wd s (a * x + b)
  have v1 := wr_hi wd s (a * x + b)
  have u := Int.emod_add_mul_ediv (a - c) (2 ^ wd)
  have ac : a * x + b = c * x + d + (b - d) % 2 ^ wd + 2 ^ wd * ((b - d) / 2 ^ wd + (a - c) / 2 ^ wd * x) := by
    have z : (a - c) * x = 2 ^ wd * ((a - c) / 2 ^ wd * x) := by
      rw [← Int.mul_assoc]; congr 1; omega
    rw [Int.sub_mul] at z
    rw [Int.mul_add]; omega
  generalize (b - d) % 2 ^ wd = g at *
  generalize (b - d) / 2 ^ wd + (a - c) / 2 ^ wd * x = q at *
  generalize (c * x + d - loK wd s) / 2 ^ wd = q2 at *
  by_cases z : wr wd s (c * x + d) + g ≤ hiK wd s
  · have e2 := wr_in (w := wd) (s := s) (n := a * x + b) (k := q + q2) (by rw [Int.mul_add]; omega) (by rw [Int.mul_add]; omega)
    rw [Int.mul_add] at e2
    exact decide_eq_decide.mpr (by omega)
  · have e2 := wr_in (w := wd) (s := s) (n := a * x + b) (k := q + q2 + 1) (by rw [Int.mul_add, Int.mul_add]; omega) (by rw [Int.mul_add, Int.mul_add]; omega)
    rw [Int.mul_add, Int.mul_add] at e2
    exact decide_eq_decide.mpr (by omega)
theorem eq_gap {wd : Nat} {s : Bool} {a b c d : Int} (x : Int) : decide (wr wd s (a * x + b) = wr wd s (c * x + d)) = inR (2 ^ wd) 0 0 ((a - c) * x + (b - d)) := by
  have hp := p2 wd
  have hh : hiK wd s = loK wd s + 2 ^ wd - 1 := rfl
  have w0 := wr_lo wd s (c * x + d)
  have w1 := wr_hi wd s (c * x + d)
  have w2 := wr_q wd s (c * x + d)
  have v0 := wr_lo wd s (a * x + b)
  have v1 := wr_hi wd s (a * x + b)
  have v2 := wr_q wd s (a * x + b)
  have u0 := Int.emod_nonneg ((a - c) * x + (b - d) - 0) (Int.ne_of_gt hp)
  have u2 := Int.emod_add_mul_ediv ((a - c) * x + (b - d) - 0) (2 ^ wd)
  have z : (a - c) * x = a * x - c * x := Int.sub_mul _ _ _
  unfold inR
  refine decide_eq_decide.mpr ⟨fun e => ⟨Int.le_refl _, ?_⟩, fun e => ?_⟩
  · generalize (a * x + b - loK wd s) / 2 ^ wd = q1 at *
    generalize (c * x + d - loK wd s) / 2 ^ wd = q2 at *
    rw [emod_is (n := (a - c) * x + (b - d) - 0) (q := q1 - q2) (r := 0) (by rw [Int.mul_sub]; omega) (Int.le_refl _) hp]
    omega
  · generalize ((a - c) * x + (b - d) - 0) / 2 ^ wd = q at *
    have e2 := wr_in (w := wd) (s := s) (n := a * x + b) (k := q + (c * x + d - loK wd s) / 2 ^ wd) (by rw [Int.mul_add]; omega) (by rw [Int.mul_add]; omega)
    rw [Int.mul_add] at e2
    omega

def opp (z : Str) : Str := if z = "<" then ">=" else if z = "<=" then ">" else if z = "==" then "!=" else if z = "!=" then "==" else if z = ">=" then "<" else "<="

theorem rel_opp {z : Str} (h : Rel z) : Rel (opp z) := by
  rcases h with rfl | rfl | rfl | rfl | rfl | rfl
  · rw [show opp "<" = ">=" from by decide +kernel]; exact .inr (.inr (.inr (.inr (.inl rfl))))
  · rw [show opp "<=" = ">" from by decide +kernel]; exact .inr (.inr (.inr (.inr (.inr rfl))))
  · rw [show opp "==" = "!=" from by decide +kernel]; exact .inr (.inr (.inr (.inl rfl)))
  · rw [show opp "!=" = "==" from by decide +kernel]; exact .inr (.inr (.inl rfl))
  · rw [show opp ">=" = "<" from by decide +kernel]; exact .inl rfl
  · rw [show opp ">" = "<=" from by decide +kernel]; exact .inr (.inl rfl)
theorem rel_opp_not {z : Str} (h : Rel z) (y w : Int) : relB (opp z) y w = !relB z y w := by
  rcases h with rfl | rfl | rfl | rfl | rfl | rfl
  · rw [show opp "<" = ">=" from by decide +kernel]; exact rn5 _ _
  · rw [show opp "<=" = ">" from by decide +kernel, rn6, rn25, Bool.not_not]
  · rw [show opp "==" = "!=" from by decide +kernel]; exact rn4 _ _
  · rw [show opp "!=" = "==" from by decide +kernel, rn4, Bool.not_not]
  · rw [show opp ">=" = "<" from by decide +kernel, rn5, Bool.not_not]
  · rw [show opp ">" = "<=" from by decide +kernel, rn6, rn25]
def HitsOf (wd : Nat) (s : Bool) (z : Str) (a b c d e f lo hi : Int) : Prop := (-1 ≤ hi - lo ∧ hi - lo ≤ 2 ^ wd - 1) ∧ ∀ x, cmP wd s z a b c d x = inR (2 ^ wd) lo hi (e * x + f)
theorem hits_not {wd : Nat} {s : Bool} {z : Str} {a b c d e f lo hi : Int} (hz : Rel z) (h : HitsOf wd s (opp z) a b c d e f lo hi) : HitsOf wd s z a b c d e f (hi + 1) (lo + 2 ^ wd - 1) := by
  obtain ⟨⟨h1, h2⟩, hx⟩ := h
  refine ⟨by omega, fun x => ?_⟩
  have e1 := hx x
  unfold cmP at e1 ⊢
  rw [rel_opp_not hz] at e1
  rw [inR_not (p2 wd) h1 h2, ← e1, Bool.not_not]
/-- parts in order -/
structure PartsO (f l : Int) (ps : List (Int × Int)) : Prop where
  cover : ∀ y, f ≤ y → y ≤ l → ∃ r ∈ ps, r.1 ≤ y ∧ y ≤ r.2
  order : ∀ (i j : Nat) (r r' : Int × Int), i < j → ps[i]? = some r → ps[j]? = some r' → r.2 < r'.1
  ins : ∀ r ∈ ps, f ≤ r.1 ∧ r.2 ≤ l
theorem partso1 (f l : Int) : PartsO f l [(f, l)] := by
  refine ⟨fun y h1 h2 => ⟨_, List.mem_singleton.mpr rfl, h1, h2⟩, fun i j r r' h1 h2 h3 => ?_, fun r hr => ?_⟩
  · have := (List.getElem?_eq_some_iff.mp h3).1
    simp at this
    omega
  · rw [List.mem_singleton.mp hr]; exact ⟨Int.le_refl _, Int.le_refl _⟩
theorem partso3 (f l k : Int) : PartsO f l [(f, min l (k - 1)), (max f k, min l k), (max f (k + 1), l)] := by
  refine ⟨fun y h1 h2 => ?_, fun i j r r' h1 h2 h3 => ?_, fun r hr => ?_⟩
  · rcases Int.lt_trichotomy y k with c | c | c
    · exact ⟨_, .head _, h1, by show y ≤ min l (k - 1); omega⟩
    · exact ⟨_, .tail _ (.head _), by show max f k ≤ y; omega, by show y ≤ min l k; omega⟩
    · exact ⟨_, .tail _ (.tail _ (.head _)), by show max f (k + 1) ≤ y; omega, h2⟩
  · have j3 := (List.getElem?_eq_some_iff.mp h3).1
    have j3 : j < 3 := j3
    rcases i with _ | _ | i
    · cases h2
      rcases j with _ | _ | _ | j
      · omega
      · cases h3; show min l (k - 1) < max f k; omega
      · cases h3; show min l (k - 1) < max f (k + 1); omega
      · omega
    · cases h2
      rcases j with _ | _ | _ | j
      · omega
      · omega
      · cases h3; show min l k < max f (k + 1); omega
      · omega
    · omega
  · rcases List.mem_cons.mp hr with rfl | hr
    · exact ⟨Int.le_refl _, by show min l (k - 1) ≤ l; omega⟩
    · rcases List.mem_cons.mp hr with rfl | hr
      · exact ⟨by show f ≤ max f k; omega, by show min l k ≤ l; omega⟩
      · rw [List.mem_singleton.mp hr]
        exact ⟨by show f ≤ max f (k + 1); omega, Int.le_refl _⟩
/-- the parts of a range with the relation that is a surprise there -/
structure PartsW (z : Str) (a b c d f l : Int) (ps : List (Int × Int × Str)) : Prop where
  sum : ∀ p : Int → Bool, (ps.map fun r => tot p r.1 r.2.1).sum = tot p f l
  po : PartsO f l (ps.map fun r => (r.1, r.2.1))
  bb : ∀ r ∈ ps, BB r.1 ∧ BB r.2.1
  rel : ∀ r ∈ ps, Rel r.2.2
  is : ∀ r ∈ ps, ∀ (wd : Nat) (s : Bool) (x : Int), r.1 ≤ x → x ≤ r.2.1 → cmP wd s r.2.2 a b c d x = suP wd s z a b c d x
theorem PartsW.of {z : Str} (hz : Rel z) {a b c d f l : Int} {ps : List (Int × Int)} (h : Parts a b c d f l ps) (o : PartsO f l ps) : PartsW z a b c d f l (ps.map fun r => (r.1, r.2, if relB z (a * r.1 + b) (c * r.1 + d) = true then opp z else z)) := by
  refine ⟨fun p => ?_, ?_, fun r hr => ?_, fun r hr => ?_, fun r hr wd s x x1 x2 => ?_⟩
  · rw [List.map_map]; exact h.sum p
  · rw [List.map_map, show ((fun r : Int × Int × Str => (r.1, r.2.1)) ∘ fun r : Int × Int => (r.1, r.2, if relB z (a * r.1 + b) (c * r.1 + d) = true then opp z else z)) = id from rfl, List.map_id]; exact o
  · obtain ⟨q, hq, rfl⟩ := List.mem_map.mp hr
    exact h.bb q hq
  · obtain ⟨q, hq, rfl⟩ := List.mem_map.mp hr
    dsimp only
    split
    · exact rel_opp hz
    · exact hz
  · obtain ⟨q, hq, rfl⟩ := List.mem_map.mp hr
    dsimp only at x1 x2 ⊢
    have e := rel_sg hz (h.one q hq x x1 x2).1 (h.one q hq x x1 x2).2
    unfold suP
    rw [e]
    cases relB z (a * q.1 + b) (c * q.1 + d) with
    | true =>
      rw [if_pos rfl]
      unfold cmP
      rw [rel_opp_not hz]
      cases relB z (wr wd s (a * x + b)) (wr wd s (c * x + d)) <;> rfl
    | false =>
      rw [if_neg Bool.false_ne_true]
      cases cmP wd s z a b c d x <;> rfl
theorem PartsW.total {z : Str} {a b c d f l : Int} {ps : List (Int × Int × Str)} (h : PartsW z a b c d f l ps) (wd : Nat) (s : Bool) : (ps.map fun r => tot (cmP wd s r.2.2 a b c d) r.1 r.2.1).sum = tot (suP wd s z a b c d) f l := by
  rw [← h.sum]
  congr 1
  exact List.map_congr_left fun r hr => tot_congr fun x x1 x2 => h.is r hr wd s x x1 x2
theorem PartsW.first {z : Str} {a b c d f l : Int} {ps : List (Int × Int × Str)} (h : PartsW z a b c d f l ps) (wd : Nat) (s : Bool) {i : Nat} {r : Int × Int × Str} (hi : ps[i]? = some r) (h0 : ∀ j r', j < i → ps[j]? = some r' → tot (cmP wd s r'.2.2 a b c d) r'.1 r'.2.1 = 0) {x : Int} (hx : FirstOf (cmP wd s r.2.2 a b c d) r.1 r.2.1 (.int x)) : FirstOf (suP wd s z a b c d) f l (.int x) := by
  rcases hx with ⟨e, _⟩ | ⟨y, e, x1, x2, px, x3⟩
  · cases e
  cases e
  have rm := List.mem_of_getElem? hi
  have hin := h.po.ins _ (List.mem_map.mpr ⟨r, rm, rfl⟩)
  have hin : f ≤ r.1 ∧ r.2.1 ≤ l := hin
  refine .inr ⟨x, rfl, by omega, by omega, by rw [← h.is r rm wd s x x1 x2]; exact px, tot_zero_iff.mpr fun y y1 y2 => ?_⟩
  obtain ⟨q, hq, q1, q2⟩ := h.po.cover y y1 (by omega)
  obtain ⟨r', hr', rfl⟩ := List.mem_map.mp hq
  have q1 : r'.1 ≤ y := q1
  have q2 : y ≤ r'.2.1 := q2
  rw [← h.is r' hr' wd s y q1 q2]
  obtain ⟨j, hj⟩ := List.mem_iff_getElem?.mp hr'
  rcases Nat.lt_trichotomy j i with c | c | c
  · exact tot_zero_iff.mp (h0 j r' c hj) y q1 q2
  · rw [c, hi] at hj
    cases hj
    exact tot_zero_iff.mp x3 y q1 (by omega)
  · have := h.po.order i j (r.1, r.2.1) (r'.1, r'.2.1) c (by rw [List.getElem?_map, hi]; rfl) (by rw [List.getElem?_map, hj]; rfl)
    have this : r.2.1 < r'.1 := this
    omega
theorem PartsW.none {z : Str} {a b c d f l : Int} {ps : List (Int × Int × Str)} (h : PartsW z a b c d f l ps) (wd : Nat) (s : Bool) (h0 : ∀ j r', j < ps.length → ps[j]? = some r' → tot (cmP wd s r'.2.2 a b c d) r'.1 r'.2.1 = 0) : FirstOf (suP wd s z a b c d) f l .non := by
  refine .inl ⟨rfl, tot_zero_iff.mpr fun y y1 y2 => ?_⟩
  obtain ⟨q, hq, q1, q2⟩ := h.po.cover y y1 y2
  obtain ⟨r', hr', rfl⟩ := List.mem_map.mp hq
  rw [← h.is r' hr' wd s y q1 q2]
  obtain ⟨j, hj⟩ := List.mem_iff_getElem?.mp hr'
  exact tot_zero_iff.mp (h0 j r' (List.getElem?_eq_some_iff.mp hj).1 hj) y q1 q2
def spT2 (TS : List (Addr × Str)) (H : Hp) (p : Int → Bool) (first last : Int) : Sp := fun vs H' Q _ => ∃ u v : Int, vs = [.int u, .int v] ∧ first ≤ u ∧ v ≤ last ∧ u ≤ v ∧ Sm TS H H' ∧ ∀ H'', Sm TS H' H'' → Q (.int (tot p u v)) H''
theorem guess_lt {W M J : Int} (hM : 1 ≤ M) (hW : M ≤ W) (h0 : 0 ≤ J) (h1 : J < M) : 0 ≤ W * (2 * J + 1) / (2 * M) ∧ W * (2 * J + 1) / (2 * M) < W := by
  refine ⟨Int.ediv_nonneg (Int.mul_nonneg (by omega) (by omega)) (by omega), ?_⟩
  refine (Int.ediv_lt_iff_lt_mul (by omega)).mpr ?_
  exact Int.mul_lt_mul_of_pos_left (by omega) (by omega)

theorem is0 {z : Str} (hz : Rel z) : inV (.str z) [.str "<=", .str "==", .str ">="] = relB z 0 0 := by
  rcases hz with rfl | rfl | rfl | rfl | rfl | rfl <;> decide +kernel
theorem is1 {z : Str} (hz : Rel z) {g : Int} (h : g < 0) : inV (.str z) [.str "<", .str "<=", .str "!="] = relB z g 0 := by
  rw [rel_sg hz (y := g) (w := 0) (y' := -1) (w' := 0) (by omega) (by omega)]
  rcases hz with rfl | rfl | rfl | rfl | rfl | rfl <;> decide +kernel
theorem is2 {z : Str} (hz : Rel z) {g : Int} (h : 0 < g) : inV (.str z) [.str ">", .str ">=", .str "!="] = relB z g 0 := by
  rw [rel_sg hz (y := g) (w := 0) (y' := 1) (w' := 0) (by omega) (by omega)]
  rcases hz with rfl | rfl | rfl | rfl | rfl | rfl <;> decide +kernel
def p_kb_compares_0_x_other_relation_one_kind {α : Type} (us ws : List α) : List α := match us, ws with | [], [w0, w1, w2, w3, w4] => [w4, w3, w2, w1, w0] | _, _ => []
def p_kb_holds_0_last_first_other_relation_one_kind {α : Type} (us ws : List α) : List α := match us, ws with | [], [w0, w1, w2, w3, w4, w5] => [w5, w4, w3, w2, w1, w0] | _, _ => []
def p_kb_first_holding_0_last_first_other_relation_one_kind {α : Type} (us ws : List α) : List α := match us, ws with | [], [w0, w1, w2, w3, w4, w5] => [w5, w4, w3, w2, w1, w0] | _, _ => []
def p_kb_last_holding_0_last_first_other_relation_one_kind {α : Type} (us ws : List α) : List α := match us, ws with | [], [w0, w1, w2, w3, w4, w5] => [w5, w4, w3, w2, w1, w0] | _, _ => []
def p_kb_holding_at_0_j_last_first_other_relation_one_kind {α : Type} (us ws : List α) : List α := match us, ws with | [], [w0, w1, w2, w3, w4, w5, w6] => [w6, w5, w4, w3, w2, w1, w0] | _, _ => []
structure Txt (K : PySem.W.Frag) (mg : Str → Option Value) where
  tabs : List (Addr × Str)
  C_Walk : Addr
  cl_Walk : Cls K C_Walk
  g_Walk : mg "Walk" = some (.ref C_Walk)
  na_Walk_size : NoAttr K C_Walk "size"
  na_Walk_step : NoAttr K C_Walk "step"
  na_Walk_marks : NoAttr K C_Walk "marks"
  na_Walk_each : NoAttr K C_Walk "each"
  na_Walk_marked : NoAttr K C_Walk "marked"
  na_Walk_around : NoAttr K C_Walk "around"
  ia_Walk : PySem.W.findIn K (.ref C_Walk) "__class__" = some (some (.builtin "object.__class__"))
  ib_Walk : PySem.W.specialIn K (.builtin "object.__class__") "__get__" = some (some (.builtin "getset_descriptor.__get__"))
  ic_Walk : PySem.W.takesIn K (.builtin "object.__class__") = some true
  id_Walk : PySem.W.mroIn K C_Walk (.type "object") = some true
  C_Kind : Addr
  cl_Kind : Cls K C_Kind
  g_Kind : mg "Kind" = some (.ref C_Kind)
  na_Kind_bits : NoAttr K C_Kind "bits"
  na_Kind_is_signed : NoAttr K C_Kind "is_signed"
  ia_Kind : PySem.W.findIn K (.ref C_Kind) "__class__" = some (some (.builtin "object.__class__"))
  ib_Kind : PySem.W.specialIn K (.builtin "object.__class__") "__get__" = some (some (.builtin "getset_descriptor.__get__"))
  ic_Kind : PySem.W.takesIn K (.builtin "object.__class__") = some true
  id_Kind : PySem.W.mroIn K C_Kind (.type "object") = some true
  fl : Str
  C_InvalidBound : Addr
  ax_InvalidBound : AexK K mg C_InvalidBound fl "InvalidBound" "argument"
  f_Walk___init__ : Addr
  fd_Walk___init__ : FuncData
  F_Walk___init__ : Fun K "__init__" "Walk.__init__" s_Walk___init__ f_Walk___init__ fd_Walk___init__
  b_Walk___init__ : Binds K fd_Walk___init__ ["self", "size", "step", "marks", "each", "marked", "around"] []
  f_Walk_mirrored : Addr
  fd_Walk_mirrored : FuncData
  F_Walk_mirrored : Fun K "mirrored" "Walk.mirrored" s_Walk_mirrored f_Walk_mirrored fd_Walk_mirrored
  b_Walk_mirrored : Binds K fd_Walk_mirrored ["self"] []
  f_Walk_of_laps : Addr
  fd_Walk_of_laps : FuncData
  F_Walk_of_laps : Fun K "of_laps" "Walk.of_laps" s_Walk_of_laps f_Walk_of_laps fd_Walk_of_laps
  b_Walk_of_laps : Binds K fd_Walk_of_laps ["self"] []
  f_Walk_marked_steps : Addr
  fd_Walk_marked_steps : FuncData
  F_Walk_marked_steps : Fun K "marked_steps" "Walk.marked_steps" s_Walk_marked_steps f_Walk_marked_steps fd_Walk_marked_steps
  b_Walk_marked_steps : Binds K fd_Walk_marked_steps ["self", "begin"] []
  f_Walk_cost : Addr
  fd_Walk_cost : FuncData
  F_Walk_cost : Fun K "cost" "Walk.cost" s_Walk_cost f_Walk_cost fd_Walk_cost
  b_Walk_cost : Binds K fd_Walk_cost ["self", "begin", "steps"] []
  f_Walk_steps_for : Addr
  fd_Walk_steps_for : FuncData
  F_Walk_steps_for : Fun K "steps_for" "Walk.steps_for" s_Walk_steps_for f_Walk_steps_for fd_Walk_steps_for
  b_Walk_steps_for : Binds K fd_Walk_steps_for ["self", "begin", "budget"] []
  f__steps_to_visit : Addr
  fd__steps_to_visit : FuncData
  F__steps_to_visit : Fun K "_steps_to_visit" "_steps_to_visit" s__steps_to_visit f__steps_to_visit fd__steps_to_visit
  b__steps_to_visit : Binds K fd__steps_to_visit ["size", "step", "marks", "place", "j"] []
  g__steps_to_visit : mg "_steps_to_visit" = some (.ref f__steps_to_visit)
  k__steps_to_visit : PySem.W.keepIn K (.ref f__steps_to_visit) = true
  f_hit_at : Addr
  fd_hit_at : FuncData
  F_hit_at : Fun K "hit_at" "hit_at" s_hit_at f_hit_at fd_hit_at
  b_hit_at : Binds K fd_hit_at ["line", "size", "first", "low", "high", "j"] []
  g_hit_at : mg "hit_at" = some (.ref f_hit_at)
  k_hit_at : PySem.W.keepIn K (.ref f_hit_at) = true
  f_is_integer : Addr
  fd_is_integer : FuncData
  F_is_integer : Fun K "is_integer" "is_integer" s_is_integer f_is_integer fd_is_integer
  b_is_integer : Binds K fd_is_integer ["value"] []
  g_is_integer : mg "is_integer" = some (.ref f_is_integer)
  k_is_integer : PySem.W.keepIn K (.ref f_is_integer) = true
  f_check_integer : Addr
  fd_check_integer : FuncData
  F_check_integer : Fun K "check_integer" "check_integer" s_check_integer f_check_integer fd_check_integer
  b_check_integer : Binds K fd_check_integer ["value", "argument"] []
  g_check_integer : mg "check_integer" = some (.ref f_check_integer)
  k_check_integer : PySem.W.keepIn K (.ref f_check_integer) = true
  f_is_sixty_digits : Addr
  fd_is_sixty_digits : FuncData
  F_is_sixty_digits : Fun K "is_sixty_digits" "is_sixty_digits" s_is_sixty_digits f_is_sixty_digits fd_is_sixty_digits
  b_is_sixty_digits : Binds K fd_is_sixty_digits ["value"] []
  g_is_sixty_digits : mg "is_sixty_digits" = some (.ref f_is_sixty_digits)
  k_is_sixty_digits : PySem.W.keepIn K (.ref f_is_sixty_digits) = true
  f_check_sixty_digits : Addr
  fd_check_sixty_digits : FuncData
  F_check_sixty_digits : Fun K "check_sixty_digits" "check_sixty_digits" s_check_sixty_digits f_check_sixty_digits fd_check_sixty_digits
  b_check_sixty_digits : Binds K fd_check_sixty_digits ["value", "argument"] []
  g_check_sixty_digits : mg "check_sixty_digits" = some (.ref f_check_sixty_digits)
  k_check_sixty_digits : PySem.W.keepIn K (.ref f_check_sixty_digits) = true
  f_is_count : Addr
  fd_is_count : FuncData
  F_is_count : Fun K "is_count" "is_count" s_is_count f_is_count fd_is_count
  b_is_count : Binds K fd_is_count ["value"] []
  g_is_count : mg "is_count" = some (.ref f_is_count)
  k_is_count : PySem.W.keepIn K (.ref f_is_count) = true
  f_check_number : Addr
  fd_check_number : FuncData
  F_check_number : Fun K "check_number" "check_number" s_check_number f_check_number fd_check_number
  b_check_number : Binds K fd_check_number ["j", "total"] []
  g_check_number : mg "check_number" = some (.ref f_check_number)
  k_check_number : PySem.W.keepIn K (.ref f_check_number) = true
  f_is_word : Addr
  fd_is_word : FuncData
  F_is_word : Fun K "is_word" "is_word" s_is_word f_is_word fd_is_word
  b_is_word : Binds K fd_is_word ["value", "words"] []
  g_is_word : mg "is_word" = some (.ref f_is_word)
  k_is_word : PySem.W.keepIn K (.ref f_is_word) = true
  f_check_word : Addr
  fd_check_word : FuncData
  F_check_word : Fun K "check_word" "check_word" s_check_word f_check_word fd_check_word
  b_check_word : Binds K fd_check_word ["word", "words", "argument"] []
  g_check_word : mg "check_word" = some (.ref f_check_word)
  k_check_word : PySem.W.keepIn K (.ref f_check_word) = true
  f_opposite : Addr
  fd_opposite : FuncData
  F_opposite : Fun K "opposite" "opposite" s_opposite f_opposite fd_opposite
  b_opposite : Binds K fd_opposite ["relation"] []
  g_opposite : mg "opposite" = some (.ref f_opposite)
  k_opposite : PySem.W.keepIn K (.ref f_opposite) = true
  f_stands : Addr
  fd_stands : FuncData
  F_stands : Fun K "stands" "stands" s_stands f_stands fd_stands
  b_stands : Binds K fd_stands ["y", "relation", "z"] []
  g_stands : mg "stands" = some (.ref f_stands)
  k_stands : PySem.W.keepIn K (.ref f_stands) = true
  f_Kind___init__ : Addr
  fd_Kind___init__ : FuncData
  F_Kind___init__ : Fun K "__init__" "Kind.__init__" s_Kind___init__ f_Kind___init__ fd_Kind___init__
  b_Kind___init__ : Binds K fd_Kind___init__ ["self", "bits", "is_signed"] []
  f_check_kind : Addr
  fd_check_kind : FuncData
  F_check_kind : Fun K "check_kind" "check_kind" s_check_kind f_check_kind fd_check_kind
  b_check_kind : Binds K fd_check_kind ["kind"] []
  g_check_kind : mg "check_kind" = some (.ref f_check_kind)
  k_check_kind : PySem.W.keepIn K (.ref f_check_kind) = true
  f_least : Addr
  fd_least : FuncData
  F_least : Fun K "least" "least" s_least f_least fd_least
  b_least : Binds K fd_least ["kind"] []
  g_least : mg "least" = some (.ref f_least)
  k_least : PySem.W.keepIn K (.ref f_least) = true
  f_greatest : Addr
  fd_greatest : FuncData
  F_greatest : Fun K "greatest" "greatest" s_greatest f_greatest fd_greatest
  b_greatest : Binds K fd_greatest ["kind"] []
  g_greatest : mg "greatest" = some (.ref f_greatest)
  k_greatest : PySem.W.keepIn K (.ref f_greatest) = true
  f_wrapped : Addr
  fd_wrapped : FuncData
  F_wrapped : Fun K "wrapped" "wrapped" s_wrapped f_wrapped fd_wrapped
  b_wrapped : Binds K fd_wrapped ["kind", "n"] []
  g_wrapped : mg "wrapped" = some (.ref f_wrapped)
  k_wrapped : PySem.W.keepIn K (.ref f_wrapped) = true
  f_quotient_total : Addr
  fd_quotient_total : FuncData
  F_quotient_total : Fun K "quotient_total" "quotient_total" s_quotient_total f_quotient_total fd_quotient_total
  b_quotient_total : Binds K fd_quotient_total ["line", "size", "first", "last"] []
  g_quotient_total : mg "quotient_total" = some (.ref f_quotient_total)
  k_quotient_total : PySem.W.keepIn K (.ref f_quotient_total) = true
  f_total_between : Addr
  fd_total_between : FuncData
  F_total_between : Fun K "total_between" "total_between" s_total_between f_total_between fd_total_between
  b_total_between : Binds K fd_total_between ["line", "size", "first", "last", "low", "high"] []
  g_total_between : mg "total_between" = some (.ref f_total_between)
  k_total_between : PySem.W.keepIn K (.ref f_total_between) = true
  f_check_line : Addr
  fd_check_line : FuncData
  F_check_line : Fun K "check_line" "check_line" s_check_line f_check_line fd_check_line
  b_check_line : Binds K fd_check_line ["line", "argument"] []
  g_check_line : mg "check_line" = some (.ref f_check_line)
  k_check_line : PySem.W.keepIn K (.ref f_check_line) = true
  f_check_range : Addr
  fd_check_range : FuncData
  F_check_range : Fun K "check_range" "check_range" s_check_range f_check_range fd_check_range
  b_check_range : Binds K fd_check_range ["first", "last"] []
  g_check_range : mg "check_range" = some (.ref f_check_range)
  k_check_range : PySem.W.keepIn K (.ref f_check_range) = true
  f_exact_at : Addr
  fd_exact_at : FuncData
  F_exact_at : Fun K "exact_at" "exact_at" s_exact_at f_exact_at fd_exact_at
  b_exact_at : Binds K fd_exact_at ["line", "x"] []
  g_exact_at : mg "exact_at" = some (.ref f_exact_at)
  k_exact_at : PySem.W.keepIn K (.ref f_exact_at) = true
  f_wanted_of : Addr
  fd_wanted_of : FuncData
  F_wanted_of : Fun K "wanted_of" "wanted_of" s_wanted_of f_wanted_of fd_wanted_of
  b_wanted_of : Binds K fd_wanted_of ["total", "first", "last", "many", "j"] []
  g_wanted_of : mg "wanted_of" = some (.ref f_wanted_of)
  k_wanted_of : PySem.W.keepIn K (.ref f_wanted_of) = true
  f__check_lines : Addr
  fd__check_lines : FuncData
  F__check_lines : Fun K "_check_lines" "_check_lines" s__check_lines f__check_lines fd__check_lines
  b__check_lines : Binds K fd__check_lines ["kind", "one", "relation", "other"] []
  g__check_lines : mg "_check_lines" = some (.ref f__check_lines)
  k__check_lines : PySem.W.keepIn K (.ref f__check_lines) = true
  f__check : Addr
  fd__check : FuncData
  F__check : Fun K "_check" "_check" s__check f__check fd__check
  b__check : Binds K fd__check ["kind", "one", "relation", "other", "first", "last"] []
  g__check : mg "_check" = some (.ref f__check)
  k__check : PySem.W.keepIn K (.ref f__check) = true
  f_compares : Addr
  fd_compares : FuncData
  F_compares : Fun K "compares" "compares" s_compares f_compares fd_compares
  b_compares : Binds K fd_compares ["kind", "one", "relation", "other", "x"] []
  g_compares : mg "compares" = some (.ref f_compares)
  k_compares : PySem.W.keepIn K (.ref f_compares) = true
  f__count : Addr
  fd__count : FuncData
  F__count : Fun K "_count" "_count" s__count f__count fd__count
  b__count : Binds K fd__count ["first", "last"] []
  g__count : mg "_count" = some (.ref f__count)
  k__count : PySem.W.keepIn K (.ref f__count) = true
  f__gap : Addr
  fd__gap : FuncData
  F__gap : Fun K "_gap" "_gap" s__gap f__gap fd__gap
  b__gap : Binds K fd__gap ["one", "other"] []
  g__gap : mg "_gap" = some (.ref f__gap)
  k__gap : PySem.W.keepIn K (.ref f__gap) = true
  f__less_total : Addr
  fd__less_total : FuncData
  F__less_total : Fun K "_less_total" "_less_total" s__less_total f__less_total fd__less_total
  b__less_total : Binds K fd__less_total ["kind", "one", "other", "first", "last"] []
  g__less_total : mg "_less_total" = some (.ref f__less_total)
  k__less_total : PySem.W.keepIn K (.ref f__less_total) = true
  f__equal_total : Addr
  fd__equal_total : FuncData
  F__equal_total : Fun K "_equal_total" "_equal_total" s__equal_total f__equal_total fd__equal_total
  b__equal_total : Binds K fd__equal_total ["kind", "one", "other", "first", "last"] []
  g__equal_total : mg "_equal_total" = some (.ref f__equal_total)
  k__equal_total : PySem.W.keepIn K (.ref f__equal_total) = true
  f__total : Addr
  fd__total : FuncData
  F__total : Fun K "_total" "_total" s__total f__total fd__total
  b__total : Binds K fd__total ["kind", "one", "relation", "other", "first", "last"] []
  g__total : mg "_total" = some (.ref f__total)
  k__total : PySem.W.keepIn K (.ref f__total) = true
  f_holds : Addr
  fd_holds : FuncData
  F_holds : Fun K "holds" "holds" s_holds f_holds fd_holds
  b_holds : Binds K fd_holds ["kind", "one", "relation", "other", "first", "last"] []
  g_holds : mg "holds" = some (.ref f_holds)
  k_holds : PySem.W.keepIn K (.ref f_holds) = true
  f__less_hits : Addr
  fd__less_hits : FuncData
  F__less_hits : Fun K "_less_hits" "_less_hits" s__less_hits f__less_hits fd__less_hits
  b__less_hits : Binds K fd__less_hits ["kind", "one", "other"] []
  g__less_hits : mg "_less_hits" = some (.ref f__less_hits)
  k__less_hits : PySem.W.keepIn K (.ref f__less_hits) = true
  f__hits : Addr
  fd__hits : FuncData
  F__hits : Fun K "_hits" "_hits" s__hits f__hits fd__hits
  b__hits : Binds K fd__hits ["kind", "one", "relation", "other"] []
  g__hits : mg "_hits" = some (.ref f__hits)
  k__hits : PySem.W.keepIn K (.ref f__hits) = true
  f__holding : Addr
  fd__holding : FuncData
  c__holding : Addr
  P__holding : Addr
  F__holding : FunT K "_holding" "_holding" s__holding f__holding fd__holding c__holding
  mT__holding : (P__holding, ("_holding" : Str) ++ ".<locals>." ++ "<lambda>") ∈ tabs
  uT__holding : ∀ p ∈ tabs, p.1 = P__holding → p.2 = ("_holding" : Str) ++ ".<locals>." ++ "<lambda>"
  b__holding : Binds K fd__holding ["kind", "one", "relation", "other", "first", "last", "total", "j"] []
  g__holding : mg "_holding" = some (.ref f__holding)
  k__holding : PySem.W.keepIn K (.ref f__holding) = true
  f__first_holding : Addr
  fd__first_holding : FuncData
  F__first_holding : Fun K "_first_holding" "_first_holding" s__first_holding f__first_holding fd__first_holding
  b__first_holding : Binds K fd__first_holding ["kind", "one", "relation", "other", "first", "last"] []
  g__first_holding : mg "_first_holding" = some (.ref f__first_holding)
  k__first_holding : PySem.W.keepIn K (.ref f__first_holding) = true
  f_first_holding : Addr
  fd_first_holding : FuncData
  F_first_holding : Fun K "first_holding" "first_holding" s_first_holding f_first_holding fd_first_holding
  b_first_holding : Binds K fd_first_holding ["kind", "one", "relation", "other", "first", "last"] []
  g_first_holding : mg "first_holding" = some (.ref f_first_holding)
  k_first_holding : PySem.W.keepIn K (.ref f_first_holding) = true
  f_last_holding : Addr
  fd_last_holding : FuncData
  F_last_holding : Fun K "last_holding" "last_holding" s_last_holding f_last_holding fd_last_holding
  b_last_holding : Binds K fd_last_holding ["kind", "one", "relation", "other", "first", "last"] []
  g_last_holding : mg "last_holding" = some (.ref f_last_holding)
  k_last_holding : PySem.W.keepIn K (.ref f_last_holding) = true
  f_holding_at : Addr
  fd_holding_at : FuncData
  F_holding_at : Fun K "holding_at" "holding_at" s_holding_at f_holding_at fd_holding_at
  b_holding_at : Binds K fd_holding_at ["kind", "one", "relation", "other", "first", "last", "j"] []
  g_holding_at : mg "holding_at" = some (.ref f_holding_at)
  k_holding_at : PySem.W.keepIn K (.ref f_holding_at) = true
  f__ordered_parts : Addr
  fd__ordered_parts : FuncData
  F__ordered_parts : Fun K "_ordered_parts" "_ordered_parts" s__ordered_parts f__ordered_parts fd__ordered_parts
  b__ordered_parts : Binds K fd__ordered_parts ["one", "other", "first", "last"] []
  g__ordered_parts : mg "_ordered_parts" = some (.ref f__ordered_parts)
  k__ordered_parts : PySem.W.keepIn K (.ref f__ordered_parts) = true
  f__surprising_parts : Addr
  fd__surprising_parts : FuncData
  F__surprising_parts : Fun K "_surprising_parts" "_surprising_parts" s__surprising_parts f__surprising_parts fd__surprising_parts
  b__surprising_parts : Binds K fd__surprising_parts ["one", "relation", "other", "first", "last"] []
  g__surprising_parts : mg "_surprising_parts" = some (.ref f__surprising_parts)
  k__surprising_parts : PySem.W.keepIn K (.ref f__surprising_parts) = true
  f_surprises : Addr
  fd_surprises : FuncData
  F_surprises : Fun K "surprises" "surprises" s_surprises f_surprises fd_surprises
  b_surprises : Binds K fd_surprises ["kind", "one", "relation", "other", "first", "last"] []
  g_surprises : mg "surprises" = some (.ref f_surprises)
  k_surprises : PySem.W.keepIn K (.ref f_surprises) = true
  f_first_surprise : Addr
  fd_first_surprise : FuncData
  F_first_surprise : Fun K "first_surprise" "first_surprise" s_first_surprise f_first_surprise fd_first_surprise
  b_first_surprise : Binds K fd_first_surprise ["kind", "one", "relation", "other", "first", "last"] []
  g_first_surprise : mg "first_surprise" = some (.ref f_first_surprise)
  k_first_surprise : PySem.W.keepIn K (.ref f_first_surprise) = true
  f__law_deck : Addr
  fd__law_deck : FuncData
  F__law_deck : Fun K "_law_deck" "_law_deck" s__law_deck f__law_deck fd__law_deck
  b__law_deck : Binds K fd__law_deck ["_law_cell"] []
  g__law_deck : mg "_law_deck" = some (.ref f__law_deck)
  k__law_deck : PySem.W.keepIn K (.ref f__law_deck) = true
  f__law_deal : Addr
  fd__law_deal : FuncData
  F__law_deal : Fun K "_law_deal" "_law_deal" s__law_deal f__law_deal fd__law_deal
  b__law_deal : Binds K fd__law_deal ["_law_deck_here", "_law_many"] []
  g__law_deal : mg "_law_deal" = some (.ref f__law_deal)
  k__law_deal : PySem.W.keepIn K (.ref f__law_deal) = true
  f__law_choice : Addr
  fd__law_choice : FuncData
  F__law_choice : Fun K "_law_choice" "_law_choice" s__law_choice f__law_choice fd__law_choice
  b__law_choice : Binds K fd__law_choice ["_law_deck_here", "_law_some_here"] []
  g__law_choice : mg "_law_choice" = some (.ref f__law_choice)
  k__law_choice : PySem.W.keepIn K (.ref f__law_choice) = true
  f__law_great : Addr
  fd__law_great : FuncData
  F__law_great : Fun K "_law_great" "_law_great" s__law_great f__law_great fd__law_great
  b__law_great : Binds K fd__law_great ["_law_deck_here", "_law_most"] []
  g__law_great : mg "_law_great" = some (.ref f__law_great)
  k__law_great : PySem.W.keepIn K (.ref f__law_great) = true
  f__law_near : Addr
  fd__law_near : FuncData
  F__law_near : Fun K "_law_near" "_law_near" s__law_near f__law_near fd__law_near
  b__law_near : Binds K fd__law_near ["_law_deck_here"] []
  g__law_near : mg "_law_near" = some (.ref f__law_near)
  k__law_near : PySem.W.keepIn K (.ref f__law_near) = true
  f__law_some : Addr
  fd__law_some : FuncData
  F__law_some : Fun K "_law_some" "_law_some" s__law_some f__law_some fd__law_some
  b__law_some : Binds K fd__law_some ["_law_deck_here", "_law_size"] []
  g__law_some : mg "_law_some" = some (.ref f__law_some)
  k__law_some : PySem.W.keepIn K (.ref f__law_some) = true
  f__law_pair : Addr
  fd__law_pair : FuncData
  F__law_pair : Fun K "_law_pair" "_law_pair" s__law_pair f__law_pair fd__law_pair
  b__law_pair : Binds K fd__law_pair ["_law_deck_here", "_law_size"] []
  g__law_pair : mg "_law_pair" = some (.ref f__law_pair)
  k__law_pair : PySem.W.keepIn K (.ref f__law_pair) = true
  f__law_table : Addr
  fd__law_table : FuncData
  F__law_table : Fun K "_law_table" "_law_table" s__law_table f__law_table fd__law_table
  b__law_table : Binds K fd__law_table ["_law_mine", "_law_its", "_law_least_one", "_law_size", "_law_begin", "_law_end"] []
  g__law_table : mg "_law_table" = some (.ref f__law_table)
  k__law_table : PySem.W.keepIn K (.ref f__law_table) = true
  f__law_is_so : Addr
  fd__law_is_so : FuncData
  F__law_is_so : Fun K "_law_is_so" "_law_is_so" s__law_is_so f__law_is_so fd__law_is_so
  b__law_is_so : Binds K fd__law_is_so ["_law_word", "_law_gap"] []
  g__law_is_so : mg "_law_is_so" = some (.ref f__law_is_so)
  k__law_is_so : PySem.W.keepIn K (.ref f__law_is_so) = true
  f__law_right : Addr
  fd__law_right : FuncData
  F__law_right : Fun K "_law_right" "_law_right" s__law_right f__law_right fd__law_right
  b__law_right : Binds K fd__law_right ["_law_deck_here"] []
  g__law_right : mg "_law_right" = some (.ref f__law_right)
  k__law_right : PySem.W.keepIn K (.ref f__law_right) = true
  f__law_refused : Addr
  fd__law_refused : FuncData
  F__law_refused : Fun K "_law_refused" "_law_refused" s__law_refused f__law_refused fd__law_refused
  b__law_refused : Binds K fd__law_refused ["_law_ask"] []
  g__law_refused : mg "_law_refused" = some (.ref f__law_refused)
  k__law_refused : PySem.W.keepIn K (.ref f__law_refused) = true
  f__law_none_right : Addr
  fd__law_none_right : FuncData
  c__law_none_right : Addr
  P__law_none_right : Addr
  F__law_none_right : FunT K "_law_none_right" "_law_none_right" s__law_none_right f__law_none_right fd__law_none_right c__law_none_right
  mT__law_none_right : (P__law_none_right, ("_law_none_right" : Str) ++ ".<locals>." ++ "<lambda>") ∈ tabs
  uT__law_none_right : ∀ p ∈ tabs, p.1 = P__law_none_right → p.2 = ("_law_none_right" : Str) ++ ".<locals>." ++ "<lambda>"
  b__law_none_right : Binds K fd__law_none_right ["_law_deck_here"] []
  g__law_none_right : mg "_law_none_right" = some (.ref f__law_none_right)
  k__law_none_right : PySem.W.keepIn K (.ref f__law_none_right) = true
  f__law_named_right : Addr
  fd__law_named_right : FuncData
  F__law_named_right : Fun K "_law_named_right" "_law_named_right" s__law_named_right f__law_named_right fd__law_named_right
  b__law_named_right : Binds K fd__law_named_right [] []
  g__law_named_right : mg "_law_named_right" = some (.ref f__law_named_right)
  k__law_named_right : PySem.W.keepIn K (.ref f__law_named_right) = true
  f_law : Addr
  fd_law : FuncData
  F_law : Fun K "law" "law" s_law f_law fd_law
  b_law : Binds K fd_law ["_law_script"] []
  g_law : mg "law" = some (.ref f_law)
  k_law : PySem.W.keepIn K (.ref f_law) = true
  mk_Walk : Mk K C_Walk f_Walk___init__
  mk_Kind : Mk K C_Kind f_Kind___init__
  m_Walk_cost : Meth K C_Walk "cost" f_Walk_cost
  m_Walk_marked_steps : Meth K C_Walk "marked_steps" f_Walk_marked_steps
  m_Walk_mirrored : Meth K C_Walk "mirrored" f_Walk_mirrored
  m_Walk_of_laps : Meth K C_Walk "of_laps" f_Walk_of_laps
  m_Walk_steps_for : Meth K C_Walk "steps_for" f_Walk_steps_for
  kb_compares_0_x_other_relation_one_kind : KBinds K fd_compares ["kind", "one", "relation", "other", "x"] ["x", "other", "relation", "one", "kind"] p_kb_compares_0_x_other_relation_one_kind p_kb_compares_0_x_other_relation_one_kind
  kb_holds_0_last_first_other_relation_one_kind : KBinds K fd_holds ["kind", "one", "relation", "other", "first", "last"] ["last", "first", "other", "relation", "one", "kind"] p_kb_holds_0_last_first_other_relation_one_kind p_kb_holds_0_last_first_other_relation_one_kind
  kb_first_holding_0_last_first_other_relation_one_kind : KBinds K fd_first_holding ["kind", "one", "relation", "other", "first", "last"] ["last", "first", "other", "relation", "one", "kind"] p_kb_first_holding_0_last_first_other_relation_one_kind p_kb_first_holding_0_last_first_other_relation_one_kind
  kb_last_holding_0_last_first_other_relation_one_kind : KBinds K fd_last_holding ["kind", "one", "relation", "other", "first", "last"] ["last", "first", "other", "relation", "one", "kind"] p_kb_last_holding_0_last_first_other_relation_one_kind p_kb_last_holding_0_last_first_other_relation_one_kind
  kb_holding_at_0_j_last_first_other_relation_one_kind : KBinds K fd_holding_at ["kind", "one", "relation", "other", "first", "last", "j"] ["j", "last", "first", "other", "relation", "one", "kind"] p_kb_holding_at_0_j_last_first_other_relation_one_kind p_kb_holding_at_0_j_last_first_other_relation_one_kind
  t_BEYOND_SIXTY_DIGITS : Tok
  g_BEYOND_SIXTY_DIGITS : mg "BEYOND_SIXTY_DIGITS" = some (.int 1000000000000000000000000000000000000000000000000000000000000 t_BEYOND_SIXTY_DIGITS)
  a_RELATIONS : Addr
  g_RELATIONS : mg "RELATIONS" = some (.ref a_RELATIONS)
  q_RELATIONS : ∀ H : Hp, SqT K H a_RELATIONS [.str "<", .str "<=", .str "==", .str "!=", .str ">=", .str ">"]
  a_OPPOSITES : Addr
  g_OPPOSITES : mg "OPPOSITES" = some (.ref a_OPPOSITES)
  es_OPPOSITES : Array DictEntry
  n_OPPOSITES : Nat
  l_OPPOSITES : K.lookup a_OPPOSITES = some ⟨.type "dict", none, .dict es_OPPOSITES n_OPPOSITES, #[]⟩
  v_OPPOSITES_0 : ∃ t, PySem.W.nsIn K a_OPPOSITES "<" = some (some (.str ">=" t))
  v_OPPOSITES_1 : ∃ t, PySem.W.nsIn K a_OPPOSITES "<=" = some (some (.str ">" t))
  v_OPPOSITES_2 : ∃ t, PySem.W.nsIn K a_OPPOSITES "==" = some (some (.str "!=" t))
  v_OPPOSITES_3 : ∃ t, PySem.W.nsIn K a_OPPOSITES "!=" = some (some (.str "==" t))
  v_OPPOSITES_4 : ∃ t, PySem.W.nsIn K a_OPPOSITES ">=" = some (some (.str "<" t))
  v_OPPOSITES_5 : ∃ t, PySem.W.nsIn K a_OPPOSITES ">" = some (some (.str "<=" t))
  t_MOST_BITS : Tok
  g_MOST_BITS : mg "MOST_BITS" = some (.int 128 t_MOST_BITS)
  n_abs : mg "abs" = none
  n_bool : mg "bool" = none
  n_divmod : mg "divmod" = none
  n_int : mg "int" = none
  n_isinstance : mg "isinstance" = none
  n_len : mg "len" = none
  n_max : mg "max" = none
  n_min : mg "min" = none
  n_range : mg "range" = none
  n_reversed : mg "reversed" = none
  n_str : mg "str" = none
  n_sum : mg "sum" = none
  n_tuple : mg "tuple" = none
  bl_law : ∀ (s : Shared) (v : Value), BindsTo s fd_law ⟨[v], []⟩ [("_law_script", v)]
structure TBs {K : PySem.W.Frag} {mg : Str → Option Value} (T : Txt K mg) (base : Heap) (w : World) (P : Program) : Prop where
  lit_OPPOSITES : PySem.W.KeysLit w.params T.es_OPPOSITES.toList
  tb__holding : LamX.TabB base mg T.c__holding T.P__holding
  tb__law_none_right : LamX.TabB base mg T.c__law_none_right T.P__law_none_right
  px : PX P T.fl
structure TI {K : PySem.W.Frag} {mg : Str → Option Value} (T : Txt K mg) (w : World) (P : Program) : Prop where
  px : PX P T.fl
  lit_OPPOSITES : PySem.W.KeysLit w.params T.es_OPPOSITES.toList
  eq : T.tabs = [(T.P__holding, ("_holding" : Str) ++ ".<locals>." ++ "<lambda>"), (T.P__law_none_right, ("_law_none_right" : Str) ++ ".<locals>." ++ "<lambda>")]
  ti__holding : PySem.W.tabIn K "_holding" = some (T.c__holding, T.P__holding)
  ti__law_none_right : PySem.W.tabIn K "_law_none_right" = some (T.c__law_none_right, T.P__law_none_right)

section
variable {K : PySem.W.Frag} {mg : Str → Option Value} {H : Hp} {Q : VK} {C p : Addr} {wd : Nat} {s : Bool}
theorem w_isi {v : V} {t c : String} {b : Bool} (ty : TyX K H v (.type t)) (e : kitB t c = some b) (q : Q (.bl b) H) : rIsi K [v, .ty c] H Q := ⟨_, _, _, _, b, rfl, .ty c, ty, kit_ty e, q⟩
theorem w_isK (T : Txt K mg) (k : Kd T.C_Kind H p wd s) (q : Q (.bl true) H) : rIsi K [.ref p, .ref T.C_Kind] H Q := by
  obtain ⟨⟨dx, e⟩, _, _⟩ := k
  exact ⟨_, _, _, _, true, rfl, .own _, .base (.ins e T.cl_Kind T.ia_Kind T.ib_Kind T.ic_Kind T.id_Kind), (by unfold PySem.W.kitOne; rw [if_pos (by simp)]), q⟩
theorem w_fb {i : Nat} {σ : L2.St} (T : Txt K mg) (hs : σ[i]? = some (some (.ref p))) (k : Kd T.C_Kind H p wd s) (q : Q (.int (wd : Int)) H) : tFld K (tVar i) "bits" σ H Q := by
  obtain ⟨⟨dx, e⟩, _, _⟩ := k
  exact ⟨_, hs, p, _, dx, _, _, rfl, e, T.cl_Kind, T.na_Kind_bits, kf_bits _ _, q⟩
theorem w_fs {i : Nat} {σ : L2.St} (T : Txt K mg) (hs : σ[i]? = some (some (.ref p))) (k : Kd T.C_Kind H p wd s) (q : Q (.bl s) H) : tFld K (tVar i) "is_signed" σ H Q := by
  obtain ⟨⟨dx, e⟩, _, _⟩ := k
  exact ⟨_, hs, p, _, dx, _, _, rfl, e, T.cl_Kind, T.na_Kind_is_signed, kf_sign _ _, q⟩
end


section
variable {K : PySem.W.Frag} {H : Hp} {σ : L2.St} {Q : VK}
theorem w_iTup {tl : TE} {R : It → Hp → Prop} (q : tl σ H fun x H1 => ∃ a, x = .ref a ∧ (∃ xs, SqT K H1 a xs) ∧ R (Itt K a) H1) : iTup K tl σ H R := q
theorem w_eqD {x y : V} {d e : PyData} (hx : Dp K H x d) (hy : Dp K H y e) (sd : SeqAt.shaped d = true) (se : SeqAt.shaped e = true) (q : Q (.bl (PyData.eqv d e)) H) : rEqD K x y H Q := ⟨d, e, hx, hy, sd, se, q⟩
theorem w_neD {x y : V} {d e : PyData} (hx : Dp K H x d) (hy : Dp K H y e) (sd : SeqAt.shaped d = true) (se : SeqAt.shaped e = true) (q : Q (.bl (!PyData.eqv d e)) H) : rNeD K x y H Q := ⟨d, e, hx, hy, sd, se, q⟩
end

section
variable {K : PySem.W.Frag} {H : Hp} {σ : L2.St} {Q : VK}
theorem w_neL {a b : Addr} {is js : List Int} (ha : H a = some (.lst (is.map V.int))) (hb : H b = some (.lst (js.map V.int))) (q : Q (.bl (!decide (is = js))) H) : rNeD K (.ref a) (.ref b) H Q :=
  ⟨_, _, .lst (SqL.of ha) (dp_ints is), .lst (SqL.of hb) (dp_ints js), shaped_ints is, shaped_ints js, by
    rw [show PyData.eqv (.list (is.map PyData.int)) (.list (js.map PyData.int)) = PyData.eqvAll (is.map PyData.int) (js.map PyData.int) from by simp only [PyData.eqv], eqv_ints]
    exact q⟩
theorem w_eqL {a b : Addr} {is js : List Int} (ha : H a = some (.lst (is.map V.int))) (hb : H b = some (.lst (js.map V.int))) (q : Q (.bl (decide (is = js))) H) : rEqD K (.ref a) (.ref b) H Q :=
  ⟨_, _, .lst (SqL.of ha) (dp_ints is), .lst (SqL.of hb) (dp_ints js), shaped_ints is, shaped_ints js, by
    rw [show PyData.eqv (.list (is.map PyData.int)) (.list (js.map PyData.int)) = PyData.eqvAll (is.map PyData.int) (js.map PyData.int) from by simp only [PyData.eqv], eqv_ints]
    exact q⟩
theorem w_vals {c : Prop} [Decidable c] {ta tb : TE} (R : V → Hp → Prop) (h1 : c → ∀ Q : VK, (∀ x H', R x H' → Q x H') → ta σ H Q) (h2 : ¬ c → ∀ Q : VK, (∀ x H', R x H' → Q x H') → tb σ H Q) (q : ∀ x H', R x H' → Q x H') : if decide c = true then ta σ H Q else tb σ H Q := w_dec (fun z => h1 z Q q) (fun z => h2 z Q q)
theorem w_gunl {n : Nat} {t : TGs} {a : Addr} {xs : List V} {Q : L2.St → Hp → Prop} (h : H a = some (.lst xs)) (l : xs.length = n) (q : t xs σ H Q) : gUnl K n t (.ref a) σ H Q := ⟨a, xs, rfl, SqL.of h, l, q⟩
theorem w_iRngL {ta : TA} {R : It → Hp → Prop} (q : ta σ H fun vs H1 => ∃ i j : Int, vs = [.int i, .int j] ∧ R (Itr i (j - i).toNat) H1) : iRngL ta σ H R := q
theorem w_sum {a : Addr} {ns : List Int} (h : H a = some (.lst (ns.map V.int))) (q : Q (.int ns.sum) H) : rSum K [.ref a] H Q := ⟨a, ns, rfl, SqL.of h, q⟩
theorem w_neOpt {x y : V} (hx : x = .non ∨ ∃ i, x = .int i) (hy : y = .non ∨ ∃ i, y = .int i) (q : Q (.bl (!decide (x = y))) H) : rNe x y H Q := ⟨by
  rcases hx with rfl | ⟨i, rfl⟩ <;> rcases hy with rfl | ⟨j, rfl⟩ <;> rfl, q⟩
theorem w_eqOpt {x y : V} (hx : x = .non ∨ ∃ i, x = .int i) (hy : y = .non ∨ ∃ i, y = .int i) (q : Q (.bl (decide (x = y))) H) : rEq x y H Q := ⟨by
  rcases hx with rfl | ⟨i, rfl⟩ <;> rcases hy with rfl | ⟨j, rfl⟩ <;> rfl, q⟩
end
theorem at_m1 {xs : List V} {v : V} (h : xs[xs.length - 1]? = some v) : atI xs (-1) = some v := by
  have hne : xs ≠ [] := fun z => by rw [z] at h; cases h
  have e := (List.dropLast_concat_getLast hne).symm
  rw [e] at h ⊢
  rw [List.length_append, List.length_singleton, Nat.add_sub_cancel, List.getElem?_append_right (Nat.le_refl _), Nat.sub_self] at h
  rw [← Option.some.inj h]
  exact atI_last _ _
theorem FirstOf.opt {p : Int → Bool} {f l : Int} {v : V} (h : FirstOf p f l v) : v = .non ∨ ∃ i, v = .int i := by
  rcases h with ⟨h, _⟩ | ⟨x, h, _⟩
  · exact .inl h
  · exact .inr ⟨x, h⟩
theorem LastOf.opt {p : Int → Bool} {f l : Int} {v : V} (h : LastOf p f l v) : v = .non ∨ ∃ i, v = .int i := by
  rcases h with ⟨h, _⟩ | ⟨x, h, _⟩
  · exact .inl h
  · exact .inr ⟨x, h⟩
theorem first_nil {p : Int → Bool} {f l : Int} {n : Nat} {v : V} (h : l - f + 1 = n) (e : wl p f n = []) (hf : FirstOf p f l v) : v = .non := by
  rcases hf with ⟨h1, _⟩ | ⟨x, _, x1, x2, px, _⟩
  · exact h1
  · have : x ∈ wl p f n := wl_mem.mpr ⟨x1, by omega, px⟩
    rw [e] at this; cases this
theorem last_nil {p : Int → Bool} {f l : Int} {n : Nat} {v : V} (h : l - f + 1 = n) (e : wl p f n = []) (hf : LastOf p f l v) : v = .non := by
  rcases hf with ⟨h1, _⟩ | ⟨x, _, x1, x2, px, _⟩
  · exact h1
  · have : x ∈ wl p f n := wl_mem.mpr ⟨x1, by omega, px⟩
    rw [e] at this; cases this
theorem first_get {p : Int → Bool} {f l : Int} {n : Nat} {v : V} {y : Int} (h : l - f + 1 = n) (e : (wl p f n)[0]? = some y) (hf : FirstOf p f l v) : v = .int y := by
  rcases hf with ⟨_, h0⟩ | ⟨x, rfl, x1, x2, px, x3⟩
  · rw [(wl_nil h).mpr h0] at e; cases e
  · rw [wl_at e x1 px x3]
theorem last_get {p : Int → Bool} {f l : Int} {n : Nat} {v : V} {y : Int} (h : l - f + 1 = n) (e : (wl p f n)[(wl p f n).length - 1]? = some y) (hf : LastOf p f l v) : v = .int y := by
  rcases hf with ⟨_, h0⟩ | ⟨x, rfl, x1, x2, px, x3⟩
  · rw [(wl_nil h).mpr h0] at e; cases e
  · have t := wl_tot (p := p) h
    have s := tot_split p (first := f) (mid := x) (last := l) (by omega) x2
    rw [x3, tot_step p x1, if_pos px] at s
    have nn := tot_nonneg p f (x - 1)
    have yj : tot p f (x - 1) = (((wl p f n).length - 1 : Nat) : Int) := by omega
    rw [wl_at e x1 px yj]

section
variable {K : PySem.W.Frag} {mg : Str → Option Value} {H : Hp} {Q : VK} {p : Addr} {w : Wk}
theorem w_fW {i : Nat} {σ : L2.St} {f : Str} {v : V} (T : Txt K mg) (hs : σ[i]? = some (some (.ref p))) (k : Wd T.C_Walk H p w) (n : NoAttr K T.C_Walk f) (e : (wkf w).lookup f = some v) (q : Q v H) : tFld K (tVar i) f σ H Q := by
  obtain ⟨dx, h⟩ := k
  exact ⟨_, hs, p, _, dx, _, _, rfl, h, T.cl_Walk, n, e, q⟩
end

theorem w_mW {K : PySem.W.Frag} {mg : Str → Option Value} {H : Hp} {C : Addr} {p : Addr} {w : Wk} {f : Str} {P : Addr → Addr → List (Str × V) → Prop} (k : Wd C H p w) (e : (wkf w).lookup f = none) (q : ∀ dx, P p dx (wkf w)) : ∃ a dx fs, V.ref p = .ref a ∧ H a = some (.ins C dx fs) ∧ fs.lookup f = none ∧ P a dx fs := by
  obtain ⟨dx, h⟩ := k
  exact ⟨p, dx, _, rfl, h, e, q dx⟩

theorem opp_kd {K : PySem.W.Frag} {mg : Str → Option Value} {base : Heap} {w : World} {P : Program} {T : Txt K mg} (B : TBs T base w P) {z : Str} (hz : Rel z) : KDct K w T.a_OPPOSITES z (.str (opp z)) := by
  have f : ∀ {x y : Str}, (∃ t, PySem.W.nsIn K T.a_OPPOSITES x = some (some (.str y t))) → KDct K w T.a_OPPOSITES x (.str y) := fun ⟨t, e⟩ => ⟨_, _, _, T.l_OPPOSITES, B.lit_OPPOSITES, e, ⟨t, rfl⟩⟩
  rcases hz with rfl | rfl | rfl | rfl | rfl | rfl
  · rw [show opp "<" = ">=" from by decide +kernel]; exact f T.v_OPPOSITES_0
  · rw [show opp "<=" = ">" from by decide +kernel]; exact f T.v_OPPOSITES_1
  · rw [show opp "==" = "!=" from by decide +kernel]; exact f T.v_OPPOSITES_2
  · rw [show opp "!=" = "==" from by decide +kernel]; exact f T.v_OPPOSITES_3
  · rw [show opp ">=" = "<" from by decide +kernel]; exact f T.v_OPPOSITES_4
  · rw [show opp ">" = "<=" from by decide +kernel]; exact f T.v_OPPOSITES_5
theorem kbinds_of {K : PySem.W.Frag} {x qual : Str} {st : Stmt} {f : Addr} {fd : FuncData} {ps ks : List Str} {g : List Value → List Value → List Value} {gV : List V → List V → List V} (F : Fun K x qual st f fd)
    (h : ∀ (kV doc pm : Value) (an : Option Addr) (cdv ct : Value) (us ws : List Value), (g us ws).length = ps.length → bindArgs (PySem.W.fnOf x qual (defArgs st) (defBody st) (defScope st) .none kV doc pm an cdv ct) ⟨us, ks.zip ws⟩ = pure (ps.zip (g us ws)))
    (hrel : ∀ {vs : List V} {us : List Value} {zs : List V} {ws : List Value}, Vals vs us → Vals zs ws → Vals (gV vs zs) (g us ws)) : KBinds K fd ps ks g gV := by
  obtain ⟨oc, od, kV, doc, pm, an, cdv, ct, osl, rfl, lk, hcd⟩ := F.ex
  exact ⟨fun s us ws _ hl => .of_eq (h kV doc pm an cdv ct us ws hl), hrel⟩
theorem rel_kb_compares_0_x_other_relation_one_kind {vs : List V} {us : List Value} {zs : List V} {ws : List Value} (r : Vals vs us) (rz : Vals zs ws) : Vals (p_kb_compares_0_x_other_relation_one_kind vs zs) (p_kb_compares_0_x_other_relation_one_kind us ws) := by
  cases r with
  | cons _ _ => exact .nil
  | nil =>
    cases rz with
    | nil => exact .nil
    | cons k0 z0 =>
      cases z0 with
      | nil => exact .nil
      | cons k1 z1 =>
        cases z1 with
        | nil => exact .nil
        | cons k2 z2 =>
          cases z2 with
          | nil => exact .nil
          | cons k3 z3 =>
            cases z3 with
            | nil => exact .nil
            | cons k4 z4 =>
              cases z4 with
              | cons _ _ => exact .nil
              | nil => exact (.cons k4 (.cons k3 (.cons k2 (.cons k1 (.cons k0 .nil)))))
theorem rel_kb_holds_0_last_first_other_relation_one_kind {vs : List V} {us : List Value} {zs : List V} {ws : List Value} (r : Vals vs us) (rz : Vals zs ws) : Vals (p_kb_holds_0_last_first_other_relation_one_kind vs zs) (p_kb_holds_0_last_first_other_relation_one_kind us ws) := by
  cases r with
  | cons _ _ => exact .nil
  | nil =>
    cases rz with
    | nil => exact .nil
    | cons k0 z0 =>
      cases z0 with
      | nil => exact .nil
      | cons k1 z1 =>
        cases z1 with
        | nil => exact .nil
        | cons k2 z2 =>
          cases z2 with
          | nil => exact .nil
          | cons k3 z3 =>
            cases z3 with
            | nil => exact .nil
            | cons k4 z4 =>
              cases z4 with
              | nil => exact .nil
              | cons k5 z5 =>
                cases z5 with
                | cons _ _ => exact .nil
                | nil => exact (.cons k5 (.cons k4 (.cons k3 (.cons k2 (.cons k1 (.cons k0 .nil))))))
theorem rel_kb_first_holding_0_last_first_other_relation_one_kind {vs : List V} {us : List Value} {zs : List V} {ws : List Value} (r : Vals vs us) (rz : Vals zs ws) : Vals (p_kb_first_holding_0_last_first_other_relation_one_kind vs zs) (p_kb_first_holding_0_last_first_other_relation_one_kind us ws) := by
  cases r with
  | cons _ _ => exact .nil
  | nil =>
    cases rz with
    | nil => exact .nil
    | cons k0 z0 =>
      cases z0 with
      | nil => exact .nil
      | cons k1 z1 =>
        cases z1 with
        | nil => exact .nil
        | cons k2 z2 =>
          cases z2 with
          | nil => exact .nil
          | cons k3 z3 =>
            cases z3 with
            | nil => exact .nil
            | cons k4 z4 =>
              cases z4 with
              | nil => exact .nil
              | cons k5 z5 =>
                cases z5 with
                | cons _ _ => exact .nil
                | nil => exact (.cons k5 (.cons k4 (.cons k3 (.cons k2 (.cons k1 (.cons k0 .nil))))))
theorem rel_kb_last_holding_0_last_first_other_relation_one_kind {vs : List V} {us : List Value} {zs : List V} {ws : List Value} (r : Vals vs us) (rz : Vals zs ws) : Vals (p_kb_last_holding_0_last_first_other_relation_one_kind vs zs) (p_kb_last_holding_0_last_first_other_relation_one_kind us ws) := by
  cases r with
  | cons _ _ => exact .nil
  | nil =>
    cases rz with
    | nil => exact .nil
    | cons k0 z0 =>
      cases z0 with
      | nil => exact .nil
      | cons k1 z1 =>
        cases z1 with
        | nil => exact .nil
        | cons k2 z2 =>
          cases z2 with
          | nil => exact .nil
          | cons k3 z3 =>
            cases z3 with
            | nil => exact .nil
            | cons k4 z4 =>
              cases z4 with
              | nil => exact .nil
              | cons k5 z5 =>
                cases z5 with
                | cons _ _ => exact .nil
                | nil => exact (.cons k5 (.cons k4 (.cons k3 (.cons k2 (.cons k1 (.cons k0 .nil))))))
theorem rel_kb_holding_at_0_j_last_first_other_relation_one_kind {vs : List V} {us : List Value} {zs : List V} {ws : List Value} (r : Vals vs us) (rz : Vals zs ws) : Vals (p_kb_holding_at_0_j_last_first_other_relation_one_kind vs zs) (p_kb_holding_at_0_j_last_first_other_relation_one_kind us ws) := by
  cases r with
  | cons _ _ => exact .nil
  | nil =>
    cases rz with
    | nil => exact .nil
    | cons k0 z0 =>
      cases z0 with
      | nil => exact .nil
      | cons k1 z1 =>
        cases z1 with
        | nil => exact .nil
        | cons k2 z2 =>
          cases z2 with
          | nil => exact .nil
          | cons k3 z3 =>
            cases z3 with
            | nil => exact .nil
            | cons k4 z4 =>
              cases z4 with
              | nil => exact .nil
              | cons k5 z5 =>
                cases z5 with
                | nil => exact .nil
                | cons k6 z6 =>
                  cases z6 with
                  | cons _ _ => exact .nil
                  | nil => exact (.cons k6 (.cons k5 (.cons k4 (.cons k3 (.cons k2 (.cons k1 (.cons k0 .nil)))))))
local macro_rules | `(tactic| walk_at "kq") => `(tactic| first
  | exact Fw.Kq.refl _
  | assumption
  | (refine Fw.Kq.new ?_ (by assumption); walk_at "kq")
  | (refine Fw.Kq.trans ?_ (by assumption); walk_at "kq")
  | (refine Fw.Kq.sm ?_ (by assumption); walk_at "kq")
  | (refine Fw.Kq.same ?_ (by assumption); walk_at "kq"))
def sp_Walk___init__ (K : PySem.W.Frag) (C : Addr) (C_Walk : Addr) (C_InvalidBound : Addr) (TS : List (Addr × Str)) : Sp := fun vs H Q _ => ∃ (p : Addr) (w : Wk), vs = [.ref p, .int w.s, .int w.t, .int w.m, .int w.e, .int w.k, .int w.r] ∧ (∃ dx, H p = some (.ins C_Walk dx [])) ∧ ∀ H', Wd C_Walk H' p w → Kp p H H' → Q .non H'
theorem ok_Walk___init__ {P : Program} {w : World} {K : PySem.W.Frag} {mg : Str → Option Value} {base : Heap} (T : Txt K mg) (B : TBs T base w P) : FnOk P w K mg base CX0 1 T.f_Walk___init__ T.fd_Walk___init__ ["self", "size", "step", "marks", "each", "marked", "around"] (sp_Walk___init__ K T.C_Kind T.C_Walk T.C_InvalidBound T.tabs) := by
  refine T.F_Walk___init__.ok sc_Walk___init__ (fun vs H Q E h => ?_) (fun cdv A outer s H vs Q E hr h => ?_)
  · obtain ⟨p, w, rfl, _⟩ := h
    rfl
  · obtain ⟨p, w, rfl, h⟩ := h
    refine ⟨_, (pss_cons (ps_fld (pv 0 (hv := Or.inl rfl)) (pv 1 (hv := Or.inl rfl)) rfl)
      (pss_cons (ps_fld (pv 0 (hv := Or.inl rfl)) (pv 2 (hv := Or.inl rfl)) rfl)
      (pss_cons (ps_fld (pv 0 (hv := Or.inl rfl)) (pv 3 (hv := Or.inl rfl)) rfl)
      (pss_cons (ps_fld (pv 0 (hv := Or.inl rfl)) (pv 4 (hv := Or.inl rfl)) rfl)
      (pss_cons (ps_fld (pv 0 (hv := Or.inl rfl)) (pv 5 (hv := Or.inl rfl)) rfl)
      (pss_one (ps_fld (pv 0 (hv := Or.inl rfl)) (pv 6 (hv := Or.inl rfl)) rfl))))))), ?_⟩
    try dsimp only [cxOf, Cx.nox, Cx.wish, Cx.blk]
    rw [show L2.start ["self", "size", "step", "marks", "each", "marked", "around"] [.ref p, .int w.s, .int w.t, .int w.m, .int w.e, .int w.k, .int w.r] = [some (.ref p), some (.int w.s), some (.int w.t), some (.int w.m), some (.int w.e), some (.int w.k), some (.int w.r)] from rfl]
    obtain ⟨⟨dx, hp⟩, k⟩ := h
    walk_at "rd"
    refine ⟨p, _, dx, _, rfl, hp, T.cl_Walk, T.na_Walk_size, (by show 0 < 1000; decide), ?_⟩
    walk_at "rd"
    refine ⟨p, _, dx, _, rfl, upd_same, T.cl_Walk, T.na_Walk_step, (by show 1 < 1000; decide), ?_⟩
    walk_at "rd"
    refine ⟨p, _, dx, _, rfl, upd_same, T.cl_Walk, T.na_Walk_marks, (by show 2 < 1000; decide), ?_⟩
    walk_at "rd"
    refine ⟨p, _, dx, _, rfl, upd_same, T.cl_Walk, T.na_Walk_each, (by show 3 < 1000; decide), ?_⟩
    walk_at "rd"
    refine ⟨p, _, dx, _, rfl, upd_same, T.cl_Walk, T.na_Walk_marked, (by show 4 < 1000; decide), ?_⟩
    walk_at "rd"
    refine ⟨p, _, dx, _, rfl, upd_same, T.cl_Walk, T.na_Walk_around, (by show 5 < 1000; decide), ?_⟩
    refine k _ ⟨dx, ?_⟩ ((Kp.refl p H).upd.upd.upd.upd.upd.upd)
    rw [upd_same]
    exact congrArg (fun f => some (HO.ins _ _ f)) (putW w)
def sp_Walk_mirrored (K : PySem.W.Frag) (C : Addr) (C_Walk : Addr) (C_InvalidBound : Addr) (TS : List (Addr × Str)) : Sp := fun vs H Q _ => ∃ (p : Addr) (w : Wk), vs = [.ref p] ∧ Wd C_Walk H p w ∧ ∀ q H', Same H H' → Wd C_Walk H' q w.mir → Q (.ref q) H'
theorem ok_Walk_mirrored {P : Program} {w : World} {K : PySem.W.Frag} {mg : Str → Option Value} {base : Heap} (T : Txt K mg) (B : TBs T base w P) : FnOk P w K mg base CX0 3 T.f_Walk_mirrored T.fd_Walk_mirrored ["self"] (sp_Walk_mirrored K T.C_Kind T.C_Walk T.C_InvalidBound T.tabs) := by
  have G_Walk___init__ := ok_Walk___init__ (P := P) (w := w) (base := base) T B
  refine T.F_Walk_mirrored.ok sc_Walk_mirrored (fun vs H Q E h => ?_) (fun cdv A outer s H vs Q E hr h => ?_)
  · obtain ⟨p, w, rfl, _⟩ := h
    rfl
  · obtain ⟨p, w, rfl, h⟩ := h
    have hr_Walk___init__ : Room 2 _ := hr.mono (by decide)
    refine ⟨_, (pss_cons (ps_set (i := 1) sc_Walk_mirrored.nd rfl (Or.inl rfl) (pe_op op_add (pe_op op_add (pe_fld (pv 0 (hv := Or.inl rfl)) rfl) (pe_fld (pv 0 (hv := Or.inl rfl)) rfl)) (pe_fld (pv 0 (hv := Or.inl rfl)) rfl)))
      (pss_one (ps_ret (pe_make T.mk_Walk G_Walk___init__ hr_Walk___init__ rfl T.g_Walk T.b_Walk___init__ .nil pass0 (pa_cons (pe_fld (pv 0 (hv := Or.inl rfl)) rfl) (pa_cons (pe_op op_sub (pe_fld (pv 0 (hv := Or.inl rfl)) rfl) (pe_fld (pv 0 (hv := Or.inl rfl)) rfl)) (pa_cons (pe_op op_sub (pe_fld (pv 0 (hv := Or.inl rfl)) rfl) (pe_fld (pv 0 (hv := Or.inl rfl)) rfl)) (pa_cons (pv 1 (hv := Or.inl rfl)) (pa_cons (pe_un un_neg (pe_fld (pv 0 (hv := Or.inl rfl)) rfl)) (pa_cons (pe_un un_neg (pe_fld (pv 0 (hv := Or.inl rfl)) rfl)) pa_nil)))))))))), ?_⟩
    try dsimp only [cxOf, Cx.nox, Cx.wish, Cx.blk]
    rw [show L2.start ["self", "each"] [.ref p] = [some (.ref p), none] from rfl]
    obtain ⟨hw, k⟩ := h
    walk_at "rd"
    refine w_fW T rfl hw T.na_Walk_each (wk4 w) ?_
    walk_at "rd"
    refine w_fW T rfl hw T.na_Walk_marked (wk5 w) ?_
    walk_at "rd"
    refine w_fW T rfl hw T.na_Walk_around (wk6 w) ?_
    walk_at "rd"
    refine w_fW T rfl hw T.na_Walk_size (wk1 w) ?_
    walk_at "rd"
    refine w_fW T rfl hw T.na_Walk_size (wk1 w) ?_
    walk_at "rd"
    refine w_fW T rfl hw T.na_Walk_step (wk2 w) ?_
    walk_at "rd"
    refine w_fW T rfl hw T.na_Walk_size (wk1 w) ?_
    walk_at "rd"
    refine w_fW T rfl hw T.na_Walk_marks (wk3 w) ?_
    walk_at "rd"
    refine w_fW T rfl hw T.na_Walk_marked (wk5 w) ?_
    walk_at "rd"
    refine w_fW T rfl hw T.na_Walk_around (wk6 w) ?_
    walk_at "rd"
    intro kx dx nx ndx nex
    refine ⟨kx, w.mir, rfl, ⟨dx, upd_same⟩, fun H3 hk kp3 => ⟨rfl, ?_⟩⟩
    exact k kx H3 (fun b o e => kp3 b o (ne_of_none e nx) (by rw [upd_ne (ne_of_none e nx), upd_ne (ne_of_none e ndx)]; exact e)) hk
def sp_Walk_of_laps (K : PySem.W.Frag) (C : Addr) (C_Walk : Addr) (C_InvalidBound : Addr) (TS : List (Addr × Str)) : Sp := fun vs H Q _ => ∃ (p : Addr) (w : Wk), vs = [.ref p] ∧ Wd C_Walk H p w ∧ 0 < w.t ∧ WF w ∧ WkB w ∧ ∀ q H', Same H H' → Wd C_Walk H' q w.laps → Q (.ref q) H'
theorem ok_Walk_of_laps {P : Program} {w : World} {K : PySem.W.Frag} {mg : Str → Option Value} {base : Heap} (T : Txt K mg) (B : TBs T base w P) : FnOk P w K mg base CX0 3 T.f_Walk_of_laps T.fd_Walk_of_laps ["self"] (sp_Walk_of_laps K T.C_Kind T.C_Walk T.C_InvalidBound T.tabs) := by
  have G_Walk___init__ := ok_Walk___init__ (P := P) (w := w) (base := base) T B
  refine T.F_Walk_of_laps.ok sc_Walk_of_laps (fun vs H Q E h => ?_) (fun cdv A outer s H vs Q E hr h => ?_)
  · obtain ⟨p, w, rfl, _⟩ := h
    rfl
  · obtain ⟨p, w, rfl, h⟩ := h
    have hr_Walk___init__ : Room 2 _ := hr.mono (by decide)
    refine ⟨_, (pss_cons (ps_set (i := 1) sc_Walk_of_laps.nd rfl (Or.inl rfl) (pe_un un_neg (pe_op op_fdivW (pe_un un_neg (pe_fld (pv 0 (hv := Or.inl rfl)) rfl)) (pe_fld (pv 0 (hv := Or.inl rfl)) rfl))))
      (pss_cons (ps_set (i := 2) sc_Walk_of_laps.nd rfl (Or.inl rfl) (pe_op op_sub (pe_op op_mulX (pv 1 (hv := Or.inl rfl)) (pe_fld (pv 0 (hv := Or.inl rfl)) rfl)) (pe_fld (pv 0 (hv := Or.inl rfl)) rfl)))
      (pss_cons (ps_set (i := 3) sc_Walk_of_laps.nd rfl (Or.inl rfl) (pe_op op_add (pe_op op_add (pe_op op_mulX (pv 1 (hv := Or.inl rfl)) (pe_fld (pv 0 (hv := Or.inl rfl)) rfl)) (pe_op op_mulX (pe_op op_fdivW (pe_fld (pv 0 (hv := Or.inl rfl)) rfl) (pe_fld (pv 0 (hv := Or.inl rfl)) rfl)) (pe_fld (pv 0 (hv := Or.inl rfl)) rfl))) (pe_fld (pv 0 (hv := Or.inl rfl)) rfl)))
      (pss_one (ps_ret (pe_make T.mk_Walk G_Walk___init__ hr_Walk___init__ rfl T.g_Walk T.b_Walk___init__ .nil pass0 (pa_cons (pe_fld (pv 0 (hv := Or.inl rfl)) rfl) (pa_cons (pv 2 (hv := Or.inl rfl)) (pa_cons (pe_op op_mod (pe_fld (pv 0 (hv := Or.inl rfl)) rfl) (pe_fld (pv 0 (hv := Or.inl rfl)) rfl)) (pa_cons (pv 3 (hv := Or.inl rfl)) (pa_cons (pe_fld (pv 0 (hv := Or.inl rfl)) rfl) (pa_cons (pe_un un_neg (pe_fld (pv 0 (hv := Or.inl rfl)) rfl)) pa_nil)))))))))))), ?_⟩
    try dsimp only [cxOf, Cx.nox, Cx.wish, Cx.blk]
    rw [show L2.start ["self", "longest", "step", "each"] [.ref p] = [some (.ref p), none, none, none] from rfl]
    obtain ⟨hw, ht, wf, wb, k⟩ := h
    obtain ⟨l1, l2⟩ := lng_b (w := w) ht
    have sb := wb.s
    have tb := wb.t
    have mb := wb.m
    have ts := wf.ts
    have s0 := wf.s0
    have n0 : 0 ≤ w.lng := by
      refine Int.not_lt.mp fun z => ?_
      have := Int.mul_le_mul_of_nonneg_right (show w.lng ≤ 0 by omega) (Int.le_of_lt ht)
      rw [Int.zero_mul] at this; omega
    have n1 : w.lng ≤ w.s + w.t := by
      have := Int.mul_le_mul_of_nonneg_left (show (1 : Int) ≤ w.t by omega) n0
      omega
    have nb : w.lng.natAbs < 2 ^ 131 := by
      have e : (2 : Nat) ^ 131 = 2 * 2 ^ 130 := by rw [Nat.pow_succ, Nat.mul_comm]
      omega
    have q0 : 0 ≤ w.m / w.t := Int.ediv_nonneg wf.m0 (Int.le_of_lt ht)
    have q1 : w.m / w.t ≤ w.m := Int.ediv_le_self _ wf.m0
    have qb : (w.m / w.t).natAbs < 2 ^ 130 := by omega
    walk_at "rd"
    refine w_fW T rfl hw T.na_Walk_size (wk1 w) ?_
    walk_at "rd"
    refine w_fW T rfl hw T.na_Walk_step (wk2 w) ?_
    refine w_I (wide_div ht wb.t (by decide) (by decide)) ?_
    walk_at "rd"
    rw [show -(-w.s / w.t) = w.lng from rfl]
    refine w_fW T rfl hw T.na_Walk_step (wk2 w) ?_
    refine w_I (mulx_ok nb tb (by decide)) ?_
    walk_at "rd"
    refine w_fW T rfl hw T.na_Walk_size (wk1 w) ?_
    walk_at "rd"
    refine w_fW T rfl hw T.na_Walk_each (wk4 w) ?_
    refine w_I (mulx_ok nb wb.e (by decide)) ?_
    walk_at "rd"
    refine w_fW T rfl hw T.na_Walk_marks (wk3 w) ?_
    walk_at "rd"
    refine w_fW T rfl hw T.na_Walk_step (wk2 w) ?_
    refine w_I (wide_div ht wb.t (by decide) (by decide)) ?_
    walk_at "rd"
    refine w_fW T rfl hw T.na_Walk_marked (wk5 w) ?_
    refine w_I (mulx_ok qb wb.k (by decide)) ?_
    walk_at "rd"
    refine w_fW T rfl hw T.na_Walk_around (wk6 w) ?_
    walk_at "rd"
    refine w_fW T rfl hw T.na_Walk_step (wk2 w) ?_
    walk_at "rd"
    refine w_fW T rfl hw T.na_Walk_marks (wk3 w) ?_
    walk_at "rd"
    refine w_fW T rfl hw T.na_Walk_step (wk2 w) ?_
    refine w_I ht ?_
    walk_at "rd"
    refine w_fW T rfl hw T.na_Walk_marked (wk5 w) ?_
    walk_at "rd"
    refine w_fW T rfl hw T.na_Walk_each (wk4 w) ?_
    walk_at "rd"
    intro kx dx nx ndx nex
    refine ⟨kx, w.laps, rfl, ⟨dx, upd_same⟩, fun H3 hk kp3 => ⟨rfl, ?_⟩⟩
    exact k kx H3 (fun b o e => kp3 b o (ne_of_none e nx) (by rw [upd_ne (ne_of_none e nx), upd_ne (ne_of_none e ndx)]; exact e)) hk
def sp_Walk_marked_steps (K : PySem.W.Frag) (C : Addr) (C_Walk : Addr) (C_InvalidBound : Addr) (TS : List (Addr × Str)) : Sp := fun vs H Q _ => ∃ (p : Addr) (w : Wk) (b : Int), vs = [.ref p, .int b] ∧ Wd C_Walk H p w ∧ 0 < w.t ∧ WkB w ∧ Q (.int (w.mst b)) H
theorem ok_Walk_marked_steps {P : Program} {w : World} {K : PySem.W.Frag} {mg : Str → Option Value} {base : Heap} (T : Txt K mg) (B : TBs T base w P) : FnOk P w K mg base CX0 1 T.f_Walk_marked_steps T.fd_Walk_marked_steps ["self", "begin"] (sp_Walk_marked_steps K T.C_Kind T.C_Walk T.C_InvalidBound T.tabs) := by
  refine T.F_Walk_marked_steps.ok sc_Walk_marked_steps (fun vs H Q E h => ?_) (fun cdv A outer s H vs Q E hr h => ?_)
  · obtain ⟨p, w, b, rfl, _⟩ := h
    rfl
  · obtain ⟨p, w, b, rfl, h⟩ := h
    refine ⟨_, (pss_one (ps_ret (pe_callB (id := "max") (r := rmax2C) (call_max2 rfl) (by rfl) T.n_max (by decide +kernel) (pa_cons pe_int (pa_cons (pe_un un_neg (pe_op op_fdivW (pe_op op_sub (pv 1 (hv := Or.inl rfl)) (pe_fld (pv 0 (hv := Or.inl rfl)) rfl)) (pe_fld (pv 0 (hv := Or.inl rfl)) rfl))) pa_nil))))), ?_⟩
    try dsimp only [cxOf, Cx.nox, Cx.wish, Cx.blk]
    rw [show L2.start ["self", "begin"] [.ref p, .int b] = [some (.ref p), some (.int b)] from rfl]
    obtain ⟨hw, ht, wb, k⟩ := h
    walk_at "rd"
    refine w_fW T rfl hw T.na_Walk_marks (wk3 w) ?_
    walk_at "rd"
    refine w_fW T rfl hw T.na_Walk_step (wk2 w) ?_
    refine w_I (wide_div ht wb.t (by decide) (by decide)) ?_
    walk_at "rd"
    refine w_max2 ?_
    exact k
def sp_Walk_cost (K : PySem.W.Frag) (C : Addr) (C_Walk : Addr) (C_InvalidBound : Addr) (TS : List (Addr × Str)) : Sp := fun vs H Q _ => ∃ (p : Addr) (w : Wk) (b n : Int), vs = [.ref p, .int b, .int n] ∧ Wd C_Walk H p w ∧ 0 < w.t ∧ WkB w ∧ n.natAbs < 2 ^ 600 ∧ 0 ≤ n ∧ Q (.int (w.cost b n)) H
theorem ok_Walk_cost {P : Program} {w : World} {K : PySem.W.Frag} {mg : Str → Option Value} {base : Heap} (T : Txt K mg) (B : TBs T base w P) : FnOk P w K mg base CX0 2 T.f_Walk_cost T.fd_Walk_cost ["self", "begin", "steps"] (sp_Walk_cost K T.C_Kind T.C_Walk T.C_InvalidBound T.tabs) := by
  have G_Walk_marked_steps := ok_Walk_marked_steps (P := P) (w := w) (base := base) T B
  refine T.F_Walk_cost.ok sc_Walk_cost (fun vs H Q E h => ?_) (fun cdv A outer s H vs Q E hr h => ?_)
  · obtain ⟨p, w, b, n, rfl, _⟩ := h
    rfl
  · obtain ⟨p, w, b, n, rfl, h⟩ := h
    have hr_Walk_marked_steps : Room 1 _ := hr.mono (by decide)
    refine ⟨_, (pss_one (ps_ret (pe_op op_add (pe_op op_mulX (pv 2 (hv := Or.inl rfl)) (pe_fld (pv 0 (hv := Or.inl rfl)) rfl)) (pe_op op_mulX (pe_callB (id := "min") (r := rmin2C) (call_min2 rfl) (by rfl) T.n_min (by decide +kernel) (pa_cons (pv 2 (hv := Or.inl rfl)) (pa_cons (pe_meth (pv 0 (hv := Or.inl rfl)) T.cl_Walk T.m_Walk_marked_steps G_Walk_marked_steps hr_Walk_marked_steps T.b_Walk_marked_steps .nil pass0 (pa_cons (pv 1 (hv := Or.inl rfl)) pa_nil)) pa_nil))) (pe_fld (pv 0 (hv := Or.inl rfl)) rfl))))), ?_⟩
    try dsimp only [cxOf, Cx.nox, Cx.wish, Cx.blk]
    rw [show L2.start ["self", "begin", "steps"] [.ref p, .int b, .int n] = [some (.ref p), some (.int b), some (.int n)] from rfl]
    obtain ⟨hw, ht, wb, nb, n0, k⟩ := h
    obtain ⟨dx, e0⟩ := id hw
    walk_at "rd"
    refine w_fW T rfl hw T.na_Walk_each (wk4 w) ?_
    refine w_I (mulx_ok nb wb.e (by decide)) ?_
    walk_at "rd"
    refine w_methA ?_
    walk_at "rd"
    refine ⟨p, dx, _, rfl, e0, nW1 w, ?_⟩
    walk_at "rd"
    refine ⟨p, w, b, rfl, hw, ht, wb, ?_⟩
    walk_at "rd"
    refine w_min2 ?_
    walk_at "rd"
    refine w_fW T rfl hw T.na_Walk_marked (wk5 w) ?_
    refine w_I (mulx_ok (abs_min n0 nb) wb.k (by decide)) ?_
    walk_at "rd"
    exact k
def sp_Walk_steps_for (K : PySem.W.Frag) (C : Addr) (C_Walk : Addr) (C_InvalidBound : Addr) (TS : List (Addr × Str)) : Sp := fun vs H Q _ => ∃ (p : Addr) (w : Wk) (b g : Int), vs = [.ref p, .int b, .int g] ∧ Wd C_Walk H p w ∧ 0 < w.t ∧ WF w ∧ WkB w ∧ 0 ≤ b ∧ b < w.t ∧ 0 ≤ g ∧ Q (.int (w.sfor b g)) H
theorem ok_Walk_steps_for {P : Program} {w : World} {K : PySem.W.Frag} {mg : Str → Option Value} {base : Heap} (T : Txt K mg) (B : TBs T base w P) : FnOk P w K mg base CX0 2 T.f_Walk_steps_for T.fd_Walk_steps_for ["self", "begin", "budget"] (sp_Walk_steps_for K T.C_Kind T.C_Walk T.C_InvalidBound T.tabs) := by
  have G_Walk_marked_steps := ok_Walk_marked_steps (P := P) (w := w) (base := base) T B
  refine T.F_Walk_steps_for.ok sc_Walk_steps_for (fun vs H Q E h => ?_) (fun cdv A outer s H vs Q E hr h => ?_)
  · obtain ⟨p, w, b, g, rfl, _⟩ := h
    rfl
  · obtain ⟨p, w, b, g, rfl, h⟩ := h
    have hr_Walk_marked_steps : Room 1 _ := hr.mono (by decide)
    refine ⟨_, (pss_cons (ps_set (i := 3) sc_Walk_steps_for.nd rfl (Or.inl rfl) (pe_op op_sub (pe_un un_neg (pe_op op_fdivW (pe_op op_sub (pv 1 (hv := Or.inl rfl)) (pe_fld (pv 0 (hv := Or.inl rfl)) rfl)) (pe_fld (pv 0 (hv := Or.inl rfl)) rfl))) pe_int))
      (pss_cons (ps_set (i := 4) sc_Walk_steps_for.nd rfl (Or.inl rfl) (pe_callB (id := "min") (r := rmin2C) (call_min2 rfl) (by rfl) T.n_min (by decide +kernel) (pa_cons (pv 3 (hv := Or.inl rfl)) (pa_cons (pe_meth (pv 0 (hv := Or.inl rfl)) T.cl_Walk T.m_Walk_marked_steps G_Walk_marked_steps hr_Walk_marked_steps T.b_Walk_marked_steps .nil pass0 (pa_cons (pv 1 (hv := Or.inl rfl)) pa_nil)) pa_nil))))
      (pss_cons (ps_if (pt_cmpR op_gt (pe_op op_mulX (pv 4 (hv := Or.inl rfl)) (pe_op op_add (pe_fld (pv 0 (hv := Or.inl rfl)) rfl) (pe_fld (pv 0 (hv := Or.inl rfl)) rfl))) (pv 2 (hv := Or.inl rfl)) (nomark _)) (pss_one (ps_ret (pe_op op_fdivW (pv 2 (hv := Or.inl rfl)) (pe_op op_add (pe_fld (pv 0 (hv := Or.inl rfl)) rfl) (pe_fld (pv 0 (hv := Or.inl rfl)) rfl))))) pss_nil)
      (pss_cons (ps_set (i := 5) sc_Walk_steps_for.nd rfl (Or.inl rfl) (pe_op op_sub (pv 2 (hv := Or.inl rfl)) (pe_op op_mulX (pv 4 (hv := Or.inl rfl)) (pe_op op_add (pe_fld (pv 0 (hv := Or.inl rfl)) rfl) (pe_fld (pv 0 (hv := Or.inl rfl)) rfl)))))
      (pss_cons (ps_if (pt_cmpR op_gt (pe_op op_mulX (pe_op op_sub (pv 3 (hv := Or.inl rfl)) (pv 4 (hv := Or.inl rfl))) (pe_fld (pv 0 (hv := Or.inl rfl)) rfl)) (pv 5 (hv := Or.inl rfl)) (nomark _)) (pss_one (ps_ret (pe_op op_add (pv 4 (hv := Or.inl rfl)) (pe_op op_fdivW (pv 5 (hv := Or.inl rfl)) (pe_fld (pv 0 (hv := Or.inl rfl)) rfl))))) pss_nil)
      (pss_one (ps_ret (pv 3 (hv := Or.inl rfl))))))))), ?_⟩
    try dsimp only [cxOf, Cx.nox, Cx.wish, Cx.blk]
    rw [show L2.start ["self", "begin", "budget", "most", "steps", "rest"] [.ref p, .int b, .int g] = [some (.ref p), some (.int b), some (.int g), none, none, none] from rfl]
    obtain ⟨hw, ht, wf, wb, b0, b1, g0, k⟩ := h
    obtain ⟨dx, e0⟩ := id hw
    have mo0 : 0 ≤ w.most b := (most_iff (w := w) ht).mpr (by rw [Int.zero_mul]; have := wf.ts; omega)
    have mo1 : w.most b ≤ w.s := by
      have := (most_iff (w := w) ht (b := b) (i := w.most b)).mp (Int.le_refl _)
      have := Int.mul_le_mul_of_nonneg_left (show (1 : Int) ≤ w.t by omega) mo0
      omega
    have ms0 : 0 ≤ w.mst b := by unfold Wk.mst; omega
    have sb := wb.s
    walk_at "rd"
    refine w_fW T rfl hw T.na_Walk_size (wk1 w) ?_
    walk_at "rd"
    refine w_fW T rfl hw T.na_Walk_step (wk2 w) ?_
    refine w_I (wide_div ht wb.t (by decide) (by decide)) ?_
    walk_at "rd"
    rw [show -((b - w.s) / w.t) - 1 = w.most b from rfl]
    refine w_methA ?_
    walk_at "rd"
    refine ⟨p, dx, _, rfl, e0, nW1 w, ?_⟩
    walk_at "rd"
    refine ⟨p, w, b, rfl, hw, ht, wb, ?_⟩
    walk_at "rd"
    refine w_min2 ?_
    walk_at "rd"
    have nb : (min (w.most b) (w.mst b)).natAbs < 2 ^ 130 := by omega
    have nb2 : (w.most b - min (w.most b) (w.mst b)).natAbs < 2 ^ 130 := by omega
    obtain ⟨n, _, _, _, _⟩ := sfor_ok wf ht b0 b1 g0
    unfold Wk.sfor at k
    refine w_fW T rfl hw T.na_Walk_each (wk4 w) ?_
    walk_at "rd"
    refine w_fW T rfl hw T.na_Walk_marked (wk5 w) ?_
    walk_at "rd"
    refine w_I (mulx_ok nb (sum_b wb.e wb.k) (by decide)) ?_
    walk_at "rd"
    refine w_dec (fun c => ?_) (fun c => ?_)
    · have c' : min (w.most b) (w.mst b) * (w.e + w.k) > g := c
      rw [if_pos c'] at k
      have ek : 0 < w.e + w.k := by
        refine Int.not_le.mp fun z => ?_
        have := Int.mul_nonneg (show 0 ≤ min (w.most b) (w.mst b) by omega) (show 0 ≤ -(w.e + w.k) by omega)
        rw [Int.mul_neg] at this; omega
      walk_at "rd"
      refine w_fW T rfl hw T.na_Walk_each (wk4 w) ?_
      walk_at "rd"
      refine w_fW T rfl hw T.na_Walk_marked (wk5 w) ?_
      walk_at "rd"
      refine w_I (wide_div ek (sum_b wb.e wb.k) (by decide) (by decide)) ?_
      exact k
    · have c' : ¬ min (w.most b) (w.mst b) * (w.e + w.k) > g := c
      rw [if_neg c'] at k
      walk_at "rd"
      refine w_fW T rfl hw T.na_Walk_each (wk4 w) ?_
      walk_at "rd"
      refine w_fW T rfl hw T.na_Walk_marked (wk5 w) ?_
      walk_at "rd"
      refine w_I (mulx_ok nb (sum_b wb.e wb.k) (by decide)) ?_
      walk_at "rd"
      refine w_fW T rfl hw T.na_Walk_each (wk4 w) ?_
      refine w_I (mulx_ok nb2 wb.e (by decide)) ?_
      walk_at "rd"
      refine w_dec (fun d => ?_) (fun d => ?_)
      · have d' : (w.most b - min (w.most b) (w.mst b)) * w.e > g - min (w.most b) (w.mst b) * (w.e + w.k) := d
        rw [if_pos d'] at k
        have ep : 0 < w.e := by
          refine Int.not_le.mp fun z => ?_
          have := Int.mul_nonneg (show 0 ≤ w.most b - min (w.most b) (w.mst b) by omega) (show 0 ≤ -w.e by omega)
          rw [Int.mul_neg] at this; omega
        walk_at "rd"
        refine w_fW T rfl hw T.na_Walk_each (wk4 w) ?_
        refine w_I (wide_div ep wb.e (by decide) (by decide)) ?_
        walk_at "rd"
        exact k
      · have d' : ¬ (w.most b - min (w.most b) (w.mst b)) * w.e > g - min (w.most b) (w.mst b) * (w.e + w.k) := d
        rw [if_neg d'] at k
        walk_at "rd"
        exact k
def sp__steps_to_visit (K : PySem.W.Frag) (C : Addr) (C_Walk : Addr) (C_InvalidBound : Addr) (TS : List (Addr × Str)) : Sp := fun vs H Q _ => ∃ (s t m p j : Int) (N : Nat), vs = [.int s, .int t, .int m, .int p, .int j] ∧ WF ⟨s, t, m, 0, 1, 0⟩ ∧ s ≤ 2 ^ 129 ∧ 0 ≤ p ∧ p < s ∧ 0 ≤ j ∧ j < 2 ^ 400 ∧ N < 2 ^ 400 ∧ j < hC ⟨s, t, m, 0, 1, 0⟩ N p ∧ ∀ (n : Nat) (g : Int) H', hT ⟨s, t, m, 0, 1, 0⟩ p j n g → Same H H' → Q (.int (n : Int)) H'
theorem ok__steps_to_visit {P : Program} {w : World} {K : PySem.W.Frag} {mg : Str → Option Value} {base : Heap} (T : Txt K mg) (B : TBs T base w P) : FnOk P w K mg base CX0 4 T.f__steps_to_visit T.fd__steps_to_visit ["size", "step", "marks", "place", "j"] (sp__steps_to_visit K T.C_Kind T.C_Walk T.C_InvalidBound T.tabs) := by
  have G_Walk___init__ := ok_Walk___init__ (P := P) (w := w) (base := base) T B
  have G_Walk_cost := ok_Walk_cost (P := P) (w := w) (base := base) T B
  have G_Walk_mirrored := ok_Walk_mirrored (P := P) (w := w) (base := base) T B
  have G_Walk_of_laps := ok_Walk_of_laps (P := P) (w := w) (base := base) T B
  have G_Walk_steps_for := ok_Walk_steps_for (P := P) (w := w) (base := base) T B
  refine T.F__steps_to_visit.ok sc__steps_to_visit (fun vs H Q E h => ?_) (fun cdv A outer s H vs Q E hr h => ?_)
  · obtain ⟨s, t, m, p, j, N, rfl, _⟩ := h
    rfl
  · obtain ⟨s, t, m, p, j, N, rfl, h⟩ := h
    have hr_Walk___init__ : Room 2 _ := hr.mono (by decide)
    have hr_Walk_cost : Room 2 _ := hr.mono (by decide)
    have hr_Walk_mirrored : Room 3 _ := hr.mono (by decide)
    have hr_Walk_of_laps : Room 3 _ := hr.mono (by decide)
    have hr_Walk_steps_for : Room 2 _ := hr.mono (by decide)
    refine ⟨_, (pss_cons (ps_set (i := 5) sc__steps_to_visit.nd rfl (Or.inl rfl) (pe_make T.mk_Walk G_Walk___init__ hr_Walk___init__ rfl T.g_Walk T.b_Walk___init__ .nil pass0 (pa_cons (pv 0 (hv := Or.inl rfl)) (pa_cons (pv 1 (hv := Or.inl rfl)) (pa_cons (pv 2 (hv := Or.inl rfl)) (pa_cons pe_int (pa_cons pe_int (pa_cons pe_int pa_nil))))))))
      (pss_cons (ps_set (i := 6) sc__steps_to_visit.nd rfl (Or.inl rfl) (pv 4 (hv := Or.inl rfl)))
      (pss_cons (ps_set (i := 7) sc__steps_to_visit.nd rfl (Or.inl rfl) (pe_lst pa_nil))
      (pss_cons (ps_while PassesOwn.never (pt_cmpR op_gt (pe_fld (pv 5 (hv := Or.inl rfl)) rfl) pe_int (nomark _))
        (pss_cons (ps_if (pt_cmpR op_gt (pe_op op_mulX pe_int (pe_fld (pv 5 (hv := Or.inl rfl)) rfl)) (pe_fld (pv 5 (hv := Or.inl rfl)) rfl) (nomark _)) (pss_cons (ps_set (i := 3) sc__steps_to_visit.nd rfl (Or.inl rfl) (pe_op op_sub (pe_op op_sub (pe_fld (pv 5 (hv := Or.inl rfl)) rfl) pe_int) (pv 3 (hv := Or.inl rfl))))
      (pss_one (ps_set (i := 5) sc__steps_to_visit.nd rfl (Or.inl rfl) (pe_meth0 (pv 5 (hv := Or.inl rfl)) T.cl_Walk T.m_Walk_mirrored G_Walk_mirrored hr_Walk_mirrored T.b_Walk_mirrored .nil pass0)))) pss_nil)
      (pss_cons (ps_asg (pe_callB (id := "divmod") (r := rDivC) call_divmodW (by rfl) T.n_divmod (by decide +kernel) (pa_cons (pv 3 (hv := Or.inl rfl)) (pa_cons (pe_fld (pv 5 (hv := Or.inl rfl)) rfl) pa_nil))) (pg_tup rfl (pgs_cons (pg_name (i := 8) sc__steps_to_visit.nd rfl (Or.inl rfl)) (pgs_cons (pg_name (i := 3) sc__steps_to_visit.nd rfl (Or.inl rfl)) pgs_nil))))
      (pss_cons (ps_aug (i := 6) sc__steps_to_visit.nd rfl (Or.inl rfl) (pe_meth (pv 5 (hv := Or.inl rfl)) T.cl_Walk T.m_Walk_cost G_Walk_cost hr_Walk_cost T.b_Walk_cost .nil pass0 (pa_cons (pv 3 (hv := Or.inl rfl)) (pa_cons (pv 8 (hv := Or.inl rfl)) pa_nil))) ip_add)
      (pss_cons (ps_expr (pe_bm PySem.F.plainAttrs_list PySem.F.slot_list_append PySem.F.type_list_append mt_append (pv 7 (hv := Or.inl rfl)) (pa_cons (pe_tup (pa_cons (pv 5 (hv := Or.inl rfl)) (pa_cons (pv 3 (hv := Or.inl rfl)) (pa_cons (pv 8 (hv := Or.inl rfl)) pa_nil)))) pa_nil)))
      (pss_one (ps_set (i := 5) sc__steps_to_visit.nd rfl (Or.inl rfl) (pe_meth0 (pv 5 (hv := Or.inl rfl)) T.cl_Walk T.m_Walk_of_laps G_Walk_of_laps hr_Walk_of_laps T.b_Walk_of_laps .nil pass0))))))))
      (pss_cons (ps_asg (pe_callB (id := "divmod") (r := rDivC) call_divmodW (by rfl) T.n_divmod (by decide +kernel) (pa_cons (pv 6 (hv := Or.inl rfl)) (pa_cons (pe_op op_add (pe_fld (pv 5 (hv := Or.inl rfl)) rfl) (pe_ifExp (pt_cmpR op_lt (pv 3 (hv := Or.inl rfl)) (pe_fld (pv 5 (hv := Or.inl rfl)) rfl) (nomark _)) (pe_fld (pv 5 (hv := Or.inl rfl)) rfl) pe_int)) pa_nil))) (pg_tup rfl (pgs_cons (pg_name (i := 9) sc__steps_to_visit.nd rfl (Or.inl rfl)) (pgs_cons (pg_name (i := 6) sc__steps_to_visit.nd rfl (Or.inl rfl)) pgs_nil))))
      (pss_cons (ps_for PassesOwn.never rfl (pi_reversed (by rfl) T.n_reversed (pa_cons (pv 7 (hv := Or.inl rfl)) pa_nil)) (pg_tup rfl (pgs_cons (pg_name (i := 5) sc__steps_to_visit.nd rfl (Or.inl rfl)) (pgs_cons (pg_name (i := 3) sc__steps_to_visit.nd rfl (Or.inl rfl)) (pgs_cons (pg_name (i := 8) sc__steps_to_visit.nd rfl (Or.inl rfl)) pgs_nil))))
        (pss_cons (ps_set (i := 10) sc__steps_to_visit.nd rfl (Or.inl rfl) (pe_op op_sub (pe_op op_mulX (pv 9 (hv := Or.inl rfl)) (pe_fld (pv 5 (hv := Or.inl rfl)) rfl)) (pv 3 (hv := Or.inl rfl))))
      (pss_cons (ps_set (i := 9) sc__steps_to_visit.nd rfl (Or.inl rfl) (pe_un un_neg (pe_op op_fdivW (pe_un un_neg (pv 10 (hv := Or.inl rfl))) (pe_fld (pv 5 (hv := Or.inl rfl)) rfl))))
      (pss_cons (ps_set (i := 11) sc__steps_to_visit.nd rfl (Or.inl rfl) (pe_op op_sub (pe_op op_mulX (pv 9 (hv := Or.inl rfl)) (pe_fld (pv 5 (hv := Or.inl rfl)) rfl)) (pv 10 (hv := Or.inl rfl))))
      (pss_cons (ps_set (i := 12) sc__steps_to_visit.nd rfl (Or.inl rfl) (pe_meth (pv 5 (hv := Or.inl rfl)) T.cl_Walk T.m_Walk_steps_for G_Walk_steps_for hr_Walk_steps_for T.b_Walk_steps_for .nil pass0 (pa_cons (pv 11 (hv := Or.inl rfl)) (pa_cons (pv 6 (hv := Or.inl rfl)) pa_nil))))
      (pss_cons (ps_aug (i := 6) sc__steps_to_visit.nd rfl (Or.inl rfl) (pe_meth (pv 5 (hv := Or.inl rfl)) T.cl_Walk T.m_Walk_cost G_Walk_cost hr_Walk_cost T.b_Walk_cost .nil pass0 (pa_cons (pv 11 (hv := Or.inl rfl)) (pa_cons (pv 12 (hv := Or.inl rfl)) pa_nil))) ip_sub)
      (pss_one (ps_aug (i := 9) sc__steps_to_visit.nd rfl (Or.inl rfl) (pe_op op_sub (pv 12 (hv := Or.inl rfl)) (pv 8 (hv := Or.inl rfl))) ip_add))))))))
      (pss_one (ps_ret (pv 9 (hv := Or.inl rfl)))))))))), ?_⟩
    try dsimp only [cxOf, Cx.nox, Cx.wish, Cx.blk]
    rw [show L2.start ["size", "step", "marks", "place", "j", "walk", "budget", "outer", "ahead", "steps", "distance", "begin", "more"] [.int s, .int t, .int m, .int p, .int j] = [some (.int s), some (.int t), some (.int m), some (.int p), some (.int j), none, none, none, none, none, none, none, none] from rfl]
    obtain ⟨wf0, s1, p0, p1, j0, j1, N1, hN, k⟩ := h
    have s0 : 0 < s := wf0.s0
    have wb0 : WB ⟨s, t, m, 0, 1, 0⟩ := wb_top s0 s1
    obtain ⟨W0, hW0⟩ : ∃ W0 : Wk, W0 = ⟨s, t, m, 0, 1, 0⟩ := ⟨_, rfl⟩
    have es : W0.s = s := by rw [hW0]
    walk_at "rd"
    intro kx dx nx ndx nex
    refine ⟨kx, ⟨s, t, m, 0, 1, 0⟩, rfl, ⟨dx, upd_same⟩, fun H1 hw1 kp1 => ⟨rfl, ?_⟩⟩
    have sm1 : Same H H1 := fun b o e => kp1 b o (ne_of_none e nx) (by rw [upd_ne (ne_of_none e nx), upd_ne (ne_of_none e ndx)]; exact e)
    rw [← hW0] at wf0 wb0 hN k hw1
    clear kp1 nx ndx nex
    walk_at "rd"
    refine ⟨by show 0 ≤ sizeLine; decide, fun D hD => ?_⟩
    walk_at "rd"
    have hb0 : Bnd W0 p j := fun n g h => ⟨Nat.lt_trans (hT_lt wf0 p0 (by rw [es]; exact p1) h hN) (Nat.lt_trans N1 (Nat.pow_lt_pow_right (by decide) (by decide))), h.2.1⟩
    have q2 : (2 : Int) ^ 402 = 4 * 2 ^ 400 := by decide +kernel
    refine w_while (fun ms σ H' => ∃ (wa : Addr) (w : Wk) (pl b : Int) (st : List (Wk × Int × Nat × Int)) (N' : Nat) (v8 : Option V), σ = [some (.int s), some (.int t), some (.int m), some (.int pl), some (.int j), some (.ref wa), some (.int b), some (.ref D), v8, none, none, none, none] ∧ ms = w.s.toNat ∧ Wd T.C_Walk H' wa w ∧ WF w ∧ WB w ∧ 0 ≤ pl ∧ pl < w.s ∧ 0 ≤ b ∧ b + 2 ^ 710 * w.s ≤ 2 ^ 850 ∧ b < hC w N' pl ∧ (N' : Int) + 2 ^ 130 * w.s ≤ 2 ^ 402 ∧ w.s * 2 ^ st.length ≤ 2 ^ 129 ∧ Chain W0 p j st w pl b ∧ Rows T.C_Walk H' D st ∧ Same H H') s.toNat
      ⟨kx, W0, p, j, [], N, _, rfl, by rw [es], hw1.same (sm_new (Same.refl H1) hD), wf0, wb0, p0, by rw [es]; exact p1, j0, ?_, hN, ?_, by rw [es]; show s * 1 ≤ _; omega, ⟨rfl, rfl, rfl⟩, ⟨[], upd_same, rfl, fun i t e a => (by cases a)⟩, sm_new sm1 hD⟩ ?_
    · rw [es]
      have := Int.mul_le_mul_of_nonneg_left s1 (show (0 : Int) ≤ 2 ^ 710 by decide +kernel)
      have : (2 : Int) ^ 400 + 2 ^ 710 * 2 ^ 129 ≤ 2 ^ 850 := by decide +kernel
      omega
    · rw [es]
      have := Int.mul_le_mul_of_nonneg_left s1 (show (0 : Int) ≤ 2 ^ 130 by decide +kernel)
      have : (2 : Int) ^ 400 + 2 ^ 130 * 2 ^ 129 ≤ 2 ^ 402 := by decide +kernel
      have c : ((2 ^ 400 : Nat) : Int) = (2 : Int) ^ 400 := Int.natCast_pow 2 400
      omega
    have hDn : H D = none := same_free sm1 hD
    clear hw1 sm1 hD
    rintro ms σ H2 ⟨wa, w, pl, b, st, N', v8, rfl, rfl, hw, wf, wb, l0, l1, b0, b1, hN', n1, sl, ch, rows, sm⟩
    have ws0 := wf.s0
    have wt0 := wf.t0
    have wts := wf.ts
    walk_at "rd"
    refine w_fW T rfl hw T.na_Walk_step (wk2 w) ?_
    walk_at "rd"
    refine w_dec (fun ht => ?_) (fun ht => ?_)
    · refine ⟨_, fun _ _ h => h, ?_⟩
      obtain ⟨wfl, tl, t2, esl⟩ := low_facts wf ht
      obtain ⟨⟨r0, r1⟩, rc, rt⟩ := plow_ok wf ht l0 l1
      have wbn := wb_laps wf ht wb
      obtain ⟨E, e0, ee, ek, er, ec⟩ := low_ex wb
      have ws1 := wb.s1
      walk_at "rd"
      refine w_fW T rfl hw T.na_Walk_step (wk2 w) ?_
      refine w_I (mulx_ok (a := 2) (show (2 : Int).natAbs < 2 ^ 2 by decide) (wkb wf wb).t (by decide)) ?_
      walk_at "rd"
      refine w_fW T rfl hw T.na_Walk_size (wk1 w) ?_
      walk_at "rd"
      refine w_stJ (fun σ' H' => (∃ wa' : Addr, σ' = [some (.int s), some (.int t), some (.int m), some (.int (plow w pl)), some (.int j), some (.ref wa'), some (.int b), some (.ref D), v8, none, none, none, none] ∧ Wd T.C_Walk H' wa' w.low) ∧ Same H2 H') (fun c D' q => ?_) (fun c D' q => ?_) ?_
      · have el : w.low = w.mir := if_pos c
        have ep : plow w pl = w.s - 1 - pl := if_pos c
        obtain ⟨dx, e0⟩ := id hw
        walk_at "rd"
        refine w_fW T rfl hw T.na_Walk_size (wk1 w) ?_
        walk_at "rd"
        refine ⟨wa, dx, _, rfl, e0, nW4 w, wa, w, rfl, hw, fun q2 H' s' hq => ?_⟩
        walk_at "rd"
        exact q _ _ ⟨⟨q2, by rw [ep], by rw [el]; exact hq⟩, s'⟩
      · have el : w.low = w := if_neg c
        have ep : plow w pl = pl := if_neg c
        walk_at "rd"
        exact q _ _ ⟨⟨wa, by rw [ep], by rw [el]; exact hw⟩, Same.refl H2⟩
      rintro σ' H3 ⟨⟨wa', rfl, hwl⟩, s3⟩
      have rows := rows.same s3
      have sm := sm.trans s3
      obtain ⟨z, hz⟩ : ∃ z, z = plow w pl := ⟨_, rfl⟩
      rw [← hz] at r0 r1 rc rt ⊢
      obtain ⟨L, hL⟩ : ∃ L, L = w.low := ⟨_, rfl⟩
      rw [← hL] at wfl tl t2 esl r1 rc rt wbn hwl ee ek er
      rw [esl] at r1
      have WBL : WkB L := by
        have hE : 3 * E ≤ 2 ^ 700 := by
          have h1 : ∀ n : Nat, 1 ≤ w.s ^ n := fun n => by
            have := Int.pow_pos (m := n) ws0; omega
          by_cases c : w.s = 1
          · omega
          · have h2 : 3 ≤ w.s ^ 5 := by
              have e5 : w.s ^ 5 = w.s ^ 4 * w.s := Int.pow_succ _ _
              have e4 : w.s ^ 4 = w.s ^ 3 * w.s := Int.pow_succ _ _
              have h3 := h1 3
              have := Int.mul_le_mul_of_nonneg_left (show (2 : Int) ≤ w.s by omega) (show 0 ≤ w.s ^ 3 by omega)
              have := Int.mul_le_mul_of_nonneg_left (show (2 : Int) ≤ w.s by omega) (show 0 ≤ w.s ^ 4 by have := h1 4; omega)
              omega
            have := Int.mul_le_mul_of_nonneg_left h2 e0
            omega
        have m0 := wfl.m0
        have ms := wfl.ms
        exact ⟨bbE (by omega) (by omega), bbE (by omega) (by omega), bbE (by omega) (by omega), bb129 (by omega) (by omega), bb129 (by omega) (by omega), bb129 (by omega) (by omega)⟩
      obtain ⟨A, hA, eA1, eA2⟩ := ahead_ok wfl tl r0 (by rw [esl]; exact r1)
      obtain ⟨qq, hqq⟩ : ∃ qq, qq = z % L.t := ⟨_, rfl⟩
      have qq0 : 0 ≤ qq := by rw [hqq]; exact Int.emod_nonneg _ (Int.ne_of_gt tl)
      have qq1 : qq < L.t := by rw [hqq]; exact Int.emod_lt_of_pos _ tl
      have Al : (A : Int) ≤ z := by rw [← hA]; exact Int.ediv_le_self _ r0
      have wlts := wfl.ts
      have c0 := hC_nn wfl qq0 (by omega) A
      rw [← hqq] at eA1 eA2
      have cb : L.cost qq A ≤ 2 ^ 703 := by
        have h1 : w.s * (3 * E) ≤ 2 ^ 700 * 3 := by
          have h5 : E * w.s * w.s ^ 4 = E * w.s ^ 5 := by
            have e5 : w.s ^ 5 = w.s ^ 4 * w.s := Int.pow_succ _ _
            rw [e5, Int.mul_comm (w.s ^ 4) w.s, Int.mul_assoc]
          have h4 : 1 ≤ w.s ^ 4 := by
            have := Int.pow_pos (m := 4) ws0; omega
          have := Int.mul_le_mul_of_nonneg_left h4 (show 0 ≤ E * w.s from Int.mul_nonneg e0 (Int.le_of_lt ws0))
          rw [Int.mul_one] at this
          rw [show w.s * (3 * E) = 3 * (E * w.s) by rw [Int.mul_left_comm, Int.mul_comm w.s]]; omega
        have a1 := wb_mul ee (show 0 ≤ (A : Int) by omega)
        have mn0 : 0 ≤ min (A : Int) (L.mst qq) := by
          have : 0 ≤ L.mst qq := by unfold Wk.mst; omega
          omega
        have a2 := wb_mul ek mn0
        have a3 := Int.mul_le_mul_of_nonneg_right (show (A : Int) ≤ w.s by omega) (show 0 ≤ 3 * E by omega)
        have a4 := Int.mul_le_mul_of_nonneg_right (show min (A : Int) (L.mst qq) ≤ w.s by omega) (show 0 ≤ 3 * E by omega)
        have e702 : (2 : Int) ^ 703 = 8 * 2 ^ 700 := by rw [show (703 : Nat) = 700 + 3 from rfl, Int.pow_add, Int.mul_comm]; rfl
        unfold Wk.cost
        omega
      have e130 : (2 : Int) ^ 130 = 2 * 2 ^ 129 := by decide +kernel
      have zb : z.natAbs < 2 ^ 900 := Nat.lt_of_lt_of_le (lt_two_pow 130 r0 (by omega)) (Nat.pow_le_pow_right (by decide) (by decide))
      have Ab : (A : Int).natAbs < 2 ^ 600 := Nat.lt_of_lt_of_le (lt_two_pow 130 (by omega) (by omega)) (Nat.pow_le_pow_right (by decide) (by decide))
      walk_at "rd"
      refine w_fW T rfl hwl T.na_Walk_step (wk2 L) ?_
      walk_at "rd"
      refine ⟨z, L.t, rfl, bits130 zb tl, fun qd hqd => ?_⟩
      rw [hA, ← hqq]
      have s4 := sm_new (o := .tup [.int (A : Int), .int qq]) (Same.refl H3) hqd
      have hqd' : (L2.upd H3 qd (.tup [.int (A : Int), .int qq])) qd = some (.tup [.int (A : Int), .int qq]) := upd_same
      generalize L2.upd H3 qd _ = H4 at s4 hqd' ⊢
      have hw4 := hwl.same s4
      obtain ⟨dx4, e4⟩ := id hw4
      walk_at "rd"
      refine w_aug rfl ?_
      refine w_methA ?_
      walk_at "rd"
      refine ⟨wa', dx4, _, rfl, e4, nW2 L, ?_⟩
      walk_at "rd"
      refine ⟨wa', L, qq, A, rfl, hw4, tl, WBL, Ab, by omega, ?_⟩
      refine ⟨_, _, rfl, rfl, ?_⟩
      walk_at "rd"
      refine w_bm ?_
      walk_at "rd"
      obtain ⟨ts4, hD4, _, _⟩ := rows.same s4
      refine ⟨.inl ⟨rfl, _, SqL.of hD4⟩, ?_⟩
      walk_at "rd"
      refine ⟨by show 3 ≤ sizeLine; decide, fun t3 ht3 => ?_⟩
      have s5 := sm_new (o := .tup [.ref wa', .int qq, .int (A : Int)]) s4 ht3
      have ht3' : (L2.upd H4 t3 (.tup [.ref wa', .int qq, .int (A : Int)])) t3 = some (.tup [.ref wa', .int qq, .int (A : Int)]) := upd_same
      generalize L2.upd H4 t3 _ = H5 at s5 ht3' ⊢
      obtain ⟨ts, hD5, tl5, rw5⟩ := rows.same s5
      have hw5 := hwl.same s5
      have lenb : st.length ≤ 200 := by
        refine Nat.le_of_not_lt fun z => ?_
        have h1 := Int.mul_le_mul_of_nonneg_right (show (1 : Int) ≤ w.s by omega) (Int.le_of_lt (Int.pow_pos (m := st.length) (show (0 : Int) < 2 by decide)))
        have h2 : (2 : Int) ^ 130 ≤ 2 ^ st.length := by
          have := Nat.pow_le_pow_right (n := 2) (by decide) (show 130 ≤ st.length by omega)
          exact_mod_cast this
        have h3 : (2 : Int) ^ 129 < 2 ^ 130 := by decide +kernel
        omega
      refine ⟨D, _, _, rfl, rfl, hD5, by rw [List.length_map, tl5]; exact small1000 (by omega), ?_⟩
      have rows6 := Rows.push hD5 tl5 rw5 (e := (L, qq, A, b + L.cost qq A)) ⟨wa', ht3', hw5⟩
      have hw6 := hw5.mut (ys := ts.map V.ref ++ [.ref t3]) hD5
      have sm6 := sm_mut (o := .lst (ts.map V.ref ++ [.ref t3])) (sm.trans s5) hDn
      generalize L2.upd H5 D _ = H6 at rows6 hw6 sm6 ⊢
      obtain ⟨dx6, e6⟩ := id hw6
      walk_at "rd"
      refine ⟨wa', dx6, _, rfl, e6, nW5 L, wa', L, rfl, hw6, tl, wfl, WBL, fun q7 H7 s7 hw7 => ?_⟩
      walk_at "rd"
      refine ⟨L.laps.s.toNat, ?_, q7, L.laps, qq, b + L.cost qq A, (L, qq, A, b + L.cost qq A) :: st, N' + A, _, rfl, rfl, hw7, laps_wf wfl tl, wbn, qq0, qq1, by omega, ?_, ?_, ?_, ?_, ⟨rfl, rfl, rfl, ⟨wfl, tl, qq0, qq1, WBL⟩, w, pl, b, ch, fun n g h => ⟨?_, h.2.1⟩, fun X g h => ?_⟩, rows6.same s7, sm6.trans s7⟩
      · show L.t.toNat < w.s.toNat; omega
      · show b + L.cost qq A + 2 ^ 710 * L.t ≤ 2 ^ 850
        have h1 := Int.mul_le_mul_of_nonneg_left (show L.t ≤ w.s - 1 by omega) (show (0 : Int) ≤ 2 ^ 710 by decide +kernel)
        rw [Int.mul_sub, Int.mul_one] at h1
        have h2 : (2 : Int) ^ 703 ≤ 2 ^ 710 := by decide +kernel
        omega
      · obtain ⟨S, hS, _, eS, _⟩ := lap_many wfl tl qq0 qq1 (N' + A)
        rw [← eS]
        have h1 := hC_mono wfl qq0 (show qq < L.s by omega) (show A + N' ≤ S by omega)
        rw [hC_add, eA1, rc, eA2] at h1
        omega
      · show ((N' + A : Nat) : Int) + 2 ^ 130 * L.t ≤ 2 ^ 402
        have h1 := Int.mul_le_mul_of_nonneg_left (show L.t ≤ w.s - 1 by omega) (show (0 : Int) ≤ 2 ^ 130 by decide +kernel)
        rw [Int.mul_sub, Int.mul_one] at h1
        have h2 : (2 : Int) ^ 129 ≤ 2 ^ 130 := by decide +kernel
        rw [Int.natCast_add]; omega
      · show L.t * 2 ^ (st.length + 1) ≤ 2 ^ 129
        have h1 := Int.mul_le_mul_of_nonneg_right t2 (Int.le_of_lt (Int.pow_pos (m := st.length) (show (0 : Int) < 2 by decide)))
        have e5 : (2 : Int) ^ (st.length + 1) = 2 ^ st.length * 2 := Int.pow_succ _ _
        rw [e5, Int.mul_comm (2 ^ st.length) 2, ← Int.mul_assoc, Int.mul_comm L.t 2]
        omega
      · have h1 := hT_lt wf l0 l1 h hN'
        have h2 := Int.mul_nonneg (show (0 : Int) ≤ 2 ^ 130 by decide +kernel) (show 0 ≤ w.s by omega)
        have c : ((2 ^ 402 : Nat) : Int) = (2 : Int) ^ 402 := Int.natCast_pow 2 402
        omega
      · have h : hT L qq (b + L.cost qq A) X g := h
        rw [← eA2] at h
        obtain ⟨h1, h2⟩ := ahead_hT wfl qq0 (show qq < L.s by omega) b0 eA1 h
        exact ⟨h1, rt h2⟩
    · have wt : w.t = 0 := by omega
      obtain ⟨c0, n, en, hnT⟩ := base_hT wf wt l0 l1 b0 hN'
      have bb : b.natAbs < 2 ^ 900 := by
        have h1 := Int.mul_nonneg (show (0 : Int) ≤ 2 ^ 710 by decide +kernel) (show 0 ≤ w.s by omega)
        have h2 : (2 : Int) ^ 850 < 2 ^ 900 := by decide +kernel
        exact lt_two_pow 900 b0 (by omega)
      have bd0 : Bnd w pl b := fun n g h => ⟨by
        have h1 := hT_lt wf l0 l1 h hN'
        have h2 := Int.mul_nonneg (show (0 : Int) ≤ 2 ^ 130 by decide +kernel) (show 0 ≤ w.s by omega)
        have c : ((2 ^ 402 : Nat) : Int) = (2 : Int) ^ 402 := Int.natCast_pow 2 402
        omega, h.2.1⟩
      walk_at "rd"
      refine w_fW T rfl hw T.na_Walk_each (wk4 w) ?_
      walk_at "rd"
      refine w_ifJ (fun v H' => v = .int (if pl < w.m then w.k else 0) ∧ H2 = H') (fun Q hQ => ?_) ?_
      · refine w_if ?_
        walk_at "rd"
        refine w_fW T rfl hw T.na_Walk_marks (wk3 w) ?_
        walk_at "rd"
        refine w_dec (fun c => ?_) (fun c => ?_)
        · walk_at "rd"
          refine w_fW T rfl hw T.na_Walk_marked (wk5 w) ?_
          exact hQ _ _ ⟨by rw [if_pos c], rfl⟩
        · walk_at "rd"
          exact hQ _ _ ⟨by rw [if_neg c], rfl⟩
      rintro v _ ⟨rfl, rfl⟩
      walk_at "rd"
      refine ⟨b, _, rfl, bits130 bb c0, fun qd hqd => ?_⟩
      rw [en]
      have s3 := sm_new (o := .tup [.int (n : Int), .int (b % (w.e + (if pl < w.m then w.k else 0)))]) (Same.refl H2) hqd
      have hqd' : (L2.upd H2 qd (.tup [.int (n : Int), .int (b % (w.e + (if pl < w.m then w.k else 0)))])) qd = some (.tup [.int (n : Int), .int (b % (w.e + (if pl < w.m then w.k else 0)))]) := upd_same
      generalize L2.upd H2 qd _ = H3 at s3 hqd' ⊢
      generalize b % (w.e + (if pl < w.m then w.k else 0)) = g0 at hnT hqd' ⊢
      obtain ⟨ts, hD3, tl3, rw3⟩ := rows.same s3
      have smF := sm.trans s3
      walk_at "rd"
      refine w_itR ?_
      walk_at "rd"
      refine ⟨D, ts.map V.ref, rfl, SqL.of hD3, for_it (walk_rev (K := K) (a := D) (xs := ts.map V.ref)) (fun i σ H' => (∃ (w' : Wk) (pl' b' : Int) (N : Nat) (g : Int) (v3 v5 v8 v10 v11 v12 : Option V), σ = [some (.int s), some (.int t), some (.int m), v3, some (.int j), v5, some (.int g), some (.ref D), v8, some (.int (N : Int)), v10, v11, v12] ∧ Chain W0 p j (st.drop i) w' pl' b' ∧ Bnd w' pl' b' ∧ hT w' pl' b' N g) ∧ H3 = H') ⟨⟨w, pl, b, n, g0, _, _, _, _, _, _, rfl, ch, bd0, hnT⟩, rfl⟩ (fun i σ H' _ q => by rw [← q.2]; exact SqL.of hD3) ?_ ?_⟩
      · rintro i x σ H' H'' hi ⟨⟨w', pl', b', N, g, v3, v5, v8, v10, v11, v12, rfl, ch', bd', hT'⟩, rfl⟩ ⟨rfl, hx⟩
        rw [List.length_map] at hi hx
        obtain ⟨tt, htt, rfl⟩ := map_get hx
        have il : i < st.length := by omega
        have hst : st[i]? = some st[i] := List.getElem?_eq_getElem il
        obtain ⟨wv, hrow, hwv⟩ := rw3 _ tt st[i] htt (by rw [tl3, List.getElem?_reverse (by omega), show st.length - 1 - (st.length - 1 - i) = i by omega]; exact hst)
        rw [List.drop_eq_getElem_cons il] at ch'
        generalize st[i] = e at ch' hrow hwv
        obtain ⟨v, q, A, c⟩ := e
        obtain ⟨ew, ep, eb, ent, w2, p2', b2, ch2, bd2, nxt⟩ := ch'
        dsimp only at ew ep eb ent nxt hwv hrow
        have ew' := ew.symm
        have ep' := ep.symm
        have eb' := eb.symm
        subst ew' ep' eb'
        clear ew ep eb
        obtain ⟨vwf, vt0, q0, q1, vwb⟩ := ent
        obtain ⟨S, nn, eS, g1, g2, ef, hb2⟩ := back_ok vwf vt0 q0 q1 hT'
        obtain ⟨nb, g0'⟩ := bd' N g hT'
        obtain ⟨ax, hn2⟩ := nxt _ _ hb2
        have vs1 : v.s.natAbs < 2 ^ 130 := vwb.s
        have nb' : (N : Int).natAbs < 2 ^ 402 := by rw [Int.natAbs_natCast]; exact nb
        obtain ⟨dxv, ev⟩ := id hwv
        have vts := vwf.ts
        have NsB : (N * v.s).natAbs < 2 ^ 532 := Nat.lt_of_lt_of_eq (wide_lt nb' vs1) rfl
        have SB : (S : Int).natAbs < 2 ^ 600 := by
          have h1 : (S : Int) * 1 ≤ S * v.t := Int.mul_le_mul_of_nonneg_left (by omega) (by omega)
          have h2 : (2 : Nat) ^ 532 + 2 ^ 130 ≤ 2 ^ 600 := by decide +kernel
          omega
        have moreB : (nn : Int).natAbs < 2 ^ 600 := by
          obtain ⟨n3, e3, l3, _, _⟩ := sfor_ok vwf vt0 g1 g2 g0'
          have mo1 : v.most (S * v.t - (N * v.s - q)) ≤ v.s := by
            have mo0 : 0 ≤ v.most (S * v.t - (N * v.s - q)) := (most_iff (w := v) vt0).mpr (by rw [Int.zero_mul]; omega)
            have := (most_iff (w := v) vt0 (b := S * v.t - (N * v.s - q)) (i := v.most (S * v.t - (N * v.s - q)))).mp (Int.le_refl _)
            have := Int.mul_le_mul_of_nonneg_left (show (1 : Int) ≤ v.t by omega) mo0
            omega
          have h2 : (2 : Nat) ^ 130 ≤ 2 ^ 600 := Nat.pow_le_pow_right (by decide) (by decide)
          rw [ef] at e3
          omega
        walk_at "rd"
        refine w_fW T rfl hwv T.na_Walk_size (wk1 v) ?_
        refine w_I (mulx_ok nb' vs1 (by decide)) ?_
        walk_at "rd"
        refine w_fW T rfl hwv T.na_Walk_step (wk2 v) ?_
        refine w_I (wide_div vt0 vwb.t (by decide) (by decide)) ?_
        walk_at "rd"
        rw [show -(-(N * v.s - q) / v.t) = v.steps q N from rfl, eS]
        refine w_fW T rfl hwv T.na_Walk_step (wk2 v) ?_
        refine w_I (mulx_ok SB vwb.t (by decide)) ?_
        walk_at "rd"
        refine w_methA ?_
        walk_at "rd"
        refine ⟨wv, dxv, _, rfl, ev, nW3 v, ?_⟩
        walk_at "rd"
        refine ⟨wv, v, _, g, rfl, hwv, vt0, vwf, vwb, g1, g2, g0', ?_⟩
        rw [ef]
        walk_at "rd"
        refine w_aug rfl ?_
        refine w_methA ?_
        walk_at "rd"
        refine ⟨wv, dxv, _, rfl, ev, nW2 v, ?_⟩
        walk_at "rd"
        refine ⟨wv, v, _, nn, rfl, hwv, vt0, vwb, moreB, by omega, ?_⟩
        refine ⟨_, _, rfl, rfl, ?_⟩
        walk_at "rd"
        refine w_aug rfl ?_
        walk_at "rd"
        refine ⟨_, _, rfl, rfl, ?_⟩
        refine ⟨⟨w2, p2', b2, S + nn - A, _, some (.int q), some (.ref wv), some (.int (A : Int)), some (.int (N * v.s - q)), some (.int (S * v.t - (N * v.s - q))), some (.int (nn : Int)), ?_, ch2, bd2, hn2⟩, rfl⟩
        have ax' : A ≤ S + nn := ax
        rw [show ((S + nn - A : Nat) : Int) = (S : Int) + ((nn : Int) - (A : Int)) by omega]
        rfl
      · rintro σ H' ⟨⟨w', pl', b', N, g, v3, v5, v8, v10, v11, v12, rfl, ch', bd', hT'⟩, rfl⟩
        rw [List.length_map, tl3, List.drop_length] at ch'
        obtain ⟨rfl, rfl, rfl⟩ := ch'
        walk_at "rd"
        exact k N g _ hT' smF
def sp_hit_at (K : PySem.W.Frag) (C : Addr) (C_Walk : Addr) (C_InvalidBound : Addr) (TS : List (Addr × Str)) : Sp := fun vs H Q _ => ∃ (l : Addr) (a b S f lo hi j : Int) (N : Nat), vs = [.ref l, .int S, .int f, .int lo, .int hi, .int j] ∧ H l = some (.tup [.int a, .int b]) ∧ BB a ∧ BB f ∧ 0 < S ∧ S ≤ 2 ^ 129 ∧ lo ≤ hi + 1 ∧ hi - lo + 1 ≤ S ∧ 0 ≤ j ∧ j < 2 ^ 400 ∧ N < 2 ^ 400 ∧ j < hC ⟨S, a % S, hi - lo + 1, 0, 1, 0⟩ N ((a * f + b - lo) % S) ∧ ∀ (n : Nat) (g : Int) H', hT ⟨S, a % S, hi - lo + 1, 0, 1, 0⟩ ((a * f + b - lo) % S) j n g → Same H H' → Q (.int (f + (n : Int))) H'
theorem ok_hit_at {P : Program} {w : World} {K : PySem.W.Frag} {mg : Str → Option Value} {base : Heap} (T : Txt K mg) (B : TBs T base w P) : FnOk P w K mg base CX0 5 T.f_hit_at T.fd_hit_at ["line", "size", "first", "low", "high", "j"] (sp_hit_at K T.C_Kind T.C_Walk T.C_InvalidBound T.tabs) := by
  have G__steps_to_visit := ok__steps_to_visit (P := P) (w := w) (base := base) T B
  refine T.F_hit_at.ok sc_hit_at (fun vs H Q E h => ?_) (fun cdv A outer s H vs Q E hr h => ?_)
  · obtain ⟨l, a, b, S, f, lo, hi, j, N, rfl, _⟩ := h
    rfl
  · obtain ⟨l, a, b, S, f, lo, hi, j, N, rfl, h⟩ := h
    have hr__steps_to_visit : Room 4 _ := hr.mono (by decide)
    refine ⟨_, (pss_cons (ps_asg (pv 0 (hv := Or.inl rfl)) (pg_tup rfl (pgs_cons (pg_name (i := 6) sc_hit_at.nd rfl (Or.inl rfl)) (pgs_cons (pg_name (i := 7) sc_hit_at.nd rfl (Or.inl rfl)) pgs_nil))))
      (pss_one (ps_ret (pe_op op_add (pv 2 (hv := Or.inl rfl)) (pe_call G__steps_to_visit hr__steps_to_visit rfl T.g__steps_to_visit T.k__steps_to_visit T.b__steps_to_visit .nil pass0 (pa_cons (pv 1 (hv := Or.inl rfl)) (pa_cons (pe_op op_mod (pv 6 (hv := Or.inl rfl)) (pv 1 (hv := Or.inl rfl))) (pa_cons (pe_op op_add (pe_op op_sub (pv 4 (hv := Or.inl rfl)) (pv 3 (hv := Or.inl rfl))) pe_int) (pa_cons (pe_op op_mod (pe_op op_sub (pe_op op_add (pe_op op_mulX (pv 6 (hv := Or.inl rfl)) (pv 2 (hv := Or.inl rfl))) (pv 7 (hv := Or.inl rfl))) (pv 3 (hv := Or.inl rfl))) (pv 1 (hv := Or.inl rfl))) (pa_cons (pv 5 (hv := Or.inl rfl)) pa_nil)))))))))), ?_⟩
    try dsimp only [cxOf, Cx.nox, Cx.wish, Cx.blk]
    rw [show L2.start ["line", "size", "first", "low", "high", "j", "a", "b"] [.ref l, .int S, .int f, .int lo, .int hi, .int j] = [some (.ref l), some (.int S), some (.int f), some (.int lo), some (.int hi), some (.int j), none, none] from rfl]
    obtain ⟨hl, ba, bf, s0, s1, lh, hs, j0, j1, N1, hN, k⟩ := h
    walk_at "rd"
    refine w_I s0 ?_
    walk_at "rd"
    refine w_I (mulx_ok ba bf (by decide)) ?_
    walk_at "rd"
    refine w_I s0 ?_
    have wf : WF ⟨S, a % S, hi - lo + 1, 0, 1, 0⟩ := ⟨s0, Int.emod_nonneg _ (Int.ne_of_gt s0), Int.emod_lt_of_pos _ s0, by show 0 ≤ hi - lo + 1; omega, hs, fun p _ _ => by
      unfold hc
      show 0 ≤ (0 : Int) + (if p < hi - lo + 1 then 1 else 0) + (if S ≤ p + a % S then 0 else 0)
      split <;> split <;> omega⟩
    walk_at "rd"
    refine ⟨S, a % S, hi - lo + 1, (a * f + b - lo) % S, j, N, rfl, wf, s1, Int.emod_nonneg _ (Int.ne_of_gt s0), Int.emod_lt_of_pos _ s0, j0, j1, N1, hN, fun n g H1 h s1 => ?_⟩
    walk_at "rd"
    exact k n g H1 h s1
def sp_is_integer (K : PySem.W.Frag) (C : Addr) (C_Walk : Addr) (C_InvalidBound : Addr) (TS : List (Addr × Str)) : Sp := fun vs H Q _ => ∃ (v : V) (b : Bool), vs = [v] ∧ IntQ K H v b ∧ Q (.bl b) H
theorem ok_is_integer {P : Program} {w : World} {K : PySem.W.Frag} {mg : Str → Option Value} {base : Heap} (T : Txt K mg) (B : TBs T base w P) : FnOk P w K mg base CX0 1 T.f_is_integer T.fd_is_integer ["value"] (sp_is_integer K T.C_Kind T.C_Walk T.C_InvalidBound T.tabs) := by
  refine T.F_is_integer.ok sc_is_integer (fun vs H Q E h => ?_) (fun cdv A outer s H vs Q E hr h => ?_)
  · obtain ⟨v, b, rfl, _⟩ := h
    rfl
  · obtain ⟨v, b, rfl, h⟩ := h
    refine ⟨_, (pss_one (ps_ret (pe_and (pe_callB (id := "isinstance") (r := rIsi K) call_isi (by rfl) T.n_isinstance (by decide +kernel) (pa_cons (pv 0 (hv := Or.inl rfl)) (pa_cons (pe_bltn (v := .ty "int") (by rfl) T.n_int (by decide +kernel) rfl) pa_nil))) (pe_one (pe_not (pe_callB (id := "isinstance") (r := rIsi K) call_isi (by rfl) T.n_isinstance (by decide +kernel) (pa_cons (pv 0 (hv := Or.inl rfl)) (pa_cons (pe_bltn (v := .ty "bool") (by rfl) T.n_bool (by decide +kernel) rfl) pa_nil)))))))), ?_⟩
    try dsimp only [cxOf, Cx.nox, Cx.wish, Cx.blk]
    rw [show L2.start ["value"] [v] = [some (v)] from rfl]
    obtain ⟨⟨t, ty, e1, -, c, e2, e3⟩, k⟩ := h
    walk_at "rd"
    refine w_isi ty e1 ?_
    walk_at "rd"
    cases hb : (b || t == "bool") with
    | false =>
      rw [hb] at e3
      have e3 : false = b := e3
      refine iteF ?_
      rw [e3]; exact k
    | true =>
      rw [hb] at e3
      refine iteT ?_
      walk_at "rd"
      refine w_isi ty e2 ?_
      walk_at "rd"
      have e4 : (!c) = b := e3
      rw [e4]; exact k
def sp_check_integer (K : PySem.W.Frag) (C : Addr) (C_Walk : Addr) (C_InvalidBound : Addr) (TS : List (Addr × Str)) : Sp := fun vs H Q _ => ∃ (i : Int) (z : Str), vs = [.int i, .str z] ∧ Q .non H
theorem ok_check_integer {P : Program} {w : World} {K : PySem.W.Frag} {mg : Str → Option Value} {base : Heap} (T : Txt K mg) (B : TBs T base w P) : FnOk P w K mg base CX0 2 T.f_check_integer T.fd_check_integer ["value", "argument"] (sp_check_integer K T.C_Kind T.C_Walk T.C_InvalidBound T.tabs) := by
  have G_is_integer := ok_is_integer (P := P) (w := w) (base := base) T B
  refine T.F_check_integer.ok sc_check_integer (fun vs H Q E h => ?_) (fun cdv A outer s H vs Q E hr h => ?_)
  · obtain ⟨i, z, rfl, _⟩ := h
    rfl
  · obtain ⟨i, z, rfl, h⟩ := h
    have hr_is_integer : Room 1 _ := hr.mono (by decide)
    refine ⟨_, (pss_one (ps_if (pt_not (pt_val (pe_call G_is_integer hr_is_integer rfl T.g_is_integer T.k_is_integer T.b_is_integer .nil pass0 (pa_cons (pv 0 (hv := Or.inl rfl)) pa_nil)))) (pss_one ps_never) pss_nil)), ?_⟩
    try dsimp only [cxOf, Cx.nox, Cx.wish, Cx.blk]
    rw [show L2.start ["value", "argument"] [.int i, .str z] = [some (.int i), some (.str z)] from rfl]
    walk_at "rd"
    refine ⟨.int i, true, rfl, IntQ.int i, ?_⟩
    walk_at "rd"
    refine iteF ?_
    walk_at "rd"
    exact h
def sp_is_sixty_digits (K : PySem.W.Frag) (C : Addr) (C_Walk : Addr) (C_InvalidBound : Addr) (TS : List (Addr × Str)) : Sp := fun vs H Q _ => ∃ (i : Int), vs = [.int i] ∧ Q (.bl (decide (-(10 ^ 60) < i ∧ i < 10 ^ 60))) H
theorem ok_is_sixty_digits {P : Program} {w : World} {K : PySem.W.Frag} {mg : Str → Option Value} {base : Heap} (T : Txt K mg) (B : TBs T base w P) : FnOk P w K mg base CX0 2 T.f_is_sixty_digits T.fd_is_sixty_digits ["value"] (sp_is_sixty_digits K T.C_Kind T.C_Walk T.C_InvalidBound T.tabs) := by
  have G_is_integer := ok_is_integer (P := P) (w := w) (base := base) T B
  refine T.F_is_sixty_digits.ok sc_is_sixty_digits (fun vs H Q E h => ?_) (fun cdv A outer s H vs Q E hr h => ?_)
  · obtain ⟨i, rfl, _⟩ := h
    rfl
  · obtain ⟨i, rfl, h⟩ := h
    have hr_is_integer : Room 1 _ := hr.mono (by decide)
    refine ⟨_, (pss_one (ps_ret (pe_and (pe_call G_is_integer hr_is_integer rfl T.g_is_integer T.k_is_integer T.b_is_integer .nil pass0 (pa_cons (pv 0 (hv := Or.inl rfl)) pa_nil)) (pe_one (pe_cmpR op_lt (pe_callB (id := "abs") (r := rAbsC) call_abs (by rfl) T.n_abs (by decide +kernel) (pa_cons (pv 0 (hv := Or.inl rfl)) pa_nil)) (pe_glob (v := .int 1000000000000000000000000000000000000000000000000000000000000) rfl T.g_BEYOND_SIXTY_DIGITS ⟨_, rfl⟩) (nomark _)))))), ?_⟩
    try dsimp only [cxOf, Cx.nox, Cx.wish, Cx.blk]
    rw [show L2.start ["value"] [.int i] = [some (.int i)] from rfl]
    walk_at "rd"
    refine ⟨.int i, true, rfl, IntQ.int i, ?_⟩
    walk_at "rd"
    refine iteT ?_
    walk_at "rd"
    have e : decide (ab i < 1000000000000000000000000000000000000000000000000000000000000) = decide (-(10 ^ 60) < i ∧ i < 10 ^ 60) := by
      unfold ab
      by_cases c : i < 0
      · rw [if_pos c]
        by_cases d : -(10 ^ 60) < i
        · rw [decide_eq_true (show -i < 1000000000000000000000000000000000000000000000000000000000000 by omega), decide_eq_true ⟨d, by omega⟩]
        · rw [decide_eq_false (show ¬ -i < 1000000000000000000000000000000000000000000000000000000000000 by omega), decide_eq_false fun z => d z.1]
      · rw [if_neg c]
        by_cases d : i < 10 ^ 60
        · rw [decide_eq_true (show i < 1000000000000000000000000000000000000000000000000000000000000 by omega), decide_eq_true ⟨by omega, d⟩]
        · rw [decide_eq_false (show ¬ i < 1000000000000000000000000000000000000000000000000000000000000 by omega), decide_eq_false fun z => d z.2]
    rw [e]
    exact h
def sp_check_sixty_digits (K : PySem.W.Frag) (C : Addr) (C_Walk : Addr) (C_InvalidBound : Addr) (TS : List (Addr × Str)) : Sp := fun vs H Q _ => ∃ (i : Int) (z : Str), vs = [.int i, .str z] ∧ SD i ∧ Q .non H
theorem ok_check_sixty_digits {P : Program} {w : World} {K : PySem.W.Frag} {mg : Str → Option Value} {base : Heap} (T : Txt K mg) (B : TBs T base w P) : FnOk P w K mg base CX0 3 T.f_check_sixty_digits T.fd_check_sixty_digits ["value", "argument"] (sp_check_sixty_digits K T.C_Kind T.C_Walk T.C_InvalidBound T.tabs) := by
  have G_is_sixty_digits := ok_is_sixty_digits (P := P) (w := w) (base := base) T B
  refine T.F_check_sixty_digits.ok sc_check_sixty_digits (fun vs H Q E h => ?_) (fun cdv A outer s H vs Q E hr h => ?_)
  · obtain ⟨i, z, rfl, _⟩ := h
    rfl
  · obtain ⟨i, z, rfl, h⟩ := h
    have hr_is_sixty_digits : Room 2 _ := hr.mono (by decide)
    refine ⟨_, (pss_one (ps_if (pt_not (pt_val (pe_call G_is_sixty_digits hr_is_sixty_digits rfl T.g_is_sixty_digits T.k_is_sixty_digits T.b_is_sixty_digits .nil pass0 (pa_cons (pv 0 (hv := Or.inl rfl)) pa_nil)))) (pss_one ps_never) pss_nil)), ?_⟩
    try dsimp only [cxOf, Cx.nox, Cx.wish, Cx.blk]
    rw [show L2.start ["value", "argument"] [.int i, .str z] = [some (.int i), some (.str z)] from rfl]
    obtain ⟨sd, k⟩ := h
    walk_at "rd"
    refine ⟨i, rfl, ?_⟩
    walk_at "rd"
    rw [decide_eq_true (show -(10 ^ 60) < i ∧ i < 10 ^ 60 from sd)]
    refine iteF ?_
    walk_at "rd"
    exact k
def sp_is_count (K : PySem.W.Frag) (C : Addr) (C_Walk : Addr) (C_InvalidBound : Addr) (TS : List (Addr × Str)) : Sp := fun vs H Q _ => ∃ (i : Int), vs = [.int i] ∧ Q (.bl (decide (0 ≤ i))) H
theorem ok_is_count {P : Program} {w : World} {K : PySem.W.Frag} {mg : Str → Option Value} {base : Heap} (T : Txt K mg) (B : TBs T base w P) : FnOk P w K mg base CX0 2 T.f_is_count T.fd_is_count ["value"] (sp_is_count K T.C_Kind T.C_Walk T.C_InvalidBound T.tabs) := by
  have G_is_integer := ok_is_integer (P := P) (w := w) (base := base) T B
  refine T.F_is_count.ok sc_is_count (fun vs H Q E h => ?_) (fun cdv A outer s H vs Q E hr h => ?_)
  · obtain ⟨i, rfl, _⟩ := h
    rfl
  · obtain ⟨i, rfl, h⟩ := h
    have hr_is_integer : Room 1 _ := hr.mono (by decide)
    refine ⟨_, (pss_one (ps_ret (pe_and (pe_call G_is_integer hr_is_integer rfl T.g_is_integer T.k_is_integer T.b_is_integer .nil pass0 (pa_cons (pv 0 (hv := Or.inl rfl)) pa_nil)) (pe_one (pe_cmpR op_ge (pv 0 (hv := Or.inl rfl)) pe_int (nomark _)))))), ?_⟩
    try dsimp only [cxOf, Cx.nox, Cx.wish, Cx.blk]
    rw [show L2.start ["value"] [.int i] = [some (.int i)] from rfl]
    walk_at "rd"
    refine ⟨.int i, true, rfl, IntQ.int i, ?_⟩
    walk_at "rd"
    refine iteT ?_
    walk_at "rd"
    exact h

theorem w_mkA {C : Addr} {f y : Str} {σ : L2.St} {H : Hp} {Q : XK} (hy : y.length ≤ sizeLine) (k : ∀ d, H d = none → Q (.ref C) (some d) (L2.upd H d (.xd [(f, .str y)]))) : tMkA C f (tCons (tC (V.str y)) tNil) σ H Q := by
  unfold tMkA
  exact ⟨y, rfl, hy, k⟩
def sp_check_number (K : PySem.W.Frag) (C : Addr) (C_Walk : Addr) (C_InvalidBound : Addr) (TS : List (Addr × Str)) : Sp := fun vs H Q _ => ∃ (j t : Int), vs = [.int j, .int t] ∧ 0 ≤ j ∧ j < t ∧ Q .non H
theorem ok_check_number {P : Program} {w : World} {K : PySem.W.Frag} {mg : Str → Option Value} {base : Heap} (T : Txt K mg) (B : TBs T base w P) : FnOk P w K mg base CX0 3 T.f_check_number T.fd_check_number ["j", "total"] (sp_check_number K T.C_Kind T.C_Walk T.C_InvalidBound T.tabs) := by
  have G_is_count := ok_is_count (P := P) (w := w) (base := base) T B
  refine T.F_check_number.ok sc_check_number (fun vs H Q E h => ?_) (fun cdv A outer s H vs Q E hr h => ?_)
  · obtain ⟨j, t, rfl, _⟩ := h
    rfl
  · obtain ⟨j, t, rfl, h⟩ := h
    have hr_is_count : Room 2 _ := hr.mono (by decide)
    refine ⟨_, (pss_one (ps_if (pt_not (PW.pt (pw_and (pt_val (pe_call G_is_count hr_is_count rfl T.g_is_count T.k_is_count T.b_is_count .nil pass0 (pa_cons (pv 0 (hv := Or.inl rfl)) pa_nil))) (pw_and1 (pt_cmpR op_lt (pv 0 (hv := Or.inl rfl)) (pv 1 (hv := Or.inl rfl)) (nomark _)))))) (pss_one ps_never) pss_nil)), ?_⟩
    try dsimp only [cxOf, Cx.nox, Cx.wish, Cx.blk]
    rw [show L2.start ["j", "total"] [.int j, .int t] = [some (.int j), some (.int t)] from rfl]
    obtain ⟨h1, h2, k⟩ := h
    walk_at "rd"
    refine ⟨j, rfl, ?_⟩
    walk_at "rd"
    refine w_decT h1 ?_
    walk_at "rd"
    refine w_bF (by rw [decide_eq_true h2]; rfl) ?_
    walk_at "rd"
    exact k
def spX_check_number (K : PySem.W.Frag) (C : Addr) (C_Walk : Addr) (C_InvalidBound : Addr) (TS : List (Addr × Str)) : Sp := fun vs H Q E => ∃ (j t : Int), vs = [.int j, .int t] ∧ ¬ (0 ≤ j ∧ j < t) ∧ ∀ d, H d = none → E (.ref C_InvalidBound) (some d) (L2.upd H d (.xd [("argument", .str "j")]))
theorem okX_check_number {P : Program} {w : World} {K : PySem.W.Frag} {mg : Str → Option Value} {base : Heap} (T : Txt K mg) (B : TBs T base w P) : FnOk P w K mg base (L2.CX P w) 3 T.f_check_number T.fd_check_number ["j", "total"] (spX_check_number K T.C_Kind T.C_Walk T.C_InvalidBound T.tabs) := by
  have G_is_count := ok_is_count (P := P) (w := w) (base := base) T B
  refine T.F_check_number.okX sc_check_number (fun vs H Q E h => ?_) (fun cdv A outer s H vs Q E hr h => ?_)
  · obtain ⟨j, t, rfl, _⟩ := h
    rfl
  · obtain ⟨j, t, rfl, h⟩ := h
    have hr_is_count : Room 2 _ := hr.mono (by decide)
    refine ⟨_, (pss_one (ps_if (pt_not (PW.pt (pw_and (pt_val (pe_call G_is_count hr_is_count rfl T.g_is_count T.k_is_count T.b_is_count .nil pass0 (pa_cons (pv 0 (hv := Or.inl rfl)) pa_nil))) (pw_and1 (pt_cmpR op_lt (pv 0 (hv := Or.inl rfl)) (pv 1 (hv := Or.inl rfl)) (nomark _)))))) (pss_one (ps_raise rfl (takes_of rfl rfl rfl rfl) (pmk_ax T.ax_InvalidBound B.px (hr.mono (by decide)) rfl (pa_cons pe_str pa_nil)))) pss_nil)), ?_⟩
    try dsimp only [cxOf, Cx.nox, Cx.wish, Cx.blk]
    rw [show L2.start ["j", "total"] [.int j, .int t] = [some (.int j), some (.int t)] from rfl]
    obtain ⟨nj, k⟩ := h
    walk_at "rd"
    refine ⟨_, rfl, ?_⟩
    walk_at "rd"
    refine w_dec (fun c1 => ?_) (fun c1 => ?_)
    · walk_at "rd"
      rw [decide_eq_false (show ¬ j < t from fun z => nj ⟨c1, z⟩)]
      refine iteT ?_
      exact w_mkA (by decide) k
    · refine iteT ?_
      exact w_mkA (by decide) k
def sp_is_word (K : PySem.W.Frag) (C : Addr) (C_Walk : Addr) (C_InvalidBound : Addr) (TS : List (Addr × Str)) : Sp := fun vs H Q _ => ∃ (z : Str) (t : Addr), vs = [.str z, .ref t] ∧ SqT K H t [.str "<", .str "<=", .str "==", .str "!=", .str ">=", .str ">"] ∧ Rel z ∧ Q (.bl true) H
theorem ok_is_word {P : Program} {w : World} {K : PySem.W.Frag} {mg : Str → Option Value} {base : Heap} (T : Txt K mg) (B : TBs T base w P) : FnOk P w K mg base CX0 1 T.f_is_word T.fd_is_word ["value", "words"] (sp_is_word K T.C_Kind T.C_Walk T.C_InvalidBound T.tabs) := by
  refine T.F_is_word.ok sc_is_word (fun vs H Q E h => ?_) (fun cdv A outer s H vs Q E hr h => ?_)
  · obtain ⟨z, t, rfl, _⟩ := h
    rfl
  · obtain ⟨z, t, rfl, h⟩ := h
    refine ⟨_, (pss_one (ps_ret (pe_and (pe_callB (id := "isinstance") (r := rIsi K) call_isi (by rfl) T.n_isinstance (by decide +kernel) (pa_cons (pv 0 (hv := Or.inl rfl)) (pa_cons (pe_bltn (v := .ty "str") (by rfl) T.n_str (by decide +kernel) rfl) pa_nil))) (pe_one (pe_cmpR (r := rIn K false) op_in_seq (pv 0 (hv := Or.inl rfl)) (pv 1 (hv := Or.inl rfl)) (by rfl)))))), ?_⟩
    try dsimp only [cxOf, Cx.nox, Cx.wish, Cx.blk]
    rw [show L2.start ["value", "words"] [.str z, .ref t] = [some (.str z), some (.ref t)] from rfl]
    obtain ⟨ht, hz, k⟩ := h
    walk_at "rd"
    refine w_isi (b := true) (.base (.str z)) (by decide +kernel) ?_
    walk_at "rd"
    refine iteT ?_
    walk_at "rd"
    refine w_inT ht rfl (by decide +kernel) ?_
    rw [rel_in hz]
    exact k
def sp_check_word (K : PySem.W.Frag) (C : Addr) (C_Walk : Addr) (C_InvalidBound : Addr) (TS : List (Addr × Str)) : Sp := fun vs H Q _ => ∃ (z : Str) (t : Addr) (u : Str), vs = [.str z, .ref t, .str u] ∧ SqT K H t [.str "<", .str "<=", .str "==", .str "!=", .str ">=", .str ">"] ∧ Rel z ∧ Q .non H
theorem ok_check_word {P : Program} {w : World} {K : PySem.W.Frag} {mg : Str → Option Value} {base : Heap} (T : Txt K mg) (B : TBs T base w P) : FnOk P w K mg base CX0 2 T.f_check_word T.fd_check_word ["word", "words", "argument"] (sp_check_word K T.C_Kind T.C_Walk T.C_InvalidBound T.tabs) := by
  have G_is_word := ok_is_word (P := P) (w := w) (base := base) T B
  refine T.F_check_word.ok sc_check_word (fun vs H Q E h => ?_) (fun cdv A outer s H vs Q E hr h => ?_)
  · obtain ⟨z, t, u, rfl, _⟩ := h
    rfl
  · obtain ⟨z, t, u, rfl, h⟩ := h
    have hr_is_word : Room 1 _ := hr.mono (by decide)
    refine ⟨_, (pss_one (ps_if (pt_not (pt_val (pe_call G_is_word hr_is_word rfl T.g_is_word T.k_is_word T.b_is_word .nil pass0 (pa_cons (pv 0 (hv := Or.inl rfl)) (pa_cons (pv 1 (hv := Or.inl rfl)) pa_nil))))) (pss_one ps_never) pss_nil)), ?_⟩
    try dsimp only [cxOf, Cx.nox, Cx.wish, Cx.blk]
    rw [show L2.start ["word", "words", "argument"] [.str z, .ref t, .str u] = [some (.str z), some (.ref t), some (.str u)] from rfl]
    obtain ⟨ht, hz, k⟩ := h
    walk_at "rd"
    refine ⟨z, t, rfl, ht, hz, ?_⟩
    walk_at "rd"
    refine iteF ?_
    walk_at "rd"
    exact k
def sp_opposite (K : PySem.W.Frag) (C : Addr) (C_Walk : Addr) (C_InvalidBound : Addr) (TS : List (Addr × Str)) : Sp := fun vs H Q _ => ∃ (z : Str), vs = [.str z] ∧ Rel z ∧ Q (.str (opp z)) H
theorem ok_opposite {P : Program} {w : World} {K : PySem.W.Frag} {mg : Str → Option Value} {base : Heap} (T : Txt K mg) (B : TBs T base w P) : FnOk P w K mg base CX0 1 T.f_opposite T.fd_opposite ["relation"] (sp_opposite K T.C_Kind T.C_Walk T.C_InvalidBound T.tabs) := by
  refine T.F_opposite.ok sc_opposite (fun vs H Q E h => ?_) (fun cdv A outer s H vs Q E hr h => ?_)
  · obtain ⟨z, rfl, _⟩ := h
    rfl
  · obtain ⟨z, rfl, h⟩ := h
    refine ⟨_, (pss_one (ps_ret (pe_ix (r := rIxD K w) ix_kdict (pe_glob (v := .ref T.a_OPPOSITES) rfl T.g_OPPOSITES rfl) (pv 0 (hv := Or.inl rfl)) (fun _ _ => rfl)))), ?_⟩
    try dsimp only [cxOf, Cx.nox, Cx.wish, Cx.blk]
    rw [show L2.start ["relation"] [.str z] = [some (.str z)] from rfl]
    obtain ⟨hz, k⟩ := h
    walk_at "rd"
    refine ⟨_, z, _, rfl, rfl, opp_kd B hz, ?_⟩
    walk_at "rd"
    exact k
def sp_stands (K : PySem.W.Frag) (C : Addr) (C_Walk : Addr) (C_InvalidBound : Addr) (TS : List (Addr × Str)) : Sp := fun vs H Q _ => ∃ (y : Int) (z : Str) (w' : Int), vs = [.int y, .str z, .int w'] ∧ Rel z ∧ Q (.bl (relB z y w')) H
theorem ok_stands {P : Program} {w : World} {K : PySem.W.Frag} {mg : Str → Option Value} {base : Heap} (T : Txt K mg) (B : TBs T base w P) : FnOk P w K mg base CX0 1 T.f_stands T.fd_stands ["y", "relation", "z"] (sp_stands K T.C_Kind T.C_Walk T.C_InvalidBound T.tabs) := by
  refine T.F_stands.ok sc_stands (fun vs H Q E h => ?_) (fun cdv A outer s H vs Q E hr h => ?_)
  · obtain ⟨y, z, w', rfl, _⟩ := h
    rfl
  · obtain ⟨y, z, w', rfl, h⟩ := h
    refine ⟨_, (pss_one (ps_match (pv 1 (hv := Or.inl rfl))
      (pm_str (pss_one (ps_ret (pe_cmpR op_lt (pv 0 (hv := Or.inl rfl)) (pv 2 (hv := Or.inl rfl)) (nomark _))))
      (pm_str (pss_one (ps_ret (pe_cmpR op_le (pv 0 (hv := Or.inl rfl)) (pv 2 (hv := Or.inl rfl)) (nomark _))))
      (pm_str (pss_one (ps_ret (pe_cmpR op_eq (pv 0 (hv := Or.inl rfl)) (pv 2 (hv := Or.inl rfl)) (nomark _))))
      (pm_str (pss_one (ps_ret (pe_cmpR op_ne (pv 0 (hv := Or.inl rfl)) (pv 2 (hv := Or.inl rfl)) (nomark _))))
      (pm_str (pss_one (ps_ret (pe_cmpR op_ge (pv 0 (hv := Or.inl rfl)) (pv 2 (hv := Or.inl rfl)) (nomark _))))
      (pm_any (pss_one (ps_ret (pe_cmpR op_gt (pv 0 (hv := Or.inl rfl)) (pv 2 (hv := Or.inl rfl)) (nomark _)))))))))))), ?_⟩
    try dsimp only [cxOf, Cx.nox, Cx.wish, Cx.blk]
    rw [show L2.start ["y", "relation", "z"] [.int y, .str z, .int w'] = [some (.int y), some (.str z), some (.int w')] from rfl]
    obtain ⟨hz, k⟩ := h
    rcases hz with rfl | rfl | rfl | rfl | rfl | rfl
    · rw [rel1] at k
      walk_at "rd"
      exact k
    · rw [rel2] at k
      walk_at "rd"
      refine w_caseF (by decide +kernel) ?_
      walk_at "rd"
      exact k
    · rw [rel3] at k
      walk_at "rd"
      refine w_caseF (by decide +kernel) ?_
      refine w_caseF (by decide +kernel) ?_
      walk_at "rd"
      exact k
    · rw [rel4] at k
      walk_at "rd"
      refine w_caseF (by decide +kernel) ?_
      refine w_caseF (by decide +kernel) ?_
      refine w_caseF (by decide +kernel) ?_
      walk_at "rd"
      exact k
    · rw [rel5] at k
      walk_at "rd"
      refine w_caseF (by decide +kernel) ?_
      refine w_caseF (by decide +kernel) ?_
      refine w_caseF (by decide +kernel) ?_
      refine w_caseF (by decide +kernel) ?_
      walk_at "rd"
      exact k
    · rw [rel6] at k
      walk_at "rd"
      refine w_caseF (by decide +kernel) ?_
      refine w_caseF (by decide +kernel) ?_
      refine w_caseF (by decide +kernel) ?_
      refine w_caseF (by decide +kernel) ?_
      refine w_caseF (by decide +kernel) ?_
      walk_at "rd"
      exact k
def sp_Kind___init__ (K : PySem.W.Frag) (C : Addr) (C_Walk : Addr) (C_InvalidBound : Addr) (TS : List (Addr × Str)) : Sp := fun vs H Q _ => ∃ (p : Addr) (wd : Nat) (s : Bool), vs = [.ref p, .int (wd : Int), .bl s] ∧ (∃ dx, H p = some (.ins C dx [])) ∧ 1 ≤ wd ∧ wd ≤ 128 ∧ ∀ H', Kd C H' p wd s → Kp p H H' → Q .non H'
theorem ok_Kind___init__ {P : Program} {w : World} {K : PySem.W.Frag} {mg : Str → Option Value} {base : Heap} (T : Txt K mg) (B : TBs T base w P) : FnOk P w K mg base CX0 2 T.f_Kind___init__ T.fd_Kind___init__ ["self", "bits", "is_signed"] (sp_Kind___init__ K T.C_Kind T.C_Walk T.C_InvalidBound T.tabs) := by
  have G_is_integer := ok_is_integer (P := P) (w := w) (base := base) T B
  refine T.F_Kind___init__.ok sc_Kind___init__ (fun vs H Q E h => ?_) (fun cdv A outer s H vs Q E hr h => ?_)
  · obtain ⟨p, wd, s, rfl, _⟩ := h
    rfl
  · obtain ⟨p, wd, s, rfl, h⟩ := h
    have hr_is_integer : Room 1 _ := hr.mono (by decide)
    refine ⟨_, (pss_cons (ps_if (pt_not (PW.pt (pw_and (pt_val (pe_call G_is_integer hr_is_integer rfl T.g_is_integer T.k_is_integer T.b_is_integer .nil pass0 (pa_cons (pv 1 (hv := Or.inl rfl)) pa_nil))) (pw_and1 (pt_chain op_le op_le pe_int (pv 1 (hv := Or.inl rfl)) (pe_glob (v := .int 128) rfl T.g_MOST_BITS ⟨_, rfl⟩)))))) (pss_one ps_never) pss_nil)
      (pss_cons (ps_if (pt_not (pt_val (pe_callB (id := "isinstance") (r := rIsi K) call_isi (by rfl) T.n_isinstance (by decide +kernel) (pa_cons (pv 2 (hv := Or.inl rfl)) (pa_cons (pe_bltn (v := .ty "bool") (by rfl) T.n_bool (by decide +kernel) rfl) pa_nil))))) (pss_one ps_never) pss_nil)
      (pss_cons (ps_fld (pv 0 (hv := Or.inl rfl)) (pv 1 (hv := Or.inl rfl)) rfl)
      (pss_one (ps_fld (pv 0 (hv := Or.inl rfl)) (pv 2 (hv := Or.inl rfl)) rfl))))), ?_⟩
    try dsimp only [cxOf, Cx.nox, Cx.wish, Cx.blk]
    rw [show L2.start ["self", "bits", "is_signed"] [.ref p, .int (wd : Int), .bl s] = [some (.ref p), some (.int (wd : Int)), some (.bl s)] from rfl]
    obtain ⟨⟨dx, hp⟩, h1, h2, k⟩ := h
    walk_at "rd"
    refine ⟨_, true, rfl, IntQ.int _, ?_⟩
    walk_at "rd"
    refine iteT ?_
    walk_at "rd"
    refine w_chain ?_
    walk_at "rd"
    refine w_decT (by omega) ?_
    walk_at "rd"
    refine w_bF (by rw [decide_eq_true (show ((wd : Int) ≤ 128) by omega)]; rfl) ?_
    walk_at "rd"
    refine w_isi (b := true) (.base (.bl s)) (by decide +kernel) ?_
    walk_at "rd"
    refine iteF ?_
    walk_at "rd"
    refine ⟨p, _, dx, _, rfl, hp, T.cl_Kind, T.na_Kind_bits, (by show 0 < 1000; decide), ?_⟩
    walk_at "rd"
    refine ⟨p, _, dx, _, rfl, upd_same, T.cl_Kind, T.na_Kind_is_signed, (by show 1 < 1000; decide), ?_⟩
    refine k _ ⟨⟨dx, ?_⟩, h1, h2⟩ ((Kp.refl p H).upd.upd)
    rw [upd_same]
    show some (HO.ins _ _ (if ("bits" : Str) = "is_signed" then [(("bits" : Str), V.bl s)] else (("bits" : Str), V.int (wd : Int)) :: putF "is_signed" (V.bl s) [])) = _
    rw [if_neg (by decide +kernel)]
    rfl
def sp_check_kind (K : PySem.W.Frag) (C : Addr) (C_Walk : Addr) (C_InvalidBound : Addr) (TS : List (Addr × Str)) : Sp := fun vs H Q _ => ∃ (p : Addr), vs = [.ref p] ∧ (∃ wd s, Kd C H p wd s) ∧ Q .non H
theorem ok_check_kind {P : Program} {w : World} {K : PySem.W.Frag} {mg : Str → Option Value} {base : Heap} (T : Txt K mg) (B : TBs T base w P) : FnOk P w K mg base CX0 1 T.f_check_kind T.fd_check_kind ["kind"] (sp_check_kind K T.C_Kind T.C_Walk T.C_InvalidBound T.tabs) := by
  refine T.F_check_kind.ok sc_check_kind (fun vs H Q E h => ?_) (fun cdv A outer s H vs Q E hr h => ?_)
  · obtain ⟨p, rfl, _⟩ := h
    rfl
  · obtain ⟨p, rfl, h⟩ := h
    refine ⟨_, (pss_one (ps_if (pt_not (pt_val (pe_callB (id := "isinstance") (r := rIsi K) call_isi (by rfl) T.n_isinstance (by decide +kernel) (pa_cons (pv 0 (hv := Or.inl rfl)) (pa_cons (pe_glob (v := .ref T.C_Kind) rfl T.g_Kind rfl) pa_nil))))) (pss_one ps_never) pss_nil)), ?_⟩
    try dsimp only [cxOf, Cx.nox, Cx.wish, Cx.blk]
    rw [show L2.start ["kind"] [.ref p] = [some (.ref p)] from rfl]
    obtain ⟨⟨wd, s, hk⟩, k⟩ := h
    walk_at "rd"
    refine w_isK T hk ?_
    walk_at "rd"
    refine iteF ?_
    walk_at "rd"
    exact k
def sp_least (K : PySem.W.Frag) (C : Addr) (C_Walk : Addr) (C_InvalidBound : Addr) (TS : List (Addr × Str)) : Sp := fun vs H Q _ => ∃ (p : Addr) (wd : Nat) (s : Bool), vs = [.ref p] ∧ Kd C H p wd s ∧ Q (.int (loK wd s)) H
theorem ok_least {P : Program} {w : World} {K : PySem.W.Frag} {mg : Str → Option Value} {base : Heap} (T : Txt K mg) (B : TBs T base w P) : FnOk P w K mg base CX0 2 T.f_least T.fd_least ["kind"] (sp_least K T.C_Kind T.C_Walk T.C_InvalidBound T.tabs) := by
  have G_check_kind := ok_check_kind (P := P) (w := w) (base := base) T B
  refine T.F_least.ok sc_least (fun vs H Q E h => ?_) (fun cdv A outer s H vs Q E hr h => ?_)
  · obtain ⟨p, wd, s, rfl, _⟩ := h
    rfl
  · obtain ⟨p, wd, s, rfl, h⟩ := h
    have hr_check_kind : Room 1 _ := hr.mono (by decide)
    refine ⟨_, (pss_cons (ps_expr (pe_call G_check_kind hr_check_kind rfl T.g_check_kind T.k_check_kind T.b_check_kind .nil pass0 (pa_cons (pv 0 (hv := Or.inl rfl)) pa_nil)))
      (pss_one (ps_ret (pe_ifExp (pt_val (pe_fld (pv 0 (hv := Or.inl rfl)) rfl)) (pe_un un_neg (pe_op op_shl pe_int (pe_op op_sub (pe_fld (pv 0 (hv := Or.inl rfl)) rfl) pe_int))) pe_int)))), ?_⟩
    try dsimp only [cxOf, Cx.nox, Cx.wish, Cx.blk]
    rw [show L2.start ["kind"] [.ref p] = [some (.ref p)] from rfl]
    obtain ⟨hk, k⟩ := h
    walk_at "rd"
    refine ⟨p, rfl, ⟨wd, s, hk⟩, ?_⟩
    walk_at "rd"
    refine w_if ?_
    walk_at "rd"
    refine w_fs T rfl hk ?_
    walk_at "rd"
    cases s with
    | false =>
      refine iteF ?_
      walk_at "rd"
      have e : loK wd false = 0 := by unfold loK; rw [if_neg Bool.false_ne_true]
      rw [e] at k
      exact k
    | true =>
      refine iteT ?_
      walk_at "rd"
      refine w_fb T rfl hk ?_
      walk_at "rd"
      have h1 := hk.w1
      have h2 := hk.w2
      have e : (wd : Int) - 1 = ((wd - 1 : Nat) : Int) := by omega
      rw [e]
      refine w_I (cpow (n := 1) (by omega) (by decide)) ?_
      walk_at "rd"
      rw [Int.toNat_natCast, Int.one_mul]
      have e : loK wd true = -(2 ^ (wd - 1)) := by unfold loK; rw [if_pos rfl]
      rw [e] at k
      exact k
def sp_greatest (K : PySem.W.Frag) (C : Addr) (C_Walk : Addr) (C_InvalidBound : Addr) (TS : List (Addr × Str)) : Sp := fun vs H Q _ => ∃ (p : Addr) (wd : Nat) (s : Bool), vs = [.ref p] ∧ Kd C H p wd s ∧ Q (.int (hiK wd s)) H
theorem ok_greatest {P : Program} {w : World} {K : PySem.W.Frag} {mg : Str → Option Value} {base : Heap} (T : Txt K mg) (B : TBs T base w P) : FnOk P w K mg base CX0 3 T.f_greatest T.fd_greatest ["kind"] (sp_greatest K T.C_Kind T.C_Walk T.C_InvalidBound T.tabs) := by
  have G_least := ok_least (P := P) (w := w) (base := base) T B
  refine T.F_greatest.ok sc_greatest (fun vs H Q E h => ?_) (fun cdv A outer s H vs Q E hr h => ?_)
  · obtain ⟨p, wd, s, rfl, _⟩ := h
    rfl
  · obtain ⟨p, wd, s, rfl, h⟩ := h
    have hr_least : Room 2 _ := hr.mono (by decide)
    refine ⟨_, (pss_one (ps_ret (pe_op op_sub (pe_op op_add (pe_call G_least hr_least rfl T.g_least T.k_least T.b_least .nil pass0 (pa_cons (pv 0 (hv := Or.inl rfl)) pa_nil)) (pe_op op_shl pe_int (pe_fld (pv 0 (hv := Or.inl rfl)) rfl))) pe_int))), ?_⟩
    try dsimp only [cxOf, Cx.nox, Cx.wish, Cx.blk]
    rw [show L2.start ["kind"] [.ref p] = [some (.ref p)] from rfl]
    obtain ⟨hk, k⟩ := h
    have h2 := hk.w2
    walk_at "rd"
    refine ⟨p, wd, s, rfl, hk, ?_⟩
    walk_at "rd"
    refine w_fb T rfl hk ?_
    walk_at "rd"
    refine w_I (cpow (n := 1) (by omega) (by decide)) ?_
    walk_at "rd"
    rw [Int.toNat_natCast, Int.one_mul]
    exact k
def sp_wrapped (K : PySem.W.Frag) (C : Addr) (C_Walk : Addr) (C_InvalidBound : Addr) (TS : List (Addr × Str)) : Sp := fun vs H Q _ => ∃ (p : Addr) (i : Int) (wd : Nat) (s : Bool), vs = [.ref p, .int i] ∧ Kd C H p wd s ∧ Q (.int (wr wd s i)) H
theorem ok_wrapped {P : Program} {w : World} {K : PySem.W.Frag} {mg : Str → Option Value} {base : Heap} (T : Txt K mg) (B : TBs T base w P) : FnOk P w K mg base CX0 3 T.f_wrapped T.fd_wrapped ["kind", "n"] (sp_wrapped K T.C_Kind T.C_Walk T.C_InvalidBound T.tabs) := by
  have G_check_integer := ok_check_integer (P := P) (w := w) (base := base) T B
  have G_check_kind := ok_check_kind (P := P) (w := w) (base := base) T B
  have G_least := ok_least (P := P) (w := w) (base := base) T B
  refine T.F_wrapped.ok sc_wrapped (fun vs H Q E h => ?_) (fun cdv A outer s H vs Q E hr h => ?_)
  · obtain ⟨p, i, wd, s, rfl, _⟩ := h
    rfl
  · obtain ⟨p, i, wd, s, rfl, h⟩ := h
    have hr_check_integer : Room 2 _ := hr.mono (by decide)
    have hr_check_kind : Room 1 _ := hr.mono (by decide)
    have hr_least : Room 2 _ := hr.mono (by decide)
    refine ⟨_, (pss_cons (ps_expr (pe_call G_check_kind hr_check_kind rfl T.g_check_kind T.k_check_kind T.b_check_kind .nil pass0 (pa_cons (pv 0 (hv := Or.inl rfl)) pa_nil)))
      (pss_cons (ps_expr (pe_call G_check_integer hr_check_integer rfl T.g_check_integer T.k_check_integer T.b_check_integer .nil pass0 (pa_cons (pv 1 (hv := Or.inl rfl)) (pa_cons pe_str pa_nil))))
      (pss_cons (ps_set (i := 2) sc_wrapped.nd rfl (Or.inl rfl) (pe_call G_least hr_least rfl T.g_least T.k_least T.b_least .nil pass0 (pa_cons (pv 0 (hv := Or.inl rfl)) pa_nil)))
      (pss_one (ps_ret (pe_op op_add (pv 2 (hv := Or.inl rfl)) (pe_op op_mod (pe_op op_sub (pv 1 (hv := Or.inl rfl)) (pv 2 (hv := Or.inl rfl))) (pe_op op_shl pe_int (pe_fld (pv 0 (hv := Or.inl rfl)) rfl))))))))), ?_⟩
    try dsimp only [cxOf, Cx.nox, Cx.wish, Cx.blk]
    rw [show L2.start ["kind", "n", "low"] [.ref p, .int i] = [some (.ref p), some (.int i), none] from rfl]
    obtain ⟨hk, k⟩ := h
    have h2 := hk.w2
    walk_at "rd"
    refine ⟨p, rfl, ⟨wd, s, hk⟩, ?_⟩
    walk_at "rd"
    refine ⟨_, _, rfl, ?_⟩
    walk_at "rd"
    refine ⟨p, wd, s, rfl, hk, ?_⟩
    walk_at "rd"
    refine w_fb T rfl hk ?_
    walk_at "rd"
    refine w_I (cpow (n := 1) (by omega) (by decide)) ?_
    rw [Int.toNat_natCast, Int.one_mul]
    refine w_I (p2 wd) ?_
    walk_at "rd"
    exact k
def sp_quotient_total (K : PySem.W.Frag) (C : Addr) (C_Walk : Addr) (C_InvalidBound : Addr) (TS : List (Addr × Str)) : Sp := fun vs H Q _ => ∃ (l : Addr) (a b m first last : Int), vs = [.ref l, .int m, .int first, .int last] ∧ H l = some (.tup [.int a, .int b]) ∧ 0 < m ∧ BB m ∧ BB a ∧ b.natAbs < 2 ^ 302 ∧ BB first ∧ BB last ∧ ∀ H', Same H H' → Q (.int (QT a b m first last)) H'
theorem ok_quotient_total {P : Program} {w : World} {K : PySem.W.Frag} {mg : Str → Option Value} {base : Heap} (T : Txt K mg) (B : TBs T base w P) : FnOk P w K mg base CX0 1 T.f_quotient_total T.fd_quotient_total ["line", "size", "first", "last"] (sp_quotient_total K T.C_Kind T.C_Walk T.C_InvalidBound T.tabs) := by
  refine T.F_quotient_total.ok sc_quotient_total (fun vs H Q E h => ?_) (fun cdv A outer s H vs Q E hr h => ?_)
  · obtain ⟨l, a, b, m, first, last, rfl, _⟩ := h
    rfl
  · obtain ⟨l, a, b, m, first, last, rfl, h⟩ := h
    refine ⟨_, (pss_cons (ps_asg (pv 0 (hv := Or.inl rfl)) (pg_tup rfl (pgs_cons (pg_name (i := 4) sc_quotient_total.nd rfl (Or.inl rfl)) (pgs_cons (pg_name (i := 5) sc_quotient_total.nd rfl (Or.inl rfl)) pgs_nil))))
      (pss_cons (ps_set (i := 6) sc_quotient_total.nd rfl (Or.inl rfl) (pe_op op_add (pe_op op_sub (pv 3 (hv := Or.inl rfl)) (pv 2 (hv := Or.inl rfl))) pe_int))
      (pss_cons (ps_if (pt_cmpR op_le (pv 6 (hv := Or.inl rfl)) pe_int (nomark _)) (pss_one (ps_ret pe_int)) pss_nil)
      (pss_cons (ps_aug (i := 5) sc_quotient_total.nd rfl (Or.inl rfl) (pe_op op_mulX (pv 4 (hv := Or.inl rfl)) (pv 2 (hv := Or.inl rfl))) ip_add)
      (pss_cons (ps_set (i := 7) sc_quotient_total.nd rfl (Or.inl rfl) pe_int)
      (pss_one (ps_while PassesOwn.never (pt_val pe_bl)
        (pss_cons (ps_aug (i := 7) sc_quotient_total.nd rfl (Or.inl rfl) (pe_op op_add (pe_op op_mulX (pe_op op_fdiv (pe_op op_mulX (pv 6 (hv := Or.inl rfl)) (pe_op op_sub (pv 6 (hv := Or.inl rfl)) pe_int)) pe_int) (pe_op op_fdivW (pv 4 (hv := Or.inl rfl)) (pv 1 (hv := Or.inl rfl)))) (pe_op op_mulX (pv 6 (hv := Or.inl rfl)) (pe_op op_fdivW (pv 5 (hv := Or.inl rfl)) (pv 1 (hv := Or.inl rfl))))) ip_add)
      (pss_cons (ps_par rfl sc_quotient_total.nd (i := 4) (j := 5) rfl rfl (by decide) rfl rfl (pa_cons (pe_op op_mod (pv 4 (hv := Or.inl rfl)) (pv 1 (hv := Or.inl rfl))) (pa_cons (pe_op op_mod (pv 5 (hv := Or.inl rfl)) (pv 1 (hv := Or.inl rfl))) pa_nil)) (by rfl))
      (pss_cons (ps_set (i := 8) sc_quotient_total.nd rfl (Or.inl rfl) (pe_op op_add (pe_op op_mulX (pv 4 (hv := Or.inl rfl)) (pv 6 (hv := Or.inl rfl))) (pv 5 (hv := Or.inl rfl))))
      (pss_cons (ps_if (pt_cmpR op_lt (pv 8 (hv := Or.inl rfl)) (pv 1 (hv := Or.inl rfl)) (nomark _)) (pss_one (ps_ret (pv 7 (hv := Or.inl rfl)))) pss_nil)
      (pss_cons (ps_asg (pe_callB (id := "divmod") (r := rDivC) call_divmodW (by rfl) T.n_divmod (by decide +kernel) (pa_cons (pv 8 (hv := Or.inl rfl)) (pa_cons (pv 1 (hv := Or.inl rfl)) pa_nil))) (pg_tup rfl (pgs_cons (pg_name (i := 6) sc_quotient_total.nd rfl (Or.inl rfl)) (pgs_cons (pg_name (i := 5) sc_quotient_total.nd rfl (Or.inl rfl)) pgs_nil))))
      (pss_one (ps_par rfl sc_quotient_total.nd (i := 4) (j := 1) rfl rfl (by decide) rfl rfl (pa_cons (pv 1 (hv := Or.inl rfl)) (pa_cons (pv 4 (hv := Or.inl rfl)) pa_nil)) (by rfl))))))))))))))), ?_⟩
    try dsimp only [cxOf, Cx.nox, Cx.wish, Cx.blk]
    rw [show L2.start ["line", "size", "first", "last", "a", "b", "count", "total", "top"] [.ref l, .int m, .int first, .int last] = [some (.ref l), some (.int m), some (.int first), some (.int last), none, none, none, none, none] from rfl]
    obtain ⟨hl, m0, bm, ba, bb, bf, bl, k⟩ := h
    unfold BB at bm ba bf bl
    have h302 : (2 : Nat) ^ 302 = 4 * 2 ^ 300 := by decide +kernel
    walk_at "rd"
    refine w_dec (fun c => ?_) (fun c => ?_)
    · walk_at "rd"
      have e : QT a b m first last = 0 := by unfold QT; rw [show (last - first + 1).toNat = 0 by omega]; rfl
      rw [e] at k
      exact k _ (Same.refl H)
    obtain ⟨n, hn⟩ := Int.eq_ofNat_of_zero_le (show 0 ≤ last - first + 1 by omega)
    have n0 : 0 < n := by omega
    have nb : n < 2 ^ 302 := by omega
    rw [hn]
    have bmul : (a * first).natAbs < 2 ^ (300 + 300) := wide_lt ba bf
    have h600 : (2 : Nat) ^ (300 + 300) + 2 ^ 302 < 2 ^ 601 := by decide +kernel
    walk_at "rd"
    refine w_aug rfl ?_
    walk_at "rd"
    refine w_I (mulx_ok ba bf (by decide)) ?_
    refine ⟨_, _, rfl, rfl, ?_⟩
    walk_at "rd"
    rw [QT_QS, hn, Int.toNat_natCast] at k
    refine w_while (fun ms σ H' => ∃ (a' b' m' t : Int) (n' : Nat) (v : Option V), σ = [some (.ref l), some (.int m'), some (.int first), some (.int last), some (.int a'), some (.int b'), some (.int (n' : Int)), some (.int t), v] ∧ ms = m'.toNat ∧ 0 < m' ∧ BB m' ∧ BB a' ∧ b'.natAbs < 2 ^ 601 ∧ 0 < n' ∧ n' < 2 ^ 302 ∧ t + QS a' b' m' n' = QS a (b + a * first) m n ∧ Same H H')
      m.toNat ⟨a, b + a * first, m, 0, n, none, rfl, rfl, m0, bm, ba, by omega, n0, nb, by omega, Same.refl H⟩ ?_
    rintro ms σ H' ⟨a', b', m', t, n', v, rfl, rfl, m0', bm', ba', bb', n0', nb', heq, sm⟩
    unfold BB at bm' ba'
    walk_at "rd"
    refine iteT ?_
    refine ⟨_, fun _ _ h => h, ?_⟩
    walk_at "rd"
    refine w_aug rfl ?_
    have bn : ((n' : Int)).natAbs < 2 ^ 302 := by omega
    have bn1 : ((n' : Int) - 1).natAbs < 2 ^ 302 := by omega
    have bnn : ((n' : Int) * ((n' : Int) - 1)).natAbs < 2 ^ (302 + 302) := wide_lt bn bn1
    have q1 := Int.natAbs_ediv_le_natAbs a' m'
    have q2 := Int.natAbs_ediv_le_natAbs b' m'
    have bnn2 : ((n' : Int) * ((n' : Int) - 1) / 2).natAbs < 2 ^ (302 + 302) := Nat.lt_of_le_of_lt (Int.natAbs_ediv_le_natAbs _ 2) bnn
    walk_at "rd"
    refine w_I (mulx_ok bn bn1 (by decide)) ?_
    walk_at "rd"
    refine w_I (wide_div m0' bm' (by decide) (by decide)) ?_
    walk_at "rd"
    refine w_I (mulx_ok bnn2 (Nat.lt_of_le_of_lt q1 ba') (by decide)) ?_
    walk_at "rd"
    refine w_I (wide_div m0' bm' (by decide) (by decide)) ?_
    walk_at "rd"
    refine w_I (mulx_ok bn (Nat.lt_of_le_of_lt q2 bb') (by decide)) ?_
    walk_at "rd"
    refine ⟨_, _, rfl, rfl, ?_⟩
    walk_at "rd"
    refine w_I m0' ?_
    walk_at "rd"
    refine w_I m0' ?_
    walk_at "rd"
    have r0 := Int.emod_nonneg a' (Int.ne_of_gt m0')
    have r1 := Int.emod_lt_of_pos a' m0'
    have s0 := Int.emod_nonneg b' (Int.ne_of_gt m0')
    have s1 := Int.emod_lt_of_pos b' m0'
    have bam : (a' % m').natAbs < 2 ^ 300 := by omega
    have bbm : (b' % m').natAbs < 2 ^ 300 := by omega
    refine w_I (mulx_ok bam bn (by decide)) ?_
    have bam2 : (a' % m' * (n' : Int)).natAbs < 2 ^ (300 + 302) := wide_lt bam bn
    walk_at "rd"
    have red := QS_red a' b' m0' n'
    refine w_dec (fun c2 => ?_) (fun c2 => ?_)
    · walk_at "rd"
      have z := QS_zero r0 s0 n' c2
      have e : t + ((n' : Int) * ((n' : Int) - 1) / 2 * (a' / m') + (n' : Int) * (b' / m')) = QS a (b + a * first) m n := by omega
      rw [e]
      exact k _ sm
    have ap : 0 < a' % m' := by
      rcases Int.lt_or_le 0 (a' % m') with z | z
      · exact z
      · have z0 : a' % m' = 0 := by omega
        rw [z0, Int.zero_mul] at c2; omega
    have anb : 0 ≤ a' % m' * (n' : Int) := Int.mul_nonneg r0 (by omega)
    have top0 : 0 ≤ a' % m' * (n' : Int) + b' % m' := by omega
    have topb : (a' % m' * (n' : Int) + b' % m').natAbs < 2 ^ 603 := by
      have : (2 : Nat) ^ (300 + 302) + 2 ^ 300 < 2 ^ 603 := by decide +kernel
      omega
    walk_at "rd"
    refine ⟨_, _, rfl, divp_ok m0' ?_, fun pr hpr => ?_⟩
    · have := PyProof.Rows.intBits_le topb
      omega
    have hq0 : 0 ≤ (a' % m' * (n' : Int) + b' % m') / m' := Int.ediv_nonneg top0 (Int.le_of_lt m0')
    obtain ⟨n2, hn2⟩ := Int.eq_ofNat_of_zero_le hq0
    have n2p : 0 < n2 := by
      have : 1 ≤ (a' % m' * (n' : Int) + b' % m') / m' := (Int.le_ediv_iff_mul_le m0').mpr (by omega)
      omega
    have n2b : n2 ≤ n' := by
      have h1 : (a' % m' * (n' : Int) + b' % m') / m' < (n' : Int) + 1 := (Int.ediv_lt_iff_lt_mul m0').mpr (by
        have : a' % m' * (n' : Int) ≤ m' * (n' : Int) := Int.mul_le_mul_of_nonneg_right (by omega) (by omega)
        rw [Int.add_mul, Int.one_mul, Int.mul_comm (n' : Int) m']; omega)
      omega
    rw [hn2]
    have u0 := Int.emod_nonneg (a' % m' * (n' : Int) + b' % m') (Int.ne_of_gt m0')
    have u1 := Int.emod_lt_of_pos (a' % m' * (n' : Int) + b' % m') m0'
    have turn := QS_turn ap r1 s0 s1 n' hn2.symm
    have h601 : (2 : Nat) ^ 300 < 2 ^ 601 := by decide +kernel
    walk_at "rd"
    refine ⟨(a' % m').toNat, by omega, m', _, a' % m', _, n2, _, rfl, rfl, ap, bam, bm', ?_, n2p, by omega, ?_, sm_new sm hpr⟩
    · omega
    · omega
def sp_total_between (K : PySem.W.Frag) (C : Addr) (C_Walk : Addr) (C_InvalidBound : Addr) (TS : List (Addr × Str)) : Sp := fun vs H Q _ => ∃ (l : Addr) (a b m first last lo hi : Int), vs = [.ref l, .int m, .int first, .int last, .int lo, .int hi] ∧ H l = some (.tup [.int a, .int b]) ∧ 0 < m ∧ BB m ∧ BB a ∧ BB b ∧ BB first ∧ BB last ∧ BB lo ∧ BB hi ∧ (lo ≤ hi → hi - lo < m) ∧ ∀ H', Same H H' → Q (.int (tot (fun x => inR m lo hi (a * x + b)) first last)) H'
theorem ok_total_between {P : Program} {w : World} {K : PySem.W.Frag} {mg : Str → Option Value} {base : Heap} (T : Txt K mg) (B : TBs T base w P) : FnOk P w K mg base CX0 2 T.f_total_between T.fd_total_between ["line", "size", "first", "last", "low", "high"] (sp_total_between K T.C_Kind T.C_Walk T.C_InvalidBound T.tabs) := by
  have G_quotient_total := ok_quotient_total (P := P) (w := w) (base := base) T B
  refine T.F_total_between.ok sc_total_between (fun vs H Q E h => ?_) (fun cdv A outer s H vs Q E hr h => ?_)
  · obtain ⟨l, a, b, m, first, last, lo, hi, rfl, _⟩ := h
    rfl
  · obtain ⟨l, a, b, m, first, last, lo, hi, rfl, h⟩ := h
    have hr_quotient_total : Room 1 _ := hr.mono (by decide)
    refine ⟨_, (pss_cons (ps_if (pt_cmpR op_lt (pv 5 (hv := Or.inl rfl)) (pv 4 (hv := Or.inl rfl)) (nomark _)) (pss_one (ps_ret pe_int)) pss_nil)
      (pss_cons (ps_asg (pv 0 (hv := Or.inl rfl)) (pg_tup rfl (pgs_cons (pg_name (i := 6) sc_total_between.nd rfl (Or.inl rfl)) (pgs_cons (pg_name (i := 7) sc_total_between.nd rfl (Or.inl rfl)) pgs_nil))))
      (pss_one (ps_ret (pe_op op_sub (pe_call G_quotient_total hr_quotient_total rfl T.g_quotient_total T.k_quotient_total T.b_quotient_total .nil pass0 (pa_cons (pe_tup (pa_cons (pv 6 (hv := Or.inl rfl)) (pa_cons (pe_op op_sub (pv 7 (hv := Or.inl rfl)) (pv 4 (hv := Or.inl rfl))) pa_nil))) (pa_cons (pv 1 (hv := Or.inl rfl)) (pa_cons (pv 2 (hv := Or.inl rfl)) (pa_cons (pv 3 (hv := Or.inl rfl)) pa_nil))))) (pe_call G_quotient_total hr_quotient_total rfl T.g_quotient_total T.k_quotient_total T.b_quotient_total .nil pass0 (pa_cons (pe_tup (pa_cons (pv 6 (hv := Or.inl rfl)) (pa_cons (pe_op op_sub (pe_op op_sub (pv 7 (hv := Or.inl rfl)) (pv 5 (hv := Or.inl rfl))) pe_int) pa_nil))) (pa_cons (pv 1 (hv := Or.inl rfl)) (pa_cons (pv 2 (hv := Or.inl rfl)) (pa_cons (pv 3 (hv := Or.inl rfl)) pa_nil)))))))))), ?_⟩
    try dsimp only [cxOf, Cx.nox, Cx.wish, Cx.blk]
    rw [show L2.start ["line", "size", "first", "last", "low", "high", "a", "b"] [.ref l, .int m, .int first, .int last, .int lo, .int hi] = [some (.ref l), some (.int m), some (.int first), some (.int last), some (.int lo), some (.int hi), none, none] from rfl]
    obtain ⟨hl, m0, bm, ba, bb, bf, bl, blo, bhi, hlt, k⟩ := h
    walk_at "rd"
    refine w_dec (fun c => ?_) (fun c => ?_)
    · walk_at "rd"
      rw [tot_never (fun x => inR_none c (a * x + b))] at k
      exact k _ (Same.refl H)
    walk_at "rd"
    have e := QT_between (a := a) (b := b) (first := first) (last := last) m0 (show lo ≤ hi by omega) (hlt (by omega))
    have h302 : (2 : Nat) ^ 302 = 4 * 2 ^ 300 := by decide +kernel
    unfold BB at bb blo bhi
    refine ⟨by show 2 ≤ sizeLine; decide, fun q1 hq1 => ?_⟩
    walk_at "rd"
    refine ⟨q1, a, b - lo, m, first, last, rfl, upd_same, m0, bm, ba, by omega, bf, bl, fun H1 s1 => ?_⟩
    walk_at "rd"
    refine ⟨by show 2 ≤ sizeLine; decide, fun q2 hq2 => ?_⟩
    walk_at "rd"
    refine ⟨q2, a, b - hi - 1, m, first, last, rfl, upd_same, m0, bm, ba, by omega, bf, bl, fun H2 s2 => ?_⟩
    walk_at "rd"
    rw [e]
    exact k _ (((sm_new (Same.refl H) hq1).trans s1).trans ((sm_new (Same.refl H1) hq2).trans s2))
def sp_check_line (K : PySem.W.Frag) (C : Addr) (C_Walk : Addr) (C_InvalidBound : Addr) (TS : List (Addr × Str)) : Sp := fun vs H Q _ => ∃ (l : Addr) (z : Str) (a b : Int), vs = [.ref l, .str z] ∧ H l = some (.tup [.int a, .int b]) ∧ SD a ∧ SD b ∧ Q .non H
theorem ok_check_line {P : Program} {w : World} {K : PySem.W.Frag} {mg : Str → Option Value} {base : Heap} (T : Txt K mg) (B : TBs T base w P) : FnOk P w K mg base CX0 3 T.f_check_line T.fd_check_line ["line", "argument"] (sp_check_line K T.C_Kind T.C_Walk T.C_InvalidBound T.tabs) := by
  have G_is_sixty_digits := ok_is_sixty_digits (P := P) (w := w) (base := base) T B
  refine T.F_check_line.ok sc_check_line (fun vs H Q E h => ?_) (fun cdv A outer s H vs Q E hr h => ?_)
  · obtain ⟨l, z, a, b, rfl, _⟩ := h
    rfl
  · obtain ⟨l, z, a, b, rfl, h⟩ := h
    have hr_is_sixty_digits : Room 2 _ := hr.mono (by decide)
    refine ⟨_, (pss_cons (ps_if (pt_not (PW.pt (pw_and (pt_val (pe_callB (id := "isinstance") (r := rIsi K) call_isi (by rfl) T.n_isinstance (by decide +kernel) (pa_cons (pv 0 (hv := Or.inl rfl)) (pa_cons (pe_bltn (v := .ty "tuple") (by rfl) T.n_tuple (by decide +kernel) rfl) pa_nil)))) (pw_and1 (pt_cmpR op_eq (pe_callB (id := "len") (r := rLenS K) call_len_seq (by rfl) T.n_len (by decide +kernel) (pa_cons (pv 0 (hv := Or.inl rfl)) pa_nil)) pe_int (nomark _)))))) (pss_one ps_never) pss_nil)
      (pss_one (ps_if (pt_not (PW.pt (pw_and (pt_val (pe_call G_is_sixty_digits hr_is_sixty_digits rfl T.g_is_sixty_digits T.k_is_sixty_digits T.b_is_sixty_digits .nil pass0 (pa_cons (pe_ix (r := rIxT K) ix_tup (pv 0 (hv := Or.inl rfl)) pe_int (fun _ _ => rfl)) pa_nil))) (pw_and1 (pt_val (pe_call G_is_sixty_digits hr_is_sixty_digits rfl T.g_is_sixty_digits T.k_is_sixty_digits T.b_is_sixty_digits .nil pass0 (pa_cons (pe_ix (r := rIxT K) ix_tup (pv 0 (hv := Or.inl rfl)) pe_int (fun _ _ => rfl)) pa_nil))))))) (pss_one ps_never) pss_nil))), ?_⟩
    try dsimp only [cxOf, Cx.nox, Cx.wish, Cx.blk]
    rw [show L2.start ["line", "argument"] [.ref l, .str z] = [some (.ref l), some (.str z)] from rfl]
    obtain ⟨hl, sa, sb, k⟩ := h
    walk_at "rd"
    refine w_isi (b := true) (.base (.tup hl)) (by decide +kernel) ?_
    walk_at "rd"
    refine iteT ?_
    walk_at "rd"
    refine w_lenT hl ?_
    walk_at "rd"
    refine w_bF (by simp) ?_
    walk_at "rd"
    refine ⟨a, rfl, ?_⟩
    walk_at "rd"
    rw [decide_eq_true (show -(10 ^ 60) < a ∧ a < 10 ^ 60 from sa)]
    refine iteT ?_
    walk_at "rd"
    refine ⟨b, rfl, ?_⟩
    walk_at "rd"
    rw [decide_eq_true (show -(10 ^ 60) < b ∧ b < 10 ^ 60 from sb)]
    refine iteF ?_
    walk_at "rd"
    exact k
def sp_check_range (K : PySem.W.Frag) (C : Addr) (C_Walk : Addr) (C_InvalidBound : Addr) (TS : List (Addr × Str)) : Sp := fun vs H Q _ => ∃ (i j : Int), vs = [.int i, .int j] ∧ SD i ∧ SD j ∧ Q .non H
theorem ok_check_range {P : Program} {w : World} {K : PySem.W.Frag} {mg : Str → Option Value} {base : Heap} (T : Txt K mg) (B : TBs T base w P) : FnOk P w K mg base CX0 4 T.f_check_range T.fd_check_range ["first", "last"] (sp_check_range K T.C_Kind T.C_Walk T.C_InvalidBound T.tabs) := by
  have G_check_sixty_digits := ok_check_sixty_digits (P := P) (w := w) (base := base) T B
  refine T.F_check_range.ok sc_check_range (fun vs H Q E h => ?_) (fun cdv A outer s H vs Q E hr h => ?_)
  · obtain ⟨i, j, rfl, _⟩ := h
    rfl
  · obtain ⟨i, j, rfl, h⟩ := h
    have hr_check_sixty_digits : Room 3 _ := hr.mono (by decide)
    refine ⟨_, (pss_cons (ps_expr (pe_call G_check_sixty_digits hr_check_sixty_digits rfl T.g_check_sixty_digits T.k_check_sixty_digits T.b_check_sixty_digits .nil pass0 (pa_cons (pv 0 (hv := Or.inl rfl)) (pa_cons pe_str pa_nil))))
      (pss_one (ps_expr (pe_call G_check_sixty_digits hr_check_sixty_digits rfl T.g_check_sixty_digits T.k_check_sixty_digits T.b_check_sixty_digits .nil pass0 (pa_cons (pv 1 (hv := Or.inl rfl)) (pa_cons pe_str pa_nil)))))), ?_⟩
    try dsimp only [cxOf, Cx.nox, Cx.wish, Cx.blk]
    rw [show L2.start ["first", "last"] [.int i, .int j] = [some (.int i), some (.int j)] from rfl]
    obtain ⟨si, sj, k⟩ := h
    walk_at "rd"
    refine ⟨i, _, rfl, si, ?_⟩
    walk_at "rd"
    refine ⟨j, _, rfl, sj, ?_⟩
    walk_at "rd"
    exact k
def sp_exact_at (K : PySem.W.Frag) (C : Addr) (C_Walk : Addr) (C_InvalidBound : Addr) (TS : List (Addr × Str)) : Sp := fun vs H Q _ => ∃ (l : Addr) (a b x : Int), vs = [.ref l, .int x] ∧ H l = some (.tup [.int a, .int b]) ∧ BB a ∧ BB x ∧ Q (.int (a * x + b)) H
theorem ok_exact_at {P : Program} {w : World} {K : PySem.W.Frag} {mg : Str → Option Value} {base : Heap} (T : Txt K mg) (B : TBs T base w P) : FnOk P w K mg base CX0 1 T.f_exact_at T.fd_exact_at ["line", "x"] (sp_exact_at K T.C_Kind T.C_Walk T.C_InvalidBound T.tabs) := by
  refine T.F_exact_at.ok sc_exact_at (fun vs H Q E h => ?_) (fun cdv A outer s H vs Q E hr h => ?_)
  · obtain ⟨l, a, b, x, rfl, _⟩ := h
    rfl
  · obtain ⟨l, a, b, x, rfl, h⟩ := h
    refine ⟨_, (pss_cons (ps_asg (pv 0 (hv := Or.inl rfl)) (pg_tup rfl (pgs_cons (pg_name (i := 2) sc_exact_at.nd rfl (Or.inl rfl)) (pgs_cons (pg_name (i := 3) sc_exact_at.nd rfl (Or.inl rfl)) pgs_nil))))
      (pss_one (ps_ret (pe_op op_add (pe_op op_mulX (pv 2 (hv := Or.inl rfl)) (pv 1 (hv := Or.inl rfl))) (pv 3 (hv := Or.inl rfl)))))), ?_⟩
    try dsimp only [cxOf, Cx.nox, Cx.wish, Cx.blk]
    rw [show L2.start ["line", "x", "a", "b"] [.ref l, .int x] = [some (.ref l), some (.int x), none, none] from rfl]
    obtain ⟨hl, ba, bx, k⟩ := h
    walk_at "rd"
    refine w_I (mulx_ok ba bx (by decide)) ?_
    walk_at "rd"
    exact k
def sp_wanted_of (K : PySem.W.Frag) (C : Addr) (C_Walk : Addr) (C_InvalidBound : Addr) (TS : List (Addr × Str)) : CP → Sp := fun CC => fun vs H Q _ => ∃ (f : Addr) (first last j : Int) (p : Int → Bool), vs = [.ref f, .int first, .int last, .int (tot p first last), .int j] ∧ CC 12 f (spT2 TS H p first last) ∧ BB first ∧ BB last ∧ 0 ≤ j ∧ j < tot p first last ∧ ∀ x H', AtOf p first last j x → Sm TS H H' → Q (.int x) H'
theorem ok_wanted_of {P : Program} {w : World} {K : PySem.W.Frag} {mg : Str → Option Value} {base : Heap} (T : Txt K mg) (B : TBs T base w P) : FnOkC P w K mg base 16 T.f_wanted_of T.fd_wanted_of ["total", "first", "last", "many", "j"] (sp_wanted_of K T.C_Kind T.C_Walk T.C_InvalidBound T.tabs) := by
  refine Fw.okC T.F_wanted_of sc_wanted_of (fun CC vs H Q E h => ?_) (fun cdv A outer s H vs Q hr h => ?_)
  · obtain ⟨f, first, last, j, p, rfl, _⟩ := h
    rfl
  · let CC : CP := Cal P w K mg base outer H s
    obtain ⟨f, first, last, j, p, rfl, h⟩ := h
    refine ⟨_, (pss_cons (ps_set (i := 5) sc_wanted_of.nd rfl (Or.inl rfl) pe_int)
      (pss_cons (ps_while PassesOwn.never (pt_cmpR op_le (pv 3 (hv := Or.inl rfl)) (pe_op op_sub (pv 2 (hv := Or.inl rfl)) (pv 1 (hv := Or.inl rfl))) (nomark _))
        (pss_cons (ps_set (i := 6) sc_wanted_of.nd rfl (Or.inl rfl) (pe_op op_sub (pv 2 (hv := Or.inl rfl)) (pv 1 (hv := Or.inl rfl))))
      (pss_cons (ps_set (i := 7) sc_wanted_of.nd rfl (Or.inl rfl) (pe_callB (id := "max") (r := rmax2C) (call_max2 rfl) (by rfl) T.n_max (by decide +kernel) (pa_cons pe_int (pa_cons (pe_op op_shr (pe_bits (pv 6 (hv := Or.inl rfl))) (pv 5 (hv := Or.inl rfl))) pa_nil))))
      (pss_cons (ps_set (i := 8) sc_wanted_of.nd rfl (Or.inl rfl) (pe_op op_add (pv 1 (hv := Or.inl rfl)) (pe_op op_fdivW (pe_op op_mulX (pv 6 (hv := Or.inl rfl)) (pe_op op_add (pe_op op_mul pe_int (pv 4 (hv := Or.inl rfl))) pe_int)) (pe_op op_mul pe_int (pv 3 (hv := Or.inl rfl))))))
      (pss_cons (ps_set (i := 9) sc_wanted_of.nd rfl (Or.inl rfl) (pe_op op_add (pv 1 (hv := Or.inl rfl)) (pe_op op_fdiv (pe_op op_sub (pv 6 (hv := Or.inl rfl)) pe_int) pe_int)))
      (pss_cons (ps_set (i := 10) sc_wanted_of.nd rfl (Or.inl rfl) (pe_cmpR op_le (pv 8 (hv := Or.inl rfl)) (pv 9 (hv := Or.inl rfl)) (nomark _)))
      (pss_cons (ps_if (pt_val (pv 10 (hv := Or.inl rfl))) (pss_cons (ps_set (i := 11) sc_wanted_of.nd rfl (Or.inl rfl) (pe_callB (id := "min") (r := rmin2C) (call_min2 rfl) (by rfl) T.n_min (by decide +kernel) (pa_cons (pe_op op_add (pv 8 (hv := Or.inl rfl)) (pe_op op_shr (pv 6 (hv := Or.inl rfl)) (pv 7 (hv := Or.inl rfl)))) (pa_cons (pv 9 (hv := Or.inl rfl)) pa_nil))))
      (pss_one (ps_set (i := 12) sc_wanted_of.nd rfl (Or.inl rfl) (pe_cal (C := CC) (k := 12) (i := 0) (fun _ _ _ z => z) (hr.mono (by decide)) rfl (Or.inl rfl) rfl (pa_cons (pv 1 (hv := Or.inl rfl)) (pa_cons (pv 11 (hv := Or.inl rfl)) pa_nil)))))) (pss_cons (ps_set (i := 11) sc_wanted_of.nd rfl (Or.inl rfl) (pe_callB (id := "max") (r := rmax2C) (call_max2 rfl) (by rfl) T.n_max (by decide +kernel) (pa_cons (pe_op op_sub (pe_op op_sub (pv 8 (hv := Or.inl rfl)) (pe_op op_shr (pv 6 (hv := Or.inl rfl)) (pv 7 (hv := Or.inl rfl)))) pe_int) (pa_cons (pv 9 (hv := Or.inl rfl)) pa_nil))))
      (pss_one (ps_set (i := 12) sc_wanted_of.nd rfl (Or.inl rfl) (pe_op op_sub (pv 3 (hv := Or.inl rfl)) (pe_cal (C := CC) (k := 12) (i := 0) (fun _ _ _ z => z) (hr.mono (by decide)) rfl (Or.inl rfl) rfl (pa_cons (pe_op op_add (pv 11 (hv := Or.inl rfl)) pe_int) (pa_cons (pv 2 (hv := Or.inl rfl)) pa_nil))))))))
      (pss_cons (ps_set (i := 13) sc_wanted_of.nd rfl (Or.inl rfl) (pe_cmpR op_lt (pv 4 (hv := Or.inl rfl)) (pv 12 (hv := Or.inl rfl)) (nomark _)))
      (pss_cons (ps_if (pt_val (pv 13 (hv := Or.inl rfl))) (pss_one (ps_par rfl sc_wanted_of.nd (i := 2) (j := 3) rfl rfl (by decide) rfl rfl (pa_cons (pv 11 (hv := Or.inl rfl)) (pa_cons (pv 12 (hv := Or.inl rfl)) pa_nil)) (by rfl))) (pss_one (ps_par3 rfl sc_wanted_of.nd (i := 1) (j := 3) (l := 4) rfl rfl rfl (by decide) (by decide) (by decide) rfl rfl rfl (pa_cons (pe_op op_add (pv 11 (hv := Or.inl rfl)) pe_int) (pa_cons (pe_op op_sub (pv 3 (hv := Or.inl rfl)) (pv 12 (hv := Or.inl rfl))) (pa_cons (pe_op op_sub (pv 4 (hv := Or.inl rfl)) (pv 12 (hv := Or.inl rfl))) pa_nil))) (by rfl))))
      (pss_one (ps_if (pt_cmpR op_eq (pv 13 (hv := Or.inl rfl)) (pv 10 (hv := Or.inl rfl)) (nomark _)) (pss_one (ps_set (i := 5) sc_wanted_of.nd rfl (Or.inl rfl) (pe_callB (id := "max") (r := rmax2C) (call_max2 rfl) (by rfl) T.n_max (by decide +kernel) (pa_cons pe_int (pa_cons (pe_op op_sub (pv 5 (hv := Or.inl rfl)) pe_int) pa_nil))))) (pss_one (ps_if (pt_cmpR op_gt (pv 7 (hv := Or.inl rfl)) pe_int (nomark _)) (pss_one (ps_aug (i := 5) sc_wanted_of.nd rfl (Or.inl rfl) pe_int ip_add)) pss_nil)))))))))))))
      (pss_one (ps_ret (pe_op op_add (pv 1 (hv := Or.inl rfl)) (pv 4 (hv := Or.inl rfl))))))), ?_⟩
    try dsimp only [cxOf, Cx.nox, Cx.wish, Cx.blk]
    rw [show L2.start ["total", "first", "last", "many", "j", "doubt", "width", "room", "guess", "middle", "is_low", "split", "ahead", "is_ahead"] [.ref f, .int first, .int last, .int (tot p first last), .int j] = [some (.ref f), some (.int first), some (.int last), some (.int (tot p first last)), some (.int j), none, none, none, none, none, none, none, none, none] from rfl]
    obtain ⟨hc, bf, bl, j0, j1, k⟩ := h
    unfold BB at bf bl
    have h302 : (2 : Nat) ^ 302 = 4 * 2 ^ 300 := by decide +kernel
    have fl : first ≤ last := Int.not_lt.mp fun c => by rw [tot_none c] at j1; omega
    walk_at "rd"
    refine w_while (fun m σ H' => ∃ (A B M J dbt : Int) (v6 v7 v8 v9 v10 v11 v12 v13 : Option V), σ = [some (.ref f), some (.int A), some (.int B), some (.int M), some (.int J), some (.int dbt), v6, v7, v8, v9, v10, v11, v12, v13] ∧ m = (B - A).toNat ∧ first ≤ A ∧ A ≤ B ∧ B ≤ last ∧ M = tot p A B ∧ 0 ≤ J ∧ J < M ∧ tot p first (A - 1) + J = j ∧ 1 ≤ dbt ∧ Sm T.tabs H H')
      (last - first).toNat ⟨first, last, _, j, 1, none, none, none, none, none, none, none, none, rfl, rfl, Int.le_refl _, fl, Int.le_refl _, rfl, j0, j1, by rw [tot_none (show first - 1 < first by omega)]; omega, by decide, Sm.refl H⟩ ?_
    rintro m σ H' ⟨A, B, M, J, dbt, v6, v7, v8, v9, v10, v11, v12, v13, rfl, rfl, hA, hAB, hB, hM, hJ0, hJ1, hj, hd, sm⟩
    walk_at "rd"
    refine w_dec (fun c => ?_) (fun c => ?_)
    · refine ⟨_, fun _ _ h => h, ?_⟩
      walk_at "rd"
      refine w_I (show (0 : Int) ≤ dbt by omega) ?_
      walk_at "rd"
      refine w_max2 ?_
      have r1 := Int.le_max_left 1 (((Builtin.Int.intBits (B - A) : Nat) : Int) / 2 ^ dbt.toNat)
      generalize max (1 : Int) (((Builtin.Int.intBits (B - A) : Nat) : Int) / 2 ^ dbt.toNat) = r at r1 ⊢
      obtain ⟨g0, g1⟩ := guess_lt (W := B - A) (M := M) (J := J) (by omega) c hJ0 hJ1
      walk_at "rd"
      refine w_I (mulx_ok (show (B - A).natAbs < 2 ^ 302 by omega) (show (2 * J + 1).natAbs < 2 ^ 303 by rw [show (2 : Nat) ^ 303 = 8 * 2 ^ 300 from by decide +kernel]; omega) (by decide)) ?_
      walk_at "rd"
      refine w_I (wide_div (show (0 : Int) < 2 * M by omega) (show (2 * M).natAbs < 2 ^ 303 by rw [show (2 : Nat) ^ 303 = 8 * 2 ^ 300 from by decide +kernel]; omega) (by decide) (by decide)) ?_
      generalize (B - A) * (2 * J + 1) / (2 * M) = g at g0 g1 ⊢
      walk_at "rd"
      have s0 : 0 ≤ (B - A) / 2 ^ r.toNat := Int.ediv_nonneg (by omega) (Int.le_of_lt (Int.pow_pos (by decide)))
      refine w_stJ (fun σ' H2 => (∃ sp : Int, σ' = [some (.ref f), some (.int A), some (.int B), some (.int M), some (.int J), some (.int dbt), some (.int (B - A)), some (.int r), some (.int (A + g)), some (.int (A + (B - A - 1) / 2)), some (.bl (decide (A + g ≤ A + (B - A - 1) / 2))), some (.int sp), some (.int (tot p A sp)), v13] ∧ A ≤ sp ∧ sp < B) ∧ Sm T.tabs H H2) (fun c1 D' q => ?_) (fun c1 D' q => ?_) ?_
      · walk_at "rd"
        refine w_I (show (0 : Int) ≤ r by omega) ?_
        walk_at "rd"
        refine w_min2 ?_
        have m1 : A ≤ min (A + g + (B - A) / 2 ^ r.toNat) (A + (B - A - 1) / 2) ∧ min (A + g + (B - A) / 2 ^ r.toNat) (A + (B - A - 1) / 2) < B := by omega
        generalize min (A + g + (B - A) / 2 ^ r.toNat) (A + (B - A - 1) / 2) = sp at m1 ⊢
        walk_at "rd"
        refine ⟨f, _, rfl, hc, ?_⟩
        walk_at "rd"
        refine ⟨A, sp, rfl, hA, by omega, by omega, sm, fun H2 s2 => ?_⟩
        walk_at "rd"
        exact q _ _ ⟨⟨sp, rfl, m1.1, m1.2⟩, sm.trans s2⟩
      · walk_at "rd"
        refine w_I (show (0 : Int) ≤ r by omega) ?_
        walk_at "rd"
        refine w_max2 ?_
        have m1 : A ≤ max (A + g - (B - A) / 2 ^ r.toNat - 1) (A + (B - A - 1) / 2) ∧ max (A + g - (B - A) / 2 ^ r.toNat - 1) (A + (B - A - 1) / 2) < B := by omega
        generalize max (A + g - (B - A) / 2 ^ r.toNat - 1) (A + (B - A - 1) / 2) = sp at m1 ⊢
        walk_at "rd"
        refine ⟨f, _, rfl, hc, ?_⟩
        walk_at "rd"
        refine ⟨sp + 1, B, rfl, by omega, hB, by omega, sm, fun H2 s2 => ?_⟩
        walk_at "rd"
        have e := tot_split p (first := A) (mid := sp) (last := B) (by omega) (by omega)
        rw [show M - tot p (sp + 1) B = tot p A sp by omega]
        exact q _ _ ⟨⟨sp, rfl, m1.1, m1.2⟩, sm.trans s2⟩
      · rintro σ' H2 ⟨⟨sp, rfl, m1, m2⟩, s2⟩
        have e := tot_split p (first := A) (mid := sp) (last := B) (by omega) (by omega)
        have n1 := tot_nonneg p A sp
        generalize decide (A + g ≤ A + (B - A - 1) / 2) = isl
        walk_at "rd"
        refine w_stJ (fun σ' H3 => (∃ (A' B' M' J' : Int) (b : Bool), σ' = [some (.ref f), some (.int A'), some (.int B'), some (.int M'), some (.int J'), some (.int dbt), some (.int (B - A)), some (.int r), some (.int (A + g)), some (.int (A + (B - A - 1) / 2)), some (.bl isl), some (.int sp), some (.int (tot p A sp)), some (.bl b)] ∧ (B' - A').toNat < (B - A).toNat ∧ first ≤ A' ∧ A' ≤ B' ∧ B' ≤ last ∧ M' = tot p A' B' ∧ 0 ≤ J' ∧ J' < M' ∧ tot p first (A' - 1) + J' = j) ∧ Sm T.tabs H H3) (fun c1 D' q => ?_) (fun c1 D' q => ?_) ?_
        · walk_at "rd"
          exact q _ _ ⟨⟨A, sp, _, J, _, rfl, by omega, hA, m1, by omega, rfl, hJ0, c1, hj⟩, s2⟩
        · walk_at "rd"
          refine w_par3 ?_
          walk_at "rd"
          refine ⟨_, _, _, rfl, ?_⟩
          have e2 := tot_split p (first := first) (mid := A - 1) (last := sp) (by omega) (by omega)
          rw [show A - 1 + 1 = A by omega] at e2
          exact q _ _ ⟨⟨sp + 1, B, _, J - tot p A sp, _, rfl, by omega, by omega, by omega, hB, by omega, by omega, by omega, by rw [show sp + 1 - 1 = sp by omega]; omega⟩, s2⟩
        · rintro σ' H3 ⟨⟨A', B', M', J', b, rfl, k1, k2, k3, k4, k5, k6, k7, k8⟩, s3⟩
          walk_at "rd"
          refine w_dec (fun c2 => ?_) (fun c2 => ?_)
          · walk_at "rd"
            refine w_max2 ?_
            exact ⟨_, k1, A', B', M', J', _, _, _, _, _, _, _, _, _, rfl, rfl, k2, k3, k4, k5, k6, k7, k8, Int.le_max_left _ _, s3⟩
          · walk_at "rd"
            refine w_dec (fun c3 => ?_) (fun c3 => ?_)
            · walk_at "rd"
              refine w_aug rfl ?_
              walk_at "rd"
              refine ⟨_, _, rfl, rfl, ?_⟩
              exact ⟨_, k1, A', B', M', J', _, _, _, _, _, _, _, _, _, rfl, rfl, k2, k3, k4, k5, k6, k7, k8, by omega, s3⟩
            · walk_at "rd"
              exact ⟨_, k1, A', B', M', J', _, _, _, _, _, _, _, _, _, rfl, rfl, k2, k3, k4, k5, k6, k7, k8, hd, s3⟩
    · walk_at "rd"
      have tl := tot_le p (first := A) (last := B) (by omega)
      have ta := (tot_all_iff (p := p) (first := A) (last := B) (by omega)).mp (by omega)
      have e2 := tot_split p (first := first) (mid := A - 1) (last := A + J - 1) (by omega) (by omega)
      rw [show A - 1 + 1 = A by omega] at e2
      have tb := (tot_all_iff (p := p) (first := A) (last := A + J - 1) (by omega)).mpr fun x x1 x2 => ta x x1 (by omega)
      exact k _ _ ⟨by omega, by omega, ta _ (by omega) (by omega), by omega⟩ sm
def sp__check_lines (K : PySem.W.Frag) (C : Addr) (C_Walk : Addr) (C_InvalidBound : Addr) (TS : List (Addr × Str)) : Sp := fun vs H Q _ => ∃ (kp l1 : Addr) (z : Str) (l2 : Addr), vs = [.ref kp, .ref l1, .str z, .ref l2] ∧ (∃ wd s, Kd C H kp wd s) ∧ (∃ a b c d, H l1 = some (.tup [.int a, .int b]) ∧ H l2 = some (.tup [.int c, .int d]) ∧ SD a ∧ SD b ∧ SD c ∧ SD d) ∧ Rel z ∧ Q .non H
theorem ok__check_lines {P : Program} {w : World} {K : PySem.W.Frag} {mg : Str → Option Value} {base : Heap} (T : Txt K mg) (B : TBs T base w P) : FnOk P w K mg base CX0 4 T.f__check_lines T.fd__check_lines ["kind", "one", "relation", "other"] (sp__check_lines K T.C_Kind T.C_Walk T.C_InvalidBound T.tabs) := by
  have G_check_kind := ok_check_kind (P := P) (w := w) (base := base) T B
  have G_check_line := ok_check_line (P := P) (w := w) (base := base) T B
  have G_check_word := ok_check_word (P := P) (w := w) (base := base) T B
  refine T.F__check_lines.ok sc__check_lines (fun vs H Q E h => ?_) (fun cdv A outer s H vs Q E hr h => ?_)
  · obtain ⟨kp, l1, z, l2, rfl, _⟩ := h
    rfl
  · obtain ⟨kp, l1, z, l2, rfl, h⟩ := h
    have hr_check_kind : Room 1 _ := hr.mono (by decide)
    have hr_check_line : Room 3 _ := hr.mono (by decide)
    have hr_check_word : Room 2 _ := hr.mono (by decide)
    refine ⟨_, (pss_cons (ps_expr (pe_call G_check_kind hr_check_kind rfl T.g_check_kind T.k_check_kind T.b_check_kind .nil pass0 (pa_cons (pv 0 (hv := Or.inl rfl)) pa_nil)))
      (pss_cons (ps_expr (pe_call G_check_line hr_check_line rfl T.g_check_line T.k_check_line T.b_check_line .nil pass0 (pa_cons (pv 1 (hv := Or.inl rfl)) (pa_cons pe_str pa_nil))))
      (pss_cons (ps_expr (pe_call G_check_word hr_check_word rfl T.g_check_word T.k_check_word T.b_check_word .nil pass0 (pa_cons (pv 2 (hv := Or.inl rfl)) (pa_cons (pe_glob (v := .ref T.a_RELATIONS) rfl T.g_RELATIONS rfl) (pa_cons pe_str pa_nil)))))
      (pss_one (ps_expr (pe_call G_check_line hr_check_line rfl T.g_check_line T.k_check_line T.b_check_line .nil pass0 (pa_cons (pv 3 (hv := Or.inl rfl)) (pa_cons pe_str pa_nil)))))))), ?_⟩
    try dsimp only [cxOf, Cx.nox, Cx.wish, Cx.blk]
    rw [show L2.start ["kind", "one", "relation", "other"] [.ref kp, .ref l1, .str z, .ref l2] = [some (.ref kp), some (.ref l1), some (.str z), some (.ref l2)] from rfl]
    obtain ⟨hk, ⟨a, b, c, d, h1, h2, sa, sb, sc, sd⟩, hz, k⟩ := h
    walk_at "rd"
    refine ⟨kp, rfl, hk, ?_⟩
    walk_at "rd"
    refine ⟨l1, _, a, b, rfl, h1, sa, sb, ?_⟩
    walk_at "rd"
    refine ⟨z, _, _, rfl, T.q_RELATIONS H, hz, ?_⟩
    walk_at "rd"
    refine ⟨l2, _, c, d, rfl, h2, sc, sd, ?_⟩
    walk_at "rd"
    exact k
def sp__check (K : PySem.W.Frag) (C : Addr) (C_Walk : Addr) (C_InvalidBound : Addr) (TS : List (Addr × Str)) : Sp := fun vs H Q _ => ∃ (kp l1 : Addr) (z : Str) (l2 : Addr) (first last : Int), vs = [.ref kp, .ref l1, .str z, .ref l2, .int first, .int last] ∧ (∃ wd s, Kd C H kp wd s) ∧ (∃ a b c d, H l1 = some (.tup [.int a, .int b]) ∧ H l2 = some (.tup [.int c, .int d]) ∧ SD a ∧ SD b ∧ SD c ∧ SD d) ∧ Rel z ∧ SD first ∧ SD last ∧ Q .non H
theorem ok__check {P : Program} {w : World} {K : PySem.W.Frag} {mg : Str → Option Value} {base : Heap} (T : Txt K mg) (B : TBs T base w P) : FnOk P w K mg base CX0 5 T.f__check T.fd__check ["kind", "one", "relation", "other", "first", "last"] (sp__check K T.C_Kind T.C_Walk T.C_InvalidBound T.tabs) := by
  have G__check_lines := ok__check_lines (P := P) (w := w) (base := base) T B
  have G_check_range := ok_check_range (P := P) (w := w) (base := base) T B
  refine T.F__check.ok sc__check (fun vs H Q E h => ?_) (fun cdv A outer s H vs Q E hr h => ?_)
  · obtain ⟨kp, l1, z, l2, first, last, rfl, _⟩ := h
    rfl
  · obtain ⟨kp, l1, z, l2, first, last, rfl, h⟩ := h
    have hr__check_lines : Room 4 _ := hr.mono (by decide)
    have hr_check_range : Room 4 _ := hr.mono (by decide)
    refine ⟨_, (pss_cons (ps_expr (pe_call G__check_lines hr__check_lines rfl T.g__check_lines T.k__check_lines T.b__check_lines .nil pass0 (pa_cons (pv 0 (hv := Or.inl rfl)) (pa_cons (pv 1 (hv := Or.inl rfl)) (pa_cons (pv 2 (hv := Or.inl rfl)) (pa_cons (pv 3 (hv := Or.inl rfl)) pa_nil))))))
      (pss_one (ps_expr (pe_call G_check_range hr_check_range rfl T.g_check_range T.k_check_range T.b_check_range .nil pass0 (pa_cons (pv 4 (hv := Or.inl rfl)) (pa_cons (pv 5 (hv := Or.inl rfl)) pa_nil)))))), ?_⟩
    try dsimp only [cxOf, Cx.nox, Cx.wish, Cx.blk]
    rw [show L2.start ["kind", "one", "relation", "other", "first", "last"] [.ref kp, .ref l1, .str z, .ref l2, .int first, .int last] = [some (.ref kp), some (.ref l1), some (.str z), some (.ref l2), some (.int first), some (.int last)] from rfl]
    obtain ⟨hk, hl, hz, sf, sl, k⟩ := h
    walk_at "rd"
    refine ⟨kp, l1, z, l2, rfl, hk, hl, hz, ?_⟩
    walk_at "rd"
    refine ⟨_, _, rfl, sf, sl, ?_⟩
    walk_at "rd"
    exact k
def sp_compares (K : PySem.W.Frag) (C : Addr) (C_Walk : Addr) (C_InvalidBound : Addr) (TS : List (Addr × Str)) : Sp := fun vs H Q _ => ∃ (kp l1 : Addr) (z : Str) (l2 : Addr) (x : Int) (a b c d : Int) (wd : Nat) (s : Bool), vs = [.ref kp, .ref l1, .str z, .ref l2, .int x] ∧ Kd C H kp wd s ∧ H l1 = some (.tup [.int a, .int b]) ∧ H l2 = some (.tup [.int c, .int d]) ∧ SD a ∧ SD b ∧ SD c ∧ SD d ∧ Rel z ∧ SD x ∧ Q (.bl (cmP wd s z a b c d x)) H
theorem ok_compares {P : Program} {w : World} {K : PySem.W.Frag} {mg : Str → Option Value} {base : Heap} (T : Txt K mg) (B : TBs T base w P) : FnOk P w K mg base CX0 5 T.f_compares T.fd_compares ["kind", "one", "relation", "other", "x"] (sp_compares K T.C_Kind T.C_Walk T.C_InvalidBound T.tabs) := by
  have G__check_lines := ok__check_lines (P := P) (w := w) (base := base) T B
  have G_check_sixty_digits := ok_check_sixty_digits (P := P) (w := w) (base := base) T B
  have G_exact_at := ok_exact_at (P := P) (w := w) (base := base) T B
  have G_stands := ok_stands (P := P) (w := w) (base := base) T B
  have G_wrapped := ok_wrapped (P := P) (w := w) (base := base) T B
  refine T.F_compares.ok sc_compares (fun vs H Q E h => ?_) (fun cdv A outer s H vs Q E hr h => ?_)
  · obtain ⟨kp, l1, z, l2, x, a, b, c, d, wd, s, rfl, _⟩ := h
    rfl
  · obtain ⟨kp, l1, z, l2, x, a, b, c, d, wd, s, rfl, h⟩ := h
    have hr__check_lines : Room 4 _ := hr.mono (by decide)
    have hr_check_sixty_digits : Room 3 _ := hr.mono (by decide)
    have hr_exact_at : Room 1 _ := hr.mono (by decide)
    have hr_stands : Room 1 _ := hr.mono (by decide)
    have hr_wrapped : Room 3 _ := hr.mono (by decide)
    refine ⟨_, (pss_cons (ps_expr (pe_call G__check_lines hr__check_lines rfl T.g__check_lines T.k__check_lines T.b__check_lines .nil pass0 (pa_cons (pv 0 (hv := Or.inl rfl)) (pa_cons (pv 1 (hv := Or.inl rfl)) (pa_cons (pv 2 (hv := Or.inl rfl)) (pa_cons (pv 3 (hv := Or.inl rfl)) pa_nil))))))
      (pss_cons (ps_expr (pe_call G_check_sixty_digits hr_check_sixty_digits rfl T.g_check_sixty_digits T.k_check_sixty_digits T.b_check_sixty_digits .nil pass0 (pa_cons (pv 4 (hv := Or.inl rfl)) (pa_cons pe_str pa_nil))))
      (pss_one (ps_ret (pe_call G_stands hr_stands rfl T.g_stands T.k_stands T.b_stands .nil pass0 (pa_cons (pe_call G_wrapped hr_wrapped rfl T.g_wrapped T.k_wrapped T.b_wrapped .nil pass0 (pa_cons (pv 0 (hv := Or.inl rfl)) (pa_cons (pe_call G_exact_at hr_exact_at rfl T.g_exact_at T.k_exact_at T.b_exact_at .nil pass0 (pa_cons (pv 1 (hv := Or.inl rfl)) (pa_cons (pv 4 (hv := Or.inl rfl)) pa_nil))) pa_nil))) (pa_cons (pv 2 (hv := Or.inl rfl)) (pa_cons (pe_call G_wrapped hr_wrapped rfl T.g_wrapped T.k_wrapped T.b_wrapped .nil pass0 (pa_cons (pv 0 (hv := Or.inl rfl)) (pa_cons (pe_call G_exact_at hr_exact_at rfl T.g_exact_at T.k_exact_at T.b_exact_at .nil pass0 (pa_cons (pv 3 (hv := Or.inl rfl)) (pa_cons (pv 4 (hv := Or.inl rfl)) pa_nil))) pa_nil))) pa_nil)))))))), ?_⟩
    try dsimp only [cxOf, Cx.nox, Cx.wish, Cx.blk]
    rw [show L2.start ["kind", "one", "relation", "other", "x"] [.ref kp, .ref l1, .str z, .ref l2, .int x] = [some (.ref kp), some (.ref l1), some (.str z), some (.ref l2), some (.int x)] from rfl]
    obtain ⟨hk, h1, h2, sa, sb, sc, sd, hz, sx, k⟩ := h
    walk_at "rd"
    refine ⟨kp, l1, z, l2, rfl, ⟨wd, s, hk⟩, ⟨a, b, c, d, h1, h2, sa, sb, sc, sd⟩, hz, ?_⟩
    walk_at "rd"
    refine ⟨_, _, rfl, sx, ?_⟩
    walk_at "rd"
    refine ⟨l1, a, b, x, rfl, h1, sa.bb, sx.bb, ?_⟩
    walk_at "rd"
    refine ⟨kp, _, wd, s, rfl, hk, ?_⟩
    walk_at "rd"
    refine ⟨l2, c, d, x, rfl, h2, sc.bb, sx.bb, ?_⟩
    walk_at "rd"
    refine ⟨kp, _, wd, s, rfl, hk, ?_⟩
    walk_at "rd"
    exact ⟨_, z, _, rfl, hz, k⟩
def sp__count (K : PySem.W.Frag) (C : Addr) (C_Walk : Addr) (C_InvalidBound : Addr) (TS : List (Addr × Str)) : Sp := fun vs H Q _ => ∃ (f l : Int), vs = [.int f, .int l] ∧ Q (.int (max 0 (l - f + 1))) H
theorem ok__count {P : Program} {w : World} {K : PySem.W.Frag} {mg : Str → Option Value} {base : Heap} (T : Txt K mg) (B : TBs T base w P) : FnOk P w K mg base CX0 1 T.f__count T.fd__count ["first", "last"] (sp__count K T.C_Kind T.C_Walk T.C_InvalidBound T.tabs) := by
  refine T.F__count.ok sc__count (fun vs H Q E h => ?_) (fun cdv A outer s H vs Q E hr h => ?_)
  · obtain ⟨f, l, rfl, _⟩ := h
    rfl
  · obtain ⟨f, l, rfl, h⟩ := h
    refine ⟨_, (pss_one (ps_ret (pe_callB (id := "max") (r := rmax2C) (call_max2 rfl) (by rfl) T.n_max (by decide +kernel) (pa_cons pe_int (pa_cons (pe_op op_add (pe_op op_sub (pv 1 (hv := Or.inl rfl)) (pv 0 (hv := Or.inl rfl))) pe_int) pa_nil))))), ?_⟩
    try dsimp only [cxOf, Cx.nox, Cx.wish, Cx.blk]
    rw [show L2.start ["first", "last"] [.int f, .int l] = [some (.int f), some (.int l)] from rfl]
    walk_at "rd"
    refine w_max2 ?_
    exact h
def sp__gap (K : PySem.W.Frag) (C : Addr) (C_Walk : Addr) (C_InvalidBound : Addr) (TS : List (Addr × Str)) : Sp := fun vs H Q _ => ∃ (l1 l2 : Addr) (a b c d : Int), vs = [.ref l1, .ref l2] ∧ H l1 = some (.tup [.int a, .int b]) ∧ H l2 = some (.tup [.int c, .int d]) ∧ ∀ t, H t = none → Q (.ref t) (upd H t (.tup [.int (a - c), .int (b - d)]))
theorem ok__gap {P : Program} {w : World} {K : PySem.W.Frag} {mg : Str → Option Value} {base : Heap} (T : Txt K mg) (B : TBs T base w P) : FnOk P w K mg base CX0 1 T.f__gap T.fd__gap ["one", "other"] (sp__gap K T.C_Kind T.C_Walk T.C_InvalidBound T.tabs) := by
  refine T.F__gap.ok sc__gap (fun vs H Q E h => ?_) (fun cdv A outer s H vs Q E hr h => ?_)
  · obtain ⟨l1, l2, a, b, c, d, rfl, _⟩ := h
    rfl
  · obtain ⟨l1, l2, a, b, c, d, rfl, h⟩ := h
    refine ⟨_, (pss_one (ps_ret (pe_tup (pa_cons (pe_op op_sub (pe_ix (r := rIxT K) ix_tup (pv 0 (hv := Or.inl rfl)) pe_int (fun _ _ => rfl)) (pe_ix (r := rIxT K) ix_tup (pv 1 (hv := Or.inl rfl)) pe_int (fun _ _ => rfl))) (pa_cons (pe_op op_sub (pe_ix (r := rIxT K) ix_tup (pv 0 (hv := Or.inl rfl)) pe_int (fun _ _ => rfl)) (pe_ix (r := rIxT K) ix_tup (pv 1 (hv := Or.inl rfl)) pe_int (fun _ _ => rfl))) pa_nil))))), ?_⟩
    try dsimp only [cxOf, Cx.nox, Cx.wish, Cx.blk]
    rw [show L2.start ["one", "other"] [.ref l1, .ref l2] = [some (.ref l1), some (.ref l2)] from rfl]
    obtain ⟨h1, h2, k⟩ := h
    walk_at "rd"
    refine ⟨by show 2 ≤ sizeLine; decide, fun t ht => ?_⟩
    exact k t ht
def sp__less_total (K : PySem.W.Frag) (C : Addr) (C_Walk : Addr) (C_InvalidBound : Addr) (TS : List (Addr × Str)) : Sp := fun vs H Q _ => ∃ (kp l1 l2 : Addr) (first last : Int) (a b c d : Int) (wd : Nat) (s : Bool), vs = [.ref kp, .ref l1, .ref l2, .int first, .int last] ∧ Kd C H kp wd s ∧ H l1 = some (.tup [.int a, .int b]) ∧ H l2 = some (.tup [.int c, .int d]) ∧ SD a ∧ SD b ∧ SD c ∧ SD d ∧ BB first ∧ BB last ∧ ∀ H', Same H H' → Q (.int (tot (cmP wd s "<" a b c d) first last)) H'
theorem ok__less_total {P : Program} {w : World} {K : PySem.W.Frag} {mg : Str → Option Value} {base : Heap} (T : Txt K mg) (B : TBs T base w P) : FnOk P w K mg base CX0 3 T.f__less_total T.fd__less_total ["kind", "one", "other", "first", "last"] (sp__less_total K T.C_Kind T.C_Walk T.C_InvalidBound T.tabs) := by
  have G__gap := ok__gap (P := P) (w := w) (base := base) T B
  have G_least := ok_least (P := P) (w := w) (base := base) T B
  have G_quotient_total := ok_quotient_total (P := P) (w := w) (base := base) T B
  refine T.F__less_total.ok sc__less_total (fun vs H Q E h => ?_) (fun cdv A outer s H vs Q E hr h => ?_)
  · obtain ⟨kp, l1, l2, first, last, a, b, c, d, wd, s, rfl, _⟩ := h
    rfl
  · obtain ⟨kp, l1, l2, first, last, a, b, c, d, wd, s, rfl, h⟩ := h
    have hr__gap : Room 1 _ := hr.mono (by decide)
    have hr_least : Room 2 _ := hr.mono (by decide)
    have hr_quotient_total : Room 1 _ := hr.mono (by decide)
    refine ⟨_, (pss_cons (ps_set (i := 5) sc__less_total.nd rfl (Or.inl rfl) (pe_op op_shl pe_int (pe_fld (pv 0 (hv := Or.inl rfl)) rfl)))
      (pss_cons (ps_set (i := 6) sc__less_total.nd rfl (Or.inl rfl) (pe_tup (pa_cons pe_int (pa_cons (pe_call G_least hr_least rfl T.g_least T.k_least T.b_least .nil pass0 (pa_cons (pv 0 (hv := Or.inl rfl)) pa_nil)) pa_nil))))
      (pss_cons (ps_set (i := 7) sc__less_total.nd rfl (Or.inl rfl) (pe_call G_quotient_total hr_quotient_total rfl T.g_quotient_total T.k_quotient_total T.b_quotient_total .nil pass0 (pa_cons (pe_call G__gap hr__gap rfl T.g__gap T.k__gap T.b__gap .nil pass0 (pa_cons (pv 1 (hv := Or.inl rfl)) (pa_cons (pv 6 (hv := Or.inl rfl)) pa_nil))) (pa_cons (pv 5 (hv := Or.inl rfl)) (pa_cons (pv 3 (hv := Or.inl rfl)) (pa_cons (pv 4 (hv := Or.inl rfl)) pa_nil))))))
      (pss_cons (ps_set (i := 8) sc__less_total.nd rfl (Or.inl rfl) (pe_call G_quotient_total hr_quotient_total rfl T.g_quotient_total T.k_quotient_total T.b_quotient_total .nil pass0 (pa_cons (pe_call G__gap hr__gap rfl T.g__gap T.k__gap T.b__gap .nil pass0 (pa_cons (pv 2 (hv := Or.inl rfl)) (pa_cons (pv 6 (hv := Or.inl rfl)) pa_nil))) (pa_cons (pv 5 (hv := Or.inl rfl)) (pa_cons (pv 3 (hv := Or.inl rfl)) (pa_cons (pv 4 (hv := Or.inl rfl)) pa_nil))))))
      (pss_one (ps_ret (pe_op op_sub (pe_op op_sub (pv 7 (hv := Or.inl rfl)) (pv 8 (hv := Or.inl rfl))) (pe_call G_quotient_total hr_quotient_total rfl T.g_quotient_total T.k_quotient_total T.b_quotient_total .nil pass0 (pa_cons (pe_call G__gap hr__gap rfl T.g__gap T.k__gap T.b__gap .nil pass0 (pa_cons (pv 1 (hv := Or.inl rfl)) (pa_cons (pv 2 (hv := Or.inl rfl)) pa_nil))) (pa_cons (pv 5 (hv := Or.inl rfl)) (pa_cons (pv 3 (hv := Or.inl rfl)) (pa_cons (pv 4 (hv := Or.inl rfl)) pa_nil)))))))))))), ?_⟩
    try dsimp only [cxOf, Cx.nox, Cx.wish, Cx.blk]
    rw [show L2.start ["kind", "one", "other", "first", "last", "size", "base", "one_total", "other_total"] [.ref kp, .ref l1, .ref l2, .int first, .int last] = [some (.ref kp), some (.ref l1), some (.ref l2), some (.int first), some (.int last), none, none, none, none] from rfl]
    obtain ⟨hk, h1, h2, sa, sb, sc, sd, bf, bl, k⟩ := h
    have w2 := hk.w2
    have hp := p2 wd
    have hm := bb_pow w2
    obtain ⟨z1, z2, z3, z4, z5⟩ := loK_b (s := s) w2
    have z6 := p128
    have z7 := p290
    have p10 : (10 : Int) ^ 60 * 4 < 10 ^ 62 := by decide +kernel
    have p11 : (10 : Int) ^ 62 ≤ 2 ^ 299 := by decide +kernel
    obtain ⟨a1, a2⟩ := sa
    obtain ⟨b1, b2⟩ := sb
    obtain ⟨c1, c2⟩ := sc
    obtain ⟨d1, d2⟩ := sd
    have b302 : ∀ n : Int, -(2 ^ 299) * 2 ≤ n → n ≤ 2 ^ 299 * 2 → n.natAbs < 2 ^ 302 := fun n x1 x2 => Nat.lt_of_le_of_lt (show n.natAbs ≤ 2 ^ 299 * 2 by omega) (by decide +kernel)
    walk_at "rd"
    refine w_fb T rfl hk ?_
    walk_at "rd"
    refine w_I (cpow (n := 1) (by omega) (by decide)) ?_
    rw [Int.toNat_natCast, Int.one_mul]
    walk_at "rd"
    refine ⟨kp, wd, s, rfl, hk, ?_⟩
    walk_at "rd"
    refine ⟨by show 2 ≤ sizeLine; decide, fun t ht => ?_⟩
    walk_at "rd"
    refine ⟨l1, t, a, b, 0, loK wd s, rfl, gn h1 ht, upd_same, fun g1 hg1 => ?_⟩
    walk_at "rd"
    refine ⟨g1, a - 0, b - loK wd s, 2 ^ wd, first, last, rfl, upd_same, hp, hm, bb_of (by omega) (by omega), b302 _ (by omega) (by omega), bf, bl, fun H1 s1 => ?_⟩
    have s1' : Same H H1 := (sm_new (sm_new (Same.refl H) ht) hg1).trans s1
    have ht1 := s1 _ _ (gn upd_same hg1)
    walk_at "rd"
    refine ⟨l2, t, c, d, 0, loK wd s, rfl, s1' _ _ h2, ht1, fun g2 hg2 => ?_⟩
    walk_at "rd"
    refine ⟨g2, c - 0, d - loK wd s, 2 ^ wd, first, last, rfl, upd_same, hp, hm, bb_of (by omega) (by omega), b302 _ (by omega) (by omega), bf, bl, fun H2 s2 => ?_⟩
    have s2' : Same H H2 := s1'.trans ((sm_new (Same.refl H1) hg2).trans s2)
    walk_at "rd"
    refine ⟨l1, l2, a, b, c, d, rfl, s2' _ _ h1, s2' _ _ h2, fun g3 hg3 => ?_⟩
    walk_at "rd"
    refine ⟨g3, a - c, b - d, 2 ^ wd, first, last, rfl, upd_same, hp, hm, bb_of (by omega) (by omega), b302 _ (by omega) (by omega), bf, bl, fun H3 s3 => ?_⟩
    walk_at "rd"
    rw [QT_lt]
    exact k _ (s2'.trans ((sm_new (Same.refl H2) hg3).trans s3))
def sp__equal_total (K : PySem.W.Frag) (C : Addr) (C_Walk : Addr) (C_InvalidBound : Addr) (TS : List (Addr × Str)) : Sp := fun vs H Q _ => ∃ (kp l1 l2 : Addr) (first last : Int) (a b c d : Int) (wd : Nat) (s : Bool), vs = [.ref kp, .ref l1, .ref l2, .int first, .int last] ∧ Kd C H kp wd s ∧ H l1 = some (.tup [.int a, .int b]) ∧ H l2 = some (.tup [.int c, .int d]) ∧ SD a ∧ SD b ∧ SD c ∧ SD d ∧ BB first ∧ BB last ∧ ∀ H', Same H H' → Q (.int (tot (cmP wd s "==" a b c d) first last)) H'
theorem ok__equal_total {P : Program} {w : World} {K : PySem.W.Frag} {mg : Str → Option Value} {base : Heap} (T : Txt K mg) (B : TBs T base w P) : FnOk P w K mg base CX0 3 T.f__equal_total T.fd__equal_total ["kind", "one", "other", "first", "last"] (sp__equal_total K T.C_Kind T.C_Walk T.C_InvalidBound T.tabs) := by
  have G__gap := ok__gap (P := P) (w := w) (base := base) T B
  have G_total_between := ok_total_between (P := P) (w := w) (base := base) T B
  refine T.F__equal_total.ok sc__equal_total (fun vs H Q E h => ?_) (fun cdv A outer s H vs Q E hr h => ?_)
  · obtain ⟨kp, l1, l2, first, last, a, b, c, d, wd, s, rfl, _⟩ := h
    rfl
  · obtain ⟨kp, l1, l2, first, last, a, b, c, d, wd, s, rfl, h⟩ := h
    have hr__gap : Room 1 _ := hr.mono (by decide)
    have hr_total_between : Room 2 _ := hr.mono (by decide)
    refine ⟨_, (pss_one (ps_ret (pe_call G_total_between hr_total_between rfl T.g_total_between T.k_total_between T.b_total_between .nil pass0 (pa_cons (pe_call G__gap hr__gap rfl T.g__gap T.k__gap T.b__gap .nil pass0 (pa_cons (pv 1 (hv := Or.inl rfl)) (pa_cons (pv 2 (hv := Or.inl rfl)) pa_nil))) (pa_cons (pe_op op_shl pe_int (pe_fld (pv 0 (hv := Or.inl rfl)) rfl)) (pa_cons (pv 3 (hv := Or.inl rfl)) (pa_cons (pv 4 (hv := Or.inl rfl)) (pa_cons pe_int (pa_cons pe_int pa_nil))))))))), ?_⟩
    try dsimp only [cxOf, Cx.nox, Cx.wish, Cx.blk]
    rw [show L2.start ["kind", "one", "other", "first", "last"] [.ref kp, .ref l1, .ref l2, .int first, .int last] = [some (.ref kp), some (.ref l1), some (.ref l2), some (.int first), some (.int last)] from rfl]
    obtain ⟨hk, h1, h2, sa, sb, sc, sd, bf, bl, k⟩ := h
    have w2 := hk.w2
    have hp := p2 wd
    have hm := bb_pow w2
    have p10 : (10 : Int) ^ 60 * 4 < 10 ^ 62 := by decide +kernel
    obtain ⟨a1, a2⟩ := sa
    obtain ⟨b1, b2⟩ := sb
    obtain ⟨c1, c2⟩ := sc
    obtain ⟨d1, d2⟩ := sd
    walk_at "rd"
    refine ⟨l1, l2, a, b, c, d, rfl, h1, h2, fun t ht => ?_⟩
    walk_at "rd"
    refine w_fb T rfl (hk.same (sm_new (Same.refl H) ht)) ?_
    walk_at "rd"
    refine w_I (cpow (n := 1) (by omega) (by decide)) ?_
    rw [Int.toNat_natCast, Int.one_mul]
    walk_at "rd"
    refine ⟨t, a - c, b - d, 2 ^ wd, first, last, 0, 0, rfl, upd_same, hp, hm, bb_ten (by omega) (by omega), bb_ten (by omega) (by omega), bf, bl, bb_sm (by decide) (by decide), bb_sm (by decide) (by decide), fun _ => by omega, fun H1 s1 => ?_⟩
    rw [tot_congr (q := cmP wd s "==" a b c d) fun x _ _ => eq_inR wd s a b c d x]
    exact k _ ((sm_new (Same.refl H) ht).trans s1)
def sp__total (K : PySem.W.Frag) (C : Addr) (C_Walk : Addr) (C_InvalidBound : Addr) (TS : List (Addr × Str)) : Sp := fun vs H Q _ => ∃ (kp l1 : Addr) (z : Str) (l2 : Addr) (first last : Int) (a b c d : Int) (wd : Nat) (s : Bool), vs = [.ref kp, .ref l1, .str z, .ref l2, .int first, .int last] ∧ Kd C H kp wd s ∧ H l1 = some (.tup [.int a, .int b]) ∧ H l2 = some (.tup [.int c, .int d]) ∧ SD a ∧ SD b ∧ SD c ∧ SD d ∧ Rel z ∧ BB first ∧ BB last ∧ ∀ H', Same H H' → Q (.int (tot (cmP wd s z a b c d) first last)) H'
theorem ok__total {P : Program} {w : World} {K : PySem.W.Frag} {mg : Str → Option Value} {base : Heap} (T : Txt K mg) (B : TBs T base w P) : FnOk P w K mg base CX0 4 T.f__total T.fd__total ["kind", "one", "relation", "other", "first", "last"] (sp__total K T.C_Kind T.C_Walk T.C_InvalidBound T.tabs) := by
  have G__count := ok__count (P := P) (w := w) (base := base) T B
  have G__equal_total := ok__equal_total (P := P) (w := w) (base := base) T B
  have G__less_total := ok__less_total (P := P) (w := w) (base := base) T B
  refine T.F__total.ok sc__total (fun vs H Q E h => ?_) (fun cdv A outer s H vs Q E hr h => ?_)
  · obtain ⟨kp, l1, z, l2, first, last, a, b, c, d, wd, s, rfl, _⟩ := h
    rfl
  · obtain ⟨kp, l1, z, l2, first, last, a, b, c, d, wd, s, rfl, h⟩ := h
    have hr__count : Room 1 _ := hr.mono (by decide)
    have hr__equal_total : Room 3 _ := hr.mono (by decide)
    have hr__less_total : Room 3 _ := hr.mono (by decide)
    refine ⟨_, (pss_one (ps_match (pv 2 (hv := Or.inl rfl))
      (pm_str (pss_one (ps_ret (pe_call G__less_total hr__less_total rfl T.g__less_total T.k__less_total T.b__less_total .nil pass0 (pa_cons (pv 0 (hv := Or.inl rfl)) (pa_cons (pv 1 (hv := Or.inl rfl)) (pa_cons (pv 3 (hv := Or.inl rfl)) (pa_cons (pv 4 (hv := Or.inl rfl)) (pa_cons (pv 5 (hv := Or.inl rfl)) pa_nil))))))))
      (pm_str (pss_one (ps_ret (pe_op op_sub (pe_call G__count hr__count rfl T.g__count T.k__count T.b__count .nil pass0 (pa_cons (pv 4 (hv := Or.inl rfl)) (pa_cons (pv 5 (hv := Or.inl rfl)) pa_nil))) (pe_call G__less_total hr__less_total rfl T.g__less_total T.k__less_total T.b__less_total .nil pass0 (pa_cons (pv 0 (hv := Or.inl rfl)) (pa_cons (pv 3 (hv := Or.inl rfl)) (pa_cons (pv 1 (hv := Or.inl rfl)) (pa_cons (pv 4 (hv := Or.inl rfl)) (pa_cons (pv 5 (hv := Or.inl rfl)) pa_nil)))))))))
      (pm_str (pss_one (ps_ret (pe_call G__equal_total hr__equal_total rfl T.g__equal_total T.k__equal_total T.b__equal_total .nil pass0 (pa_cons (pv 0 (hv := Or.inl rfl)) (pa_cons (pv 1 (hv := Or.inl rfl)) (pa_cons (pv 3 (hv := Or.inl rfl)) (pa_cons (pv 4 (hv := Or.inl rfl)) (pa_cons (pv 5 (hv := Or.inl rfl)) pa_nil))))))))
      (pm_str (pss_one (ps_ret (pe_op op_sub (pe_call G__count hr__count rfl T.g__count T.k__count T.b__count .nil pass0 (pa_cons (pv 4 (hv := Or.inl rfl)) (pa_cons (pv 5 (hv := Or.inl rfl)) pa_nil))) (pe_call G__equal_total hr__equal_total rfl T.g__equal_total T.k__equal_total T.b__equal_total .nil pass0 (pa_cons (pv 0 (hv := Or.inl rfl)) (pa_cons (pv 1 (hv := Or.inl rfl)) (pa_cons (pv 3 (hv := Or.inl rfl)) (pa_cons (pv 4 (hv := Or.inl rfl)) (pa_cons (pv 5 (hv := Or.inl rfl)) pa_nil)))))))))
      (pm_str (pss_one (ps_ret (pe_op op_sub (pe_call G__count hr__count rfl T.g__count T.k__count T.b__count .nil pass0 (pa_cons (pv 4 (hv := Or.inl rfl)) (pa_cons (pv 5 (hv := Or.inl rfl)) pa_nil))) (pe_call G__less_total hr__less_total rfl T.g__less_total T.k__less_total T.b__less_total .nil pass0 (pa_cons (pv 0 (hv := Or.inl rfl)) (pa_cons (pv 1 (hv := Or.inl rfl)) (pa_cons (pv 3 (hv := Or.inl rfl)) (pa_cons (pv 4 (hv := Or.inl rfl)) (pa_cons (pv 5 (hv := Or.inl rfl)) pa_nil)))))))))
      (pm_any (pss_one (ps_ret (pe_call G__less_total hr__less_total rfl T.g__less_total T.k__less_total T.b__less_total .nil pass0 (pa_cons (pv 0 (hv := Or.inl rfl)) (pa_cons (pv 3 (hv := Or.inl rfl)) (pa_cons (pv 1 (hv := Or.inl rfl)) (pa_cons (pv 4 (hv := Or.inl rfl)) (pa_cons (pv 5 (hv := Or.inl rfl)) pa_nil)))))))))))))))), ?_⟩
    try dsimp only [cxOf, Cx.nox, Cx.wish, Cx.blk]
    rw [show L2.start ["kind", "one", "relation", "other", "first", "last"] [.ref kp, .ref l1, .str z, .ref l2, .int first, .int last] = [some (.ref kp), some (.ref l1), some (.str z), some (.ref l2), some (.int first), some (.int last)] from rfl]
    obtain ⟨hk, h1, h2, sa, sb, sc, sd, hz, bf, bl, k⟩ := h
    rcases hz with rfl | rfl | rfl | rfl | rfl | rfl
    · walk_at "rd"
      exact ⟨kp, l1, l2, first, last, a, b, c, d, wd, s, rfl, hk, h1, h2, sa, sb, sc, sd, bf, bl, k⟩
    · walk_at "rd"
      refine w_caseF (by decide +kernel) ?_
      walk_at "rd"
      refine ⟨_, _, rfl, ?_⟩
      walk_at "rd"
      refine ⟨kp, l2, l1, first, last, c, d, a, b, wd, s, rfl, hk, h2, h1, sc, sd, sa, sb, bf, bl, fun H' s' => ?_⟩
      walk_at "rd"
      have e : tot (cmP wd s "<=" a b c d) first last = max 0 (last - first + 1) - tot (cmP wd s "<" c d a b) first last := by
        rw [← tot_notM]
        exact tot_congr fun x _ _ => rn25 _ _
      rw [← e]
      exact k _ s'
    · walk_at "rd"
      refine w_caseF (by decide +kernel) ?_
      refine w_caseF (by decide +kernel) ?_
      walk_at "rd"
      exact ⟨kp, l1, l2, first, last, a, b, c, d, wd, s, rfl, hk, h1, h2, sa, sb, sc, sd, bf, bl, k⟩
    · walk_at "rd"
      refine w_caseF (by decide +kernel) ?_
      refine w_caseF (by decide +kernel) ?_
      refine w_caseF (by decide +kernel) ?_
      walk_at "rd"
      refine ⟨_, _, rfl, ?_⟩
      walk_at "rd"
      refine ⟨kp, l1, l2, first, last, a, b, c, d, wd, s, rfl, hk, h1, h2, sa, sb, sc, sd, bf, bl, fun H' s' => ?_⟩
      walk_at "rd"
      rw [← cm_not rn4]
      exact k _ s'
    · walk_at "rd"
      refine w_caseF (by decide +kernel) ?_
      refine w_caseF (by decide +kernel) ?_
      refine w_caseF (by decide +kernel) ?_
      refine w_caseF (by decide +kernel) ?_
      walk_at "rd"
      refine ⟨_, _, rfl, ?_⟩
      walk_at "rd"
      refine ⟨kp, l1, l2, first, last, a, b, c, d, wd, s, rfl, hk, h1, h2, sa, sb, sc, sd, bf, bl, fun H' s' => ?_⟩
      walk_at "rd"
      rw [← cm_not rn5]
      exact k _ s'
    · walk_at "rd"
      refine w_caseF (by decide +kernel) ?_
      refine w_caseF (by decide +kernel) ?_
      refine w_caseF (by decide +kernel) ?_
      refine w_caseF (by decide +kernel) ?_
      refine w_caseF (by decide +kernel) ?_
      walk_at "rd"
      refine ⟨kp, l2, l1, first, last, c, d, a, b, wd, s, rfl, hk, h2, h1, sc, sd, sa, sb, bf, bl, fun H' s' => ?_⟩
      rw [← cm_turn rn6]
      exact k _ s'
def sp_holds (K : PySem.W.Frag) (C : Addr) (C_Walk : Addr) (C_InvalidBound : Addr) (TS : List (Addr × Str)) : Sp := fun vs H Q _ => ∃ (kp l1 : Addr) (z : Str) (l2 : Addr) (first last : Int) (a b c d : Int) (wd : Nat) (s : Bool), vs = [.ref kp, .ref l1, .str z, .ref l2, .int first, .int last] ∧ Kd C H kp wd s ∧ H l1 = some (.tup [.int a, .int b]) ∧ H l2 = some (.tup [.int c, .int d]) ∧ SD a ∧ SD b ∧ SD c ∧ SD d ∧ Rel z ∧ SD first ∧ SD last ∧ ∀ H', Same H H' → Q (.int (tot (cmP wd s z a b c d) first last)) H'
theorem ok_holds {P : Program} {w : World} {K : PySem.W.Frag} {mg : Str → Option Value} {base : Heap} (T : Txt K mg) (B : TBs T base w P) : FnOk P w K mg base CX0 6 T.f_holds T.fd_holds ["kind", "one", "relation", "other", "first", "last"] (sp_holds K T.C_Kind T.C_Walk T.C_InvalidBound T.tabs) := by
  have G__check := ok__check (P := P) (w := w) (base := base) T B
  have G__total := ok__total (P := P) (w := w) (base := base) T B
  refine T.F_holds.ok sc_holds (fun vs H Q E h => ?_) (fun cdv A outer s H vs Q E hr h => ?_)
  · obtain ⟨kp, l1, z, l2, first, last, a, b, c, d, wd, s, rfl, _⟩ := h
    rfl
  · obtain ⟨kp, l1, z, l2, first, last, a, b, c, d, wd, s, rfl, h⟩ := h
    have hr__check : Room 5 _ := hr.mono (by decide)
    have hr__total : Room 4 _ := hr.mono (by decide)
    refine ⟨_, (pss_cons (ps_expr (pe_call G__check hr__check rfl T.g__check T.k__check T.b__check .nil pass0 (pa_cons (pv 0 (hv := Or.inl rfl)) (pa_cons (pv 1 (hv := Or.inl rfl)) (pa_cons (pv 2 (hv := Or.inl rfl)) (pa_cons (pv 3 (hv := Or.inl rfl)) (pa_cons (pv 4 (hv := Or.inl rfl)) (pa_cons (pv 5 (hv := Or.inl rfl)) pa_nil))))))))
      (pss_one (ps_ret (pe_call G__total hr__total rfl T.g__total T.k__total T.b__total .nil pass0 (pa_cons (pv 0 (hv := Or.inl rfl)) (pa_cons (pv 1 (hv := Or.inl rfl)) (pa_cons (pv 2 (hv := Or.inl rfl)) (pa_cons (pv 3 (hv := Or.inl rfl)) (pa_cons (pv 4 (hv := Or.inl rfl)) (pa_cons (pv 5 (hv := Or.inl rfl)) pa_nil)))))))))), ?_⟩
    try dsimp only [cxOf, Cx.nox, Cx.wish, Cx.blk]
    rw [show L2.start ["kind", "one", "relation", "other", "first", "last"] [.ref kp, .ref l1, .str z, .ref l2, .int first, .int last] = [some (.ref kp), some (.ref l1), some (.str z), some (.ref l2), some (.int first), some (.int last)] from rfl]
    obtain ⟨hk, h1, h2, sa, sb, sc, sd, hz, sf, sl, k⟩ := h
    walk_at "rd"
    refine ⟨kp, l1, z, l2, first, last, rfl, ⟨wd, s, hk⟩, ⟨a, b, c, d, h1, h2, sa, sb, sc, sd⟩, hz, sf, sl, ?_⟩
    walk_at "rd"
    exact ⟨kp, l1, z, l2, first, last, a, b, c, d, wd, s, rfl, hk, h1, h2, sa, sb, sc, sd, hz, sf.bb, sl.bb, k⟩
def sp__less_hits (K : PySem.W.Frag) (C : Addr) (C_Walk : Addr) (C_InvalidBound : Addr) (TS : List (Addr × Str)) : Sp := fun vs H Q _ => ∃ (kp l1 l2 : Addr) (a b c d : Int) (wd : Nat) (s : Bool), vs = [.ref kp, .ref l1, .ref l2] ∧ Kd C H kp wd s ∧ H l1 = some (.tup [.int a, .int b]) ∧ H l2 = some (.tup [.int c, .int d]) ∧ BB a ∧ BB b ∧ BB c ∧ BB d ∧ ∀ v H', Sm TS H H' → (v = .non ∨ ∃ t l e f lo hi, v = .ref t ∧ H' t = some (.tup [.ref l, .int lo, .int hi]) ∧ H' l = some (.tup [.int e, .int f]) ∧ (e = a ∧ f = b ∨ e = c ∧ f = d) ∧ HitsLt wd s a b c d e f lo hi) → Q v H'
theorem ok__less_hits {P : Program} {w : World} {K : PySem.W.Frag} {mg : Str → Option Value} {base : Heap} (T : Txt K mg) (B : TBs T base w P) : FnOk P w K mg base CX0 4 T.f__less_hits T.fd__less_hits ["kind", "one", "other"] (sp__less_hits K T.C_Kind T.C_Walk T.C_InvalidBound T.tabs) := by
  have G__gap := ok__gap (P := P) (w := w) (base := base) T B
  have G_greatest := ok_greatest (P := P) (w := w) (base := base) T B
  have G_least := ok_least (P := P) (w := w) (base := base) T B
  have G_wrapped := ok_wrapped (P := P) (w := w) (base := base) T B
  refine T.F__less_hits.ok sc__less_hits (fun vs H Q E h => ?_) (fun cdv A outer s H vs Q E hr h => ?_)
  · obtain ⟨kp, l1, l2, a, b, c, d, wd, s, rfl, _⟩ := h
    rfl
  · obtain ⟨kp, l1, l2, a, b, c, d, wd, s, rfl, h⟩ := h
    have hr__gap : Room 1 _ := hr.mono (by decide)
    have hr_greatest : Room 3 _ := hr.mono (by decide)
    have hr_least : Room 2 _ := hr.mono (by decide)
    have hr_wrapped : Room 3 _ := hr.mono (by decide)
    refine ⟨_, (pss_cons (ps_set (i := 3) sc__less_hits.nd rfl (Or.inl rfl) (pe_op op_shl pe_int (pe_fld (pv 0 (hv := Or.inl rfl)) rfl)))
      (pss_cons (ps_par rfl sc__less_hits.nd (i := 4) (j := 5) rfl rfl (by decide) rfl rfl (pa_cons (pe_call G_least hr_least rfl T.g_least T.k_least T.b_least .nil pass0 (pa_cons (pv 0 (hv := Or.inl rfl)) pa_nil)) (pa_cons (pe_call G_greatest hr_greatest rfl T.g_greatest T.k_greatest T.b_greatest .nil pass0 (pa_cons (pv 0 (hv := Or.inl rfl)) pa_nil)) pa_nil)) (by rfl))
      (pss_cons (ps_if (pt_cmpR op_eq (pe_op op_mod (pe_ix (r := rIxT K) ix_tup (pv 1 (hv := Or.inl rfl)) pe_int (fun _ _ => rfl)) (pv 3 (hv := Or.inl rfl))) pe_int (nomark _)) (pss_one (ps_ret (pe_tup (pa_cons (pv 2 (hv := Or.inl rfl)) (pa_cons (pe_op op_add (pe_call G_wrapped hr_wrapped rfl T.g_wrapped T.k_wrapped T.b_wrapped .nil pass0 (pa_cons (pv 0 (hv := Or.inl rfl)) (pa_cons (pe_ix (r := rIxT K) ix_tup (pv 1 (hv := Or.inl rfl)) pe_int (fun _ _ => rfl)) pa_nil))) pe_int) (pa_cons (pv 5 (hv := Or.inl rfl)) pa_nil)))))) pss_nil)
      (pss_cons (ps_if (pt_cmpR op_eq (pe_op op_mod (pe_ix (r := rIxT K) ix_tup (pv 2 (hv := Or.inl rfl)) pe_int (fun _ _ => rfl)) (pv 3 (hv := Or.inl rfl))) pe_int (nomark _)) (pss_one (ps_ret (pe_tup (pa_cons (pv 1 (hv := Or.inl rfl)) (pa_cons (pv 4 (hv := Or.inl rfl)) (pa_cons (pe_op op_sub (pe_call G_wrapped hr_wrapped rfl T.g_wrapped T.k_wrapped T.b_wrapped .nil pass0 (pa_cons (pv 0 (hv := Or.inl rfl)) (pa_cons (pe_ix (r := rIxT K) ix_tup (pv 2 (hv := Or.inl rfl)) pe_int (fun _ _ => rfl)) pa_nil))) pe_int) pa_nil)))))) pss_nil)
      (pss_cons (ps_set (i := 6) sc__less_hits.nd rfl (Or.inl rfl) (pe_call G__gap hr__gap rfl T.g__gap T.k__gap T.b__gap .nil pass0 (pa_cons (pv 1 (hv := Or.inl rfl)) (pa_cons (pv 2 (hv := Or.inl rfl)) pa_nil))))
      (pss_one (ps_ret (pe_ifExp (pt_cmpR op_eq (pe_op op_mod (pe_ix (r := rIxT K) ix_tup (pv 6 (hv := Or.inl rfl)) pe_int (fun _ _ => rfl)) (pv 3 (hv := Or.inl rfl))) pe_int (nomark _)) (pe_tup (pa_cons (pv 1 (hv := Or.inl rfl)) (pa_cons (pv 4 (hv := Or.inl rfl)) (pa_cons (pe_op op_sub (pe_op op_add (pv 4 (hv := Or.inl rfl)) (pe_op op_mod (pe_ix (r := rIxT K) ix_tup (pv 6 (hv := Or.inl rfl)) pe_int (fun _ _ => rfl)) (pv 3 (hv := Or.inl rfl)))) pe_int) pa_nil)))) pe_non)))))))), ?_⟩
    try dsimp only [cxOf, Cx.nox, Cx.wish, Cx.blk]
    rw [show L2.start ["kind", "one", "other", "size", "low", "high", "gap"] [.ref kp, .ref l1, .ref l2] = [some (.ref kp), some (.ref l1), some (.ref l2), none, none, none, none] from rfl]
    obtain ⟨hk, h1, h2, ba, bb, bc, bd, k⟩ := h
    have w2 := hk.w2
    have hp := p2 wd
    walk_at "rd"
    refine w_fb T rfl hk ?_
    walk_at "rd"
    refine w_I (cpow (n := 1) (by omega) (by decide)) ?_
    rw [Int.toNat_natCast, Int.one_mul]
    walk_at "rd"
    refine ⟨kp, wd, s, rfl, hk, ?_⟩
    walk_at "rd"
    refine ⟨kp, wd, s, rfl, hk, ?_⟩
    walk_at "rd"
    refine w_I hp ?_
    walk_at "rd"
    refine w_dec (fun c1 => ?_) (fun c1 => ?_)
    · walk_at "rd"
      refine ⟨kp, b, wd, s, rfl, hk, ?_⟩
      walk_at "rd"
      refine ⟨by show 3 ≤ sizeLine; decide, fun t ht => ?_⟩
      exact k _ _ ((Sm.refl H).new ht) (.inr ⟨t, l2, c, d, _, _, rfl, upd_same, gn h2 ht, .inr ⟨rfl, rfl⟩, lt_one c1⟩)
    walk_at "rd"
    refine w_I hp ?_
    walk_at "rd"
    refine w_dec (fun c2 => ?_) (fun c2 => ?_)
    · walk_at "rd"
      refine ⟨kp, d, wd, s, rfl, hk, ?_⟩
      walk_at "rd"
      refine ⟨by show 3 ≤ sizeLine; decide, fun t ht => ?_⟩
      exact k _ _ ((Sm.refl H).new ht) (.inr ⟨t, l1, a, b, _, _, rfl, upd_same, gn h1 ht, .inl ⟨rfl, rfl⟩, lt_other c2⟩)
    walk_at "rd"
    refine ⟨l1, l2, a, b, c, d, rfl, h1, h2, fun t ht => ?_⟩
    have s1 := (Sm.refl (T := T.tabs) H).new (o := .tup [.int (a - c), .int (b - d)]) ht
    have ht' : (L2.upd H t (.tup [.int (a - c), .int (b - d)])) t = some (.tup [.int (a - c), .int (b - d)]) := upd_same
    have h1' := gn (u := .tup [.int (a - c), .int (b - d)]) h1 ht
    generalize L2.upd H t _ = H1 at s1 ht' h1' ⊢
    walk_at "rd"
    refine w_if ?_
    walk_at "rd"
    refine w_I hp ?_
    walk_at "rd"
    refine w_dec (fun c3 => ?_) (fun c3 => ?_)
    · walk_at "rd"
      refine w_I hp ?_
      walk_at "rd"
      refine ⟨by show 3 ≤ sizeLine; decide, fun t2 ht2 => ?_⟩
      exact k _ _ (s1.new ht2) (.inr ⟨t2, l1, a, b, _, _, rfl, upd_same, gn h1' ht2, .inl ⟨rfl, rfl⟩, lt_gap c3⟩)
    · walk_at "rd"
      exact k _ _ s1 (.inl rfl)
theorem ok0__hits {P : Program} {w : World} {K : PySem.W.Frag} {mg : Str → Option Value} {base : Heap} (T : Txt K mg) : FnOk P w K mg base CX0 0 T.f__hits T.fd__hits ["kind", "one", "relation", "other"] (fun _ _ _ _ => False) := by
  constructor
  · intro _ _ _ _ h; exact h.elim
  · intros; exact False.elim (by assumption)
def spr__hits (K : PySem.W.Frag) (C : Addr) (C_Walk : Addr) (C_InvalidBound : Addr) (TS : List (Addr × Str)) : Sp := fun vs H Q _ => ∃ (kp l1 : Addr) (z : Str) (l2 : Addr) (a b c d : Int) (wd : Nat) (s : Bool), vs = [.ref kp, .ref l1, .str z, .ref l2] ∧ Kd C H kp wd s ∧ H l1 = some (.tup [.int a, .int b]) ∧ H l2 = some (.tup [.int c, .int d]) ∧ SD a ∧ SD b ∧ SD c ∧ SD d ∧ (z = "==" ∨ z = "<" ∨ z = ">") ∧ ∀ v H', Sm TS H H' → (v = .non ∨ ∃ t l e f lo hi, v = .ref t ∧ H' t = some (.tup [.ref l, .int lo, .int hi]) ∧ H' l = some (.tup [.int e, .int f]) ∧ BB e ∧ HitsOf wd s z a b c d e f lo hi) → Q v H'
theorem okr__hits {P : Program} {w : World} {K : PySem.W.Frag} {mg : Str → Option Value} {base : Heap} (T : Txt K mg) (B : TBs T base w P) : FnOk P w K mg base CX0 7 T.f__hits T.fd__hits ["kind", "one", "relation", "other"] (spr__hits K T.C_Kind T.C_Walk T.C_InvalidBound T.tabs) := by
  have G__gap := ok__gap (P := P) (w := w) (base := base) T B
  have G__hits := ok0__hits (P := P) (w := w) (base := base) T
  have G__less_hits := ok__less_hits (P := P) (w := w) (base := base) T B
  have G_opposite := ok_opposite (P := P) (w := w) (base := base) T B
  refine T.F__hits.ok sc__hits (fun vs H Q E h => ?_) (fun cdv A outer s H vs Q E hr h => ?_)
  · obtain ⟨kp, l1, z, l2, a, b, c, d, wd, s, rfl, _⟩ := h
    rfl
  · obtain ⟨kp, l1, z, l2, a, b, c, d, wd, s, rfl, h⟩ := h
    have hr__gap : Room 1 _ := hr.mono (by decide)
    have hr__hits : Room 0 _ := hr.mono (by decide)
    have hr__less_hits : Room 4 _ := hr.mono (by decide)
    have hr_opposite : Room 1 _ := hr.mono (by decide)
    refine ⟨_, (pss_cons (ps_set (i := 4) sc__hits.nd rfl (Or.inl rfl) (pe_op op_shl pe_int (pe_fld (pv 0 (hv := Or.inl rfl)) rfl)))
      (pss_cons (ps_match (pv 2 (hv := Or.inl rfl))
      (pm_str (pss_one (ps_ret (pe_tup (pa_cons (pe_call G__gap hr__gap rfl T.g__gap T.k__gap T.b__gap .nil pass0 (pa_cons (pv 1 (hv := Or.inl rfl)) (pa_cons (pv 3 (hv := Or.inl rfl)) pa_nil))) (pa_cons pe_int (pa_cons pe_int pa_nil))))))
      (pm_str (pss_one (ps_ret (pe_call G__less_hits hr__less_hits rfl T.g__less_hits T.k__less_hits T.b__less_hits .nil pass0 (pa_cons (pv 0 (hv := Or.inl rfl)) (pa_cons (pv 1 (hv := Or.inl rfl)) (pa_cons (pv 3 (hv := Or.inl rfl)) pa_nil))))))
      (pm_str (pss_one (ps_ret (pe_call G__less_hits hr__less_hits rfl T.g__less_hits T.k__less_hits T.b__less_hits .nil pass0 (pa_cons (pv 0 (hv := Or.inl rfl)) (pa_cons (pv 3 (hv := Or.inl rfl)) (pa_cons (pv 1 (hv := Or.inl rfl)) pa_nil))))))
      (pm_any (pss_one (ps_set (i := 5) sc__hits.nd rfl (Or.inl rfl) (pe_call G__hits hr__hits rfl T.g__hits T.k__hits T.b__hits .nil pass0 (pa_cons (pv 0 (hv := Or.inl rfl)) (pa_cons (pv 1 (hv := Or.inl rfl)) (pa_cons (pe_call G_opposite hr_opposite rfl T.g_opposite T.k_opposite T.b_opposite .nil pass0 (pa_cons (pv 2 (hv := Or.inl rfl)) pa_nil)) (pa_cons (pv 3 (hv := Or.inl rfl)) pa_nil))))))))))))
      (pss_cons (ps_if (pt_cmpR (r := rIsNn) op_isN (pv 5 (hv := Or.inl rfl)) pe_non (nomark _)) (pss_one (ps_ret pe_non)) pss_nil)
      (pss_cons (ps_asg (pv 5 (hv := Or.inl rfl)) (pg_tup rfl (pgs_cons (pg_name (i := 6) sc__hits.nd rfl (Or.inl rfl)) (pgs_cons (pg_name (i := 7) sc__hits.nd rfl (Or.inl rfl)) (pgs_cons (pg_name (i := 8) sc__hits.nd rfl (Or.inl rfl)) pgs_nil)))))
      (pss_one (ps_ret (pe_tup (pa_cons (pv 6 (hv := Or.inl rfl)) (pa_cons (pe_op op_add (pv 8 (hv := Or.inl rfl)) pe_int) (pa_cons (pe_op op_sub (pe_op op_add (pv 7 (hv := Or.inl rfl)) (pv 4 (hv := Or.inl rfl))) pe_int) pa_nil)))))))))), ?_⟩
    try dsimp only [cxOf, Cx.nox, Cx.wish, Cx.blk]
    rw [show L2.start ["kind", "one", "relation", "other", "size", "found", "line", "low", "high"] [.ref kp, .ref l1, .str z, .ref l2] = [some (.ref kp), some (.ref l1), some (.str z), some (.ref l2), none, none, none, none, none] from rfl]
    obtain ⟨hk, h1, h2, sa, sb, sc, sd, hz, k⟩ := h
    have w2 := hk.w2
    have hp := p2 wd
    have p10 : (10 : Int) ^ 60 * 4 < 10 ^ 62 := by decide +kernel
    have bg : BB (a - c) := by
      obtain ⟨a1, a2⟩ := sa
      obtain ⟨c1, c2⟩ := sc
      exact bb_ten (by omega) (by omega)
    walk_at "rd"
    refine w_fb T rfl hk ?_
    walk_at "rd"
    refine w_I (cpow (n := 1) (by omega) (by decide)) ?_
    rw [Int.toNat_natCast, Int.one_mul]
    rcases hz with rfl | rfl | rfl
    · walk_at "rd"
      refine ⟨l1, l2, a, b, c, d, rfl, h1, h2, fun t ht => ?_⟩
      walk_at "rd"
      refine ⟨by show 3 ≤ sizeLine; decide, fun t2 ht2 => ?_⟩
      exact k _ _ (((Sm.refl H).new ht).new ht2) (.inr ⟨t2, t, a - c, b - d, 0, 0, rfl, upd_same, gn upd_same ht2, bg, ⟨by omega, fun x => by unfold cmP; rw [rel3]; exact eq_gap x⟩⟩)
    · walk_at "rd"
      refine w_caseF (by decide +kernel) ?_
      walk_at "rd"
      refine ⟨kp, l1, l2, a, b, c, d, wd, s, rfl, hk, h1, h2, sa.bb, sb.bb, sc.bb, sd.bb, fun v H' s' hv => k v H' s' ?_⟩
      rcases hv with rfl | ⟨t, l, e, f, lo, hi, rfl, ht, hl, ef, hb, hx⟩
      · exact .inl rfl
      · refine .inr ⟨t, l, e, f, lo, hi, rfl, ht, hl, ?_, hb, fun x => ?_⟩
        · rcases ef with ⟨rfl, _⟩ | ⟨rfl, _⟩
          · exact sa.bb
          · exact sc.bb
        · unfold cmP; rw [rel1]; exact hx x
    · walk_at "rd"
      refine w_caseF (by decide +kernel) ?_
      refine w_caseF (by decide +kernel) ?_
      walk_at "rd"
      refine ⟨kp, l2, l1, c, d, a, b, wd, s, rfl, hk, h2, h1, sc.bb, sd.bb, sa.bb, sb.bb, fun v H' s' hv => k v H' s' ?_⟩
      rcases hv with rfl | ⟨t, l, e, f, lo, hi, rfl, ht, hl, ef, hb, hx⟩
      · exact .inl rfl
      · refine .inr ⟨t, l, e, f, lo, hi, rfl, ht, hl, ?_, hb, fun x => ?_⟩
        · rcases ef with ⟨rfl, _⟩ | ⟨rfl, _⟩
          · exact sc.bb
          · exact sa.bb
        · unfold cmP; rw [rel6]; exact hx x
def sp__hits (K : PySem.W.Frag) (C : Addr) (C_Walk : Addr) (C_InvalidBound : Addr) (TS : List (Addr × Str)) : Sp := fun vs H Q _ => ∃ (kp l1 : Addr) (z : Str) (l2 : Addr) (a b c d : Int) (wd : Nat) (s : Bool), vs = [.ref kp, .ref l1, .str z, .ref l2] ∧ Kd C H kp wd s ∧ H l1 = some (.tup [.int a, .int b]) ∧ H l2 = some (.tup [.int c, .int d]) ∧ SD a ∧ SD b ∧ SD c ∧ SD d ∧ Rel z ∧ ∀ v H', Sm TS H H' → (v = .non ∨ ∃ t l e f lo hi, v = .ref t ∧ H' t = some (.tup [.ref l, .int lo, .int hi]) ∧ H' l = some (.tup [.int e, .int f]) ∧ BB e ∧ HitsOf wd s z a b c d e f lo hi) → Q v H'
theorem ok__hits {P : Program} {w : World} {K : PySem.W.Frag} {mg : Str → Option Value} {base : Heap} (T : Txt K mg) (B : TBs T base w P) : FnOk P w K mg base CX0 8 T.f__hits T.fd__hits ["kind", "one", "relation", "other"] (sp__hits K T.C_Kind T.C_Walk T.C_InvalidBound T.tabs) := by
  have G__gap := ok__gap (P := P) (w := w) (base := base) T B
  have G__hits := okr__hits (P := P) (w := w) (base := base) T B
  have G__less_hits := ok__less_hits (P := P) (w := w) (base := base) T B
  have G_opposite := ok_opposite (P := P) (w := w) (base := base) T B
  refine T.F__hits.ok sc__hits (fun vs H Q E h => ?_) (fun cdv A outer s H vs Q E hr h => ?_)
  · obtain ⟨kp, l1, z, l2, a, b, c, d, wd, s, rfl, _⟩ := h
    rfl
  · obtain ⟨kp, l1, z, l2, a, b, c, d, wd, s, rfl, h⟩ := h
    have hr__gap : Room 1 _ := hr.mono (by decide)
    have hr__hits : Room 7 _ := hr.mono (by decide)
    have hr__less_hits : Room 4 _ := hr.mono (by decide)
    have hr_opposite : Room 1 _ := hr.mono (by decide)
    refine ⟨_, (pss_cons (ps_set (i := 4) sc__hits.nd rfl (Or.inl rfl) (pe_op op_shl pe_int (pe_fld (pv 0 (hv := Or.inl rfl)) rfl)))
      (pss_cons (ps_match (pv 2 (hv := Or.inl rfl))
      (pm_str (pss_one (ps_ret (pe_tup (pa_cons (pe_call G__gap hr__gap rfl T.g__gap T.k__gap T.b__gap .nil pass0 (pa_cons (pv 1 (hv := Or.inl rfl)) (pa_cons (pv 3 (hv := Or.inl rfl)) pa_nil))) (pa_cons pe_int (pa_cons pe_int pa_nil))))))
      (pm_str (pss_one (ps_ret (pe_call G__less_hits hr__less_hits rfl T.g__less_hits T.k__less_hits T.b__less_hits .nil pass0 (pa_cons (pv 0 (hv := Or.inl rfl)) (pa_cons (pv 1 (hv := Or.inl rfl)) (pa_cons (pv 3 (hv := Or.inl rfl)) pa_nil))))))
      (pm_str (pss_one (ps_ret (pe_call G__less_hits hr__less_hits rfl T.g__less_hits T.k__less_hits T.b__less_hits .nil pass0 (pa_cons (pv 0 (hv := Or.inl rfl)) (pa_cons (pv 3 (hv := Or.inl rfl)) (pa_cons (pv 1 (hv := Or.inl rfl)) pa_nil))))))
      (pm_any (pss_one (ps_set (i := 5) sc__hits.nd rfl (Or.inl rfl) (pe_call G__hits hr__hits rfl T.g__hits T.k__hits T.b__hits .nil pass0 (pa_cons (pv 0 (hv := Or.inl rfl)) (pa_cons (pv 1 (hv := Or.inl rfl)) (pa_cons (pe_call G_opposite hr_opposite rfl T.g_opposite T.k_opposite T.b_opposite .nil pass0 (pa_cons (pv 2 (hv := Or.inl rfl)) pa_nil)) (pa_cons (pv 3 (hv := Or.inl rfl)) pa_nil))))))))))))
      (pss_cons (ps_if (pt_cmpR (r := rIsNn) op_isN (pv 5 (hv := Or.inl rfl)) pe_non (nomark _)) (pss_one (ps_ret pe_non)) pss_nil)
      (pss_cons (ps_asg (pv 5 (hv := Or.inl rfl)) (pg_tup rfl (pgs_cons (pg_name (i := 6) sc__hits.nd rfl (Or.inl rfl)) (pgs_cons (pg_name (i := 7) sc__hits.nd rfl (Or.inl rfl)) (pgs_cons (pg_name (i := 8) sc__hits.nd rfl (Or.inl rfl)) pgs_nil)))))
      (pss_one (ps_ret (pe_tup (pa_cons (pv 6 (hv := Or.inl rfl)) (pa_cons (pe_op op_add (pv 8 (hv := Or.inl rfl)) pe_int) (pa_cons (pe_op op_sub (pe_op op_add (pv 7 (hv := Or.inl rfl)) (pv 4 (hv := Or.inl rfl))) pe_int) pa_nil)))))))))), ?_⟩
    try dsimp only [cxOf, Cx.nox, Cx.wish, Cx.blk]
    rw [show L2.start ["kind", "one", "relation", "other", "size", "found", "line", "low", "high"] [.ref kp, .ref l1, .str z, .ref l2] = [some (.ref kp), some (.ref l1), some (.str z), some (.ref l2), none, none, none, none, none] from rfl]
    obtain ⟨hk, h1, h2, sa, sb, sc, sd, hz, k⟩ := h
    have w2 := hk.w2
    have hp := p2 wd
    have p10 : (10 : Int) ^ 60 * 4 < 10 ^ 62 := by decide +kernel
    have bg : BB (a - c) := by
      obtain ⟨a1, a2⟩ := sa
      obtain ⟨c1, c2⟩ := sc
      exact bb_ten (by omega) (by omega)
    walk_at "rd"
    refine w_fb T rfl hk ?_
    walk_at "rd"
    refine w_I (cpow (n := 1) (by omega) (by decide)) ?_
    rw [Int.toNat_natCast, Int.one_mul]
    have hz : (z = "==" ∨ z = "<" ∨ z = ">") ∨ (z = "<=" ∨ z = "!=" ∨ z = ">=") := by
      rcases hz with rfl | rfl | rfl | rfl | rfl | rfl
      · exact .inl (.inr (.inl rfl))
      · exact .inr (.inl rfl)
      · exact .inl (.inl rfl)
      · exact .inr (.inr (.inl rfl))
      · exact .inr (.inr (.inr rfl))
      · exact .inl (.inr (.inr rfl))
    rcases hz with (rfl | rfl | rfl) | hz
    · walk_at "rd"
      refine ⟨l1, l2, a, b, c, d, rfl, h1, h2, fun t ht => ?_⟩
      walk_at "rd"
      refine ⟨by show 3 ≤ sizeLine; decide, fun t2 ht2 => ?_⟩
      exact k _ _ (((Sm.refl H).new ht).new ht2) (.inr ⟨t2, t, a - c, b - d, 0, 0, rfl, upd_same, gn upd_same ht2, bg, ⟨by omega, fun x => by unfold cmP; rw [rel3]; exact eq_gap x⟩⟩)
    · walk_at "rd"
      refine w_caseF (by decide +kernel) ?_
      walk_at "rd"
      refine ⟨kp, l1, l2, a, b, c, d, wd, s, rfl, hk, h1, h2, sa.bb, sb.bb, sc.bb, sd.bb, fun v H' s' hv => k v H' s' ?_⟩
      rcases hv with rfl | ⟨t, l, e, f, lo, hi, rfl, ht, hl, ef, hb, hx⟩
      · exact .inl rfl
      · refine .inr ⟨t, l, e, f, lo, hi, rfl, ht, hl, ?_, hb, fun x => ?_⟩
        · rcases ef with ⟨rfl, _⟩ | ⟨rfl, _⟩
          · exact sa.bb
          · exact sc.bb
        · unfold cmP; rw [rel1]; exact hx x
    · walk_at "rd"
      refine w_caseF (by decide +kernel) ?_
      refine w_caseF (by decide +kernel) ?_
      walk_at "rd"
      refine ⟨kp, l2, l1, c, d, a, b, wd, s, rfl, hk, h2, h1, sc.bb, sd.bb, sa.bb, sb.bb, fun v H' s' hv => k v H' s' ?_⟩
      rcases hv with rfl | ⟨t, l, e, f, lo, hi, rfl, ht, hl, ef, hb, hx⟩
      · exact .inl rfl
      · refine .inr ⟨t, l, e, f, lo, hi, rfl, ht, hl, ?_, hb, fun x => ?_⟩
        · rcases ef with ⟨rfl, _⟩ | ⟨rfl, _⟩
          · exact sc.bb
          · exact sa.bb
        · unfold cmP; rw [rel6]; exact hx x
    · walk_at "rd"
      refine w_caseF (by rcases hz with rfl | rfl | rfl <;> decide +kernel) ?_
      refine w_caseF (by rcases hz with rfl | rfl | rfl <;> decide +kernel) ?_
      refine w_caseF (by rcases hz with rfl | rfl | rfl <;> decide +kernel) ?_
      walk_at "rd"
      have hz' : Rel z := by
        rcases hz with rfl | rfl | rfl
        · exact .inr (.inl rfl)
        · exact .inr (.inr (.inr (.inl rfl)))
        · exact .inr (.inr (.inr (.inr (.inl rfl))))
      refine ⟨z, rfl, hz', ?_⟩
      walk_at "rd"
      refine ⟨kp, l1, opp z, l2, a, b, c, d, wd, s, rfl, hk, h1, h2, sa, sb, sc, sd, by rcases hz with rfl | rfl | rfl <;> decide +kernel, fun v H' s' hv => ?_⟩
      walk_at "rd"
      rcases hv with rfl | ⟨t, l, e, f, lo, hi, rfl, ht, hl, ef, hh⟩
      · walk_at "rd"
        refine iteT ?_
        walk_at "rd"
        exact k _ _ s' (.inl rfl)
      · walk_at "rd"
        refine w_isNr ?_
        walk_at "rd"
        refine iteF ?_
        walk_at "rd"
        refine ⟨by show 3 ≤ sizeLine; decide, fun t2 ht2 => ?_⟩
        exact k _ _ (s'.new ht2) (.inr ⟨t2, l, e, f, _, _, rfl, upd_same, gn hl ht2, ef, hits_not hz' hh⟩)
def sp__holding (K : PySem.W.Frag) (C : Addr) (C_Walk : Addr) (C_InvalidBound : Addr) (TS : List (Addr × Str)) : Sp := fun vs H Q _ => ∃ (kp l1 : Addr) (z : Str) (l2 : Addr) (first last j : Int) (a b c d : Int) (wd : Nat) (s : Bool), vs = [.ref kp, .ref l1, .str z, .ref l2, .int first, .int last, .int (tot (cmP wd s z a b c d) first last), .int j] ∧ Kd C H kp wd s ∧ H l1 = some (.tup [.int a, .int b]) ∧ H l2 = some (.tup [.int c, .int d]) ∧ SD a ∧ SD b ∧ SD c ∧ SD d ∧ Rel z ∧ BB first ∧ BB last ∧ LamX.Tabs TS H ∧ 0 ≤ j ∧ j < tot (cmP wd s z a b c d) first last ∧ ∀ x H', AtOf (cmP wd s z a b c d) first last j x → Sm TS H H' → Q (.int x) H'
theorem ok__holding {P : Program} {w : World} {K : PySem.W.Frag} {mg : Str → Option Value} {base : Heap} (T : Txt K mg) (B : TBs T base w P) : FnOk P w K mg base CX0 17 T.f__holding T.fd__holding ["kind", "one", "relation", "other", "first", "last", "total", "j"] (sp__holding K T.C_Kind T.C_Walk T.C_InvalidBound T.tabs) := by
  have G__hits := ok__hits (P := P) (w := w) (base := base) T B
  have G__total := ok__total (P := P) (w := w) (base := base) T B
  have G_hit_at := ok_hit_at (P := P) (w := w) (base := base) T B
  have G_wanted_of := ok_wanted_of (P := P) (w := w) (base := base) T B
  refine T.F__holding.ok sc__holding (fun vs H Q E h => ?_) (fun A outer s H vs Q E hr h => ?_)
  · obtain ⟨kp, l1, z, l2, first, last, j, a, b, c, d, wd, s, rfl, _⟩ := h
    rfl
  · obtain ⟨kp, l1, z, l2, first, last, j, a, b, c, d, wd, s, rfl, h⟩ := h
    have hr__hits : Room 8 _ := hr.mono (by decide)
    have hr__total : Room 4 _ := hr.mono (by decide)
    have hr_hit_at : Room 5 _ := hr.mono (by decide)
    have hr_wanted_of : Room 16 _ := hr.mono (by decide)
    refine ⟨_, (pss_cons (ps_set (i := 8) sc__holding.nd rfl (Or.inl rfl) (pe_call G__hits hr__hits rfl T.g__hits T.k__hits T.b__hits .nil pass0 (pa_cons (pv 0 (hv := Or.inr (Or.inl rfl))) (pa_cons (pv 1 (hv := Or.inr (Or.inl rfl))) (pa_cons (pv 2 (hv := Or.inr (Or.inl rfl))) (pa_cons (pv 3 (hv := Or.inr (Or.inl rfl))) pa_nil))))))
      (pss_cons (ps_if (pt_cmpR (r := rIsNn) op_isN (pv 8 (hv := Or.inl rfl)) pe_non (nomark _)) (pss_one (ps_ret (pe_lamC2 (T := T.tabs) (pa := "start") (pb := "end") (kb := 4) (C := (fun _ _ _ => False)) G_wanted_of hr_wanted_of rfl T.g_wanted_of T.k_wanted_of T.b_wanted_of B.tb__holding rfl T.mT__holding T.uT__holding (lamP2_by (sc := defScope s__holding) (by decide +kernel)) (fun z => absurd (show ("start" : Str) ∈ (["kind", "one", "relation", "other", "first", "last", "total", "j", "hits", "line", "low", "high"] : List Str) from z) (by decide +kernel)) (fun z => absurd (show ("end" : Str) ∈ (["kind", "one", "relation", "other", "first", "last", "total", "j", "hits", "line", "low", "high"] : List Str) from z) (by decide +kernel)) rfl rfl (fun _ _ _ _ _ _ _ => rfl) (fun _ _ _ z => z.elim)
      (fun _ _ _ _ _ _ KN hrL => (pe_call G__total (hrL.mono (by decide)) rfl T.g__total T.k__total T.b__total .nil pass0 (pa_cons (pv 0 (hv := Or.inr (Or.inr rfl))) (pa_cons (pv 1 (hv := Or.inr (Or.inr rfl))) (pa_cons (pv 2 (hv := Or.inr (Or.inr rfl))) (pa_cons (pv 3 (hv := Or.inr (Or.inr rfl))) (pa_cons (pv 12 (hv := Or.inl rfl)) (pa_cons (pv 13 (hv := Or.inl rfl)) pa_nil)))))))) (pa_cons (pv 4 (hv := Or.inl rfl)) (pa_cons (pv 5 (hv := Or.inl rfl)) (pa_cons (pv 6 (hv := Or.inl rfl)) (pa_cons (pv 7 (hv := Or.inl rfl)) pa_nil))))))) pss_nil)
      (pss_cons (ps_asg (pv 8 (hv := Or.inl rfl)) (pg_tup rfl (pgs_cons (pg_name (i := 9) sc__holding.nd rfl (Or.inl rfl)) (pgs_cons (pg_name (i := 10) sc__holding.nd rfl (Or.inl rfl)) (pgs_cons (pg_name (i := 11) sc__holding.nd rfl (Or.inl rfl)) pgs_nil)))))
      (pss_one (ps_ret (pe_call G_hit_at hr_hit_at rfl T.g_hit_at T.k_hit_at T.b_hit_at .nil pass0 (pa_cons (pv 9 (hv := Or.inl rfl)) (pa_cons (pe_op op_shl pe_int (pe_fld (pv 0 (hv := Or.inr (Or.inl rfl))) rfl)) (pa_cons (pv 4 (hv := Or.inl rfl)) (pa_cons (pv 10 (hv := Or.inl rfl)) (pa_cons (pv 11 (hv := Or.inl rfl)) (pa_cons (pv 7 (hv := Or.inl rfl)) pa_nil)))))))))))), ?_⟩
    try dsimp only [cxOf, Cx.nox, Cx.wish, Cx.blk]
    rw [show L2.start ["kind", "one", "relation", "other", "first", "last", "total", "j", "hits", "line", "low", "high"] [.ref kp, .ref l1, .str z, .ref l2, .int first, .int last, .int (tot (cmP wd s z a b c d) first last), .int j] = [some (.ref kp), some (.ref l1), some (.str z), some (.ref l2), some (.int first), some (.int last), some (.int (tot (cmP wd s z a b c d) first last)), some (.int j), none, none, none, none] from rfl]
    obtain ⟨hk, h1, h2, sa, sb, sc, sd, hz, bf, bl, hT, j0, j1, k⟩ := h
    have w2 := hk.w2
    have hp := p2 wd
    walk_at "rd"
    refine ⟨kp, l1, z, l2, a, b, c, d, wd, s, rfl, hk, h1, h2, sa, sb, sc, sd, hz, fun v H1 s1 hv => ?_⟩
    walk_at "rd"
    rcases hv with rfl | ⟨t, l, e, f, lo, hi, rfl, ht, hl, be, ⟨hb1, hb2⟩, hx⟩
    · walk_at "rd"
      refine iteT ?_
      walk_at "rd"
      refine ⟨s1.2 hT, fun fl c' H2 s2 hco => ?_⟩
      walk_at "rd"
      intro C' hC' hlam
      refine ⟨fl, first, last, j, cmP wd s z a b c d, rfl, hlam 12 _ (by decide) (fun ws H3 Q3 zz => ?_), bf, bl, j0, j1, fun v H' hv s3 => k _ _ hv ((s1.trans s2).trans s3)⟩
      obtain ⟨u, u2, rfl, e1, e2, e3, s3, q⟩ := zz
      refine ⟨_, _, rfl, s3.at hco, ?_⟩
      dsimp only [List.cons_append, List.nil_append]
      walk_at "rd"
      have s13 := (s1.trans s2).trans s3
      have bu : BB u ∧ BB u2 := by
        unfold BB at *
        omega
      exact ⟨kp, l1, z, l2, u, u2, a, b, c, d, wd, s, rfl, hk.sm s13, s13.at h1, s13.at h2, sa, sb, sc, sd, hz, bu.1, bu.2, fun H4 s4 => q _ (Sm.of s4)⟩
    · walk_at "rd"
      refine w_isNr ?_
      walk_at "rd"
      refine iteF ?_
      walk_at "rd"
      refine w_fb T rfl (hk.sm s1) ?_
      walk_at "rd"
      refine w_I (cpow (n := 1) (by omega) (by decide)) ?_
      rw [Int.toNat_natCast, Int.one_mul]
      walk_at "rd"
      have p129 : (2 : Int) ^ wd ≤ 2 ^ 129 := by
        have := Nat.pow_le_pow_right (n := 2) (by decide) (show wd ≤ 129 by omega)
        exact_mod_cast this
      have ep : tot (fun x => inR (2 ^ wd) lo hi (e * x + f)) first last = tot (cmP wd s z a b c d) first last := tot_congr fun x _ _ => (hx x).symm
      have fl : first ≤ last := Int.not_lt.mp fun c => by rw [tot_none c] at j1; omega
      have lh : lo ≤ hi := Int.not_lt.mp fun c => by
        have : tot (fun x => inR (2 ^ wd) lo hi (e * x + f)) first last = 0 := tot_zero_iff.mpr fun x _ _ => by
          unfold inR
          exact decide_eq_false fun zz => by omega
        omega
      have jl := tot_le (cmP wd s z a b c d) (first := first) (last := last) (by omega)
      have h302 : (2 : Int) ^ 302 = 4 * 2 ^ 300 := by decide +kernel
      have c4 : ((2 ^ 400 : Nat) : Int) = (2 : Int) ^ 400 := Int.natCast_pow 2 400
      have c43 : (2 : Int) ^ 302 < 2 ^ 400 := by decide +kernel
      have c3 : ((2 ^ 300 : Nat) : Int) = (2 : Int) ^ 300 := Int.natCast_pow 2 300
      have bf' := bf
      have bl' := bl
      unfold BB at bf' bl'
      obtain ⟨N, hN⟩ := Int.eq_ofNat_of_zero_le (show 0 ≤ last - first + 1 by omega)
      have eN : first + (N : Int) - 1 = last := by omega
      have hC0 := (hit_pos (a := e) (b := f) hp lh (show hi - lo < 2 ^ wd by omega) first N).2
      refine ⟨l, e, f, 2 ^ wd, first, lo, hi, j, N, rfl, hl, be, bf, hp, p129, by omega, by omega, j0, by omega, by omega, by rw [hC0, eN, ep]; exact j1, fun n g H2 h s2 => ?_⟩
      obtain ⟨x1, x2⟩ := hit_is hp lh (show hi - lo < 2 ^ wd by omega) h
      rw [← hx] at x1
      have x3 : tot (cmP wd s z a b c d) first (first + (n : Int) - 1) = j := by
        rw [← x2]
        exact tot_congr fun x _ _ => hx x
      refine k _ H2 ⟨by omega, ?_, x1, x3⟩ (s1.trans (Sm.of s2))
      refine Int.not_lt.mp fun zz => ?_
      have := tot_mono (cmP wd s z a b c d) (first := first) (show last ≤ first + (n : Int) - 1 by omega)
      omega
def sp__first_holding (K : PySem.W.Frag) (C : Addr) (C_Walk : Addr) (C_InvalidBound : Addr) (TS : List (Addr × Str)) : Sp := fun vs H Q _ => ∃ (kp l1 : Addr) (z : Str) (l2 : Addr) (first last : Int) (a b c d : Int) (wd : Nat) (s : Bool), vs = [.ref kp, .ref l1, .str z, .ref l2, .int first, .int last] ∧ Kd C H kp wd s ∧ H l1 = some (.tup [.int a, .int b]) ∧ H l2 = some (.tup [.int c, .int d]) ∧ SD a ∧ SD b ∧ SD c ∧ SD d ∧ Rel z ∧ BB first ∧ BB last ∧ LamX.Tabs TS H ∧ ∀ v H', FirstOf (cmP wd s z a b c d) first last v → Sm TS H H' → Q v H'
theorem ok__first_holding {P : Program} {w : World} {K : PySem.W.Frag} {mg : Str → Option Value} {base : Heap} (T : Txt K mg) (B : TBs T base w P) : FnOk P w K mg base CX0 18 T.f__first_holding T.fd__first_holding ["kind", "one", "relation", "other", "first", "last"] (sp__first_holding K T.C_Kind T.C_Walk T.C_InvalidBound T.tabs) := by
  have G__holding := ok__holding (P := P) (w := w) (base := base) T B
  have G__total := ok__total (P := P) (w := w) (base := base) T B
  refine T.F__first_holding.ok sc__first_holding (fun vs H Q E h => ?_) (fun cdv A outer s H vs Q E hr h => ?_)
  · obtain ⟨kp, l1, z, l2, first, last, a, b, c, d, wd, s, rfl, _⟩ := h
    rfl
  · obtain ⟨kp, l1, z, l2, first, last, a, b, c, d, wd, s, rfl, h⟩ := h
    have hr__holding : Room 17 _ := hr.mono (by decide)
    have hr__total : Room 4 _ := hr.mono (by decide)
    refine ⟨_, (pss_cons (ps_set (i := 6) sc__first_holding.nd rfl (Or.inl rfl) (pe_call G__total hr__total rfl T.g__total T.k__total T.b__total .nil pass0 (pa_cons (pv 0 (hv := Or.inl rfl)) (pa_cons (pv 1 (hv := Or.inl rfl)) (pa_cons (pv 2 (hv := Or.inl rfl)) (pa_cons (pv 3 (hv := Or.inl rfl)) (pa_cons (pv 4 (hv := Or.inl rfl)) (pa_cons (pv 5 (hv := Or.inl rfl)) pa_nil))))))))
      (pss_one (ps_ret (pe_ifExp (pt_cmpR op_eq (pv 6 (hv := Or.inl rfl)) pe_int (nomark _)) pe_non (pe_call G__holding hr__holding rfl T.g__holding T.k__holding T.b__holding .nil pass0 (pa_cons (pv 0 (hv := Or.inl rfl)) (pa_cons (pv 1 (hv := Or.inl rfl)) (pa_cons (pv 2 (hv := Or.inl rfl)) (pa_cons (pv 3 (hv := Or.inl rfl)) (pa_cons (pv 4 (hv := Or.inl rfl)) (pa_cons (pv 5 (hv := Or.inl rfl)) (pa_cons (pv 6 (hv := Or.inl rfl)) (pa_cons pe_int pa_nil))))))))))))), ?_⟩
    try dsimp only [cxOf, Cx.nox, Cx.wish, Cx.blk]
    rw [show L2.start ["kind", "one", "relation", "other", "first", "last", "total"] [.ref kp, .ref l1, .str z, .ref l2, .int first, .int last] = [some (.ref kp), some (.ref l1), some (.str z), some (.ref l2), some (.int first), some (.int last), none] from rfl]
    obtain ⟨hk, h1, h2, sa, sb, sc, sd, hz, bf, bl, hT, k⟩ := h
    walk_at "rd"
    refine ⟨kp, l1, z, l2, first, last, a, b, c, d, wd, s, rfl, hk, h1, h2, sa, sb, sc, sd, hz, bf, bl, fun H1 s1 => ?_⟩
    walk_at "rd"
    have tn := tot_nonneg (cmP wd s z a b c d) first last
    refine w_if ?_
    walk_at "rd"
    refine w_dec (fun c0 => ?_) (fun c0 => ?_)
    · walk_at "rd"
      exact k _ _ (.inl ⟨rfl, c0⟩) (Sm.of s1)
    · walk_at "rd"
      refine ⟨kp, l1, z, l2, first, last, 0, a, b, c, d, wd, s, rfl, hk.same s1, s1 _ _ h1, s1 _ _ h2, sa, sb, sc, sd, hz, bf, bl, (Sm.of s1).2 hT, by omega, by omega, fun x H2 hx s2 => k _ _ (.inr ⟨x, rfl, hx.1, hx.2.1, hx.2.2.1, ?_⟩) ((Sm.of s1).trans s2)⟩
      exact hx.2.2.2
def sp_first_holding (K : PySem.W.Frag) (C : Addr) (C_Walk : Addr) (C_InvalidBound : Addr) (TS : List (Addr × Str)) : Sp := fun vs H Q _ => ∃ (kp l1 : Addr) (z : Str) (l2 : Addr) (first last : Int) (a b c d : Int) (wd : Nat) (s : Bool), vs = [.ref kp, .ref l1, .str z, .ref l2, .int first, .int last] ∧ Kd C H kp wd s ∧ H l1 = some (.tup [.int a, .int b]) ∧ H l2 = some (.tup [.int c, .int d]) ∧ SD a ∧ SD b ∧ SD c ∧ SD d ∧ Rel z ∧ SD first ∧ SD last ∧ LamX.Tabs TS H ∧ ∀ v H', FirstOf (cmP wd s z a b c d) first last v → Sm TS H H' → Q v H'
theorem ok_first_holding {P : Program} {w : World} {K : PySem.W.Frag} {mg : Str → Option Value} {base : Heap} (T : Txt K mg) (B : TBs T base w P) : FnOk P w K mg base CX0 19 T.f_first_holding T.fd_first_holding ["kind", "one", "relation", "other", "first", "last"] (sp_first_holding K T.C_Kind T.C_Walk T.C_InvalidBound T.tabs) := by
  have G__check := ok__check (P := P) (w := w) (base := base) T B
  have G__first_holding := ok__first_holding (P := P) (w := w) (base := base) T B
  refine T.F_first_holding.ok sc_first_holding (fun vs H Q E h => ?_) (fun cdv A outer s H vs Q E hr h => ?_)
  · obtain ⟨kp, l1, z, l2, first, last, a, b, c, d, wd, s, rfl, _⟩ := h
    rfl
  · obtain ⟨kp, l1, z, l2, first, last, a, b, c, d, wd, s, rfl, h⟩ := h
    have hr__check : Room 5 _ := hr.mono (by decide)
    have hr__first_holding : Room 18 _ := hr.mono (by decide)
    refine ⟨_, (pss_cons (ps_expr (pe_call G__check hr__check rfl T.g__check T.k__check T.b__check .nil pass0 (pa_cons (pv 0 (hv := Or.inl rfl)) (pa_cons (pv 1 (hv := Or.inl rfl)) (pa_cons (pv 2 (hv := Or.inl rfl)) (pa_cons (pv 3 (hv := Or.inl rfl)) (pa_cons (pv 4 (hv := Or.inl rfl)) (pa_cons (pv 5 (hv := Or.inl rfl)) pa_nil))))))))
      (pss_one (ps_ret (pe_call G__first_holding hr__first_holding rfl T.g__first_holding T.k__first_holding T.b__first_holding .nil pass0 (pa_cons (pv 0 (hv := Or.inl rfl)) (pa_cons (pv 1 (hv := Or.inl rfl)) (pa_cons (pv 2 (hv := Or.inl rfl)) (pa_cons (pv 3 (hv := Or.inl rfl)) (pa_cons (pv 4 (hv := Or.inl rfl)) (pa_cons (pv 5 (hv := Or.inl rfl)) pa_nil)))))))))), ?_⟩
    try dsimp only [cxOf, Cx.nox, Cx.wish, Cx.blk]
    rw [show L2.start ["kind", "one", "relation", "other", "first", "last"] [.ref kp, .ref l1, .str z, .ref l2, .int first, .int last] = [some (.ref kp), some (.ref l1), some (.str z), some (.ref l2), some (.int first), some (.int last)] from rfl]
    obtain ⟨hk, h1, h2, sa, sb, sc, sd, hz, sf, sl, hT, k⟩ := h
    walk_at "rd"
    refine ⟨kp, l1, z, l2, first, last, rfl, ⟨wd, s, hk⟩, ⟨a, b, c, d, h1, h2, sa, sb, sc, sd⟩, hz, sf, sl, ?_⟩
    walk_at "rd"
    exact ⟨kp, l1, z, l2, first, last, a, b, c, d, wd, s, rfl, hk, h1, h2, sa, sb, sc, sd, hz, sf.bb, sl.bb, hT, k⟩
def sp_last_holding (K : PySem.W.Frag) (C : Addr) (C_Walk : Addr) (C_InvalidBound : Addr) (TS : List (Addr × Str)) : Sp := fun vs H Q _ => ∃ (kp l1 : Addr) (z : Str) (l2 : Addr) (first last : Int) (a b c d : Int) (wd : Nat) (s : Bool), vs = [.ref kp, .ref l1, .str z, .ref l2, .int first, .int last] ∧ Kd C H kp wd s ∧ H l1 = some (.tup [.int a, .int b]) ∧ H l2 = some (.tup [.int c, .int d]) ∧ SD a ∧ SD b ∧ SD c ∧ SD d ∧ Rel z ∧ SD first ∧ SD last ∧ LamX.Tabs TS H ∧ ∀ v H', LastOf (cmP wd s z a b c d) first last v → Sm TS H H' → Q v H'
theorem ok_last_holding {P : Program} {w : World} {K : PySem.W.Frag} {mg : Str → Option Value} {base : Heap} (T : Txt K mg) (B : TBs T base w P) : FnOk P w K mg base CX0 18 T.f_last_holding T.fd_last_holding ["kind", "one", "relation", "other", "first", "last"] (sp_last_holding K T.C_Kind T.C_Walk T.C_InvalidBound T.tabs) := by
  have G__check := ok__check (P := P) (w := w) (base := base) T B
  have G__holding := ok__holding (P := P) (w := w) (base := base) T B
  have G__total := ok__total (P := P) (w := w) (base := base) T B
  refine T.F_last_holding.ok sc_last_holding (fun vs H Q E h => ?_) (fun cdv A outer s H vs Q E hr h => ?_)
  · obtain ⟨kp, l1, z, l2, first, last, a, b, c, d, wd, s, rfl, _⟩ := h
    rfl
  · obtain ⟨kp, l1, z, l2, first, last, a, b, c, d, wd, s, rfl, h⟩ := h
    have hr__check : Room 5 _ := hr.mono (by decide)
    have hr__holding : Room 17 _ := hr.mono (by decide)
    have hr__total : Room 4 _ := hr.mono (by decide)
    refine ⟨_, (pss_cons (ps_expr (pe_call G__check hr__check rfl T.g__check T.k__check T.b__check .nil pass0 (pa_cons (pv 0 (hv := Or.inl rfl)) (pa_cons (pv 1 (hv := Or.inl rfl)) (pa_cons (pv 2 (hv := Or.inl rfl)) (pa_cons (pv 3 (hv := Or.inl rfl)) (pa_cons (pv 4 (hv := Or.inl rfl)) (pa_cons (pv 5 (hv := Or.inl rfl)) pa_nil))))))))
      (pss_cons (ps_set (i := 6) sc_last_holding.nd rfl (Or.inl rfl) (pe_call G__total hr__total rfl T.g__total T.k__total T.b__total .nil pass0 (pa_cons (pv 0 (hv := Or.inl rfl)) (pa_cons (pv 1 (hv := Or.inl rfl)) (pa_cons (pv 2 (hv := Or.inl rfl)) (pa_cons (pv 3 (hv := Or.inl rfl)) (pa_cons (pv 4 (hv := Or.inl rfl)) (pa_cons (pv 5 (hv := Or.inl rfl)) pa_nil))))))))
      (pss_one (ps_ret (pe_ifExp (pt_cmpR op_eq (pv 6 (hv := Or.inl rfl)) pe_int (nomark _)) pe_non (pe_call G__holding hr__holding rfl T.g__holding T.k__holding T.b__holding .nil pass0 (pa_cons (pv 0 (hv := Or.inl rfl)) (pa_cons (pv 1 (hv := Or.inl rfl)) (pa_cons (pv 2 (hv := Or.inl rfl)) (pa_cons (pv 3 (hv := Or.inl rfl)) (pa_cons (pv 4 (hv := Or.inl rfl)) (pa_cons (pv 5 (hv := Or.inl rfl)) (pa_cons (pv 6 (hv := Or.inl rfl)) (pa_cons (pe_op op_sub (pv 6 (hv := Or.inl rfl)) pe_int) pa_nil)))))))))))))), ?_⟩
    try dsimp only [cxOf, Cx.nox, Cx.wish, Cx.blk]
    rw [show L2.start ["kind", "one", "relation", "other", "first", "last", "total"] [.ref kp, .ref l1, .str z, .ref l2, .int first, .int last] = [some (.ref kp), some (.ref l1), some (.str z), some (.ref l2), some (.int first), some (.int last), none] from rfl]
    obtain ⟨hk, h1, h2, sa, sb, sc, sd, hz, sf, sl, hT, k⟩ := h
    have bf := sf.bb
    have bl := sl.bb
    walk_at "rd"
    refine ⟨kp, l1, z, l2, first, last, rfl, ⟨wd, s, hk⟩, ⟨a, b, c, d, h1, h2, sa, sb, sc, sd⟩, hz, sf, sl, ?_⟩
    walk_at "rd"
    refine ⟨kp, l1, z, l2, first, last, a, b, c, d, wd, s, rfl, hk, h1, h2, sa, sb, sc, sd, hz, bf, bl, fun H1 s1 => ?_⟩
    walk_at "rd"
    have tn := tot_nonneg (cmP wd s z a b c d) first last
    refine w_if ?_
    walk_at "rd"
    refine w_dec (fun c0 => ?_) (fun c0 => ?_)
    · walk_at "rd"
      exact k _ _ (.inl ⟨rfl, c0⟩) (Sm.of s1)
    · walk_at "rd"
      refine ⟨kp, l1, z, l2, first, last, tot (cmP wd s z a b c d) first last - 1, a, b, c, d, wd, s, rfl, hk.same s1, s1 _ _ h1, s1 _ _ h2, sa, sb, sc, sd, hz, bf, bl, (Sm.of s1).2 hT, by omega, by omega, fun x H2 hx s2 => k _ _ (.inr ⟨x, rfl, hx.1, hx.2.1, hx.2.2.1, ?_⟩) ((Sm.of s1).trans s2)⟩
      obtain ⟨x1, x2, x3, x4⟩ := hx
      have e1 := tot_split (cmP wd s z a b c d) (first := first) (mid := x) (last := last) (by omega) x2
      have e2 := tot_step (cmP wd s z a b c d) x1
      rw [if_pos x3] at e2
      omega
def sp_holding_at (K : PySem.W.Frag) (C : Addr) (C_Walk : Addr) (C_InvalidBound : Addr) (TS : List (Addr × Str)) : Sp := fun vs H Q _ => ∃ (kp l1 : Addr) (z : Str) (l2 : Addr) (first last j : Int) (a b c d : Int) (wd : Nat) (s : Bool), vs = [.ref kp, .ref l1, .str z, .ref l2, .int first, .int last, .int j] ∧ Kd C H kp wd s ∧ H l1 = some (.tup [.int a, .int b]) ∧ H l2 = some (.tup [.int c, .int d]) ∧ SD a ∧ SD b ∧ SD c ∧ SD d ∧ Rel z ∧ SD first ∧ SD last ∧ LamX.Tabs TS H ∧ 0 ≤ j ∧ j < tot (cmP wd s z a b c d) first last ∧ ∀ x H', AtOf (cmP wd s z a b c d) first last j x → Sm TS H H' → Q (.int x) H'
theorem ok_holding_at {P : Program} {w : World} {K : PySem.W.Frag} {mg : Str → Option Value} {base : Heap} (T : Txt K mg) (B : TBs T base w P) : FnOk P w K mg base CX0 18 T.f_holding_at T.fd_holding_at ["kind", "one", "relation", "other", "first", "last", "j"] (sp_holding_at K T.C_Kind T.C_Walk T.C_InvalidBound T.tabs) := by
  have G__check := ok__check (P := P) (w := w) (base := base) T B
  have G__holding := ok__holding (P := P) (w := w) (base := base) T B
  have G__total := ok__total (P := P) (w := w) (base := base) T B
  have G_check_number := ok_check_number (P := P) (w := w) (base := base) T B
  refine T.F_holding_at.ok sc_holding_at (fun vs H Q E h => ?_) (fun cdv A outer s H vs Q E hr h => ?_)
  · obtain ⟨kp, l1, z, l2, first, last, j, a, b, c, d, wd, s, rfl, _⟩ := h
    rfl
  · obtain ⟨kp, l1, z, l2, first, last, j, a, b, c, d, wd, s, rfl, h⟩ := h
    have hr__check : Room 5 _ := hr.mono (by decide)
    have hr__holding : Room 17 _ := hr.mono (by decide)
    have hr__total : Room 4 _ := hr.mono (by decide)
    have hr_check_number : Room 3 _ := hr.mono (by decide)
    refine ⟨_, (pss_cons (ps_expr (pe_call G__check hr__check rfl T.g__check T.k__check T.b__check .nil pass0 (pa_cons (pv 0 (hv := Or.inl rfl)) (pa_cons (pv 1 (hv := Or.inl rfl)) (pa_cons (pv 2 (hv := Or.inl rfl)) (pa_cons (pv 3 (hv := Or.inl rfl)) (pa_cons (pv 4 (hv := Or.inl rfl)) (pa_cons (pv 5 (hv := Or.inl rfl)) pa_nil))))))))
      (pss_cons (ps_set (i := 7) sc_holding_at.nd rfl (Or.inl rfl) (pe_call G__total hr__total rfl T.g__total T.k__total T.b__total .nil pass0 (pa_cons (pv 0 (hv := Or.inl rfl)) (pa_cons (pv 1 (hv := Or.inl rfl)) (pa_cons (pv 2 (hv := Or.inl rfl)) (pa_cons (pv 3 (hv := Or.inl rfl)) (pa_cons (pv 4 (hv := Or.inl rfl)) (pa_cons (pv 5 (hv := Or.inl rfl)) pa_nil))))))))
      (pss_cons (ps_expr (pe_call G_check_number hr_check_number rfl T.g_check_number T.k_check_number T.b_check_number .nil pass0 (pa_cons (pv 6 (hv := Or.inl rfl)) (pa_cons (pv 7 (hv := Or.inl rfl)) pa_nil))))
      (pss_one (ps_ret (pe_call G__holding hr__holding rfl T.g__holding T.k__holding T.b__holding .nil pass0 (pa_cons (pv 0 (hv := Or.inl rfl)) (pa_cons (pv 1 (hv := Or.inl rfl)) (pa_cons (pv 2 (hv := Or.inl rfl)) (pa_cons (pv 3 (hv := Or.inl rfl)) (pa_cons (pv 4 (hv := Or.inl rfl)) (pa_cons (pv 5 (hv := Or.inl rfl)) (pa_cons (pv 7 (hv := Or.inl rfl)) (pa_cons (pv 6 (hv := Or.inl rfl)) pa_nil)))))))))))))), ?_⟩
    try dsimp only [cxOf, Cx.nox, Cx.wish, Cx.blk]
    rw [show L2.start ["kind", "one", "relation", "other", "first", "last", "j", "total"] [.ref kp, .ref l1, .str z, .ref l2, .int first, .int last, .int j] = [some (.ref kp), some (.ref l1), some (.str z), some (.ref l2), some (.int first), some (.int last), some (.int j), none] from rfl]
    obtain ⟨hk, h1, h2, sa, sb, sc, sd, hz, sf, sl, hT, j0, j1, k⟩ := h
    have bf := sf.bb
    have bl := sl.bb
    walk_at "rd"
    refine ⟨kp, l1, z, l2, first, last, rfl, ⟨wd, s, hk⟩, ⟨a, b, c, d, h1, h2, sa, sb, sc, sd⟩, hz, sf, sl, ?_⟩
    walk_at "rd"
    refine ⟨kp, l1, z, l2, first, last, a, b, c, d, wd, s, rfl, hk, h1, h2, sa, sb, sc, sd, hz, bf, bl, fun H1 s1 => ?_⟩
    walk_at "rd"
    have tn := tot_nonneg (cmP wd s z a b c d) first last
    refine ⟨j, _, rfl, j0, j1, ?_⟩
    walk_at "rd"
    exact ⟨kp, l1, z, l2, first, last, j, a, b, c, d, wd, s, rfl, hk.same s1, s1 _ _ h1, s1 _ _ h2, sa, sb, sc, sd, hz, bf, bl, (Sm.of s1).2 hT, j0, j1, fun x H2 hx s2 => k _ _ hx ((Sm.of s1).trans s2)⟩
def spX_holding_at (K : PySem.W.Frag) (C : Addr) (C_Walk : Addr) (C_InvalidBound : Addr) (TS : List (Addr × Str)) : Sp := fun vs H Q E => ∃ (kp l1 : Addr) (z : Str) (l2 : Addr) (first last j : Int) (a b c d : Int) (wd : Nat) (s : Bool), vs = [.ref kp, .ref l1, .str z, .ref l2, .int first, .int last, .int j] ∧ Kd C H kp wd s ∧ H l1 = some (.tup [.int a, .int b]) ∧ H l2 = some (.tup [.int c, .int d]) ∧ SD a ∧ SD b ∧ SD c ∧ SD d ∧ Rel z ∧ SD first ∧ SD last ∧ ¬ (0 ≤ j ∧ j < tot (cmP wd s z a b c d) first last) ∧ ∀ d' H', Same H H' → H' d' = some (.xd [("argument", .str "j")]) → E (.ref C_InvalidBound) (some d') H'
theorem okX_holding_at {P : Program} {w : World} {K : PySem.W.Frag} {mg : Str → Option Value} {base : Heap} (T : Txt K mg) (B : TBs T base w P) : FnOk P w K mg base (L2.CX P w) 18 T.f_holding_at T.fd_holding_at ["kind", "one", "relation", "other", "first", "last", "j"] (spX_holding_at K T.C_Kind T.C_Walk T.C_InvalidBound T.tabs) := by
  have G__check := ok__check (P := P) (w := w) (base := base) T B
  have G__total := ok__total (P := P) (w := w) (base := base) T B
  have GX_check_number := okX_check_number (P := P) (w := w) (base := base) T B
  refine T.F_holding_at.okX sc_holding_at (fun vs H Q E h => ?_) (fun cdv A outer s H vs Q E hr h => ?_)
  · obtain ⟨kp, l1, z, l2, first, last, j, a, b, c, d, wd, s, rfl, _⟩ := h
    rfl
  · obtain ⟨kp, l1, z, l2, first, last, j, a, b, c, d, wd, s, rfl, h⟩ := h
    have hr__check : Room 5 _ := hr.mono (by decide)
    have hr__total : Room 4 _ := hr.mono (by decide)
    have hrX_check_number : Room 3 _ := hr.mono (by decide)
    refine ⟨_, (pss_cons (ps_expr (pe_call G__check hr__check rfl T.g__check T.k__check T.b__check .nil pass0 (pa_cons (pv 0 (hv := Or.inl rfl)) (pa_cons (pv 1 (hv := Or.inl rfl)) (pa_cons (pv 2 (hv := Or.inl rfl)) (pa_cons (pv 3 (hv := Or.inl rfl)) (pa_cons (pv 4 (hv := Or.inl rfl)) (pa_cons (pv 5 (hv := Or.inl rfl)) pa_nil))))))))
      (pss_cons (ps_set (i := 7) sc_holding_at.nd rfl (Or.inl rfl) (pe_call G__total hr__total rfl T.g__total T.k__total T.b__total .nil pass0 (pa_cons (pv 0 (hv := Or.inl rfl)) (pa_cons (pv 1 (hv := Or.inl rfl)) (pa_cons (pv 2 (hv := Or.inl rfl)) (pa_cons (pv 3 (hv := Or.inl rfl)) (pa_cons (pv 4 (hv := Or.inl rfl)) (pa_cons (pv 5 (hv := Or.inl rfl)) pa_nil))))))))
      (pss_cons (ps_expr (pe_call GX_check_number hrX_check_number rfl T.g_check_number T.k_check_number T.b_check_number .nil (passes_call (takes_of rfl rfl rfl rfl) fun _ _ _ _ h => h) (pa_cons (pv 6 (hv := Or.inl rfl)) (pa_cons (pv 7 (hv := Or.inl rfl)) pa_nil))))
      (pss_one ps_never)))), ?_⟩
    try dsimp only [cxOf, Cx.nox, Cx.wish, Cx.blk]
    rw [show L2.start ["kind", "one", "relation", "other", "first", "last", "j", "total"] [.ref kp, .ref l1, .str z, .ref l2, .int first, .int last, .int j] = [some (.ref kp), some (.ref l1), some (.str z), some (.ref l2), some (.int first), some (.int last), some (.int j), none] from rfl]
    obtain ⟨hk, h1, h2, sa, sb, sc, sd, hz, sf, sl, nj, k⟩ := h
    have bf := sf.bb
    have bl := sl.bb
    walk_at "rd"
    refine ⟨kp, l1, z, l2, first, last, rfl, ⟨wd, s, hk⟩, ⟨a, b, c, d, h1, h2, sa, sb, sc, sd⟩, hz, sf, sl, ?_⟩
    walk_at "rd"
    refine ⟨kp, l1, z, l2, first, last, a, b, c, d, wd, s, rfl, hk, h1, h2, sa, sb, sc, sd, hz, bf, bl, fun H1 s1 => ?_⟩
    walk_at "rd"
    have tn := tot_nonneg (cmP wd s z a b c d) first last
    refine ⟨j, _, rfl, nj, fun d' hd' => ?_⟩
    exact k d' _ (sm_new s1 hd') upd_same
def sp__ordered_parts (K : PySem.W.Frag) (C : Addr) (C_Walk : Addr) (C_InvalidBound : Addr) (TS : List (Addr × Str)) : Sp := fun vs H Q _ => ∃ (l1 l2 : Addr) (first last : Int) (a b c d : Int), vs = [.ref l1, .ref l2, .int first, .int last] ∧ H l1 = some (.tup [.int a, .int b]) ∧ H l2 = some (.tup [.int c, .int d]) ∧ SD a ∧ SD b ∧ SD c ∧ SD d ∧ SD first ∧ SD last ∧ ∀ (q : Addr) (H' : Hp) (ps : List (Addr × Int × Int)), Same H H' → H' q = some (.lst (ps.map fun r => V.ref r.1)) → (∀ r ∈ ps, H' r.1 = some (.tup [.int r.2.1, .int r.2.2])) → ps.length ≤ 3 → Parts a b c d first last (ps.map (·.2)) → PartsO first last (ps.map (·.2)) → Q (.ref q) H'
theorem ok__ordered_parts {P : Program} {w : World} {K : PySem.W.Frag} {mg : Str → Option Value} {base : Heap} (T : Txt K mg) (B : TBs T base w P) : FnOk P w K mg base CX0 2 T.f__ordered_parts T.fd__ordered_parts ["one", "other", "first", "last"] (sp__ordered_parts K T.C_Kind T.C_Walk T.C_InvalidBound T.tabs) := by
  have G__gap := ok__gap (P := P) (w := w) (base := base) T B
  refine T.F__ordered_parts.ok sc__ordered_parts (fun vs H Q E h => ?_) (fun cdv A outer s H vs Q E hr h => ?_)
  · obtain ⟨l1, l2, first, last, a, b, c, d, rfl, _⟩ := h
    rfl
  · obtain ⟨l1, l2, first, last, a, b, c, d, rfl, h⟩ := h
    have hr__gap : Room 1 _ := hr.mono (by decide)
    refine ⟨_, (pss_cons (ps_asg (pe_call G__gap hr__gap rfl T.g__gap T.k__gap T.b__gap .nil pass0 (pa_cons (pv 0 (hv := Or.inl rfl)) (pa_cons (pv 1 (hv := Or.inl rfl)) pa_nil))) (pg_tup rfl (pgs_cons (pg_name (i := 4) sc__ordered_parts.nd rfl (Or.inl rfl)) (pgs_cons (pg_name (i := 5) sc__ordered_parts.nd rfl (Or.inl rfl)) pgs_nil))))
      (pss_cons (ps_if (pt_cmpR op_eq (pv 4 (hv := Or.inl rfl)) pe_int (nomark _)) (pss_one (ps_ret (pe_lst (pa_cons (pe_tup (pa_cons (pv 2 (hv := Or.inl rfl)) (pa_cons (pv 3 (hv := Or.inl rfl)) pa_nil))) pa_nil)))) pss_nil)
      (pss_cons (ps_set (i := 6) sc__ordered_parts.nd rfl (Or.inl rfl) (pe_op op_fdivNW (pe_un un_neg (pv 5 (hv := Or.inl rfl))) (pv 4 (hv := Or.inl rfl))))
      (pss_one (ps_ret (pe_lst (pa_cons (pe_tup (pa_cons (pv 2 (hv := Or.inl rfl)) (pa_cons (pe_callB (id := "min") (r := rmin2C) (call_min2 rfl) (by rfl) T.n_min (by decide +kernel) (pa_cons (pv 3 (hv := Or.inl rfl)) (pa_cons (pe_op op_sub (pv 6 (hv := Or.inl rfl)) pe_int) pa_nil))) pa_nil))) (pa_cons (pe_tup (pa_cons (pe_callB (id := "max") (r := rmax2C) (call_max2 rfl) (by rfl) T.n_max (by decide +kernel) (pa_cons (pv 2 (hv := Or.inl rfl)) (pa_cons (pv 6 (hv := Or.inl rfl)) pa_nil))) (pa_cons (pe_callB (id := "min") (r := rmin2C) (call_min2 rfl) (by rfl) T.n_min (by decide +kernel) (pa_cons (pv 3 (hv := Or.inl rfl)) (pa_cons (pv 6 (hv := Or.inl rfl)) pa_nil))) pa_nil))) (pa_cons (pe_tup (pa_cons (pe_callB (id := "max") (r := rmax2C) (call_max2 rfl) (by rfl) T.n_max (by decide +kernel) (pa_cons (pv 2 (hv := Or.inl rfl)) (pa_cons (pe_op op_add (pv 6 (hv := Or.inl rfl)) pe_int) pa_nil))) (pa_cons (pv 3 (hv := Or.inl rfl)) pa_nil))) pa_nil))))))))), ?_⟩
    try dsimp only [cxOf, Cx.nox, Cx.wish, Cx.blk]
    rw [show L2.start ["one", "other", "first", "last", "slope", "above", "crossing"] [.ref l1, .ref l2, .int first, .int last] = [some (.ref l1), some (.ref l2), some (.int first), some (.int last), none, none, none] from rfl]
    obtain ⟨h1, h2, sa, sb, sc, sd, sf, sl, k⟩ := h
    walk_at "rd"
    refine ⟨l1, l2, a, b, c, d, rfl, h1, h2, fun t ht => ?_⟩
    have ht' : (L2.upd H t (.tup [.int (a - c), .int (b - d)])) t = some (.tup [.int (a - c), .int (b - d)]) := upd_same
    walk_at "rd"
    refine w_dec (fun c0 => ?_) (fun c0 => ?_)
    · walk_at "rd"
      refine ⟨by show 2 ≤ sizeLine; decide, fun t1 ht1 => ?_⟩
      walk_at "rd"
      refine ⟨by show 1 ≤ sizeLine; decide, fun q hq => ?_⟩
      refine k q _ [(t1, first, last)] (sm_new (sm_new (sm_new (Same.refl H) ht) ht1) hq) upd_same (fun r hr => ?_) (by simp) (parts1 c0 sf.bb sl.bb) (partso1 _ _)
      rw [List.mem_singleton.mp hr]
      exact gn upd_same hq
    · walk_at "rd"
      have hb : BB (a - c) := by
        have p10 : (10 : Int) ^ 60 * 4 < 10 ^ 62 := by decide +kernel
        obtain ⟨a1, a2⟩ := sa
        obtain ⟨c1, c2⟩ := sc
        exact bb_ten (by omega) (by omega)
      refine w_I (divnw c0 hb) ?_
      walk_at "rd"
      refine w_min2 ?_
      walk_at "rd"
      refine ⟨by show 2 ≤ sizeLine; decide, fun t1 ht1 => ?_⟩
      walk_at "rd"
      refine w_max2 ?_
      walk_at "rd"
      refine w_min2 ?_
      walk_at "rd"
      refine ⟨by show 2 ≤ sizeLine; decide, fun t2 ht2 => ?_⟩
      walk_at "rd"
      refine w_max2 ?_
      walk_at "rd"
      refine ⟨by show 2 ≤ sizeLine; decide, fun t3 ht3 => ?_⟩
      walk_at "rd"
      refine ⟨by show 3 ≤ sizeLine; decide, fun q hq => ?_⟩
      refine k q _ [(t1, first, min last ((-(b - d)).fdiv (a - c) - 1)), (t2, max first ((-(b - d)).fdiv (a - c)), min last ((-(b - d)).fdiv (a - c))), (t3, max first ((-(b - d)).fdiv (a - c) + 1), last)] (sm_new (sm_new (sm_new (sm_new (sm_new (Same.refl H) ht) ht1) ht2) ht3) hq) upd_same (fun r hr => ?_) (by simp) (parts3 c0 sb sd sf sl) (partso3 _ _ _)
      rcases List.mem_cons.mp hr with rfl | hr
      · exact gn (gn (gn upd_same ht2) ht3) hq
      · rcases List.mem_cons.mp hr with rfl | hr
        · exact gn (gn upd_same ht3) hq
        · rw [List.mem_singleton.mp hr]
          exact gn upd_same hq
def sp__surprising_parts (K : PySem.W.Frag) (C : Addr) (C_Walk : Addr) (C_InvalidBound : Addr) (TS : List (Addr × Str)) : Sp := fun vs H Q _ => ∃ (l1 : Addr) (z : Str) (l2 : Addr) (first last : Int) (a b c d : Int), vs = [.ref l1, .str z, .ref l2, .int first, .int last] ∧ H l1 = some (.tup [.int a, .int b]) ∧ H l2 = some (.tup [.int c, .int d]) ∧ SD a ∧ SD b ∧ SD c ∧ SD d ∧ Rel z ∧ SD first ∧ SD last ∧ ∀ (q : Addr) (H' : Hp) (ps : List (Addr × Int × Int × Str)), Same H H' → H' q = some (.lst (ps.map fun r => V.ref r.1)) → (∀ r ∈ ps, H' r.1 = some (.tup [.int r.2.1, .int r.2.2.1, .str r.2.2.2])) → ps.length ≤ 3 → PartsW z a b c d first last (ps.map (·.2)) → Q (.ref q) H'
theorem ok__surprising_parts {P : Program} {w : World} {K : PySem.W.Frag} {mg : Str → Option Value} {base : Heap} (T : Txt K mg) (B : TBs T base w P) : FnOk P w K mg base CX0 3 T.f__surprising_parts T.fd__surprising_parts ["one", "relation", "other", "first", "last"] (sp__surprising_parts K T.C_Kind T.C_Walk T.C_InvalidBound T.tabs) := by
  have G__ordered_parts := ok__ordered_parts (P := P) (w := w) (base := base) T B
  have G_exact_at := ok_exact_at (P := P) (w := w) (base := base) T B
  have G_opposite := ok_opposite (P := P) (w := w) (base := base) T B
  have G_stands := ok_stands (P := P) (w := w) (base := base) T B
  refine T.F__surprising_parts.ok sc__surprising_parts (fun vs H Q E h => ?_) (fun cdv A outer s H vs Q E hr h => ?_)
  · obtain ⟨l1, z, l2, first, last, a, b, c, d, rfl, _⟩ := h
    rfl
  · obtain ⟨l1, z, l2, first, last, a, b, c, d, rfl, h⟩ := h
    have hr__ordered_parts : Room 2 _ := hr.mono (by decide)
    have hr_exact_at : Room 1 _ := hr.mono (by decide)
    have hr_opposite : Room 1 _ := hr.mono (by decide)
    have hr_stands : Room 1 _ := hr.mono (by decide)
    refine ⟨_, (pss_one (ps_ret (pe_lc (own := [("start", 5), ("end", 6)]) (g := gTup K 2 (gCons (gName 5) (gCons (gName 6) gNil))) (tt := tYes) (by rfl) sc__surprising_parts.nd (pi_list (pe_call G__ordered_parts hr__ordered_parts rfl T.g__ordered_parts T.k__ordered_parts T.b__ordered_parts .nil pass0 (pa_cons (pv 0 (hv := Or.inr (Or.inl rfl))) (pa_cons (pv 2 (hv := Or.inr (Or.inl rfl))) (pa_cons (pv 3 (hv := Or.inl rfl)) (pa_cons (pv 4 (hv := Or.inl rfl)) pa_nil)))))) (blkOk_by (own := [("start", 5), ("end", 6)]) (N := ["one", "relation", "other", "first", "last", "start", "end"]) (sc := defScope s__surprising_parts) (by decide +kernel)) (fun _ _ _ _ _ => (pg_tup rfl (pgs_cons (pg_name (i := 5) sc__surprising_parts.nd rfl (Or.inl rfl)) (pgs_cons (pg_name (i := 6) sc__surprising_parts.nd rfl (Or.inl rfl)) pgs_nil)))) (fun _ _ _ _ _ => pts_nil) (fun _ _ _ _ _ => (pe_tup (pa_cons (pv 5 (hv := Or.inl rfl)) (pa_cons (pv 6 (hv := Or.inl rfl)) (pa_cons (pe_ifExp (pt_val (pe_call G_stands hr_stands rfl T.g_stands T.k_stands T.b_stands .nil pass0 (pa_cons (pe_call G_exact_at hr_exact_at rfl T.g_exact_at T.k_exact_at T.b_exact_at .nil pass0 (pa_cons (pv 0 (hv := Or.inr (Or.inl rfl))) (pa_cons (pv 5 (hv := Or.inl rfl)) pa_nil))) (pa_cons (pv 1 (hv := Or.inr (Or.inl rfl))) (pa_cons (pe_call G_exact_at hr_exact_at rfl T.g_exact_at T.k_exact_at T.b_exact_at .nil pass0 (pa_cons (pv 2 (hv := Or.inr (Or.inl rfl))) (pa_cons (pv 5 (hv := Or.inl rfl)) pa_nil))) pa_nil))))) (pe_call G_opposite hr_opposite rfl T.g_opposite T.k_opposite T.b_opposite .nil pass0 (pa_cons (pv 1 (hv := Or.inr (Or.inl rfl))) pa_nil)) (pv 1 (hv := Or.inr (Or.inl rfl)))) pa_nil)))))))), ?_⟩
    try dsimp only [cxOf, Cx.nox, Cx.wish, Cx.blk]
    rw [show L2.start ["one", "relation", "other", "first", "last", "start", "end"] [.ref l1, .str z, .ref l2, .int first, .int last] = [some (.ref l1), some (.str z), some (.ref l2), some (.int first), some (.int last), none, none] from rfl]
    obtain ⟨h1, h2, sa, sb, sc, sd, hz, sf, sl, k⟩ := h
    walk_at "rd"
    refine ⟨l1, l2, first, last, a, b, c, d, rfl, h1, h2, sa, sb, sc, sd, sf, sl, fun q H1 ps s1 hq hps n3 PT PO => ?_⟩
    walk_at "rd"
    refine ⟨⟨_, SqL.of hq⟩, fun D hD => lc_list (K := K) (a := q) (xs := ps.map fun r => V.ref r.1) (fun i H' => ∃ rs : List (Addr × Int × Int × Str), Same H1 H' ∧ H' D = some (.lst (rs.map fun r => V.ref r.1)) ∧ (∀ r ∈ rs, H' r.1 = some (.tup [.int r.2.1, .int r.2.2.1, .str r.2.2.2])) ∧ rs.map (·.2) = (ps.take i).map fun r => (r.2.1, r.2.2, if relB z (a * r.2.1 + b) (c * r.2.1 + d) = true then opp z else z)) ⟨[], sm_new (Same.refl H1) hD, upd_same, (fun r hr => by cases hr), rfl⟩ (fun i H' _ p => by obtain ⟨rs, p, _⟩ := p; exact SqL.of (p _ _ hq)) ?_ ?_⟩
    · rintro i x H' hi ⟨rs, s2, hd, hrs, ers⟩
      obtain ⟨r, hr, rfl⟩ := map_get hi
      have rm := List.mem_of_getElem? hr
      have s12 := s1.trans s2
      have hrt := s2 _ _ (hps r rm)
      obtain ⟨br1, br2⟩ := PT.bb r.2 (List.mem_map.mpr ⟨r, rm, rfl⟩)
      have ln : rs.length ≤ 3 := by
        have := congrArg List.length ers
        rw [List.length_map, List.length_map, List.length_take] at this
        omega
      walk_at "rd"
      refine ⟨rfl, ?_⟩
      walk_at "rd"
      refine iteT ?_
      walk_at "rd"
      refine w_if ?_
      walk_at "rd"
      refine ⟨l1, a, b, r.2.1, rfl, s12 _ _ h1, sa.bb, br1, ?_⟩
      walk_at "rd"
      refine ⟨l2, c, d, r.2.1, rfl, s12 _ _ h2, sc.bb, br1, ?_⟩
      walk_at "rd"
      refine ⟨_, z, _, rfl, hz, ?_⟩
      walk_at "rd"
      have fin : ∀ (w' : Str) (t : Addr), H' t = none → w' = (if relB z (a * r.2.1 + b) (c * r.2.1 + d) = true then opp z else z) → ∃ rs' : List (Addr × Int × Int × Str), Same H1 (L2.upd (L2.upd H' t (.tup [.int r.2.1, .int r.2.2, .str w'])) D (.lst (rs.map (fun r => V.ref r.1) ++ [.ref t]))) ∧ (L2.upd (L2.upd H' t (.tup [.int r.2.1, .int r.2.2, .str w'])) D (.lst (rs.map (fun r => V.ref r.1) ++ [.ref t]))) D = some (.lst (rs'.map fun r => V.ref r.1)) ∧ (∀ q ∈ rs', (L2.upd (L2.upd H' t (.tup [.int r.2.1, .int r.2.2, .str w'])) D (.lst (rs.map (fun r => V.ref r.1) ++ [.ref t]))) q.1 = some (.tup [.int q.2.1, .int q.2.2.1, .str q.2.2.2])) ∧ rs'.map (·.2) = (ps.take (i + 1)).map fun r => (r.2.1, r.2.2, if relB z (a * r.2.1 + b) (c * r.2.1 + d) = true then opp z else z) := by
        intro w' t ht ew
        have nt : t ≠ D := (ne_of_none hd ht).symm
        refine ⟨rs ++ [(t, r.2.1, r.2.2, w')], sm_mut (sm_new s2 ht) hD, by rw [upd_same, List.map_append]; rfl, fun q hq => ?_, ?_⟩
        · rcases List.mem_append.mp hq with hq | hq
          · have z1 := hrs q hq
            rw [upd_ne (ne_of z1 hd (by intro y; cases y))]
            exact gn z1 ht
          · rw [List.mem_singleton.mp hq]
            rw [upd_ne nt]
            exact upd_same
        · rw [tk_more hr, List.map_append, List.map_append, ers, ew]
          rfl
      cases he : relB z (a * r.2.1 + b) (c * r.2.1 + d) with
      | true =>
        rw [he, if_pos rfl] at fin
        refine iteT ?_
        walk_at "rd"
        refine ⟨z, rfl, hz, ?_⟩
        walk_at "rd"
        refine ⟨by show 3 ≤ sizeLine; decide, fun t ht => ?_⟩
        exact ⟨_, gn hd ht, by rw [List.length_map]; exact small1000 (by omega), fin _ t ht rfl⟩
      | false =>
        rw [he, if_neg Bool.false_ne_true] at fin
        refine iteF ?_
        walk_at "rd"
        refine ⟨by show 3 ≤ sizeLine; decide, fun t ht => ?_⟩
        exact ⟨_, gn hd ht, by rw [List.length_map]; exact small1000 (by omega), fin _ t ht rfl⟩
    · rintro H' ⟨rs, s2, hd, hrs, ers⟩
      rw [List.length_map, List.take_length] at ers
      refine k D H' rs (s1.trans s2) hd hrs ?_ ?_
      · have := congrArg List.length ers
        rw [List.length_map, List.length_map] at this
        omega
      · rw [ers]
        have e := PartsW.of hz PT PO
        rw [List.map_map] at e
        exact e
def sp_surprises (K : PySem.W.Frag) (C : Addr) (C_Walk : Addr) (C_InvalidBound : Addr) (TS : List (Addr × Str)) : Sp := fun vs H Q _ => ∃ (kp l1 : Addr) (z : Str) (l2 : Addr) (first last : Int) (a b c d : Int) (wd : Nat) (s : Bool), vs = [.ref kp, .ref l1, .str z, .ref l2, .int first, .int last] ∧ Kd C H kp wd s ∧ H l1 = some (.tup [.int a, .int b]) ∧ H l2 = some (.tup [.int c, .int d]) ∧ SD a ∧ SD b ∧ SD c ∧ SD d ∧ Rel z ∧ SD first ∧ SD last ∧ ∀ H', Same H H' → Q (.int (tot (suP wd s z a b c d) first last)) H'
theorem ok_surprises {P : Program} {w : World} {K : PySem.W.Frag} {mg : Str → Option Value} {base : Heap} (T : Txt K mg) (B : TBs T base w P) : FnOk P w K mg base CX0 6 T.f_surprises T.fd_surprises ["kind", "one", "relation", "other", "first", "last"] (sp_surprises K T.C_Kind T.C_Walk T.C_InvalidBound T.tabs) := by
  have G__check := ok__check (P := P) (w := w) (base := base) T B
  have G__surprising_parts := ok__surprising_parts (P := P) (w := w) (base := base) T B
  have G__total := ok__total (P := P) (w := w) (base := base) T B
  refine T.F_surprises.ok sc_surprises (fun vs H Q E h => ?_) (fun cdv A outer s H vs Q E hr h => ?_)
  · obtain ⟨kp, l1, z, l2, first, last, a, b, c, d, wd, s, rfl, _⟩ := h
    rfl
  · obtain ⟨kp, l1, z, l2, first, last, a, b, c, d, wd, s, rfl, h⟩ := h
    have hr__check : Room 5 _ := hr.mono (by decide)
    have hr__surprising_parts : Room 3 _ := hr.mono (by decide)
    have hr__total : Room 4 _ := hr.mono (by decide)
    refine ⟨_, (pss_cons (ps_expr (pe_call G__check hr__check rfl T.g__check T.k__check T.b__check .nil pass0 (pa_cons (pv 0 (hv := Or.inr (Or.inl rfl))) (pa_cons (pv 1 (hv := Or.inr (Or.inl rfl))) (pa_cons (pv 2 (hv := Or.inl rfl)) (pa_cons (pv 3 (hv := Or.inr (Or.inl rfl))) (pa_cons (pv 4 (hv := Or.inl rfl)) (pa_cons (pv 5 (hv := Or.inl rfl)) pa_nil))))))))
      (pss_cons (ps_set (i := 6) sc_surprises.nd rfl (Or.inl rfl) (pe_call G__surprising_parts hr__surprising_parts rfl T.g__surprising_parts T.k__surprising_parts T.b__surprising_parts .nil pass0 (pa_cons (pv 1 (hv := Or.inr (Or.inl rfl))) (pa_cons (pv 2 (hv := Or.inl rfl)) (pa_cons (pv 3 (hv := Or.inr (Or.inl rfl))) (pa_cons (pv 4 (hv := Or.inl rfl)) (pa_cons (pv 5 (hv := Or.inl rfl)) pa_nil)))))))
      (pss_one (ps_ret (pe_callB (id := "sum") (r := rSum K) (cr_sum rfl) (by rfl) T.n_sum (by decide +kernel) (pa_cons (pe_lc (own := [("start", 7), ("end", 8), ("wanted", 9)]) (g := gTup K 3 (gCons (gName 7) (gCons (gName 8) (gCons (gName 9) gNil)))) (tt := tYes) (by rfl) sc_surprises.nd (pi_list (pv 6 (hv := Or.inl rfl))) (blkOk_by (own := [("start", 7), ("end", 8), ("wanted", 9)]) (N := ["kind", "one", "relation", "other", "first", "last", "parts", "start", "end", "wanted"]) (sc := defScope s_surprises) (by decide +kernel)) (fun _ _ _ _ _ => (pg_tup rfl (pgs_cons (pg_name (i := 7) sc_surprises.nd rfl (Or.inl rfl)) (pgs_cons (pg_name (i := 8) sc_surprises.nd rfl (Or.inl rfl)) (pgs_cons (pg_name (i := 9) sc_surprises.nd rfl (Or.inl rfl)) pgs_nil))))) (fun _ _ _ _ _ => pts_nil) (fun _ _ _ _ _ => (pe_call G__total hr__total rfl T.g__total T.k__total T.b__total .nil pass0 (pa_cons (pv 0 (hv := Or.inr (Or.inl rfl))) (pa_cons (pv 1 (hv := Or.inr (Or.inl rfl))) (pa_cons (pv 9 (hv := Or.inl rfl)) (pa_cons (pv 3 (hv := Or.inr (Or.inl rfl))) (pa_cons (pv 7 (hv := Or.inl rfl)) (pa_cons (pv 8 (hv := Or.inl rfl)) pa_nil))))))))) pa_nil)))))), ?_⟩
    try dsimp only [cxOf, Cx.nox, Cx.wish, Cx.blk]
    rw [show L2.start ["kind", "one", "relation", "other", "first", "last", "parts", "start", "end", "wanted"] [.ref kp, .ref l1, .str z, .ref l2, .int first, .int last] = [some (.ref kp), some (.ref l1), some (.str z), some (.ref l2), some (.int first), some (.int last), none, none, none, none] from rfl]
    obtain ⟨hk, h1, h2, sa, sb, sc, sd, hz, sf, sl, k⟩ := h
    walk_at "rd"
    refine ⟨kp, l1, z, l2, first, last, rfl, ⟨wd, s, hk⟩, ⟨a, b, c, d, h1, h2, sa, sb, sc, sd⟩, hz, sf, sl, ?_⟩
    walk_at "rd"
    refine ⟨l1, z, l2, first, last, a, b, c, d, rfl, h1, h2, sa, sb, sc, sd, hz, sf, sl, fun q H1 ps s1 hq hps n3 PW => ?_⟩
    walk_at "rd"
    refine ⟨⟨_, SqL.of hq⟩, fun D hD => lc_list (K := K) (a := q) (xs := ps.map fun r => V.ref r.1) (fun i H' => Same H1 H' ∧ H' D = some (.lst ((((ps.take i).map (·.2)).map fun r => tot (cmP wd s r.2.2 a b c d) r.1 r.2.1).map V.int))) ⟨sm_new (Same.refl H1) hD, upd_same⟩ (fun i H' _ p => SqL.of (p.1 _ _ hq)) ?_ ?_⟩
    · rintro i x H' hi ⟨s2, hd⟩
      obtain ⟨r, hr, rfl⟩ := map_get hi
      have rm := List.mem_of_getElem? hr
      have s12 := s1.trans s2
      have hrt := s2 _ _ (hps r rm)
      obtain ⟨br1, br2⟩ := PW.bb r.2 (List.mem_map.mpr ⟨r, rm, rfl⟩)
      have hrz := PW.rel r.2 (List.mem_map.mpr ⟨r, rm, rfl⟩)
      walk_at "rd"
      refine ⟨rfl, ?_⟩
      walk_at "rd"
      refine iteT ?_
      walk_at "rd"
      refine ⟨kp, l1, r.2.2.2, l2, r.2.1, r.2.2.1, a, b, c, d, wd, s, rfl, hk.same s12, s12 _ _ h1, s12 _ _ h2, sa, sb, sc, sd, hrz, br1, br2, fun H3 s3 => ?_⟩
      refine ⟨_, s3 _ _ hd, by rw [List.length_map, List.length_map, List.length_map, List.length_take]; exact small1000 (by omega), sm_mut (s2.trans s3) hD, ?_⟩
      rw [upd_same, tk_more hr, List.map_append, List.map_append, List.map_append]
      rfl
    · rintro H' ⟨s2, hd⟩
      rw [List.length_map, List.take_length] at hd
      walk_at "rd"
      refine w_sum hd ?_
      have e := PW.total wd s
      rw [e]
      exact k _ (s1.trans s2)
def sp_first_surprise (K : PySem.W.Frag) (C : Addr) (C_Walk : Addr) (C_InvalidBound : Addr) (TS : List (Addr × Str)) : Sp := fun vs H Q _ => ∃ (kp l1 : Addr) (z : Str) (l2 : Addr) (first last : Int) (a b c d : Int) (wd : Nat) (s : Bool), vs = [.ref kp, .ref l1, .str z, .ref l2, .int first, .int last] ∧ Kd C H kp wd s ∧ H l1 = some (.tup [.int a, .int b]) ∧ H l2 = some (.tup [.int c, .int d]) ∧ SD a ∧ SD b ∧ SD c ∧ SD d ∧ Rel z ∧ SD first ∧ SD last ∧ LamX.Tabs TS H ∧ ∀ v H', FirstOf (suP wd s z a b c d) first last v → Sm TS H H' → Q v H'
theorem ok_first_surprise {P : Program} {w : World} {K : PySem.W.Frag} {mg : Str → Option Value} {base : Heap} (T : Txt K mg) (B : TBs T base w P) : FnOk P w K mg base CX0 19 T.f_first_surprise T.fd_first_surprise ["kind", "one", "relation", "other", "first", "last"] (sp_first_surprise K T.C_Kind T.C_Walk T.C_InvalidBound T.tabs) := by
  have G__check := ok__check (P := P) (w := w) (base := base) T B
  have G__first_holding := ok__first_holding (P := P) (w := w) (base := base) T B
  have G__surprising_parts := ok__surprising_parts (P := P) (w := w) (base := base) T B
  refine T.F_first_surprise.ok sc_first_surprise (fun vs H Q E h => ?_) (fun cdv A outer s H vs Q E hr h => ?_)
  · obtain ⟨kp, l1, z, l2, first, last, a, b, c, d, wd, s, rfl, _⟩ := h
    rfl
  · obtain ⟨kp, l1, z, l2, first, last, a, b, c, d, wd, s, rfl, h⟩ := h
    have hr__check : Room 5 _ := hr.mono (by decide)
    have hr__first_holding : Room 18 _ := hr.mono (by decide)
    have hr__surprising_parts : Room 3 _ := hr.mono (by decide)
    refine ⟨_, (pss_cons (ps_expr (pe_call G__check hr__check rfl T.g__check T.k__check T.b__check .nil pass0 (pa_cons (pv 0 (hv := Or.inl rfl)) (pa_cons (pv 1 (hv := Or.inl rfl)) (pa_cons (pv 2 (hv := Or.inl rfl)) (pa_cons (pv 3 (hv := Or.inl rfl)) (pa_cons (pv 4 (hv := Or.inl rfl)) (pa_cons (pv 5 (hv := Or.inl rfl)) pa_nil))))))))
      (pss_cons (ps_for PassesOwn.never rfl (pi_list (pe_call G__surprising_parts hr__surprising_parts rfl T.g__surprising_parts T.k__surprising_parts T.b__surprising_parts .nil pass0 (pa_cons (pv 1 (hv := Or.inl rfl)) (pa_cons (pv 2 (hv := Or.inl rfl)) (pa_cons (pv 3 (hv := Or.inl rfl)) (pa_cons (pv 4 (hv := Or.inl rfl)) (pa_cons (pv 5 (hv := Or.inl rfl)) pa_nil))))))) (pg_tup rfl (pgs_cons (pg_name (i := 6) sc_first_surprise.nd rfl (Or.inl rfl)) (pgs_cons (pg_name (i := 7) sc_first_surprise.nd rfl (Or.inl rfl)) (pgs_cons (pg_name (i := 8) sc_first_surprise.nd rfl (Or.inl rfl)) pgs_nil))))
        (pss_cons (ps_set (i := 9) sc_first_surprise.nd rfl (Or.inl rfl) (pe_call G__first_holding hr__first_holding rfl T.g__first_holding T.k__first_holding T.b__first_holding .nil pass0 (pa_cons (pv 0 (hv := Or.inl rfl)) (pa_cons (pv 1 (hv := Or.inl rfl)) (pa_cons (pv 8 (hv := Or.inl rfl)) (pa_cons (pv 3 (hv := Or.inl rfl)) (pa_cons (pv 6 (hv := Or.inl rfl)) (pa_cons (pv 7 (hv := Or.inl rfl)) pa_nil))))))))
      (pss_one (ps_if (pt_cmpR op_notN (pv 9 (hv := Or.inl rfl)) pe_non (nomark _)) (pss_one (ps_ret (pv 9 (hv := Or.inl rfl)))) pss_nil))))
      (pss_one (ps_ret pe_non)))), ?_⟩
    try dsimp only [cxOf, Cx.nox, Cx.wish, Cx.blk]
    rw [show L2.start ["kind", "one", "relation", "other", "first", "last", "start", "end", "wanted", "x"] [.ref kp, .ref l1, .str z, .ref l2, .int first, .int last] = [some (.ref kp), some (.ref l1), some (.str z), some (.ref l2), some (.int first), some (.int last), none, none, none, none] from rfl]
    obtain ⟨hk, h1, h2, sa, sb, sc, sd, hz, sf, sl, hT, k⟩ := h
    walk_at "rd"
    refine ⟨kp, l1, z, l2, first, last, rfl, ⟨wd, s, hk⟩, ⟨a, b, c, d, h1, h2, sa, sb, sc, sd⟩, hz, sf, sl, ?_⟩
    walk_at "rd"
    refine ⟨l1, z, l2, first, last, a, b, c, d, rfl, h1, h2, sa, sb, sc, sd, hz, sf, sl, fun q H1 ps s1 hq hps n3 PW => ?_⟩
    walk_at "rd"
    refine ⟨⟨_, SqL.of hq⟩, for_list (K := K) (a := q) (xs := ps.map fun r => V.ref r.1) (fun i σ H' => (∃ v1 v2 v3 v4 : Option V, σ = [some (.ref kp), some (.ref l1), some (.str z), some (.ref l2), some (.int first), some (.int last), v1, v2, v3, v4]) ∧ Sm T.tabs H1 H' ∧ ∀ (j : Nat) (r : Int × Int × Str), j < i → (ps.map (·.2))[j]? = some r → tot (cmP wd s r.2.2 a b c d) r.1 r.2.1 = 0)
      ⟨⟨none, none, none, none, rfl⟩, Sm.refl H1, fun j r h => absurd h (Nat.not_lt_zero _)⟩ (fun i σ H' _ p => SqL.of (p.2.1.at hq)) ?_ ?_⟩
    · rintro i x σ H' hi ⟨⟨v1, v2, v3, v4, rfl⟩, s2, h0⟩
      obtain ⟨r, hr, rfl⟩ := map_get hi
      have rm := List.mem_of_getElem? hr
      have s12 := (Sm.of s1).trans s2
      have hrt := s2.at (hps r rm)
      obtain ⟨br1, br2⟩ := PW.bb r.2 (List.mem_map.mpr ⟨r, rm, rfl⟩)
      have hrz := PW.rel r.2 (List.mem_map.mpr ⟨r, rm, rfl⟩)
      have hr2 : (ps.map (·.2))[i]? = some r.2 := by rw [List.getElem?_map, hr]; rfl
      walk_at "rd"
      refine ⟨kp, l1, r.2.2.2, l2, r.2.1, r.2.2.1, a, b, c, d, wd, s, rfl, hk.sm s12, s12.at h1, s12.at h2, sa, sb, sc, sd, hrz, br1, br2, s12.2 hT, fun v H3 hv s3 => ?_⟩
      walk_at "rd"
      have hv' := hv
      rcases hv' with ⟨rfl, t0⟩ | ⟨y, rfl, _⟩
      · refine ⟨rfl, ?_⟩
        walk_at "rd"
        refine w_bF (by simp) ?_
        walk_at "rd"
        refine ⟨⟨_, _, _, _, rfl⟩, s2.trans s3, fun j r' hj hr' => ?_⟩
        by_cases c1 : j < i
        · exact h0 j r' c1 hr'
        · have e : j = i := by omega
          subst e
          rw [hr2] at hr'
          cases hr'
          exact t0
      · refine ⟨rfl, ?_⟩
        walk_at "rd"
        refine w_bT (by simp) ?_
        walk_at "rd"
        exact k _ _ (PW.first wd s hr2 h0 hv) (s12.trans s3)
    · rintro σ H' ⟨⟨v1, v2, v3, v4, rfl⟩, s2, h0⟩
      walk_at "rd"
      rw [List.length_map] at h0
      exact k _ _ (PW.none wd s (by rw [List.length_map]; exact h0)) ((Sm.of s1).trans s2)
def sp__law_deck (K : PySem.W.Frag) (C : Addr) (C_Walk : Addr) (C_InvalidBound : Addr) (TS : List (Addr × Str)) : Sp := fun vs H Q _ => ∃ (c : Int), vs = [.int c] ∧ ∀ p H', H p = none → Same H H' → SrcN 3 H' p → Q (.ref p) H'
theorem ok__law_deck {P : Program} {w : World} {K : PySem.W.Frag} {mg : Str → Option Value} {base : Heap} (T : Txt K mg) (B : TBs T base w P) : FnOk P w K mg base CX0 1 T.f__law_deck T.fd__law_deck ["_law_cell"] (sp__law_deck K T.C_Kind T.C_Walk T.C_InvalidBound T.tabs) := by
  refine T.F__law_deck.ok sc__law_deck (fun vs H Q E h => ?_) (fun cdv A outer s H vs Q E hr h => ?_)
  · obtain ⟨c, rfl, _⟩ := h
    rfl
  · obtain ⟨c, rfl, h⟩ := h
    refine ⟨_, (pss_one (ps_ret (pe_lst (pa_cons (pe_op op_mul (pv 0 (hv := Or.inl rfl)) (pe_callTy (T := "int") (r := rIntC) call_int1 (by rfl) T.n_int (by decide +kernel) (pa_cons (pe_cmpR op_ge (pv 0 (hv := Or.inl rfl)) (pe_op op_pow pe_int pe_int) (nomark _)) pa_nil))) (pa_cons (pe_op op_mod (pe_callTy (T := "int") (r := rIntC) call_int1 (by rfl) T.n_int (by decide +kernel) (pa_cons (pv 0 (hv := Or.inl rfl)) pa_nil)) pe_int) (pa_cons pe_int pa_nil)))))), ?_⟩
    try dsimp only [cxOf, Cx.nox, Cx.wish, Cx.blk]
    rw [show L2.start ["_law_cell"] [.int c] = [some (.int c)] from rfl]
    walk_at "rd"
    refine w_I (Or.inr ⟨by split <;> decide, by split <;> decide⟩) ?_
    walk_at "rd"
    refine ⟨by show 3 ≤ sizeLine; decide, fun p hp => ?_⟩
    have h1 := Int.emod_nonneg c (show (2147483587 : Int) ≠ 0 by decide)
    have h2 := Int.emod_lt_of_pos c (show (0 : Int) < 2147483587 by decide)
    exact h p _ hp (sm_new (Same.refl H) hp) ⟨_, _, _, upd_same, h1, by omega, by decide, by decide⟩
def sp__law_deal (K : PySem.W.Frag) (C : Addr) (C_Walk : Addr) (C_InvalidBound : Addr) (TS : List (Addr × Str)) : Sp := fun vs H Q _ => ∃ (p : Addr) (m : Int) (n : Nat), vs = [.ref p, .int m] ∧ SrcN n H p ∧ n < 2 ^ 40 ∧ 0 < m ∧ m.natAbs < 2 ^ 8999 ∧ ∀ v H', 0 ≤ v → v < m → Kp p H H' → SrcN (n + 1) H' p → Q (.int v) H'
theorem ok__law_deal {P : Program} {w : World} {K : PySem.W.Frag} {mg : Str → Option Value} {base : Heap} (T : Txt K mg) (B : TBs T base w P) : FnOk P w K mg base CX0 1 T.f__law_deal T.fd__law_deal ["_law_deck_here", "_law_many"] (sp__law_deal K T.C_Kind T.C_Walk T.C_InvalidBound T.tabs) := by
  refine T.F__law_deal.ok sc__law_deal (fun vs H Q E h => ?_) (fun cdv A outer s H vs Q E hr h => ?_)
  · obtain ⟨p, m, n, rfl, _⟩ := h
    rfl
  · obtain ⟨p, m, n, rfl, h⟩ := h
    refine ⟨_, (pss_cons (ps_if (pt_cmpR op_gt (pe_ix (r := rIxL K) ix_list (pv 0 (hv := Or.inl rfl)) pe_int (fun _ _ => rfl)) pe_int (nomark _)) (pss_cons (ps_set (i := 2) sc__law_deal.nd rfl (Or.inl rfl) (pe_op op_mod (pe_callTy (T := "int") (r := rIntC) call_int1 (by rfl) T.n_int (by decide +kernel) (pa_cons (pe_ix (r := rIxL K) ix_list (pv 0 (hv := Or.inl rfl)) pe_int (fun _ _ => rfl)) pa_nil)) (pv 1 (hv := Or.inl rfl))))
      (pss_cons (ps_asg (pe_op op_fdivW (pe_ix (r := rIxL K) ix_list (pv 0 (hv := Or.inl rfl)) pe_int (fun _ _ => rfl)) (pv 1 (hv := Or.inl rfl))) (pg_sub (pv 0 (hv := Or.inl rfl)) pe_int set_list))
      (pss_one (ps_ret (pv 2 (hv := Or.inl rfl)))))) pss_nil)
      (pss_cons (ps_asg (pe_op op_add (pe_ix (r := rIxL K) ix_list (pv 0 (hv := Or.inl rfl)) pe_int (fun _ _ => rfl)) pe_int) (pg_sub (pv 0 (hv := Or.inl rfl)) pe_int set_list))
      (pss_cons (ps_set (i := 3) sc__law_deal.nd rfl (Or.inl rfl) (pe_op op_mod (pe_callTy (T := "int") (r := rIntC) call_int1 (by rfl) T.n_int (by decide +kernel) (pa_cons (pe_op op_pow (pe_op op_add (pe_op op_add (pe_ix (r := rIxL K) ix_list (pv 0 (hv := Or.inl rfl)) pe_int (fun _ _ => rfl)) (pe_op op_mul pe_int (pe_ix (r := rIxL K) ix_list (pv 0 (hv := Or.inl rfl)) pe_int (fun _ _ => rfl)))) pe_int) pe_int) pa_nil)) pe_int))
      (pss_cons (ps_set (i := 3) sc__law_deal.nd rfl (Or.inl rfl) (pe_op op_mod (pe_callTy (T := "int") (r := rIntC) call_int1 (by rfl) T.n_int (by decide +kernel) (pa_cons (pe_op op_mul (pe_op op_add (pv 3 (hv := Or.inl rfl)) (pe_op op_mul pe_int (pe_ix (r := rIxL K) ix_list (pv 0 (hv := Or.inl rfl)) pe_int (fun _ _ => rfl)))) (pe_op op_add (pe_op op_fdiv (pv 3 (hv := Or.inl rfl)) pe_int) pe_int)) pa_nil)) pe_int))
      (pss_one (ps_ret (pe_op op_mod (pe_callTy (T := "int") (r := rIntC) call_int1 (by rfl) T.n_int (by decide +kernel) (pa_cons (pe_op op_fdiv (pe_op op_mod (pe_callTy (T := "int") (r := rIntC) call_int1 (by rfl) T.n_int (by decide +kernel) (pa_cons (pe_op op_mul (pv 3 (hv := Or.inl rfl)) (pe_op op_add (pe_op op_fdiv (pv 3 (hv := Or.inl rfl)) pe_int) pe_int)) pa_nil)) pe_int) pe_int) pa_nil)) (pv 1 (hv := Or.inl rfl))))))))), ?_⟩
    try dsimp only [cxOf, Cx.nox, Cx.wish, Cx.blk]
    rw [show L2.start ["_law_deck_here", "_law_many", "_law_card", "_law_mixed"] [.ref p, .int m] = [some (.ref p), some (.int m), none, none] from rfl]
    obtain ⟨⟨a, b, c, hp, b0, b1, c0, c1⟩, n40, h0, hb, k⟩ := h
    have fin : ∀ (x : Int) (H' : Hp), Kp p H H' → SrcN (n + 1) H' p → Q (.int (x % m)) H' := fun x H' a b => k _ _ (Int.emod_nonneg x (Int.ne_of_gt h0)) (Int.emod_lt_of_pos x h0) a b
    clear k
    walk_at "rd"
    refine w_dec (fun _ => ?_) (fun _ => ?_)
    · walk_at "rd"
      refine w_I h0 ?_
      walk_at "rd"
      refine w_I (wide_div h0 hb (by decide) (by decide)) ?_
      walk_at "rd"
      exact fin _ _ (Kp.refl p H).upd ⟨_, _, _, upd_same, b0, b1, c0, by omega⟩
    · have n40' : n < 1099511627776 := n40
      walk_at "rd"
      have hp1 : ∀ x : Int, 0 ≤ x % 2147483629 ∧ x % 2147483629 < 2147483629 := fun x => ⟨Int.emod_nonneg x (by decide), Int.emod_lt_of_pos x (by decide)⟩
      have hp2 : ∀ x : Int, 0 ≤ x % 2147483579 ∧ x % 2147483579 < 2147483579 := fun x => ⟨Int.emod_nonneg x (by decide), Int.emod_lt_of_pos x (by decide)⟩
      refine w_I (CC := CPow) ⟨by decide, by decide, by omega⟩ ?_
      walk_at "rd"
      refine w_I (CC := CMul) (Or.inr ⟨?_, ?_⟩) ?_
      · have := hp1 ((b + 70003 * (c + 1) + 5) ^ (3 : Int).toNat); omega
      · have := hp1 ((b + 70003 * (c + 1) + 5) ^ (3 : Int).toNat); omega
      walk_at "rd"
      refine w_I (CC := CMul) (Or.inl ⟨Int.lt_of_lt_of_le (by decide) (hp2 _).1, Int.lt_trans (hp2 _).2 (by decide)⟩) ?_
      walk_at "rd"
      refine w_I h0 ?_
      walk_at "rd"
      exact fin _ _ (Kp.refl p H).upd ⟨_, _, _, upd_same, b0, b1, by omega, by omega⟩
def sp__law_choice (K : PySem.W.Frag) (C : Addr) (C_Walk : Addr) (C_InvalidBound : Addr) (TS : List (Addr × Str)) : Sp := fun vs H Q _ => ∃ (p l : Addr) (n : Nat) (xs : List V), vs = [.ref p, .ref l] ∧ SrcN n H p ∧ n < 2 ^ 40 ∧ H l = some (.lst xs) ∧ l ≠ p ∧ 0 < xs.length ∧ xs.length ≤ 1000 ∧ ∀ v H', v ∈ xs → Kp p H H' → SrcN (n + 1) H' p → Q v H'
theorem ok__law_choice {P : Program} {w : World} {K : PySem.W.Frag} {mg : Str → Option Value} {base : Heap} (T : Txt K mg) (B : TBs T base w P) : FnOk P w K mg base CX0 2 T.f__law_choice T.fd__law_choice ["_law_deck_here", "_law_some_here"] (sp__law_choice K T.C_Kind T.C_Walk T.C_InvalidBound T.tabs) := by
  have G__law_deal := ok__law_deal (P := P) (w := w) (base := base) T B
  refine T.F__law_choice.ok sc__law_choice (fun vs H Q E h => ?_) (fun cdv A outer s H vs Q E hr h => ?_)
  · obtain ⟨p, l, n, xs, rfl, _⟩ := h
    rfl
  · obtain ⟨p, l, n, xs, rfl, h⟩ := h
    have hr__law_deal : Room 1 _ := hr.mono (by decide)
    refine ⟨_, (pss_one (ps_ret (pe_ix (r := rIxL K) ix_list (pv 1 (hv := Or.inl rfl)) (pe_call G__law_deal hr__law_deal rfl T.g__law_deal T.k__law_deal T.b__law_deal .nil pass0 (pa_cons (pv 0 (hv := Or.inl rfl)) (pa_cons (pe_callB (id := "len") (r := rLenS K) call_len_seq (by rfl) T.n_len (by decide +kernel) (pa_cons (pv 1 (hv := Or.inl rfl)) pa_nil)) pa_nil))) (fun _ _ => rfl)))), ?_⟩
    try dsimp only [cxOf, Cx.nox, Cx.wish, Cx.blk]
    rw [show L2.start ["_law_deck_here", "_law_some_here"] [.ref p, .ref l] = [some (.ref p), some (.ref l)] from rfl]
    obtain ⟨hs, n40, hl, hn, n0, n1, k⟩ := h
    walk_at "rd"
    refine w_len hl ?_
    walk_at "rd"
    refine ⟨p, _, n, rfl, hs, n40, by omega, Nat.lt_trans (show ((xs.length : Nat) : Int).natAbs < 2 ^ 10 by omega) (Nat.pow_lt_pow_right (by decide) (by decide)), fun v H' h1 h2 kp hs' => ?_⟩
    obtain ⟨j, rfl⟩ := Int.eq_ofNat_of_zero_le h1
    have hj : j < xs.length := by omega
    refine w_ixL (kp _ _ hn hl) (atI_nat (v := xs[j]) (List.getElem?_eq_getElem hj)) ?_
    exact k _ _ (List.getElem_mem hj) kp hs'
def sp__law_great (K : PySem.W.Frag) (C : Addr) (C_Walk : Addr) (C_InvalidBound : Addr) (TS : List (Addr × Str)) : Sp := fun vs H Q _ => ∃ (p : Addr) (m : Int) (n : Nat), vs = [.ref p, .int m] ∧ SrcN n H p ∧ n + 100 < 2 ^ 40 ∧ 0 < m ∧ m.natAbs < 2 ^ 2800 ∧ ∀ v H', 0 ≤ v → v < m → Kp p H H' → SrcN (n + 100) H' p → Q (.int v) H'
theorem ok__law_great {P : Program} {w : World} {K : PySem.W.Frag} {mg : Str → Option Value} {base : Heap} (T : Txt K mg) (B : TBs T base w P) : FnOk P w K mg base CX0 2 T.f__law_great T.fd__law_great ["_law_deck_here", "_law_most"] (sp__law_great K T.C_Kind T.C_Walk T.C_InvalidBound T.tabs) := by
  have G__law_deal := ok__law_deal (P := P) (w := w) (base := base) T B
  refine T.F__law_great.ok sc__law_great (fun vs H Q E h => ?_) (fun cdv A outer s H vs Q E hr h => ?_)
  · obtain ⟨p, m, n, rfl, _⟩ := h
    rfl
  · obtain ⟨p, m, n, rfl, h⟩ := h
    have hr__law_deal : Room 1 _ := hr.mono (by decide)
    refine ⟨_, (pss_cons (ps_set (i := 2) sc__law_great.nd rfl (Or.inl rfl) pe_int)
      (pss_cons (ps_for PassesOwn.never rfl (pi_range1 (by rfl) T.n_range (pa_cons (pe_op op_add (pe_op op_fdiv (pe_bits (pv 1 (hv := Or.inl rfl))) pe_int) pe_int) pa_nil)) (pg_name (i := 3) sc__law_great.nd rfl (Or.inl rfl))
        (pss_one (ps_set (i := 2) sc__law_great.nd rfl (Or.inl rfl) (pe_op op_add (pe_op op_mul (pv 2 (hv := Or.inl rfl)) (pe_op op_pow pe_int pe_int)) (pe_call G__law_deal hr__law_deal rfl T.g__law_deal T.k__law_deal T.b__law_deal .nil pass0 (pa_cons (pv 0 (hv := Or.inl rfl)) (pa_cons (pe_op op_pow pe_int pe_int) pa_nil)))))))
      (pss_one (ps_ret (pe_op op_mod (pe_callTy (T := "int") (r := rIntC) call_int1 (by rfl) T.n_int (by decide +kernel) (pa_cons (pv 2 (hv := Or.inl rfl)) pa_nil)) (pv 1 (hv := Or.inl rfl))))))), ?_⟩
    try dsimp only [cxOf, Cx.nox, Cx.wish, Cx.blk]
    rw [show L2.start ["_law_deck_here", "_law_most", "_law_found", "_law_turn"] [.ref p, .int m] = [some (.ref p), some (.int m), none, none] from rfl]
    obtain ⟨hs, n40, h0, hb, k⟩ := h
    have bb := PyProof.Rows.intBits_le hb
    walk_at "rd"
    refine ⟨_, rfl, by omega, by omega, for_range (lo := 0) (n := ((Builtin.Int.intBits m : Int) / 29 + 1).toNat) (fun i σ H' => ∃ (f : Int) (v : Option V), σ = [some (.ref p), some (.int m), some (.int f), v] ∧ Kp p H H' ∧ SrcN (n + i) H' p) ⟨0, none, rfl, Kp.refl p H, hs⟩ ?_ ?_⟩
    · rintro i σ H' hi ⟨f, v, rfl, kp, hs'⟩
      walk_at "rd"
      refine ⟨p, _, n + i, rfl, hs', by omega, by decide, Nat.lt_of_lt_of_le (show ((10 : Int) ^ (9 : Int).toNat).natAbs < 2 ^ 32 by decide) (Nat.pow_le_pow_right (by decide) (by decide)), fun v1 H1 _ _ kp1 hs1 => ?_⟩
      walk_at "rd"
      exact ⟨_, _, rfl, kp.trans kp1, hs1⟩
    · rintro σ H' ⟨f, v, rfl, kp, hs'⟩
      walk_at "rd"
      refine w_I h0 ?_
      walk_at "rd"
      exact k _ _ (Int.emod_nonneg _ (Int.ne_of_gt h0)) (Int.emod_lt_of_pos _ h0) kp (hs'.le (by omega))
def sp__law_near (K : PySem.W.Frag) (C : Addr) (C_Walk : Addr) (C_InvalidBound : Addr) (TS : List (Addr × Str)) : Sp := fun vs H Q _ => ∃ (p : Addr) (n : Nat), vs = [.ref p] ∧ SrcN n H p ∧ n + 2 < 2 ^ 40 ∧ ∀ (t kx : Addr) (wd : Nat) (s : Bool) H', 1 ≤ wd → wd ≤ 8 → Kd C H' kx wd s → kx ≠ p → H' t = some (.tup [.ref kx, .int (loK wd s), .int (2 ^ wd)]) → Kp p H H' → SrcN (n + 2) H' p → Q (.ref t) H'
theorem ok__law_near {P : Program} {w : World} {K : PySem.W.Frag} {mg : Str → Option Value} {base : Heap} (T : Txt K mg) (B : TBs T base w P) : FnOk P w K mg base CX0 4 T.f__law_near T.fd__law_near ["_law_deck_here"] (sp__law_near K T.C_Kind T.C_Walk T.C_InvalidBound T.tabs) := by
  have G_Kind___init__ := ok_Kind___init__ (P := P) (w := w) (base := base) T B
  have G__law_deal := ok__law_deal (P := P) (w := w) (base := base) T B
  refine T.F__law_near.ok sc__law_near (fun vs H Q E h => ?_) (fun cdv A outer s H vs Q E hr h => ?_)
  · obtain ⟨p, n, rfl, _⟩ := h
    rfl
  · obtain ⟨p, n, rfl, h⟩ := h
    have hr_Kind___init__ : Room 3 _ := hr.mono (by decide)
    have hr__law_deal : Room 1 _ := hr.mono (by decide)
    refine ⟨_, (pss_cons (ps_par rfl sc__law_near.nd (i := 1) (j := 2) rfl rfl (by decide) rfl rfl (pa_cons (pe_op op_add pe_int (pe_call G__law_deal hr__law_deal rfl T.g__law_deal T.k__law_deal T.b__law_deal .nil pass0 (pa_cons (pv 0 (hv := Or.inl rfl)) (pa_cons pe_int pa_nil)))) (pa_cons (pe_cmpR op_eq (pe_call G__law_deal hr__law_deal rfl T.g__law_deal T.k__law_deal T.b__law_deal .nil pass0 (pa_cons (pv 0 (hv := Or.inl rfl)) (pa_cons pe_int pa_nil))) pe_int (nomark _)) pa_nil)) (by rfl))
      (pss_cons (ps_set (i := 3) sc__law_near.nd rfl (Or.inl rfl) (pe_op op_shl pe_int (pv 1 (hv := Or.inl rfl))))
      (pss_one (ps_ret (pe_tup (pa_cons (pe_make T.mk_Kind G_Kind___init__ hr_Kind___init__ rfl T.g_Kind T.b_Kind___init__ .nil pass0 (pa_cons (pv 1 (hv := Or.inl rfl)) (pa_cons (pv 2 (hv := Or.inl rfl)) pa_nil))) (pa_cons (pe_op op_sub pe_int (pe_op op_mul (pe_op op_fdiv (pv 3 (hv := Or.inl rfl)) pe_int) (pe_callTy (T := "int") (r := rIntC) call_int1 (by rfl) T.n_int (by decide +kernel) (pa_cons (pv 2 (hv := Or.inl rfl)) pa_nil)))) (pa_cons (pv 3 (hv := Or.inl rfl)) pa_nil)))))))), ?_⟩
    try dsimp only [cxOf, Cx.nox, Cx.wish, Cx.blk]
    rw [show L2.start ["_law_deck_here", "_law_bits", "_law_is_signed", "_law_size"] [.ref p] = [some (.ref p), none, none, none] from rfl]
    obtain ⟨hs, n40, k⟩ := h
    walk_at "rd"
    refine ⟨p, _, n, rfl, hs, by omega, by decide, b89 (bb_sm (by decide) (by decide)), fun v1 H1 v10 v11 kp1 hs1 => ?_⟩
    walk_at "rd"
    refine ⟨p, _, _, rfl, hs1, by omega, by decide, b89 (bb_sm (by decide) (by decide)), fun v2 H2 v20 v21 kp2 hs2 => ?_⟩
    obtain ⟨wd, hwd⟩ : ∃ wd : Nat, 1 + v1 = (wd : Int) := ⟨(1 + v1).toNat, by omega⟩
    obtain ⟨s, hsg⟩ : ∃ s : Bool, s = decide (v2 = 1) := ⟨_, rfl⟩
    walk_at "rd"
    rw [hwd, ← hsg]
    refine w_I (cpow (n := 1) (by omega) (by decide)) ?_
    rw [Int.toNat_natCast, Int.one_mul]
    walk_at "rd"
    intro kx dx nx ndx nex
    refine ⟨kx, wd, s, rfl, ⟨dx, upd_same⟩, by omega, by omega, fun H3 hk kp3 => ⟨rfl, ?_⟩⟩
    have sm3 := mk_same nx ndx kp3
    walk_at "rd"
    refine w_I (CC := CMul) (Or.inr ⟨by split <;> decide, by split <;> decide⟩) ?_
    walk_at "rd"
    rw [lo_val (by omega) s]
    refine ⟨by show 3 ≤ sizeLine; decide, fun t ht => ?_⟩
    exact k t kx wd s _ (by omega) (by omega) (hk.same (sm_new (Same.refl H3) ht)) (hs2.ne nx) upd_same (((kp1.trans kp2).trans (Kp.of_same sm3)).new ht) ((hs2.same sm3).new ht)
def sp__law_some (K : PySem.W.Frag) (C : Addr) (C_Walk : Addr) (C_InvalidBound : Addr) (TS : List (Addr × Str)) : Sp := fun vs H Q _ => ∃ (p : Addr) (m : Int) (n : Nat), vs = [.ref p, .int m] ∧ SrcN n H p ∧ n + 110 < 2 ^ 40 ∧ 0 < m ∧ m ≤ 10 ^ 57 ∧ ∀ v H', -(10 ^ 59) < v → v < 10 ^ 59 → Kp p H H' → SrcN (n + 110) H' p → Q (.int v) H'
theorem ok__law_some {P : Program} {w : World} {K : PySem.W.Frag} {mg : Str → Option Value} {base : Heap} (T : Txt K mg) (B : TBs T base w P) : FnOk P w K mg base CX0 3 T.f__law_some T.fd__law_some ["_law_deck_here", "_law_size"] (sp__law_some K T.C_Kind T.C_Walk T.C_InvalidBound T.tabs) := by
  have G__law_choice := ok__law_choice (P := P) (w := w) (base := base) T B
  have G__law_deal := ok__law_deal (P := P) (w := w) (base := base) T B
  have G__law_great := ok__law_great (P := P) (w := w) (base := base) T B
  refine T.F__law_some.ok sc__law_some (fun vs H Q E h => ?_) (fun cdv A outer s H vs Q E hr h => ?_)
  · obtain ⟨p, m, n, rfl, _⟩ := h
    rfl
  · obtain ⟨p, m, n, rfl, h⟩ := h
    have hr__law_choice : Room 2 _ := hr.mono (by decide)
    have hr__law_deal : Room 1 _ := hr.mono (by decide)
    have hr__law_great : Room 2 _ := hr.mono (by decide)
    refine ⟨_, (pss_cons (ps_set (i := 2) sc__law_some.nd rfl (Or.inl rfl) (pe_call G__law_choice hr__law_choice rfl T.g__law_choice T.k__law_choice T.b__law_choice .nil pass0 (pa_cons (pv 0 (hv := Or.inl rfl)) (pa_cons (pe_lst (pa_cons (pe_call G__law_deal hr__law_deal rfl T.g__law_deal T.k__law_deal T.b__law_deal .nil pass0 (pa_cons (pv 0 (hv := Or.inl rfl)) (pa_cons pe_int pa_nil))) (pa_cons (pe_op op_sub (pe_op op_add (pe_op op_mul (pv 1 (hv := Or.inl rfl)) (pe_call G__law_deal hr__law_deal rfl T.g__law_deal T.k__law_deal T.b__law_deal .nil pass0 (pa_cons (pv 0 (hv := Or.inl rfl)) (pa_cons pe_int pa_nil)))) (pe_call G__law_deal hr__law_deal rfl T.g__law_deal T.k__law_deal T.b__law_deal .nil pass0 (pa_cons (pv 0 (hv := Or.inl rfl)) (pa_cons pe_int pa_nil)))) pe_int) pa_nil))) pa_nil))))
      (pss_cons (ps_set (i := 2) sc__law_some.nd rfl (Or.inl rfl) (pe_call G__law_choice hr__law_choice rfl T.g__law_choice T.k__law_choice T.b__law_choice .nil pass0 (pa_cons (pv 0 (hv := Or.inl rfl)) (pa_cons (pe_lst (pa_cons (pv 2 (hv := Or.inl rfl)) (pa_cons (pv 2 (hv := Or.inl rfl)) (pa_cons (pe_call G__law_great hr__law_great rfl T.g__law_great T.k__law_great T.b__law_great .nil pass0 (pa_cons (pv 0 (hv := Or.inl rfl)) (pa_cons (pe_op op_pow pe_int pe_int) pa_nil))) pa_nil)))) pa_nil))))
      (pss_one (ps_ret (pe_op op_mul (pv 2 (hv := Or.inl rfl)) (pe_call G__law_choice hr__law_choice rfl T.g__law_choice T.k__law_choice T.b__law_choice .nil pass0 (pa_cons (pv 0 (hv := Or.inl rfl)) (pa_cons (pe_lst (pa_cons pe_int (pa_cons (pe_un un_neg pe_int) pa_nil))) pa_nil)))))))), ?_⟩
    try dsimp only [cxOf, Cx.nox, Cx.wish, Cx.blk]
    rw [show L2.start ["_law_deck_here", "_law_size", "_law_many"] [.ref p, .int m] = [some (.ref p), some (.int m), none] from rfl]
    obtain ⟨hs, n40, m0, m1, k⟩ := h
    have p57 : (10 : Int) ^ 57 * 10 < 10 ^ 59 := by decide +kernel
    have p58 : (1000 : Int) < 10 ^ 57 := by decide +kernel
    have p59 : (10 : Int) ^ 59 < 10 ^ 62 := by decide +kernel
    have bm : BB m := bb_ten (by omega) (by omega)
    walk_at "rd"
    refine ⟨p, _, n, rfl, hs, by omega, by decide, b89 (bb_sm (by decide) (by decide)), fun v1 H1 v10 v11 kp1 hs1 => ?_⟩
    walk_at "rd"
    refine ⟨p, _, _, rfl, hs1, by omega, by decide, b89 (bb_sm (by decide) (by decide)), fun v2 H2 v20 v21 kp2 hs2 => ?_⟩
    walk_at "rd"
    have mv : 0 ≤ m * v2 ∧ m * v2 ≤ m * 4 := ⟨Int.mul_nonneg (by omega) (by omega), Int.mul_le_mul_of_nonneg_left (by omega) (by omega)⟩
    refine w_I (CC := CMul) (Or.inr ⟨by omega, by omega⟩) ?_
    walk_at "rd"
    refine ⟨p, _, _, rfl, hs2, by omega, by decide, b89 (bb_sm (by decide) (by decide)), fun v3 H3 v30 v31 kp3 hs3 => ?_⟩
    walk_at "rd"
    refine ⟨by show 2 ≤ sizeLine; decide, fun c1 hc1 => ?_⟩
    walk_at "rd"
    refine ⟨p, c1, _, _, rfl, hs3.new hc1, by omega, upd_same, hs3.ne hc1, by simp, by simp, fun v H4 hv kp4 hs4 => ?_⟩
    obtain ⟨u, rfl, u0, u1⟩ : ∃ u : Int, v = .int u ∧ -3 < u ∧ u < 10 ^ 59 := by
      rcases List.mem_cons.mp hv with e | e
      · exact ⟨v1, e, by omega, by omega⟩
      · exact ⟨_, List.mem_singleton.mp e, by omega, by omega⟩
    walk_at "rd"
    refine ⟨p, _, _, rfl, hs4, by omega, by decide +kernel, b28 (bb_ten (by decide +kernel) (by decide +kernel)), fun v5 H5 v50 v51 kp5 hs5 => ?_⟩
    have v51 : v5 < 10 ^ 59 := v51
    walk_at "rd"
    refine ⟨by show 3 ≤ sizeLine; decide, fun c2 hc2 => ?_⟩
    walk_at "rd"
    refine ⟨p, c2, _, _, rfl, hs5.new hc2, by omega, upd_same, hs5.ne hc2, by simp, by simp, fun v H6 hv kp6 hs6 => ?_⟩
    obtain ⟨g, rfl, g0, g1⟩ : ∃ g : Int, v = .int g ∧ -3 < g ∧ g < 10 ^ 59 := by
      rcases List.mem_cons.mp hv with e | e
      · exact ⟨u, e, by omega, by omega⟩
      · rcases List.mem_cons.mp e with e | e
        · exact ⟨u, e, by omega, by omega⟩
        · exact ⟨v5, List.mem_singleton.mp e, by omega, by omega⟩
    walk_at "rd"
    refine ⟨by show 2 ≤ sizeLine; decide, fun c3 hc3 => ?_⟩
    walk_at "rd"
    refine ⟨p, c3, _, _, rfl, hs6.new hc3, by omega, upd_same, hs6.ne hc3, by simp, by simp, fun v H7 hv kp7 hs7 => ?_⟩
    have fin : Kp p H H7 := ((((kp1.trans kp2).trans (kp3.new hc1)).trans kp4).trans ((kp5.new hc2).trans kp6)).trans (((Kp.refl p H6).new hc3).trans kp7)
    rcases List.mem_cons.mp hv with e | e
    · subst e
      refine w_I (CC := CMul) (Or.inr ⟨by decide, by decide⟩) ?_
      rw [Int.mul_one]
      exact k _ _ (by omega) g1 fin (hs7.le (by omega))
    · rw [List.mem_singleton.mp e]
      refine w_I (CC := CMul) (Or.inr ⟨by decide, by decide⟩) ?_
      rw [show g * -1 = -g by omega]
      exact k _ _ (by omega) (by omega) fin (hs7.le (by omega))
def sp__law_pair (K : PySem.W.Frag) (C : Addr) (C_Walk : Addr) (C_InvalidBound : Addr) (TS : List (Addr × Str)) : Sp := fun vs H Q _ => ∃ (p : Addr) (m : Int) (n : Nat), vs = [.ref p, .int m] ∧ SrcN n H p ∧ n + 700 < 2 ^ 40 ∧ 0 < m ∧ m ≤ 10 ^ 57 ∧ ∀ (q m1 m2 : Addr) (a b c d : Int) H', H' q = some (.tup [.ref m1, .ref m2]) → H' m1 = some (.tup [.int a, .int b]) → H' m2 = some (.tup [.int c, .int d]) → m1 ≠ p → m2 ≠ p → q ≠ p → SD a → SD b → SD c → SD d → Kp p H H' → SrcN (n + 700) H' p → Q (.ref q) H'
theorem ok__law_pair {P : Program} {w : World} {K : PySem.W.Frag} {mg : Str → Option Value} {base : Heap} (T : Txt K mg) (B : TBs T base w P) : FnOk P w K mg base CX0 4 T.f__law_pair T.fd__law_pair ["_law_deck_here", "_law_size"] (sp__law_pair K T.C_Kind T.C_Walk T.C_InvalidBound T.tabs) := by
  have G__law_deal := ok__law_deal (P := P) (w := w) (base := base) T B
  have G__law_some := ok__law_some (P := P) (w := w) (base := base) T B
  refine T.F__law_pair.ok sc__law_pair (fun vs H Q E h => ?_) (fun cdv A outer s H vs Q E hr h => ?_)
  · obtain ⟨p, m, n, rfl, _⟩ := h
    rfl
  · obtain ⟨p, m, n, rfl, h⟩ := h
    have hr__law_deal : Room 1 _ := hr.mono (by decide)
    have hr__law_some : Room 3 _ := hr.mono (by decide)
    refine ⟨_, (pss_cons (ps_set (i := 2) sc__law_pair.nd rfl (Or.inl rfl) (pe_tup (pa_cons (pe_call G__law_some hr__law_some rfl T.g__law_some T.k__law_some T.b__law_some .nil pass0 (pa_cons (pv 0 (hv := Or.inl rfl)) (pa_cons (pv 1 (hv := Or.inl rfl)) pa_nil))) (pa_cons (pe_call G__law_some hr__law_some rfl T.g__law_some T.k__law_some T.b__law_some .nil pass0 (pa_cons (pv 0 (hv := Or.inl rfl)) (pa_cons (pv 1 (hv := Or.inl rfl)) pa_nil))) pa_nil))))
      (pss_cons (ps_set (i := 3) sc__law_pair.nd rfl (Or.inl rfl) (pe_tup (pa_cons (pe_call G__law_some hr__law_some rfl T.g__law_some T.k__law_some T.b__law_some .nil pass0 (pa_cons (pv 0 (hv := Or.inl rfl)) (pa_cons (pv 1 (hv := Or.inl rfl)) pa_nil))) (pa_cons (pe_call G__law_some hr__law_some rfl T.g__law_some T.k__law_some T.b__law_some .nil pass0 (pa_cons (pv 0 (hv := Or.inl rfl)) (pa_cons (pv 1 (hv := Or.inl rfl)) pa_nil))) pa_nil))))
      (pss_cons (ps_if (pt_cmpR op_eq (pe_call G__law_deal hr__law_deal rfl T.g__law_deal T.k__law_deal T.b__law_deal .nil pass0 (pa_cons (pv 0 (hv := Or.inl rfl)) (pa_cons pe_int pa_nil))) pe_int (nomark _)) (pss_one (ps_set (i := 3) sc__law_pair.nd rfl (Or.inl rfl) (pe_tup (pa_cons (pe_op op_add (pe_ix (r := rIxT K) ix_tup (pv 2 (hv := Or.inl rfl)) pe_int (fun _ _ => rfl)) (pe_op op_mul (pv 1 (hv := Or.inl rfl)) (pe_op op_sub (pe_call G__law_deal hr__law_deal rfl T.g__law_deal T.k__law_deal T.b__law_deal .nil pass0 (pa_cons (pv 0 (hv := Or.inl rfl)) (pa_cons pe_int pa_nil))) pe_int))) (pa_cons (pe_op op_sub (pe_op op_add (pe_ix (r := rIxT K) ix_tup (pv 2 (hv := Or.inl rfl)) pe_int (fun _ _ => rfl)) (pe_call G__law_deal hr__law_deal rfl T.g__law_deal T.k__law_deal T.b__law_deal .nil pass0 (pa_cons (pv 0 (hv := Or.inl rfl)) (pa_cons pe_int pa_nil)))) pe_int) pa_nil))))) pss_nil)
      (pss_one (ps_ret (pe_tup (pa_cons (pv 2 (hv := Or.inl rfl)) (pa_cons (pv 3 (hv := Or.inl rfl)) pa_nil)))))))), ?_⟩
    try dsimp only [cxOf, Cx.nox, Cx.wish, Cx.blk]
    rw [show L2.start ["_law_deck_here", "_law_size", "_law_mine", "_law_its"] [.ref p, .int m] = [some (.ref p), some (.int m), none, none] from rfl]
    obtain ⟨hs, n40, m0, m57, k⟩ := h
    have q59 : (10 : Int) ^ 59 * 2 < 10 ^ 60 := by decide +kernel
    have q57 : (10 : Int) ^ 57 * 10 < 10 ^ 59 := by decide +kernel
    walk_at "rd"
    refine ⟨p, m, n, rfl, hs, by omega, m0, m57, fun a H1 a1 a2 kp1 hs1 => ?_⟩
    walk_at "rd"
    refine ⟨p, m, _, rfl, hs1, by omega, m0, m57, fun b H2 b1 b2 kp2 hs2 => ?_⟩
    walk_at "rd"
    refine ⟨by show 2 ≤ sizeLine; decide, fun m1 hm1 => ?_⟩
    have hm1' : (L2.upd H2 m1 (.tup [.int a, .int b])) m1 = some (.tup [.int a, .int b]) := upd_same
    have n1 := hs2.ne hm1
    have kp3 := (kp1.trans kp2).new (o := .tup [.int a, .int b]) hm1
    have hs3 := hs2.new (o := .tup [.int a, .int b]) hm1
    generalize L2.upd H2 m1 _ = H3 at hm1' kp3 hs3 ⊢
    walk_at "rd"
    refine ⟨p, m, _, rfl, hs3, by omega, m0, m57, fun c H4 c1 c2 kp4 hs4 => ?_⟩
    walk_at "rd"
    refine ⟨p, m, _, rfl, hs4, by omega, m0, m57, fun d H5 d1 d2 kp5 hs5 => ?_⟩
    walk_at "rd"
    refine ⟨by show 2 ≤ sizeLine; decide, fun m2 hm2 => ?_⟩
    have hm2' : (L2.upd H5 m2 (.tup [.int c, .int d])) m2 = some (.tup [.int c, .int d]) := upd_same
    have n2 := hs5.ne hm2
    have hm1' := gn (u := .tup [.int c, .int d]) (kp5 _ _ n1 (kp4 _ _ n1 hm1')) hm2
    have kp6 := (kp3.trans (kp4.trans kp5)).new (o := .tup [.int c, .int d]) hm2
    have hs6 := hs5.new (o := .tup [.int c, .int d]) hm2
    generalize L2.upd H5 m2 _ = H6 at hm1' hm2' kp6 hs6 ⊢
    clear kp1 kp2 kp3 kp4 kp5 hs1 hs2 hs3 hs4 hs5
    walk_at "rd"
    refine ⟨p, _, _, rfl, hs6, by omega, by decide, b89 (bb_sm (by decide) (by decide)), fun u H7 u0 u1 kp7 hs7 => ?_⟩
    walk_at "rd"
    have hm1' := kp7 _ _ n1 hm1'
    have hm2' := kp7 _ _ n2 hm2'
    have kp7 := kp6.trans kp7
    refine w_stJ (fun σ' H' => ∃ (m2 : Addr) (c d : Int), σ' = [some (.ref p), some (.int m), some (.ref m1), some (.ref m2)] ∧ H' m1 = some (.tup [.int a, .int b]) ∧ H' m2 = some (.tup [.int c, .int d]) ∧ m2 ≠ p ∧ SD c ∧ SD d ∧ Kp p H H' ∧ SrcN (n + 690) H' p) (fun cu D' q => ?_) (fun cu D' q => ?_) ?_
    · walk_at "rd"
      refine ⟨p, _, _, rfl, hs7, by omega, by decide, b89 (bb_sm (by decide) (by decide)), fun u2 H8 u20 u21 kp8 hs8 => ?_⟩
      have hm1' := kp8 _ _ n1 hm1'
      walk_at "rd"
      refine w_I (CC := CMul) (Or.inr ⟨by omega, by omega⟩) ?_
      obtain ⟨e, he⟩ : ∃ e, e = m * (u2 - 1) := ⟨_, rfl⟩
      have he2 : -m ≤ e ∧ e ≤ m := by
        rw [he]
        rcases (show u2 = 0 ∨ u2 = 1 ∨ u2 = 2 by omega) with rfl | rfl | rfl <;> omega
      rw [← he]
      walk_at "rd"
      refine ⟨p, _, _, rfl, hs8, by omega, by decide, b89 (bb_sm (by decide) (by decide)), fun u3 H10 u30 u31 kp10 hs10 => ?_⟩
      have hm1' := kp10 _ _ n1 hm1'
      walk_at "rd"
      refine ⟨by show 2 ≤ sizeLine; decide, fun m3 hm3 => ?_⟩
      exact q _ _ ⟨m3, a + e, b + u3 - 1, rfl, gn hm1' hm3, upd_same, hs10.ne hm3, ⟨by omega, by omega⟩, ⟨by omega, by omega⟩, ((kp7.trans kp8).trans kp10).new hm3, (hs10.new hm3).le (by omega)⟩
    · walk_at "rd"
      exact q _ _ ⟨m2, c, d, rfl, hm1', hm2', n2, ⟨by omega, by omega⟩, ⟨by omega, by omega⟩, kp7, hs7.le (by omega)⟩
    rintro _ H9 ⟨m2, c, d, rfl, h1, h2, n2, sc, sd, kp9, hs9⟩
    walk_at "rd"
    refine ⟨by show 2 ≤ sizeLine; decide, fun q hq => ?_⟩
    exact k q m1 m2 a b c d _ upd_same (gn h1 hq) (gn h2 hq) n1 n2 (hs9.ne hq) ⟨by omega, by omega⟩ ⟨by omega, by omega⟩ sc sd (kp9.new hq) ((hs9.new hq).le (by omega))

structure TabW (H : Hp) (D : Addr) (W : Int → Int) (f : Int) (n : Nat) (ts : List Addr) : Prop where
  lst : H D = some (.lst (ts.map V.ref))
  len : ts.length = n
  row : ∀ (i : Nat) (t : Addr), ts[i]? = some t → H t = some (.tup [.int (W (f + (i : Int))), .int (f + (i : Int))])
theorem TabW.sm {TS : List (Addr × Str)} {H H' : Hp} {D : Addr} {W : Int → Int} {f : Int} {n : Nat} {ts : List Addr} (h : TabW H D W f n ts) (s : Sm TS H H') : TabW H' D W f n ts := ⟨s.at h.lst, h.len, fun i t e => s.at (h.row i t e)⟩
theorem TabW.kq {TS : List (Addr × Str)} {p : Addr} {H H' : Hp} {D : Addr} {W : Int → Int} {f : Int} {n : Nat} {ts : List Addr} (h : TabW H D W f n ts) (s : Kq TS p H H') {m : Nat} (hs : SrcN m H p) (hD : D ≠ p) : TabW H' D W f n ts := ⟨s.at hD h.lst, h.len, fun i t e => s.at (fun z => by
  obtain ⟨xs, hx⟩ := hs.lst
  have := h.row i t e
  rw [z, hx] at this; cases this) (h.row i t e)⟩
theorem TabW.more {H : Hp} {D t : Addr} {W : Int → Int} {f : Int} {i : Nat} {ts : List Addr} (R : TabW H D W f i ts) (ht : H t = none) (q : H D = some (.lst (ts.map V.ref))) : TabW (L2.upd (L2.upd H t (.tup [.int (W (f + (i : Int))), .int (f + (i : Int))])) D (.lst (ts.map V.ref ++ [.ref t]))) D W f (i + 1) (ts ++ [t]) := by
  refine ⟨by rw [upd_same, List.map_append]; rfl, by rw [List.length_append, R.len]; rfl, fun j t' e => ?_⟩
  have nt : t ≠ D := (ne_of_none q ht).symm
  by_cases c : j < ts.length
  · rw [List.getElem?_append_left c] at e
    have z := R.row j t' e
    rw [upd_ne (ne_of z R.lst (by intro y; cases y))]
    exact gn z ht
  · rw [List.getElem?_append_right (by omega)] at e
    have e0 : j - ts.length = 0 := by
      have := (List.getElem?_eq_some_iff.mp e).1
      simpa using this
    rw [e0] at e
    have et : t = t' := by simpa using e
    subst et
    have ej : j = i := by have := R.len; omega
    subst ej
    rw [upd_ne nt]
    exact upd_same
def sp__law_table (K : PySem.W.Frag) (C : Addr) (C_Walk : Addr) (C_InvalidBound : Addr) (TS : List (Addr × Str)) : Sp := fun vs H Q _ => ∃ (m1 m2 : Addr) (lo f l : Int) (a b c d : Int) (wd N : Nat), vs = [.ref m1, .ref m2, .int lo, .int (2 ^ wd), .int f, .int l] ∧ H m1 = some (.tup [.int a, .int b]) ∧ H m2 = some (.tup [.int c, .int d]) ∧ SD a ∧ SD b ∧ SD c ∧ SD d ∧ l - f + 1 = (N : Int) ∧ N ≤ 61 ∧ -(10 ^ 60) < f ∧ f < 10 ^ 60 ∧ ∀ (D : Addr) (ts : List Addr) H', TabW H' D (fun x => (a * x + b - lo) % 2 ^ wd - (c * x + d - lo) % 2 ^ wd) f N ts → Sm TS H H' → H D = none → Q (.ref D) H'
theorem ok__law_table {P : Program} {w : World} {K : PySem.W.Frag} {mg : Str → Option Value} {base : Heap} (T : Txt K mg) (B : TBs T base w P) : FnOk P w K mg base CX0 1 T.f__law_table T.fd__law_table ["_law_mine", "_law_its", "_law_least_one", "_law_size", "_law_begin", "_law_end"] (sp__law_table K T.C_Kind T.C_Walk T.C_InvalidBound T.tabs) := by
  refine T.F__law_table.ok sc__law_table (fun vs H Q E h => ?_) (fun cdv A outer s H vs Q E hr h => ?_)
  · obtain ⟨m1, m2, lo, f, l, a, b, c, d, wd, N, rfl, _⟩ := h
    rfl
  · obtain ⟨m1, m2, lo, f, l, a, b, c, d, wd, N, rfl, h⟩ := h
    refine ⟨_, (pss_cons (ps_set (i := 6) sc__law_table.nd rfl (Or.inl rfl) (pe_lst pa_nil))
      (pss_cons (ps_for PassesOwn.never rfl (pi_rangeL (by rfl) T.n_range (pa_cons (pv 4 (hv := Or.inl rfl)) (pa_cons (pe_op op_add (pv 5 (hv := Or.inl rfl)) pe_int) pa_nil))) (pg_name (i := 7) sc__law_table.nd rfl (Or.inr rfl))
        (pss_cons (ps_asg (pe_lc (own := [("_law_line", 10)]) (g := gName 10) (tt := tYes) (by rfl) sc__law_table.nd (pi_tup (pe_tup (pa_cons (pv 0 (hv := Or.inl rfl)) (pa_cons (pv 1 (hv := Or.inl rfl)) pa_nil)))) (blkOk_by (own := [("_law_line", 10)]) (N := ["_law_mine", "_law_its", "_law_least_one", "_law_size", "_law_begin", "_law_end", "_law_found", "_law_at", "_law_left", "_law_right_here", "_law_line"]) (sc := defScope s__law_table) (by decide +kernel)) (fun _ _ _ _ _ => (pg_name (i := 10) sc__law_table.nd rfl (Or.inl rfl))) (fun _ _ _ _ _ => pts_nil) (fun _ _ _ _ _ => (pe_op op_mod (pe_callTy (T := "int") (r := rIntC) call_int1 (by rfl) T.n_int (by decide +kernel) (pa_cons (pe_op op_sub (pe_op op_add (pe_op op_mulX (pe_ix (r := rIxT K) ix_tup (pv 10 (hv := Or.inl rfl)) pe_int (fun _ _ => rfl)) (pv 7 (hv := Or.inr (Or.inl rfl)))) (pe_ix (r := rIxT K) ix_tup (pv 10 (hv := Or.inl rfl)) pe_int (fun _ _ => rfl))) (pv 2 (hv := Or.inr (Or.inl rfl)))) pa_nil)) (pv 3 (hv := Or.inr (Or.inl rfl)))))) (pg_unl rfl (pgs_cons (pg_name (i := 8) sc__law_table.nd rfl (Or.inl rfl)) (pgs_cons (pg_name (i := 9) sc__law_table.nd rfl (Or.inl rfl)) pgs_nil))))
      (pss_one (ps_expr (pe_bm PySem.F.plainAttrs_list PySem.F.slot_list_append PySem.F.type_list_append mt_append (pv 6 (hv := Or.inl rfl)) (pa_cons (pe_tup (pa_cons (pe_op op_sub (pv 8 (hv := Or.inl rfl)) (pv 9 (hv := Or.inl rfl))) (pa_cons (pv 7 (hv := Or.inr (Or.inl rfl))) pa_nil))) pa_nil))))))
      (pss_one (ps_ret (pv 6 (hv := Or.inl rfl)))))), ?_⟩
    try dsimp only [cxOf, Cx.nox, Cx.wish, Cx.blk]
    rw [show L2.start ["_law_mine", "_law_its", "_law_least_one", "_law_size", "_law_begin", "_law_end", "_law_found", "_law_at", "_law_left", "_law_right_here", "_law_line"] [.ref m1, .ref m2, .int lo, .int (2 ^ wd), .int f, .int l] = [some (.ref m1), some (.ref m2), some (.int lo), some (.int (2 ^ wd)), some (.int f), some (.int l), none, none, none, none, none] from rfl]
    obtain ⟨h1, h2, SDa, SDb, SDc, SDd, hdl, n61, f1, f2, k⟩ := h
    have hp := p2 wd
    have q60 : (10 : Int) ^ 60 * 10 < 10 ^ 62 := by decide +kernel
    walk_at "rd"
    refine ⟨by show 0 ≤ sizeLine; decide, fun D hD => ?_⟩
    have sD := (Sm.refl (T := T.tabs) H).new (o := .lst []) hD
    have hDl : (L2.upd H D (.lst [])) D = some (.lst ([].map V.ref)) := upd_same
    walk_at "rd"
    refine w_iRngL ?_
    walk_at "rd"
    refine ⟨f, l + 1, rfl, ?_⟩
    rw [show (l + 1 - f).toNat = N by omega]
    refine for_range (lo := f) (n := N) (fun i σ H' => (∃ (v7 v8 v9 : Option V), σ = [some (.ref m1), some (.ref m2), some (.int lo), some (.int (2 ^ wd)), some (.int f), some (.int l), some (.ref D), v7, v8, v9, none]) ∧ ∃ ts, TabW H' D (fun x => (a * x + b - lo) % 2 ^ wd - (c * x + d - lo) % 2 ^ wd) f i ts ∧ Sm T.tabs H H')
      ⟨⟨_, _, _, rfl⟩, [], ⟨hDl, rfl, fun i t e => by simp at e⟩, sD⟩ ?_ ?_
    · rintro i σ H' hi ⟨⟨v7, v8, v9, rfl⟩, ts, R, s20⟩
      have bx : BB (f + (i : Int)) := bb_ten (by omega) (by omega)
      have g1 := s20.at h1
      have g2 := s20.at h2
      walk_at "rd"
      refine w_iTup ?_
      walk_at "rd"
      refine ⟨by show 2 ≤ sizeLine; decide, fun t5 ht5 => ?_⟩
      have s21 := (Sm.refl (T := T.tabs) H').new (o := .tup [.ref m1, .ref m2]) ht5
      have ht5' : (L2.upd H' t5 (.tup [.ref m1, .ref m2])) t5 = some (.tup [.ref m1, .ref m2]) := upd_same
      generalize L2.upd H' t5 _ = HA at s21 ht5' ⊢
      obtain ⟨F1, hF1⟩ : ∃ F1, F1 = (a * (f + (i : Int)) + b - lo) % 2 ^ wd := ⟨_, rfl⟩
      obtain ⟨F2, hF2⟩ : ∃ F2, F2 = (c * (f + (i : Int)) + d - lo) % 2 ^ wd := ⟨_, rfl⟩
      refine ⟨t5, rfl, ⟨_, SqT.of ht5'⟩, fun D6 hD6 => lc_tup (K := K) (a := t5) (xs := [.ref m1, .ref m2]) (fun j H'' => H'' D6 = some (.lst ((List.take j [F1, F2]).map V.int)) ∧ Sm T.tabs HA H'') ⟨upd_same, (Sm.refl HA).new hD6⟩ (fun i H' _ q => SqT.of (q.2.at ht5')) ?_ ?_⟩
      · rintro j y H'' hj ⟨hd6, s22⟩
        have g1 := s22.at (s21.at g1)
        have g2 := s22.at (s21.at g2)
        rcases j with _ | _ | j
        · obtain rfl := Option.some.inj hj
          walk_at "rd"
          refine ⟨rfl, ?_⟩
          walk_at "rd"
          refine iteT ?_
          walk_at "rd"
          refine w_I (mulx_ok SDa.bb bx (by decide)) ?_
          walk_at "rd"
          refine w_I hp ?_
          rw [← hF1]
          exact ⟨_, hd6, by show 0 < sizeLine; decide, upd_same, s22.mut hD6 hd6⟩
        · obtain rfl := Option.some.inj hj
          walk_at "rd"
          refine ⟨rfl, ?_⟩
          walk_at "rd"
          refine iteT ?_
          walk_at "rd"
          refine w_I (mulx_ok SDc.bb bx (by decide)) ?_
          walk_at "rd"
          refine w_I hp ?_
          rw [← hF2]
          exact ⟨_, hd6, by show 1 < sizeLine; decide, upd_same, s22.mut hD6 hd6⟩
        · cases hj
      rintro HB ⟨hd6, s22⟩
      have hd6 : HB D6 = some (.lst ([F1, F2].map V.int)) := hd6
      have sC := s21.trans s22
      have R' := R.sm sC
      walk_at "rd"
      refine w_gunl (xs := [.int F1, .int F2]) hd6 rfl ?_
      walk_at "rd"
      refine w_bm ?_
      walk_at "rd"
      refine ⟨.inl ⟨rfl, _, SqL.of R'.lst⟩, ?_⟩
      walk_at "rd"
      refine ⟨by show 2 ≤ sizeLine; decide, fun t6 ht6 => ?_⟩
      subst hF1 hF2
      walk_at "rd"
      refine ⟨D, _, _, rfl, rfl, gn R'.lst ht6, by rw [List.length_map, R'.len]; exact small1000 (by omega), ?_⟩
      walk_at "rd"
      exact ⟨⟨_, _, _, rfl⟩, ts ++ [t6], R'.more ht6 R'.lst, ((s20.trans sC).new ht6).mut hD (gn R'.lst ht6)⟩
    rintro σ H12 ⟨⟨v7, v8, v9, rfl⟩, ts, R, s20⟩
    walk_at "rd"
    exact k D ts H12 R s20 hD
def sp__law_is_so (K : PySem.W.Frag) (C : Addr) (C_Walk : Addr) (C_InvalidBound : Addr) (TS : List (Addr × Str)) : Sp := fun vs H Q _ => ∃ (z : Str) (g : Int), vs = [.str z, .int g] ∧ Rel z ∧ ∀ H', Sm TS H H' → Q (.bl (relB z g 0)) H'
theorem ok__law_is_so {P : Program} {w : World} {K : PySem.W.Frag} {mg : Str → Option Value} {base : Heap} (T : Txt K mg) (B : TBs T base w P) : FnOk P w K mg base CX0 1 T.f__law_is_so T.fd__law_is_so ["_law_word", "_law_gap"] (sp__law_is_so K T.C_Kind T.C_Walk T.C_InvalidBound T.tabs) := by
  refine T.F__law_is_so.ok sc__law_is_so (fun vs H Q E h => ?_) (fun cdv A outer s H vs Q E hr h => ?_)
  · obtain ⟨z, g, rfl, _⟩ := h
    rfl
  · obtain ⟨z, g, rfl, h⟩ := h
    refine ⟨_, (pss_cons (ps_if (pt_cmpR op_eq (pv 1 (hv := Or.inl rfl)) pe_int (nomark _)) (pss_one (ps_ret (pe_cmpR (r := rIn K false) op_in_seq (pv 0 (hv := Or.inl rfl)) (pe_tup (pa_cons pe_str (pa_cons pe_str (pa_cons pe_str pa_nil)))) (by rfl)))) pss_nil)
      (pss_one (ps_ret (pe_cmpR (r := rIn K false) op_in_seq (pv 0 (hv := Or.inl rfl)) (pe_ifExp (pt_cmpR op_lt (pv 1 (hv := Or.inl rfl)) pe_int (nomark _)) (pe_tup (pa_cons pe_str (pa_cons pe_str (pa_cons pe_str pa_nil)))) (pe_tup (pa_cons pe_str (pa_cons pe_str (pa_cons pe_str pa_nil))))) (by rfl))))), ?_⟩
    try dsimp only [cxOf, Cx.nox, Cx.wish, Cx.blk]
    rw [show L2.start ["_law_word", "_law_gap"] [.str z, .int g] = [some (.str z), some (.int g)] from rfl]
    obtain ⟨hz, k⟩ := h
    walk_at "rd"
    refine w_dec (fun c => ?_) (fun c => ?_)
    · subst c
      walk_at "rd"
      refine ⟨by show 3 ≤ sizeLine; decide, fun t ht => ?_⟩
      refine w_inT (SqT.of upd_same) rfl (by decide +kernel) ?_
      rw [is0 hz]
      exact k _ ((Sm.refl H).new ht)
    · walk_at "rd"
      refine w_if ?_
      walk_at "rd"
      refine w_dec (fun c2 => ?_) (fun c2 => ?_)
      · walk_at "rd"
        refine ⟨by show 3 ≤ sizeLine; decide, fun t ht => ?_⟩
        refine w_inT (SqT.of upd_same) rfl (by decide +kernel) ?_
        rw [is1 hz c2]
        exact k _ ((Sm.refl H).new ht)
      · walk_at "rd"
        refine ⟨by show 3 ≤ sizeLine; decide, fun t ht => ?_⟩
        refine w_inT (SqT.of upd_same) rfl (by decide +kernel) ?_
        rw [is2 (g := g) hz (by omega)]
        exact k _ ((Sm.refl H).new ht)
def sp__law_right (K : PySem.W.Frag) (C : Addr) (C_Walk : Addr) (C_InvalidBound : Addr) (TS : List (Addr × Str)) : Sp := fun vs H Q _ => ∃ (p : Addr) (n : Nat), vs = [.ref p] ∧ SrcN n H p ∧ n < 2 ^ 38 ∧ LamX.Tabs TS H ∧ ∀ H', Kq TS p H H' → SrcN (n + 2000) H' p → Q (.bl true) H'
theorem ok__law_right {P : Program} {w : World} {K : PySem.W.Frag} {mg : Str → Option Value} {base : Heap} (T : Txt K mg) (B : TBs T base w P) : FnOk P w K mg base CX0 20 T.f__law_right T.fd__law_right ["_law_deck_here"] (sp__law_right K T.C_Kind T.C_Walk T.C_InvalidBound T.tabs) := by
  have G__law_deal := ok__law_deal (P := P) (w := w) (base := base) T B
  have G__law_is_so := ok__law_is_so (P := P) (w := w) (base := base) T B
  have G__law_near := ok__law_near (P := P) (w := w) (base := base) T B
  have G__law_pair := ok__law_pair (P := P) (w := w) (base := base) T B
  have G__law_some := ok__law_some (P := P) (w := w) (base := base) T B
  have G__law_table := ok__law_table (P := P) (w := w) (base := base) T B
  have G_compares := ok_compares (P := P) (w := w) (base := base) T B
  have G_first_holding := ok_first_holding (P := P) (w := w) (base := base) T B
  have G_holding_at := ok_holding_at (P := P) (w := w) (base := base) T B
  have G_holds := ok_holds (P := P) (w := w) (base := base) T B
  have G_last_holding := ok_last_holding (P := P) (w := w) (base := base) T B
  refine T.F__law_right.ok sc__law_right (fun vs H Q E h => ?_) (fun cdv A outer s H vs Q E hr h => ?_)
  · obtain ⟨p, n, rfl, _⟩ := h
    rfl
  · obtain ⟨p, n, rfl, h⟩ := h
    have hr__law_deal : Room 1 _ := hr.mono (by decide)
    have hr__law_is_so : Room 1 _ := hr.mono (by decide)
    have hr__law_near : Room 4 _ := hr.mono (by decide)
    have hr__law_pair : Room 4 _ := hr.mono (by decide)
    have hr__law_some : Room 3 _ := hr.mono (by decide)
    have hr__law_table : Room 1 _ := hr.mono (by decide)
    have hr_compares : Room 5 _ := hr.mono (by decide)
    have hr_first_holding : Room 19 _ := hr.mono (by decide)
    have hr_holding_at : Room 18 _ := hr.mono (by decide)
    have hr_holds : Room 6 _ := hr.mono (by decide)
    have hr_last_holding : Room 18 _ := hr.mono (by decide)
    refine ⟨_, (pss_cons (ps_asg (pe_call G__law_near hr__law_near rfl T.g__law_near T.k__law_near T.b__law_near .nil pass0 (pa_cons (pv 0 (hv := Or.inl rfl)) pa_nil)) (pg_tup rfl (pgs_cons (pg_name (i := 1) sc__law_right.nd rfl (Or.inr rfl)) (pgs_cons (pg_name (i := 2) sc__law_right.nd rfl (Or.inl rfl)) (pgs_cons (pg_name (i := 3) sc__law_right.nd rfl (Or.inl rfl)) pgs_nil)))))
      (pss_cons (ps_asg (pe_call G__law_pair hr__law_pair rfl T.g__law_pair T.k__law_pair T.b__law_pair .nil pass0 (pa_cons (pv 0 (hv := Or.inl rfl)) (pa_cons (pv 3 (hv := Or.inl rfl)) pa_nil))) (pg_tup rfl (pgs_cons (pg_name (i := 4) sc__law_right.nd rfl (Or.inr rfl)) (pgs_cons (pg_name (i := 5) sc__law_right.nd rfl (Or.inr rfl)) pgs_nil))))
      (pss_cons (ps_set (i := 6) sc__law_right.nd rfl (Or.inl rfl) (pe_call G__law_some hr__law_some rfl T.g__law_some T.k__law_some T.b__law_some .nil pass0 (pa_cons (pv 0 (hv := Or.inl rfl)) (pa_cons (pv 3 (hv := Or.inl rfl)) pa_nil))))
      (pss_cons (ps_set (i := 7) sc__law_right.nd rfl (Or.inl rfl) (pe_op op_sub (pe_op op_add (pv 6 (hv := Or.inl rfl)) (pe_call G__law_deal hr__law_deal rfl T.g__law_deal T.k__law_deal T.b__law_deal .nil pass0 (pa_cons (pv 0 (hv := Or.inl rfl)) (pa_cons pe_int pa_nil)))) pe_int))
      (pss_cons (ps_set (i := 8) sc__law_right.nd rfl (Or.inl rfl) (pe_call G__law_table hr__law_table rfl T.g__law_table T.k__law_table T.b__law_table .nil pass0 (pa_cons (pv 4 (hv := Or.inr (Or.inl rfl))) (pa_cons (pv 5 (hv := Or.inr (Or.inl rfl))) (pa_cons (pv 2 (hv := Or.inl rfl)) (pa_cons (pv 3 (hv := Or.inl rfl)) (pa_cons (pv 6 (hv := Or.inl rfl)) (pa_cons (pv 7 (hv := Or.inl rfl)) pa_nil))))))))
      (pss_cons (ps_for PassesOwn.never rfl (pi_tup (pe_tup (pa_cons pe_str (pa_cons pe_str (pa_cons pe_str (pa_cons pe_str (pa_cons pe_str (pa_cons pe_str pa_nil)))))))) (pg_name (i := 9) sc__law_right.nd rfl (Or.inr rfl))
        (pss_cons (ps_setLc (i := 10) (own := [("_law_gap", 11), ("_law_at", 12)]) (g := gTup K 2 (gCons (gName 11) (gCons (gName 12) gNil))) rfl sc__law_right.nd rfl rfl (sw_true rfl rfl rfl (by decide +kernel)) (pi_list (pv 8 (hv := Or.inl rfl))) (blkOk_by (own := [("_law_gap", 11), ("_law_at", 12)]) (N := ["_law_deck_here", "_law_own", "_law_least_one", "_law_size", "_law_mine", "_law_its", "_law_begin", "_law_end", "_law_table_here", "_law_word", "_law_due", "_law_gap", "_law_at", "_law_k"]) (sc := defScope s__law_right) (by decide +kernel)) (fun _ _ _ _ _ => (pg_tup rfl (pgs_cons (pg_name (i := 11) sc__law_right.nd rfl (Or.inl rfl)) (pgs_cons (pg_name (i := 12) sc__law_right.nd rfl (Or.inl rfl)) pgs_nil)))) (fun _ _ _ _ _ => pts_one (pt_val (pe_call G__law_is_so hr__law_is_so rfl T.g__law_is_so T.k__law_is_so T.b__law_is_so .nil pass0 (pa_cons (pv 9 (hv := Or.inr (Or.inl rfl))) (pa_cons (pv 11 (hv := Or.inl rfl)) pa_nil))))) (fun _ _ _ _ _ => (pv 12 (hv := Or.inl rfl))))
      (pss_cons (ps_if (pt_cmpR (op_neD hr.units) (pe_lc (own := [("_law_gap", 11), ("_law_at", 12)]) (g := gTup K 2 (gCons (gName 11) (gCons (gName 12) gNil))) (by rfl) sc__law_right.nd (pi_list (pv 8 (hv := Or.inl rfl))) (blkOk_by (own := [("_law_gap", 11), ("_law_at", 12)]) (N := ["_law_deck_here", "_law_own", "_law_least_one", "_law_size", "_law_mine", "_law_its", "_law_begin", "_law_end", "_law_table_here", "_law_word", "_law_due", "_law_gap", "_law_at", "_law_k"]) (sc := defScope s__law_right) (by decide +kernel)) (fun _ _ _ _ _ => (pg_tup rfl (pgs_cons (pg_name (i := 11) sc__law_right.nd rfl (Or.inl rfl)) (pgs_cons (pg_name (i := 12) sc__law_right.nd rfl (Or.inl rfl)) pgs_nil)))) (fun _ _ _ _ _ => pts_one (pt_val (pe_call G_compares hr_compares rfl T.g_compares T.k_compares T.b_compares .nil pass0 (pa_cons (pv 1 (hv := Or.inr (Or.inl rfl))) (pa_cons (pv 4 (hv := Or.inr (Or.inl rfl))) (pa_cons (pv 9 (hv := Or.inr (Or.inl rfl))) (pa_cons (pv 5 (hv := Or.inr (Or.inl rfl))) (pa_cons (pv 12 (hv := Or.inl rfl)) pa_nil)))))))) (fun _ _ _ _ _ => (pv 12 (hv := Or.inl rfl)))) (pv 10 (hv := Or.inl rfl)) (nomark _)) (pss_one (ps_ret pe_bl)) pss_nil)
      (pss_cons (ps_if (pt_cmpR op_ne (pe_call G_holds hr_holds rfl T.g_holds T.k_holds T.b_holds .nil pass0 (pa_cons (pv 1 (hv := Or.inr (Or.inl rfl))) (pa_cons (pv 4 (hv := Or.inr (Or.inl rfl))) (pa_cons (pv 9 (hv := Or.inr (Or.inl rfl))) (pa_cons (pv 5 (hv := Or.inr (Or.inl rfl))) (pa_cons (pv 6 (hv := Or.inl rfl)) (pa_cons (pv 7 (hv := Or.inl rfl)) pa_nil))))))) (pe_callB (id := "len") (r := rLenS K) call_len_seq (by rfl) T.n_len (by decide +kernel) (pa_cons (pv 10 (hv := Or.inl rfl)) pa_nil)) (nomark _)) (pss_one (ps_ret pe_bl)) pss_nil)
      (pss_cons (ps_if (pt_cmpR op_ne (pe_call G_first_holding hr_first_holding rfl T.g_first_holding T.k_first_holding T.b_first_holding .nil pass0 (pa_cons (pv 1 (hv := Or.inr (Or.inl rfl))) (pa_cons (pv 4 (hv := Or.inr (Or.inl rfl))) (pa_cons (pv 9 (hv := Or.inr (Or.inl rfl))) (pa_cons (pv 5 (hv := Or.inr (Or.inl rfl))) (pa_cons (pv 6 (hv := Or.inl rfl)) (pa_cons (pv 7 (hv := Or.inl rfl)) pa_nil))))))) (pe_ix (r := rIxL K) ix_list (pe_op op_cat (pv 10 (hv := Or.inl rfl)) (pe_lst (pa_cons pe_non pa_nil))) pe_int (fun _ _ => rfl)) (nomark _)) (pss_one (ps_ret pe_bl)) pss_nil)
      (pss_cons (ps_if (pt_cmpR op_ne (pe_call G_last_holding hr_last_holding rfl T.g_last_holding T.k_last_holding T.b_last_holding .nil pass0 (pa_cons (pv 1 (hv := Or.inr (Or.inl rfl))) (pa_cons (pv 4 (hv := Or.inr (Or.inl rfl))) (pa_cons (pv 9 (hv := Or.inr (Or.inl rfl))) (pa_cons (pv 5 (hv := Or.inr (Or.inl rfl))) (pa_cons (pv 6 (hv := Or.inl rfl)) (pa_cons (pv 7 (hv := Or.inl rfl)) pa_nil))))))) (pe_ix (r := rIxL K) ix_list (pe_op op_cat (pe_lst (pa_cons pe_non pa_nil)) (pv 10 (hv := Or.inl rfl))) (pe_un un_neg pe_int) (fun _ _ => rfl)) (nomark _)) (pss_one (ps_ret pe_bl)) pss_nil)
      (pss_one (ps_for PassesOwn.never rfl (pi_list (pe_ifExp (pt_cmpR (op_neD hr.units) (pv 10 (hv := Or.inl rfl)) (pe_lst pa_nil) (nomark _)) (pe_lst (pa_cons pe_int (pa_cons (pe_op op_sub (pe_callB (id := "len") (r := rLenS K) call_len_seq (by rfl) T.n_len (by decide +kernel) (pa_cons (pv 10 (hv := Or.inl rfl)) pa_nil)) pe_int) (pa_cons (pe_call G__law_deal hr__law_deal rfl T.g__law_deal T.k__law_deal T.b__law_deal .nil pass0 (pa_cons (pv 0 (hv := Or.inl rfl)) (pa_cons (pe_callB (id := "len") (r := rLenS K) call_len_seq (by rfl) T.n_len (by decide +kernel) (pa_cons (pv 10 (hv := Or.inl rfl)) pa_nil)) pa_nil))) pa_nil)))) (pe_lst pa_nil))) (pg_name (i := 13) sc__law_right.nd rfl (Or.inl rfl))
        (pss_one (ps_if (pt_cmpR op_ne (pe_call G_holding_at hr_holding_at rfl T.g_holding_at T.k_holding_at T.b_holding_at .nil pass0 (pa_cons (pv 1 (hv := Or.inr (Or.inl rfl))) (pa_cons (pv 4 (hv := Or.inr (Or.inl rfl))) (pa_cons (pv 9 (hv := Or.inr (Or.inl rfl))) (pa_cons (pv 5 (hv := Or.inr (Or.inl rfl))) (pa_cons (pv 6 (hv := Or.inl rfl)) (pa_cons (pv 7 (hv := Or.inl rfl)) (pa_cons (pv 13 (hv := Or.inl rfl)) pa_nil)))))))) (pe_ix (r := rIxL K) ix_list (pv 10 (hv := Or.inl rfl)) (pv 13 (hv := Or.inl rfl)) (fun _ _ => rfl)) (nomark _)) (pss_one (ps_ret pe_bl)) pss_nil))))))))))
      (pss_one (ps_ret pe_bl)))))))), ?_⟩
    try dsimp only [cxOf, Cx.nox, Cx.wish, Cx.blk]
    rw [show L2.start ["_law_deck_here", "_law_own", "_law_least_one", "_law_size", "_law_mine", "_law_its", "_law_begin", "_law_end", "_law_table_here", "_law_word", "_law_due", "_law_gap", "_law_at", "_law_k"] [.ref p] = [some (.ref p), none, none, none, none, none, none, none, none, none, none, none, none, none] from rfl]
    obtain ⟨hs, n38, hT, k⟩ := h
    walk_at "rd"
    refine ⟨p, n, rfl, hs, by omega, fun t kx wd s H1 w1 w8 hk nk ht kp1 hs1 => ?_⟩
    have s1 : Kq T.tabs p H H1 := kp1.toQ hs.lst
    have hp := p2 wd
    have w2 : wd ≤ 128 := by omega
    have p256 : (2 : Int) ^ wd ≤ 256 := by
      have := Nat.pow_le_pow_right (n := 2) (by decide) w8
      have e : (2 : Nat) ^ 8 = 256 := by decide
      rw [e] at this
      exact_mod_cast this
    have q57 : (256 : Int) ≤ 10 ^ 57 := by decide +kernel
    have q59 : (10 : Int) ^ 59 * 2 < 10 ^ 60 := by decide +kernel
    walk_at "rd"
    refine ⟨p, 2 ^ wd, _, rfl, hs1, by omega, hp, by omega, fun qp m1 m2 a b c d H2 hqp h1 h2 n1 n2 nq SDa SDb SDc SDd kp2 hs2 => ?_⟩
    have s2 : Kq T.tabs p H1 H2 := kp2.toQ hs1.lst
    walk_at "rd"
    refine ⟨p, 2 ^ wd, _, rfl, hs2, by omega, hp, by omega, fun f H3 f1 f2 kp3 hs3 => ?_⟩
    have s3 : Kq T.tabs p H2 H3 := kp3.toQ hs2.lst
    walk_at "rd"
    refine ⟨p, _, _, rfl, hs3, by omega, by decide, b89 (bb_sm (by decide) (by decide)), fun dv H4 dv0 dv1 kp4 hs4 => ?_⟩
    have s4 : Kq T.tabs p H3 H4 := kp4.toQ hs3.lst
    obtain ⟨N, rfl⟩ := Int.eq_ofNat_of_zero_le dv0
    obtain ⟨l, hl⟩ : ∃ l, l = f + (N : Int) - 1 := ⟨_, rfl⟩
    walk_at "rd"
    rw [← hl]
    have hdl : l - f + 1 = (N : Int) := by omega
    have sf : SD f := ⟨by omega, by omega⟩
    have sl : SD l := ⟨by omega, by omega⟩
    have s34 := s3.trans s4
    have h1 := s34.at n1 h1
    have h2 := s34.at n2 h2
    have hk4 := hk.kq nk (s2.trans s34)
    have sA := (s1.trans s2).trans s34
    have hT4 := sA.2 hT
    clear hs1 hs2 hs3 s1 s2 s3 s4 s34 kp1 kp2 kp3 kp4 hqp ht hk
    refine ⟨m1, m2, _, f, l, a, b, c, d, wd, N, rfl, h1, h2, SDa, SDb, SDc, SDd, hdl, by omega, by omega, by omega, fun D ts H5 R s5 hD => ?_⟩
    have nD : D ≠ p := hs4.ne hD
    have hk5 := hk4.sm s5
    have h1 := s5.at h1
    have h2 := s5.at h2
    have hs5 := hs4.sm s5
    have sA := sA.sm s5
    have hT5 := s5.2 hT4
    clear hk4 hT4 hs4 s5 hD
    walk_at "rd"
    refine w_iTup ?_
    walk_at "rd"
    refine ⟨by show 6 ≤ sizeLine; decide, fun t7 ht7 => ?_⟩
    have s6 := (Sm.refl (T := T.tabs) H5).new (o := .tup [.str "<", .str "<=", .str "==", .str "!=", .str ">=", .str ">"]) ht7
    have ht7' : (L2.upd H5 t7 (.tup [.str "<", .str "<=", .str "==", .str "!=", .str ">=", .str ">"])) t7 = some (.tup ([("<" : Str), "<=", "==", "!=", ">=", ">"].map V.str)) := upd_same
    have n7 := hs5.ne ht7
    walk_at "rd"
    generalize L2.upd H5 t7 _ = H6 at s6 ht7' ⊢
    obtain ⟨Ws, hWs⟩ : ∃ Ws : List Str, Ws = [("<" : Str), "<=", "==", "!=", ">=", ">"] := ⟨_, rfl⟩
    rw [← hWs] at ht7'
    have lW : Ws.length = 6 := by rw [hWs]; rfl
    have R := R.sm s6
    have hk6 := hk5.sm s6
    have h1 := s6.at h1
    have h2 := s6.at h2
    have hs6 := hs5.sm s6
    have sA := sA.sm s6
    have hT6 := s6.2 hT5
    obtain ⟨nB, hnB⟩ : ∃ m, m = n + 900 := ⟨_, rfl⟩
    have hs6 : SrcN nB H6 p := hs6.le (by omega)
    clear hk5 hT5 hs5 s6 ht7
    refine ⟨⟨_, SqT.of ht7'⟩, for_tup (K := K) (a := t7) (xs := Ws.map V.str) (fun i σ H' => (∃ (v9 v10 v11 v12 v13 : Option V), σ = [some (.ref p), some (.ref kx), some (.int (loK wd s)), some (.int (2 ^ wd)), some (.ref m1), some (.ref m2), some (.int f), some (.int l), some (.ref D), v9, v10, v11, v12, v13]) ∧ Kq T.tabs p H6 H' ∧ SrcN (nB + i) H' p)
      ⟨⟨_, _, _, _, _, rfl⟩, Kq.refl H6, hs6⟩ (fun i σ H' _ q => SqT.of (q.2.1.at n7 ht7')) ?_ ?_⟩
    · rintro i y σ H' hi ⟨⟨v9, v10, v11, v12, v13, rfl⟩, s21, hs7⟩
      have il6 : i < 6 := by
        have := (List.getElem?_eq_some_iff.mp hi).1
        rw [List.length_map, lW] at this; exact this
      obtain ⟨z, hz', rfl⟩ := map_get hi
      have hz : Rel z := by
        have := List.mem_of_getElem? hz'
        rw [hWs] at this
        simpa [Rel] using this
      walk_at "rd"
      have R' := R.kq s21 hs6 nD
      have hkD := hk6.kq nk s21
      have q1 := s21.at n1 h1
      have q2 := s21.at n2 h2
      have hTD := s21.2 hT6
      obtain ⟨P, hP⟩ : ∃ P, P = cmP wd s z a b c d := ⟨_, rfl⟩
      have Px : ∀ x, relB z ((a * x + b - loK wd s) % 2 ^ wd - (c * x + d - loK wd s) % 2 ^ wd) 0 = P x := fun x => by
        rw [hP]
        have w1 : wr wd s (a * x + b) = loK wd s + (a * x + b - loK wd s) % 2 ^ wd := rfl
        have w2' : wr wd s (c * x + d) = loK wd s + (c * x + d - loK wd s) % 2 ^ wd := rfl
        show _ = relB z (wr wd s (a * x + b)) (wr wd s (c * x + d))
        generalize (a * x + b - loK wd s) % 2 ^ wd = A1 at w1 ⊢
        generalize (c * x + d - loK wd s) % 2 ^ wd = A2 at w2' ⊢
        exact rel_sg hz (by omega) (by omega)
      have wl0 : ∀ j, (wl P f j).length ≤ j := fun j => by
        unfold wl
        exact Nat.le_trans (List.length_filter_le _ _) (by rw [List.length_map, List.length_range]; exact Nat.le_refl _)
      have keep : ∀ j : Nat, P (f + (j : Int)) = true → wl P f (j + 1) = wl P f j ++ [f + (j : Int)] := fun j z => by rw [wl_succ, if_pos z]
      have drop : ∀ j : Nat, P (f + (j : Int)) = false → wl P f (j + 1) = wl P f j := fun j z => by rw [wl_succ, z, if_neg Bool.false_ne_true, List.append_nil]
      refine ⟨⟨_, SqL.of R'.lst⟩, fun D8 hD8 => lc_list (K := K) (a := D) (xs := ts.map V.ref) (fun j H'' => H'' D8 = some (.lst ((wl P f j).map V.int)) ∧ Sm T.tabs H' H'') ⟨upd_same, (Sm.refl H').new hD8⟩ (fun i H' _ q => SqL.of (q.2.at R'.lst)) ?_ ?_⟩
      · rintro j y H'' hj ⟨hd, s22⟩
        obtain ⟨t, ht, rfl⟩ := map_get hj
        have row := s22.at (R'.row j t ht)
        have jl : j < N := by have := get_lt ht; have := R'.len; omega
        have wj := wl0 j
        walk_at "rd"
        refine ⟨rfl, ?_⟩
        walk_at "rd"
        refine ⟨z, _, rfl, hz, fun H1 s1 => ?_⟩
        walk_at "rd"
        have hd := s1.at hd
        have s22 := s22.trans s1
        rw [Px]
        cases hp2 : P (f + (j : Int)) with
        | true =>
          refine iteT ?_
          walk_at "rd"
          refine ⟨_, hd, by rw [List.length_map]; exact small1000 (by omega), ?_, s22.mut hD8 hd⟩
          rw [upd_same, keep j hp2, List.map_append]
          rfl
        | false =>
          refine iteF ?_
          rw [drop j hp2]
          exact ⟨hd, s22⟩
      rintro H15 ⟨hd, s22⟩
      rw [List.length_map, R'.len] at hd
      obtain ⟨is, his⟩ : ∃ is, is = wl P f N := ⟨_, rfl⟩
      have il : (is.length : Int) = tot P f l := by rw [his]; exact wl_tot hdl
      have ild : is.length ≤ 61 := by
        have := wl0 N
        rw [← his] at this; omega
      rw [← his] at hd
      have R15 := R'.sm s22
      have hk15 := hkD.sm s22
      walk_at "rd"
      refine ⟨⟨_, SqL.of R15.lst⟩, fun D9 hD9 => lc_list (K := K) (a := D) (xs := ts.map V.ref) (fun j H'' => H'' D9 = some (.lst ((wl P f j).map V.int)) ∧ Sm T.tabs H15 H'') ⟨upd_same, (Sm.refl H15).new hD9⟩ (fun i H' _ q => SqL.of (q.2.at R15.lst)) ?_ ?_⟩
      · rintro j y H'' hj ⟨hd9, s23⟩
        obtain ⟨t, ht, rfl⟩ := map_get hj
        have row := s23.at (R15.row j t ht)
        have jl : j < N := by have := get_lt ht; have := R'.len; omega
        have wj := wl0 j
        have sx : SD (f + (j : Int)) := ⟨by omega, by omega⟩
        walk_at "rd"
        refine ⟨rfl, ?_⟩
        walk_at "rd"
        refine ⟨kx, m1, z, m2, _, a, b, c, d, wd, s, rfl, hk15.sm s23, s23.at (s22.at q1), s23.at (s22.at q2), SDa, SDb, SDc, SDd, hz, sx, ?_⟩
        walk_at "rd"
        rw [← hP]
        cases hp2 : P (f + (j : Int)) with
        | true =>
          refine iteT ?_
          walk_at "rd"
          refine ⟨_, hd9, by rw [List.length_map]; exact small1000 (by omega), ?_, s23.mut hD9 hd9⟩
          rw [upd_same, keep j hp2, List.map_append]
          rfl
        | false =>
          refine iteF ?_
          rw [drop j hp2]
          exact ⟨hd9, s23⟩
      rintro H16 ⟨hd9, s23⟩
      rw [List.length_map, R'.len, ← his] at hd9
      have hd := s23.at hd
      have sE := s22.trans s23
      clear s22 s23 R15 hk15 hD9
      walk_at "rd"
      refine w_neL hd9 hd ?_
      rw [decide_eq_true (rfl : is = is)]
      walk_at "rd"
      refine iteF ?_
      walk_at "rd"
      refine ⟨kx, m1, z, m2, f, l, a, b, c, d, wd, s, rfl, hkD.sm sE, sE.at q1, sE.at q2, SDa, SDb, SDc, SDd, hz, sf, sl, fun H17 s24 => ?_⟩
      rw [← hP]
      have hd := s24 _ _ hd
      have sE := sE.trans (Sm.of s24)
      clear hd9 s24
      walk_at "rd"
      refine w_len hd ?_
      rw [List.length_map]
      walk_at "rd"
      refine w_ndecT il.symm ?_
      walk_at "rd"
      refine ⟨kx, m1, z, m2, f, l, a, b, c, d, wd, s, rfl, hkD.sm sE, sE.at q1, sE.at q2, SDa, SDb, SDc, SDd, hz, sf, sl, sE.2 hTD, fun v H18 hv s25 => ?_⟩
      rw [← hP] at hv
      have hd := s25.at hd
      have sE := sE.trans s25
      clear s25
      walk_at "rd"
      refine ⟨by show 1 ≤ sizeLine; decide, fun qn hqn => ?_⟩
      have hd := gn (u := .lst [.non]) hd hqn
      have sE := sE.new (o := .lst [.non]) hqn
      have hqn' : (L2.upd H18 qn (.lst [.non])) qn = some (.lst [.non]) := upd_same
      generalize L2.upd H18 qn (.lst [.non]) = H19 at hd sE hqn' ⊢
      refine w_cat hd hqn' (by rw [List.length_map]; exact Nat.le_of_lt (small1000 (by show is.length + 1 ≤ 1000; omega))) (fun qc hqc => ?_)
      have hqc' : (L2.upd H19 qc (.lst (is.map V.int ++ [.non]))) qc = some (.lst (is.map V.int ++ [.non])) := upd_same
      have hd := gn (u := .lst (is.map V.int ++ [.non])) hd hqc
      have sE := sE.new (o := .lst (is.map V.int ++ [.non])) hqc
      generalize L2.upd H19 qc _ = H20 at hd sE hqc' ⊢
      have e0 : (is.map V.int ++ [V.non])[0]? = some v := by
        rcases is with _ | ⟨i0, r⟩
        · rw [first_nil hdl his.symm hv]; rfl
        · rw [first_get hdl (by rw [← his]; rfl) hv]; rfl
      walk_at "rd"
      refine w_ixL (i := 0) hqc' (atI_nat (j := 0) e0) ?_
      walk_at "rd"
      refine w_neOpt hv.opt hv.opt ?_
      walk_at "rd"
      refine w_ndecT rfl ?_
      clear hqn hqn' hqc hqc' e0 hv
      walk_at "rd"
      refine ⟨kx, m1, z, m2, f, l, a, b, c, d, wd, s, rfl, hkD.sm sE, sE.at q1, sE.at q2, SDa, SDb, SDc, SDd, hz, sf, sl, sE.2 hTD, fun v H21 hv s25 => ?_⟩
      rw [← hP] at hv
      have hd := s25.at hd
      have sE := sE.trans s25
      clear s25
      walk_at "rd"
      refine ⟨by show 1 ≤ sizeLine; decide, fun qn hqn => ?_⟩
      have hd := gn (u := .lst [.non]) hd hqn
      have sE := sE.new (o := .lst [.non]) hqn
      have hqn' : (L2.upd H21 qn (.lst [.non])) qn = some (.lst [.non]) := upd_same
      generalize L2.upd H21 qn (.lst [.non]) = H22 at hd sE hqn' ⊢
      walk_at "rd"
      refine w_cat hqn' hd (by rw [List.length_map]; exact Nat.le_of_lt (small1000 (by show 1 + is.length ≤ 1000; omega))) (fun qc hqc => ?_)
      have hqc' : (L2.upd H22 qc (.lst ([.non] ++ is.map V.int))) qc = some (.lst ([.non] ++ is.map V.int)) := upd_same
      have hd := gn (u := .lst ([.non] ++ is.map V.int)) hd hqc
      have sE := sE.new (o := .lst ([.non] ++ is.map V.int)) hqc
      generalize L2.upd H22 qc _ = H23 at hd sE hqc' ⊢
      have e0 : ([V.non] ++ is.map V.int)[([V.non] ++ is.map V.int).length - 1]? = some v := by
        rcases Nat.eq_zero_or_pos is.length with z0 | z0
        · have z1 := List.length_eq_zero_iff.mp z0
          rw [last_nil hdl (by rw [← his]; exact z1) hv, z1]; rfl
        · rw [last_get hdl (by rw [← his]; exact List.getElem?_eq_getElem (show is.length - 1 < is.length by omega)) hv]
          rw [List.getElem?_append_right (by simp; omega)]
          simp [List.getElem?_map]
      walk_at "rd"
      refine w_ixL hqc' (at_m1 e0) ?_
      walk_at "rd"
      refine w_neOpt hv.opt hv.opt ?_
      walk_at "rd"
      refine w_ndecT rfl ?_
      clear hqn hqn' hqc hqc' e0 hv
      have nD8 : D8 ≠ p := hs7.ne hD8
      have hs8 := hs7.sm sE
      have tLen : (is.length : Int) = tot P f l := il
      walk_at "rd"
      refine w_ifJ (fun x H' => ∃ (qe : Addr) (ks : List Int), x = .ref qe ∧ H' qe = some (.lst (ks.map V.int)) ∧ (∀ k ∈ ks, 0 ≤ k ∧ k < (is.length : Int)) ∧ Kq T.tabs p H23 H' ∧ SrcN (nB + i + 1) H' p ∧ H' D8 = some (.lst (is.map V.int))) (fun Q hQ => ?_) ?_
      · walk_at "rd"
        refine ⟨_, rfl, ?_⟩
        walk_at "rd"
        refine ⟨by show 0 ≤ sizeLine; decide, fun qm hqm => ?_⟩
        have s9 := (Sm.refl (T := T.tabs) H23).new (o := .lst []) hqm
        have hd := gn (u := .lst []) hd hqm
        have hs9 := hs8.new (o := .lst []) hqm
        have hqm' : (L2.upd H23 qm (.lst [])) qm = some (.lst ([].map V.int)) := upd_same
        generalize L2.upd H23 qm (.lst []) = H24 at hd s9 hs9 hqm' ⊢
        refine w_neL hd hqm' ?_
        by_cases c : is = []
        · rw [decide_eq_true c]
          walk_at "rd"
          refine iteF ?_
          walk_at "rd"
          refine ⟨by show 0 ≤ sizeLine; decide, fun qe hqe => ?_⟩
          exact hQ _ _ ⟨qe, [], rfl, upd_same, (fun k hk => by cases hk), (Kq.refl H23).sm (s9.new hqe), (hs9.new hqe).le (by omega), gn hd hqe⟩
        · have l0 : 0 < is.length := List.length_pos_iff.mpr c
          rw [decide_eq_false c]
          walk_at "rd"
          refine iteT ?_
          walk_at "rd"
          refine w_len hd ?_
          rw [List.length_map]
          walk_at "rd"
          refine w_len hd ?_
          rw [List.length_map]
          walk_at "rd"
          refine ⟨p, _, _, rfl, hs9, by omega, by omega, b89 (bb_sm (by omega) (by omega)), fun dv H25 dv0 dv1 kp hs10 => ?_⟩
          have s10 : Kq T.tabs p H23 H25 := ((Kq.refl H23).sm s9).trans (kp.toQ hs9.lst)
          have hd := (kp.toQ (TS := T.tabs) hs9.lst).at nD8 hd
          walk_at "rd"
          refine ⟨by show 3 ≤ sizeLine; decide, fun qe hqe => ?_⟩
          refine hQ _ _ ⟨qe, [0, (is.length : Int) - 1, dv], rfl, upd_same, (fun k hk => ?_), s10.sm ((Sm.refl H25).new hqe), (hs10.new hqe).le (by omega), gn hd hqe⟩
          rcases List.mem_cons.mp hk with rfl | hk
          · omega
          rcases List.mem_cons.mp hk with rfl | hk
          · omega
          rcases List.mem_cons.mp hk with rfl | hk
          · omega
          cases hk
      rintro x H24 ⟨qe, ks, rfl, hqe, hks, s9, hs9, hd⟩
      have sK := (s21.sm sE).trans s9
      have hk24 := hkD.kq nk ((Kq.refl H').sm sE |>.trans s9)
      have q1 := s9.at n1 (sE.at q1)
      have q2 := s9.at n2 (sE.at q2)
      have hT24 := s9.2 (sE.2 hTD)
      clear R' hkD hTD s21 sE hs8
      refine ⟨qe, rfl, ⟨_, SqL.of hqe⟩, for_list (K := K) (a := qe) (xs := ks.map V.int) (fun j σ H' => (∃ (v9 v10 v11 v12 v13 : Option V), σ = [some (.ref p), some (.ref kx), some (.int (loK wd s)), some (.int (2 ^ wd)), some (.ref m1), some (.ref m2), some (.int f), some (.int l), some (.ref D), some (.str z), some (.ref D8), v11, v12, v13]) ∧ Sm T.tabs H24 H')
        ⟨⟨v9, v10, v11, v12, v13, rfl⟩, Sm.refl H24⟩ (fun i σ H' _ q => SqL.of (q.2.at hqe)) ?_ ?_⟩
      · rintro j y σ H' hj ⟨⟨_, _, v11, v12, v13, rfl⟩, s22⟩
        obtain ⟨k, hk', rfl⟩ := map_get hj
        obtain ⟨k0, k1⟩ := hks k (List.mem_of_getElem? hk')
        obtain ⟨kn, rfl⟩ := Int.eq_ofNat_of_zero_le k0
        walk_at "rd"
        refine ⟨kx, m1, z, m2, f, l, _, a, b, c, d, wd, s, rfl, hk24.sm s22, s22.at q1, s22.at q2, SDa, SDb, SDc, SDd, hz, sf, sl, s22.2 hT24, by omega, by rw [← hP]; omega, fun x H26 hx s26 => ?_⟩
        rw [← hP] at hx
        obtain ⟨x1, x2, x3, x4⟩ := hx
        obtain ⟨y, ei⟩ : ∃ y, is[kn]? = some y := ⟨_, List.getElem?_eq_getElem (by omega)⟩
        have ex : x = y := wl_at (k := kn) (by rw [← his]; exact ei) x1 x3 (by rw [x4])
        subst ex
        have hd26 := s26.at (s22.at hd)
        walk_at "rd"
        refine w_ixL hd26 (atI_nat (v := .int x) (by rw [List.getElem?_map, ei]; rfl)) ?_
        walk_at "rd"
        refine w_ndecT rfl ?_
        walk_at "rd"
        exact ⟨⟨none, none, _, _, _, rfl⟩, s22.trans s26⟩
      rintro σ H27 ⟨⟨_, _, v11, v12, v13, rfl⟩, s22⟩
      walk_at "rd"
      exact ⟨⟨_, _, _, _, _, rfl⟩, sK.sm s22, (hs9.sm s22).le (by omega)⟩
    rintro σ H14 ⟨⟨v9, v10, v11, v12, v13, rfl⟩, s21, hs21⟩
    walk_at "rd"
    exact k _ (sA.trans s21) (hs21.le (by rw [List.length_map, lW]; omega))
def sp__law_none_right (K : PySem.W.Frag) (C : Addr) (C_Walk : Addr) (C_InvalidBound : Addr) (TS : List (Addr × Str)) : Sp := fun vs H Q _ => ∃ (p : Addr) (n : Nat), vs = [.ref p] ∧ SrcN n H p ∧ n < 2 ^ 38 ∧ LamX.Tabs TS H ∧ ∀ H', Kq TS p H H' → SrcN (n + 4000) H' p → Q (.bl true) H'
theorem ok__law_none_right {P : Program} {w : World} {K : PySem.W.Frag} {mg : Str → Option Value} {base : Heap} (T : Txt K mg) (B : TBs T base w P) : FnOk P w K mg base CX0 41 T.f__law_none_right T.fd__law_none_right ["_law_deck_here"] (sp__law_none_right K T.C_Kind T.C_Walk T.C_InvalidBound T.tabs) := by
  have G_Kind___init__ := ok_Kind___init__ (P := P) (w := w) (base := base) T B
  have G__law_choice := ok__law_choice (P := P) (w := w) (base := base) T B
  have G__law_deal := ok__law_deal (P := P) (w := w) (base := base) T B
  have G__law_great := ok__law_great (P := P) (w := w) (base := base) T B
  have G__law_pair := ok__law_pair (P := P) (w := w) (base := base) T B
  have G_first_holding := ok_first_holding (P := P) (w := w) (base := base) T B
  have G_first_surprise := ok_first_surprise (P := P) (w := w) (base := base) T B
  have G_holds := ok_holds (P := P) (w := w) (base := base) T B
  have G_last_holding := ok_last_holding (P := P) (w := w) (base := base) T B
  have G_surprises := ok_surprises (P := P) (w := w) (base := base) T B
  have GX_holding_at := okX_holding_at (P := P) (w := w) (base := base) T B
  refine T.F__law_none_right.ok sc__law_none_right (fun vs H Q E h => ?_) (fun A outer s H vs Q E hr h => ?_)
  · obtain ⟨p, n, rfl, _⟩ := h
    rfl
  · obtain ⟨p, n, rfl, h⟩ := h
    have hr_Kind___init__ : Room 3 _ := hr.mono (by decide)
    have hr__law_choice : Room 2 _ := hr.mono (by decide)
    have hr__law_deal : Room 1 _ := hr.mono (by decide)
    have hr__law_great : Room 2 _ := hr.mono (by decide)
    have hr__law_pair : Room 4 _ := hr.mono (by decide)
    have hr_first_holding : Room 19 _ := hr.mono (by decide)
    have hr_first_surprise : Room 19 _ := hr.mono (by decide)
    have hr_holds : Room 6 _ := hr.mono (by decide)
    have hr_last_holding : Room 18 _ := hr.mono (by decide)
    have hr_surprises : Room 6 _ := hr.mono (by decide)
    refine ⟨_, (pss_cons (ps_par rfl sc__law_none_right.nd (i := 1) (j := 2) rfl rfl (by decide) rfl rfl (pa_cons (pe_op op_add pe_int (pe_call G__law_deal hr__law_deal rfl T.g__law_deal T.k__law_deal T.b__law_deal .nil pass0 (pa_cons (pv 0 (hv := Or.inl rfl)) (pa_cons pe_int pa_nil)))) (pa_cons (pe_cmpR op_eq (pe_call G__law_deal hr__law_deal rfl T.g__law_deal T.k__law_deal T.b__law_deal .nil pass0 (pa_cons (pv 0 (hv := Or.inl rfl)) (pa_cons pe_int pa_nil))) pe_int (nomark _)) pa_nil)) (by rfl))
      (pss_cons (ps_asg (pe_tup (pa_cons (pe_make T.mk_Kind G_Kind___init__ hr_Kind___init__ rfl T.g_Kind T.b_Kind___init__ .nil pass0 (pa_cons (pv 1 (hv := Or.inl rfl)) (pa_cons (pv 2 (hv := Or.inl rfl)) pa_nil))) (pa_cons (pe_op op_shl pe_int (pv 1 (hv := Or.inl rfl))) pa_nil))) (pg_tup rfl (pgs_cons (pg_name (i := 3) sc__law_none_right.nd rfl (Or.inr rfl)) (pgs_cons (pg_name (i := 4) sc__law_none_right.nd rfl (Or.inl rfl)) pgs_nil))))
      (pss_cons (ps_asg (pe_call G__law_choice hr__law_choice rfl T.g__law_choice T.k__law_choice T.b__law_choice .nil pass0 (pa_cons (pv 0 (hv := Or.inl rfl)) (pa_cons (pe_lst (pa_cons (pe_tup (pa_cons (pe_tup (pa_cons pe_int (pa_cons pe_int pa_nil))) (pa_cons (pe_tup (pa_cons pe_int (pa_cons pe_int pa_nil))) pa_nil))) (pa_cons (pe_call G__law_pair hr__law_pair rfl T.g__law_pair T.k__law_pair T.b__law_pair .nil pass0 (pa_cons (pv 0 (hv := Or.inl rfl)) (pa_cons (pe_op op_shl pe_int (pe_callB (id := "min") (r := rmin2C) (call_min2 rfl) (by rfl) T.n_min (by decide +kernel) (pa_cons (pv 1 (hv := Or.inl rfl)) (pa_cons pe_int pa_nil)))) pa_nil))) pa_nil))) pa_nil))) (pg_tup rfl (pgs_cons (pg_name (i := 5) sc__law_none_right.nd rfl (Or.inr rfl)) (pgs_cons (pg_name (i := 6) sc__law_none_right.nd rfl (Or.inr rfl)) pgs_nil))))
      (pss_cons (ps_for PassesOwn.never rfl (pi_range1 (by rfl) T.n_range (pa_cons pe_int pa_nil)) (pg_name (i := 7) sc__law_none_right.nd rfl (Or.inl rfl))
        (pss_cons (ps_set (i := 8) sc__law_none_right.nd rfl (Or.inr rfl) (pe_call G__law_choice hr__law_choice rfl T.g__law_choice T.k__law_choice T.b__law_choice .nil pass0 (pa_cons (pv 0 (hv := Or.inl rfl)) (pa_cons (pe_lst (pa_cons pe_int (pa_cons (pe_call G__law_great hr__law_great rfl T.g__law_great T.k__law_great T.b__law_great .nil pass0 (pa_cons (pv 0 (hv := Or.inl rfl)) (pa_cons (pe_op op_pow pe_int pe_int) pa_nil))) (pa_cons (pe_op op_sub pe_int (pe_call G__law_great hr__law_great rfl T.g__law_great T.k__law_great T.b__law_great .nil pass0 (pa_cons (pv 0 (hv := Or.inl rfl)) (pa_cons (pv 4 (hv := Or.inl rfl)) pa_nil)))) pa_nil)))) pa_nil))))
      (pss_cons (ps_set (i := 9) sc__law_none_right.nd rfl (Or.inl rfl) (pe_call G__law_choice hr__law_choice rfl T.g__law_choice T.k__law_choice T.b__law_choice .nil pass0 (pa_cons (pv 0 (hv := Or.inl rfl)) (pa_cons (pe_lst (pa_cons (pe_call G__law_deal hr__law_deal rfl T.g__law_deal T.k__law_deal T.b__law_deal .nil pass0 (pa_cons (pv 0 (hv := Or.inl rfl)) (pa_cons pe_int pa_nil))) (pa_cons pe_int (pa_cons (pe_op op_add pe_int (pe_op op_mul (pv 4 (hv := Or.inl rfl)) pe_int)) (pa_cons (pv 4 (hv := Or.inl rfl)) (pa_cons (pe_call G__law_great hr__law_great rfl T.g__law_great T.k__law_great T.b__law_great .nil pass0 (pa_cons (pv 0 (hv := Or.inl rfl)) (pa_cons (pe_op op_pow pe_int pe_int) pa_nil))) pa_nil)))))) pa_nil))))
      (pss_cons (ps_set (i := 10) sc__law_none_right.nd rfl (Or.inr rfl) (pe_op op_sub (pe_op op_sub (pv 8 (hv := Or.inr (Or.inl rfl))) pe_int) (pv 9 (hv := Or.inl rfl))))
      (pss_one (ps_for PassesOwn.never rfl (pi_tup (pe_tup (pa_cons pe_str (pa_cons pe_str (pa_cons pe_str (pa_cons pe_str (pa_cons pe_str (pa_cons pe_str pa_nil)))))))) (pg_name (i := 11) sc__law_none_right.nd rfl (Or.inr rfl))
        (pss_cons (ps_setLc (i := 12) (own := [("_law_ask", 13)]) (g := gName 13) (tt := tYes) rfl sc__law_none_right.nd rfl rfl (sw_true rfl rfl rfl (by decide +kernel)) (pi_tup (pe_tup (pa_cons (pe_glob (v := .ref T.f_holds) rfl T.g_holds rfl) (pa_cons (pe_glob (v := .ref T.f_surprises) rfl T.g_surprises rfl) pa_nil)))) (blkOk_by (own := [("_law_ask", 13)]) (N := ["_law_deck_here", "_law_bits", "_law_is_signed", "_law_own", "_law_size", "_law_mine", "_law_its", "_law_turn", "_law_begin", "_law_gap", "_law_end", "_law_word", "_law_told", "_law_ask", "_law_k"]) (sc := defScope s__law_none_right) (by decide +kernel)) (fun _ _ _ _ _ => (pg_name (i := 13) sc__law_none_right.nd rfl (Or.inl rfl))) (fun _ _ _ _ _ => pts_nil) (fun _ _ _ _ _ => (pe_callV (C := fun f sp => (f = T.f_holds ∧ sp = sp_holds K T.C_Kind T.C_Walk T.C_InvalidBound T.tabs) ∨ (f = T.f_surprises ∧ sp = sp_surprises K T.C_Kind T.C_Walk T.C_InvalidBound T.tabs) ∨ (f = T.f_first_holding ∧ sp = sp_first_holding K T.C_Kind T.C_Walk T.C_InvalidBound T.tabs) ∨ (f = T.f_last_holding ∧ sp = sp_last_holding K T.C_Kind T.C_Walk T.C_InvalidBound T.tabs) ∨ (f = T.f_first_surprise ∧ sp = sp_first_surprise K T.C_Kind T.C_Walk T.C_InvalidBound T.tabs)) (i := 13) (fun f sp z => by
        rcases z with ⟨rfl, rfl⟩ | ⟨rfl, rfl⟩ | ⟨rfl, rfl⟩ | ⟨rfl, rfl⟩ | ⟨rfl, rfl⟩
        · exact ⟨_, _, _, G_holds, hr_holds, T.k_holds, T.b_holds⟩
        · exact ⟨_, _, _, G_surprises, hr_surprises, T.k_surprises, T.b_surprises⟩
        · exact ⟨_, _, _, G_first_holding, hr_first_holding, T.k_first_holding, T.b_first_holding⟩
        · exact ⟨_, _, _, G_last_holding, hr_last_holding, T.k_last_holding, T.b_last_holding⟩
        · exact ⟨_, _, _, G_first_surprise, hr_first_surprise, T.k_first_surprise, T.b_first_surprise⟩) rfl (Or.inl rfl) (pa_cons (pv 3 (hv := Or.inr (Or.inl rfl))) (pa_cons (pv 5 (hv := Or.inr (Or.inl rfl))) (pa_cons (pv 11 (hv := Or.inr (Or.inl rfl))) (pa_cons (pv 6 (hv := Or.inr (Or.inl rfl))) (pa_cons (pv 8 (hv := Or.inr (Or.inl rfl))) (pa_cons (pv 10 (hv := Or.inr (Or.inl rfl))) pa_nil)))))))))
      (pss_cons (ps_if (pt_cmpR (op_neD hr.units) (pv 12 (hv := Or.inl rfl)) (pe_lst (pa_cons pe_int (pa_cons pe_int pa_nil))) (nomark _)) (pss_one (ps_ret pe_bl)) pss_nil)
      (pss_cons (ps_setLc (i := 12) (own := [("_law_ask", 13)]) (g := gName 13) (tt := tYes) rfl sc__law_none_right.nd rfl rfl (sw_true rfl rfl rfl (by decide +kernel)) (pi_tup (pe_tup (pa_cons (pe_glob (v := .ref T.f_first_holding) rfl T.g_first_holding rfl) (pa_cons (pe_glob (v := .ref T.f_last_holding) rfl T.g_last_holding rfl) (pa_cons (pe_glob (v := .ref T.f_first_surprise) rfl T.g_first_surprise rfl) pa_nil))))) (blkOk_by (own := [("_law_ask", 13)]) (N := ["_law_deck_here", "_law_bits", "_law_is_signed", "_law_own", "_law_size", "_law_mine", "_law_its", "_law_turn", "_law_begin", "_law_gap", "_law_end", "_law_word", "_law_told", "_law_ask", "_law_k"]) (sc := defScope s__law_none_right) (by decide +kernel)) (fun _ _ _ _ _ => (pg_name (i := 13) sc__law_none_right.nd rfl (Or.inl rfl))) (fun _ _ _ _ _ => pts_nil) (fun _ _ _ _ _ => (pe_callV (C := fun f sp => (f = T.f_holds ∧ sp = sp_holds K T.C_Kind T.C_Walk T.C_InvalidBound T.tabs) ∨ (f = T.f_surprises ∧ sp = sp_surprises K T.C_Kind T.C_Walk T.C_InvalidBound T.tabs) ∨ (f = T.f_first_holding ∧ sp = sp_first_holding K T.C_Kind T.C_Walk T.C_InvalidBound T.tabs) ∨ (f = T.f_last_holding ∧ sp = sp_last_holding K T.C_Kind T.C_Walk T.C_InvalidBound T.tabs) ∨ (f = T.f_first_surprise ∧ sp = sp_first_surprise K T.C_Kind T.C_Walk T.C_InvalidBound T.tabs)) (i := 13) (fun f sp z => by
        rcases z with ⟨rfl, rfl⟩ | ⟨rfl, rfl⟩ | ⟨rfl, rfl⟩ | ⟨rfl, rfl⟩ | ⟨rfl, rfl⟩
        · exact ⟨_, _, _, G_holds, hr_holds, T.k_holds, T.b_holds⟩
        · exact ⟨_, _, _, G_surprises, hr_surprises, T.k_surprises, T.b_surprises⟩
        · exact ⟨_, _, _, G_first_holding, hr_first_holding, T.k_first_holding, T.b_first_holding⟩
        · exact ⟨_, _, _, G_last_holding, hr_last_holding, T.k_last_holding, T.b_last_holding⟩
        · exact ⟨_, _, _, G_first_surprise, hr_first_surprise, T.k_first_surprise, T.b_first_surprise⟩) rfl (Or.inl rfl) (pa_cons (pv 3 (hv := Or.inr (Or.inl rfl))) (pa_cons (pv 5 (hv := Or.inr (Or.inl rfl))) (pa_cons (pv 11 (hv := Or.inr (Or.inl rfl))) (pa_cons (pv 6 (hv := Or.inr (Or.inl rfl))) (pa_cons (pv 8 (hv := Or.inr (Or.inl rfl))) (pa_cons (pv 10 (hv := Or.inr (Or.inl rfl))) pa_nil)))))))))
      (pss_cons (ps_if (pt_cmpR (op_neD hr.units) (pv 12 (hv := Or.inl rfl)) (pe_op op_rep (pe_lst (pa_cons pe_non pa_nil)) pe_int) (nomark _)) (pss_one (ps_ret pe_bl)) pss_nil)
      (pss_one (ps_for PassesOwn.never rfl (pi_tup (pe_tup (pa_cons pe_int (pa_cons pe_int (pa_cons (pe_un un_neg pe_int) pa_nil))))) (pg_name (i := 14) sc__law_none_right.nd rfl (Or.inr rfl))
        (pss_one (ps_if (pt_cmpR op_ne (pe_refused (Tb := T.tabs) (k := 18) T.F__law_refused T.b__law_refused sc__law_refused rfl T.g__law_refused T.k__law_refused T.ax_InvalidBound rfl rfl rfl rfl B.tb__law_none_right rfl T.mT__law_none_right T.uT__law_none_right (hr.mono (by decide)) (LamX.lamS_by (sc := defScope s__law_none_right) (by decide +kernel)) rfl (fun _ _ _ _ _ => rfl)
      (fun _ _ _ _ _ _ _ hrL => (pe_call GX_holding_at (hrL.mono (by decide)) rfl T.g_holding_at T.k_holding_at T.b_holding_at .nil (passes_call (takes_of rfl rfl rfl rfl) fun _ _ _ _ h => h) (pa_cons (pv 3 (hv := Or.inr (Or.inr rfl))) (pa_cons (pv 5 (hv := Or.inr (Or.inr rfl))) (pa_cons (pv 11 (hv := Or.inr (Or.inr rfl))) (pa_cons (pv 6 (hv := Or.inr (Or.inr rfl))) (pa_cons (pv 8 (hv := Or.inr (Or.inr rfl))) (pa_cons (pv 10 (hv := Or.inr (Or.inr rfl))) (pa_cons (pv 14 (hv := Or.inr (Or.inr rfl))) pa_nil)))))))))) pe_str (nomark _)) (pss_one (ps_ret pe_bl)) pss_nil))))))))))))))
      (pss_one (ps_ret pe_bl)))))), ?_⟩
    try dsimp only [cxOf, Cx.nox, Cx.wish, Cx.blk]
    rw [show L2.start ["_law_deck_here", "_law_bits", "_law_is_signed", "_law_own", "_law_size", "_law_mine", "_law_its", "_law_turn", "_law_begin", "_law_gap", "_law_end", "_law_word", "_law_told", "_law_ask", "_law_k"] [.ref p] = [some (.ref p), none, none, none, none, none, none, none, none, none, none, none, none, none, none] from rfl]
    obtain ⟨hs, n38, hT, k⟩ := h
    have q59 : (10 : Int) ^ 59 * 5 < 10 ^ 60 := by decide +kernel
    have q58 : (10 : Int) ^ 58 * 10 = 10 ^ 59 := by decide +kernel
    walk_at "rd"
    refine ⟨p, _, n, rfl, hs, by omega, by decide, b89 (bb_sm (by decide) (by decide)), fun v1 H1 v10 v11 kp1 hs1 => ?_⟩
    walk_at "rd"
    refine ⟨p, _, _, rfl, hs1, by omega, by decide, b89 (bb_sm (by decide) (by decide)), fun v2 H2 v20 v21 kp2 hs2 => ?_⟩
    obtain ⟨wd, hwd⟩ : ∃ wd : Nat, 1 + v1 = (wd : Int) := ⟨(1 + v1).toNat, by omega⟩
    obtain ⟨s, hsg⟩ : ∃ s : Bool, s = decide (v2 = 1) := ⟨_, rfl⟩
    have hp := p2 wd
    have w2 : wd ≤ 128 := by omega
    have p128 : (2 : Int) ^ wd ≤ 10 ^ 39 := by
      have := Nat.pow_le_pow_right (n := 2) (by decide) w2
      have q128 : (2 : Nat) ^ 128 ≤ 10 ^ 39 := by decide +kernel
      exact_mod_cast Nat.le_trans this q128
    have q39 : (10 : Int) ^ 39 * 10 < 10 ^ 58 := by decide +kernel
    walk_at "rd"
    rw [hwd, ← hsg]
    walk_at "rd"
    intro kx dx nx ndx nex
    refine ⟨kx, wd, s, rfl, ⟨dx, upd_same⟩, by omega, by omega, fun H3 hk kp3 => ⟨rfl, ?_⟩⟩
    have sm3 := mk_same nx ndx kp3
    have nk := hs2.ne nx
    have hs3 := hs2.same sm3
    have s3 : Kq T.tabs p H H3 := ((kp1.trans kp2).trans (Kp.of_same sm3)).toQ hs.lst
    clear kp1 kp2 kp3 hs1 hs2 sm3 nx ndx nex
    walk_at "rd"
    refine w_I (cpow (n := 1) (by omega) (by decide)) ?_
    rw [Int.toNat_natCast, Int.one_mul]
    walk_at "rd"
    refine ⟨by show 2 ≤ sizeLine; decide, fun t ht => ?_⟩
    have hs4 := hs3.new (o := .tup [.ref kx, .int (2 ^ wd)]) ht
    have s4 := s3.sm ((Sm.refl (T := T.tabs) H3).new (o := .tup [.ref kx, .int (2 ^ wd)]) ht)
    have hk4 := hk.sm ((Sm.refl (T := T.tabs) H3).new (o := .tup [.ref kx, .int (2 ^ wd)]) ht)
    have ht' : (L2.upd H3 t (.tup [.ref kx, .int (2 ^ wd)])) t = some (.tup [.ref kx, .int (2 ^ wd)]) := upd_same
    generalize L2.upd H3 t _ = H4 at hs4 s4 hk4 ht' ⊢
    clear s3 hs3 hk ht
    walk_at "rd"
    refine ⟨by show 2 ≤ sizeLine; decide, fun ta hta => ?_⟩
    have hs5 := hs4.new (o := .tup [.int 3, .int 200]) hta
    have s5 := (Sm.refl (T := T.tabs) H4).new (o := .tup [.int 3, .int 200]) hta
    have na := hs4.ne hta
    have hta' : (L2.upd H4 ta (.tup [.int 3, .int 200])) ta = some (.tup [.int 3, .int 200]) := upd_same
    generalize L2.upd H4 ta _ = H5 at hs5 s5 hta' ⊢
    walk_at "rd"
    refine ⟨by show 2 ≤ sizeLine; decide, fun tb htb => ?_⟩
    have hs6 := hs5.new (o := .tup [.int 1, .int 0]) htb
    have s6 := s5.new (o := .tup [.int 1, .int 0]) htb
    have nb := hs5.ne htb
    have hta' := gn (u := .tup [.int 1, .int 0]) hta' htb
    have htb' : (L2.upd H5 tb (.tup [.int 1, .int 0])) tb = some (.tup [.int 1, .int 0]) := upd_same
    generalize L2.upd H5 tb _ = H6 at hs6 s6 hta' htb' ⊢
    walk_at "rd"
    refine ⟨by show 2 ≤ sizeLine; decide, fun tc htc => ?_⟩
    have hs7 := hs6.new (o := .tup [.ref ta, .ref tb]) htc
    have s7 := s6.new (o := .tup [.ref ta, .ref tb]) htc
    have nc := hs6.ne htc
    have hta' := gn (u := .tup [.ref ta, .ref tb]) hta' htc
    have htb' := gn (u := .tup [.ref ta, .ref tb]) htb' htc
    have htc' : (L2.upd H6 tc (.tup [.ref ta, .ref tb])) tc = some (.tup [.ref ta, .ref tb]) := upd_same
    generalize L2.upd H6 tc _ = H7 at hs7 s7 hta' htb' htc' ⊢
    clear hs5 hs6 hta htb htc s5 s6
    walk_at "rd"
    refine w_min2 ?_
    obtain ⟨mn, hmn⟩ : ∃ mn : Nat, min (wd : Int) 60 = (mn : Int) := ⟨(min (wd : Int) 60).toNat, by omega⟩
    rw [hmn]
    walk_at "rd"
    refine w_I (cpow (n := 1) (by omega) (by decide)) ?_
    rw [Int.toNat_natCast, Int.one_mul]
    have pm57 : (2 : Int) ^ mn ≤ 10 ^ 57 := by
      have := Nat.pow_le_pow_right (n := 2) (by decide) (show mn ≤ 60 by omega)
      have q : (2 : Nat) ^ 60 ≤ 10 ^ 57 := by decide +kernel
      exact_mod_cast Nat.le_trans this q
    walk_at "rd"
    refine ⟨p, 2 ^ mn, _, rfl, hs7, by omega, p2 mn, pm57, fun qp u1 u2 a b c d H8 hqp h1 h2 n1 n2 nq SDa SDb SDc SDd kp8 hs8 => ?_⟩
    have s8 : Kq T.tabs p H4 H8 := ((Kq.refl H4).sm s7).trans (kp8.toQ hs7.lst)
    have hta' := kp8 _ _ na hta'
    have htb' := kp8 _ _ nb htb'
    have htc' := kp8 _ _ nc htc'
    walk_at "rd"
    refine ⟨by show 2 ≤ sizeLine; decide, fun c1 hc1 => ?_⟩
    walk_at "rd"
    refine ⟨p, c1, _, _, rfl, hs8.new hc1, by omega, upd_same, hs8.ne hc1, by simp, by simp, fun v H9 hv kp9 hs9 => ?_⟩
    have kpc := ((Kp.of_same (p := p) (Same.refl H8)).new hc1).trans kp9
    have s9 : Kq T.tabs p H4 H9 := s8.trans (kpc.toQ hs8.lst)
    obtain ⟨qq, m1, m2, a, b, c, d, rfl, hqq, h1, h2, n1, n2, SDa, SDb, SDc, SDd⟩ : ∃ (qq m1 m2 : Addr) (a b c d : Int), v = .ref qq ∧ H9 qq = some (.tup [.ref m1, .ref m2]) ∧ H9 m1 = some (.tup [.int a, .int b]) ∧ H9 m2 = some (.tup [.int c, .int d]) ∧ m1 ≠ p ∧ m2 ≠ p ∧ SD a ∧ SD b ∧ SD c ∧ SD d := by
      have sd_of : ∀ {n : Int}, -1000 ≤ n → n ≤ 1000 → SD n := fun h1 h2 => by
        have : (1000 : Int) < 10 ^ 60 := by decide +kernel
        exact ⟨by omega, by omega⟩
      rcases List.mem_cons.mp hv with e | e
      · exact ⟨tc, ta, tb, 3, 200, 1, 0, e, kpc _ _ nc htc', kpc _ _ na hta', kpc _ _ nb htb', na, nb, sd_of (by decide) (by decide), sd_of (by decide) (by decide), sd_of (by decide) (by decide), sd_of (by decide) (by decide)⟩
      · exact ⟨qp, u1, u2, a, b, c, d, List.mem_singleton.mp e, kpc _ _ nq hqp, kpc _ _ n1 h1, kpc _ _ n2 h2, n1, n2, SDa, SDb, SDc, SDd⟩
    have sN := s4.trans s9
    have hk9 := hk4.kq nk s9
    have hT9 := sN.2 hT
    obtain ⟨nB, hnB⟩ : ∃ m, m = n + 1000 := ⟨_, rfl⟩
    have hs9 : SrcN nB H9 p := hs9.le (by omega)
    clear hs7 s7 hs8 s8 kp8 kp9 kpc hta' htb' htc' hs4 s4 hk4 s9 hv hc1
    walk_at "rd"
    refine ⟨2, rfl, by decide, by decide, for_range (lo := 0) (n := 2) (fun i σ H' => (∃ (v7 v8 v9 v10 v11 v12 v13 v14 : Option V), σ = [some (.ref p), some (.int (wd : Int)), some (.bl s), some (.ref kx), some (.int (2 ^ wd)), some (.ref m1), some (.ref m2), v7, v8, v9, v10, v11, v12, v13, v14]) ∧ Kq T.tabs p H9 H' ∧ SrcN (nB + 400 * i) H' p) ⟨⟨_, _, _, _, _, _, _, _, rfl⟩, Kq.refl H9, hs9⟩ ?_ ?_⟩
    · rintro i σ H' hi ⟨⟨v7, v8, v9, v10, v11, v12, v13, v14, rfl⟩, s21, hs10⟩
      walk_at "rd"
      refine ⟨p, _, _, rfl, hs10, by omega, by decide +kernel, b28 (bb_ten (by decide +kernel) (by decide +kernel)), fun g1 H11 g10 g11 kp11 hs11 => ?_⟩
      have g11 : g1 < 10 ^ 58 := g11
      walk_at "rd"
      refine ⟨p, _, _, rfl, hs11, by omega, hp, b28 (bb_ten (by omega) (by omega)), fun g2 H12 g20 g21 kp12 hs12 => ?_⟩
      walk_at "rd"
      refine ⟨by show 3 ≤ sizeLine; decide, fun c1 hc1 => ?_⟩
      walk_at "rd"
      refine ⟨p, c1, _, _, rfl, hs12.new hc1, by omega, upd_same, hs12.ne hc1, by simp, by simp, fun v H13 hv kp13 hs13 => ?_⟩
      obtain ⟨f, rfl, f1, f2⟩ : ∃ f : Int, v = .int f ∧ -(10 ^ 58) < f ∧ f < 10 ^ 58 := by
        rcases List.mem_cons.mp hv with e | e
        · exact ⟨99, e, by omega, by omega⟩
        rcases List.mem_cons.mp e with e | e
        · exact ⟨g1, e, by omega, by omega⟩
        · exact ⟨_, List.mem_singleton.mp e, by omega, by omega⟩
      have kpA := (((Kp.of_same (p := p) (Same.refl H')).trans kp11).trans kp12).new (o := .lst [.int 99, .int g1, .int (0 - g2)]) hc1 |>.trans kp13
      clear kp11 kp12 kp13 hs11 hs12 hv hc1
      walk_at "rd"
      refine ⟨p, _, _, rfl, hs13, by omega, by decide, b89 (bb_sm (by decide) (by decide)), fun g3 H14 g30 g31 kp14 hs14 => ?_⟩
      walk_at "rd"
      refine ⟨p, _, _, rfl, hs14, by omega, by decide +kernel, b28 (bb_ten (by decide +kernel) (by decide +kernel)), fun g4 H15 g40 g41 kp15 hs15 => ?_⟩
      have g41 : g4 < 10 ^ 59 := g41
      walk_at "rd"
      refine ⟨by show 5 ≤ sizeLine; decide, fun c2 hc2 => ?_⟩
      walk_at "rd"
      refine ⟨p, c2, _, _, rfl, hs15.new hc2, by omega, upd_same, hs15.ne hc2, by simp, by simp, fun v H16 hv kp16 hs16 => ?_⟩
      obtain ⟨g, rfl, ga, gb⟩ : ∃ g : Int, v = .int g ∧ 0 ≤ g ∧ g < 10 ^ 59 := by
        rcases List.mem_cons.mp hv with e | e
        · exact ⟨g3, e, by omega, by omega⟩
        rcases List.mem_cons.mp e with e | e
        · exact ⟨98, e, by omega, by omega⟩
        rcases List.mem_cons.mp e with e | e
        · exact ⟨_, e, by omega, by omega⟩
        rcases List.mem_cons.mp e with e | e
        · exact ⟨_, e, by omega, by omega⟩
        · exact ⟨g4, List.mem_singleton.mp e, by omega, by omega⟩
      have kpB := ((kpA.trans kp14).trans kp15).new hc2 |>.trans kp16
      have sA : Kq T.tabs p H9 H16 := s21.trans (kpB.toQ hs10.lst)
      clear kpA kpB kp14 kp15 kp16 hs13 hs14 hs15 hv hc2
      have hk16 := hk9.kq nk sA
      have q1 := sA.at n1 h1
      have q2 := sA.at n2 h2
      have hT16 := sA.2 hT9
      obtain ⟨l, hl⟩ : ∃ l, l = f - 1 - g := ⟨_, rfl⟩
      walk_at "rd"
      rw [← hl]
      have sf : SD f := ⟨by omega, by omega⟩
      have sl : SD l := ⟨by omega, by omega⟩
      have t0 : ∀ P : Int → Bool, tot P f l = 0 := fun P => tot_zero_iff.mpr (fun x x1 x2 => by omega)
      refine w_iTup ?_
      walk_at "rd"
      refine ⟨by show 6 ≤ sizeLine; decide, fun t7 ht7 => ?_⟩
      have s17 := (Sm.refl (T := T.tabs) H16).new (o := .tup [.str "<", .str "<=", .str "==", .str "!=", .str ">=", .str ">"]) ht7
      have ht7' : (L2.upd H16 t7 (.tup [.str "<", .str "<=", .str "==", .str "!=", .str ">=", .str ">"])) t7 = some (.tup ([("<" : Str), "<=", "==", "!=", ">=", ">"].map V.str)) := upd_same
      walk_at "rd"
      generalize L2.upd H16 t7 _ = H17 at s17 ht7' ⊢
      obtain ⟨Ws, hWs⟩ : ∃ Ws : List Str, Ws = [("<" : Str), "<=", "==", "!=", ">=", ">"] := ⟨_, rfl⟩
      rw [← hWs] at ht7'
      have hk17 := hk16.sm s17
      have q1 := s17.at q1
      have q2 := s17.at q2
      have hT17 := s17.2 hT16
      have sB := sA.sm s17
      have hs17 := hs16.sm s17
      clear hk16 hT16 sA hs16 s17 ht7
      refine ⟨⟨_, SqT.of ht7'⟩, for_tup (K := K) (a := t7) (xs := Ws.map V.str) (fun j σ H' => (∃ (v11 v12 v13 v14 : Option V), σ = [some (.ref p), some (.int (wd : Int)), some (.bl s), some (.ref kx), some (.int (2 ^ wd)), some (.ref m1), some (.ref m2), some (.int (0 + (i : Int))), some (.int f), some (.int g), some (.int l), v11, v12, v13, v14]) ∧ Sm T.tabs H17 H')
        ⟨⟨_, _, _, _, rfl⟩, Sm.refl H17⟩ (fun i σ H' _ q => SqT.of (q.2.at ht7')) ?_ ?_⟩
      · rintro j y σ H' hj ⟨⟨v11, v12, v13, v14, rfl⟩, s22⟩
        obtain ⟨z, hz', rfl⟩ := map_get hj
        have hz : Rel z := by
          have := List.mem_of_getElem? hz'
          rw [hWs] at this
          simpa [Rel] using this
        walk_at "rd"
        have hkD := hk17.sm s22
        have q1 := s22.at q1
        have q2 := s22.at q2
        have hTD := s22.2 hT17
        refine w_iTup ?_
        walk_at "rd"
        refine ⟨by show 2 ≤ sizeLine; decide, fun t5 ht5 => ?_⟩
        have s23 := (Sm.refl (T := T.tabs) H').new (o := .tup [.ref T.f_holds, .ref T.f_surprises]) ht5
        have ht5' : (L2.upd H' t5 (.tup [.ref T.f_holds, .ref T.f_surprises])) t5 = some (.tup [.ref T.f_holds, .ref T.f_surprises]) := upd_same
        generalize L2.upd H' t5 _ = H18 at s23 ht5' ⊢
        refine ⟨t5, rfl, ⟨_, SqT.of ht5'⟩, fun D6 hD6 => lc_tup (K := K) (a := t5) (xs := [.ref T.f_holds, .ref T.f_surprises]) (fun i H'' => H'' D6 = some (.lst ((List.take i [(0 : Int), 0]).map V.int)) ∧ Sm T.tabs H18 H'') ⟨upd_same, (Sm.refl H18).new hD6⟩ (fun i H' _ q => SqT.of (q.2.at ht5')) ?_ ?_⟩
        · rintro j2 y H'' hj2 ⟨hd6, s24⟩
          have sF := s23.trans s24
          walk_at "rd"
          refine ⟨rfl, ?_⟩
          walk_at "rd"
          refine iteT ?_
          rcases j2 with _ | _ | j2
          · cases hj2
            refine ⟨_, _, rfl, Or.inl ⟨rfl, rfl⟩, ?_⟩
            walk_at "rd"
            refine ⟨kx, m1, z, m2, f, l, a, b, c, d, wd, s, rfl, hkD.sm sF, sF.at q1, sF.at q2, SDa, SDb, SDc, SDd, hz, sf, sl, fun H21 s25 => ?_⟩
            rw [t0]
            have s25 := Sm.of (T := T.tabs) s25
            exact ⟨_, s25.at hd6, small1000 (by simp), by rw [upd_same]; rfl, (s24.trans s25).mut hD6 (s25.at hd6)⟩
          · cases hj2
            refine ⟨_, _, rfl, Or.inr (Or.inl ⟨rfl, rfl⟩), ?_⟩
            walk_at "rd"
            refine ⟨kx, m1, z, m2, f, l, a, b, c, d, wd, s, rfl, hkD.sm sF, sF.at q1, sF.at q2, SDa, SDb, SDc, SDd, hz, sf, sl, fun H21 s25 => ?_⟩
            rw [t0]
            have s25 := Sm.of (T := T.tabs) s25
            exact ⟨_, s25.at hd6, small1000 (by simp), by rw [upd_same]; rfl, (s24.trans s25).mut hD6 (s25.at hd6)⟩
          · cases hj2
        rintro H19 ⟨hd6, s24⟩
        have sE := s23.trans s24
        have hd6 : H19 D6 = some (.lst ([0, 0].map V.int)) := hd6
        clear s23 s24 ht5' ht5 hD6
        walk_at "rd"
        refine ⟨by show 2 ≤ sizeLine; decide, fun qe hqe => ?_⟩
        have hd6 := gn (u := .lst [.int 0, .int 0]) hd6 hqe
        have sE := sE.new (o := .lst [.int 0, .int 0]) hqe
        have hqe' : (L2.upd H19 qe (.lst [.int 0, .int 0])) qe = some (.lst ([0, 0].map V.int)) := upd_same
        generalize L2.upd H19 qe _ = H20 at hd6 sE hqe' ⊢
        refine w_neL hd6 hqe' ?_
        walk_at "rd"
        refine w_ndecT rfl ?_
        walk_at "rd"
        refine w_iTup ?_
        walk_at "rd"
        clear hqe hqe' hd6
        refine ⟨by show 3 ≤ sizeLine; decide, fun t5 ht5 => ?_⟩
        have s23 := (Sm.refl (T := T.tabs) H20).new (o := .tup [.ref T.f_first_holding, .ref T.f_last_holding, .ref T.f_first_surprise]) ht5
        have ht5' : (L2.upd H20 t5 (.tup [.ref T.f_first_holding, .ref T.f_last_holding, .ref T.f_first_surprise])) t5 = some (.tup [.ref T.f_first_holding, .ref T.f_last_holding, .ref T.f_first_surprise]) := upd_same
        generalize L2.upd H20 t5 _ = H21 at s23 ht5' ⊢
        have sG := sE.trans s23
        have F0 : ∀ {P : Int → Bool} {v : V}, FirstOf P f l v → v = .non := fun {P v} hv => by
          rcases hv with ⟨e, _⟩ | ⟨x, _, x1, x2, _⟩
          · exact e
          · omega
        have F1 : ∀ {P : Int → Bool} {v : V}, LastOf P f l v → v = .non := fun {P v} hv => by
          rcases hv with ⟨e, _⟩ | ⟨x, _, x1, x2, _⟩
          · exact e
          · omega
        refine ⟨t5, rfl, ⟨_, SqT.of ht5'⟩, fun D6 hD6 => lc_tup (K := K) (a := t5) (xs := [.ref T.f_first_holding, .ref T.f_last_holding, .ref T.f_first_surprise]) (fun i H'' => H'' D6 = some (.lst (List.take i [.non, .non, .non])) ∧ Sm T.tabs H21 H'') ⟨upd_same, (Sm.refl H21).new hD6⟩ (fun i H' _ q => SqT.of (q.2.at ht5')) ?_ ?_⟩
        · rintro j2 y H'' hj2 ⟨hd6, s24⟩
          have sF := sG.trans s24
          walk_at "rd"
          refine ⟨rfl, ?_⟩
          walk_at "rd"
          refine iteT ?_
          rcases j2 with _ | _ | _ | j2
          · cases hj2
            refine ⟨_, _, rfl, Or.inr (Or.inr (Or.inl ⟨rfl, rfl⟩)), ?_⟩
            walk_at "rd"
            refine ⟨kx, m1, z, m2, f, l, a, b, c, d, wd, s, rfl, hkD.sm sF, sF.at q1, sF.at q2, SDa, SDb, SDc, SDd, hz, sf, sl, sF.2 hTD, fun v H21 hv s25 => ?_⟩
            rw [F0 hv]
            exact ⟨_, s25.at hd6, small1000 (by simp), by rw [upd_same]; rfl, (s24.trans s25).mut hD6 (s25.at hd6)⟩
          · cases hj2
            refine ⟨_, _, rfl, Or.inr (Or.inr (Or.inr (Or.inl ⟨rfl, rfl⟩))), ?_⟩
            walk_at "rd"
            refine ⟨kx, m1, z, m2, f, l, a, b, c, d, wd, s, rfl, hkD.sm sF, sF.at q1, sF.at q2, SDa, SDb, SDc, SDd, hz, sf, sl, sF.2 hTD, fun v H21 hv s25 => ?_⟩
            rw [F1 hv]
            exact ⟨_, s25.at hd6, small1000 (by simp), by rw [upd_same]; rfl, (s24.trans s25).mut hD6 (s25.at hd6)⟩
          · cases hj2
            refine ⟨_, _, rfl, Or.inr (Or.inr (Or.inr (Or.inr ⟨rfl, rfl⟩))), ?_⟩
            walk_at "rd"
            refine ⟨kx, m1, z, m2, f, l, a, b, c, d, wd, s, rfl, hkD.sm sF, sF.at q1, sF.at q2, SDa, SDb, SDc, SDd, hz, sf, sl, sF.2 hTD, fun v H21 hv s25 => ?_⟩
            rw [F0 hv]
            exact ⟨_, s25.at hd6, small1000 (by simp), by rw [upd_same]; rfl, (s24.trans s25).mut hD6 (s25.at hd6)⟩
          · cases hj2
        rintro H22 ⟨hd6, s24⟩
        have sE := sG.trans s24
        have hd6 : H22 D6 = some (.lst [.non, .non, .non]) := hd6
        clear s23 s24 sG ht5' ht5 hD6
        walk_at "rd"
        refine ⟨by show 1 ≤ sizeLine; decide, fun qe hqe => ?_⟩
        have hd6 := gn (u := .lst [.non]) hd6 hqe
        have sE := sE.new (o := .lst [.non]) hqe
        have hqe' : (L2.upd H22 qe (.lst [.non])) qe = some (.lst [.non]) := upd_same
        generalize L2.upd H22 qe _ = H23 at hd6 sE hqe' ⊢
        walk_at "rd"
        refine w_rep hqe' (by decide) (by decide) (by decide) (fun qf hqf => ?_)
        have hd6 := gn (u := .lst (List.replicate (3 : Int).toNat [V.non]).flatten) hd6 hqf
        have sE := sE.new (o := .lst (List.replicate (3 : Int).toNat [V.non]).flatten) hqf
        have hqf' : (L2.upd H23 qf (.lst (List.replicate (3 : Int).toNat [V.non]).flatten)) qf = some (.lst [.non, .non, .non]) := upd_same
        generalize L2.upd H23 qf _ = H24 at hd6 sE hqf' ⊢
        refine w_neD (d := .list [.none, .none, .none]) (e := .list [.none, .none, .none]) (.lst (SqL.of hd6) (.cons .non (.cons .non (.cons .non .nil)))) (.lst (SqL.of hqf') (.cons .non (.cons .non (.cons .non .nil)))) (by decide +kernel) (by decide +kernel) ?_
        rw [eqv_rfl (d := .list [.none, .none, .none]) (by decide +kernel)]
        walk_at "rd"
        refine iteF ?_
        clear hqe hqe' hqf hqf' hd6
        walk_at "rd"
        refine w_iTup ?_
        walk_at "rd"
        refine ⟨by show 3 ≤ sizeLine; decide, fun t5 ht5 => ?_⟩
        have s23 := (Sm.refl (T := T.tabs) H24).new (o := .tup [.int 0, .int 1, .int (-1)]) ht5
        have ht5' : (L2.upd H24 t5 (.tup [.int 0, .int 1, .int (-1)])) t5 = some (.tup ([0, 1, -1].map V.int)) := upd_same
        walk_at "rd"
        generalize L2.upd H24 t5 _ = H25 at s23 ht5' ⊢
        have sG := sE.trans s23
        refine ⟨⟨_, SqT.of ht5'⟩, for_tup (K := K) (a := t5) (xs := ([0, 1, -1] : List Int).map V.int) (fun j σ H' => (∃ (v11 v12 v13 v14 : Option V), σ = [some (.ref p), some (.int (wd : Int)), some (.bl s), some (.ref kx), some (.int (2 ^ wd)), some (.ref m1), some (.ref m2), some (.int (0 + (i : Int))), some (.int f), some (.int g), some (.int l), some (.str z), v12, v13, v14]) ∧ Sm T.tabs H25 H')
          ⟨⟨none, _, _, _, rfl⟩, Sm.refl H25⟩ (fun i σ H' _ q => SqT.of (q.2.at ht5')) ?_ ?_⟩
        · rintro j y σ H'' hj ⟨⟨_, v12, v13, v14, rfl⟩, s24⟩
          obtain ⟨kk, _, rfl⟩ := map_get hj
          have sF := sG.trans s24
          walk_at "rd"
          refine ⟨sF.2 hTD, fun H1 ext tabs => ?_⟩
          have s25 : Sm T.tabs H'' H1 := ⟨ext, fun _ => tabs⟩
          have sH := sF.trans s25
          dsimp only [TTarg]
          walk_at "rd"
          refine ⟨kx, m1, z, m2, f, l, kk, a, b, c, d, wd, s, rfl, hkD.sm sH, sH.at q1, sH.at q2, SDa, SDb, SDc, SDd, hz, sf, sl, by rw [t0]; omega, fun d' H26 s26 hx => ?_⟩
          refine ⟨rfl, d', _, _, rfl, hx, rfl, ?_⟩
          walk_at "rd"
          refine ⟨rfl, ?_⟩
          walk_at "rd"
          refine iteF ?_
          walk_at "rd"
          exact ⟨⟨none, _, _, _, rfl⟩, (s24.trans s25).trans (Sm.of s26)⟩
        rintro σ H27 ⟨⟨_, v12, v13, v14, rfl⟩, s24⟩
        walk_at "rd"
        exact ⟨⟨_, _, _, _, rfl⟩, s22.trans (sG.trans s24)⟩
      rintro σ H28 ⟨⟨v11, v12, v13, v14, rfl⟩, s22⟩
      walk_at "rd"
      exact ⟨⟨_, _, _, _, _, _, _, _, rfl⟩, sB.sm s22, (hs17.sm s22).le (by omega)⟩
    rintro σ H29 ⟨⟨v7, v8, v9, v10, v11, v12, v13, v14, rfl⟩, s21, hs21⟩
    walk_at "rd"
    exact k _ (sN.trans s21) (hs21.le (by omega))

def rNotB : R2 := fun x y H Q => ∃ i j : Bool, x = .bl i ∧ y = .bl j ∧ Q (.bl (!decide (i = j))) H
theorem op_notB {X : Cx} : OpR X (compareOp .IsNot) rNotB := by
  intro pins s σ H x y v u Q I rx ry h
  obtain ⟨i, j, rfl, rfl, q⟩ := h
  cases rx; cases ry
  refine wpAny_isNot_plain (by cases i <;> cases j <;> rfl) (fin_bl I q ?_)
  cases i <;> cases j <;> rfl
theorem sd_of {n : Int} (h1 : -1000 ≤ n) (h2 : n ≤ 1000) : SD n := by
  have : (1000 : Int) < 10 ^ 60 := by decide +kernel
  exact ⟨by omega, by omega⟩
theorem nm_19 : cmP 8 false "<" 3 200 1 0 19 = true := by decide +kernel
theorem nm_27 : cmP 8 false "<" 3 200 1 0 27 = true := by decide +kernel
theorem nm_tot : tot (cmP 8 false "<" 3 200 1 0) 0 99 = 9 := by decide +kernel
theorem nm_f : (wl (cmP 8 false "<" 3 200 1 0) 0 100)[0]? = some 19 := by decide +kernel
theorem nm_l : (wl (cmP 8 false "<" 3 200 1 0) 0 100)[8]? = some 27 := by decide +kernel
theorem nm_n : (wl (cmP 8 false "<" 3 200 1 0) 0 100).length = 9 := by decide +kernel
def sp__law_named_right (K : PySem.W.Frag) (C : Addr) (C_Walk : Addr) (C_InvalidBound : Addr) (TS : List (Addr × Str)) : Sp := fun vs H Q _ => ∃ u : Unit, vs = [] ∧ LamX.Tabs TS H ∧ ∀ H', Sm TS H H' → Q (.bl true) H'
theorem ok__law_named_right {P : Program} {w : World} {K : PySem.W.Frag} {mg : Str → Option Value} {base : Heap} (T : Txt K mg) (B : TBs T base w P) : FnOk P w K mg base CX0 20 T.f__law_named_right T.fd__law_named_right [] (sp__law_named_right K T.C_Kind T.C_Walk T.C_InvalidBound T.tabs) := by
  have G_Kind___init__ := ok_Kind___init__ (P := P) (w := w) (base := base) T B
  have G_compares := ok_compares (P := P) (w := w) (base := base) T B
  have G_first_holding := ok_first_holding (P := P) (w := w) (base := base) T B
  have G_holding_at := ok_holding_at (P := P) (w := w) (base := base) T B
  have G_holds := ok_holds (P := P) (w := w) (base := base) T B
  have G_last_holding := ok_last_holding (P := P) (w := w) (base := base) T B
  refine T.F__law_named_right.ok sc__law_named_right (fun vs H Q E h => ?_) (fun cdv A outer s H vs Q E hr h => ?_)
  · obtain ⟨u, rfl, _⟩ := h
    rfl
  · obtain ⟨u, rfl, h⟩ := h
    have hr_Kind___init__ : Room 3 _ := hr.mono (by decide)
    have hr_compares : Room 5 _ := hr.mono (by decide)
    have hr_first_holding : Room 19 _ := hr.mono (by decide)
    have hr_holding_at : Room 18 _ := hr.mono (by decide)
    have hr_holds : Room 6 _ := hr.mono (by decide)
    have hr_last_holding : Room 18 _ := hr.mono (by decide)
    refine ⟨_, (pss_cons (ps_par3 rfl sc__law_named_right.nd (i := 0) (j := 1) (l := 2) rfl rfl rfl (by decide) (by decide) (by decide) rfl rfl rfl (pa_cons (pe_make T.mk_Kind G_Kind___init__ hr_Kind___init__ rfl T.g_Kind T.b_Kind___init__ .nil pass0 (pa_cons pe_int (pa_cons pe_bl pa_nil))) (pa_cons (pe_tup (pa_cons pe_int (pa_cons pe_int pa_nil))) (pa_cons (pe_tup (pa_cons pe_int (pa_cons pe_int pa_nil))) pa_nil))) (by rfl))
      (pss_cons (ps_if (pt_cmpR (r := rNotB) op_notB (pe_callK0 G_compares hr_compares rfl T.g_compares T.k_compares T.kb_compares_0_x_other_relation_one_kind pass0 (pk_cons pe_int (pk_cons (pv 2 (hv := Or.inl rfl)) (pk_cons pe_str (pk_cons (pv 1 (hv := Or.inl rfl)) (pk_cons (pv 0 (hv := Or.inl rfl)) pk_nil)))))) pe_bl (nomark _)) (pss_one (ps_ret pe_bl)) pss_nil)
      (pss_cons (ps_if (pt_cmpR op_ne (pe_callK0 G_holds hr_holds rfl T.g_holds T.k_holds T.kb_holds_0_last_first_other_relation_one_kind pass0 (pk_cons pe_int (pk_cons pe_int (pk_cons (pv 2 (hv := Or.inl rfl)) (pk_cons pe_str (pk_cons (pv 1 (hv := Or.inl rfl)) (pk_cons (pv 0 (hv := Or.inl rfl)) pk_nil))))))) pe_int (nomark _)) (pss_one (ps_ret pe_bl)) pss_nil)
      (pss_cons (ps_if (pt_cmpR op_ne (pe_callK0 G_first_holding hr_first_holding rfl T.g_first_holding T.k_first_holding T.kb_first_holding_0_last_first_other_relation_one_kind pass0 (pk_cons pe_int (pk_cons pe_int (pk_cons (pv 2 (hv := Or.inl rfl)) (pk_cons pe_str (pk_cons (pv 1 (hv := Or.inl rfl)) (pk_cons (pv 0 (hv := Or.inl rfl)) pk_nil))))))) pe_int (nomark _)) (pss_one (ps_ret pe_bl)) pss_nil)
      (pss_cons (ps_if (pt_cmpR op_ne (pe_callK0 G_last_holding hr_last_holding rfl T.g_last_holding T.k_last_holding T.kb_last_holding_0_last_first_other_relation_one_kind pass0 (pk_cons pe_int (pk_cons pe_int (pk_cons (pv 2 (hv := Or.inl rfl)) (pk_cons pe_str (pk_cons (pv 1 (hv := Or.inl rfl)) (pk_cons (pv 0 (hv := Or.inl rfl)) pk_nil))))))) pe_int (nomark _)) (pss_one (ps_ret pe_bl)) pss_nil)
      (pss_one (ps_ret (pe_cmpR op_eq (pe_callK0 G_holding_at hr_holding_at rfl T.g_holding_at T.k_holding_at T.kb_holding_at_0_j_last_first_other_relation_one_kind pass0 (pk_cons pe_int (pk_cons pe_int (pk_cons pe_int (pk_cons (pv 2 (hv := Or.inl rfl)) (pk_cons pe_str (pk_cons (pv 1 (hv := Or.inl rfl)) (pk_cons (pv 0 (hv := Or.inl rfl)) pk_nil)))))))) pe_int (nomark _))))))))), ?_⟩
    try dsimp only [cxOf, Cx.nox, Cx.wish, Cx.blk]
    rw [show L2.start ["_law_byte", "_law_pair_here", "_law_line_here"] [] = [none, none, none] from rfl]
    obtain ⟨hT, k⟩ := h
    refine w_par3 ?_
    walk_at "rd"
    intro kx dx nx ndx nex
    refine ⟨kx, 8, false, rfl, ⟨dx, upd_same⟩, by decide, by decide, fun H3 hk kp3 => ⟨rfl, ?_⟩⟩
    have sm3 := Sm.of (T := T.tabs) (mk_same nx ndx kp3)
    walk_at "rd"
    refine ⟨by show 2 ≤ sizeLine; decide, fun ta hta => ?_⟩
    have s5 := sm3.new (o := .tup [.int 3, .int 200]) hta
    have hk := hk.sm ((Sm.refl (T := T.tabs) H3).new (o := .tup [.int 3, .int 200]) hta)
    have hta' : (L2.upd H3 ta (.tup [.int 3, .int 200])) ta = some (.tup [.int 3, .int 200]) := upd_same
    generalize L2.upd H3 ta _ = H5 at s5 hk hta' ⊢
    walk_at "rd"
    refine ⟨by show 2 ≤ sizeLine; decide, fun tb htb => ?_⟩
    have s6 := s5.new (o := .tup [.int 1, .int 0]) htb
    have hk := hk.sm ((Sm.refl (T := T.tabs) H5).new (o := .tup [.int 1, .int 0]) htb)
    have h1 := gn (u := .tup [.int 1, .int 0]) hta' htb
    have h2 : (L2.upd H5 tb (.tup [.int 1, .int 0])) tb = some (.tup [.int 1, .int 0]) := upd_same
    generalize L2.upd H5 tb _ = H6 at s6 hk h1 h2 ⊢
    have hT6 := s6.2 hT
    have hz : Rel "<" := .inl rfl
    have S0 : SD 3 := sd_of (by decide) (by decide)
    have S1 : SD 200 := sd_of (by decide) (by decide)
    have S2 : SD 1 := sd_of (by decide) (by decide)
    have S3 : SD 0 := sd_of (by decide) (by decide)
    have S4 : SD 99 := sd_of (by decide) (by decide)
    have S5 : SD 19 := sd_of (by decide) (by decide)
    clear sm3 s5 hta' hta htb
    walk_at "rd"
    refine ⟨_, _, _, rfl, ?_⟩
    walk_at "rd"
    refine ⟨kx, ta, _, tb, 19, 3, 200, 1, 0, 8, false, rfl, hk, h1, h2, S0, S1, S2, S3, hz, S5, ?_⟩
    walk_at "rd"
    refine ⟨_, _, rfl, rfl, ?_⟩
    rw [nm_19]
    walk_at "rd"
    refine iteF ?_
    walk_at "rd"
    refine ⟨kx, ta, _, tb, 0, 99, 3, 200, 1, 0, 8, false, rfl, hk, h1, h2, S0, S1, S2, S3, hz, S3, S4, fun H7 s7 => ?_⟩
    rw [nm_tot]
    have s7 := Sm.of (T := T.tabs) s7
    have hk := hk.sm s7
    have h1 := s7.at h1
    have h2 := s7.at h2
    have hT7 := s7.2 hT6
    walk_at "rd"
    refine w_ndecT rfl ?_
    walk_at "rd"
    refine ⟨kx, ta, _, tb, 0, 99, 3, 200, 1, 0, 8, false, rfl, hk, h1, h2, S0, S1, S2, S3, hz, S3, S4, hT7, fun v H8 hv s8 => ?_⟩
    rw [first_get (n := 100) (by decide) nm_f hv]
    have hk := hk.sm s8
    have h1 := s8.at h1
    have h2 := s8.at h2
    have hT8 := s8.2 hT7
    walk_at "rd"
    refine w_ndecT rfl ?_
    walk_at "rd"
    refine ⟨kx, ta, _, tb, 0, 99, 3, 200, 1, 0, 8, false, rfl, hk, h1, h2, S0, S1, S2, S3, hz, S3, S4, hT8, fun v H9 hv s9 => ?_⟩
    rw [last_get (n := 100) (by decide) (by rw [nm_n]; exact nm_l) hv]
    have hk := hk.sm s9
    have h1 := s9.at h1
    have h2 := s9.at h2
    have hT9 := s9.2 hT8
    walk_at "rd"
    refine w_ndecT rfl ?_
    walk_at "rd"
    refine ⟨kx, ta, _, tb, 0, 99, 8, 3, 200, 1, 0, 8, false, rfl, hk, h1, h2, S0, S1, S2, S3, hz, S3, S4, hT9, by decide, by rw [nm_tot]; decide, fun x H10 hx s10 => ?_⟩
    obtain ⟨x1, x2, x3, x4⟩ := hx
    have ex : x = 27 := wl_at (k := 8) nm_l x1 x3 (by rw [x4]; rfl)
    subst ex
    walk_at "rd"
    exact k _ (((s6.trans s7).trans s8).trans (s9.trans s10))

theorem nm_eq : tot (cmP 8 false "==" 3 200 1 0) 0 99 = 1 := by decide +kernel
def sp_law (K : PySem.W.Frag) (C : Addr) (C_Walk : Addr) (C_InvalidBound : Addr) (TS : List (Addr × Str)) : Sp := fun vs H Q _ => ∃ (a : Addr) (ns : List Int), vs = [.ref a] ∧ SqL K H a (ns.map V.int) ∧ ns.length ≤ 63 ∧ LamX.Tabs TS H ∧ ∀ H', Q (.bl true) H'
theorem ok_law {P : Program} {w : World} {K : PySem.W.Frag} {mg : Str → Option Value} {base : Heap} (T : Txt K mg) (B : TBs T base w P) : FnOk P w K mg base CX0 42 T.f_law T.fd_law ["_law_script"] (sp_law K T.C_Kind T.C_Walk T.C_InvalidBound T.tabs) := by
  have G_Kind___init__ := ok_Kind___init__ (P := P) (w := w) (base := base) T B
  have G__law_deck := ok__law_deck (P := P) (w := w) (base := base) T B
  have G__law_named_right := ok__law_named_right (P := P) (w := w) (base := base) T B
  have G__law_none_right := ok__law_none_right (P := P) (w := w) (base := base) T B
  have G__law_right := ok__law_right (P := P) (w := w) (base := base) T B
  have G_holds := ok_holds (P := P) (w := w) (base := base) T B
  refine T.F_law.ok sc_law (fun vs H Q E h => ?_) (fun cdv A outer s H vs Q E hr h => ?_)
  · obtain ⟨a, ns, rfl, _⟩ := h
    rfl
  · obtain ⟨a, ns, rfl, h⟩ := h
    have hr_Kind___init__ : Room 3 _ := hr.mono (by decide)
    have hr__law_deck : Room 1 _ := hr.mono (by decide)
    have hr__law_named_right : Room 20 _ := hr.mono (by decide)
    have hr__law_none_right : Room 41 _ := hr.mono (by decide)
    have hr__law_right : Room 20 _ := hr.mono (by decide)
    have hr_holds : Room 6 _ := hr.mono (by decide)
    refine ⟨_, (pss_cons (ps_for PassesOwn.never rfl (pi_list (pe_op op_cat (pe_slice sl_list (pv 0 (hv := Or.inl rfl)) po_none (po_some pe_int)) (pe_lst (pa_cons pe_int pa_nil)))) (pg_name (i := 1) sc_law.nd rfl (Or.inl rfl))
        (pss_cons (ps_set (i := 2) sc_law.nd rfl (Or.inl rfl) (pe_call G__law_deck hr__law_deck rfl T.g__law_deck T.k__law_deck T.b__law_deck .nil pass0 (pa_cons (pv 1 (hv := Or.inl rfl)) pa_nil)))
      (pss_one (ps_if (PW.pt (pw_or (pt_not (pt_val (pe_call G__law_right hr__law_right rfl T.g__law_right T.k__law_right T.b__law_right .nil pass0 (pa_cons (pv 2 (hv := Or.inl rfl)) pa_nil)))) (pw_or (pt_not (pt_val (pe_call G__law_right hr__law_right rfl T.g__law_right T.k__law_right T.b__law_right .nil pass0 (pa_cons (pv 2 (hv := Or.inl rfl)) pa_nil)))) (pw_or1 (pt_not (pt_val (pe_call G__law_none_right hr__law_none_right rfl T.g__law_none_right T.k__law_none_right T.b__law_none_right .nil pass0 (pa_cons (pv 2 (hv := Or.inl rfl)) pa_nil)))))))) (pss_one (ps_ret pe_bl)) pss_nil))))
      (pss_one (ps_ret (pe_and (pe_cmpR op_eq (pe_call G_holds hr_holds rfl T.g_holds T.k_holds T.b_holds .nil pass0 (pa_cons (pe_make T.mk_Kind G_Kind___init__ hr_Kind___init__ rfl T.g_Kind T.b_Kind___init__ .nil pass0 (pa_cons pe_int (pa_cons pe_bl pa_nil))) (pa_cons (pe_tup (pa_cons pe_int (pa_cons pe_int pa_nil))) (pa_cons pe_str (pa_cons (pe_tup (pa_cons pe_int (pa_cons pe_int pa_nil))) (pa_cons pe_int (pa_cons pe_int pa_nil))))))) pe_int (nomark _)) (pe_one (pe_call0 G__law_named_right hr__law_named_right rfl T.g__law_named_right T.k__law_named_right T.b__law_named_right .nil pass0)))))), ?_⟩
    try dsimp only [cxOf, Cx.nox, Cx.wish, Cx.blk]
    rw [show L2.start ["_law_script", "_law_cell", "_law_deck_here"] [.ref a] = [some (.ref a), none, none] from rfl]
    obtain ⟨hS, n63, hT, k⟩ := h
    walk_at "rd"
    have e3 := cut_take V.int ns 3
    refine w_slL hS (fun q1 hq1 => ?_)
    rw [show (some (3 : Int)) = some ((3 : Nat) : Int) from rfl, e3]
    clear e3
    have lm : (ns.take 3).length ≤ 3 := by rw [List.length_take]; omega
    generalize ns.take 3 = ms at lm
    walk_at "rd"
    refine ⟨by show 1 ≤ sizeLine; decide, fun q2 hq2 => ?_⟩
    refine w_cat (gn upd_same hq2) upd_same (by rw [List.length_map]; exact Nat.le_trans (show ms.length + 1 ≤ 64 by omega) (by decide)) (fun q3 hq3 => ?_)
    have s0 : Sm T.tabs H (L2.upd (L2.upd (L2.upd H q1 (.lst (ms.map V.int))) q2 (.lst [V.int 0])) q3 (.lst (ms.map V.int ++ [V.int 0]))) := (((Sm.refl H).new hq1).new hq2).new hq3
    have hx0 : (L2.upd (L2.upd (L2.upd H q1 (.lst (ms.map V.int))) q2 (.lst [V.int 0])) q3 (.lst (ms.map V.int ++ [V.int 0]))) q3 = some (.lst ((ms ++ [0]).map V.int)) := by
      rw [upd_same, List.map_append]; rfl
    generalize L2.upd (L2.upd (L2.upd H q1 _) q2 _) q3 _ = H0 at s0 hx0 ⊢
    walk_at "rd"
    refine ⟨⟨_, SqL.of hx0⟩, for_list (K := K) (a := q3) (xs := (ms ++ [0]).map V.int) (fun i σ H' => (∃ v1 v2 : Option V, σ = [some (.ref a), v1, v2]) ∧ Sm T.tabs H0 H')
      ⟨⟨_, _, rfl⟩, Sm.refl H0⟩ (fun i σ H' _ p => SqL.of (p.2.at hx0)) ?_ ?_⟩
    · rintro i x σ H' hi ⟨⟨v1, v2, rfl⟩, s1⟩
      obtain ⟨c, _, rfl⟩ := map_get hi
      walk_at "rd"
      refine ⟨c, rfl, fun p H2 hp s2 hs2 => ?_⟩
      have hT2 := (s1.trans (Sm.of s2)).2 (s0.2 hT)
      walk_at "rd"
      refine ⟨p, 3, rfl, hs2, by decide, hT2, fun H3 s3 hs3 => ?_⟩
      walk_at "rd"
      refine iteF ?_
      walk_at "rd"
      refine ⟨p, _, rfl, hs3, by decide, s3.2 hT2, fun H4 s4 hs4 => ?_⟩
      walk_at "rd"
      refine iteF ?_
      walk_at "rd"
      refine ⟨p, _, rfl, hs4, by decide, s4.2 (s3.2 hT2), fun H5 s5 hs5 => ?_⟩
      walk_at "rd"
      refine iteF ?_
      walk_at "rd"
      exact ⟨⟨_, _, rfl⟩, Kq.out s1 hp (Sm.of s2) ((s3.trans s4).trans s5)⟩
    · rintro σ H' ⟨⟨v1, v2, rfl⟩, s1⟩
      walk_at "rd"
      have hT1 := s1.2 (s0.2 hT)
      intro kx dx nx ndx nex
      refine ⟨kx, 8, false, rfl, ⟨dx, upd_same⟩, by decide, by decide, fun H3 hk kp3 => ⟨rfl, ?_⟩⟩
      have sm3 := Sm.of (T := T.tabs) (mk_same nx ndx kp3)
      walk_at "rd"
      refine ⟨by show 2 ≤ sizeLine; decide, fun ta hta => ?_⟩
      have s5 := sm3.new (o := .tup [.int 3, .int 200]) hta
      have hk := hk.sm ((Sm.refl (T := T.tabs) H3).new (o := .tup [.int 3, .int 200]) hta)
      have hta' : (L2.upd H3 ta (.tup [.int 3, .int 200])) ta = some (.tup [.int 3, .int 200]) := upd_same
      generalize L2.upd H3 ta _ = H5 at s5 hk hta' ⊢
      walk_at "rd"
      refine ⟨by show 2 ≤ sizeLine; decide, fun tb htb => ?_⟩
      have s6 := s5.new (o := .tup [.int 1, .int 0]) htb
      have hk := hk.sm ((Sm.refl (T := T.tabs) H5).new (o := .tup [.int 1, .int 0]) htb)
      have h1 := gn (u := .tup [.int 1, .int 0]) hta' htb
      have h2 : (L2.upd H5 tb (.tup [.int 1, .int 0])) tb = some (.tup [.int 1, .int 0]) := upd_same
      generalize L2.upd H5 tb _ = H6 at s6 hk h1 h2 ⊢
      have hz : Rel "==" := by simp [Rel]
      have S0 : SD 3 := sd_of (by decide) (by decide)
      have S1 : SD 200 := sd_of (by decide) (by decide)
      have S2 : SD 1 := sd_of (by decide) (by decide)
      have S3 : SD 0 := sd_of (by decide) (by decide)
      have S4 : SD 99 := sd_of (by decide) (by decide)
      walk_at "rd"
      refine ⟨kx, ta, _, tb, 0, 99, 3, 200, 1, 0, 8, false, rfl, hk, h1, h2, S0, S1, S2, S3, hz, S3, S4, fun H7 s7 => ?_⟩
      rw [nm_eq]
      walk_at "rd"
      rw [decide_eq_true rfl]
      refine iteT ?_
      walk_at "rd"
      exact ⟨(), rfl, (Sm.of (T := T.tabs) s7).2 (s6.2 hT1), fun H8 s8 => k _⟩
theorem mk_txt {K : PySem.W.Frag} {h : Heap} {mg : Str → Option Value} {C_Walk C_Kind C_InvalidBound fi_InvalidBound cc_InvalidBound cda_InvalidBound f_Walk___init__ f_Walk_mirrored f_Walk_of_laps f_Walk_marked_steps f_Walk_cost f_Walk_steps_for f__steps_to_visit f_hit_at f_is_integer f_check_integer f_is_sixty_digits f_check_sixty_digits f_is_count f_check_number f_is_word f_check_word f_opposite f_stands f_Kind___init__ f_check_kind f_least f_greatest f_wrapped f_quotient_total f_total_between f_check_line f_check_range f_exact_at f_wanted_of f__check_lines f__check f_compares f__count f__gap f__less_total f__equal_total f__total f_holds f__less_hits f__hits f__holding cd__holding P__holding f__first_holding f_first_holding f_last_holding f_holding_at f__ordered_parts f__surprising_parts f_surprises f_first_surprise f__law_deck f__law_deal f__law_choice f__law_great f__law_near f__law_some f__law_pair f__law_table f__law_is_so f__law_right f__law_refused f__law_none_right cd__law_none_right P__law_none_right f__law_named_right f_law a_RELATIONS a_OPPOSITES : Addr} (X : K.In h) (G : h.Ns mainGlobals mg)
    {x1_InvalidBound x2_InvalidBound x3_InvalidBound x4_InvalidBound od_Walk___init__ an_Walk___init__ od_Walk_mirrored an_Walk_mirrored od_Walk_of_laps an_Walk_of_laps od_Walk_marked_steps an_Walk_marked_steps od_Walk_cost an_Walk_cost od_Walk_steps_for an_Walk_steps_for od__steps_to_visit an__steps_to_visit od_hit_at an_hit_at od_is_integer an_is_integer od_check_integer an_check_integer od_is_sixty_digits an_is_sixty_digits od_check_sixty_digits an_check_sixty_digits od_is_count an_is_count od_check_number an_check_number od_is_word an_is_word od_check_word an_check_word od_opposite an_opposite od_stands an_stands od_Kind___init__ an_Kind___init__ od_check_kind an_check_kind od_least an_least od_greatest an_greatest od_wrapped an_wrapped od_quotient_total an_quotient_total od_total_between an_total_between od_check_line an_check_line od_check_range an_check_range od_exact_at an_exact_at od_wanted_of an_wanted_of od__check_lines an__check_lines od__check an__check od_compares an_compares od__count an__count od__gap an__gap od__less_total an__less_total od__equal_total an__equal_total od__total an__total od_holds an_holds od__less_hits an__less_hits od__hits an__hits od__holding an__holding o2__holding od__first_holding an__first_holding od_first_holding an_first_holding od_last_holding an_last_holding od_holding_at an_holding_at od__ordered_parts an__ordered_parts od__surprising_parts an__surprising_parts od_surprises an_surprises od_first_surprise an_first_surprise od__law_deck an__law_deck od__law_deal an__law_deal od__law_choice an__law_choice od__law_great an__law_great od__law_near an__law_near od__law_some an__law_some od__law_pair an__law_pair od__law_table an__law_table od__law_is_so an__law_is_so od__law_right an__law_right od__law_refused an__law_refused od__law_none_right an__law_none_right o2__law_none_right od__law_named_right an__law_named_right od_law an_law dd_RELATIONS : Option Addr} {y1_InvalidBound y2_InvalidBound y3_InvalidBound sl_Walk___init__ sl_Walk_mirrored sl_Walk_of_laps sl_Walk_marked_steps sl_Walk_cost sl_Walk_steps_for sl__steps_to_visit sl_hit_at sl_is_integer sl_check_integer sl_is_sixty_digits sl_check_sixty_digits sl_is_count sl_check_number sl_is_word sl_check_word sl_opposite sl_stands sl_Kind___init__ sl_check_kind sl_least sl_greatest sl_wrapped sl_quotient_total sl_total_between sl_check_line sl_check_range sl_exact_at sl_wanted_of sl__check_lines sl__check sl_compares sl__count sl__gap sl__less_total sl__equal_total sl__total sl_holds sl__less_hits sl__hits sl__holding o3__holding sl__first_holding sl_first_holding sl_last_holding sl_holding_at sl__ordered_parts sl__surprising_parts sl_surprises sl_first_surprise sl__law_deck sl__law_deal sl__law_choice sl__law_great sl__law_near sl__law_some sl__law_pair sl__law_table sl__law_is_so sl__law_right sl__law_refused sl__law_none_right o3__law_none_right sl__law_named_right sl_law sl_RELATIONS : Array (Option Value)} {z1_InvalidBound z2_InvalidBound z3_InvalidBound z4_InvalidBound z5_InvalidBound z6_InvalidBound z7_InvalidBound oc_Walk___init__ kV_Walk___init__ dc_Walk___init__ pm_Walk___init__ cd_Walk___init__ ct_Walk___init__ oc_Walk_mirrored kV_Walk_mirrored dc_Walk_mirrored pm_Walk_mirrored cd_Walk_mirrored ct_Walk_mirrored oc_Walk_of_laps kV_Walk_of_laps dc_Walk_of_laps pm_Walk_of_laps cd_Walk_of_laps ct_Walk_of_laps oc_Walk_marked_steps kV_Walk_marked_steps dc_Walk_marked_steps pm_Walk_marked_steps cd_Walk_marked_steps ct_Walk_marked_steps oc_Walk_cost kV_Walk_cost dc_Walk_cost pm_Walk_cost cd_Walk_cost ct_Walk_cost oc_Walk_steps_for kV_Walk_steps_for dc_Walk_steps_for pm_Walk_steps_for cd_Walk_steps_for ct_Walk_steps_for oc__steps_to_visit kV__steps_to_visit dc__steps_to_visit pm__steps_to_visit cd__steps_to_visit ct__steps_to_visit oc_hit_at kV_hit_at dc_hit_at pm_hit_at cd_hit_at ct_hit_at oc_is_integer kV_is_integer dc_is_integer pm_is_integer cd_is_integer ct_is_integer oc_check_integer kV_check_integer dc_check_integer pm_check_integer cd_check_integer ct_check_integer oc_is_sixty_digits kV_is_sixty_digits dc_is_sixty_digits pm_is_sixty_digits cd_is_sixty_digits ct_is_sixty_digits oc_check_sixty_digits kV_check_sixty_digits dc_check_sixty_digits pm_check_sixty_digits cd_check_sixty_digits ct_check_sixty_digits oc_is_count kV_is_count dc_is_count pm_is_count cd_is_count ct_is_count oc_check_number kV_check_number dc_check_number pm_check_number cd_check_number ct_check_number oc_is_word kV_is_word dc_is_word pm_is_word cd_is_word ct_is_word oc_check_word kV_check_word dc_check_word pm_check_word cd_check_word ct_check_word oc_opposite kV_opposite dc_opposite pm_opposite cd_opposite ct_opposite oc_stands kV_stands dc_stands pm_stands cd_stands ct_stands oc_Kind___init__ kV_Kind___init__ dc_Kind___init__ pm_Kind___init__ cd_Kind___init__ ct_Kind___init__ oc_check_kind kV_check_kind dc_check_kind pm_check_kind cd_check_kind ct_check_kind oc_least kV_least dc_least pm_least cd_least ct_least oc_greatest kV_greatest dc_greatest pm_greatest cd_greatest ct_greatest oc_wrapped kV_wrapped dc_wrapped pm_wrapped cd_wrapped ct_wrapped oc_quotient_total kV_quotient_total dc_quotient_total pm_quotient_total cd_quotient_total ct_quotient_total oc_total_between kV_total_between dc_total_between pm_total_between cd_total_between ct_total_between oc_check_line kV_check_line dc_check_line pm_check_line cd_check_line ct_check_line oc_check_range kV_check_range dc_check_range pm_check_range cd_check_range ct_check_range oc_exact_at kV_exact_at dc_exact_at pm_exact_at cd_exact_at ct_exact_at oc_wanted_of kV_wanted_of dc_wanted_of pm_wanted_of cd_wanted_of ct_wanted_of oc__check_lines kV__check_lines dc__check_lines pm__check_lines cd__check_lines ct__check_lines oc__check kV__check dc__check pm__check cd__check ct__check oc_compares kV_compares dc_compares pm_compares cd_compares ct_compares oc__count kV__count dc__count pm__count cd__count ct__count oc__gap kV__gap dc__gap pm__gap cd__gap ct__gap oc__less_total kV__less_total dc__less_total pm__less_total cd__less_total ct__less_total oc__equal_total kV__equal_total dc__equal_total pm__equal_total cd__equal_total ct__equal_total oc__total kV__total dc__total pm__total cd__total ct__total oc_holds kV_holds dc_holds pm_holds cd_holds ct_holds oc__less_hits kV__less_hits dc__less_hits pm__less_hits cd__less_hits ct__less_hits oc__hits kV__hits dc__hits pm__hits cd__hits ct__hits oc__holding kV__holding dc__holding pm__holding ct__holding o1__holding oc__first_holding kV__first_holding dc__first_holding pm__first_holding cd__first_holding ct__first_holding oc_first_holding kV_first_holding dc_first_holding pm_first_holding cd_first_holding ct_first_holding oc_last_holding kV_last_holding dc_last_holding pm_last_holding cd_last_holding ct_last_holding oc_holding_at kV_holding_at dc_holding_at pm_holding_at cd_holding_at ct_holding_at oc__ordered_parts kV__ordered_parts dc__ordered_parts pm__ordered_parts cd__ordered_parts ct__ordered_parts oc__surprising_parts kV__surprising_parts dc__surprising_parts pm__surprising_parts cd__surprising_parts ct__surprising_parts oc_surprises kV_surprises dc_surprises pm_surprises cd_surprises ct_surprises oc_first_surprise kV_first_surprise dc_first_surprise pm_first_surprise cd_first_surprise ct_first_surprise oc__law_deck kV__law_deck dc__law_deck pm__law_deck cd__law_deck ct__law_deck oc__law_deal kV__law_deal dc__law_deal pm__law_deal cd__law_deal ct__law_deal oc__law_choice kV__law_choice dc__law_choice pm__law_choice cd__law_choice ct__law_choice oc__law_great kV__law_great dc__law_great pm__law_great cd__law_great ct__law_great oc__law_near kV__law_near dc__law_near pm__law_near cd__law_near ct__law_near oc__law_some kV__law_some dc__law_some pm__law_some cd__law_some ct__law_some oc__law_pair kV__law_pair dc__law_pair pm__law_pair cd__law_pair ct__law_pair oc__law_table kV__law_table dc__law_table pm__law_table cd__law_table ct__law_table oc__law_is_so kV__law_is_so dc__law_is_so pm__law_is_so cd__law_is_so ct__law_is_so oc__law_right kV__law_right dc__law_right pm__law_right cd__law_right ct__law_right oc__law_refused kV__law_refused dc__law_refused pm__law_refused cd__law_refused ct__law_refused oc__law_none_right kV__law_none_right dc__law_none_right pm__law_none_right ct__law_none_right o1__law_none_right oc__law_named_right kV__law_named_right dc__law_named_right pm__law_named_right cd__law_named_right ct__law_named_right oc_law kV_law dc_law pm_law cd_law ct_law : Value} {t_BEYOND_SIXTY_DIGITS t_OPPOSITES_0 t_OPPOSITES_1 t_OPPOSITES_2 t_OPPOSITES_3 t_OPPOSITES_4 t_OPPOSITES_5 t_MOST_BITS : Tok} {vx_InvalidBound vs__holding vs__law_none_right its_RELATIONS : Array Value} {es_OPPOSITES : Array DictEntry} {w : World} {n_RELATIONS n_OPPOSITES : Nat} {P : Program} {fl : Str} {nm_InvalidBound q_InvalidBound : Str} {N_InvalidBound : Addr} {bs_InvalidBound bm_InvalidBound : List Value} {sn_InvalidBound : List Str} {sub_InvalidBound : List Value} {ab_InvalidBound : Bool} {col_InvalidBound : Option Bool} {dd_InvalidBound : Option Addr} {k0_InvalidBound k1_InvalidBound k2_InvalidBound k3_InvalidBound k5_InvalidBound : Option Value} {tf_InvalidBound : Tok}
    (aC_Walk : PySem.W.nsIn K mainGlobals "Walk" = some (some (.ref C_Walk)))
    (a_Walk___init__ : PySem.W.findIn K (.ref C_Walk) "__init__" = some (some (.ref f_Walk___init__)))
    (i_Walk___init__ : PySem.W.isFn K (.ref f_Walk___init__) = true)
    (pg_Walk : PySem.W.plainGet K C_Walk Str.empty = true)
    (hd_Walk : PySem.W.hasDictIn K C_Walk = true)
    (po_Walk : PySem.W.plainOver K C_Walk = true)
    (sa_Walk : PySem.W.findIn K (.ref C_Walk) "__setattr__" = some (some (.builtin "object.__setattr__")))
    (mkk_Walk : PySem.W.makesIn K C_Walk = true)
    (kc_Walk : PySem.W.keepIn K (.ref C_Walk) = true)
    (na_Walk_size : PySem.W.findIn K (.ref C_Walk) "size" = some none)
    (na_Walk_step : PySem.W.findIn K (.ref C_Walk) "step" = some none)
    (na_Walk_marks : PySem.W.findIn K (.ref C_Walk) "marks" = some none)
    (na_Walk_each : PySem.W.findIn K (.ref C_Walk) "each" = some none)
    (na_Walk_marked : PySem.W.findIn K (.ref C_Walk) "marked" = some none)
    (na_Walk_around : PySem.W.findIn K (.ref C_Walk) "around" = some none)
    (ia_Walk : PySem.W.findIn K (.ref C_Walk) "__class__" = some (some (.builtin "object.__class__")))
    (ib_Walk : PySem.W.specialIn K (.builtin "object.__class__") "__get__" = some (some (.builtin "getset_descriptor.__get__")))
    (ic_Walk : PySem.W.takesIn K (.builtin "object.__class__") = some true)
    (id_Walk : PySem.W.mroIn K C_Walk (.type "object") = some true)
    (aC_Kind : PySem.W.nsIn K mainGlobals "Kind" = some (some (.ref C_Kind)))
    (a_Kind___init__ : PySem.W.findIn K (.ref C_Kind) "__init__" = some (some (.ref f_Kind___init__)))
    (i_Kind___init__ : PySem.W.isFn K (.ref f_Kind___init__) = true)
    (pg_Kind : PySem.W.plainGet K C_Kind Str.empty = true)
    (hd_Kind : PySem.W.hasDictIn K C_Kind = true)
    (po_Kind : PySem.W.plainOver K C_Kind = true)
    (sa_Kind : PySem.W.findIn K (.ref C_Kind) "__setattr__" = some (some (.builtin "object.__setattr__")))
    (mkk_Kind : PySem.W.makesIn K C_Kind = true)
    (kc_Kind : PySem.W.keepIn K (.ref C_Kind) = true)
    (na_Kind_bits : PySem.W.findIn K (.ref C_Kind) "bits" = some none)
    (na_Kind_is_signed : PySem.W.findIn K (.ref C_Kind) "is_signed" = some none)
    (ia_Kind : PySem.W.findIn K (.ref C_Kind) "__class__" = some (some (.builtin "object.__class__")))
    (ib_Kind : PySem.W.specialIn K (.builtin "object.__class__") "__get__" = some (some (.builtin "getset_descriptor.__get__")))
    (ic_Kind : PySem.W.takesIn K (.builtin "object.__class__") = some true)
    (id_Kind : PySem.W.mroIn K C_Kind (.type "object") = some true)
    (gx_InvalidBound : PySem.W.nsIn K mainGlobals "InvalidBound" = some (some (.ref C_InvalidBound)))
    (e1_InvalidBound : PySem.W.subIn K (.ref C_InvalidBound) (.type "BaseException") = some true)
    (e2_InvalidBound : PySem.W.typeIn K (.ref C_InvalidBound) = some (.type "type"))
    (e3_InvalidBound : PySem.W.keepIn K (.ref C_InvalidBound) = true)
    (e4_InvalidBound : PySem.W.findIn K (.ref C_InvalidBound) "argument" = some none)
    (e5_InvalidBound : K.lookup C_InvalidBound = some (excClassObj nm_InvalidBound q_InvalidBound C_InvalidBound N_InvalidBound bs_InvalidBound bm_InvalidBound true sn_InvalidBound sub_InvalidBound ab_InvalidBound col_InvalidBound dd_InvalidBound k0_InvalidBound k1_InvalidBound k2_InvalidBound k3_InvalidBound k5_InvalidBound "ArithmeticError.__new__"))
    (e6_InvalidBound : refsAE bm_InvalidBound = true)
    (e7_InvalidBound : PySem.W.findIn K (.ref C_InvalidBound) "__setattr__" = some (some (.builtin "object.__setattr__")))
    (e8_InvalidBound : PySem.W.ks_superIn K C_InvalidBound C_InvalidBound "__init__" = some (some (.builtin "ArithmeticError.__init__")))
    (e9_InvalidBound : PySem.W.nsIn K cStatics "thirdparty.any" = some none)
    (f1_InvalidBound : PySem.W.subIn K (.ref C_InvalidBound) (.type "ArithmeticError") = some true)
    (f2_InvalidBound : PySem.W.mroIn K C_InvalidBound (.ref C_InvalidBound) = some true)
    (f3_InvalidBound : PySem.W.findIn K (.ref C_InvalidBound) "__getattribute__" = some (some (.builtin "BaseException.__getattribute__")))
    (f4_InvalidBound : PySem.W.findIn K (.ref C_InvalidBound) "__getattr__" = some none)
    (f5_InvalidBound : PySem.W.hasDictIn K C_InvalidBound = true)
    (f6_InvalidBound : PySem.W.exmOne K (.ref C_InvalidBound) (.ref C_InvalidBound) = some true)
    (f7_InvalidBound : PySem.W.findIn K (.ref C_InvalidBound) "__init__" = some (some (.ref fi_InvalidBound)))
    (f8_InvalidBound : PySem.W.typeIn K (.ref fi_InvalidBound) = some (.type "function"))
    (f9_InvalidBound : K.lookup fi_InvalidBound = some ⟨z1_InvalidBound, x1_InvalidBound, .func (PySem.W.ksFn "__init__" "InvalidBound.__init__" (defArgs s_InvalidBound___init__) (defBody s_InvalidBound___init__) (defScope s_InvalidBound___init__) .none z2_InvalidBound z3_InvalidBound z4_InvalidBound x2_InvalidBound (.ref cda_InvalidBound) z5_InvalidBound cc_InvalidBound), y1_InvalidBound⟩)
    (g1_InvalidBound : PySem.W.codeIn K (.ref cda_InvalidBound) "InvalidBound.__init__" = true)
    (g2_InvalidBound : K.lookup cda_InvalidBound = some ⟨z6_InvalidBound, x3_InvalidBound, .fields vx_InvalidBound, y2_InvalidBound⟩)
    (g3_InvalidBound : vx_InvalidBound[2]? = some (.str fl tf_InvalidBound))
    (g4_InvalidBound : K.lookup cc_InvalidBound = some ⟨z7_InvalidBound, x4_InvalidBound, .cell (some (.ref C_InvalidBound)), y3_InvalidBound⟩)
    (l_Walk___init__ : K.lookup f_Walk___init__ = some ⟨oc_Walk___init__, od_Walk___init__, .func (PySem.W.fnOf "__init__" "Walk.__init__" (defArgs s_Walk___init__) (defBody s_Walk___init__) (defScope s_Walk___init__) .none kV_Walk___init__ dc_Walk___init__ pm_Walk___init__ an_Walk___init__ cd_Walk___init__ ct_Walk___init__), sl_Walk___init__⟩)
    (c_Walk___init__ : PySem.W.codeIn K cd_Walk___init__ "Walk.__init__" = true)
    (k_Walk___init__ : PySem.W.keepIn K (.ref f_Walk___init__) = true)
    (a_Walk_mirrored : PySem.W.findIn K (.ref C_Walk) "mirrored" = some (some (.ref f_Walk_mirrored)))
    (i_Walk_mirrored : PySem.W.isFn K (.ref f_Walk_mirrored) = true)
    (l_Walk_mirrored : K.lookup f_Walk_mirrored = some ⟨oc_Walk_mirrored, od_Walk_mirrored, .func (PySem.W.fnOf "mirrored" "Walk.mirrored" (defArgs s_Walk_mirrored) (defBody s_Walk_mirrored) (defScope s_Walk_mirrored) .none kV_Walk_mirrored dc_Walk_mirrored pm_Walk_mirrored an_Walk_mirrored cd_Walk_mirrored ct_Walk_mirrored), sl_Walk_mirrored⟩)
    (c_Walk_mirrored : PySem.W.codeIn K cd_Walk_mirrored "Walk.mirrored" = true)
    (k_Walk_mirrored : PySem.W.keepIn K (.ref f_Walk_mirrored) = true)
    (a_Walk_of_laps : PySem.W.findIn K (.ref C_Walk) "of_laps" = some (some (.ref f_Walk_of_laps)))
    (i_Walk_of_laps : PySem.W.isFn K (.ref f_Walk_of_laps) = true)
    (l_Walk_of_laps : K.lookup f_Walk_of_laps = some ⟨oc_Walk_of_laps, od_Walk_of_laps, .func (PySem.W.fnOf "of_laps" "Walk.of_laps" (defArgs s_Walk_of_laps) (defBody s_Walk_of_laps) (defScope s_Walk_of_laps) .none kV_Walk_of_laps dc_Walk_of_laps pm_Walk_of_laps an_Walk_of_laps cd_Walk_of_laps ct_Walk_of_laps), sl_Walk_of_laps⟩)
    (c_Walk_of_laps : PySem.W.codeIn K cd_Walk_of_laps "Walk.of_laps" = true)
    (k_Walk_of_laps : PySem.W.keepIn K (.ref f_Walk_of_laps) = true)
    (a_Walk_marked_steps : PySem.W.findIn K (.ref C_Walk) "marked_steps" = some (some (.ref f_Walk_marked_steps)))
    (i_Walk_marked_steps : PySem.W.isFn K (.ref f_Walk_marked_steps) = true)
    (l_Walk_marked_steps : K.lookup f_Walk_marked_steps = some ⟨oc_Walk_marked_steps, od_Walk_marked_steps, .func (PySem.W.fnOf "marked_steps" "Walk.marked_steps" (defArgs s_Walk_marked_steps) (defBody s_Walk_marked_steps) (defScope s_Walk_marked_steps) .none kV_Walk_marked_steps dc_Walk_marked_steps pm_Walk_marked_steps an_Walk_marked_steps cd_Walk_marked_steps ct_Walk_marked_steps), sl_Walk_marked_steps⟩)
    (c_Walk_marked_steps : PySem.W.codeIn K cd_Walk_marked_steps "Walk.marked_steps" = true)
    (k_Walk_marked_steps : PySem.W.keepIn K (.ref f_Walk_marked_steps) = true)
    (a_Walk_cost : PySem.W.findIn K (.ref C_Walk) "cost" = some (some (.ref f_Walk_cost)))
    (i_Walk_cost : PySem.W.isFn K (.ref f_Walk_cost) = true)
    (l_Walk_cost : K.lookup f_Walk_cost = some ⟨oc_Walk_cost, od_Walk_cost, .func (PySem.W.fnOf "cost" "Walk.cost" (defArgs s_Walk_cost) (defBody s_Walk_cost) (defScope s_Walk_cost) .none kV_Walk_cost dc_Walk_cost pm_Walk_cost an_Walk_cost cd_Walk_cost ct_Walk_cost), sl_Walk_cost⟩)
    (c_Walk_cost : PySem.W.codeIn K cd_Walk_cost "Walk.cost" = true)
    (k_Walk_cost : PySem.W.keepIn K (.ref f_Walk_cost) = true)
    (a_Walk_steps_for : PySem.W.findIn K (.ref C_Walk) "steps_for" = some (some (.ref f_Walk_steps_for)))
    (i_Walk_steps_for : PySem.W.isFn K (.ref f_Walk_steps_for) = true)
    (l_Walk_steps_for : K.lookup f_Walk_steps_for = some ⟨oc_Walk_steps_for, od_Walk_steps_for, .func (PySem.W.fnOf "steps_for" "Walk.steps_for" (defArgs s_Walk_steps_for) (defBody s_Walk_steps_for) (defScope s_Walk_steps_for) .none kV_Walk_steps_for dc_Walk_steps_for pm_Walk_steps_for an_Walk_steps_for cd_Walk_steps_for ct_Walk_steps_for), sl_Walk_steps_for⟩)
    (c_Walk_steps_for : PySem.W.codeIn K cd_Walk_steps_for "Walk.steps_for" = true)
    (k_Walk_steps_for : PySem.W.keepIn K (.ref f_Walk_steps_for) = true)
    (a__steps_to_visit : PySem.W.nsIn K mainGlobals "_steps_to_visit" = some (some (.ref f__steps_to_visit)))
    (l__steps_to_visit : K.lookup f__steps_to_visit = some ⟨oc__steps_to_visit, od__steps_to_visit, .func (PySem.W.fnOf "_steps_to_visit" "_steps_to_visit" (defArgs s__steps_to_visit) (defBody s__steps_to_visit) (defScope s__steps_to_visit) .none kV__steps_to_visit dc__steps_to_visit pm__steps_to_visit an__steps_to_visit cd__steps_to_visit ct__steps_to_visit), sl__steps_to_visit⟩)
    (c__steps_to_visit : PySem.W.codeIn K cd__steps_to_visit "_steps_to_visit" = true)
    (k__steps_to_visit : PySem.W.keepIn K (.ref f__steps_to_visit) = true)
    (a_hit_at : PySem.W.nsIn K mainGlobals "hit_at" = some (some (.ref f_hit_at)))
    (l_hit_at : K.lookup f_hit_at = some ⟨oc_hit_at, od_hit_at, .func (PySem.W.fnOf "hit_at" "hit_at" (defArgs s_hit_at) (defBody s_hit_at) (defScope s_hit_at) .none kV_hit_at dc_hit_at pm_hit_at an_hit_at cd_hit_at ct_hit_at), sl_hit_at⟩)
    (c_hit_at : PySem.W.codeIn K cd_hit_at "hit_at" = true)
    (k_hit_at : PySem.W.keepIn K (.ref f_hit_at) = true)
    (a_is_integer : PySem.W.nsIn K mainGlobals "is_integer" = some (some (.ref f_is_integer)))
    (l_is_integer : K.lookup f_is_integer = some ⟨oc_is_integer, od_is_integer, .func (PySem.W.fnOf "is_integer" "is_integer" (defArgs s_is_integer) (defBody s_is_integer) (defScope s_is_integer) .none kV_is_integer dc_is_integer pm_is_integer an_is_integer cd_is_integer ct_is_integer), sl_is_integer⟩)
    (c_is_integer : PySem.W.codeIn K cd_is_integer "is_integer" = true)
    (k_is_integer : PySem.W.keepIn K (.ref f_is_integer) = true)
    (a_check_integer : PySem.W.nsIn K mainGlobals "check_integer" = some (some (.ref f_check_integer)))
    (l_check_integer : K.lookup f_check_integer = some ⟨oc_check_integer, od_check_integer, .func (PySem.W.fnOf "check_integer" "check_integer" (defArgs s_check_integer) (defBody s_check_integer) (defScope s_check_integer) .none kV_check_integer dc_check_integer pm_check_integer an_check_integer cd_check_integer ct_check_integer), sl_check_integer⟩)
    (c_check_integer : PySem.W.codeIn K cd_check_integer "check_integer" = true)
    (k_check_integer : PySem.W.keepIn K (.ref f_check_integer) = true)
    (a_is_sixty_digits : PySem.W.nsIn K mainGlobals "is_sixty_digits" = some (some (.ref f_is_sixty_digits)))
    (l_is_sixty_digits : K.lookup f_is_sixty_digits = some ⟨oc_is_sixty_digits, od_is_sixty_digits, .func (PySem.W.fnOf "is_sixty_digits" "is_sixty_digits" (defArgs s_is_sixty_digits) (defBody s_is_sixty_digits) (defScope s_is_sixty_digits) .none kV_is_sixty_digits dc_is_sixty_digits pm_is_sixty_digits an_is_sixty_digits cd_is_sixty_digits ct_is_sixty_digits), sl_is_sixty_digits⟩)
    (c_is_sixty_digits : PySem.W.codeIn K cd_is_sixty_digits "is_sixty_digits" = true)
    (k_is_sixty_digits : PySem.W.keepIn K (.ref f_is_sixty_digits) = true)
    (a_check_sixty_digits : PySem.W.nsIn K mainGlobals "check_sixty_digits" = some (some (.ref f_check_sixty_digits)))
    (l_check_sixty_digits : K.lookup f_check_sixty_digits = some ⟨oc_check_sixty_digits, od_check_sixty_digits, .func (PySem.W.fnOf "check_sixty_digits" "check_sixty_digits" (defArgs s_check_sixty_digits) (defBody s_check_sixty_digits) (defScope s_check_sixty_digits) .none kV_check_sixty_digits dc_check_sixty_digits pm_check_sixty_digits an_check_sixty_digits cd_check_sixty_digits ct_check_sixty_digits), sl_check_sixty_digits⟩)
    (c_check_sixty_digits : PySem.W.codeIn K cd_check_sixty_digits "check_sixty_digits" = true)
    (k_check_sixty_digits : PySem.W.keepIn K (.ref f_check_sixty_digits) = true)
    (a_is_count : PySem.W.nsIn K mainGlobals "is_count" = some (some (.ref f_is_count)))
    (l_is_count : K.lookup f_is_count = some ⟨oc_is_count, od_is_count, .func (PySem.W.fnOf "is_count" "is_count" (defArgs s_is_count) (defBody s_is_count) (defScope s_is_count) .none kV_is_count dc_is_count pm_is_count an_is_count cd_is_count ct_is_count), sl_is_count⟩)
    (c_is_count : PySem.W.codeIn K cd_is_count "is_count" = true)
    (k_is_count : PySem.W.keepIn K (.ref f_is_count) = true)
    (a_check_number : PySem.W.nsIn K mainGlobals "check_number" = some (some (.ref f_check_number)))
    (l_check_number : K.lookup f_check_number = some ⟨oc_check_number, od_check_number, .func (PySem.W.fnOf "check_number" "check_number" (defArgs s_check_number) (defBody s_check_number) (defScope s_check_number) .none kV_check_number dc_check_number pm_check_number an_check_number cd_check_number ct_check_number), sl_check_number⟩)
    (c_check_number : PySem.W.codeIn K cd_check_number "check_number" = true)
    (k_check_number : PySem.W.keepIn K (.ref f_check_number) = true)
    (a_is_word : PySem.W.nsIn K mainGlobals "is_word" = some (some (.ref f_is_word)))
    (l_is_word : K.lookup f_is_word = some ⟨oc_is_word, od_is_word, .func (PySem.W.fnOf "is_word" "is_word" (defArgs s_is_word) (defBody s_is_word) (defScope s_is_word) .none kV_is_word dc_is_word pm_is_word an_is_word cd_is_word ct_is_word), sl_is_word⟩)
    (c_is_word : PySem.W.codeIn K cd_is_word "is_word" = true)
    (k_is_word : PySem.W.keepIn K (.ref f_is_word) = true)
    (a_check_word : PySem.W.nsIn K mainGlobals "check_word" = some (some (.ref f_check_word)))
    (l_check_word : K.lookup f_check_word = some ⟨oc_check_word, od_check_word, .func (PySem.W.fnOf "check_word" "check_word" (defArgs s_check_word) (defBody s_check_word) (defScope s_check_word) .none kV_check_word dc_check_word pm_check_word an_check_word cd_check_word ct_check_word), sl_check_word⟩)
    (c_check_word : PySem.W.codeIn K cd_check_word "check_word" = true)
    (k_check_word : PySem.W.keepIn K (.ref f_check_word) = true)
    (a_opposite : PySem.W.nsIn K mainGlobals "opposite" = some (some (.ref f_opposite)))
    (l_opposite : K.lookup f_opposite = some ⟨oc_opposite, od_opposite, .func (PySem.W.fnOf "opposite" "opposite" (defArgs s_opposite) (defBody s_opposite) (defScope s_opposite) .none kV_opposite dc_opposite pm_opposite an_opposite cd_opposite ct_opposite), sl_opposite⟩)
    (c_opposite : PySem.W.codeIn K cd_opposite "opposite" = true)
    (k_opposite : PySem.W.keepIn K (.ref f_opposite) = true)
    (a_stands : PySem.W.nsIn K mainGlobals "stands" = some (some (.ref f_stands)))
    (l_stands : K.lookup f_stands = some ⟨oc_stands, od_stands, .func (PySem.W.fnOf "stands" "stands" (defArgs s_stands) (defBody s_stands) (defScope s_stands) .none kV_stands dc_stands pm_stands an_stands cd_stands ct_stands), sl_stands⟩)
    (c_stands : PySem.W.codeIn K cd_stands "stands" = true)
    (k_stands : PySem.W.keepIn K (.ref f_stands) = true)
    (l_Kind___init__ : K.lookup f_Kind___init__ = some ⟨oc_Kind___init__, od_Kind___init__, .func (PySem.W.fnOf "__init__" "Kind.__init__" (defArgs s_Kind___init__) (defBody s_Kind___init__) (defScope s_Kind___init__) .none kV_Kind___init__ dc_Kind___init__ pm_Kind___init__ an_Kind___init__ cd_Kind___init__ ct_Kind___init__), sl_Kind___init__⟩)
    (c_Kind___init__ : PySem.W.codeIn K cd_Kind___init__ "Kind.__init__" = true)
    (k_Kind___init__ : PySem.W.keepIn K (.ref f_Kind___init__) = true)
    (a_check_kind : PySem.W.nsIn K mainGlobals "check_kind" = some (some (.ref f_check_kind)))
    (l_check_kind : K.lookup f_check_kind = some ⟨oc_check_kind, od_check_kind, .func (PySem.W.fnOf "check_kind" "check_kind" (defArgs s_check_kind) (defBody s_check_kind) (defScope s_check_kind) .none kV_check_kind dc_check_kind pm_check_kind an_check_kind cd_check_kind ct_check_kind), sl_check_kind⟩)
    (c_check_kind : PySem.W.codeIn K cd_check_kind "check_kind" = true)
    (k_check_kind : PySem.W.keepIn K (.ref f_check_kind) = true)
    (a_least : PySem.W.nsIn K mainGlobals "least" = some (some (.ref f_least)))
    (l_least : K.lookup f_least = some ⟨oc_least, od_least, .func (PySem.W.fnOf "least" "least" (defArgs s_least) (defBody s_least) (defScope s_least) .none kV_least dc_least pm_least an_least cd_least ct_least), sl_least⟩)
    (c_least : PySem.W.codeIn K cd_least "least" = true)
    (k_least : PySem.W.keepIn K (.ref f_least) = true)
    (a_greatest : PySem.W.nsIn K mainGlobals "greatest" = some (some (.ref f_greatest)))
    (l_greatest : K.lookup f_greatest = some ⟨oc_greatest, od_greatest, .func (PySem.W.fnOf "greatest" "greatest" (defArgs s_greatest) (defBody s_greatest) (defScope s_greatest) .none kV_greatest dc_greatest pm_greatest an_greatest cd_greatest ct_greatest), sl_greatest⟩)
    (c_greatest : PySem.W.codeIn K cd_greatest "greatest" = true)
    (k_greatest : PySem.W.keepIn K (.ref f_greatest) = true)
    (a_wrapped : PySem.W.nsIn K mainGlobals "wrapped" = some (some (.ref f_wrapped)))
    (l_wrapped : K.lookup f_wrapped = some ⟨oc_wrapped, od_wrapped, .func (PySem.W.fnOf "wrapped" "wrapped" (defArgs s_wrapped) (defBody s_wrapped) (defScope s_wrapped) .none kV_wrapped dc_wrapped pm_wrapped an_wrapped cd_wrapped ct_wrapped), sl_wrapped⟩)
    (c_wrapped : PySem.W.codeIn K cd_wrapped "wrapped" = true)
    (k_wrapped : PySem.W.keepIn K (.ref f_wrapped) = true)
    (a_quotient_total : PySem.W.nsIn K mainGlobals "quotient_total" = some (some (.ref f_quotient_total)))
    (l_quotient_total : K.lookup f_quotient_total = some ⟨oc_quotient_total, od_quotient_total, .func (PySem.W.fnOf "quotient_total" "quotient_total" (defArgs s_quotient_total) (defBody s_quotient_total) (defScope s_quotient_total) .none kV_quotient_total dc_quotient_total pm_quotient_total an_quotient_total cd_quotient_total ct_quotient_total), sl_quotient_total⟩)
    (c_quotient_total : PySem.W.codeIn K cd_quotient_total "quotient_total" = true)
    (k_quotient_total : PySem.W.keepIn K (.ref f_quotient_total) = true)
    (a_total_between : PySem.W.nsIn K mainGlobals "total_between" = some (some (.ref f_total_between)))
    (l_total_between : K.lookup f_total_between = some ⟨oc_total_between, od_total_between, .func (PySem.W.fnOf "total_between" "total_between" (defArgs s_total_between) (defBody s_total_between) (defScope s_total_between) .none kV_total_between dc_total_between pm_total_between an_total_between cd_total_between ct_total_between), sl_total_between⟩)
    (c_total_between : PySem.W.codeIn K cd_total_between "total_between" = true)
    (k_total_between : PySem.W.keepIn K (.ref f_total_between) = true)
    (a_check_line : PySem.W.nsIn K mainGlobals "check_line" = some (some (.ref f_check_line)))
    (l_check_line : K.lookup f_check_line = some ⟨oc_check_line, od_check_line, .func (PySem.W.fnOf "check_line" "check_line" (defArgs s_check_line) (defBody s_check_line) (defScope s_check_line) .none kV_check_line dc_check_line pm_check_line an_check_line cd_check_line ct_check_line), sl_check_line⟩)
    (c_check_line : PySem.W.codeIn K cd_check_line "check_line" = true)
    (k_check_line : PySem.W.keepIn K (.ref f_check_line) = true)
    (a_check_range : PySem.W.nsIn K mainGlobals "check_range" = some (some (.ref f_check_range)))
    (l_check_range : K.lookup f_check_range = some ⟨oc_check_range, od_check_range, .func (PySem.W.fnOf "check_range" "check_range" (defArgs s_check_range) (defBody s_check_range) (defScope s_check_range) .none kV_check_range dc_check_range pm_check_range an_check_range cd_check_range ct_check_range), sl_check_range⟩)
    (c_check_range : PySem.W.codeIn K cd_check_range "check_range" = true)
    (k_check_range : PySem.W.keepIn K (.ref f_check_range) = true)
    (a_exact_at : PySem.W.nsIn K mainGlobals "exact_at" = some (some (.ref f_exact_at)))
    (l_exact_at : K.lookup f_exact_at = some ⟨oc_exact_at, od_exact_at, .func (PySem.W.fnOf "exact_at" "exact_at" (defArgs s_exact_at) (defBody s_exact_at) (defScope s_exact_at) .none kV_exact_at dc_exact_at pm_exact_at an_exact_at cd_exact_at ct_exact_at), sl_exact_at⟩)
    (c_exact_at : PySem.W.codeIn K cd_exact_at "exact_at" = true)
    (k_exact_at : PySem.W.keepIn K (.ref f_exact_at) = true)
    (a_wanted_of : PySem.W.nsIn K mainGlobals "wanted_of" = some (some (.ref f_wanted_of)))
    (l_wanted_of : K.lookup f_wanted_of = some ⟨oc_wanted_of, od_wanted_of, .func (PySem.W.fnOf "wanted_of" "wanted_of" (defArgs s_wanted_of) (defBody s_wanted_of) (defScope s_wanted_of) .none kV_wanted_of dc_wanted_of pm_wanted_of an_wanted_of cd_wanted_of ct_wanted_of), sl_wanted_of⟩)
    (c_wanted_of : PySem.W.codeIn K cd_wanted_of "wanted_of" = true)
    (k_wanted_of : PySem.W.keepIn K (.ref f_wanted_of) = true)
    (a__check_lines : PySem.W.nsIn K mainGlobals "_check_lines" = some (some (.ref f__check_lines)))
    (l__check_lines : K.lookup f__check_lines = some ⟨oc__check_lines, od__check_lines, .func (PySem.W.fnOf "_check_lines" "_check_lines" (defArgs s__check_lines) (defBody s__check_lines) (defScope s__check_lines) .none kV__check_lines dc__check_lines pm__check_lines an__check_lines cd__check_lines ct__check_lines), sl__check_lines⟩)
    (c__check_lines : PySem.W.codeIn K cd__check_lines "_check_lines" = true)
    (k__check_lines : PySem.W.keepIn K (.ref f__check_lines) = true)
    (a__check : PySem.W.nsIn K mainGlobals "_check" = some (some (.ref f__check)))
    (l__check : K.lookup f__check = some ⟨oc__check, od__check, .func (PySem.W.fnOf "_check" "_check" (defArgs s__check) (defBody s__check) (defScope s__check) .none kV__check dc__check pm__check an__check cd__check ct__check), sl__check⟩)
    (c__check : PySem.W.codeIn K cd__check "_check" = true)
    (k__check : PySem.W.keepIn K (.ref f__check) = true)
    (a_compares : PySem.W.nsIn K mainGlobals "compares" = some (some (.ref f_compares)))
    (l_compares : K.lookup f_compares = some ⟨oc_compares, od_compares, .func (PySem.W.fnOf "compares" "compares" (defArgs s_compares) (defBody s_compares) (defScope s_compares) .none kV_compares dc_compares pm_compares an_compares cd_compares ct_compares), sl_compares⟩)
    (c_compares : PySem.W.codeIn K cd_compares "compares" = true)
    (k_compares : PySem.W.keepIn K (.ref f_compares) = true)
    (a__count : PySem.W.nsIn K mainGlobals "_count" = some (some (.ref f__count)))
    (l__count : K.lookup f__count = some ⟨oc__count, od__count, .func (PySem.W.fnOf "_count" "_count" (defArgs s__count) (defBody s__count) (defScope s__count) .none kV__count dc__count pm__count an__count cd__count ct__count), sl__count⟩)
    (c__count : PySem.W.codeIn K cd__count "_count" = true)
    (k__count : PySem.W.keepIn K (.ref f__count) = true)
    (a__gap : PySem.W.nsIn K mainGlobals "_gap" = some (some (.ref f__gap)))
    (l__gap : K.lookup f__gap = some ⟨oc__gap, od__gap, .func (PySem.W.fnOf "_gap" "_gap" (defArgs s__gap) (defBody s__gap) (defScope s__gap) .none kV__gap dc__gap pm__gap an__gap cd__gap ct__gap), sl__gap⟩)
    (c__gap : PySem.W.codeIn K cd__gap "_gap" = true)
    (k__gap : PySem.W.keepIn K (.ref f__gap) = true)
    (a__less_total : PySem.W.nsIn K mainGlobals "_less_total" = some (some (.ref f__less_total)))
    (l__less_total : K.lookup f__less_total = some ⟨oc__less_total, od__less_total, .func (PySem.W.fnOf "_less_total" "_less_total" (defArgs s__less_total) (defBody s__less_total) (defScope s__less_total) .none kV__less_total dc__less_total pm__less_total an__less_total cd__less_total ct__less_total), sl__less_total⟩)
    (c__less_total : PySem.W.codeIn K cd__less_total "_less_total" = true)
    (k__less_total : PySem.W.keepIn K (.ref f__less_total) = true)
    (a__equal_total : PySem.W.nsIn K mainGlobals "_equal_total" = some (some (.ref f__equal_total)))
    (l__equal_total : K.lookup f__equal_total = some ⟨oc__equal_total, od__equal_total, .func (PySem.W.fnOf "_equal_total" "_equal_total" (defArgs s__equal_total) (defBody s__equal_total) (defScope s__equal_total) .none kV__equal_total dc__equal_total pm__equal_total an__equal_total cd__equal_total ct__equal_total), sl__equal_total⟩)
    (c__equal_total : PySem.W.codeIn K cd__equal_total "_equal_total" = true)
    (k__equal_total : PySem.W.keepIn K (.ref f__equal_total) = true)
    (a__total : PySem.W.nsIn K mainGlobals "_total" = some (some (.ref f__total)))
    (l__total : K.lookup f__total = some ⟨oc__total, od__total, .func (PySem.W.fnOf "_total" "_total" (defArgs s__total) (defBody s__total) (defScope s__total) .none kV__total dc__total pm__total an__total cd__total ct__total), sl__total⟩)
    (c__total : PySem.W.codeIn K cd__total "_total" = true)
    (k__total : PySem.W.keepIn K (.ref f__total) = true)
    (a_holds : PySem.W.nsIn K mainGlobals "holds" = some (some (.ref f_holds)))
    (l_holds : K.lookup f_holds = some ⟨oc_holds, od_holds, .func (PySem.W.fnOf "holds" "holds" (defArgs s_holds) (defBody s_holds) (defScope s_holds) .none kV_holds dc_holds pm_holds an_holds cd_holds ct_holds), sl_holds⟩)
    (c_holds : PySem.W.codeIn K cd_holds "holds" = true)
    (k_holds : PySem.W.keepIn K (.ref f_holds) = true)
    (a__less_hits : PySem.W.nsIn K mainGlobals "_less_hits" = some (some (.ref f__less_hits)))
    (l__less_hits : K.lookup f__less_hits = some ⟨oc__less_hits, od__less_hits, .func (PySem.W.fnOf "_less_hits" "_less_hits" (defArgs s__less_hits) (defBody s__less_hits) (defScope s__less_hits) .none kV__less_hits dc__less_hits pm__less_hits an__less_hits cd__less_hits ct__less_hits), sl__less_hits⟩)
    (c__less_hits : PySem.W.codeIn K cd__less_hits "_less_hits" = true)
    (k__less_hits : PySem.W.keepIn K (.ref f__less_hits) = true)
    (a__hits : PySem.W.nsIn K mainGlobals "_hits" = some (some (.ref f__hits)))
    (l__hits : K.lookup f__hits = some ⟨oc__hits, od__hits, .func (PySem.W.fnOf "_hits" "_hits" (defArgs s__hits) (defBody s__hits) (defScope s__hits) .none kV__hits dc__hits pm__hits an__hits cd__hits ct__hits), sl__hits⟩)
    (c__hits : PySem.W.codeIn K cd__hits "_hits" = true)
    (k__hits : PySem.W.keepIn K (.ref f__hits) = true)
    (a__holding : PySem.W.nsIn K mainGlobals "_holding" = some (some (.ref f__holding)))
    (l__holding : K.lookup f__holding = some ⟨oc__holding, od__holding, .func (PySem.W.fnOf "_holding" "_holding" (defArgs s__holding) (defBody s__holding) (defScope s__holding) .none kV__holding dc__holding pm__holding an__holding (.ref cd__holding) ct__holding), sl__holding⟩)
    (c__holding : PySem.W.codeIn K (.ref cd__holding) "_holding" = true)
    (lc__holding : K.lookup cd__holding = some ⟨o1__holding, o2__holding, .fields vs__holding, o3__holding⟩)
    (hv__holding : vs__holding[11]? = some (.ref P__holding))
    (k__holding : PySem.W.keepIn K (.ref f__holding) = true)
    (a__first_holding : PySem.W.nsIn K mainGlobals "_first_holding" = some (some (.ref f__first_holding)))
    (l__first_holding : K.lookup f__first_holding = some ⟨oc__first_holding, od__first_holding, .func (PySem.W.fnOf "_first_holding" "_first_holding" (defArgs s__first_holding) (defBody s__first_holding) (defScope s__first_holding) .none kV__first_holding dc__first_holding pm__first_holding an__first_holding cd__first_holding ct__first_holding), sl__first_holding⟩)
    (c__first_holding : PySem.W.codeIn K cd__first_holding "_first_holding" = true)
    (k__first_holding : PySem.W.keepIn K (.ref f__first_holding) = true)
    (a_first_holding : PySem.W.nsIn K mainGlobals "first_holding" = some (some (.ref f_first_holding)))
    (l_first_holding : K.lookup f_first_holding = some ⟨oc_first_holding, od_first_holding, .func (PySem.W.fnOf "first_holding" "first_holding" (defArgs s_first_holding) (defBody s_first_holding) (defScope s_first_holding) .none kV_first_holding dc_first_holding pm_first_holding an_first_holding cd_first_holding ct_first_holding), sl_first_holding⟩)
    (c_first_holding : PySem.W.codeIn K cd_first_holding "first_holding" = true)
    (k_first_holding : PySem.W.keepIn K (.ref f_first_holding) = true)
    (a_last_holding : PySem.W.nsIn K mainGlobals "last_holding" = some (some (.ref f_last_holding)))
    (l_last_holding : K.lookup f_last_holding = some ⟨oc_last_holding, od_last_holding, .func (PySem.W.fnOf "last_holding" "last_holding" (defArgs s_last_holding) (defBody s_last_holding) (defScope s_last_holding) .none kV_last_holding dc_last_holding pm_last_holding an_last_holding cd_last_holding ct_last_holding), sl_last_holding⟩)
    (c_last_holding : PySem.W.codeIn K cd_last_holding "last_holding" = true)
    (k_last_holding : PySem.W.keepIn K (.ref f_last_holding) = true)
    (a_holding_at : PySem.W.nsIn K mainGlobals "holding_at" = some (some (.ref f_holding_at)))
    (l_holding_at : K.lookup f_holding_at = some ⟨oc_holding_at, od_holding_at, .func (PySem.W.fnOf "holding_at" "holding_at" (defArgs s_holding_at) (defBody s_holding_at) (defScope s_holding_at) .none kV_holding_at dc_holding_at pm_holding_at an_holding_at cd_holding_at ct_holding_at), sl_holding_at⟩)
    (c_holding_at : PySem.W.codeIn K cd_holding_at "holding_at" = true)
    (k_holding_at : PySem.W.keepIn K (.ref f_holding_at) = true)
    (a__ordered_parts : PySem.W.nsIn K mainGlobals "_ordered_parts" = some (some (.ref f__ordered_parts)))
    (l__ordered_parts : K.lookup f__ordered_parts = some ⟨oc__ordered_parts, od__ordered_parts, .func (PySem.W.fnOf "_ordered_parts" "_ordered_parts" (defArgs s__ordered_parts) (defBody s__ordered_parts) (defScope s__ordered_parts) .none kV__ordered_parts dc__ordered_parts pm__ordered_parts an__ordered_parts cd__ordered_parts ct__ordered_parts), sl__ordered_parts⟩)
    (c__ordered_parts : PySem.W.codeIn K cd__ordered_parts "_ordered_parts" = true)
    (k__ordered_parts : PySem.W.keepIn K (.ref f__ordered_parts) = true)
    (a__surprising_parts : PySem.W.nsIn K mainGlobals "_surprising_parts" = some (some (.ref f__surprising_parts)))
    (l__surprising_parts : K.lookup f__surprising_parts = some ⟨oc__surprising_parts, od__surprising_parts, .func (PySem.W.fnOf "_surprising_parts" "_surprising_parts" (defArgs s__surprising_parts) (defBody s__surprising_parts) (defScope s__surprising_parts) .none kV__surprising_parts dc__surprising_parts pm__surprising_parts an__surprising_parts cd__surprising_parts ct__surprising_parts), sl__surprising_parts⟩)
    (c__surprising_parts : PySem.W.codeIn K cd__surprising_parts "_surprising_parts" = true)
    (k__surprising_parts : PySem.W.keepIn K (.ref f__surprising_parts) = true)
    (a_surprises : PySem.W.nsIn K mainGlobals "surprises" = some (some (.ref f_surprises)))
    (l_surprises : K.lookup f_surprises = some ⟨oc_surprises, od_surprises, .func (PySem.W.fnOf "surprises" "surprises" (defArgs s_surprises) (defBody s_surprises) (defScope s_surprises) .none kV_surprises dc_surprises pm_surprises an_surprises cd_surprises ct_surprises), sl_surprises⟩)
    (c_surprises : PySem.W.codeIn K cd_surprises "surprises" = true)
    (k_surprises : PySem.W.keepIn K (.ref f_surprises) = true)
    (a_first_surprise : PySem.W.nsIn K mainGlobals "first_surprise" = some (some (.ref f_first_surprise)))
    (l_first_surprise : K.lookup f_first_surprise = some ⟨oc_first_surprise, od_first_surprise, .func (PySem.W.fnOf "first_surprise" "first_surprise" (defArgs s_first_surprise) (defBody s_first_surprise) (defScope s_first_surprise) .none kV_first_surprise dc_first_surprise pm_first_surprise an_first_surprise cd_first_surprise ct_first_surprise), sl_first_surprise⟩)
    (c_first_surprise : PySem.W.codeIn K cd_first_surprise "first_surprise" = true)
    (k_first_surprise : PySem.W.keepIn K (.ref f_first_surprise) = true)
    (a__law_deck : PySem.W.nsIn K mainGlobals "_law_deck" = some (some (.ref f__law_deck)))
    (l__law_deck : K.lookup f__law_deck = some ⟨oc__law_deck, od__law_deck, .func (PySem.W.fnOf "_law_deck" "_law_deck" (defArgs s__law_deck) (defBody s__law_deck) (defScope s__law_deck) .none kV__law_deck dc__law_deck pm__law_deck an__law_deck cd__law_deck ct__law_deck), sl__law_deck⟩)
    (c__law_deck : PySem.W.codeIn K cd__law_deck "_law_deck" = true)
    (k__law_deck : PySem.W.keepIn K (.ref f__law_deck) = true)
    (a__law_deal : PySem.W.nsIn K mainGlobals "_law_deal" = some (some (.ref f__law_deal)))
    (l__law_deal : K.lookup f__law_deal = some ⟨oc__law_deal, od__law_deal, .func (PySem.W.fnOf "_law_deal" "_law_deal" (defArgs s__law_deal) (defBody s__law_deal) (defScope s__law_deal) .none kV__law_deal dc__law_deal pm__law_deal an__law_deal cd__law_deal ct__law_deal), sl__law_deal⟩)
    (c__law_deal : PySem.W.codeIn K cd__law_deal "_law_deal" = true)
    (k__law_deal : PySem.W.keepIn K (.ref f__law_deal) = true)
    (a__law_choice : PySem.W.nsIn K mainGlobals "_law_choice" = some (some (.ref f__law_choice)))
    (l__law_choice : K.lookup f__law_choice = some ⟨oc__law_choice, od__law_choice, .func (PySem.W.fnOf "_law_choice" "_law_choice" (defArgs s__law_choice) (defBody s__law_choice) (defScope s__law_choice) .none kV__law_choice dc__law_choice pm__law_choice an__law_choice cd__law_choice ct__law_choice), sl__law_choice⟩)
    (c__law_choice : PySem.W.codeIn K cd__law_choice "_law_choice" = true)
    (k__law_choice : PySem.W.keepIn K (.ref f__law_choice) = true)
    (a__law_great : PySem.W.nsIn K mainGlobals "_law_great" = some (some (.ref f__law_great)))
    (l__law_great : K.lookup f__law_great = some ⟨oc__law_great, od__law_great, .func (PySem.W.fnOf "_law_great" "_law_great" (defArgs s__law_great) (defBody s__law_great) (defScope s__law_great) .none kV__law_great dc__law_great pm__law_great an__law_great cd__law_great ct__law_great), sl__law_great⟩)
    (c__law_great : PySem.W.codeIn K cd__law_great "_law_great" = true)
    (k__law_great : PySem.W.keepIn K (.ref f__law_great) = true)
    (a__law_near : PySem.W.nsIn K mainGlobals "_law_near" = some (some (.ref f__law_near)))
    (l__law_near : K.lookup f__law_near = some ⟨oc__law_near, od__law_near, .func (PySem.W.fnOf "_law_near" "_law_near" (defArgs s__law_near) (defBody s__law_near) (defScope s__law_near) .none kV__law_near dc__law_near pm__law_near an__law_near cd__law_near ct__law_near), sl__law_near⟩)
    (c__law_near : PySem.W.codeIn K cd__law_near "_law_near" = true)
    (k__law_near : PySem.W.keepIn K (.ref f__law_near) = true)
    (a__law_some : PySem.W.nsIn K mainGlobals "_law_some" = some (some (.ref f__law_some)))
    (l__law_some : K.lookup f__law_some = some ⟨oc__law_some, od__law_some, .func (PySem.W.fnOf "_law_some" "_law_some" (defArgs s__law_some) (defBody s__law_some) (defScope s__law_some) .none kV__law_some dc__law_some pm__law_some an__law_some cd__law_some ct__law_some), sl__law_some⟩)
    (c__law_some : PySem.W.codeIn K cd__law_some "_law_some" = true)
    (k__law_some : PySem.W.keepIn K (.ref f__law_some) = true)
    (a__law_pair : PySem.W.nsIn K mainGlobals "_law_pair" = some (some (.ref f__law_pair)))
    (l__law_pair : K.lookup f__law_pair = some ⟨oc__law_pair, od__law_pair, .func (PySem.W.fnOf "_law_pair" "_law_pair" (defArgs s__law_pair) (defBody s__law_pair) (defScope s__law_pair) .none kV__law_pair dc__law_pair pm__law_pair an__law_pair cd__law_pair ct__law_pair), sl__law_pair⟩)
    (c__law_pair : PySem.W.codeIn K cd__law_pair "_law_pair" = true)
    (k__law_pair : PySem.W.keepIn K (.ref f__law_pair) = true)
    (a__law_table : PySem.W.nsIn K mainGlobals "_law_table" = some (some (.ref f__law_table)))
    (l__law_table : K.lookup f__law_table = some ⟨oc__law_table, od__law_table, .func (PySem.W.fnOf "_law_table" "_law_table" (defArgs s__law_table) (defBody s__law_table) (defScope s__law_table) .none kV__law_table dc__law_table pm__law_table an__law_table cd__law_table ct__law_table), sl__law_table⟩)
    (c__law_table : PySem.W.codeIn K cd__law_table "_law_table" = true)
    (k__law_table : PySem.W.keepIn K (.ref f__law_table) = true)
    (a__law_is_so : PySem.W.nsIn K mainGlobals "_law_is_so" = some (some (.ref f__law_is_so)))
    (l__law_is_so : K.lookup f__law_is_so = some ⟨oc__law_is_so, od__law_is_so, .func (PySem.W.fnOf "_law_is_so" "_law_is_so" (defArgs s__law_is_so) (defBody s__law_is_so) (defScope s__law_is_so) .none kV__law_is_so dc__law_is_so pm__law_is_so an__law_is_so cd__law_is_so ct__law_is_so), sl__law_is_so⟩)
    (c__law_is_so : PySem.W.codeIn K cd__law_is_so "_law_is_so" = true)
    (k__law_is_so : PySem.W.keepIn K (.ref f__law_is_so) = true)
    (a__law_right : PySem.W.nsIn K mainGlobals "_law_right" = some (some (.ref f__law_right)))
    (l__law_right : K.lookup f__law_right = some ⟨oc__law_right, od__law_right, .func (PySem.W.fnOf "_law_right" "_law_right" (defArgs s__law_right) (defBody s__law_right) (defScope s__law_right) .none kV__law_right dc__law_right pm__law_right an__law_right cd__law_right ct__law_right), sl__law_right⟩)
    (c__law_right : PySem.W.codeIn K cd__law_right "_law_right" = true)
    (k__law_right : PySem.W.keepIn K (.ref f__law_right) = true)
    (a__law_refused : PySem.W.nsIn K mainGlobals "_law_refused" = some (some (.ref f__law_refused)))
    (l__law_refused : K.lookup f__law_refused = some ⟨oc__law_refused, od__law_refused, .func (PySem.W.fnOf "_law_refused" "_law_refused" (defArgs s__law_refused) (defBody s__law_refused) (defScope s__law_refused) .none kV__law_refused dc__law_refused pm__law_refused an__law_refused cd__law_refused ct__law_refused), sl__law_refused⟩)
    (c__law_refused : PySem.W.codeIn K cd__law_refused "_law_refused" = true)
    (k__law_refused : PySem.W.keepIn K (.ref f__law_refused) = true)
    (a__law_none_right : PySem.W.nsIn K mainGlobals "_law_none_right" = some (some (.ref f__law_none_right)))
    (l__law_none_right : K.lookup f__law_none_right = some ⟨oc__law_none_right, od__law_none_right, .func (PySem.W.fnOf "_law_none_right" "_law_none_right" (defArgs s__law_none_right) (defBody s__law_none_right) (defScope s__law_none_right) .none kV__law_none_right dc__law_none_right pm__law_none_right an__law_none_right (.ref cd__law_none_right) ct__law_none_right), sl__law_none_right⟩)
    (c__law_none_right : PySem.W.codeIn K (.ref cd__law_none_right) "_law_none_right" = true)
    (lc__law_none_right : K.lookup cd__law_none_right = some ⟨o1__law_none_right, o2__law_none_right, .fields vs__law_none_right, o3__law_none_right⟩)
    (hv__law_none_right : vs__law_none_right[11]? = some (.ref P__law_none_right))
    (k__law_none_right : PySem.W.keepIn K (.ref f__law_none_right) = true)
    (a__law_named_right : PySem.W.nsIn K mainGlobals "_law_named_right" = some (some (.ref f__law_named_right)))
    (l__law_named_right : K.lookup f__law_named_right = some ⟨oc__law_named_right, od__law_named_right, .func (PySem.W.fnOf "_law_named_right" "_law_named_right" (defArgs s__law_named_right) (defBody s__law_named_right) (defScope s__law_named_right) .none kV__law_named_right dc__law_named_right pm__law_named_right an__law_named_right cd__law_named_right ct__law_named_right), sl__law_named_right⟩)
    (c__law_named_right : PySem.W.codeIn K cd__law_named_right "_law_named_right" = true)
    (k__law_named_right : PySem.W.keepIn K (.ref f__law_named_right) = true)
    (a_law : PySem.W.nsIn K mainGlobals "law" = some (some (.ref f_law)))
    (l_law : K.lookup f_law = some ⟨oc_law, od_law, .func (PySem.W.fnOf "law" "law" (defArgs s_law) (defBody s_law) (defScope s_law) .none kV_law dc_law pm_law an_law cd_law ct_law), sl_law⟩)
    (c_law : PySem.W.codeIn K cd_law "law" = true)
    (k_law : PySem.W.keepIn K (.ref f_law) = true)
    (v_BEYOND_SIXTY_DIGITS : PySem.W.nsIn K mainGlobals "BEYOND_SIXTY_DIGITS" = some (some (.int 1000000000000000000000000000000000000000000000000000000000000 t_BEYOND_SIXTY_DIGITS)))
    (v_RELATIONS : PySem.W.nsIn K mainGlobals "RELATIONS" = some (some (.ref a_RELATIONS)))
    (lt_RELATIONS : K.lookup a_RELATIONS = some ⟨.type "tuple", dd_RELATIONS, .seq its_RELATIONS n_RELATIONS, sl_RELATIONS⟩)
    (sz_RELATIONS : its_RELATIONS.size ≤ sizeLine)
    (vt_RELATIONS : Vals [.str "<", .str "<=", .str "==", .str "!=", .str ">=", .str ">"] its_RELATIONS.toList)
    (w_OPPOSITES : PySem.W.nsIn K mainGlobals "OPPOSITES" = some (some (.ref a_OPPOSITES)))
    (ld_OPPOSITES : K.lookup a_OPPOSITES = some ⟨.type "dict", none, .dict es_OPPOSITES n_OPPOSITES, #[]⟩)
    (vd_OPPOSITES_0 : PySem.W.nsIn K a_OPPOSITES "<" = some (some (.str ">=" t_OPPOSITES_0)))
    (vd_OPPOSITES_1 : PySem.W.nsIn K a_OPPOSITES "<=" = some (some (.str ">" t_OPPOSITES_1)))
    (vd_OPPOSITES_2 : PySem.W.nsIn K a_OPPOSITES "==" = some (some (.str "!=" t_OPPOSITES_2)))
    (vd_OPPOSITES_3 : PySem.W.nsIn K a_OPPOSITES "!=" = some (some (.str "==" t_OPPOSITES_3)))
    (vd_OPPOSITES_4 : PySem.W.nsIn K a_OPPOSITES ">=" = some (some (.str "<" t_OPPOSITES_4)))
    (vd_OPPOSITES_5 : PySem.W.nsIn K a_OPPOSITES ">" = some (some (.str "<=" t_OPPOSITES_5)))
    (li_OPPOSITES : PySem.W.KeysLit w.params es_OPPOSITES.toList)
    (v_MOST_BITS : PySem.W.nsIn K mainGlobals "MOST_BITS" = some (some (.int 128 t_MOST_BITS)))
    (z_abs : PySem.W.nsIn K mainGlobals "abs" = some none)
    (z_bool : PySem.W.nsIn K mainGlobals "bool" = some none)
    (z_divmod : PySem.W.nsIn K mainGlobals "divmod" = some none)
    (z_int : PySem.W.nsIn K mainGlobals "int" = some none)
    (z_isinstance : PySem.W.nsIn K mainGlobals "isinstance" = some none)
    (z_len : PySem.W.nsIn K mainGlobals "len" = some none)
    (z_max : PySem.W.nsIn K mainGlobals "max" = some none)
    (z_min : PySem.W.nsIn K mainGlobals "min" = some none)
    (z_range : PySem.W.nsIn K mainGlobals "range" = some none)
    (z_reversed : PySem.W.nsIn K mainGlobals "reversed" = some none)
    (z_str : PySem.W.nsIn K mainGlobals "str" = some none)
    (z_sum : PySem.W.nsIn K mainGlobals "sum" = some none)
    (z_super : PySem.W.nsIn K mainGlobals "super" = some none)
    (z_tuple : PySem.W.nsIn K mainGlobals "tuple" = some none)
    (px : PX P fl)
    (dist : [P__holding, P__law_none_right].Nodup)
    : ∃ T : Txt K mg, TI T w P := by
  have F_Walk___init__ := fun_mk (st := s_Walk___init__) l_Walk___init__ c_Walk___init__ k_Walk___init__
  have b_Walk___init__ := F_Walk___init__.binds (ps := ["self", "size", "step", "marks", "each", "marked", "around"]) fun _ _ _ _ _ _ us hl => match us, hl with | [_, _, _, _, _, _, _], _ => rfl
  have F_Walk_mirrored := fun_mk (st := s_Walk_mirrored) l_Walk_mirrored c_Walk_mirrored k_Walk_mirrored
  have b_Walk_mirrored := F_Walk_mirrored.binds (ps := ["self"]) fun _ _ _ _ _ _ us hl => match us, hl with | [_], _ => rfl
  have F_Walk_of_laps := fun_mk (st := s_Walk_of_laps) l_Walk_of_laps c_Walk_of_laps k_Walk_of_laps
  have b_Walk_of_laps := F_Walk_of_laps.binds (ps := ["self"]) fun _ _ _ _ _ _ us hl => match us, hl with | [_], _ => rfl
  have F_Walk_marked_steps := fun_mk (st := s_Walk_marked_steps) l_Walk_marked_steps c_Walk_marked_steps k_Walk_marked_steps
  have b_Walk_marked_steps := F_Walk_marked_steps.binds (ps := ["self", "begin"]) fun _ _ _ _ _ _ us hl => match us, hl with | [_, _], _ => rfl
  have F_Walk_cost := fun_mk (st := s_Walk_cost) l_Walk_cost c_Walk_cost k_Walk_cost
  have b_Walk_cost := F_Walk_cost.binds (ps := ["self", "begin", "steps"]) fun _ _ _ _ _ _ us hl => match us, hl with | [_, _, _], _ => rfl
  have F_Walk_steps_for := fun_mk (st := s_Walk_steps_for) l_Walk_steps_for c_Walk_steps_for k_Walk_steps_for
  have b_Walk_steps_for := F_Walk_steps_for.binds (ps := ["self", "begin", "budget"]) fun _ _ _ _ _ _ us hl => match us, hl with | [_, _, _], _ => rfl
  have F__steps_to_visit := fun_mk (st := s__steps_to_visit) l__steps_to_visit c__steps_to_visit k__steps_to_visit
  have b__steps_to_visit := F__steps_to_visit.binds (ps := ["size", "step", "marks", "place", "j"]) fun _ _ _ _ _ _ us hl => match us, hl with | [_, _, _, _, _], _ => rfl
  have F_hit_at := fun_mk (st := s_hit_at) l_hit_at c_hit_at k_hit_at
  have b_hit_at := F_hit_at.binds (ps := ["line", "size", "first", "low", "high", "j"]) fun _ _ _ _ _ _ us hl => match us, hl with | [_, _, _, _, _, _], _ => rfl
  have F_is_integer := fun_mk (st := s_is_integer) l_is_integer c_is_integer k_is_integer
  have b_is_integer := F_is_integer.binds (ps := ["value"]) fun _ _ _ _ _ _ us hl => match us, hl with | [_], _ => rfl
  have F_check_integer := fun_mk (st := s_check_integer) l_check_integer c_check_integer k_check_integer
  have b_check_integer := F_check_integer.binds (ps := ["value", "argument"]) fun _ _ _ _ _ _ us hl => match us, hl with | [_, _], _ => rfl
  have F_is_sixty_digits := fun_mk (st := s_is_sixty_digits) l_is_sixty_digits c_is_sixty_digits k_is_sixty_digits
  have b_is_sixty_digits := F_is_sixty_digits.binds (ps := ["value"]) fun _ _ _ _ _ _ us hl => match us, hl with | [_], _ => rfl
  have F_check_sixty_digits := fun_mk (st := s_check_sixty_digits) l_check_sixty_digits c_check_sixty_digits k_check_sixty_digits
  have b_check_sixty_digits := F_check_sixty_digits.binds (ps := ["value", "argument"]) fun _ _ _ _ _ _ us hl => match us, hl with | [_, _], _ => rfl
  have F_is_count := fun_mk (st := s_is_count) l_is_count c_is_count k_is_count
  have b_is_count := F_is_count.binds (ps := ["value"]) fun _ _ _ _ _ _ us hl => match us, hl with | [_], _ => rfl
  have F_check_number := fun_mk (st := s_check_number) l_check_number c_check_number k_check_number
  have b_check_number := F_check_number.binds (ps := ["j", "total"]) fun _ _ _ _ _ _ us hl => match us, hl with | [_, _], _ => rfl
  have F_is_word := fun_mk (st := s_is_word) l_is_word c_is_word k_is_word
  have b_is_word := F_is_word.binds (ps := ["value", "words"]) fun _ _ _ _ _ _ us hl => match us, hl with | [_, _], _ => rfl
  have F_check_word := fun_mk (st := s_check_word) l_check_word c_check_word k_check_word
  have b_check_word := F_check_word.binds (ps := ["word", "words", "argument"]) fun _ _ _ _ _ _ us hl => match us, hl with | [_, _, _], _ => rfl
  have F_opposite := fun_mk (st := s_opposite) l_opposite c_opposite k_opposite
  have b_opposite := F_opposite.binds (ps := ["relation"]) fun _ _ _ _ _ _ us hl => match us, hl with | [_], _ => rfl
  have F_stands := fun_mk (st := s_stands) l_stands c_stands k_stands
  have b_stands := F_stands.binds (ps := ["y", "relation", "z"]) fun _ _ _ _ _ _ us hl => match us, hl with | [_, _, _], _ => rfl
  have F_Kind___init__ := fun_mk (st := s_Kind___init__) l_Kind___init__ c_Kind___init__ k_Kind___init__
  have b_Kind___init__ := F_Kind___init__.binds (ps := ["self", "bits", "is_signed"]) fun _ _ _ _ _ _ us hl => match us, hl with | [_, _, _], _ => rfl
  have F_check_kind := fun_mk (st := s_check_kind) l_check_kind c_check_kind k_check_kind
  have b_check_kind := F_check_kind.binds (ps := ["kind"]) fun _ _ _ _ _ _ us hl => match us, hl with | [_], _ => rfl
  have F_least := fun_mk (st := s_least) l_least c_least k_least
  have b_least := F_least.binds (ps := ["kind"]) fun _ _ _ _ _ _ us hl => match us, hl with | [_], _ => rfl
  have F_greatest := fun_mk (st := s_greatest) l_greatest c_greatest k_greatest
  have b_greatest := F_greatest.binds (ps := ["kind"]) fun _ _ _ _ _ _ us hl => match us, hl with | [_], _ => rfl
  have F_wrapped := fun_mk (st := s_wrapped) l_wrapped c_wrapped k_wrapped
  have b_wrapped := F_wrapped.binds (ps := ["kind", "n"]) fun _ _ _ _ _ _ us hl => match us, hl with | [_, _], _ => rfl
  have F_quotient_total := fun_mk (st := s_quotient_total) l_quotient_total c_quotient_total k_quotient_total
  have b_quotient_total := F_quotient_total.binds (ps := ["line", "size", "first", "last"]) fun _ _ _ _ _ _ us hl => match us, hl with | [_, _, _, _], _ => rfl
  have F_total_between := fun_mk (st := s_total_between) l_total_between c_total_between k_total_between
  have b_total_between := F_total_between.binds (ps := ["line", "size", "first", "last", "low", "high"]) fun _ _ _ _ _ _ us hl => match us, hl with | [_, _, _, _, _, _], _ => rfl
  have F_check_line := fun_mk (st := s_check_line) l_check_line c_check_line k_check_line
  have b_check_line := F_check_line.binds (ps := ["line", "argument"]) fun _ _ _ _ _ _ us hl => match us, hl with | [_, _], _ => rfl
  have F_check_range := fun_mk (st := s_check_range) l_check_range c_check_range k_check_range
  have b_check_range := F_check_range.binds (ps := ["first", "last"]) fun _ _ _ _ _ _ us hl => match us, hl with | [_, _], _ => rfl
  have F_exact_at := fun_mk (st := s_exact_at) l_exact_at c_exact_at k_exact_at
  have b_exact_at := F_exact_at.binds (ps := ["line", "x"]) fun _ _ _ _ _ _ us hl => match us, hl with | [_, _], _ => rfl
  have F_wanted_of := fun_mk (st := s_wanted_of) l_wanted_of c_wanted_of k_wanted_of
  have b_wanted_of := F_wanted_of.binds (ps := ["total", "first", "last", "many", "j"]) fun _ _ _ _ _ _ us hl => match us, hl with | [_, _, _, _, _], _ => rfl
  have F__check_lines := fun_mk (st := s__check_lines) l__check_lines c__check_lines k__check_lines
  have b__check_lines := F__check_lines.binds (ps := ["kind", "one", "relation", "other"]) fun _ _ _ _ _ _ us hl => match us, hl with | [_, _, _, _], _ => rfl
  have F__check := fun_mk (st := s__check) l__check c__check k__check
  have b__check := F__check.binds (ps := ["kind", "one", "relation", "other", "first", "last"]) fun _ _ _ _ _ _ us hl => match us, hl with | [_, _, _, _, _, _], _ => rfl
  have F_compares := fun_mk (st := s_compares) l_compares c_compares k_compares
  have b_compares := F_compares.binds (ps := ["kind", "one", "relation", "other", "x"]) fun _ _ _ _ _ _ us hl => match us, hl with | [_, _, _, _, _], _ => rfl
  have F__count := fun_mk (st := s__count) l__count c__count k__count
  have b__count := F__count.binds (ps := ["first", "last"]) fun _ _ _ _ _ _ us hl => match us, hl with | [_, _], _ => rfl
  have F__gap := fun_mk (st := s__gap) l__gap c__gap k__gap
  have b__gap := F__gap.binds (ps := ["one", "other"]) fun _ _ _ _ _ _ us hl => match us, hl with | [_, _], _ => rfl
  have F__less_total := fun_mk (st := s__less_total) l__less_total c__less_total k__less_total
  have b__less_total := F__less_total.binds (ps := ["kind", "one", "other", "first", "last"]) fun _ _ _ _ _ _ us hl => match us, hl with | [_, _, _, _, _], _ => rfl
  have F__equal_total := fun_mk (st := s__equal_total) l__equal_total c__equal_total k__equal_total
  have b__equal_total := F__equal_total.binds (ps := ["kind", "one", "other", "first", "last"]) fun _ _ _ _ _ _ us hl => match us, hl with | [_, _, _, _, _], _ => rfl
  have F__total := fun_mk (st := s__total) l__total c__total k__total
  have b__total := F__total.binds (ps := ["kind", "one", "relation", "other", "first", "last"]) fun _ _ _ _ _ _ us hl => match us, hl with | [_, _, _, _, _, _], _ => rfl
  have F_holds := fun_mk (st := s_holds) l_holds c_holds k_holds
  have b_holds := F_holds.binds (ps := ["kind", "one", "relation", "other", "first", "last"]) fun _ _ _ _ _ _ us hl => match us, hl with | [_, _, _, _, _, _], _ => rfl
  have F__less_hits := fun_mk (st := s__less_hits) l__less_hits c__less_hits k__less_hits
  have b__less_hits := F__less_hits.binds (ps := ["kind", "one", "other"]) fun _ _ _ _ _ _ us hl => match us, hl with | [_, _, _], _ => rfl
  have F__hits := fun_mk (st := s__hits) l__hits c__hits k__hits
  have b__hits := F__hits.binds (ps := ["kind", "one", "relation", "other"]) fun _ _ _ _ _ _ us hl => match us, hl with | [_, _, _, _], _ => rfl
  have F__holding := funT_mk (st := s__holding) l__holding c__holding
  have b__holding := (F__holding.toFun k__holding).binds (ps := ["kind", "one", "relation", "other", "first", "last", "total", "j"]) fun _ _ _ _ _ _ us hl => match us, hl with | [_, _, _, _, _, _, _, _], _ => rfl
  have F__first_holding := fun_mk (st := s__first_holding) l__first_holding c__first_holding k__first_holding
  have b__first_holding := F__first_holding.binds (ps := ["kind", "one", "relation", "other", "first", "last"]) fun _ _ _ _ _ _ us hl => match us, hl with | [_, _, _, _, _, _], _ => rfl
  have F_first_holding := fun_mk (st := s_first_holding) l_first_holding c_first_holding k_first_holding
  have b_first_holding := F_first_holding.binds (ps := ["kind", "one", "relation", "other", "first", "last"]) fun _ _ _ _ _ _ us hl => match us, hl with | [_, _, _, _, _, _], _ => rfl
  have F_last_holding := fun_mk (st := s_last_holding) l_last_holding c_last_holding k_last_holding
  have b_last_holding := F_last_holding.binds (ps := ["kind", "one", "relation", "other", "first", "last"]) fun _ _ _ _ _ _ us hl => match us, hl with | [_, _, _, _, _, _], _ => rfl
  have F_holding_at := fun_mk (st := s_holding_at) l_holding_at c_holding_at k_holding_at
  have b_holding_at := F_holding_at.binds (ps := ["kind", "one", "relation", "other", "first", "last", "j"]) fun _ _ _ _ _ _ us hl => match us, hl with | [_, _, _, _, _, _, _], _ => rfl
  have F__ordered_parts := fun_mk (st := s__ordered_parts) l__ordered_parts c__ordered_parts k__ordered_parts
  have b__ordered_parts := F__ordered_parts.binds (ps := ["one", "other", "first", "last"]) fun _ _ _ _ _ _ us hl => match us, hl with | [_, _, _, _], _ => rfl
  have F__surprising_parts := fun_mk (st := s__surprising_parts) l__surprising_parts c__surprising_parts k__surprising_parts
  have b__surprising_parts := F__surprising_parts.binds (ps := ["one", "relation", "other", "first", "last"]) fun _ _ _ _ _ _ us hl => match us, hl with | [_, _, _, _, _], _ => rfl
  have F_surprises := fun_mk (st := s_surprises) l_surprises c_surprises k_surprises
  have b_surprises := F_surprises.binds (ps := ["kind", "one", "relation", "other", "first", "last"]) fun _ _ _ _ _ _ us hl => match us, hl with | [_, _, _, _, _, _], _ => rfl
  have F_first_surprise := fun_mk (st := s_first_surprise) l_first_surprise c_first_surprise k_first_surprise
  have b_first_surprise := F_first_surprise.binds (ps := ["kind", "one", "relation", "other", "first", "last"]) fun _ _ _ _ _ _ us hl => match us, hl with | [_, _, _, _, _, _], _ => rfl
  have F__law_deck := fun_mk (st := s__law_deck) l__law_deck c__law_deck k__law_deck
  have b__law_deck := F__law_deck.binds (ps := ["_law_cell"]) fun _ _ _ _ _ _ us hl => match us, hl with | [_], _ => rfl
  have F__law_deal := fun_mk (st := s__law_deal) l__law_deal c__law_deal k__law_deal
  have b__law_deal := F__law_deal.binds (ps := ["_law_deck_here", "_law_many"]) fun _ _ _ _ _ _ us hl => match us, hl with | [_, _], _ => rfl
  have F__law_choice := fun_mk (st := s__law_choice) l__law_choice c__law_choice k__law_choice
  have b__law_choice := F__law_choice.binds (ps := ["_law_deck_here", "_law_some_here"]) fun _ _ _ _ _ _ us hl => match us, hl with | [_, _], _ => rfl
  have F__law_great := fun_mk (st := s__law_great) l__law_great c__law_great k__law_great
  have b__law_great := F__law_great.binds (ps := ["_law_deck_here", "_law_most"]) fun _ _ _ _ _ _ us hl => match us, hl with | [_, _], _ => rfl
  have F__law_near := fun_mk (st := s__law_near) l__law_near c__law_near k__law_near
  have b__law_near := F__law_near.binds (ps := ["_law_deck_here"]) fun _ _ _ _ _ _ us hl => match us, hl with | [_], _ => rfl
  have F__law_some := fun_mk (st := s__law_some) l__law_some c__law_some k__law_some
  have b__law_some := F__law_some.binds (ps := ["_law_deck_here", "_law_size"]) fun _ _ _ _ _ _ us hl => match us, hl with | [_, _], _ => rfl
  have F__law_pair := fun_mk (st := s__law_pair) l__law_pair c__law_pair k__law_pair
  have b__law_pair := F__law_pair.binds (ps := ["_law_deck_here", "_law_size"]) fun _ _ _ _ _ _ us hl => match us, hl with | [_, _], _ => rfl
  have F__law_table := fun_mk (st := s__law_table) l__law_table c__law_table k__law_table
  have b__law_table := F__law_table.binds (ps := ["_law_mine", "_law_its", "_law_least_one", "_law_size", "_law_begin", "_law_end"]) fun _ _ _ _ _ _ us hl => match us, hl with | [_, _, _, _, _, _], _ => rfl
  have F__law_is_so := fun_mk (st := s__law_is_so) l__law_is_so c__law_is_so k__law_is_so
  have b__law_is_so := F__law_is_so.binds (ps := ["_law_word", "_law_gap"]) fun _ _ _ _ _ _ us hl => match us, hl with | [_, _], _ => rfl
  have F__law_right := fun_mk (st := s__law_right) l__law_right c__law_right k__law_right
  have b__law_right := F__law_right.binds (ps := ["_law_deck_here"]) fun _ _ _ _ _ _ us hl => match us, hl with | [_], _ => rfl
  have F__law_refused := fun_mk (st := s__law_refused) l__law_refused c__law_refused k__law_refused
  have b__law_refused := F__law_refused.binds (ps := ["_law_ask"]) fun _ _ _ _ _ _ us hl => match us, hl with | [_], _ => rfl
  have F__law_none_right := funT_mk (st := s__law_none_right) l__law_none_right c__law_none_right
  have b__law_none_right := (F__law_none_right.toFun k__law_none_right).binds (ps := ["_law_deck_here"]) fun _ _ _ _ _ _ us hl => match us, hl with | [_], _ => rfl
  have F__law_named_right := fun_mk (st := s__law_named_right) l__law_named_right c__law_named_right k__law_named_right
  have b__law_named_right := F__law_named_right.binds (ps := []) fun _ _ _ _ _ _ us hl => match us, hl with | [], _ => rfl
  have F_law := fun_mk (st := s_law) l_law c_law k_law
  have b_law := F_law.binds (ps := ["_law_script"]) fun _ _ _ _ _ _ us hl => match us, hl with | [_], _ => rfl
  exact ⟨{
    C_Walk := C_Walk
    cl_Walk := ⟨pg_Walk, hd_Walk, po_Walk, sa_Walk⟩
    g_Walk := PySem.W.mg_of X G aC_Walk
    na_Walk_size := na_Walk_size
    na_Walk_step := na_Walk_step
    na_Walk_marks := na_Walk_marks
    na_Walk_each := na_Walk_each
    na_Walk_marked := na_Walk_marked
    na_Walk_around := na_Walk_around
    ia_Walk := ia_Walk
    ib_Walk := ib_Walk
    ic_Walk := ic_Walk
    id_Walk := id_Walk
    mk_Walk := ⟨mkk_Walk, a_Walk___init__, i_Walk___init__, kc_Walk⟩
    C_Kind := C_Kind
    cl_Kind := ⟨pg_Kind, hd_Kind, po_Kind, sa_Kind⟩
    g_Kind := PySem.W.mg_of X G aC_Kind
    na_Kind_bits := na_Kind_bits
    na_Kind_is_signed := na_Kind_is_signed
    ia_Kind := ia_Kind
    ib_Kind := ib_Kind
    ic_Kind := ic_Kind
    id_Kind := id_Kind
    mk_Kind := ⟨mkk_Kind, a_Kind___init__, i_Kind___init__, kc_Kind⟩
    C_InvalidBound := C_InvalidBound
    ax_InvalidBound := ⟨PySem.W.mg_of X G gx_InvalidBound, PySem.W.mg_none_of X G z_super, e1_InvalidBound, e2_InvalidBound, e3_InvalidBound, e4_InvalidBound, ⟨_, _, _, _, _, _, _, _, _, _, _, _, _, _, _, e5_InvalidBound, e6_InvalidBound⟩, e7_InvalidBound, e8_InvalidBound, e9_InvalidBound, f1_InvalidBound, f2_InvalidBound, ⟨f3_InvalidBound, f4_InvalidBound, e1_InvalidBound, f5_InvalidBound⟩, f6_InvalidBound, ⟨_, _, _, _, axs_InvalidBound, f7_InvalidBound, f8_InvalidBound, ⟨_, _, _, _, _, _, _, _, _, f9_InvalidBound, g1_InvalidBound, _, _, _, _, _, g2_InvalidBound, g3_InvalidBound⟩, _, _, _, g4_InvalidBound⟩⟩
    fl := fl
    f_Walk___init__ := f_Walk___init__
    fd_Walk___init__ := _
    F_Walk___init__ := F_Walk___init__
    b_Walk___init__ := b_Walk___init__
    m_Walk_mirrored := ⟨a_Walk_mirrored, i_Walk_mirrored, k_Walk_mirrored⟩
    f_Walk_mirrored := f_Walk_mirrored
    fd_Walk_mirrored := _
    F_Walk_mirrored := F_Walk_mirrored
    b_Walk_mirrored := b_Walk_mirrored
    m_Walk_of_laps := ⟨a_Walk_of_laps, i_Walk_of_laps, k_Walk_of_laps⟩
    f_Walk_of_laps := f_Walk_of_laps
    fd_Walk_of_laps := _
    F_Walk_of_laps := F_Walk_of_laps
    b_Walk_of_laps := b_Walk_of_laps
    m_Walk_marked_steps := ⟨a_Walk_marked_steps, i_Walk_marked_steps, k_Walk_marked_steps⟩
    f_Walk_marked_steps := f_Walk_marked_steps
    fd_Walk_marked_steps := _
    F_Walk_marked_steps := F_Walk_marked_steps
    b_Walk_marked_steps := b_Walk_marked_steps
    m_Walk_cost := ⟨a_Walk_cost, i_Walk_cost, k_Walk_cost⟩
    f_Walk_cost := f_Walk_cost
    fd_Walk_cost := _
    F_Walk_cost := F_Walk_cost
    b_Walk_cost := b_Walk_cost
    m_Walk_steps_for := ⟨a_Walk_steps_for, i_Walk_steps_for, k_Walk_steps_for⟩
    f_Walk_steps_for := f_Walk_steps_for
    fd_Walk_steps_for := _
    F_Walk_steps_for := F_Walk_steps_for
    b_Walk_steps_for := b_Walk_steps_for
    f__steps_to_visit := f__steps_to_visit
    fd__steps_to_visit := _
    F__steps_to_visit := F__steps_to_visit
    b__steps_to_visit := b__steps_to_visit
    g__steps_to_visit := PySem.W.mg_of X G a__steps_to_visit
    k__steps_to_visit := k__steps_to_visit
    f_hit_at := f_hit_at
    fd_hit_at := _
    F_hit_at := F_hit_at
    b_hit_at := b_hit_at
    g_hit_at := PySem.W.mg_of X G a_hit_at
    k_hit_at := k_hit_at
    f_is_integer := f_is_integer
    fd_is_integer := _
    F_is_integer := F_is_integer
    b_is_integer := b_is_integer
    g_is_integer := PySem.W.mg_of X G a_is_integer
    k_is_integer := k_is_integer
    f_check_integer := f_check_integer
    fd_check_integer := _
    F_check_integer := F_check_integer
    b_check_integer := b_check_integer
    g_check_integer := PySem.W.mg_of X G a_check_integer
    k_check_integer := k_check_integer
    f_is_sixty_digits := f_is_sixty_digits
    fd_is_sixty_digits := _
    F_is_sixty_digits := F_is_sixty_digits
    b_is_sixty_digits := b_is_sixty_digits
    g_is_sixty_digits := PySem.W.mg_of X G a_is_sixty_digits
    k_is_sixty_digits := k_is_sixty_digits
    f_check_sixty_digits := f_check_sixty_digits
    fd_check_sixty_digits := _
    F_check_sixty_digits := F_check_sixty_digits
    b_check_sixty_digits := b_check_sixty_digits
    g_check_sixty_digits := PySem.W.mg_of X G a_check_sixty_digits
    k_check_sixty_digits := k_check_sixty_digits
    f_is_count := f_is_count
    fd_is_count := _
    F_is_count := F_is_count
    b_is_count := b_is_count
    g_is_count := PySem.W.mg_of X G a_is_count
    k_is_count := k_is_count
    f_check_number := f_check_number
    fd_check_number := _
    F_check_number := F_check_number
    b_check_number := b_check_number
    g_check_number := PySem.W.mg_of X G a_check_number
    k_check_number := k_check_number
    f_is_word := f_is_word
    fd_is_word := _
    F_is_word := F_is_word
    b_is_word := b_is_word
    g_is_word := PySem.W.mg_of X G a_is_word
    k_is_word := k_is_word
    f_check_word := f_check_word
    fd_check_word := _
    F_check_word := F_check_word
    b_check_word := b_check_word
    g_check_word := PySem.W.mg_of X G a_check_word
    k_check_word := k_check_word
    f_opposite := f_opposite
    fd_opposite := _
    F_opposite := F_opposite
    b_opposite := b_opposite
    g_opposite := PySem.W.mg_of X G a_opposite
    k_opposite := k_opposite
    f_stands := f_stands
    fd_stands := _
    F_stands := F_stands
    b_stands := b_stands
    g_stands := PySem.W.mg_of X G a_stands
    k_stands := k_stands
    f_Kind___init__ := f_Kind___init__
    fd_Kind___init__ := _
    F_Kind___init__ := F_Kind___init__
    b_Kind___init__ := b_Kind___init__
    f_check_kind := f_check_kind
    fd_check_kind := _
    F_check_kind := F_check_kind
    b_check_kind := b_check_kind
    g_check_kind := PySem.W.mg_of X G a_check_kind
    k_check_kind := k_check_kind
    f_least := f_least
    fd_least := _
    F_least := F_least
    b_least := b_least
    g_least := PySem.W.mg_of X G a_least
    k_least := k_least
    f_greatest := f_greatest
    fd_greatest := _
    F_greatest := F_greatest
    b_greatest := b_greatest
    g_greatest := PySem.W.mg_of X G a_greatest
    k_greatest := k_greatest
    f_wrapped := f_wrapped
    fd_wrapped := _
    F_wrapped := F_wrapped
    b_wrapped := b_wrapped
    g_wrapped := PySem.W.mg_of X G a_wrapped
    k_wrapped := k_wrapped
    f_quotient_total := f_quotient_total
    fd_quotient_total := _
    F_quotient_total := F_quotient_total
    b_quotient_total := b_quotient_total
    g_quotient_total := PySem.W.mg_of X G a_quotient_total
    k_quotient_total := k_quotient_total
    f_total_between := f_total_between
    fd_total_between := _
    F_total_between := F_total_between
    b_total_between := b_total_between
    g_total_between := PySem.W.mg_of X G a_total_between
    k_total_between := k_total_between
    f_check_line := f_check_line
    fd_check_line := _
    F_check_line := F_check_line
    b_check_line := b_check_line
    g_check_line := PySem.W.mg_of X G a_check_line
    k_check_line := k_check_line
    f_check_range := f_check_range
    fd_check_range := _
    F_check_range := F_check_range
    b_check_range := b_check_range
    g_check_range := PySem.W.mg_of X G a_check_range
    k_check_range := k_check_range
    f_exact_at := f_exact_at
    fd_exact_at := _
    F_exact_at := F_exact_at
    b_exact_at := b_exact_at
    g_exact_at := PySem.W.mg_of X G a_exact_at
    k_exact_at := k_exact_at
    f_wanted_of := f_wanted_of
    fd_wanted_of := _
    F_wanted_of := F_wanted_of
    b_wanted_of := b_wanted_of
    g_wanted_of := PySem.W.mg_of X G a_wanted_of
    k_wanted_of := k_wanted_of
    f__check_lines := f__check_lines
    fd__check_lines := _
    F__check_lines := F__check_lines
    b__check_lines := b__check_lines
    g__check_lines := PySem.W.mg_of X G a__check_lines
    k__check_lines := k__check_lines
    f__check := f__check
    fd__check := _
    F__check := F__check
    b__check := b__check
    g__check := PySem.W.mg_of X G a__check
    k__check := k__check
    f_compares := f_compares
    fd_compares := _
    F_compares := F_compares
    b_compares := b_compares
    g_compares := PySem.W.mg_of X G a_compares
    k_compares := k_compares
    f__count := f__count
    fd__count := _
    F__count := F__count
    b__count := b__count
    g__count := PySem.W.mg_of X G a__count
    k__count := k__count
    f__gap := f__gap
    fd__gap := _
    F__gap := F__gap
    b__gap := b__gap
    g__gap := PySem.W.mg_of X G a__gap
    k__gap := k__gap
    f__less_total := f__less_total
    fd__less_total := _
    F__less_total := F__less_total
    b__less_total := b__less_total
    g__less_total := PySem.W.mg_of X G a__less_total
    k__less_total := k__less_total
    f__equal_total := f__equal_total
    fd__equal_total := _
    F__equal_total := F__equal_total
    b__equal_total := b__equal_total
    g__equal_total := PySem.W.mg_of X G a__equal_total
    k__equal_total := k__equal_total
    f__total := f__total
    fd__total := _
    F__total := F__total
    b__total := b__total
    g__total := PySem.W.mg_of X G a__total
    k__total := k__total
    f_holds := f_holds
    fd_holds := _
    F_holds := F_holds
    b_holds := b_holds
    g_holds := PySem.W.mg_of X G a_holds
    k_holds := k_holds
    f__less_hits := f__less_hits
    fd__less_hits := _
    F__less_hits := F__less_hits
    b__less_hits := b__less_hits
    g__less_hits := PySem.W.mg_of X G a__less_hits
    k__less_hits := k__less_hits
    f__hits := f__hits
    fd__hits := _
    F__hits := F__hits
    b__hits := b__hits
    g__hits := PySem.W.mg_of X G a__hits
    k__hits := k__hits
    c__holding := cd__holding
    P__holding := P__holding
    mT__holding := (.head _)
    uT__holding := tab_uniq (l := [(P__holding, ("_holding" : Str) ++ ".<locals>." ++ "<lambda>"), (P__law_none_right, ("_law_none_right" : Str) ++ ".<locals>." ++ "<lambda>")]) dist (.head _)
    f__holding := f__holding
    fd__holding := _
    F__holding := F__holding
    b__holding := b__holding
    g__holding := PySem.W.mg_of X G a__holding
    k__holding := k__holding
    f__first_holding := f__first_holding
    fd__first_holding := _
    F__first_holding := F__first_holding
    b__first_holding := b__first_holding
    g__first_holding := PySem.W.mg_of X G a__first_holding
    k__first_holding := k__first_holding
    f_first_holding := f_first_holding
    fd_first_holding := _
    F_first_holding := F_first_holding
    b_first_holding := b_first_holding
    g_first_holding := PySem.W.mg_of X G a_first_holding
    k_first_holding := k_first_holding
    f_last_holding := f_last_holding
    fd_last_holding := _
    F_last_holding := F_last_holding
    b_last_holding := b_last_holding
    g_last_holding := PySem.W.mg_of X G a_last_holding
    k_last_holding := k_last_holding
    f_holding_at := f_holding_at
    fd_holding_at := _
    F_holding_at := F_holding_at
    b_holding_at := b_holding_at
    g_holding_at := PySem.W.mg_of X G a_holding_at
    k_holding_at := k_holding_at
    f__ordered_parts := f__ordered_parts
    fd__ordered_parts := _
    F__ordered_parts := F__ordered_parts
    b__ordered_parts := b__ordered_parts
    g__ordered_parts := PySem.W.mg_of X G a__ordered_parts
    k__ordered_parts := k__ordered_parts
    f__surprising_parts := f__surprising_parts
    fd__surprising_parts := _
    F__surprising_parts := F__surprising_parts
    b__surprising_parts := b__surprising_parts
    g__surprising_parts := PySem.W.mg_of X G a__surprising_parts
    k__surprising_parts := k__surprising_parts
    f_surprises := f_surprises
    fd_surprises := _
    F_surprises := F_surprises
    b_surprises := b_surprises
    g_surprises := PySem.W.mg_of X G a_surprises
    k_surprises := k_surprises
    f_first_surprise := f_first_surprise
    fd_first_surprise := _
    F_first_surprise := F_first_surprise
    b_first_surprise := b_first_surprise
    g_first_surprise := PySem.W.mg_of X G a_first_surprise
    k_first_surprise := k_first_surprise
    f__law_deck := f__law_deck
    fd__law_deck := _
    F__law_deck := F__law_deck
    b__law_deck := b__law_deck
    g__law_deck := PySem.W.mg_of X G a__law_deck
    k__law_deck := k__law_deck
    f__law_deal := f__law_deal
    fd__law_deal := _
    F__law_deal := F__law_deal
    b__law_deal := b__law_deal
    g__law_deal := PySem.W.mg_of X G a__law_deal
    k__law_deal := k__law_deal
    f__law_choice := f__law_choice
    fd__law_choice := _
    F__law_choice := F__law_choice
    b__law_choice := b__law_choice
    g__law_choice := PySem.W.mg_of X G a__law_choice
    k__law_choice := k__law_choice
    f__law_great := f__law_great
    fd__law_great := _
    F__law_great := F__law_great
    b__law_great := b__law_great
    g__law_great := PySem.W.mg_of X G a__law_great
    k__law_great := k__law_great
    f__law_near := f__law_near
    fd__law_near := _
    F__law_near := F__law_near
    b__law_near := b__law_near
    g__law_near := PySem.W.mg_of X G a__law_near
    k__law_near := k__law_near
    f__law_some := f__law_some
    fd__law_some := _
    F__law_some := F__law_some
    b__law_some := b__law_some
    g__law_some := PySem.W.mg_of X G a__law_some
    k__law_some := k__law_some
    f__law_pair := f__law_pair
    fd__law_pair := _
    F__law_pair := F__law_pair
    b__law_pair := b__law_pair
    g__law_pair := PySem.W.mg_of X G a__law_pair
    k__law_pair := k__law_pair
    f__law_table := f__law_table
    fd__law_table := _
    F__law_table := F__law_table
    b__law_table := b__law_table
    g__law_table := PySem.W.mg_of X G a__law_table
    k__law_table := k__law_table
    f__law_is_so := f__law_is_so
    fd__law_is_so := _
    F__law_is_so := F__law_is_so
    b__law_is_so := b__law_is_so
    g__law_is_so := PySem.W.mg_of X G a__law_is_so
    k__law_is_so := k__law_is_so
    f__law_right := f__law_right
    fd__law_right := _
    F__law_right := F__law_right
    b__law_right := b__law_right
    g__law_right := PySem.W.mg_of X G a__law_right
    k__law_right := k__law_right
    f__law_refused := f__law_refused
    fd__law_refused := _
    F__law_refused := F__law_refused
    b__law_refused := b__law_refused
    g__law_refused := PySem.W.mg_of X G a__law_refused
    k__law_refused := k__law_refused
    c__law_none_right := cd__law_none_right
    P__law_none_right := P__law_none_right
    mT__law_none_right := (.tail _ (.head _))
    uT__law_none_right := tab_uniq (l := [(P__holding, ("_holding" : Str) ++ ".<locals>." ++ "<lambda>"), (P__law_none_right, ("_law_none_right" : Str) ++ ".<locals>." ++ "<lambda>")]) dist (.tail _ (.head _))
    f__law_none_right := f__law_none_right
    fd__law_none_right := _
    F__law_none_right := F__law_none_right
    b__law_none_right := b__law_none_right
    g__law_none_right := PySem.W.mg_of X G a__law_none_right
    k__law_none_right := k__law_none_right
    f__law_named_right := f__law_named_right
    fd__law_named_right := _
    F__law_named_right := F__law_named_right
    b__law_named_right := b__law_named_right
    g__law_named_right := PySem.W.mg_of X G a__law_named_right
    k__law_named_right := k__law_named_right
    f_law := f_law
    fd_law := _
    F_law := F_law
    b_law := b_law
    g_law := PySem.W.mg_of X G a_law
    k_law := k_law
    t_BEYOND_SIXTY_DIGITS := t_BEYOND_SIXTY_DIGITS
    g_BEYOND_SIXTY_DIGITS := PySem.W.mg_of X G v_BEYOND_SIXTY_DIGITS
    a_RELATIONS := a_RELATIONS
    g_RELATIONS := PySem.W.mg_of X G v_RELATIONS
    q_RELATIONS := fun H => .inr ⟨_, _, _, lt_RELATIONS, rfl, rfl, sz_RELATIONS, vt_RELATIONS⟩
    a_OPPOSITES := a_OPPOSITES
    g_OPPOSITES := PySem.W.mg_of X G w_OPPOSITES
    es_OPPOSITES := es_OPPOSITES
    n_OPPOSITES := n_OPPOSITES
    l_OPPOSITES := ld_OPPOSITES
    v_OPPOSITES_0 := ⟨_, vd_OPPOSITES_0⟩
    v_OPPOSITES_1 := ⟨_, vd_OPPOSITES_1⟩
    v_OPPOSITES_2 := ⟨_, vd_OPPOSITES_2⟩
    v_OPPOSITES_3 := ⟨_, vd_OPPOSITES_3⟩
    v_OPPOSITES_4 := ⟨_, vd_OPPOSITES_4⟩
    v_OPPOSITES_5 := ⟨_, vd_OPPOSITES_5⟩
    t_MOST_BITS := t_MOST_BITS
    g_MOST_BITS := PySem.W.mg_of X G v_MOST_BITS
    n_abs := PySem.W.mg_none_of X G z_abs
    n_bool := PySem.W.mg_none_of X G z_bool
    n_divmod := PySem.W.mg_none_of X G z_divmod
    n_int := PySem.W.mg_none_of X G z_int
    n_isinstance := PySem.W.mg_none_of X G z_isinstance
    n_len := PySem.W.mg_none_of X G z_len
    n_max := PySem.W.mg_none_of X G z_max
    n_min := PySem.W.mg_none_of X G z_min
    n_range := PySem.W.mg_none_of X G z_range
    n_reversed := PySem.W.mg_none_of X G z_reversed
    n_str := PySem.W.mg_none_of X G z_str
    n_sum := PySem.W.mg_none_of X G z_sum
    n_tuple := PySem.W.mg_none_of X G z_tuple
    kb_compares_0_x_other_relation_one_kind := kbinds_of F_compares (fun _ _ _ _ _ _ us ws hl => match us, ws, hl with | [], [_, _, _, _, _], _ => rfl) rel_kb_compares_0_x_other_relation_one_kind
    kb_holds_0_last_first_other_relation_one_kind := kbinds_of F_holds (fun _ _ _ _ _ _ us ws hl => match us, ws, hl with | [], [_, _, _, _, _, _], _ => rfl) rel_kb_holds_0_last_first_other_relation_one_kind
    kb_first_holding_0_last_first_other_relation_one_kind := kbinds_of F_first_holding (fun _ _ _ _ _ _ us ws hl => match us, ws, hl with | [], [_, _, _, _, _, _], _ => rfl) rel_kb_first_holding_0_last_first_other_relation_one_kind
    kb_last_holding_0_last_first_other_relation_one_kind := kbinds_of F_last_holding (fun _ _ _ _ _ _ us ws hl => match us, ws, hl with | [], [_, _, _, _, _, _], _ => rfl) rel_kb_last_holding_0_last_first_other_relation_one_kind
    kb_holding_at_0_j_last_first_other_relation_one_kind := kbinds_of F_holding_at (fun _ _ _ _ _ _ us ws hl => match us, ws, hl with | [], [_, _, _, _, _, _, _], _ => rfl) rel_kb_holding_at_0_j_last_first_other_relation_one_kind
    bl_law := fun s v => .of_eq rfl
    tabs := [(P__holding, ("_holding" : Str) ++ ".<locals>." ++ "<lambda>"), (P__law_none_right, ("_law_none_right" : Str) ++ ".<locals>." ++ "<lambda>")] },
    { px := px, lit_OPPOSITES := li_OPPOSITES, eq := rfl, ti__holding := tabIn_of a__holding l__holding rfl lc__holding hv__holding, ti__law_none_right := tabIn_of a__law_none_right l__law_none_right rfl lc__law_none_right hv__law_none_right }⟩
theorem walk {l : PySem.W.OpenLaw} {q : Program} {loose : List Str} {XP : (Str → Option Value) → Heap → Prop} {YP : World → Heap → Prop} {d : DefRec} {K : Params → PySem.W.Frag} (hn : l.most = some 63) (hdf : d.params.defaults = []) (hnm : d.name = "law")
    (hY : ∀ (w : World) (h : Heap), YP w h → (K w.params).In h)
    (hr__holding : ((PyProof.Rows.recsOf q).find? (fun e => e.name == ("_holding" : Str))).isSome = true)
    (hr__law_none_right : ((PyProof.Rows.recsOf q).find? (fun e => e.name == ("_law_none_right" : Str))).isSome = true)
    (NT : ∀ w : World, PySem.W.noTabs (K w.params) = true)
    (F : ∀ (w : World) (mg : Str → Option Value) (h : Heap), (K w.params).In h → h.Ns mainGlobals mg → ∃ T : Txt (K w.params) mg, TI T w l.prog) :
    PySem.W.WalkO q loose XP YP l.row.toRowW d [] (fun f vs => PySem.call f vs) :=
  Fw.walk_tabs (n := 63) (k := 42) (x := "_law_script") (CX := fun _ => CX0) hn (by decide) hdf ⟨rfl, by decide, by decide⟩ hY
    (fun w mg fa h tb KX G hm => by
      obtain ⟨T, I⟩ := F w mg h KX G
      have e : T.f_law = fa := by
        have q := T.g_law.symm.trans (hnm ▸ hm)
        cases q; rfl
      subst e
      have q__holding := tb _ _ _ hr__holding I.ti__holding
      have q__law_none_right := tb _ _ _ hr__law_none_right I.ti__law_none_right
      refine ⟨T.fd_law, [(T.c__holding, T.P__holding), (T.c__law_none_right, T.P__law_none_right)], sp_law (K w.params) T.C_Kind T.C_Walk T.C_InvalidBound T.tabs, ?_, ?_, ?_, T.bl_law, fun H a ns hl _ hH hS => ⟨a, ns, rfl, hS, hl, ?_, fun _ => rfl⟩, fun base _ _ TB => ok_law T ⟨I.lit_OPPOSITES, TB _ (.head _), TB _ (.tail _ (.head _)), I.px⟩⟩
      · intro p hp
        rcases List.mem_cons.mp hp with rfl | hp
        · exact q__holding.2
        rcases List.mem_cons.mp hp with rfl | hp
        · exact q__law_none_right.2
        cases hp
      · intro p hp
        rcases List.mem_cons.mp hp with rfl | hp
        · exact no_tab KX q__holding.2 (NT w)
        rcases List.mem_cons.mp hp with rfl | hp
        · exact no_tab KX q__law_none_right.2 (NT w)
        cases hp
      · intro p hp
        rcases List.mem_cons.mp hp with rfl | hp
        · exact q__holding.1
        rcases List.mem_cons.mp hp with rfl | hp
        · exact q__law_none_right.1
        cases hp
      · rw [I.eq]
        intro p hp
        rcases List.mem_cons.mp hp with rfl | hp
        · exact LamX.TabS.nil (hH (T.c__holding, T.P__holding) (.head _))
        rcases List.mem_cons.mp hp with rfl | hp
        · exact LamX.TabS.nil (hH (T.c__law_none_right, T.P__law_none_right) (.tail _ (.head _)))
        cases hp)
    fun _ _ _ _ _ z => z
end Fw
open PySem PySem.W PyProof.Rows
set_option maxRecDepth 100000 in
set_option maxHeartbeats 0 in
theorem PySem.Challenge.cw_farwrap_k14_two_lines_compared_holds : PySem.Challenge.rw_farwrap_k14_two_lines_compared.Holds := by
  w_on; o_law; k_head; (case hw => w_witness2)
  k_fill
  refine Fw.walk (l := PySem.Challenge.rw_farwrap_k14_two_lines_compared) rfl rfl rfl (fun w h Y => PySem.W.km_in_of Y) (by decide +kernel) (by decide +kernel) (fun _ => rfl) ?F
  case F =>
    intro w mg h KX G
    refine' Fw.mk_txt KX G ?aC_Walk ?a_Walk___init__ ?i_Walk___init__ ?pg_Walk ?hd_Walk ?po_Walk ?sa_Walk ?mkk_Walk ?kc_Walk ?na_Walk_size ?na_Walk_step ?na_Walk_marks ?na_Walk_each ?na_Walk_marked ?na_Walk_around ?ia_Walk ?ib_Walk ?ic_Walk ?id_Walk ?aC_Kind ?a_Kind___init__ ?i_Kind___init__ ?pg_Kind ?hd_Kind ?po_Kind ?sa_Kind ?mkk_Kind ?kc_Kind ?na_Kind_bits ?na_Kind_is_signed ?ia_Kind ?ib_Kind ?ic_Kind ?id_Kind ?gx_InvalidBound ?e1_InvalidBound ?e2_InvalidBound ?e3_InvalidBound ?e4_InvalidBound ?e5_InvalidBound ?e6_InvalidBound ?e7_InvalidBound ?e8_InvalidBound ?e9_InvalidBound ?f1_InvalidBound ?f2_InvalidBound ?f3_InvalidBound ?f4_InvalidBound ?f5_InvalidBound ?f6_InvalidBound ?f7_InvalidBound ?f8_InvalidBound ?f9_InvalidBound ?g1_InvalidBound ?g2_InvalidBound ?g3_InvalidBound ?g4_InvalidBound ?l_Walk___init__ ?c_Walk___init__ ?k_Walk___init__ ?a_Walk_mirrored ?i_Walk_mirrored ?l_Walk_mirrored ?c_Walk_mirrored ?k_Walk_mirrored ?a_Walk_of_laps ?i_Walk_of_laps ?l_Walk_of_laps ?c_Walk_of_laps ?k_Walk_of_laps ?a_Walk_marked_steps ?i_Walk_marked_steps ?l_Walk_marked_steps ?c_Walk_marked_steps ?k_Walk_marked_steps ?a_Walk_cost ?i_Walk_cost ?l_Walk_cost ?c_Walk_cost ?k_Walk_cost ?a_Walk_steps_for ?i_Walk_steps_for ?l_Walk_steps_for ?c_Walk_steps_for ?k_Walk_steps_for ?a__steps_to_visit ?l__steps_to_visit ?c__steps_to_visit ?k__steps_to_visit ?a_hit_at ?l_hit_at ?c_hit_at ?k_hit_at ?a_is_integer ?l_is_integer ?c_is_integer ?k_is_integer ?a_check_integer ?l_check_integer ?c_check_integer ?k_check_integer ?a_is_sixty_digits ?l_is_sixty_digits ?c_is_sixty_digits ?k_is_sixty_digits ?a_check_sixty_digits ?l_check_sixty_digits ?c_check_sixty_digits ?k_check_sixty_digits ?a_is_count ?l_is_count ?c_is_count ?k_is_count ?a_check_number ?l_check_number ?c_check_number ?k_check_number ?a_is_word ?l_is_word ?c_is_word ?k_is_word ?a_check_word ?l_check_word ?c_check_word ?k_check_word ?a_opposite ?l_opposite ?c_opposite ?k_opposite ?a_stands ?l_stands ?c_stands ?k_stands ?l_Kind___init__ ?c_Kind___init__ ?k_Kind___init__ ?a_check_kind ?l_check_kind ?c_check_kind ?k_check_kind ?a_least ?l_least ?c_least ?k_least ?a_greatest ?l_greatest ?c_greatest ?k_greatest ?a_wrapped ?l_wrapped ?c_wrapped ?k_wrapped ?a_quotient_total ?l_quotient_total ?c_quotient_total ?k_quotient_total ?a_total_between ?l_total_between ?c_total_between ?k_total_between ?a_check_line ?l_check_line ?c_check_line ?k_check_line ?a_check_range ?l_check_range ?c_check_range ?k_check_range ?a_exact_at ?l_exact_at ?c_exact_at ?k_exact_at ?a_wanted_of ?l_wanted_of ?c_wanted_of ?k_wanted_of ?a__check_lines ?l__check_lines ?c__check_lines ?k__check_lines ?a__check ?l__check ?c__check ?k__check ?a_compares ?l_compares ?c_compares ?k_compares ?a__count ?l__count ?c__count ?k__count ?a__gap ?l__gap ?c__gap ?k__gap ?a__less_total ?l__less_total ?c__less_total ?k__less_total ?a__equal_total ?l__equal_total ?c__equal_total ?k__equal_total ?a__total ?l__total ?c__total ?k__total ?a_holds ?l_holds ?c_holds ?k_holds ?a__less_hits ?l__less_hits ?c__less_hits ?k__less_hits ?a__hits ?l__hits ?c__hits ?k__hits ?a__holding ?l__holding ?c__holding ?lc__holding ?hv__holding ?k__holding ?a__first_holding ?l__first_holding ?c__first_holding ?k__first_holding ?a_first_holding ?l_first_holding ?c_first_holding ?k_first_holding ?a_last_holding ?l_last_holding ?c_last_holding ?k_last_holding ?a_holding_at ?l_holding_at ?c_holding_at ?k_holding_at ?a__ordered_parts ?l__ordered_parts ?c__ordered_parts ?k__ordered_parts ?a__surprising_parts ?l__surprising_parts ?c__surprising_parts ?k__surprising_parts ?a_surprises ?l_surprises ?c_surprises ?k_surprises ?a_first_surprise ?l_first_surprise ?c_first_surprise ?k_first_surprise ?a__law_deck ?l__law_deck ?c__law_deck ?k__law_deck ?a__law_deal ?l__law_deal ?c__law_deal ?k__law_deal ?a__law_choice ?l__law_choice ?c__law_choice ?k__law_choice ?a__law_great ?l__law_great ?c__law_great ?k__law_great ?a__law_near ?l__law_near ?c__law_near ?k__law_near ?a__law_some ?l__law_some ?c__law_some ?k__law_some ?a__law_pair ?l__law_pair ?c__law_pair ?k__law_pair ?a__law_table ?l__law_table ?c__law_table ?k__law_table ?a__law_is_so ?l__law_is_so ?c__law_is_so ?k__law_is_so ?a__law_right ?l__law_right ?c__law_right ?k__law_right ?a__law_refused ?l__law_refused ?c__law_refused ?k__law_refused ?a__law_none_right ?l__law_none_right ?c__law_none_right ?lc__law_none_right ?hv__law_none_right ?k__law_none_right ?a__law_named_right ?l__law_named_right ?c__law_named_right ?k__law_named_right ?a_law ?l_law ?c_law ?k_law ?v_BEYOND_SIXTY_DIGITS ?v_RELATIONS ?lt_RELATIONS ?sz_RELATIONS ?vt_RELATIONS ?w_OPPOSITES ?ld_OPPOSITES ?vd_OPPOSITES_0 ?vd_OPPOSITES_1 ?vd_OPPOSITES_2 ?vd_OPPOSITES_3 ?vd_OPPOSITES_4 ?vd_OPPOSITES_5 ?li_OPPOSITES ?v_MOST_BITS ?z_abs ?z_bool ?z_divmod ?z_int ?z_isinstance ?z_len ?z_max ?z_min ?z_range ?z_reversed ?z_str ?z_sum ?z_super ?z_tuple ?px ?dist
    (case aC_Walk => k_is)
    (case a_Walk___init__ => k_is)
    (case i_Walk___init__ => k_is)
    (case pg_Walk => k_is)
    (case hd_Walk => k_is)
    (case po_Walk => k_is)
    (case sa_Walk => k_is)
    (case mkk_Walk => k_is)
    (case kc_Walk => k_is)
    (case na_Walk_size => k_is)
    (case na_Walk_step => k_is)
    (case na_Walk_marks => k_is)
    (case na_Walk_each => k_is)
    (case na_Walk_marked => k_is)
    (case na_Walk_around => k_is)
    (case ia_Walk => k_is)
    (case ib_Walk => k_is)
    (case ic_Walk => k_is)
    (case id_Walk => k_is)
    (case aC_Kind => k_is)
    (case a_Kind___init__ => k_is)
    (case i_Kind___init__ => k_is)
    (case pg_Kind => k_is)
    (case hd_Kind => k_is)
    (case po_Kind => k_is)
    (case sa_Kind => k_is)
    (case mkk_Kind => k_is)
    (case kc_Kind => k_is)
    (case na_Kind_bits => k_is)
    (case na_Kind_is_signed => k_is)
    (case ia_Kind => k_is)
    (case ib_Kind => k_is)
    (case ic_Kind => k_is)
    (case id_Kind => k_is)
    (case gx_InvalidBound => k_is)
    (case e1_InvalidBound => k_is)
    (case e2_InvalidBound => k_is)
    (case e3_InvalidBound => k_is)
    (case e4_InvalidBound => k_is)
    (case e5_InvalidBound => k_is)
    (case e6_InvalidBound => exact (by decide +kernel))
    (case e7_InvalidBound => k_is)
    (case e8_InvalidBound => exact (by ks_is))
    (case e9_InvalidBound => k_is)
    (case f1_InvalidBound => k_is)
    (case f2_InvalidBound => k_is)
    (case f3_InvalidBound => k_is)
    (case f4_InvalidBound => k_is)
    (case f5_InvalidBound => k_is)
    (case f6_InvalidBound => exact (by kts_exm))
    (case f7_InvalidBound => k_is)
    (case f8_InvalidBound => k_is)
    (case f9_InvalidBound => k_is)
    (case g1_InvalidBound => k_is)
    (case g2_InvalidBound => k_is)
    (case g3_InvalidBound => exact rfl)
    (case g4_InvalidBound => k_is)
    (case l_Walk___init__ => k_is)
    (case c_Walk___init__ => k_is)
    (case k_Walk___init__ => k_is)
    (case a_Walk_mirrored => k_is)
    (case i_Walk_mirrored => k_is)
    (case l_Walk_mirrored => k_is)
    (case c_Walk_mirrored => k_is)
    (case k_Walk_mirrored => k_is)
    (case a_Walk_of_laps => k_is)
    (case i_Walk_of_laps => k_is)
    (case l_Walk_of_laps => k_is)
    (case c_Walk_of_laps => k_is)
    (case k_Walk_of_laps => k_is)
    (case a_Walk_marked_steps => k_is)
    (case i_Walk_marked_steps => k_is)
    (case l_Walk_marked_steps => k_is)
    (case c_Walk_marked_steps => k_is)
    (case k_Walk_marked_steps => k_is)
    (case a_Walk_cost => k_is)
    (case i_Walk_cost => k_is)
    (case l_Walk_cost => k_is)
    (case c_Walk_cost => k_is)
    (case k_Walk_cost => k_is)
    (case a_Walk_steps_for => k_is)
    (case i_Walk_steps_for => k_is)
    (case l_Walk_steps_for => k_is)
    (case c_Walk_steps_for => k_is)
    (case k_Walk_steps_for => k_is)
    (case a__steps_to_visit => k_is)
    (case l__steps_to_visit => k_is)
    (case c__steps_to_visit => k_is)
    (case k__steps_to_visit => k_is)
    (case a_hit_at => k_is)
    (case l_hit_at => k_is)
    (case c_hit_at => k_is)
    (case k_hit_at => k_is)
    (case a_is_integer => k_is)
    (case l_is_integer => k_is)
    (case c_is_integer => k_is)
    (case k_is_integer => k_is)
    (case a_check_integer => k_is)
    (case l_check_integer => k_is)
    (case c_check_integer => k_is)
    (case k_check_integer => k_is)
    (case a_is_sixty_digits => k_is)
    (case l_is_sixty_digits => k_is)
    (case c_is_sixty_digits => k_is)
    (case k_is_sixty_digits => k_is)
    (case a_check_sixty_digits => k_is)
    (case l_check_sixty_digits => k_is)
    (case c_check_sixty_digits => k_is)
    (case k_check_sixty_digits => k_is)
    (case a_is_count => k_is)
    (case l_is_count => k_is)
    (case c_is_count => k_is)
    (case k_is_count => k_is)
    (case a_check_number => k_is)
    (case l_check_number => k_is)
    (case c_check_number => k_is)
    (case k_check_number => k_is)
    (case a_is_word => k_is)
    (case l_is_word => k_is)
    (case c_is_word => k_is)
    (case k_is_word => k_is)
    (case a_check_word => k_is)
    (case l_check_word => k_is)
    (case c_check_word => k_is)
    (case k_check_word => k_is)
    (case a_opposite => k_is)
    (case l_opposite => k_is)
    (case c_opposite => k_is)
    (case k_opposite => k_is)
    (case a_stands => k_is)
    (case l_stands => k_is)
    (case c_stands => k_is)
    (case k_stands => k_is)
    (case l_Kind___init__ => k_is)
    (case c_Kind___init__ => k_is)
    (case k_Kind___init__ => k_is)
    (case a_check_kind => k_is)
    (case l_check_kind => k_is)
    (case c_check_kind => k_is)
    (case k_check_kind => k_is)
    (case a_least => k_is)
    (case l_least => k_is)
    (case c_least => k_is)
    (case k_least => k_is)
    (case a_greatest => k_is)
    (case l_greatest => k_is)
    (case c_greatest => k_is)
    (case k_greatest => k_is)
    (case a_wrapped => k_is)
    (case l_wrapped => k_is)
    (case c_wrapped => k_is)
    (case k_wrapped => k_is)
    (case a_quotient_total => k_is)
    (case l_quotient_total => k_is)
    (case c_quotient_total => k_is)
    (case k_quotient_total => k_is)
    (case a_total_between => k_is)
    (case l_total_between => k_is)
    (case c_total_between => k_is)
    (case k_total_between => k_is)
    (case a_check_line => k_is)
    (case l_check_line => k_is)
    (case c_check_line => k_is)
    (case k_check_line => k_is)
    (case a_check_range => k_is)
    (case l_check_range => k_is)
    (case c_check_range => k_is)
    (case k_check_range => k_is)
    (case a_exact_at => k_is)
    (case l_exact_at => k_is)
    (case c_exact_at => k_is)
    (case k_exact_at => k_is)
    (case a_wanted_of => k_is)
    (case l_wanted_of => k_is)
    (case c_wanted_of => k_is)
    (case k_wanted_of => k_is)
    (case a__check_lines => k_is)
    (case l__check_lines => k_is)
    (case c__check_lines => k_is)
    (case k__check_lines => k_is)
    (case a__check => k_is)
    (case l__check => k_is)
    (case c__check => k_is)
    (case k__check => k_is)
    (case a_compares => k_is)
    (case l_compares => k_is)
    (case c_compares => k_is)
    (case k_compares => k_is)
    (case a__count => k_is)
    (case l__count => k_is)
    (case c__count => k_is)
    (case k__count => k_is)
    (case a__gap => k_is)
    (case l__gap => k_is)
    (case c__gap => k_is)
    (case k__gap => k_is)
    (case a__less_total => k_is)
    (case l__less_total => k_is)
    (case c__less_total => k_is)
    (case k__less_total => k_is)
    (case a__equal_total => k_is)
    (case l__equal_total => k_is)
    (case c__equal_total => k_is)
    (case k__equal_total => k_is)
    (case a__total => k_is)
    (case l__total => k_is)
    (case c__total => k_is)
    (case k__total => k_is)
    (case a_holds => k_is)
    (case l_holds => k_is)
    (case c_holds => k_is)
    (case k_holds => k_is)
    (case a__less_hits => k_is)
    (case l__less_hits => k_is)
    (case c__less_hits => k_is)
    (case k__less_hits => k_is)
    (case a__hits => k_is)
    (case l__hits => k_is)
    (case c__hits => k_is)
    (case k__hits => k_is)
    (case a__holding => k_is)
    (case l__holding => k_is)
    (case c__holding => k_is)
    (case lc__holding => k_is)
    (case hv__holding => exact rfl)
    (case k__holding => k_is)
    (case a__first_holding => k_is)
    (case l__first_holding => k_is)
    (case c__first_holding => k_is)
    (case k__first_holding => k_is)
    (case a_first_holding => k_is)
    (case l_first_holding => k_is)
    (case c_first_holding => k_is)
    (case k_first_holding => k_is)
    (case a_last_holding => k_is)
    (case l_last_holding => k_is)
    (case c_last_holding => k_is)
    (case k_last_holding => k_is)
    (case a_holding_at => k_is)
    (case l_holding_at => k_is)
    (case c_holding_at => k_is)
    (case k_holding_at => k_is)
    (case a__ordered_parts => k_is)
    (case l__ordered_parts => k_is)
    (case c__ordered_parts => k_is)
    (case k__ordered_parts => k_is)
    (case a__surprising_parts => k_is)
    (case l__surprising_parts => k_is)
    (case c__surprising_parts => k_is)
    (case k__surprising_parts => k_is)
    (case a_surprises => k_is)
    (case l_surprises => k_is)
    (case c_surprises => k_is)
    (case k_surprises => k_is)
    (case a_first_surprise => k_is)
    (case l_first_surprise => k_is)
    (case c_first_surprise => k_is)
    (case k_first_surprise => k_is)
    (case a__law_deck => k_is)
    (case l__law_deck => k_is)
    (case c__law_deck => k_is)
    (case k__law_deck => k_is)
    (case a__law_deal => k_is)
    (case l__law_deal => k_is)
    (case c__law_deal => k_is)
    (case k__law_deal => k_is)
    (case a__law_choice => k_is)
    (case l__law_choice => k_is)
    (case c__law_choice => k_is)
    (case k__law_choice => k_is)
    (case a__law_great => k_is)
    (case l__law_great => k_is)
    (case c__law_great => k_is)
    (case k__law_great => k_is)
    (case a__law_near => k_is)
    (case l__law_near => k_is)
    (case c__law_near => k_is)
    (case k__law_near => k_is)
    (case a__law_some => k_is)
    (case l__law_some => k_is)
    (case c__law_some => k_is)
    (case k__law_some => k_is)
    (case a__law_pair => k_is)
    (case l__law_pair => k_is)
    (case c__law_pair => k_is)
    (case k__law_pair => k_is)
    (case a__law_table => k_is)
    (case l__law_table => k_is)
    (case c__law_table => k_is)
    (case k__law_table => k_is)
    (case a__law_is_so => k_is)
    (case l__law_is_so => k_is)
    (case c__law_is_so => k_is)
    (case k__law_is_so => k_is)
    (case a__law_right => k_is)
    (case l__law_right => k_is)
    (case c__law_right => k_is)
    (case k__law_right => k_is)
    (case a__law_refused => k_is)
    (case l__law_refused => k_is)
    (case c__law_refused => k_is)
    (case k__law_refused => k_is)
    (case a__law_none_right => k_is)
    (case l__law_none_right => k_is)
    (case c__law_none_right => k_is)
    (case lc__law_none_right => k_is)
    (case hv__law_none_right => exact rfl)
    (case k__law_none_right => k_is)
    (case a__law_named_right => k_is)
    (case l__law_named_right => k_is)
    (case c__law_named_right => k_is)
    (case k__law_named_right => k_is)
    (case a_law => k_is)
    (case l_law => k_is)
    (case c_law => k_is)
    (case k_law => k_is)
    (case v_BEYOND_SIXTY_DIGITS => k_is)
    (case v_RELATIONS => k_is)
    (case lt_RELATIONS => k_is)
    (case sz_RELATIONS => exact (by decide))
    (case vt_RELATIONS => exact (.cons ⟨_, rfl⟩ (.cons ⟨_, rfl⟩ (.cons ⟨_, rfl⟩ (.cons ⟨_, rfl⟩ (.cons ⟨_, rfl⟩ (.cons ⟨_, rfl⟩ .nil)))))))
    (case w_OPPOSITES => k_is)
    (case ld_OPPOSITES => k_is)
    (case vd_OPPOSITES_0 => k_is)
    (case vd_OPPOSITES_1 => k_is)
    (case vd_OPPOSITES_2 => k_is)
    (case vd_OPPOSITES_3 => k_is)
    (case vd_OPPOSITES_4 => k_is)
    (case vd_OPPOSITES_5 => k_is)
    (case li_OPPOSITES => exact (Fw.lit_cons rfl rfl (Fw.lit_cons rfl rfl (Fw.lit_cons rfl rfl (Fw.lit_cons rfl rfl (Fw.lit_cons rfl rfl (Fw.lit_cons rfl rfl Fw.lit_nil)))))))
    (case v_MOST_BITS => k_is)
    (case z_abs => k_is)
    (case z_bool => k_is)
    (case z_divmod => k_is)
    (case z_int => k_is)
    (case z_isinstance => k_is)
    (case z_len => k_is)
    (case z_max => k_is)
    (case z_min => k_is)
    (case z_range => k_is)
    (case z_reversed => k_is)
    (case z_str => k_is)
    (case z_sum => k_is)
    (case z_super => k_is)
    (case z_tuple => k_is)
    (case px => exact ⟨by decide +kernel, by decide +kernel⟩)
    (case dist => exact (by decide))
