import PyProof.Rows.All
import Wide.All
import OpenK.AllK
import Wide.FinOn
import HandS.ForMost
import HandS.IsInst
import HandS.WideBits
import HandS.Style
import HandS.SortInts
import HandS.EndTab
import HandS.NoneIn
import HandS.Walk
import PyProof.LongRange
import HandS.Gcd
import HandS.Conv
import HandS.More
import HandS.SetFor
import PySem.Challenge.RW_farwrap_k19_overflow_of_values_and_pairs
set_option Elab.async false
set_option linter.all false
set_option maxRecDepth 100000
set_option maxHeartbeats 4000000
namespace Fw
open PySem L2
def rIntC : List V → Hp → VK → Prop := fun xs H Q => (∃ i, xs = [.int i] ∧ Q (.int i) H) ∨ ∃ k, xs = [.bl k] ∧ Q (.int (if k then 1 else 0)) H
def ab (x : Int) : Int := if x < 0 then -x else x
def rIsNn : R2 := fun x y H Q => y = .non ∧ Q (.bl (decide (x = .non))) H
def rAbsC : List V → Hp → VK → Prop := fun xs H Q => ∃ i, xs = [.int i] ∧ Q (.int (if i < 0 then -i else i)) H
def rLenS (K : PySem.W.Frag) : List V → Hp → VK → Prop := fun xs H Q => ∃ p ys, xs = [.ref p] ∧ (SqL K H p ys ∨ SqT K H p ys) ∧ Q (.int ys.length) H
section
variable {X : Cx} {CX : CXT} {k : Nat} {f : Addr} {fd : FuncData} {ps ks : List Str} {sp : Sp} {E : XK} {x : Str} {p pos : Pos} {kws : List Keyword} {tk : TA} {g : List Value → List Value → List Value} {gV : List V → List V → List V}
/-- f(k = v, ..), no positional argument -/
theorem pe_callK0 (F : FnOk X.prog X.w X.K X.mg X.base CX k f fd ps sp) (hr : Room k X.A) (hg : Gl X x) (hm : X.mg x = some (.ref f)) (hk : PySem.W.keepIn X.K (.ref f) = true) (hb : KBinds X.K fd ps ks g gV) (hx : Passes CX X E)
    (hkw : PK X kws tk) (hall : (backToKw pos (keywordEach kws X.env)).all (·.1.isSome) = true := by rfl) (hks : (backToKw pos (keywordEach kws X.env)).filterMap (·.1) = ks := by rfl)
    (hdb : (x == ("__debug__" : Str)) = false := by decide)
    (hpl : ((backTo pos (starEach [] X.env)).any (·.1) || (backToKw pos (keywordEach kws X.env)).any (·.1.isNone)) = false := by rfl) :
    PE X (.Call (.Name x p) [] kws pos) (tCallK sp gV E tNil tk) := by
  refine ⟨fun pins s σ H Q I h => ?_⟩
  refine wpAny_Call_Name_kw (ld_glob I hg hm ?_ hdb)
  refine PySem.W.callWith_KW0 (h₀ := X.base) I.ok.mod.kin hk hall ?_ hpl
  have q : tk σ H fun zs H2 => sp (gV [] zs) H2 Q E := h
  refine thn (hkw.run pos pins s σ H _ I q) fun ws s2 ⟨zs, H2, I2, rz, q2⟩ => ⟨I2.kIn, ?_⟩
  rw [hks]
  exact run_fnk F hr hb hx I2 .nil rz q2
end

section
variable {K : PySem.W.Frag} {C : Addr} {σ : L2.St} {H : Hp} {Q : VK} {D : Ends} {ta tb tc te : TE} {tt tu : TT} {r : R2}
theorem w_c {v : V} (q : Q v H) : tC v σ H Q := q
theorem w_var {i : Nat} {v : V} (h : σ[i]? = some (some v)) (q : Q v H) : tVar i σ H Q := ⟨v, h, q⟩
theorem w_v0 {v : V} {r : L2.St} (q : Q v H) : tVar 0 (some v :: r) H Q := ⟨v, rfl, q⟩
theorem w_n0 {y : Option V} {v : V} {r : L2.St} {Q : L2.St → Hp → Prop} (q : Q (some v :: r) H) : gName 0 v (y :: r) H Q := q
theorem w_v1 {x0 : Option V} {v : V} {r : L2.St} (q : Q v H) : tVar 1 (x0 :: some v :: r) H Q := ⟨v, rfl, q⟩
theorem w_n1 {x0 : Option V} {y : Option V} {v : V} {r : L2.St} {Q : L2.St → Hp → Prop} (q : Q (x0 :: some v :: r) H) : gName 1 v (x0 :: y :: r) H Q := q
theorem w_v2 {x0 x1 : Option V} {v : V} {r : L2.St} (q : Q v H) : tVar 2 (x0 :: x1 :: some v :: r) H Q := ⟨v, rfl, q⟩
theorem w_n2 {x0 x1 : Option V} {y : Option V} {v : V} {r : L2.St} {Q : L2.St → Hp → Prop} (q : Q (x0 :: x1 :: some v :: r) H) : gName 2 v (x0 :: x1 :: y :: r) H Q := q
theorem w_v3 {x0 x1 x2 : Option V} {v : V} {r : L2.St} (q : Q v H) : tVar 3 (x0 :: x1 :: x2 :: some v :: r) H Q := ⟨v, rfl, q⟩
theorem w_n3 {x0 x1 x2 : Option V} {y : Option V} {v : V} {r : L2.St} {Q : L2.St → Hp → Prop} (q : Q (x0 :: x1 :: x2 :: some v :: r) H) : gName 3 v (x0 :: x1 :: x2 :: y :: r) H Q := q
theorem w_v4 {x0 x1 x2 x3 : Option V} {v : V} {r : L2.St} (q : Q v H) : tVar 4 (x0 :: x1 :: x2 :: x3 :: some v :: r) H Q := ⟨v, rfl, q⟩
theorem w_n4 {x0 x1 x2 x3 : Option V} {y : Option V} {v : V} {r : L2.St} {Q : L2.St → Hp → Prop} (q : Q (x0 :: x1 :: x2 :: x3 :: some v :: r) H) : gName 4 v (x0 :: x1 :: x2 :: x3 :: y :: r) H Q := q
theorem w_v5 {x0 x1 x2 x3 x4 : Option V} {v : V} {r : L2.St} (q : Q v H) : tVar 5 (x0 :: x1 :: x2 :: x3 :: x4 :: some v :: r) H Q := ⟨v, rfl, q⟩
theorem w_n5 {x0 x1 x2 x3 x4 : Option V} {y : Option V} {v : V} {r : L2.St} {Q : L2.St → Hp → Prop} (q : Q (x0 :: x1 :: x2 :: x3 :: x4 :: some v :: r) H) : gName 5 v (x0 :: x1 :: x2 :: x3 :: x4 :: y :: r) H Q := q
theorem w_v6 {x0 x1 x2 x3 x4 x5 : Option V} {v : V} {r : L2.St} (q : Q v H) : tVar 6 (x0 :: x1 :: x2 :: x3 :: x4 :: x5 :: some v :: r) H Q := ⟨v, rfl, q⟩
theorem w_n6 {x0 x1 x2 x3 x4 x5 : Option V} {y : Option V} {v : V} {r : L2.St} {Q : L2.St → Hp → Prop} (q : Q (x0 :: x1 :: x2 :: x3 :: x4 :: x5 :: some v :: r) H) : gName 6 v (x0 :: x1 :: x2 :: x3 :: x4 :: x5 :: y :: r) H Q := q
theorem w_v7 {x0 x1 x2 x3 x4 x5 x6 : Option V} {v : V} {r : L2.St} (q : Q v H) : tVar 7 (x0 :: x1 :: x2 :: x3 :: x4 :: x5 :: x6 :: some v :: r) H Q := ⟨v, rfl, q⟩
theorem w_n7 {x0 x1 x2 x3 x4 x5 x6 : Option V} {y : Option V} {v : V} {r : L2.St} {Q : L2.St → Hp → Prop} (q : Q (x0 :: x1 :: x2 :: x3 :: x4 :: x5 :: x6 :: some v :: r) H) : gName 7 v (x0 :: x1 :: x2 :: x3 :: x4 :: x5 :: x6 :: y :: r) H Q := q
theorem w_v8 {x0 x1 x2 x3 x4 x5 x6 x7 : Option V} {v : V} {r : L2.St} (q : Q v H) : tVar 8 (x0 :: x1 :: x2 :: x3 :: x4 :: x5 :: x6 :: x7 :: some v :: r) H Q := ⟨v, rfl, q⟩
theorem w_n8 {x0 x1 x2 x3 x4 x5 x6 x7 : Option V} {y : Option V} {v : V} {r : L2.St} {Q : L2.St → Hp → Prop} (q : Q (x0 :: x1 :: x2 :: x3 :: x4 :: x5 :: x6 :: x7 :: some v :: r) H) : gName 8 v (x0 :: x1 :: x2 :: x3 :: x4 :: x5 :: x6 :: x7 :: y :: r) H Q := q
theorem w_v9 {x0 x1 x2 x3 x4 x5 x6 x7 x8 : Option V} {v : V} {r : L2.St} (q : Q v H) : tVar 9 (x0 :: x1 :: x2 :: x3 :: x4 :: x5 :: x6 :: x7 :: x8 :: some v :: r) H Q := ⟨v, rfl, q⟩
theorem w_n9 {x0 x1 x2 x3 x4 x5 x6 x7 x8 : Option V} {y : Option V} {v : V} {r : L2.St} {Q : L2.St → Hp → Prop} (q : Q (x0 :: x1 :: x2 :: x3 :: x4 :: x5 :: x6 :: x7 :: x8 :: some v :: r) H) : gName 9 v (x0 :: x1 :: x2 :: x3 :: x4 :: x5 :: x6 :: x7 :: x8 :: y :: r) H Q := q
theorem w_v10 {x0 x1 x2 x3 x4 x5 x6 x7 x8 x9 : Option V} {v : V} {r : L2.St} (q : Q v H) : tVar 10 (x0 :: x1 :: x2 :: x3 :: x4 :: x5 :: x6 :: x7 :: x8 :: x9 :: some v :: r) H Q := ⟨v, rfl, q⟩
theorem w_n10 {x0 x1 x2 x3 x4 x5 x6 x7 x8 x9 : Option V} {y : Option V} {v : V} {r : L2.St} {Q : L2.St → Hp → Prop} (q : Q (x0 :: x1 :: x2 :: x3 :: x4 :: x5 :: x6 :: x7 :: x8 :: x9 :: some v :: r) H) : gName 10 v (x0 :: x1 :: x2 :: x3 :: x4 :: x5 :: x6 :: x7 :: x8 :: x9 :: y :: r) H Q := q
theorem w_v11 {x0 x1 x2 x3 x4 x5 x6 x7 x8 x9 x10 : Option V} {v : V} {r : L2.St} (q : Q v H) : tVar 11 (x0 :: x1 :: x2 :: x3 :: x4 :: x5 :: x6 :: x7 :: x8 :: x9 :: x10 :: some v :: r) H Q := ⟨v, rfl, q⟩
theorem w_n11 {x0 x1 x2 x3 x4 x5 x6 x7 x8 x9 x10 : Option V} {y : Option V} {v : V} {r : L2.St} {Q : L2.St → Hp → Prop} (q : Q (x0 :: x1 :: x2 :: x3 :: x4 :: x5 :: x6 :: x7 :: x8 :: x9 :: x10 :: some v :: r) H) : gName 11 v (x0 :: x1 :: x2 :: x3 :: x4 :: x5 :: x6 :: x7 :: x8 :: x9 :: x10 :: y :: r) H Q := q
theorem w_v12 {x0 x1 x2 x3 x4 x5 x6 x7 x8 x9 x10 x11 : Option V} {v : V} {r : L2.St} (q : Q v H) : tVar 12 (x0 :: x1 :: x2 :: x3 :: x4 :: x5 :: x6 :: x7 :: x8 :: x9 :: x10 :: x11 :: some v :: r) H Q := ⟨v, rfl, q⟩
theorem w_n12 {x0 x1 x2 x3 x4 x5 x6 x7 x8 x9 x10 x11 : Option V} {y : Option V} {v : V} {r : L2.St} {Q : L2.St → Hp → Prop} (q : Q (x0 :: x1 :: x2 :: x3 :: x4 :: x5 :: x6 :: x7 :: x8 :: x9 :: x10 :: x11 :: some v :: r) H) : gName 12 v (x0 :: x1 :: x2 :: x3 :: x4 :: x5 :: x6 :: x7 :: x8 :: x9 :: x10 :: x11 :: y :: r) H Q := q
theorem w_v13 {x0 x1 x2 x3 x4 x5 x6 x7 x8 x9 x10 x11 x12 : Option V} {v : V} {r : L2.St} (q : Q v H) : tVar 13 (x0 :: x1 :: x2 :: x3 :: x4 :: x5 :: x6 :: x7 :: x8 :: x9 :: x10 :: x11 :: x12 :: some v :: r) H Q := ⟨v, rfl, q⟩
theorem w_n13 {x0 x1 x2 x3 x4 x5 x6 x7 x8 x9 x10 x11 x12 : Option V} {y : Option V} {v : V} {r : L2.St} {Q : L2.St → Hp → Prop} (q : Q (x0 :: x1 :: x2 :: x3 :: x4 :: x5 :: x6 :: x7 :: x8 :: x9 :: x10 :: x11 :: x12 :: some v :: r) H) : gName 13 v (x0 :: x1 :: x2 :: x3 :: x4 :: x5 :: x6 :: x7 :: x8 :: x9 :: x10 :: x11 :: x12 :: y :: r) H Q := q
theorem w_v14 {x0 x1 x2 x3 x4 x5 x6 x7 x8 x9 x10 x11 x12 x13 : Option V} {v : V} {r : L2.St} (q : Q v H) : tVar 14 (x0 :: x1 :: x2 :: x3 :: x4 :: x5 :: x6 :: x7 :: x8 :: x9 :: x10 :: x11 :: x12 :: x13 :: some v :: r) H Q := ⟨v, rfl, q⟩
theorem w_n14 {x0 x1 x2 x3 x4 x5 x6 x7 x8 x9 x10 x11 x12 x13 : Option V} {y : Option V} {v : V} {r : L2.St} {Q : L2.St → Hp → Prop} (q : Q (x0 :: x1 :: x2 :: x3 :: x4 :: x5 :: x6 :: x7 :: x8 :: x9 :: x10 :: x11 :: x12 :: x13 :: some v :: r) H) : gName 14 v (x0 :: x1 :: x2 :: x3 :: x4 :: x5 :: x6 :: x7 :: x8 :: x9 :: x10 :: x11 :: x12 :: x13 :: y :: r) H Q := q
theorem w_v15 {x0 x1 x2 x3 x4 x5 x6 x7 x8 x9 x10 x11 x12 x13 x14 : Option V} {v : V} {r : L2.St} (q : Q v H) : tVar 15 (x0 :: x1 :: x2 :: x3 :: x4 :: x5 :: x6 :: x7 :: x8 :: x9 :: x10 :: x11 :: x12 :: x13 :: x14 :: some v :: r) H Q := ⟨v, rfl, q⟩
theorem w_n15 {x0 x1 x2 x3 x4 x5 x6 x7 x8 x9 x10 x11 x12 x13 x14 : Option V} {y : Option V} {v : V} {r : L2.St} {Q : L2.St → Hp → Prop} (q : Q (x0 :: x1 :: x2 :: x3 :: x4 :: x5 :: x6 :: x7 :: x8 :: x9 :: x10 :: x11 :: x12 :: x13 :: x14 :: some v :: r) H) : gName 15 v (x0 :: x1 :: x2 :: x3 :: x4 :: x5 :: x6 :: x7 :: x8 :: x9 :: x10 :: x11 :: x12 :: x13 :: x14 :: y :: r) H Q := q
theorem w_v16 {x0 x1 x2 x3 x4 x5 x6 x7 x8 x9 x10 x11 x12 x13 x14 x15 : Option V} {v : V} {r : L2.St} (q : Q v H) : tVar 16 (x0 :: x1 :: x2 :: x3 :: x4 :: x5 :: x6 :: x7 :: x8 :: x9 :: x10 :: x11 :: x12 :: x13 :: x14 :: x15 :: some v :: r) H Q := ⟨v, rfl, q⟩
theorem w_n16 {x0 x1 x2 x3 x4 x5 x6 x7 x8 x9 x10 x11 x12 x13 x14 x15 : Option V} {y : Option V} {v : V} {r : L2.St} {Q : L2.St → Hp → Prop} (q : Q (x0 :: x1 :: x2 :: x3 :: x4 :: x5 :: x6 :: x7 :: x8 :: x9 :: x10 :: x11 :: x12 :: x13 :: x14 :: x15 :: some v :: r) H) : gName 16 v (x0 :: x1 :: x2 :: x3 :: x4 :: x5 :: x6 :: x7 :: x8 :: x9 :: x10 :: x11 :: x12 :: x13 :: x14 :: x15 :: y :: r) H Q := q
theorem w_v17 {x0 x1 x2 x3 x4 x5 x6 x7 x8 x9 x10 x11 x12 x13 x14 x15 x16 : Option V} {v : V} {r : L2.St} (q : Q v H) : tVar 17 (x0 :: x1 :: x2 :: x3 :: x4 :: x5 :: x6 :: x7 :: x8 :: x9 :: x10 :: x11 :: x12 :: x13 :: x14 :: x15 :: x16 :: some v :: r) H Q := ⟨v, rfl, q⟩
theorem w_n17 {x0 x1 x2 x3 x4 x5 x6 x7 x8 x9 x10 x11 x12 x13 x14 x15 x16 : Option V} {y : Option V} {v : V} {r : L2.St} {Q : L2.St → Hp → Prop} (q : Q (x0 :: x1 :: x2 :: x3 :: x4 :: x5 :: x6 :: x7 :: x8 :: x9 :: x10 :: x11 :: x12 :: x13 :: x14 :: x15 :: x16 :: some v :: r) H) : gName 17 v (x0 :: x1 :: x2 :: x3 :: x4 :: x5 :: x6 :: x7 :: x8 :: x9 :: x10 :: x11 :: x12 :: x13 :: x14 :: x15 :: x16 :: y :: r) H Q := q
theorem w_v18 {x0 x1 x2 x3 x4 x5 x6 x7 x8 x9 x10 x11 x12 x13 x14 x15 x16 x17 : Option V} {v : V} {r : L2.St} (q : Q v H) : tVar 18 (x0 :: x1 :: x2 :: x3 :: x4 :: x5 :: x6 :: x7 :: x8 :: x9 :: x10 :: x11 :: x12 :: x13 :: x14 :: x15 :: x16 :: x17 :: some v :: r) H Q := ⟨v, rfl, q⟩
theorem w_n18 {x0 x1 x2 x3 x4 x5 x6 x7 x8 x9 x10 x11 x12 x13 x14 x15 x16 x17 : Option V} {y : Option V} {v : V} {r : L2.St} {Q : L2.St → Hp → Prop} (q : Q (x0 :: x1 :: x2 :: x3 :: x4 :: x5 :: x6 :: x7 :: x8 :: x9 :: x10 :: x11 :: x12 :: x13 :: x14 :: x15 :: x16 :: x17 :: some v :: r) H) : gName 18 v (x0 :: x1 :: x2 :: x3 :: x4 :: x5 :: x6 :: x7 :: x8 :: x9 :: x10 :: x11 :: x12 :: x13 :: x14 :: x15 :: x16 :: x17 :: y :: r) H Q := q
theorem w_v19 {x0 x1 x2 x3 x4 x5 x6 x7 x8 x9 x10 x11 x12 x13 x14 x15 x16 x17 x18 : Option V} {v : V} {r : L2.St} (q : Q v H) : tVar 19 (x0 :: x1 :: x2 :: x3 :: x4 :: x5 :: x6 :: x7 :: x8 :: x9 :: x10 :: x11 :: x12 :: x13 :: x14 :: x15 :: x16 :: x17 :: x18 :: some v :: r) H Q := ⟨v, rfl, q⟩
theorem w_n19 {x0 x1 x2 x3 x4 x5 x6 x7 x8 x9 x10 x11 x12 x13 x14 x15 x16 x17 x18 : Option V} {y : Option V} {v : V} {r : L2.St} {Q : L2.St → Hp → Prop} (q : Q (x0 :: x1 :: x2 :: x3 :: x4 :: x5 :: x6 :: x7 :: x8 :: x9 :: x10 :: x11 :: x12 :: x13 :: x14 :: x15 :: x16 :: x17 :: x18 :: some v :: r) H) : gName 19 v (x0 :: x1 :: x2 :: x3 :: x4 :: x5 :: x6 :: x7 :: x8 :: x9 :: x10 :: x11 :: x12 :: x13 :: x14 :: x15 :: x16 :: x17 :: x18 :: y :: r) H Q := q
theorem w_v20 {x0 x1 x2 x3 x4 x5 x6 x7 x8 x9 x10 x11 x12 x13 x14 x15 x16 x17 x18 x19 : Option V} {v : V} {r : L2.St} (q : Q v H) : tVar 20 (x0 :: x1 :: x2 :: x3 :: x4 :: x5 :: x6 :: x7 :: x8 :: x9 :: x10 :: x11 :: x12 :: x13 :: x14 :: x15 :: x16 :: x17 :: x18 :: x19 :: some v :: r) H Q := ⟨v, rfl, q⟩
theorem w_n20 {x0 x1 x2 x3 x4 x5 x6 x7 x8 x9 x10 x11 x12 x13 x14 x15 x16 x17 x18 x19 : Option V} {y : Option V} {v : V} {r : L2.St} {Q : L2.St → Hp → Prop} (q : Q (x0 :: x1 :: x2 :: x3 :: x4 :: x5 :: x6 :: x7 :: x8 :: x9 :: x10 :: x11 :: x12 :: x13 :: x14 :: x15 :: x16 :: x17 :: x18 :: x19 :: some v :: r) H) : gName 20 v (x0 :: x1 :: x2 :: x3 :: x4 :: x5 :: x6 :: x7 :: x8 :: x9 :: x10 :: x11 :: x12 :: x13 :: x14 :: x15 :: x16 :: x17 :: x18 :: x19 :: y :: r) H Q := q
theorem w_v21 {x0 x1 x2 x3 x4 x5 x6 x7 x8 x9 x10 x11 x12 x13 x14 x15 x16 x17 x18 x19 x20 : Option V} {v : V} {r : L2.St} (q : Q v H) : tVar 21 (x0 :: x1 :: x2 :: x3 :: x4 :: x5 :: x6 :: x7 :: x8 :: x9 :: x10 :: x11 :: x12 :: x13 :: x14 :: x15 :: x16 :: x17 :: x18 :: x19 :: x20 :: some v :: r) H Q := ⟨v, rfl, q⟩
theorem w_n21 {x0 x1 x2 x3 x4 x5 x6 x7 x8 x9 x10 x11 x12 x13 x14 x15 x16 x17 x18 x19 x20 : Option V} {y : Option V} {v : V} {r : L2.St} {Q : L2.St → Hp → Prop} (q : Q (x0 :: x1 :: x2 :: x3 :: x4 :: x5 :: x6 :: x7 :: x8 :: x9 :: x10 :: x11 :: x12 :: x13 :: x14 :: x15 :: x16 :: x17 :: x18 :: x19 :: x20 :: some v :: r) H) : gName 21 v (x0 :: x1 :: x2 :: x3 :: x4 :: x5 :: x6 :: x7 :: x8 :: x9 :: x10 :: x11 :: x12 :: x13 :: x14 :: x15 :: x16 :: x17 :: x18 :: x19 :: x20 :: y :: r) H Q := q
theorem w_v22 {x0 x1 x2 x3 x4 x5 x6 x7 x8 x9 x10 x11 x12 x13 x14 x15 x16 x17 x18 x19 x20 x21 : Option V} {v : V} {r : L2.St} (q : Q v H) : tVar 22 (x0 :: x1 :: x2 :: x3 :: x4 :: x5 :: x6 :: x7 :: x8 :: x9 :: x10 :: x11 :: x12 :: x13 :: x14 :: x15 :: x16 :: x17 :: x18 :: x19 :: x20 :: x21 :: some v :: r) H Q := ⟨v, rfl, q⟩
theorem w_n22 {x0 x1 x2 x3 x4 x5 x6 x7 x8 x9 x10 x11 x12 x13 x14 x15 x16 x17 x18 x19 x20 x21 : Option V} {y : Option V} {v : V} {r : L2.St} {Q : L2.St → Hp → Prop} (q : Q (x0 :: x1 :: x2 :: x3 :: x4 :: x5 :: x6 :: x7 :: x8 :: x9 :: x10 :: x11 :: x12 :: x13 :: x14 :: x15 :: x16 :: x17 :: x18 :: x19 :: x20 :: x21 :: some v :: r) H) : gName 22 v (x0 :: x1 :: x2 :: x3 :: x4 :: x5 :: x6 :: x7 :: x8 :: x9 :: x10 :: x11 :: x12 :: x13 :: x14 :: x15 :: x16 :: x17 :: x18 :: x19 :: x20 :: x21 :: y :: r) H Q := q
theorem w_v23 {x0 x1 x2 x3 x4 x5 x6 x7 x8 x9 x10 x11 x12 x13 x14 x15 x16 x17 x18 x19 x20 x21 x22 : Option V} {v : V} {r : L2.St} (q : Q v H) : tVar 23 (x0 :: x1 :: x2 :: x3 :: x4 :: x5 :: x6 :: x7 :: x8 :: x9 :: x10 :: x11 :: x12 :: x13 :: x14 :: x15 :: x16 :: x17 :: x18 :: x19 :: x20 :: x21 :: x22 :: some v :: r) H Q := ⟨v, rfl, q⟩
theorem w_n23 {x0 x1 x2 x3 x4 x5 x6 x7 x8 x9 x10 x11 x12 x13 x14 x15 x16 x17 x18 x19 x20 x21 x22 : Option V} {y : Option V} {v : V} {r : L2.St} {Q : L2.St → Hp → Prop} (q : Q (x0 :: x1 :: x2 :: x3 :: x4 :: x5 :: x6 :: x7 :: x8 :: x9 :: x10 :: x11 :: x12 :: x13 :: x14 :: x15 :: x16 :: x17 :: x18 :: x19 :: x20 :: x21 :: x22 :: some v :: r) H) : gName 23 v (x0 :: x1 :: x2 :: x3 :: x4 :: x5 :: x6 :: x7 :: x8 :: x9 :: x10 :: x11 :: x12 :: x13 :: x14 :: x15 :: x16 :: x17 :: x18 :: x19 :: x20 :: x21 :: x22 :: y :: r) H Q := q
theorem w_v24 {x0 x1 x2 x3 x4 x5 x6 x7 x8 x9 x10 x11 x12 x13 x14 x15 x16 x17 x18 x19 x20 x21 x22 x23 : Option V} {v : V} {r : L2.St} (q : Q v H) : tVar 24 (x0 :: x1 :: x2 :: x3 :: x4 :: x5 :: x6 :: x7 :: x8 :: x9 :: x10 :: x11 :: x12 :: x13 :: x14 :: x15 :: x16 :: x17 :: x18 :: x19 :: x20 :: x21 :: x22 :: x23 :: some v :: r) H Q := ⟨v, rfl, q⟩
theorem w_n24 {x0 x1 x2 x3 x4 x5 x6 x7 x8 x9 x10 x11 x12 x13 x14 x15 x16 x17 x18 x19 x20 x21 x22 x23 : Option V} {y : Option V} {v : V} {r : L2.St} {Q : L2.St → Hp → Prop} (q : Q (x0 :: x1 :: x2 :: x3 :: x4 :: x5 :: x6 :: x7 :: x8 :: x9 :: x10 :: x11 :: x12 :: x13 :: x14 :: x15 :: x16 :: x17 :: x18 :: x19 :: x20 :: x21 :: x22 :: x23 :: some v :: r) H) : gName 24 v (x0 :: x1 :: x2 :: x3 :: x4 :: x5 :: x6 :: x7 :: x8 :: x9 :: x10 :: x11 :: x12 :: x13 :: x14 :: x15 :: x16 :: x17 :: x18 :: x19 :: x20 :: x21 :: x22 :: x23 :: y :: r) H Q := q
theorem w_v25 {x0 x1 x2 x3 x4 x5 x6 x7 x8 x9 x10 x11 x12 x13 x14 x15 x16 x17 x18 x19 x20 x21 x22 x23 x24 : Option V} {v : V} {r : L2.St} (q : Q v H) : tVar 25 (x0 :: x1 :: x2 :: x3 :: x4 :: x5 :: x6 :: x7 :: x8 :: x9 :: x10 :: x11 :: x12 :: x13 :: x14 :: x15 :: x16 :: x17 :: x18 :: x19 :: x20 :: x21 :: x22 :: x23 :: x24 :: some v :: r) H Q := ⟨v, rfl, q⟩
theorem w_n25 {x0 x1 x2 x3 x4 x5 x6 x7 x8 x9 x10 x11 x12 x13 x14 x15 x16 x17 x18 x19 x20 x21 x22 x23 x24 : Option V} {y : Option V} {v : V} {r : L2.St} {Q : L2.St → Hp → Prop} (q : Q (x0 :: x1 :: x2 :: x3 :: x4 :: x5 :: x6 :: x7 :: x8 :: x9 :: x10 :: x11 :: x12 :: x13 :: x14 :: x15 :: x16 :: x17 :: x18 :: x19 :: x20 :: x21 :: x22 :: x23 :: x24 :: some v :: r) H) : gName 25 v (x0 :: x1 :: x2 :: x3 :: x4 :: x5 :: x6 :: x7 :: x8 :: x9 :: x10 :: x11 :: x12 :: x13 :: x14 :: x15 :: x16 :: x17 :: x18 :: x19 :: x20 :: x21 :: x22 :: x23 :: x24 :: y :: r) H Q := q
theorem w_v26 {x0 x1 x2 x3 x4 x5 x6 x7 x8 x9 x10 x11 x12 x13 x14 x15 x16 x17 x18 x19 x20 x21 x22 x23 x24 x25 : Option V} {v : V} {r : L2.St} (q : Q v H) : tVar 26 (x0 :: x1 :: x2 :: x3 :: x4 :: x5 :: x6 :: x7 :: x8 :: x9 :: x10 :: x11 :: x12 :: x13 :: x14 :: x15 :: x16 :: x17 :: x18 :: x19 :: x20 :: x21 :: x22 :: x23 :: x24 :: x25 :: some v :: r) H Q := ⟨v, rfl, q⟩
theorem w_n26 {x0 x1 x2 x3 x4 x5 x6 x7 x8 x9 x10 x11 x12 x13 x14 x15 x16 x17 x18 x19 x20 x21 x22 x23 x24 x25 : Option V} {y : Option V} {v : V} {r : L2.St} {Q : L2.St → Hp → Prop} (q : Q (x0 :: x1 :: x2 :: x3 :: x4 :: x5 :: x6 :: x7 :: x8 :: x9 :: x10 :: x11 :: x12 :: x13 :: x14 :: x15 :: x16 :: x17 :: x18 :: x19 :: x20 :: x21 :: x22 :: x23 :: x24 :: x25 :: some v :: r) H) : gName 26 v (x0 :: x1 :: x2 :: x3 :: x4 :: x5 :: x6 :: x7 :: x8 :: x9 :: x10 :: x11 :: x12 :: x13 :: x14 :: x15 :: x16 :: x17 :: x18 :: x19 :: x20 :: x21 :: x22 :: x23 :: x24 :: x25 :: y :: r) H Q := q
theorem w_v27 {x0 x1 x2 x3 x4 x5 x6 x7 x8 x9 x10 x11 x12 x13 x14 x15 x16 x17 x18 x19 x20 x21 x22 x23 x24 x25 x26 : Option V} {v : V} {r : L2.St} (q : Q v H) : tVar 27 (x0 :: x1 :: x2 :: x3 :: x4 :: x5 :: x6 :: x7 :: x8 :: x9 :: x10 :: x11 :: x12 :: x13 :: x14 :: x15 :: x16 :: x17 :: x18 :: x19 :: x20 :: x21 :: x22 :: x23 :: x24 :: x25 :: x26 :: some v :: r) H Q := ⟨v, rfl, q⟩
theorem w_n27 {x0 x1 x2 x3 x4 x5 x6 x7 x8 x9 x10 x11 x12 x13 x14 x15 x16 x17 x18 x19 x20 x21 x22 x23 x24 x25 x26 : Option V} {y : Option V} {v : V} {r : L2.St} {Q : L2.St → Hp → Prop} (q : Q (x0 :: x1 :: x2 :: x3 :: x4 :: x5 :: x6 :: x7 :: x8 :: x9 :: x10 :: x11 :: x12 :: x13 :: x14 :: x15 :: x16 :: x17 :: x18 :: x19 :: x20 :: x21 :: x22 :: x23 :: x24 :: x25 :: x26 :: some v :: r) H) : gName 27 v (x0 :: x1 :: x2 :: x3 :: x4 :: x5 :: x6 :: x7 :: x8 :: x9 :: x10 :: x11 :: x12 :: x13 :: x14 :: x15 :: x16 :: x17 :: x18 :: x19 :: x20 :: x21 :: x22 :: x23 :: x24 :: x25 :: x26 :: y :: r) H Q := q
theorem w_v28 {x0 x1 x2 x3 x4 x5 x6 x7 x8 x9 x10 x11 x12 x13 x14 x15 x16 x17 x18 x19 x20 x21 x22 x23 x24 x25 x26 x27 : Option V} {v : V} {r : L2.St} (q : Q v H) : tVar 28 (x0 :: x1 :: x2 :: x3 :: x4 :: x5 :: x6 :: x7 :: x8 :: x9 :: x10 :: x11 :: x12 :: x13 :: x14 :: x15 :: x16 :: x17 :: x18 :: x19 :: x20 :: x21 :: x22 :: x23 :: x24 :: x25 :: x26 :: x27 :: some v :: r) H Q := ⟨v, rfl, q⟩
theorem w_n28 {x0 x1 x2 x3 x4 x5 x6 x7 x8 x9 x10 x11 x12 x13 x14 x15 x16 x17 x18 x19 x20 x21 x22 x23 x24 x25 x26 x27 : Option V} {y : Option V} {v : V} {r : L2.St} {Q : L2.St → Hp → Prop} (q : Q (x0 :: x1 :: x2 :: x3 :: x4 :: x5 :: x6 :: x7 :: x8 :: x9 :: x10 :: x11 :: x12 :: x13 :: x14 :: x15 :: x16 :: x17 :: x18 :: x19 :: x20 :: x21 :: x22 :: x23 :: x24 :: x25 :: x26 :: x27 :: some v :: r) H) : gName 28 v (x0 :: x1 :: x2 :: x3 :: x4 :: x5 :: x6 :: x7 :: x8 :: x9 :: x10 :: x11 :: x12 :: x13 :: x14 :: x15 :: x16 :: x17 :: x18 :: x19 :: x20 :: x21 :: x22 :: x23 :: x24 :: x25 :: x26 :: x27 :: y :: r) H Q := q
theorem w_v29 {x0 x1 x2 x3 x4 x5 x6 x7 x8 x9 x10 x11 x12 x13 x14 x15 x16 x17 x18 x19 x20 x21 x22 x23 x24 x25 x26 x27 x28 : Option V} {v : V} {r : L2.St} (q : Q v H) : tVar 29 (x0 :: x1 :: x2 :: x3 :: x4 :: x5 :: x6 :: x7 :: x8 :: x9 :: x10 :: x11 :: x12 :: x13 :: x14 :: x15 :: x16 :: x17 :: x18 :: x19 :: x20 :: x21 :: x22 :: x23 :: x24 :: x25 :: x26 :: x27 :: x28 :: some v :: r) H Q := ⟨v, rfl, q⟩
theorem w_n29 {x0 x1 x2 x3 x4 x5 x6 x7 x8 x9 x10 x11 x12 x13 x14 x15 x16 x17 x18 x19 x20 x21 x22 x23 x24 x25 x26 x27 x28 : Option V} {y : Option V} {v : V} {r : L2.St} {Q : L2.St → Hp → Prop} (q : Q (x0 :: x1 :: x2 :: x3 :: x4 :: x5 :: x6 :: x7 :: x8 :: x9 :: x10 :: x11 :: x12 :: x13 :: x14 :: x15 :: x16 :: x17 :: x18 :: x19 :: x20 :: x21 :: x22 :: x23 :: x24 :: x25 :: x26 :: x27 :: x28 :: some v :: r) H) : gName 29 v (x0 :: x1 :: x2 :: x3 :: x4 :: x5 :: x6 :: x7 :: x8 :: x9 :: x10 :: x11 :: x12 :: x13 :: x14 :: x15 :: x16 :: x17 :: x18 :: x19 :: x20 :: x21 :: x22 :: x23 :: x24 :: x25 :: x26 :: x27 :: x28 :: y :: r) H Q := q
theorem w_v30 {x0 x1 x2 x3 x4 x5 x6 x7 x8 x9 x10 x11 x12 x13 x14 x15 x16 x17 x18 x19 x20 x21 x22 x23 x24 x25 x26 x27 x28 x29 : Option V} {v : V} {r : L2.St} (q : Q v H) : tVar 30 (x0 :: x1 :: x2 :: x3 :: x4 :: x5 :: x6 :: x7 :: x8 :: x9 :: x10 :: x11 :: x12 :: x13 :: x14 :: x15 :: x16 :: x17 :: x18 :: x19 :: x20 :: x21 :: x22 :: x23 :: x24 :: x25 :: x26 :: x27 :: x28 :: x29 :: some v :: r) H Q := ⟨v, rfl, q⟩
theorem w_n30 {x0 x1 x2 x3 x4 x5 x6 x7 x8 x9 x10 x11 x12 x13 x14 x15 x16 x17 x18 x19 x20 x21 x22 x23 x24 x25 x26 x27 x28 x29 : Option V} {y : Option V} {v : V} {r : L2.St} {Q : L2.St → Hp → Prop} (q : Q (x0 :: x1 :: x2 :: x3 :: x4 :: x5 :: x6 :: x7 :: x8 :: x9 :: x10 :: x11 :: x12 :: x13 :: x14 :: x15 :: x16 :: x17 :: x18 :: x19 :: x20 :: x21 :: x22 :: x23 :: x24 :: x25 :: x26 :: x27 :: x28 :: x29 :: some v :: r) H) : gName 30 v (x0 :: x1 :: x2 :: x3 :: x4 :: x5 :: x6 :: x7 :: x8 :: x9 :: x10 :: x11 :: x12 :: x13 :: x14 :: x15 :: x16 :: x17 :: x18 :: x19 :: x20 :: x21 :: x22 :: x23 :: x24 :: x25 :: x26 :: x27 :: x28 :: x29 :: y :: r) H Q := q
theorem w_v31 {x0 x1 x2 x3 x4 x5 x6 x7 x8 x9 x10 x11 x12 x13 x14 x15 x16 x17 x18 x19 x20 x21 x22 x23 x24 x25 x26 x27 x28 x29 x30 : Option V} {v : V} {r : L2.St} (q : Q v H) : tVar 31 (x0 :: x1 :: x2 :: x3 :: x4 :: x5 :: x6 :: x7 :: x8 :: x9 :: x10 :: x11 :: x12 :: x13 :: x14 :: x15 :: x16 :: x17 :: x18 :: x19 :: x20 :: x21 :: x22 :: x23 :: x24 :: x25 :: x26 :: x27 :: x28 :: x29 :: x30 :: some v :: r) H Q := ⟨v, rfl, q⟩
theorem w_n31 {x0 x1 x2 x3 x4 x5 x6 x7 x8 x9 x10 x11 x12 x13 x14 x15 x16 x17 x18 x19 x20 x21 x22 x23 x24 x25 x26 x27 x28 x29 x30 : Option V} {y : Option V} {v : V} {r : L2.St} {Q : L2.St → Hp → Prop} (q : Q (x0 :: x1 :: x2 :: x3 :: x4 :: x5 :: x6 :: x7 :: x8 :: x9 :: x10 :: x11 :: x12 :: x13 :: x14 :: x15 :: x16 :: x17 :: x18 :: x19 :: x20 :: x21 :: x22 :: x23 :: x24 :: x25 :: x26 :: x27 :: x28 :: x29 :: x30 :: some v :: r) H) : gName 31 v (x0 :: x1 :: x2 :: x3 :: x4 :: x5 :: x6 :: x7 :: x8 :: x9 :: x10 :: x11 :: x12 :: x13 :: x14 :: x15 :: x16 :: x17 :: x18 :: x19 :: x20 :: x21 :: x22 :: x23 :: x24 :: x25 :: x26 :: x27 :: x28 :: x29 :: x30 :: y :: r) H Q := q
theorem w_op (q : ta σ H fun x H1 => tb σ H1 fun y H2 => r x y H2 Q) : tOp r ta tb σ H Q := q
theorem w_un {r : V → Hp → VK → Prop} (q : ta σ H fun x H1 => r x H1 Q) : tUn r ta σ H Q := q
theorem w_chain {r' : R2} (q : ta σ H fun x H1 => tb σ H1 fun y H2 => r x y H2 fun z H3 => ∃ k, z = .bl k ∧ (if k = true then tc σ H3 fun w' H4 => r' y w' H4 Q else Q (.bl false) H3)) : tChain r r' ta tb tc σ H Q := q
theorem w_I {CC : Int → Int → Prop} {g : Int → Int → V} {i j : Int} (c : CC i j) (q : Q (g i j) H) : rI CC g (.int i) (.int j) H Q := ⟨i, j, rfl, rfl, c, q⟩
theorem w_I0 {g : Int → Int → V} {i j : Int} (q : Q (g i j) H) : rI0 g (.int i) (.int j) H Q := ⟨i, j, rfl, rfl, q⟩
theorem w_U {g : Int → V} {i : Int} (q : Q (g i) H) : rU g (.int i) H Q := ⟨i, rfl, q⟩
theorem w_eqI {i j : Int} (q : Q (.bl (decide (i = j))) H) : rEq (.int i) (.int j) H Q := by
  refine ⟨rfl, ?_⟩
  have e : decide (V.int i = V.int j) = decide (i = j) := by
    by_cases h : i = j
    · rw [h]; simp
    · rw [decide_eq_false h, decide_eq_false (fun z => h (V.int.inj z))]
  rw [e]; exact q
theorem w_neI {i j : Int} (q : Q (.bl (!decide (i = j))) H) : rNe (.int i) (.int j) H Q := by
  refine ⟨rfl, ?_⟩
  have e : decide (V.int i = V.int j) = decide (i = j) := by
    by_cases h : i = j
    · rw [h]; simp
    · rw [decide_eq_false h, decide_eq_false (fun z => h (V.int.inj z))]
  rw [e]; exact q
theorem w_eqB {i j : Bool} (q : Q (.bl (decide (i = j))) H) : rEq (.bl i) (.bl j) H Q := by
  refine ⟨rfl, ?_⟩
  have e : decide (V.bl i = V.bl j) = decide (i = j) := by
    by_cases h : i = j
    · rw [h]; simp
    · rw [decide_eq_false h, decide_eq_false (fun z => h (V.bl.inj z))]
  rw [e]; exact q
theorem w_neB {i j : Bool} (q : Q (.bl (!decide (i = j))) H) : rNe (.bl i) (.bl j) H Q := by
  refine ⟨rfl, ?_⟩
  have e : decide (V.bl i = V.bl j) = decide (i = j) := by
    by_cases h : i = j
    · rw [h]; simp
    · rw [decide_eq_false h, decide_eq_false (fun z => h (V.bl.inj z))]
  rw [e]; exact q
theorem w_eqS {i j : Str} (q : Q (.bl (decide (i = j))) H) : rEq (.str i) (.str j) H Q := by
  refine ⟨rfl, ?_⟩
  have e : decide (V.str i = V.str j) = decide (i = j) := by
    by_cases h : i = j
    · rw [h]; simp
    · rw [decide_eq_false h, decide_eq_false (fun z => h (V.str.inj z))]
  rw [e]; exact q
theorem w_test {Q : Bool → Hp → Prop} (q : te σ H fun x H' => ∃ k, x = .bl k ∧ Q k H') : tTest te σ H Q := q
theorem w_B {Q : Bool → Hp → Prop} (q : te σ H fun x H' => ∃ k, x = .bl k ∧ Q k H') : tB te σ H Q := q
theorem w_exb {b : Bool} {P : Bool → Prop} (q : P b) : ∃ k, V.bl b = .bl k ∧ P k := ⟨b, rfl, q⟩
theorem w_exi {i : Int} {P : Int → Prop} (q : P i) : ∃ k, V.int i = .int k ∧ P k := ⟨i, rfl, q⟩
theorem w_exr {a : Addr} {P : Addr → Prop} (q : P a) : ∃ k, V.ref a = .ref k ∧ P k := ⟨a, rfl, q⟩
theorem w_and {Q : Bool → Hp → Prop} (q : tt σ H fun c H1 => if c = true then tu σ H1 Q else Q false H1) : tAnd tt tu σ H Q := q
theorem w_or {Q : Bool → Hp → Prop} (q : tt σ H fun c H1 => if c = true then Q true H1 else tu σ H1 Q) : tOr tt tu σ H Q := q
theorem w_not {Q : Bool → Hp → Prop} (q : tt σ H fun c H1 => Q (!c) H1) : tNot tt σ H Q := q
theorem w_andV (q : ta σ H fun x H1 => ∃ c, x = .bl c ∧ if c = true then tb σ H1 Q else Q (.bl false) H1) : tAndV ta tb σ H Q := q
theorem w_orV (q : ta σ H fun x H1 => ∃ c, x = .bl c ∧ if c = true then Q (.bl true) H1 else tb σ H1 Q) : tOrV ta tb σ H Q := q
theorem w_notV (q : ta σ H fun x H1 => ∃ c, x = .bl c ∧ Q (.bl (!c)) H1) : tNotV ta σ H Q := q
/-- what evaluates to one value, whatever follows -/
theorem w_val (v : V) (hE : ∀ Q : VK, Q v H → te σ H Q) (q : Q v H) : te σ H Q := hE Q q
theorem w_if (q : tt σ H fun c H1 => if c = true then ta σ H1 Q else tb σ H1 Q) : tIf tt ta tb σ H Q := q
theorem w_nil {Q : List V → Hp → Prop} (q : Q [] H) : tNil σ H Q := q
theorem w_cons {tr : TA} {Q : List V → Hp → Prop} (q : ta σ H fun x H1 => tr σ H1 fun xs H2 => Q (x :: xs) H2) : tCons ta tr σ H Q := q
theorem w_call {sp : Sp} {E : XK} {t : TA} (q : t σ H fun vs H1 => sp (vs ++ []) H1 Q E) : tCall sp [] E t σ H Q := q
theorem w_callK {sp : Sp} {gV : List V → List V → List V} {E : XK} {t tk : TA} (q : t σ H fun vs H1 => tk σ H1 fun zs H2 => sp (gV vs zs) H2 Q E) : tCallK sp gV E t tk σ H Q := q
theorem w_make {sp : Sp} {E : XK} {t : TA} (q : t σ H fun vs H1 => ∀ x dx, H1 x = none → H1 dx = none → dx ≠ x → sp (.ref x :: (vs ++ [])) (upd (upd H1 dx (.own x)) x (.ins C dx [])) (fun v H2 => v = .non ∧ Q (.ref x) H2) E) : tMake C sp [] E t σ H Q := q
theorem w_cb {r : List V → Hp → VK → Prop} {t : TA} (q : t σ H fun vs H1 => r vs H1 Q) : tCB r t σ H Q := q
theorem w_int {i : Int} (q : Q (.int i) H) : rIntC [.int i] H Q := .inl ⟨i, rfl, q⟩
theorem w_intB {i : Bool} (q : Q (.int (if i then 1 else 0)) H) : rIntC [.bl i] H Q := .inr ⟨i, rfl, q⟩
theorem w_isNn (q : Q (.bl true) H) : rIsNn .non .non H Q := ⟨rfl, q⟩
theorem w_isNi {i : Int} (q : Q (.bl false) H) : rIsNn (.int i) .non H Q := ⟨rfl, q⟩
theorem w_abs {i : Int} (q : Q (.int (ab i)) H) : rAbsC [.int i] H Q := ⟨i, rfl, q⟩
theorem w_bits {to : TE} (q : to σ H fun x H1 => ∃ i, x = .int i ∧ Q (.int (Builtin.Int.intBits i : Nat)) H1) : tBits to σ H Q := q
theorem w_ixL {p : Addr} {xs : List V} {i : Int} {v : V} (h : H p = some (.lst xs)) (e : atI xs i = some v) (q : Q v H) : rIxL K (.ref p) (.int i) H Q := ⟨p, xs, i, v, rfl, rfl, SqL.of h, e, q⟩
theorem w_ixT {p : Addr} {xs : List V} {i : Int} {v : V} (h : H p = some (.tup xs)) (e : atI xs i = some v) (q : Q v H) : rIxT K (.ref p) (.int i) H Q := ⟨p, xs, i, v, rfl, rfl, SqT.of h, e, q⟩
theorem w_setL {p : Addr} {xs : List V} {i : Int} {v : V} {j : Nat} {Q : Hp → Prop} (h : H p = some (.lst xs)) (e : ixN xs.length i = some j) (q : Q (upd H p (.lst (xs.set j v)))) : rSetL (.ref p) (.int i) v H Q := ⟨p, xs, i, j, rfl, rfl, h, e, q⟩
theorem w_sl {r : V → Option Int → Option Int → Hp → VK → Prop} {tl th : TO} (q : te σ H fun x H1 => tl σ H1 fun l H2 => th σ H2 fun u H3 => r x l u H3 Q) : L2.tSl r te tl th σ H Q := q
theorem w_part {Q : Option Int → Hp → Prop} (q : te σ H fun x H1 => ∃ i, x = .int i ∧ Q (some i) H1) : tPart te σ H Q := q
theorem w_nopart {Q : Option Int → Hp → Prop} (q : Q none H) : tNoPart σ H Q := q
theorem w_slL {a : Addr} {xs : List V} {lo hi : Option Int} (h : SqL K H a xs) (q : ∀ p, H p = none → Q (.ref p) (upd H p (.lst (cutV xs lo hi)))) : rSlL K (.ref a) lo hi H Q := ⟨a, xs, rfl, h, q⟩
theorem w_lst {t : TA} (q : t σ H fun xs H1 => xs.length ≤ sizeLine ∧ ∀ p, H1 p = none → Q (.ref p) (upd H1 p (.lst xs))) : tLst t σ H Q := q
theorem w_tup {t : TA} (q : t σ H fun xs H1 => xs.length ≤ sizeLine ∧ ∀ p, H1 p = none → Q (.ref p) (upd H1 p (.tup xs))) : tTup t σ H Q := q
theorem w_cat {l b : Addr} {xs zs : List V} (h1 : H l = some (.lst xs)) (h2 : H b = some (.lst zs)) (n : xs.length + zs.length ≤ sizeLine) (q : ∀ p, H p = none → Q (.ref p) (upd H p (.lst (xs ++ zs)))) : rCat (.ref l) (.ref b) H Q := ⟨l, b, xs, zs, rfl, rfl, h1, h2, n, q⟩
theorem w_dnewK (q : ∀ d, H d = none → Q (.ref d) (upd H d (.dK []))) : tDNewK σ H Q := q
theorem w_eqNil {p q : Addr} (hp : H p = some (.lst [])) (hq : H q = some (.lst [])) (k : Q (.bl true) H) : rEqD K (.ref p) (.ref q) H Q := ⟨.list [], .list [], .lst (SqL.of hp) .nil, .lst (SqL.of hq) .nil, by decide, by decide, k⟩
theorem w_wipe1 {g : TG} {v : V} {vs : List Nat} {σ' : L2.St} {Q : L2.St → Hp → Prop} (e : wipe σ vs = σ') (q : g v σ' H Q) : g v (wipe σ vs) H Q := by rw [e]; exact q
theorem w_inT {p : Addr} {x : V} {xs : List V} (h : SqT K H p xs) (f1 : flatV x = true) (f2 : xs.all flatV = true) (q : Q (.bl (inV x xs)) H) : rIn K false x (.ref p) H Q := ⟨p, xs, rfl, .inr h, f1, f2, q⟩
theorem w_meth0 {C : Addr} {m : Str} {sp : Sp} {E : XK} (q : ta σ H fun x H1 => ∃ a dx fs, x = .ref a ∧ H1 a = some (.ins C dx fs) ∧ fs.lookup m = none ∧ sp (x :: ([] ++ [])) H1 Q E) : tMeth C m sp [] E ta tNil σ H Q := q
theorem w_par {i j : Nat} {t : TA} (q : t σ H fun vs H1 => ∃ v w, vs = [v, w] ∧ D.nx ((σ.set i (some v)).set j (some w)) H1) : tPar i j t D σ H := q
theorem w_exvw {a c : V} {P : V → V → Prop} (q : P a c) : ∃ v w, [a, c] = [v, w] ∧ P v w := ⟨a, c, rfl, q⟩
theorem w_while {tc : TT} {tb : TS} (W : Nat → L2.St → Hp → Prop) (m0 : Nat) (h0 : W m0 σ H) (hs : ∀ m σ H, W m σ H → tc σ H fun b H1 => if b = true then ∃ N : L2.St → Hp → Prop, (∀ σ' H', N σ' H' → ∃ m', m' < m ∧ W m' σ' H') ∧ tb { D with nx := N, ct := N, bk := D.nx } σ H1 else D.nx σ H1) : tWhile tc tb D σ H := ⟨W, ⟨m0, h0⟩, hs⟩
theorem w_rep {l : Addr} {k : Int} {xs : List V} (h : H l = some (.lst xs)) (k0 : 0 ≤ k) (k1 : k ≤ 1000) (n : xs.length * k.toNat ≤ sizeLine) (q : ∀ p, H p = none → Q (.ref p) (upd H p (.lst (List.replicate k.toNat xs).flatten))) : rRep (.ref l) (.int k) H Q := ⟨l, k, xs, rfl, rfl, h, by omega, by omega, n, q⟩
theorem w_dget {td ty : TE} (q : td σ H fun x H1 => ty σ H1 fun y H2 => ∃ a v, x = .ref a ∧ DGet H2 a y (some v) ∧ Q v H2) : tDGet td ty σ H Q := q
-- statements
theorem w_next (q : D.nx σ H) : tNext D σ H := q
theorem w_seq {t u : TS} (q : t { D with nx := u D } σ H) : tSeq t u D σ H := q
theorem w_drop (q : te σ H fun _ H1 => D.nx σ H1) : tDrop te D σ H := q
theorem w_ret (q : te σ H D.rt) : tRet te D σ H := q
theorem w_retN (q : D.rt .non H) : tRetN D σ H := q
theorem w_ifS {t u : TS} (q : tt σ H fun b H1 => if b = true then t D σ H1 else u D σ H1) : tIfS tt t u D σ H := q
theorem w_asg {g : TG} (q : te σ H fun x H1 => g x σ H1 D.nx) : tAsg te g D σ H := q
theorem w_name {i : Nat} {v : V} {Q : L2.St → Hp → Prop} (q : Q (σ.set i (some v)) H) : gName i v σ H Q := q
theorem w_gnil {Q : L2.St → Hp → Prop} (q : Q σ H) : gNil [] σ H Q := ⟨rfl, q⟩
theorem w_gcons {t : TG} {u : TGs} {v : V} {r : List V} {Q : L2.St → Hp → Prop} (q : t v σ H fun σ' H' => u r σ' H' Q) : gCons t u (v :: r) σ H Q := ⟨v, r, rfl, q⟩
theorem w_gtup {n : Nat} {t : TGs} {a : Addr} {xs : List V} {Q : L2.St → Hp → Prop} (h : H a = some (.tup xs)) (l : xs.length = n) (q : t xs σ H Q) : gTup K n t (.ref a) σ H Q := ⟨a, xs, rfl, SqT.of h, l, q⟩
theorem w_gsub {to ti : TE} {t : TSet} {v : V} {Q : L2.St → Hp → Prop} (q : to σ H fun o H1 => ti σ H1 fun i H2 => t o i v H2 fun H3 => Q σ H3) : gSub to ti t v σ H Q := q
/-- what a for asks of the thing walked -/
def ForW (g : TG) (tb : TS) (D : Ends) (σ : L2.St) (H1 : Hp) (J : It) : Prop := ∃ W : Nat → Nat → L2.St → Hp → Prop, (∃ m, W 0 m σ H1) ∧ ∀ i m σ H, W i m σ H →
    (J.stop i H ∧ D.nx σ H) ∨ (J.go i H ∧ ∃ N : L2.St → Hp → Prop, (∀ σ' H', N σ' H' → ∃ m', m' < m ∧ W (i + 1) m' σ' H') ∧ ∀ x H', J.yld i H x H' → g x σ H' fun σ2 H2 => tb { D with nx := N, ct := N, bk := D.nx } σ2 H2)
theorem w_for {wi : TI} {g : TG} {tb : TS} (q : wi σ H fun J H1 => ForW g tb D σ H1 J) : tFor wi g tb D σ H := q
def LcW (g : TG) (tt : TT) (te : TE) (vs : List Nat) (σ : L2.St) (Q : VK) (H1 : Hp) (J : It) : Prop := ∀ D, H1 D = none → ∃ W : Nat → Nat → Hp → Prop, (∃ m, W 0 m (upd H1 D (.lst []))) ∧ ∀ i m H, W i m H →
  (J.stop i H ∧ Q (.ref D) H) ∨ (J.go i H ∧ ∃ Nx : Hp → Prop, (∀ H', Nx H' → ∃ m', m' < m ∧ W (i + 1) m' H') ∧ ∀ x H', J.yld i H x H' → g x (wipe σ vs) H' fun σ2 H2 => wipe σ2 vs = wipe σ vs ∧ tt σ2 H2 fun b H3 =>
    if b = true then te σ2 H3 fun y H4 => ∃ acc, H4 D = some (.lst acc) ∧ acc.length < sizeLine ∧ Nx (upd H4 D (.lst (acc ++ [y]))) else Nx H3)
theorem w_lc {wi : TI} {g : TG} {vs : List Nat} (q : wi σ H fun J H1 => LcW g tt te vs σ Q H1 J) : tLc wi g tt te vs σ H Q := q
theorem w_yes {Q : Bool → Hp → Prop} (q : Q true H) : tYes σ H Q := q
theorem w_iList {tl : TE} {R : It → Hp → Prop} (q : tl σ H fun x H1 => ∃ a, x = .ref a ∧ (∃ xs, SqL K H1 a xs) ∧ R (Itl K a) H1) : iList K tl σ H R := q
theorem w_fld {f : Str} (q : ta σ H fun x H1 => ∃ a C dx fs v, x = .ref a ∧ H1 a = some (.ins C dx fs) ∧ Cls K C ∧ NoAttr K C f ∧ fs.lookup f = some v ∧ Q v H1) : tFld K ta f σ H Q := q
theorem w_sfld {tv : TE} {f : Str} (q : tv σ H fun y H1 => ta σ H1 fun x H2 => ∃ a C dx fs, x = .ref a ∧ H2 a = some (.ins C dx fs) ∧ Cls K C ∧ NoAttr K C f ∧ fs.length < 1000 ∧ D.nx σ (upd H2 a (.ins C dx (putF f y fs)))) : sFld K ta tv f D σ H := q
theorem w_len {p : Addr} {ys : List V} (h : H p = some (.lst ys)) (q : Q (.int (ys.length : Int)) H) : rLenS K [.ref p] H Q := ⟨p, ys, rfl, .inl (SqL.of h), q⟩
theorem w_all {p : Addr} {bs : List Bool} (h : H p = some (.lst (bs.map V.bl))) (q : Q (.bl (bs.all id)) H) : rAll K [.ref p] H Q := ⟨p, bs, rfl, SqL.of h, q⟩
theorem w_iRng1 {ta : TA} {R : It → Hp → Prop} (q : ta σ H fun vs H1 => ∃ j : Int, vs = [.int j] ∧ -(2 ^ 62) ≤ j ∧ j < 2 ^ 62 ∧ R (Itr 0 j.toNat) H1) : iRng1 ta σ H R := q
-- tests
theorem w_dec {P A B : Prop} [Decidable P] (h1 : P → A) (h2 : ¬ P → B) : if decide P = true then A else B := by
  by_cases h : P
  · rw [decide_eq_true h, if_pos rfl]; exact h1 h
  · rw [decide_eq_false h, if_neg Bool.false_ne_true]; exact h2 h
theorem w_ndec {P A B : Prop} [Decidable P] (h1 : ¬ P → A) (h2 : P → B) : if (!decide P) = true then A else B := by
  by_cases h : P
  · rw [decide_eq_true h]; exact iteF (h2 h)
  · rw [decide_eq_false h]; exact iteT (h1 h)
theorem w_decT {P A B : Prop} [Decidable P] (h : P) (q : A) : if decide P = true then A else B := by rw [decide_eq_true h, if_pos rfl]; exact q
theorem w_decF {P A B : Prop} [Decidable P] (h : ¬ P) (q : B) : if decide P = true then A else B := by rw [decide_eq_false h, if_neg Bool.false_ne_true]; exact q
theorem w_ndecT {P A B : Prop} [Decidable P] (h : P) (q : B) : if (!decide P) = true then A else B := by rw [decide_eq_true h]; exact iteF q
theorem w_ndecF {P A B : Prop} [Decidable P] (h : ¬ P) (q : A) : if (!decide P) = true then A else B := by rw [decide_eq_false h]; exact iteT q
theorem w_bT {b : Bool} {A B : Prop} (h : b = true) (q : A) : if b = true then A else B := by rw [if_pos h]; exact q
theorem w_bF {b : Bool} {A B : Prop} (h : b = false) (q : B) : if b = true then A else B := by rw [h]; exact iteF q
end

theorem map_get {α : Type} {f : α → V} {l : List α} {i : Nat} {x : V} (h : (l.map f)[i]? = some x) : ∃ z, l[i]? = some z ∧ x = f z := by
  rw [List.getElem?_map] at h
  cases e : l[i]? with
  | none => rw [e] at h; cases h
  | some z => rw [e] at h; exact ⟨z, rfl, (Option.some.inj h).symm⟩
theorem get_lt {α : Type} {l : List α} {i : Nat} {x : α} (h : l[i]? = some x) : i < l.length := (List.getElem?_eq_some_iff.mp h).1
theorem tk_more {α : Type} {l : List α} {i : Nat} {x : α} (h : l[i]? = some x) : l.take (i + 1) = l.take i ++ [x] := by
  rw [List.take_add_one, h]; rfl
/-- a new object leaves the others -/
theorem gn {H : Hp} {l q : Addr} {o u : HO} (h : H l = some o) (hn : H q = none) : (L2.upd H q u) l = some o := by
  rw [upd_ne (ne_of_none h hn)]; exact h
theorem cut_map {α : Type} (f : α → V) (ns : List α) (lo hi : Option Int) : ∃ ms : List α, cutV (ns.map f) lo hi = ms.map f ∧ ms.length ≤ ns.length ∧ ∀ m ∈ ms, m ∈ ns := by
  refine ⟨(ns.drop (HT.sIx (ns.map f).length 0 lo)).take (HT.sIx (ns.map f).length (ns.map f).length hi - HT.sIx (ns.map f).length 0 lo), ?_, ?_, fun m hm => List.mem_of_mem_drop (List.mem_of_mem_take hm)⟩
  · unfold cutV; rw [← List.map_drop, ← List.map_take]
  · rw [List.length_take, List.length_drop]; omega
theorem cut_take {α : Type} (f : α → V) (ns : List α) (n : Nat) : cutV (ns.map f) none (some (n : Int)) = (ns.take n).map f := by
  unfold cutV
  rw [HT.sIx_none, HT.sIx_nat, List.drop_zero, Nat.sub_zero, List.length_map, ← List.map_take]
  congr 1
  by_cases h : n ≤ ns.length
  · rw [Nat.min_eq_left h]
  · rw [Nat.min_eq_right (by omega), List.take_length, List.take_of_length_le (by omega)]
theorem sm_mut {H H' : Hp} {D : Addr} {o : HO} (a : Same H H') (h : H D = none) : Same H (L2.upd H' D o) := fun q u e => by
  rw [upd_ne (ne_of_none e h)]; exact a q u e
theorem cpow {j n : Nat} (h : j ≤ 1000000) (e : (n : Int).natAbs < 2 ^ 64) : CPow (n : Int) (j : Int) := ⟨Int.natCast_nonneg _, by omega, e⟩

/-! match over texts -/
structure PMs (X : Cx) (cs : List MatchCase) (t : V → TS) : Prop where
  run : ∀ (pins : List (Addr × Obj)) (s : Shared) (σ : L2.St) (H : Hp) (D : Ends) (v : V) (u : Value) (first : Bool), Inv X pins σ H s → RelV v u → t v D σ H →
    wpAny (model X.prog X.w) X.A (matchCases cs X.env u first) (SP X pins D) X.xe s
def tCaseS (x : Str) (tb : TS) (tr : V → TS) : V → TS := fun v D σ H => ∃ z, v = .str z ∧ if decide (z = x) = true then tb D σ H else tr v D σ H
def tCaseA (tb : TS) : V → TS := fun _ => tb
def tMatch (te : TE) (t : V → TS) : TS := fun D σ H => te σ H fun v H1 => t v D σ H1
section
variable {X : Cx} {body : List Stmt} {rest : List MatchCase} {tb : TS} {tr : V → TS}
theorem pm_nil : PMs X [] (fun _ => tNext) := ⟨fun pins s σ H D v u first I r q => wpAny_matchCases_nil ⟨σ, H, I, q⟩⟩
theorem pm_any {p : Pos} (hb : PSs X body tb) : PMs X (⟨.MatchAs none none p, none, body⟩ :: rest) (tCaseA tb) := by
  refine ⟨fun pins s σ H D v u first I r q => ?_⟩
  refine wpAny_matchCases_cons (wpAny_matchPattern_Capture ?_)
  exact wpAny_assignInOrder_none (hb.run pins s σ H D I q)
theorem pm_str {x : Str} {j : Nat} {p p2 : Pos} (hb : PSs X body tb) (hr : PMs X rest tr) : PMs X (⟨.MatchValue (.Constant (.str x) j p) p2, none, body⟩ :: rest) (tCaseS x tb tr) := by
  refine ⟨fun pins s σ H D v u first I r q => ?_⟩
  obtain ⟨z, rfl, q⟩ := q
  refine wpAny_matchCases_cons (wpAny_matchPattern_Value ?_)
  refine thn ((pe_str (X := X) (x := x) (j := j) (pos := p)).run pins s σ H (fun y H1 => y = .str x ∧ H1 = H) I ⟨rfl, rfl⟩) fun w s1 ⟨y, H1, I1, r1, e1, e2⟩ => ?_
  subst e1 e2
  refine thn (op_eq (X := X) pins s1 σ H1 (.str z) (.str x) u w (fun y H2 => y = .bl (decide (V.str z = V.str x)) ∧ H2 = H1) I1 r r1 ⟨rfl, rfl, rfl⟩) fun c s2 ⟨y, H2, I2, r2, e1, e2⟩ => ?_
  subst e1 e2
  cases r2
  refine wpAny_truthy_bool ?_
  have e : decide (V.str z = V.str x) = decide (z = x) := by
    by_cases h : z = x
    · rw [h]; simp
    · rw [decide_eq_false h, decide_eq_false (fun k => h (V.str.inj k))]
  rw [e]
  by_cases h : z = x
  · rw [decide_eq_true h, if_pos rfl] at q
    rw [decide_eq_true h]
    exact wpAny_assignInOrder_none (hb.run pins s2 σ H2 D I2 q)
  · rw [decide_eq_false h, if_neg Bool.false_ne_true] at q
    rw [decide_eq_false h]
    exact hr.run pins s2 σ H2 D _ u false I2 r q
theorem ps_match {e : Expr} {te : TE} {cs : List MatchCase} {t : V → TS} {pos : Pos} (he : PE X e te) (hc : PMs X cs t) : PS X (.Match e cs pos) (tMatch te t) := by
  refine ⟨fun pins s σ H D I h => wpAny_Match (thn (he.run pins s σ H _ I h) fun u s1 ⟨v, H1, I1, r1, q1⟩ => ?_)⟩
  exact hc.run pins s1 σ H1 D v u true I1 r1 q1
end
section
variable {σ : L2.St} {H : Hp} {D : Ends} {te : TE} {tb : TS} {tr : V → TS}
theorem w_match {t : V → TS} (q : te σ H fun v H1 => t v D σ H1) : tMatch te t D σ H := q
theorem w_caseA {v : V} (q : tb D σ H) : tCaseA tb v D σ H := q
theorem w_caseS {x z : Str} (q : if decide (z = x) = true then tb D σ H else tr (.str z) D σ H) : tCaseS x tb tr (.str z) D σ H := ⟨z, rfl, q⟩
theorem w_caseT {x : Str} (q : tb D σ H) : tCaseS x tb tr (.str x) D σ H := ⟨x, rfl, by rw [decide_eq_true rfl, if_pos rfl]; exact q⟩
theorem w_caseF {x z : Str} (h : z ≠ x) (q : tr (.str z) D σ H) : tCaseS x tb tr (.str z) D σ H := ⟨z, rfl, by rw [decide_eq_false h, if_neg Bool.false_ne_true]; exact q⟩
end
end Fw
namespace Fw
open PySem PySem.Spec PyProof.Rows L2 LamX
/-! ### lambdas of one parameter, handed to a def as its first argument -/
/-- a later state: what was not tracked at (HD, sD), while stk ran, still stands -/
structure Later (stk : List Env) (HD : Hp) (sD : Shared) (outer : List Env) (H : Hp) (s : Shared) : Prop where
  un : Un (frs stk) [] HD H sD.heap s.heap
  new : ∀ b ∈ frs outer, b ∈ frs stk ∨ sD.heap.objs.size ≤ b
  sz : sD.heap.objs.size ≤ s.heap.objs.size
theorem Later.refl (stk : List Env) (H : Hp) (s : Shared) : Later stk H s stk H s := ⟨Un.refl, fun _ h => .inl h, Nat.le_refl _⟩
theorem Later.trans {k1 k2 k3 : List Env} {H1 H2 H3 : Hp} {s1 s2 s3 : Shared} (a : Later k1 H1 s1 k2 H2 s2) (b : Later k2 H2 s2 k3 H3 s3) : Later k1 H1 s1 k3 H3 s3 := by
  have nf : ∀ c o, s1.heap.get? c = some o → c ∉ frs k1 → c ∉ frs k2 := fun c o e n z => (a.new c z).elim n fun l => Nat.lt_irrefl _ (Nat.lt_of_lt_of_le (Heap.lt_size e) l)
  refine ⟨⟨fun c o q n hc hx => ?_, fun c o q n hc hx => ?_, fun c o q n hx => ?_, fun c o q hx => ?_, fun c xs q => b.un.tups c xs (a.un.tups c xs q), fun c o xs q => b.un.frzs c o xs (a.un.frzs c o xs q), fun c ps q => ?_⟩, fun c hc => ?_, Nat.le_trans a.sz b.sz⟩
  · exact b.un.keep c o (a.un.keep c o q n hc hx) (a.un.free c o q n hx) (nf c o q hc) hx
  · obtain ⟨sl, e1⟩ := a.un.slot c o q n hc hx
    obtain ⟨sl', e2⟩ := b.un.any e1 (a.un.free c o q n hx) hx
    exact ⟨sl', e2⟩
  · obtain ⟨o', e1⟩ := a.un.there c o q hx
    exact b.un.free c o' e1 (a.un.free c o q n hx) hx
  · obtain ⟨o', e1⟩ := a.un.there c o q hx
    exact b.un.there c o' e1 hx
  · obtain ⟨m1, e1⟩ := a.un.tbls c ps q
    obtain ⟨m2, e2⟩ := b.un.tbls c _ e1
    exact ⟨m1 ++ m2, by rw [e2, Array.append_assoc]⟩
  · rcases b.new c hc with z | z
    · exact a.new c z
    · exact .inr (Nat.le_trans a.sz z)
theorem later_of {X : Cx} {pins : List (Addr × Obj)} {σ : L2.St} {H : Hp} {s : Shared} (I : Inv X pins σ H s) (hex : X.ex = []) : Later X.outer X.H_0 X.s_0 X.stack H s := by
  refine ⟨?_, fun b hb => (List.mem_cons.mp (I.stkSub b hb)).elim (fun e => .inr (by rw [e]; exact I.ok.above)) .inl, I.sz⟩
  have u := I.base
  rw [hex] at u
  exact u
/-- what may be called: f, with the promise sp, from level k on -/
abbrev CP := Nat → Addr → Sp → Prop
structure Cal (P : Program) (w : World) (K : PySem.W.Frag) (mg : Str → Option Value) (base : Heap) (stk : List Env) (HD : Hp) (sD : Shared) (k : Nat) (f : Addr) (sp : Sp) : Prop where
  fn : ∀ (outer : List Env) (s : Shared) (H : Hp), Later stk HD sD outer H s → PySem.W.FnAt f s.heap
  run : ∀ (A : Around) (outer : List Env) (s : Shared) (H : Hp) (us : List Value) (vs : List V) (Q : VK), Room k A → Env0 P w K mg base A outer s H → Later stk HD sD outer H s → Vals vs us → sp vs H Q E0 →
    codeAny (model P w) A (.call (.ref f) ⟨us, []⟩) (CR L2.CX0 outer P w H s Q E0) s
section
variable {P : Program} {w : World} {K : PySem.W.Frag} {mg : Str → Option Value} {base : Heap}
theorem Cal.later {k1 k2 : List Env} {H1 H2 : Hp} {s1 s2 : Shared} {k : Nat} {f : Addr} {sp : Sp} (c : Cal P w K mg base k1 H1 s1 k f sp) (l : Later k1 H1 s1 k2 H2 s2) : Cal P w K mg base k2 H2 s2 k f sp :=
  ⟨fun o s H z => c.fn o s H (l.trans z), fun A o s H us vs Q hr e z => c.run A o s H us vs Q hr e (l.trans z)⟩
theorem Cal.imp {stk : List Env} {H1 : Hp} {s1 : Shared} {k k' : Nat} {f : Addr} {sp sp' : Sp} (c : Cal P w K mg base stk H1 s1 k f sp) (hk : k ≤ k') (h : ∀ vs H Q, sp' vs H Q E0 → sp vs H Q E0) : Cal P w K mg base stk H1 s1 k' f sp' :=
  ⟨c.fn, fun A o s H us vs Q hr e z r q => c.run A o s H us vs Q (hr.mono hk) e z r (h _ _ _ q)⟩
/-- a def that may be handed what can be called -/
structure FnOkC (P : Program) (w : World) (K : PySem.W.Frag) (mg : Str → Option Value) (base : Heap) (k : Nat) (f : Addr) (fd : FuncData) (ps : List Str) (spc : CP → Sp) : Prop where
  len : ∀ C vs H Q E, spc C vs H Q E → vs.length = ps.length
  run : ∀ (A : Around) (outer : List Env) (s : Shared) (H : Hp) (args : Args) (us : List Value) (vs : List V) (Q : VK), Room k A → Env0 P w K mg base A outer s H → BindsTo s fd args (ps.zip us) → Vals vs us → spc (Cal P w K mg base outer H s) vs H Q E0 →
    codeAny (model P w) A (.call (.ref f) args) (CR L2.CX0 outer P w H s Q E0) s
theorem okC {x qual : Str} {st : Stmt} {f : Addr} {fd : FuncData} {N ps : List Str} {k : Nat} {spc : CP → Sp} (F : L2.Fun K x qual st f fd) (S : FnScope N ps (defScope st)) (len : ∀ C vs H Q E, spc C vs H Q E → vs.length = ps.length)
    (hbody : ∀ (cdv : Value) (A : Around) (outer : List Env) (s : Shared) (H : Hp) (vs : List V) (Q : VK), Room k (A.deeper (envOfC qual (defScope st) s.heap.objs.size f cdv)) → spc (Cal P w K mg base outer H s) vs H Q E0 →
      ∃ t, PSs (cxOf L2.CX0 P w K mg base N qual (defScope st) f cdv A outer s H E0).nox (defBody st) t ∧ t { nx := fun _ H' => Q .non H', rt := Q } (L2.start N vs) H) : FnOkC P w K mg base (k + 1) f fd ps spc := by
  obtain ⟨oc, od, kV, doc, pm, an, cdv, ct, osl, rfl, lk, hcd⟩ := F.ex
  refine ⟨len, fun A outer s H args us vs Q hr e0 hb r h => ?_⟩
  refine run_ofS (N := N) lk hcd S hr e0 hb r (len _ _ _ _ _ h) fun hr' => ?_
  obtain ⟨t, ht, q⟩ := hbody cdv A outer s H vs Q hr' h
  exact ⟨t, ht.nox, q⟩
end
/-- a def whose code object is known, for its lambdas -/
structure FunT (K : PySem.W.Frag) (x qual : Str) (st : Stmt) (f : Addr) (fd : FuncData) (c : Addr) : Prop where
  ex : ∃ (oc : Value) (od : Option Addr) (kV doc pm : Value) (an : Option Addr) (ct : Value) (osl : Array (Option Value)),
    fd = PySem.W.fnOf x qual (defArgs st) (defBody st) (defScope st) .none kV doc pm an (.ref c) ct ∧ K.lookup f = some ⟨oc, od, .func fd, osl⟩ ∧ PySem.W.codeIn K (.ref c) qual = true
section
variable {P : Program} {w : World} {K : PySem.W.Frag} {mg : Str → Option Value} {base : Heap}
theorem FunT.ok {x qual : Str} {st : Stmt} {f c : Addr} {fd : FuncData} {N ps : List Str} {k : Nat} {sp : Sp} (F : FunT K x qual st f fd c) (S : FnScope N ps (defScope st)) (len : ∀ vs H Q E, sp vs H Q E → vs.length = ps.length)
    (hbody : ∀ (A : Around) (outer : List Env) (s : Shared) (H : Hp) (vs : List V) (Q : VK) (E : XK), Room k (A.deeper (envOfC qual (defScope st) s.heap.objs.size f (.ref c))) → sp vs H Q E →
      ∃ t, PSs (cxOf L2.CX0 P w K mg base N qual (defScope st) f (.ref c) A outer s H E).nox (defBody st) t ∧ t { nx := fun _ H' => Q .non H', rt := Q } (L2.start N vs) H) : FnOk P w K mg base L2.CX0 (k + 1) f fd ps sp := by
  obtain ⟨oc, od, kV, doc, pm, an, ct, osl, rfl, lk, hcd⟩ := F.ex
  refine fn_of lk hcd S len fun A outer s H vs Q E hr hsp => ?_
  obtain ⟨t, h, q⟩ := hbody A outer s H vs Q E hr hsp
  exact ⟨t, h.nox, q⟩
theorem FunT.okC {x qual : Str} {st : Stmt} {f c : Addr} {fd : FuncData} {N ps : List Str} {k : Nat} {spc : CP → Sp} (F : FunT K x qual st f fd c) (S : FnScope N ps (defScope st)) (len : ∀ C vs H Q E, spc C vs H Q E → vs.length = ps.length)
    (hbody : ∀ (A : Around) (outer : List Env) (s : Shared) (H : Hp) (vs : List V) (Q : VK), Room k (A.deeper (envOfC qual (defScope st) s.heap.objs.size f (.ref c))) → spc (Cal P w K mg base outer H s) vs H Q E0 →
      ∃ t, PSs (cxOf L2.CX0 P w K mg base N qual (defScope st) f (.ref c) A outer s H E0).nox (defBody st) t ∧ t { nx := fun _ H' => Q .non H', rt := Q } (L2.start N vs) H) : FnOkC P w K mg base (k + 1) f fd ps spc := by
  obtain ⟨oc, od, kV, doc, pm, an, ct, osl, rfl, lk, hcd⟩ := F.ex
  refine ⟨len, fun A outer s H args us vs Q hr e0 hb r h => ?_⟩
  refine run_ofS (N := N) lk hcd S hr e0 hb r (len _ _ _ _ _ h) fun hr' => ?_
  obtain ⟨t, ht, q⟩ := hbody A outer s H vs Q hr' h
  exact ⟨t, ht.nox, q⟩
theorem FunT.toFun {x qual : Str} {st : Stmt} {f c : Addr} {fd : FuncData} (F : FunT K x qual st f fd c) (kp : PySem.W.keepIn K (.ref f) = true) : L2.Fun K x qual st f fd := by
  obtain ⟨oc, od, kV, doc, pm, an, ct, osl, e, lk, hcd⟩ := F.ex
  exact ⟨⟨oc, od, kV, doc, pm, an, .ref c, ct, osl, e, lk, hcd⟩, kp⟩
theorem funT_mk {x qual : Str} {st : Stmt} {f c : Addr} {oc : Value} {od an : Option Addr} {osl : Array (Option Value)} {kV doc pm ct : Value} (l : K.lookup f = some ⟨oc, od, .func (PySem.W.fnOf x qual (defArgs st) (defBody st) (defScope st) .none kV doc pm an (.ref c) ct), osl⟩)
    (h : PySem.W.codeIn K (.ref c) qual = true) : FunT K x qual st f (PySem.W.fnOf x qual (defArgs st) (defBody st) (defScope st) .none kV doc pm an (.ref c) ct) c := ⟨⟨oc, od, kV, doc, pm, an, ct, osl, rfl, l, h⟩⟩
end
/-- what can be called in X: what its def was handed -/
abbrev Kn (X : Cx) : CP := Cal X.prog X.w X.K X.mg X.base X.outer X.H_0 X.s_0
/-! ### the lambda's names -/
structure LamP (sc scope : Scope) (par : Str) : Prop where
  kind : scope.kind = .function
  co : scope.isCoroutine = false
  gen : scope.isGenerator = false
  own : ∀ y ∈ scope.names, y.2 ≠ .cell ∧ (y.2 = .local → y.1 = par)
  par : scope.names.lookup par = some .local
  free : ∀ y ∈ scope.names, y.2 = .free → sc.names.lookup y.1 = some .cell ∨ sc.names.lookup y.1 = some .free
def lamPB (sc scope : Scope) (par : Str) : Bool :=
  decide (scope.kind = .function) && !scope.isCoroutine && !scope.isGenerator && decide (scope.names.lookup par = some .local) && scope.names.all fun y => !decide (y.2 = .cell) && (!decide (y.2 = .local) || decide (y.1 = par)) && (!decide (y.2 = .free) || decide (sc.names.lookup y.1 = some .cell) || decide (sc.names.lookup y.1 = some .free))
theorem lamP_by {sc scope : Scope} {par : Str} (h : lamPB sc scope par = true) : LamP sc scope par := by
  unfold lamPB at h
  simp only [Bool.and_eq_true, Bool.or_eq_true, Bool.not_eq_true', decide_eq_true_eq, decide_eq_false_iff_not, List.all_eq_true] at h
  obtain ⟨⟨⟨⟨h1, h2⟩, h3⟩, h5⟩, h4⟩ := h
  refine ⟨h1, h2, h3, fun y hy => ⟨(h4 y hy).1.1, fun e => ?_⟩, h5, fun y hy e => ?_⟩
  · rcases (h4 y hy).1.2 with z | z
    · exact absurd e z
    · exact z
  · rcases (h4 y hy).2 with (z | z) | z
    · exact absurd e z
    · exact .inl z
    · exact .inr z
theorem LamP.has {X : Cx} {scope : Scope} {par : Str} (L : LamP X.env.scope scope par) (ok : X.Ok) : ∀ y ∈ scope.names, y.2 = .free → ∃ c, X.env.cells.lookup y.1 = some c := fun y hy e => by
  rcases L.free y hy e with k | k
  · exact ok.has _ (.inl k)
  · exact ok.has _ (.inr k)
/-- the context of the lambda's body, entered at s from the frames outer: X's names and the parameter -/
def lamCxP (X : Cx) (A : Around) (outer : List Env) (s : Shared) (H : Hp) (scope : Scope) (f c' : Addr) (par : Str) : Cx where
  prog := X.prog
  w := X.w
  K := X.K
  mg := X.mg
  base := X.base
  A := A.deeper (lamEnv X scope s.heap.objs.size f c')
  N := X.N ++ [par]
  s_0 := s
  H_0 := H
  env := lamEnv X scope s.heap.objs.size f c'
  outer := outer
  stack := lamEnv X scope s.heap.objs.size f c' :: outer
  ex := []
  fn := fun _ => false
  calm := true
  pn := []
  xe := fun e s' => wpAny (model X.prog X.w) (A.deeper (lamEnv X scope s.heap.objs.size f c')) (leaving (lamEnv X scope s.heap.objs.size f c') e) (fun _ s'' => L2.CX0 outer H s E0 e s'') (fun e' s'' => L2.CX0 outer H s E0 e' s'') s'
section
variable {X : Cx} {pins : List (Addr × Obj)} {σ : L2.St} {H HZ : Hp} {s s1 : Shared}
theorem lam_startP {A : Around} {outer : List Env} {scope : Scope} {f c' : Addr} {h₁ : Heap} {tk : Nat} {par : Str} {v : V} {u : Value} (I : Inv X pins σ H s) (L : LamP X.env.scope scope par) (hpar : par ∉ X.N) (rv : RelV v u)
    (e0 : Env0 X.prog X.w X.K X.mg X.base A outer s1 HZ) (hd : A.handled = none)
    (un : Un (frs X.stack) [] H HZ s.heap s1.heap) (hns : h₁.Ns s1.heap.objs.size fun y => ([(par, u)] : List (Str × Value)).reverse.lookup y) (kp : ∀ b o, s1.heap.get? b = some o → h₁.get? b = some o) :
    Inv (lamCxP X A outer s1 HZ scope f c' par) [] (σ ++ [some v]) HZ { s1 with heap := h₁, toks := tk } := by
  have hfree := L.has I.ok
  have cm : ∀ {y c}, (cloFrom X.env.cells scope.names []).lookup y = some c → X.env.cells.lookup y = some c := fun {y c} e => by
    rcases cloFrom_mem (PySem.mem_of_lookup e) with hm | ⟨h1, h2⟩
    · cases hm
    · obtain ⟨c1, hc⟩ := hfree _ h1 rfl
      have hc : X.env.cells.lookup y = some c1 := hc
      have e2 : c = c1 := by
        rw [h2, hc] <;> rfl
      rw [e2]
      exact hc
  have look : ∀ {y}, scope.names.lookup y = some .free → ∃ c, (cloFrom X.env.cells scope.names []).lookup y = some c := fun {y} hl => by
    have hy : (y, NameKind.free) ∈ scope.names := PySem.mem_of_lookup hl
    exact mem_lookup (cloFrom_has (cells := X.env.cells) (acc := []) hy)
  have cellK : ∀ {c : Addr} {v : Option Value}, H c = none → s.heap.IsCell c v → h₁.IsCell c v := fun {c v} n ⟨o, ho, hd⟩ => by
    obtain ⟨sl, q⟩ := un.any ho n (by simp)
    exact ⟨_, kp _ _ q, hd⟩
  have noA : ∀ b : Addr, b ∉ (lamCxP X A outer s1 HZ scope f c' par).ex := fun b z => absurd (show b ∈ ([] : List Addr) from z) (by simp)
  refine ⟨⟨e0.mod, L.kind, rfl, rfl, Nat.le_refl _, fun y z c e1 e2 => I.ok.inj y z c (cm e1) (cm e2), fun y hy => ?_, fun y c z _ => ?_, fun _ => hd, Around.frames_deeper e0.frames, .inr ⟨rfl, rfl⟩, fun b z => absurd z (noA b), e0.bs, e0.bsz, fun b _ _ => noA b,
      fun b z => absurd z (noA b), e0.funs, e0.frf⟩,
    rfl, e0.bare, Un.kept kp, ⟨_, hns, fun i y v' e1 e2 e3 => ?_⟩, fun y c e => ?_, e0.hok.fresh (Nat.le_refl _), fun y c e => ?_, fun q hq => absurd (show q ∈ ([] : List (Addr × Obj)) ++ [] from hq) (by simp), e0.hok.kept kp, ?_⟩
  · have hy : scope.names.lookup y = some .cell ∨ scope.names.lookup y = some .free := hy
    rcases hy with hy | hy
    · exact absurd rfl (L.own _ (PySem.mem_of_lookup hy)).1
    · exact look hy
  · have z : false = true := z
    cases z
  · have e3 : Vis scope y := e3
    have e1 : (X.N ++ [par])[i]? = some y := e1
    by_cases hi : i < X.N.length
    · rw [List.getElem?_append_left hi] at e1
      rw [List.getElem?_append_left (by rw [I.len]; exact hi)] at e2
      have ny : y ≠ par := fun z => hpar (by rw [← z]; exact List.mem_of_getElem? e1)
      rcases e3 with k | k | k
      · exact absurd ((L.own _ (PySem.mem_of_lookup k)).2 rfl) ny
      · exact absurd rfl (L.own _ (PySem.mem_of_lookup k)).1
      · obtain ⟨m, hn, hl⟩ := I.loc
        have hvis : Vis X.env.scope y := (L.free _ (PySem.mem_of_lookup k) rfl).elim (fun k => .inr (.inl k)) (fun k => .inr (.inr k))
        obtain ⟨w', r, q⟩ := hl i y v' e1 e2 hvis
        obtain ⟨c2, h2⟩ := look k
        refine ⟨w', r, .inr ⟨.inr k, c2, h2, ?_⟩⟩
        have c1 := cm h2
        rcases q with ⟨k', _⟩ | ⟨_, c3, e', z⟩
        · have k' : X.env.scope.names.lookup y = some .local := k'
          rcases L.free _ (PySem.mem_of_lookup k) rfl with k2 | k2 <;> rw [show X.env.scope.names.lookup y = _ from k2] at k' <;> cases k'
        · rw [c1] at e'
          cases e'
          exact cellK (I.freeC y _ c1) z
    · have hi' : i = X.N.length := by
        have := (List.getElem?_eq_some_iff.mp e1).1
        rw [List.length_append, List.length_singleton] at this
        omega
      subst hi'
      rw [List.getElem?_append_right (Nat.le_refl _), Nat.sub_self] at e1
      rw [← I.len, List.getElem?_append_right (Nat.le_refl _), Nat.sub_self] at e2
      cases e1
      cases e2
      refine ⟨u, rv, .inl ⟨L.par, ?_⟩⟩
      show ([(par, u)] : List (Str × Value)).lookup par = some u
      simp [List.lookup]
  · obtain ⟨w', z⟩ := I.cell y c (cm e)
    exact ⟨w', cellK (I.freeC y c (cm e)) z⟩
  · obtain ⟨v, o, ho, hd⟩ := I.cell y c (cm e)
    exact un.free c o ho (I.freeC y c (cm e)) (by simp)
  · show (σ ++ [some v]).length = (X.N ++ [par]).length
    rw [List.length_append, List.length_append, I.len]
    rfl
/-- the promise of a lambda: its code object, its body's reading -/
def spLam (c' : Addr) (q : Str) (σ : L2.St) (tb : TE) : Sp := fun vs H Q _ => ∃ v, vs = [v] ∧ H c' = some (CodeO c' q) ∧ tb (σ ++ [some v]) H Q
theorem lam_cal {C : CP} {scope : Scope} {par : Str} {params : Arguments} {body : Expr} {pm ctv : Value} {f c' : Addr} {kb : Nat} {tb : TE} (I : Inv X pins σ H s) (L : LamP X.env.scope scope par) (hpar : par ∉ X.N) (hex : X.ex = [])
    (hf : s.heap.get? f = some (PySem.W.kla_obj "<lambda>" (X.env.qual ++ "<lambda>") params body scope (cloFrom X.env.cells scope.names []) pm c' ctv)) (hfn : H f = none) (hfr : f ∉ frs X.stack)
    (hbind : ∀ (q : Str) (cl : List (Str × Addr)) (pm cv ctv u : Value), bindArgs (PySem.W.kla_fn "<lambda>" q params body scope cl pm cv ctv) ⟨[u], []⟩ = pure [(par, u)])
    (hC : ∀ k f sp, C k f sp → Kn X k f sp)
    (hbody : ∀ (A : Around) (outer : List Env) (s1 : Shared) (H1 : Hp), (∀ k f sp, C k f sp → Kn (lamCxP X A outer s1 H1 scope f c' par).nox k f sp) → Room kb (A.deeper (lamEnv X scope s1.heap.objs.size f c')) → PE (lamCxP X A outer s1 H1 scope f c' par).nox body tb) :
    Cal X.prog X.w X.K X.mg X.base X.stack H s (kb + 1) f (spLam c' (X.env.qual ++ "<lambda>") σ tb) := by
  have at1 : ∀ (outer : List Env) (s1 : Shared) (H1 : Hp), Later X.stack H s outer H1 s1 → s1.heap.get? f = some (PySem.W.kla_obj "<lambda>" (X.env.qual ++ "<lambda>") params body scope (cloFrom X.env.cells scope.names []) pm c' ctv) :=
    fun outer s1 H1 l => l.un.keep f _ hf hfn hfr (by simp)
  refine ⟨fun outer s1 H1 l => ⟨_, _, _, _, at1 outer s1 H1 l⟩, fun A outer s1 HZ us vs Q hr e0 l r h => ?_⟩
  obtain ⟨v, rfl, hc, ht⟩ := h
  obtain ⟨u, rfl, rv⟩ : ∃ u, us = [u] ∧ RelV v u := by
    cases r with
    | cons r1 r2 => cases r2 with | nil => exact ⟨_, rfl, r1⟩
  have of1 := at1 outer s1 HZ l
  obtain ⟨⟨oc, ws, t, hoc, hdc, hvc⟩, _, _⟩ := e0.hok c' _ hc
  have lim : s1.heap.NoLimit := e0.mod.nolimit.keeps fun b o e => (e0.bs b o e).1
  refine PySem.W.kla_callFunE hr.depth of1 rfl L.co L.gen rfl ⟨c', oc, ws, t, rfl, hoc, hdc, hvc⟩ ?_
  rw [hbind]
  refine wpAny_pure (wpAny_newFunctionEnv (fun y hy => (L.own y hy).1) (fun y hy => ?_) (fun h₁ hns hsb => ⟨lim.fresh _ hsb, ?_⟩) L.kind)
  · have e : y = (par, u) := by simpa using hy
    rw [e]
    exact L.par
  show codeAny _ _ (.expr body (lamEnv X scope s1.heap.objs.size f c')) _ _
  have kp : ∀ b o, s1.heap.get? b = some o → h₁.get? b = some o := fun b o e => hsb.extBut b o (Nat.ne_of_lt (Heap.lt_size e)) (Heap.get?_push_of_some _ e)
  have J : Inv (lamCxP X A outer s1 HZ scope f c' par) [] (σ ++ [some v]) HZ { s1 with heap := h₁, toks := s1.toks + ([(par, u)] : List (Str × Value)).length } := lam_startP I L hpar rv e0 hr.hd l.un hns kp
  have hb := hbody A outer s1 HZ (fun k f sp c => (hC k f sp c).later ((later_of I hex).trans l)) (hr.deeper _)
  refine PySem.W.kla_codeExpr (wpAny_mono (hb.nox.run [] _ _ HZ Q J ht) (fun v s' hq => ?_) fun e s' hq => hq)
  obtain ⟨w', H', J', rv', q⟩ := hq
  exact ⟨w', H', J'.os, J'.bare, J'.base, J'.hok, rv', q⟩
/-- x(e, ..), x a parameter (or a captured name) that holds what can be called -/
def tCal (C : CP) (k i : Nat) (t : TA) : TE := fun σ H Q => ∃ f sp, σ[i]? = some (some (.ref f)) ∧ C k f sp ∧ t σ H fun vs H1 => sp vs H1 Q E0
theorem pe_cal {C : CP} {k i : Nat} {a : Str} {e : Expr} {es : List Expr} {t : TA} {p pos : Pos} (hC : ∀ k f sp, C k f sp → Kn X k f sp) (hr : Room k X.A) (hN : X.N[i]? = some a) (hv : Vis X.env.scope a) (hex : X.ex = []) (ha : PA X (e :: es) t)
    (hd : (a == ("__debug__" : Str)) = false := by decide) (hcd : (a == ("__classdict__" : Str)) = false := by decide) (he : starEach (e :: es) X.env = (false, eval e X.env) :: starEach es X.env := by rfl) (hpl : (backTo pos (starEach es X.env)).any (·.1) = false := by rfl) :
    PE X (.Call (.Name a p) (e :: es) [] pos) (tCal C k i t) := by
  refine ⟨fun pins s σ H Q I h => ?_⟩
  obtain ⟨f, sp, hs, hc, ht⟩ := h
  refine wpAny_Call_Name_kw (thn ((pe_var (pos := p) (i := i) hN hv hd hcd).run pins s σ H (fun v H1 => v = .ref f ∧ H1 = H) I ⟨.ref f, hs, rfl, rfl⟩) fun u s1 ⟨v, H1, I1, r1, q1⟩ => ?_)
  obtain ⟨ev, eH⟩ := q1
  subst ev
  rw [eH] at I1
  obtain rfl : u = Value.ref f := r1
  have cal := hC k f sp hc
  refine PySem.W.callWith_F (cal.fn _ _ _ (later_of I1 hex)) (thn (ha.run pos pins s1 σ H _ I1 ht) fun us s2 ⟨vs, H2, I2, r, q⟩ => ⟨cal.fn _ _ _ (later_of I2 hex), ?_⟩) he hpl
  refine wpAny_call (codeAny_mono (cal.run X.A X.stack s2 H2 us vs Q hr I2.env0 (later_of I2 hex) r q) fun r s' hq => ?_)
  cases r with
  | error e => exact (show False from hq).elim
  | ok fl =>
    cases fl with
    | ret u => exact I2.after hq
    | next => exact False.elim hq
    | brk => exact False.elim hq
    | cont => exact False.elim hq
/-- x(e, ..), x a local name that holds one of some defs -/
def tCallV (C : Addr → Sp → Prop) (i : Nat) (t : TA) : TE := fun σ H Q => ∃ f sp, σ[i]? = some (some (.ref f)) ∧ C f sp ∧ t σ H fun vs H1 => sp vs H1 Q E0
theorem pe_callV {C : Addr → Sp → Prop} {i : Nat} {a : Str} {e : Expr} {es : List Expr} {t : TA} {p pos : Pos}
    (hC : ∀ f sp, C f sp → ∃ (k : Nat) (fd : FuncData) (ps : List Str), FnOk X.prog X.w X.K X.mg X.base L2.CX0 k f fd ps sp ∧ Room k X.A ∧ PySem.W.keepIn X.K (.ref f) = true ∧ L2.Binds X.K fd ps [])
    (hN : X.N[i]? = some a) (hv : Vis X.env.scope a) (ha : PA X (e :: es) t)
    (hd : (a == ("__debug__" : Str)) = false := by decide) (hcd : (a == ("__classdict__" : Str)) = false := by decide) (he : starEach (e :: es) X.env = (false, eval e X.env) :: starEach es X.env := by rfl) (hpl : (backTo pos (starEach es X.env)).any (·.1) = false := by rfl) :
    PE X (.Call (.Name a p) (e :: es) [] pos) (tCallV C i t) := by
  refine ⟨fun pins s σ H Q I h => ?_⟩
  obtain ⟨f, sp, hs, hc, ht⟩ := h
  refine wpAny_Call_Name_kw (thn ((pe_var (pos := p) (i := i) hN hv hd hcd).run pins s σ H (fun v H1 => v = .ref f ∧ H1 = H) I ⟨.ref f, hs, rfl, rfl⟩) fun u s1 ⟨v, H1, I1, r1, q1⟩ => ?_)
  obtain ⟨ev, eH⟩ := q1
  subst ev
  rw [eH] at I1
  obtain rfl : u = Value.ref f := r1
  obtain ⟨k, fd, ps, F, hr, hk, hb⟩ := hC f sp hc
  refine PySem.W.callWith_K (h₀ := X.base) I1.ok.mod.kin hk (thn (ha.run pos pins s1 σ H _ I1 ht) fun us s2 ⟨vs, H2, I2, r, q⟩ => ⟨I2.kIn, ?_⟩) he hpl
  exact run_fn (dvs := []) (ds := []) F hr hb .nil pass0 I2 r (by rw [List.append_nil]; exact q)
/-- all but the tables stays, the tables are told -/
def Sm (T : List (Addr × Str)) (H H' : Hp) : Prop := ExtN H H' ∧ (Tabs T H → Tabs T H')
theorem Sm.refl {T : List (Addr × Str)} (H : Hp) : Sm T H H := ⟨ExtN.refl H, fun h => h⟩
theorem Sm.trans {T : List (Addr × Str)} {H H1 H2 : Hp} (a : Sm T H H1) (b : Sm T H1 H2) : Sm T H H2 := ⟨a.1.trans b.1, fun h => b.2 (a.2 h)⟩
def tLamC (T : List (Addr × Str)) (q : Str) (spc : CP → Sp) (C : CP) (kb : Nat) (tb : TE) (t : TA) : TE := fun σ H Q => Tabs T H ∧ ∀ (f c' : Addr) (H1 : Hp), Sm T H H1 → H1 c' = some (CodeO c' q) → t σ H1 fun vs H2 =>
  ∀ C' : CP, (∀ k g sp, C k g sp → C' k g sp) → (∀ k sp, kb + 1 ≤ k → (∀ ws H3 Q3, sp ws H3 Q3 E0 → spLam c' q σ tb ws H3 Q3 E0) → C' k f sp) → spc C' (.ref f :: vs) H2 Q E0
/-- x(lambda par: body, e, ..) -/
theorem pe_lamC {T : List (Addr × Str)} {x par : Str} {g c P : Addr} {kg kb : Nat} {fd : FuncData} {ps : List Str} {spc : CP → Sp} {C : CP} {params : Arguments} {body : Expr} {scope : Scope} {tb : TE} {t : TA} {es : List Expr} {p lpos pos : Pos}
    (G : FnOkC X.prog X.w X.K X.mg X.base kg g fd ps spc) (hr : Room kg X.A) (hg : Gl X x) (hm : X.mg x = some (.ref g)) (hk : PySem.W.keepIn X.K (.ref g) = true) (hb : L2.Binds X.K fd ps [])
    (TB : TabB X.base X.mg c P) (hcode : X.env.code = .ref c) (hmT : (P, X.env.qual ++ "<lambda>") ∈ T) (hu : ∀ p ∈ T, p.1 = P → p.2 = X.env.qual ++ "<lambda>")
    (L : LamP X.env.scope scope par) (hpar : par ∉ X.N) (hex : X.ex = []) (hdef : defaultsOf params X.env = ([], []))
    (hbind : ∀ (q : Str) (cl : List (Str × Addr)) (pm cv ctv u : Value), bindArgs (PySem.W.kla_fn "<lambda>" q params body scope cl pm cv ctv) ⟨[u], []⟩ = pure [(par, u)])
    (hC : ∀ k f sp, C k f sp → Kn X k f sp)
    (hbody : ∀ (A : Around) (outer : List Env) (s1 : Shared) (H1 : Hp) (f c' : Addr), (∀ k f sp, C k f sp → Kn (lamCxP X A outer s1 H1 scope f c' par).nox k f sp) → Room kb (A.deeper (lamEnv X scope s1.heap.objs.size f c')) → PE (lamCxP X A outer s1 H1 scope f c' par).nox body tb)
    (ha : PA X es t) (hdb : (x == ("__debug__" : Str)) = false := by decide) (hpl : (backTo pos (starEach es X.env)).any (·.1) = false := by rfl) :
    PE X (.Call (.Name x p) (.Lambda params body scope lpos :: es) [] pos) (tLamC T (X.env.qual ++ "<lambda>") spc C kb tb t) := by
  refine ⟨fun pins s σ H Q I h => ?_⟩
  obtain ⟨hT, h⟩ := h
  refine wpAny_Call_Name_kw (ld_glob I hg hm ?_ hdb)
  refine PySem.W.callWith_K (h₀ := X.base) I.ok.mod.kin hk ?_ (by rfl) hpl
  show wpAny _ _ (spliced ((false, eval (.Lambda params body scope lpos) X.env) :: backTo pos (starEach es X.env))) _ _ s
  refine Calls.spliced_cons (lam_make2 (E := X.xe) I TB hcode hmT hu hT hdef (L.has I.ok) fun f c' pm' ctv H1 s' I1 eN T1 hf hfn hfr hco => ?_)
  have nfL : f ≠ X.env.locals := fun z => by
    obtain ⟨m, ⟨o, es, ep, ho, hd, _⟩, _⟩ := I1.loc
    rw [← z, hf] at ho
    cases ho
    cases hd
  have nfs : f ∉ X.fs := fun z => hfr (by
    rcases I1.ok.stk with e | ⟨e, hfm⟩
    · rw [e]; exact z
    · rw [e]
      unfold frs
      rw [List.filterMap_cons, hfm]
      exact List.mem_cons_of_mem _ z)
  have I2 : Inv X ((f, PySem.W.kla_obj "<lambda>" (X.env.qual ++ "<lambda>") params body scope (cloFrom X.env.cells scope.names []) pm' c' ctv) :: pins) σ H1 s' := I1.pins_of fun q hq => by
    rcases List.mem_cons.mp hq with e | hq
    · rw [e]
      exact ⟨hf, hfn, nfL, nfs, fun v z => by cases z⟩
    · exact I1.pin q (List.mem_append_right _ hq)
  refine thn (ha.run pos _ s' σ H1 _ I2 (h f c' H1 ⟨eN, fun _ => T1⟩ hco)) fun us s2 ⟨vs, H2, I3, r, q⟩ => ⟨I3.kIn, ?_⟩
  obtain ⟨pf, pn, _, _, _⟩ := I3.pin _ (List.mem_append_right _ (List.mem_cons_self (a := (f, PySem.W.kla_obj "<lambda>" (X.env.qual ++ "<lambda>") params body scope (cloFrom X.env.cells scope.names []) pm' c' ctv))))
  have I4 : Inv X pins σ H2 s2 := I3.pins_of fun q hq => I3.pin q (List.mem_append_right _ (List.mem_cons_of_mem _ hq))
  have cal := lam_cal (C := C) (f := f) (c' := c') (kb := kb) (tb := tb) I4 L hpar hex pf pn hfr hbind hC fun A outer s1 H1 hk hr => hbody A outer s1 H1 f c' hk hr
  have hsp := q (Cal X.prog X.w X.K X.mg X.base X.stack H2 s2) (fun k g sp z => (hC k g sp z).later (later_of I4 hex)) (fun k sp hk z => cal.imp hk z)
  have r2 : Vals (.ref f :: vs) (.ref f :: us) := .cons rfl r
  have hl : (Value.ref f :: us).length = ps.length := by rw [← r2.length]; exact G.len _ _ _ _ _ hsp
  have hbi := hb s2 (.ref f :: us) I4.kIn (by rw [List.append_nil]; exact hl)
  rw [List.append_nil] at hbi
  refine wpAny_call (codeAny_mono (G.run X.A X.stack s2 H2 ⟨.ref f :: us, []⟩ (.ref f :: us) (.ref f :: vs) Q hr I4.env0 hbi r2 hsp) fun r s' hq => ?_)
  cases r with
  | error e => exact (show False from hq).elim
  | ok fl =>
    cases fl with
    | ret u => exact I4.after hq
    | next => exact False.elim hq
    | brk => exact False.elim hq
    | cont => exact False.elim hq
end
theorem Sm.of {T : List (Addr × Str)} {H H' : Hp} (a : Same H H') : Sm T H H' := ⟨fun b o e _ => a b o e, fun h => h.ext a⟩
theorem Sm.at {T : List (Addr × Str)} {H H' : Hp} {a : Addr} {o : HO} (s : Sm T H H') (h : H a = some o) (n : ∀ ps, o ≠ .tbl ps := by intro ps z; cases z) : H' a = some o := s.1 a o h n
theorem Sm.new {T : List (Addr × Str)} {H H' : Hp} {r : Addr} {o : HO} (s : Sm T H H') (h : H' r = none) : Sm T H (upd H' r o) := s.trans (.of fun q u e => by rw [upd_ne (ne_of_none e h)]; exact e)
theorem Sm.mut {T : List (Addr × Str)} {H H' : Hp} {r : Addr} {o u : HO} (s : Sm T H H') (hn : H r = none) (h : H' r = some u) (hu : ∀ ps, u ≠ .tbl ps := by intro ps z; cases z) (hc : ∀ c q, u ≠ CodeO c q := by intro c q z; cases z) : Sm T H (upd H' r o) := by
  refine ⟨fun b w e n => ?_, fun t p hp => ?_⟩
  · rw [upd_ne (ne_of_none e hn)]
    exact s.1 b w e n
  · obtain ⟨ps, a1, a2, a3⟩ := s.2 t p hp
    refine ⟨ps, by rw [upd_ne (fun z => by rw [z, h] at a1; cases a1; exact hu ps rfl)]; exact a1, a2, fun pos cv e => ?_⟩
    obtain ⟨c, e1, e2⟩ := a3 pos cv e
    exact ⟨c, e1, by rw [upd_ne (fun z => by rw [z, h] at e2; exact hc _ _ (Option.some.inj e2))]; exact e2⟩
theorem Sm.seqT {K : PySem.W.Frag} {T : List (Addr × Str)} {H H' : Hp} {a : Addr} {xs : List V} (s : Sm T H H') (h : SqL K H a xs) : SqL K H' a xs := by
  rcases h with (h | ⟨o, h⟩) | h
  · exact .inl (.inl (s.at h))
  · exact .inl (.inr ⟨o, s.at h⟩)
  · exact .inr h
theorem tabIn_of {K : PySem.W.Frag} {x : Str} {f c P : Addr} {oc o1 : Value} {od o2 : Option Addr} {fd : FuncData} {sl o3 : Array (Option Value)} {vs : Array Value} (a : PySem.W.nsIn K mainGlobals x = some (some (.ref f))) (l : K.lookup f = some ⟨oc, od, .func fd, sl⟩) (hc : fd.code = .ref c)
    (lc : K.lookup c = some ⟨o1, o2, .fields vs, o3⟩) (hv : vs[11]? = some (.ref P)) : PySem.W.tabIn K x = some (c, P) := by
  unfold PySem.W.tabIn
  rw [a]
  simp only [l, hc, lc, hv]
theorem no_tab {K : PySem.W.Frag} {h : Heap} {P : Addr} (X : K.In h) (hP : h.get? P = some { cls := .none, data := .fields #[] }) (hK : PySem.W.noTabs K = true) : K.lookup P = none := by
  cases q : K.lookup P with
  | none => rfl
  | some o =>
    have e := X _ _ q
    rw [hP] at e
    cases e
    have h2 := List.all_eq_true.mp hK (P, _) (PySem.W.mem_of_lookupK q)
    exact absurd (show false = true from h2) Bool.false_ne_true
theorem tab_uniq : ∀ {l : List (Addr × Str)}, (l.map (·.1)).Nodup → ∀ {P : Addr} {s : Str}, (P, s) ∈ l → ∀ p ∈ l, p.1 = P → p.2 = s
  | [], _, _, _, h => by cases h
  | q :: r, nd, P, s, h => fun p hp e => by
    rw [List.map_cons, List.nodup_cons] at nd
    rcases List.mem_cons.mp h with h | h
    · rcases List.mem_cons.mp hp with hp | hp
      · rw [hp, ← h]
      · exact absurd (List.mem_map.mpr ⟨p, hp, by rw [e, ← h]⟩) nd.1
    · rcases List.mem_cons.mp hp with hp | hp
      · exact absurd (List.mem_map.mpr ⟨_, h, by rw [← e, hp]⟩) nd.1
      · exact tab_uniq nd.2 h p hp e
/-- the end, with tables -/
theorem walk_tabs {l : PySem.W.OpenLaw} {n k : Nat} {q : Program} {loose : List Str} {XP : (Str → Option Value) → Heap → Prop} {YP : World → Heap → Prop} {d : DefRec} {K : Params → PySem.W.Frag} {CX : World → CXT} {x : Str}
    (hn : l.most = some n) (hn2 : n ≤ sizeLine) (hdf : d.params.defaults = []) (hr : Room k callerA) (hY : ∀ (w : World) (h : Heap), YP w h → (K w.params).In h)
    (F : ∀ (w : World) (mg : Str → Option Value) (fa : Addr) (h : Heap), (∀ (y : Str) (c P : Addr), ((recsOf q).find? (fun e => e.name == y)).isSome = true → PySem.W.tabIn (K w.params) y = some (c, P) → PySem.W.CodeHd h c P ∧ h.get? P = some { cls := .none, data := .fields #[] }) →
      (K w.params).In h → h.Ns mainGlobals mg → mg d.name = some (.ref fa) → LawAtS l w (K w.params) (CX w) k n x mg fa h)
    (hCX : ∀ (w : World) (H : Hp) (s : Shared) (e : Value) (s' : Shared), CX w [] H s (fun _ _ _ => False) e s' → False) :
    PySem.W.WalkO q loose XP YP l.row.toRowW d [] (fun f vs => PySem.call f vs) := by
  refine Att.attach_callB hn hdf fun w s₀ s₁ mg mb fa o pm cd doc a vs ns G Y ho hd hcd hmg hobj hints hlen hbits hg => ?_
  have KX := hY w _ Y
  obtain ⟨fd, cs, sp, hT, nT, C, hb, hsp, hF⟩ := F w mg fa _ (fun y c P hr ht => by
    obtain ⟨d', hd'⟩ := Option.isSome_iff_exists.mp hr
    exact PySem.W.tab_of G.T KX hd' ht) KX G.T.g hmg
  exact law_callTs KX G.T.g G.T.b G.T.builtins G.T.nolimit hg hT nT C G.T.bmain hobj hints (Nat.le_trans hlen hn2) hr hF hb (fun H hH hS => hsp H a ns hlen hbits hH hS) fun H e s' => hCX w H s₁ e s'
end Fw
namespace Fw
/-! ### sums, counts -/
def sZ (f : Nat → Int) : Nat → Int
  | 0 => 0
  | n + 1 => sZ f n + f n
theorem sZ_congr {f g : Nat → Int} : ∀ {n : Nat}, (∀ i, i < n → f i = g i) → sZ f n = sZ g n
  | 0, _ => rfl
  | n + 1, h => by
    show sZ f n + f n = sZ g n + g n
    rw [sZ_congr (n := n) fun i hi => h i (by omega), h n (by omega)]
theorem sZ_add (f g : Nat → Int) : ∀ n : Nat, sZ (fun i => f i + g i) n = sZ f n + sZ g n
  | 0 => rfl
  | n + 1 => by
    show sZ _ n + (f n + g n) = (sZ f n + f n) + (sZ g n + g n)
    rw [sZ_add f g n]; omega
theorem sZ_sub (f g : Nat → Int) : ∀ n : Nat, sZ (fun i => f i - g i) n = sZ f n - sZ g n
  | 0 => rfl
  | n + 1 => by
    show sZ _ n + (f n - g n) = (sZ f n + f n) - (sZ g n + g n)
    rw [sZ_sub f g n]; omega
theorem sZ_zero : ∀ n : Nat, sZ (fun _ => 0) n = 0
  | 0 => rfl
  | n + 1 => by
    show sZ _ n + 0 = 0
    rw [sZ_zero n]; rfl
theorem sZ_const (c : Int) : ∀ n : Nat, sZ (fun _ => c) n = n * c
  | 0 => by simp [sZ]
  | n + 1 => by
    show sZ _ n + c = _
    rw [sZ_const c n, Int.natCast_succ, Int.add_mul, Int.one_mul]
theorem sZ_mul (c : Int) (f : Nat → Int) : ∀ n : Nat, sZ (fun i => c * f i) n = c * sZ f n
  | 0 => by simp [sZ]
  | n + 1 => by
    show sZ _ n + c * f n = c * (sZ f n + f n)
    rw [sZ_mul c f n, Int.mul_add]
theorem sZ_head (f : Nat → Int) : ∀ n : Nat, sZ f (n + 1) = f 0 + sZ (fun i => f (i + 1)) n
  | 0 => by simp [sZ]
  | n + 1 => by
    show sZ f (n + 1) + f (n + 1) = f 0 + (sZ (fun i => f (i + 1)) n + f (n + 1))
    rw [sZ_head f n]; omega
theorem sZ_rev (f : Nat → Int) : ∀ n : Nat, sZ (fun i => f (n - 1 - i)) n = sZ f n
  | 0 => rfl
  | n + 1 => by
    rw [sZ_head]
    show f (n + 1 - 1 - 0) + _ = sZ f n + f n
    have e : sZ (fun i => f (n + 1 - 1 - (i + 1))) n = sZ (fun i => f (n - 1 - i)) n := sZ_congr fun i _ => by
      show f _ = f _
      congr 1; omega
    rw [e, sZ_rev f n, Nat.add_sub_cancel, Nat.sub_zero]; omega
theorem sZ_swap (f : Nat → Nat → Int) (m : Nat) : ∀ n : Nat, sZ (fun i => sZ (fun j => f i j) m) n = sZ (fun j => sZ (fun i => f i j) n) m
  | 0 => by
    show 0 = sZ (fun _ => 0) m
    rw [sZ_zero]
  | n + 1 => by
    show sZ _ n + sZ _ m = _
    rw [sZ_swap f m n, ← sZ_add]
    rfl
theorem sZ_split (f : Nat → Int) (n : Nat) : ∀ m : Nat, sZ f (n + m) = sZ f n + sZ (fun i => f (n + i)) m
  | 0 => by show sZ f n = sZ f n + 0; omega
  | m + 1 => by
    show sZ f (n + m) + f (n + m) = sZ f n + (sZ _ m + f (n + m))
    rw [sZ_split f n m]; omega
theorem sZ_nonneg {f : Nat → Int} : ∀ {n : Nat}, (∀ i, i < n → 0 ≤ f i) → 0 ≤ sZ f n
  | 0, _ => Int.le_refl 0
  | n + 1, h => by
    have a := sZ_nonneg (f := f) (n := n) fun i hi => h i (by omega)
    have b := h n (by omega)
    show 0 ≤ sZ f n + f n
    omega
/-- n (n - 1) / 2 -/
theorem sZ_id : ∀ n : Nat, sZ (fun i => (i : Int)) n = (n : Int) * ((n : Int) - 1) / 2
  | 0 => by simp [sZ]
  | n + 1 => by
    show sZ _ n + (n : Int) = _
    rw [sZ_id n]
    have e : ((n + 1 : Nat) : Int) * (((n + 1 : Nat) : Int) - 1) = (n : Int) * ((n : Int) - 1) + 2 * n := by
      rw [Int.natCast_succ, show (n : Int) + 1 - 1 = n by omega, Int.add_mul, Int.mul_sub]
      omega
    rw [e, Int.mul_comm 2 (n : Int), Int.add_mul_ediv_right _ _ (by decide)]
/-! ### sums of quotients -/
def QS (a b m : Int) (n : Nat) : Int := sZ (fun i => (a * i + b) / m) n
theorem QS_red (a b : Int) {m : Int} (hm : 0 < m) (n : Nat) : QS a b m n = (n : Int) * ((n : Int) - 1) / 2 * (a / m) + (n : Int) * (b / m) + QS (a % m) (b % m) m n := by
  unfold QS
  have e : sZ (fun i => (a * (i : Int) + b) / m) n = sZ (fun i => ((a / m) * (i : Int) + b / m) + (a % m * (i : Int) + b % m) / m) n := sZ_congr fun i _ => by
    have ea := Int.emod_add_mul_ediv a m
    have eb := Int.emod_add_mul_ediv b m
    have z : a * (i : Int) + b = (a % m * (i : Int) + b % m) + m * ((a / m) * (i : Int) + b / m) := by
      have h1 : a * (i : Int) = (a % m + m * (a / m)) * (i : Int) := by rw [ea]
      rw [h1, Int.add_mul, Int.mul_add, Int.mul_assoc]
      omega
    show (a * (i : Int) + b) / m = _
    rw [z, Int.add_mul_ediv_left _ _ (Int.ne_of_gt hm)]
    omega
  rw [e, sZ_add, sZ_add, sZ_mul, sZ_const, sZ_id, Int.mul_comm (a / m)]
/-- how often (j + 1) m ≤ y -/
theorem sZ_le {m y : Int} (hm : 0 < m) (hy : 0 ≤ y) : ∀ n : Nat, y / m ≤ n → sZ (fun j => if ((j : Int) + 1) * m ≤ y then 1 else 0) n = y / m
  | 0, h => by
    have := Int.ediv_nonneg hy (Int.le_of_lt hm)
    show 0 = y / m
    omega
  | n + 1, h => by
    have iff : ((n : Int) + 1) * m ≤ y ↔ (n : Int) + 1 ≤ y / m := (Int.le_ediv_iff_mul_le hm).symm
    show sZ _ n + (if ((n : Int) + 1) * m ≤ y then 1 else 0) = y / m
    by_cases c : (n : Int) + 1 ≤ y / m
    · have e : y / m = (n : Int) + 1 := by omega
      rw [if_pos (iff.mpr c), e]
      have all : sZ (fun j => if ((j : Int) + 1) * m ≤ y then 1 else 0) n = sZ (fun _ => 1) n := sZ_congr fun j hj => by
        have : ((j : Int) + 1) * m ≤ y := (Int.le_ediv_iff_mul_le hm).mp (by omega)
        rw [if_pos this]
      rw [all, sZ_const]; omega
    · rw [if_neg fun z => c (iff.mp z), sZ_le hm hy n (by omega)]; omega
/-- the points below a line, row by row -/
theorem QS_turn {a b m : Int} (ha : 0 < a) (ham : a < m) (hb : 0 ≤ b) (hbm : b < m) (n : Nat) {N : Nat} (hN : (N : Int) = (a * n + b) / m) : QS a b m n = QS m ((a * n + b) % m) a N := by
  have hm : 0 < m := by omega
  unfold QS
  have hai : ∀ i : Nat, 0 ≤ a * (i : Int) := fun i => Int.mul_nonneg (Int.le_of_lt ha) (Int.natCast_nonneg i)
  have e1 : sZ (fun i => (a * (i : Int) + b) / m) n = sZ (fun i => sZ (fun j => if ((j : Int) + 1) * m ≤ a * (i : Int) + b then 1 else 0) N) n := sZ_congr fun i hi => by
    refine (sZ_le hm (by have := hai i; omega) N ?_).symm
    rw [hN]
    refine Int.ediv_le_ediv hm ?_
    have : a * (i : Int) ≤ a * (n : Int) := Int.mul_le_mul_of_nonneg_left (by omega) (Int.le_of_lt ha)
    omega
  rw [e1, sZ_swap]
  have e2 : sZ (fun j => sZ (fun i => if ((j : Int) + 1) * m ≤ a * (i : Int) + b then 1 else 0) n) N = sZ (fun j => (a * n + b - ((j : Int) + 1) * m) / a) N := sZ_congr fun j hj => by
    rw [← sZ_rev]
    have hjm : ((j : Int) + 1) * m ≤ a * n + b := (Int.le_ediv_iff_mul_le hm).mp (by omega)
    have hm1 : m ≤ ((j : Int) + 1) * m := by
      have : 1 * m ≤ ((j : Int) + 1) * m := Int.mul_le_mul_of_nonneg_right (by omega) (Int.le_of_lt hm)
      omega
    refine Eq.trans (sZ_congr fun i hi => ?_) (sZ_le ha (y := a * n + b - ((j : Int) + 1) * m) (by omega) n ?_)
    · have e : a * ((n - 1 - i : Nat) : Int) = a * n - ((i : Int) + 1) * a := by
        rw [show ((n - 1 - i : Nat) : Int) = (n : Int) - ((i : Int) + 1) by omega, Int.mul_sub, Int.mul_comm a ((i : Int) + 1)]
      show (if ((j : Int) + 1) * m ≤ a * ((n - 1 - i : Nat) : Int) + b then (1 : Int) else 0) = _
      rw [e]
      by_cases c : ((i : Int) + 1) * a ≤ a * n + b - ((j : Int) + 1) * m
      · rw [if_pos c, if_pos (by omega)]
      · rw [if_neg c, if_neg (by omega)]
    · have : (a * n + b - ((j : Int) + 1) * m) / a ≤ (a * n) / a := Int.ediv_le_ediv ha (by omega)
      rw [Int.mul_ediv_cancel_left _ (Int.ne_of_gt ha)] at this
      exact this
  rw [e2, ← sZ_rev]
  refine sZ_congr fun t ht => ?_
  have er := Int.emod_add_mul_ediv (a * n + b) m
  show (a * n + b - (((N - 1 - t : Nat) : Int) + 1) * m) / a = (m * t + (a * n + b) % m) / a
  congr 1
  rw [show ((N - 1 - t : Nat) : Int) + 1 = (N : Int) - t by omega, Int.sub_mul, hN, Int.mul_comm _ m, Int.mul_comm _ m]
  omega
theorem QS_zero {a b m : Int} (ha : 0 ≤ a) (hb : 0 ≤ b) (n : Nat) (h : a * n + b < m) : QS a b m n = 0 := by
  unfold QS
  have e : sZ (fun i => (a * (i : Int) + b) / m) n = sZ (fun _ => 0) n := sZ_congr fun i hi => by
    have h1 : a * (i : Int) ≤ a * (n : Int) := Int.mul_le_mul_of_nonneg_left (by omega) ha
    exact Int.ediv_eq_zero_of_lt (by have := Int.mul_nonneg ha (Int.natCast_nonneg i); omega) (by omega)
  rw [e, sZ_zero]
/-! ### how many x from first on -/
def cN (p : Int → Bool) (first : Int) (n : Nat) : Int := sZ (fun i => if p (first + i) = true then 1 else 0) n
def tot (p : Int → Bool) (first last : Int) : Int := cN p first (last - first + 1).toNat
theorem tot_nonneg (p : Int → Bool) (first last : Int) : 0 ≤ tot p first last := sZ_nonneg fun i _ => by
  show 0 ≤ (if p (first + i) = true then (1 : Int) else 0)
  split <;> decide
theorem tot_none {p : Int → Bool} {first last : Int} (h : last < first) : tot p first last = 0 := by
  unfold tot
  rw [show (last - first + 1).toNat = 0 by omega]
  rfl
theorem tot_step (p : Int → Bool) {first last : Int} (h : first ≤ last) : tot p first last = tot p first (last - 1) + (if p last = true then 1 else 0) := by
  unfold tot
  rw [show (last - first + 1).toNat = (last - 1 - first + 1).toNat + 1 by omega]
  show cN p first _ + (if p (first + (((last - 1 - first + 1).toNat : Nat) : Int)) = true then 1 else 0) = _
  rw [show first + (((last - 1 - first + 1).toNat : Nat) : Int) = last by omega]
theorem tot_split (p : Int → Bool) {first mid last : Int} (h1 : first - 1 ≤ mid) (h2 : mid ≤ last) : tot p first last = tot p first mid + tot p (mid + 1) last := by
  unfold tot cN
  rw [show (last - first + 1).toNat = (mid - first + 1).toNat + (last - (mid + 1) + 1).toNat by omega, sZ_split]
  congr 1
  refine sZ_congr fun i _ => ?_
  rw [show first + (((mid - first + 1).toNat + i : Nat) : Int) = mid + 1 + i by omega]
theorem tot_mono (p : Int → Bool) {first m n : Int} (h : m ≤ n) : tot p first m ≤ tot p first n := by
  by_cases c : first - 1 ≤ m
  · rw [tot_split p c h]
    have := tot_nonneg p (m + 1) n
    omega
  · rw [tot_none (p := p) (show m < first by omega)]
    exact tot_nonneg p first n
theorem tot_one (p : Int → Bool) (x : Int) : tot p x x = if p x = true then 1 else 0 := by
  rw [tot_step p (Int.le_refl x), tot_none (show x - 1 < x by omega)]; omega
theorem tot_congr {p q : Int → Bool} {first last : Int} (h : ∀ x, first ≤ x → x ≤ last → p x = q x) : tot p first last = tot q first last := by
  unfold tot cN
  refine sZ_congr fun i hi => ?_
  rw [h (first + i) (by omega) (by omega)]
theorem tot_pos {p : Int → Bool} {first last x : Int} (h1 : first ≤ x) (h2 : x ≤ last) (hp : p x = true) : 0 < tot p first last := by
  have a := tot_mono p (first := first) h2
  rw [tot_step p h1, if_pos hp] at a
  have := tot_nonneg p first (x - 1)
  omega
theorem tot_zero_iff {p : Int → Bool} {first last : Int} : tot p first last = 0 ↔ ∀ x, first ≤ x → x ≤ last → p x = false := by
  constructor
  · intro h x h1 h2
    cases e : p x with
    | false => rfl
    | true => have := tot_pos h1 h2 e; omega
  · intro h
    rw [tot_congr (q := fun _ => false) h]
    unfold tot cN
    rw [show (fun i : Nat => if (fun _ : Int => false) (first + i) = true then (1 : Int) else 0) = fun _ => 0 from rfl, sZ_zero]
theorem tot_le (p : Int → Bool) {first last : Int} (h : first ≤ last + 1) : tot p first last ≤ last - first + 1 := by
  have key : ∀ n : Nat, cN p first n ≤ n := fun n => by
    induction n with
    | zero => exact Int.le_refl 0
    | succ n ih =>
      show cN p first n + (if p (first + n) = true then 1 else 0) ≤ _
      split <;> omega
  have := key (last - first + 1).toNat
  unfold tot
  omega
theorem tot_all_iff {p : Int → Bool} {first last : Int} (h : first ≤ last + 1) : tot p first last = last - first + 1 ↔ ∀ x, first ≤ x → x ≤ last → p x = true := by
  have neg : tot p first last + tot (fun x => !p x) first last = last - first + 1 := by
    unfold tot cN
    rw [← sZ_add, sZ_congr (g := fun _ => 1) fun i _ => (by show ((if p (first + i) = true then (1 : Int) else 0) + if (!p (first + i)) = true then 1 else 0) = 1; cases p (first + i) <;> rfl), sZ_const]
    omega
  constructor
  · intro e x h1 h2
    have := tot_zero_iff.mp (show tot (fun x => !p x) first last = 0 by omega) x h1 h2
    cases q : p x with
    | true => rfl
    | false => rw [q] at this; cases this
  · intro e
    have : tot (fun x => !p x) first last = 0 := tot_zero_iff.mpr fun x h1 h2 => by
      show (!p x) = false
      rw [e x h1 h2]; rfl
    omega
theorem tot_not {p : Int → Bool} {first last : Int} (h : first ≤ last + 1) : tot (fun x => !p x) first last = last - first + 1 - tot p first last := by
  have neg : tot p first last + tot (fun x => !p x) first last = last - first + 1 := by
    unfold tot cN
    rw [← sZ_add, sZ_congr (g := fun _ => 1) fun i _ => (by show ((if p (first + i) = true then (1 : Int) else 0) + if (!p (first + i)) = true then 1 else 0) = 1; cases p (first + i) <;> rfl), sZ_const]
    omega
  omega
/-- moving along -/
theorem tot_shift (p : Int → Bool) (first last d : Int) : tot (fun x => p (x + d)) first last = tot p (first + d) (last + d) := by
  unfold tot cN
  rw [show (last + d - (first + d) + 1).toNat = (last - first + 1).toNat by omega]
  refine sZ_congr fun i _ => ?_
  show (if p (first + (i : Int) + d) = true then (1 : Int) else 0) = _
  rw [show first + (i : Int) + d = first + d + i by omega]
/-- turning round -/
theorem tot_turn (p : Int → Bool) (first last : Int) : tot (fun x => p (-x)) first last = tot p (-last) (-first) := by
  unfold tot cN
  rw [show (-first - -last + 1).toNat = (last - first + 1).toNat by omega, ← sZ_rev]
  refine sZ_congr fun i hi => ?_
  show (if p (-(first + (((last - first + 1).toNat - 1 - i : Nat) : Int))) = true then (1 : Int) else 0) = _
  rw [show -(first + (((last - first + 1).toNat - 1 - i : Nat) : Int)) = -last + i by omega]
/-! ### the results of a line within bounds -/
/-- of the integers that are equal to y modulo m, one is from lo to hi -/
def inR (m lo hi y : Int) : Bool := decide (lo ≤ hi ∧ (y - lo) % m ≤ hi - lo)
theorem inR_quot {m lo hi : Int} (hm : 0 < m) (h1 : lo ≤ hi) (h2 : hi - lo < m) (y : Int) : (y - lo) / m - (y - hi - 1) / m = if inR m lo hi y = true then 1 else 0 := by
  have d1 := Int.emod_add_mul_ediv (y - lo) m
  have r0 := Int.emod_nonneg (y - lo) (Int.ne_of_gt hm)
  have r1 := Int.emod_lt_of_pos (y - lo) hm
  unfold inR
  by_cases c : (y - lo) % m ≤ hi - lo
  · rw [if_pos (decide_eq_true ⟨h1, c⟩)]
    have e : y - hi - 1 = ((y - lo) % m + (m - (hi - lo) - 1)) + m * ((y - lo) / m - 1) := by
      rw [Int.mul_sub, Int.mul_one]; omega
    have z := Int.ediv_eq_zero_of_lt (a := (y - lo) % m + (m - (hi - lo) - 1)) (b := m) (by omega) (by omega)
    rw [e, Int.add_mul_ediv_left _ _ (Int.ne_of_gt hm), z]
    omega
  · rw [if_neg (by rw [decide_eq_true_eq]; exact fun z => c z.2)]
    have e : y - hi - 1 = ((y - lo) % m - (hi - lo) - 1) + m * ((y - lo) / m) := by omega
    have z := Int.ediv_eq_zero_of_lt (a := (y - lo) % m - (hi - lo) - 1) (b := m) (by omega) (by omega)
    rw [e, Int.add_mul_ediv_left _ _ (Int.ne_of_gt hm), z]
    omega
/-- what quotient_total tells -/
def QT (a b m first last : Int) : Int := sZ (fun i => (a * (first + i) + b) / m) (last - first + 1).toNat
theorem QT_QS (a b m first last : Int) : QT a b m first last = QS a (b + a * first) m (last - first + 1).toNat := by
  unfold QT QS
  refine sZ_congr fun i _ => ?_
  rw [Int.mul_add]
  congr 1; omega
theorem QT_between {a b m first last lo hi : Int} (hm : 0 < m) (h1 : lo ≤ hi) (h2 : hi - lo < m) : QT a (b - lo) m first last - QT a (b - hi - 1) m first last = tot (fun x => inR m lo hi (a * x + b)) first last := by
  unfold QT tot cN
  rw [← sZ_sub]
  refine sZ_congr fun i _ => ?_
  rw [← inR_quot hm h1 h2]
  rw [show a * (first + (i : Int)) + (b - lo) = a * (first + (i : Int)) + b - lo by omega, show a * (first + (i : Int)) + (b - hi - 1) = a * (first + (i : Int)) + b - hi - 1 by omega]
theorem inR_none {m lo hi : Int} (h : hi < lo) (y : Int) : inR m lo hi y = false := decide_eq_false fun z => by omega
theorem tot_never {p : Int → Bool} (h : ∀ x, p x = false) (first last : Int) : tot p first last = 0 := tot_zero_iff.mpr fun x _ _ => h x
end Fw
namespace Fw
/-! ### the wanted ones, in a row -/
def wl (p : Int → Bool) (f : Int) (n : Nat) : List Int := ((List.range n).map fun i : Nat => f + (i : Int)).filter p
theorem wl_succ (p : Int → Bool) (f : Int) (n : Nat) : wl p f (n + 1) = wl p f n ++ (if p (f + n) = true then [f + (n : Int)] else []) := by
  unfold wl
  rw [List.range_succ, List.map_append, List.filter_append, List.map_singleton]
  congr 1
  cases h : p (f + (n : Int)) with
  | true => rw [List.filter_cons_of_pos h, if_pos rfl]; rfl
  | false => rw [List.filter_cons_of_neg (by rw [h]; exact Bool.false_ne_true), if_neg Bool.false_ne_true]; rfl
theorem wl_len (p : Int → Bool) (f : Int) : ∀ n : Nat, ((wl p f n).length : Int) = cN p f n
  | 0 => rfl
  | n + 1 => by
    rw [wl_succ, List.length_append]
    show _ = cN p f n + (if p (f + n) = true then 1 else 0)
    rw [← wl_len p f n]
    split <;> simp
theorem wl_tot {p : Int → Bool} {f l : Int} {n : Nat} (h : l - f + 1 = n) : ((wl p f n).length : Int) = tot p f l := by
  rw [wl_len]
  unfold tot
  rw [show (l - f + 1).toNat = n by omega]
theorem wl_mem {p : Int → Bool} {f : Int} {n : Nat} {x : Int} : x ∈ wl p f n ↔ f ≤ x ∧ x < f + n ∧ p x = true := by
  unfold wl
  rw [List.mem_filter, List.mem_map]
  constructor
  · rintro ⟨⟨i, hi, rfl⟩, h⟩
    have := List.mem_range.mp hi
    exact ⟨by omega, by omega, h⟩
  · rintro ⟨h1, h2, h3⟩
    exact ⟨⟨(x - f).toNat, List.mem_range.mpr (by omega), by omega⟩, h3⟩
/-- number k has k ahead -/
theorem wl_get {p : Int → Bool} {f : Int} : ∀ {n k : Nat} {x : Int}, (wl p f n)[k]? = some x → f ≤ x ∧ x < f + n ∧ p x = true ∧ tot p f (x - 1) = k
  | 0, k, x, h => by simp [wl] at h
  | n + 1, k, x, h => by
    rw [wl_succ] at h
    by_cases c : k < (wl p f n).length
    · rw [List.getElem?_append_left c] at h
      obtain ⟨a, b, d, e⟩ := wl_get h
      exact ⟨a, by omega, d, e⟩
    · rw [List.getElem?_append_right (by omega)] at h
      by_cases hp : p (f + n) = true
      · rw [if_pos hp] at h
        have e0 : k - (wl p f n).length = 0 := by
          have := (List.getElem?_eq_some_iff.mp h).1
          simpa using this
        rw [e0] at h
        have ex : f + (n : Int) = x := by simpa using h
        subst ex
        refine ⟨by omega, by omega, hp, ?_⟩
        rw [← wl_tot (n := n) (by omega)]
        omega
      · rw [if_neg hp] at h
        simp at h
theorem at_unique {p : Int → Bool} {f x y j : Int} (x1 : f ≤ x) (px : p x = true) (xj : tot p f (x - 1) = j) (y1 : f ≤ y) (py : p y = true) (yj : tot p f (y - 1) = j) : x = y := by
  rcases Int.lt_trichotomy x y with h | h | h
  · have := tot_mono p (first := f) (show x ≤ y - 1 by omega)
    rw [tot_step p x1, if_pos px] at this
    omega
  · exact h
  · have := tot_mono p (first := f) (show y ≤ x - 1 by omega)
    rw [tot_step p y1, if_pos py] at this
    omega
theorem wl_at {p : Int → Bool} {f : Int} {n k : Nat} {x y : Int} (h : (wl p f n)[k]? = some x) (y1 : f ≤ y) (py : p y = true) (yj : tot p f (y - 1) = k) : y = x := by
  obtain ⟨a, _, c, d⟩ := wl_get h
  exact at_unique y1 py yj a c d
theorem wl_nil {p : Int → Bool} {f l : Int} {n : Nat} (h : l - f + 1 = n) : wl p f n = [] ↔ tot p f l = 0 := by
  rw [← wl_tot h, ← List.length_eq_zero_iff]; omega
end Fw
namespace Fw
open PySem PySem.Spec PyProof.Rows L2
/-! ### ranges of any ints -/
theorem turn_long {P : Program} {w : World} {K : PySem.W.Frag} {tg : Expr} (it : Addr) (lo : Int) (n : Nat) : Turn P w K tg (Itr lo n) [it] it (fun i h => IsLongIter h it (lo + (i : Nat) * 1) ((n : Int) - (i : Nat)) 1) where
  mem := by simp
  obj := fun i h st b hb => by
    have e : b = it := by simpa using hb
    subst e
    exact ⟨_, st, fun v z => by
      have z' : Data.fields _ = Data.cell v := z
      cases z'⟩
  keep := fun i h h' st k => k it (by simp) _ st
  item := by
    intro X hP hw hK hc i pins s σ H E I hf st hg
    subst hP hw hK
    obtain ⟨f0, f1, f2, f3, f4, f5⟩ := hf it (by simp)
    have W := Walks.longrange (prog := X.prog) (w := X.w) (I.ok.hd hc) it lo 1 n
    refine W.item i s _ _ hg st fun v h' tk hv st' kk => ?_
    obtain ⟨t, rfl⟩ := hv
    have I1 : Inv X pins σ H { s with heap := h', toks := tk } := I.turned (fun b o hb e => kk b o (by simpa using hb) e) f0 f1 f3 f4 f5
    refine ⟨_, rfl, go_of (s := { s with heap := h', toks := tk }) (n := "longrange_iterator") st' rfl rfl (by decide) ⟨.int (lo + i), H, I1, ⟨t, ?_⟩, ⟨rfl, rfl⟩, st', fun b hb => (hf b hb).1⟩⟩
    rw [Int.mul_one]
  done := by
    intro X hP hw hK hc i pins s σ H E I hf st hg
    subst hP hw hK
    obtain ⟨f0, f1, f2, f3, f4, f5⟩ := hf it (by simp)
    exact wpAny_pyNext_long_end (I.ok.hd hc) st (by have : n ≤ i := hg; omega) fun h' eb => ⟨rfl, I.turned (t' := s.toks) (fun b o hb e => eb b o hb e) f0 f1 f3 f4 f5⟩
  self := fun _ _ _ _ _ st h => wpAny_pyIter_longiter st h
section
variable {X : Cx} {tg : Expr}
theorem range_itL {pins : List (Addr × Obj)} {σ : L2.St} {H : Hp} {s : Shared} {R : It → Hp → Prop} {E : Value → Shared → Prop} {lo hi : Int} {t u v : Tok} {tk : Nat} (I : Inv X pins σ H s)
    (q : R (Itr lo (hi - lo).toNat) H) : wpAny (model X.prog X.w) X.A (pyIter (.ref s.heap.objs.size)) (PIE X pins σ tg R) E { s with heap := s.heap.push { cls := .type "range", data := .fields #[.int lo t, .int hi u, .int 1 v] }, toks := tk } := by
  have I1 : Inv X pins σ H { s with heap := s.heap.push { cls := .type "range", data := .fields #[.int lo t, .int hi u, .int 1 v] }, toks := tk } := I.kept fun b o e => Heap.get?_push_of_some _ e
  have e1 : lo + ((0 : Nat) : Int) * 1 = lo := by simp
  have e2 : (((hi - lo).toNat : Nat) : Int) - ((0 : Nat) : Int) = Builtin.Range.rangeSize lo hi 1 := by rw [rangeSize_one]; split <;> omega
  cases hsm : Builtin.Range.small lo hi 1 with
  | true =>
    refine wpAny_pyIter_range (IsRange.new ..) hsm ?_
    refine ⟨(s.heap.push { cls := .type "range", data := .fields #[.int lo t, .int hi u, .int 1 v] }).objs.size, [(s.heap.push { cls := .type "range", data := .fields #[.int lo t, .int hi u, .int 1 v] }).objs.size], _, _, H, rfl,
      I1.kept (t' := tk) fun b o e => Heap.get?_push_of_some _ e, turn_range _ lo (hi - lo).toNat, ?_, fun b hb => ?_, q⟩
    · show IsRangeIter _ _ (lo + ((0 : Nat) : Int) * 1) ((((hi - lo).toNat : Nat) : Int) - ((0 : Nat) : Int)) 1
      rw [e1, e2]
      exact Heap.get?_push_size _ rfl
    · have e : b = (s.heap.push { cls := .type "range", data := .fields #[.int lo t, .int hi u, .int 1 v] }).objs.size := by simpa using hb
      subst e
      exact I1.fpOk (Nat.le_refl _) (I1.hok.fresh (Nat.le_refl _))
  | false =>
    refine wpAny_pyIter_longrange (IsRange.new ..) hsm ?_
    refine ⟨(s.heap.push { cls := .type "range", data := .fields #[.int lo t, .int hi u, .int 1 v] }).objs.size, [(s.heap.push { cls := .type "range", data := .fields #[.int lo t, .int hi u, .int 1 v] }).objs.size], _, _, H, rfl,
      I1.kept (t' := tk) fun b o e => Heap.get?_push_of_some _ e, turn_long _ lo (hi - lo).toNat, ?_, fun b hb => ?_, q⟩
    · show IsLongIter _ _ (lo + ((0 : Nat) : Int) * 1) ((((hi - lo).toNat : Nat) : Int) - ((0 : Nat) : Int)) 1
      rw [e1, e2]
      exact Heap.get?_push_size _ rfl
    · have e : b = (s.heap.push { cls := .type "range", data := .fields #[.int lo t, .int hi u, .int 1 v] }).objs.size := by simpa using hb
      subst e
      exact I1.fpOk (Nat.le_refl _) (I1.hok.fresh (Nat.le_refl _))
def iRngL (ta : TA) : TI := fun σ H R => ta σ H fun vs H1 => ∃ i j : Int, vs = [.int i, .int j] ∧ R (Itr i (j - i).toNat) H1
theorem pi_rangeL {a b : Expr} {ta : TA} {p pos : Pos} (hg : Gl X "range") (hm : X.mg "range" = none) (ha : PA X [a, b] ta) (hs : starEach [a, b] X.env = [(false, eval a X.env), (false, eval b X.env)] := by rfl) (hs2 : starEach [b] X.env = [(false, eval b X.env)] := by rfl) :
    PI X tg (.Call (.Name "range" p) [a, b] [] pos) (iRngL ta) := by
  refine ⟨fun pins s σ H R I h => ?_⟩
  refine Call_ (ld_blt I hg hm boot_range (PyProof.Rows.callWith_type1 (thn (ha.run pos pins s σ H _ I h) fun us s1 ⟨vs, H1, I1, r1, q1⟩ => ?_) (by rw [hs, hs2]) (by rw [hs2]; rfl)))
  obtain ⟨i, j, e, q⟩ := q1
  subst e
  cases r1 with
  | cons r rr =>
    cases rr with
    | cons r' rr =>
      cases rr
      obtain ⟨t, rfl⟩ := r
      obtain ⟨t', rfl⟩ := r'
      exact call_range_2 (range_itL I1 q)
end
end Fw
namespace Fw
/-! ### walks around a circle -/
structure Wk where
  (s t m e k r : Int)
def hn (s t p : Int) : Int := if s ≤ p + t then p + t - s else p + t
def hc (w : Wk) (p : Int) : Int := w.e + (if p < w.m then w.k else 0) + (if w.s ≤ p + w.t then w.r else 0)
def hP (w : Wk) : Nat → Int → Int
  | 0, p => p
  | n + 1, p => hn w.s w.t (hP w n p)
def hC (w : Wk) : Nat → Int → Int
  | 0, _ => 0
  | n + 1, p => hC w n p + hc w (hP w n p)
theorem hP_add (w : Wk) (m : Nat) (p : Int) : ∀ n : Nat, hP w (m + n) p = hP w n (hP w m p)
  | 0 => rfl
  | n + 1 => by
    show hn w.s w.t (hP w (m + n) p) = hn w.s w.t (hP w n (hP w m p))
    rw [hP_add w m p n]
theorem hC_add (w : Wk) (m : Nat) (p : Int) : ∀ n : Nat, hC w (m + n) p = hC w m p + hC w n (hP w m p)
  | 0 => by show hC w m p = hC w m p + 0; omega
  | n + 1 => by
    show hC w (m + n) p + hc w (hP w (m + n) p) = hC w m p + (hC w n (hP w m p) + hc w (hP w n (hP w m p)))
    rw [hC_add w m p n, hP_add w m p n]; omega
structure WF (w : Wk) : Prop where
  s0 : 0 < w.s
  t0 : 0 ≤ w.t
  ts : w.t < w.s
  m0 : 0 ≤ w.m
  ms : w.m ≤ w.s
  nn : ∀ p, 0 ≤ p → p < w.s → 0 ≤ hc w p
theorem hP_rng {w : Wk} (h : WF w) {p : Int} (p0 : 0 ≤ p) (p1 : p < w.s) : ∀ n : Nat, 0 ≤ hP w n p ∧ hP w n p < w.s
  | 0 => ⟨p0, p1⟩
  | n + 1 => by
    obtain ⟨a, b⟩ := hP_rng h p0 p1 n
    have t0 := h.t0
    have ts := h.ts
    show 0 ≤ hn w.s w.t (hP w n p) ∧ hn w.s w.t (hP w n p) < w.s
    unfold hn
    split <;> omega
theorem hC_nn {w : Wk} (h : WF w) {p : Int} (p0 : 0 ≤ p) (p1 : p < w.s) : ∀ n : Nat, 0 ≤ hC w n p
  | 0 => Int.le_refl _
  | n + 1 => by
    have a := hC_nn h p0 p1 n
    obtain ⟨b, c⟩ := hP_rng h p0 p1 n
    have := h.nn _ b c
    show 0 ≤ hC w n p + hc w (hP w n p)
    omega
theorem hC_mono {w : Wk} (h : WF w) {p : Int} (p0 : 0 ≤ p) (p1 : p < w.s) {m n : Nat} (hmn : m ≤ n) : hC w m p ≤ hC w n p := by
  obtain ⟨k, rfl⟩ : ∃ k, n = m + k := ⟨n - m, by omega⟩
  rw [hC_add]
  obtain ⟨a, b⟩ := hP_rng h p0 p1 m
  have := hC_nn h a b k
  omega
/-- n steps are done within the budget b, one more is not; g is left -/
def hT (w : Wk) (p b : Int) (n : Nat) (g : Int) : Prop := hC w n p + g = b ∧ 0 ≤ g ∧ g < hc w (hP w n p)
theorem hT_lt {w : Wk} (h : WF w) {p b g : Int} {n N : Nat} (p0 : 0 ≤ p) (p1 : p < w.s) (t : hT w p b n g) (hN : b < hC w N p) : n < N := by
  refine Nat.lt_of_not_le fun c => ?_
  have := hC_mono h p0 p1 c
  have := t.1
  have := t.2.1
  omega
theorem hT_ge {w : Wk} (h : WF w) {p b g : Int} {n N : Nat} (p0 : 0 ≤ p) (p1 : p < w.s) (t : hT w p b n g) (hN : hC w N p ≤ b) : N ≤ n := by
  refine Nat.le_of_not_lt fun c => ?_
  have h1 := hC_mono h p0 p1 (show n + 1 ≤ N from c)
  have h2 : hC w (n + 1) p = hC w n p + hc w (hP w n p) := rfl
  have := t.1
  have := t.2.2
  omega
/-! ceilings -/
theorem hceil {b t m i : Int} (ht : 0 < t) : b + i * t < m ↔ i < -((b - m) / t) := by
  have e := Int.ediv_lt_iff_lt_mul (a := b - m) (b := -i) ht
  rw [Int.neg_mul] at e
  constructor
  · intro h
    have := e.mpr (by omega)
    omega
  · intro h
    have := e.mp (by omega)
    omega
def Wk.mst (w : Wk) (b : Int) : Int := max 0 (-((b - w.m) / w.t))
def Wk.most (w : Wk) (b : Int) : Int := -((b - w.s) / w.t) - 1
def Wk.cost (w : Wk) (b n : Int) : Int := n * w.e + min n (w.mst b) * w.k
theorem mst_iff {w : Wk} (ht : 0 < w.t) {b i : Int} (hi : 0 ≤ i) : i < w.mst b ↔ b + i * w.t < w.m := by
  rw [hceil ht]; unfold Wk.mst; omega
theorem most_iff {w : Wk} (ht : 0 < w.t) {b i : Int} : i ≤ w.most b ↔ b + i * w.t < w.s := by
  rw [hceil ht]; unfold Wk.most; omega
/-- within a lap -/
theorem lap_in {w : Wk} (h : WF w) (ht : 0 < w.t) {b : Int} (b0 : 0 ≤ b) : ∀ n : Nat, (n : Int) ≤ w.most b → hP w n b = b + n * w.t ∧ hC w n b = w.cost b n
  | 0, _ => by
    refine ⟨?_, ?_⟩
    · show b = b + (0 : Nat) * w.t
      rw [show ((0 : Nat) : Int) = 0 from rfl, Int.zero_mul]; omega
    · show (0 : Int) = w.cost b (0 : Nat)
      unfold Wk.cost
      have : 0 ≤ w.mst b := by unfold Wk.mst; omega
      rw [show ((0 : Nat) : Int) = 0 from rfl, Int.zero_mul, show min 0 (w.mst b) = 0 by omega, Int.zero_mul]; rfl
  | n + 1, hn' => by
    obtain ⟨e1, e2⟩ := lap_in h ht b0 n (by omega)
    have a1 := (most_iff (w := w) ht).mp hn'
    have e3 : ((n + 1 : Nat) : Int) * w.t = n * w.t + w.t := by rw [Int.natCast_succ, Int.add_mul, Int.one_mul]
    have m1 := mst_iff (w := w) ht (b := b) (i := (n : Int)) (by omega)
    constructor
    · show hn w.s w.t (hP w n b) = _
      unfold hn
      rw [e1, if_neg (by omega), e3]; omega
    · show hC w n b + hc w (hP w n b) = _
      rw [e2, e1]
      unfold hc Wk.cost
      rw [if_neg (show ¬ w.s ≤ b + n * w.t + w.t by omega)]
      have e4 : ((n + 1 : Nat) : Int) * w.e = n * w.e + w.e := by rw [Int.natCast_succ, Int.add_mul, Int.one_mul]
      by_cases c : b + n * w.t < w.m
      · have c2 := m1.mpr c
        rw [if_pos c, show min (n : Int) (w.mst b) = n by omega, show min ((n + 1 : Nat) : Int) (w.mst b) = (n : Int) + 1 by omega, e4, Int.add_mul, Int.one_mul]; omega
      · have c2 := fun z => c (m1.mp z)
        rw [if_neg c, show min (n : Int) (w.mst b) = w.mst b by omega, show min ((n + 1 : Nat) : Int) (w.mst b) = w.mst b by omega, e4]; omega
def Wk.lng (w : Wk) : Int := -(-w.s / w.t)
def Wk.laps (w : Wk) : Wk := ⟨w.t, w.lng * w.t - w.s, w.m % w.t, w.lng * w.e + w.m / w.t * w.k + w.r, w.k, -w.e⟩
theorem lng_b {w : Wk} (ht : 0 < w.t) : w.s ≤ w.lng * w.t ∧ w.lng * w.t < w.s + w.t := by
  have e := Int.mul_ediv_add_emod (-w.s) w.t
  have r0 := Int.emod_nonneg (-w.s) (Int.ne_of_gt ht)
  have r1 := Int.emod_lt_of_pos (-w.s) ht
  unfold Wk.lng
  rw [Int.neg_mul, Int.mul_comm]
  omega
theorem mst_val {w : Wk} (h : WF w) (ht : 0 < w.t) {b : Int} (b0 : 0 ≤ b) (b1 : b < w.t) : w.mst b = w.m / w.t + (if b < w.m % w.t then 1 else 0) := by
  have e := Int.mul_ediv_add_emod w.m w.t
  have r0 := Int.emod_nonneg w.m (Int.ne_of_gt ht)
  have r1 := Int.emod_lt_of_pos w.m ht
  have q0 : 0 ≤ w.m / w.t := Int.ediv_nonneg h.m0 (Int.le_of_lt ht)
  have key : ∀ i : Int, 0 ≤ i → (i < w.mst b ↔ i < w.m / w.t + (if b < w.m % w.t then 1 else 0)) := fun i i0 => by
    rw [mst_iff ht i0]
    rw [Int.mul_comm i]
    rw [Int.mul_comm] at e
    rw [Int.mul_comm w.t]
    constructor
    · intro z
      by_cases c : i < w.m / w.t
      · split <;> omega
      · have := Int.mul_le_mul_of_nonneg_right (show w.m / w.t ≤ i by omega) (Int.le_of_lt ht)
        by_cases c2 : i = w.m / w.t
        · rw [c2] at z
          rw [if_pos (by omega)]; omega
        · have := Int.mul_le_mul_of_nonneg_right (show w.m / w.t + 1 ≤ i by omega) (Int.le_of_lt ht)
          rw [Int.add_mul, Int.one_mul] at this
          omega
    · intro z
      by_cases c : i < w.m / w.t
      · have := Int.mul_le_mul_of_nonneg_right (show i + 1 ≤ w.m / w.t by omega) (Int.le_of_lt ht)
        rw [Int.add_mul, Int.one_mul] at this
        omega
      · split at z
        · have c2 : i = w.m / w.t := by omega
          rw [c2]; omega
        · omega
  have n0 : 0 ≤ w.mst b := by unfold Wk.mst; omega
  have n1 : 0 ≤ w.m / w.t + (if b < w.m % w.t then (1 : Int) else 0) := by split <;> omega
  generalize w.m / w.t + (if b < w.m % w.t then (1 : Int) else 0) = z at *
  rcases Int.lt_trichotomy (w.mst b) z with c | c | c
  · have := (key _ n0).mpr c; omega
  · exact c
  · have := (key _ n1).mp c; omega
/-- a whole lap is a step of the walk of laps -/
theorem lap_one {w : Wk} (h : WF w) (ht : 0 < w.t) {b : Int} (b0 : 0 ≤ b) (b1 : b < w.t) : ∃ L : Nat, (L : Int) = w.most b + 1 ∧ 1 ≤ L ∧ hP w L b = hn w.laps.s w.laps.t b ∧ hC w L b = hc w.laps b ∧ b + L * w.t - w.s = hn w.laps.s w.laps.t b := by
  have ts := h.ts
  obtain ⟨l1, l2⟩ := lng_b (w := w) ht
  have mo0 : 0 ≤ w.most b := (most_iff (w := w) ht).mpr (by rw [Int.zero_mul]; omega)
  obtain ⟨n, hn'⟩ := Int.eq_ofNat_of_zero_le mo0
  obtain ⟨e1, e2⟩ := lap_in h ht b0 n (by omega)
  have a1 := (most_iff (w := w) ht (b := b) (i := (n : Int))).mp (by omega)
  have a2 : ¬ b + ((n : Int) + 1) * w.t < w.s := fun z => by
    have := (most_iff (w := w) ht).mpr z
    omega
  rw [Int.add_mul, Int.one_mul] at a2
  have e3 : ((n + 1 : Nat) : Int) * w.t = n * w.t + w.t := by rw [Int.natCast_succ, Int.add_mul, Int.one_mul]
  have pos : b + (n * w.t + w.t) - w.s = hn w.laps.s w.laps.t b := by
    show _ = hn w.t (w.lng * w.t - w.s) b
    unfold hn
    -- n + 1 is lng or one less
    have c1 : (n : Int) + 1 ≤ w.lng := by
      refine Int.not_lt.mp fun z => ?_
      have := Int.mul_le_mul_of_nonneg_right (show w.lng ≤ (n : Int) by omega) (Int.le_of_lt ht)
      omega
    have c2 : w.lng ≤ (n : Int) + 2 := by
      refine Int.not_lt.mp fun z => ?_
      have := Int.mul_le_mul_of_nonneg_right (show (n : Int) + 3 ≤ w.lng by omega) (Int.le_of_lt ht)
      rw [Int.add_mul] at this
      omega
    by_cases c : w.lng = (n : Int) + 1
    · have : w.lng * w.t = n * w.t + w.t := by rw [c, Int.add_mul, Int.one_mul]
      rw [if_neg (by omega)]; omega
    · have c3 : w.lng = (n : Int) + 2 := by omega
      have : w.lng * w.t = n * w.t + 2 * w.t := by rw [c3, Int.add_mul]
      rw [if_pos (by omega)]; omega
  refine ⟨n + 1, by omega, by omega, ?_, ?_, by rw [e3]; exact pos⟩
  · show hn w.s w.t (hP w n b) = _
    rw [← pos, e1]
    unfold hn
    rw [if_pos (by omega)]; omega
  · show hC w n b + hc w (hP w n b) = _
    rw [e2, e1]
    have mv := mst_val h ht b0 b1
    have mm : ∀ i : Int, 0 ≤ i → (i < w.mst b ↔ b + i * w.t < w.m) := fun i hi => mst_iff ht hi
    have mn := mm (n : Int) (by omega)
    have ml : w.mst b ≤ (n : Int) + 1 := by
      refine Int.not_lt.mp fun z => ?_
      have := (mm ((n : Int) + 1) (by omega)).mp z
      rw [Int.add_mul, Int.one_mul] at this
      have := h.ms
      omega
    have lhs : w.cost b n + hc w (b + n * w.t) = (n + 1) * w.e + w.mst b * w.k + w.r := by
      unfold Wk.cost hc
      rw [if_pos (show w.s ≤ b + n * w.t + w.t by omega), Int.add_mul, Int.one_mul]
      by_cases c : b + n * w.t < w.m
      · have := mn.mpr c
        rw [if_pos c, show min (n : Int) (w.mst b) = n by omega, show w.mst b = (n : Int) + 1 by omega, Int.add_mul, Int.one_mul]; omega
      · have := fun z => c (mn.mp z)
        rw [if_neg c, show min (n : Int) (w.mst b) = w.mst b by omega]; omega
    rw [lhs, mv]
    show _ = (w.lng * w.e + w.m / w.t * w.k + w.r) + (if b < w.m % w.t then w.k else 0) + (if w.t ≤ b + (w.lng * w.t - w.s) then -w.e else 0)
    have en : ((n : Int) + 1) * w.e = w.lng * w.e + (if w.t ≤ b + (w.lng * w.t - w.s) then -w.e else 0) := by
      have p2 := pos
      change _ = hn w.t (w.lng * w.t - w.s) b at p2
      unfold hn at p2
      split at p2
      · rename_i c
        rw [if_pos c]
        have : (w.lng - ((n : Int) + 1) - 1) * w.t = 0 := by
          rw [Int.sub_mul, Int.sub_mul, Int.add_mul, Int.one_mul]; omega
        have : w.lng - ((n : Int) + 1) - 1 = 0 := by
          rcases Int.mul_eq_zero.mp this with z | z
          · exact z
          · omega
        rw [show w.lng = (n : Int) + 1 + 1 by omega, Int.add_mul ((n : Int) + 1), Int.one_mul]; omega
      · rename_i c
        rw [if_neg c]
        have : (w.lng - ((n : Int) + 1)) * w.t = 0 := by
          rw [Int.sub_mul, Int.add_mul, Int.one_mul]; omega
        have : w.lng - ((n : Int) + 1) = 0 := by
          rcases Int.mul_eq_zero.mp this with z | z
          · exact z
          · omega
        rw [show w.lng = (n : Int) + 1 by omega]; omega
    rw [en, Int.add_mul]
    by_cases c : b < w.m % w.t
    · rw [if_pos c, if_pos c, Int.one_mul]; omega
    · rw [if_neg c, if_neg c, Int.zero_mul]; omega
theorem laps_wf {w : Wk} (h : WF w) (ht : 0 < w.t) : WF w.laps := by
  obtain ⟨l1, l2⟩ := lng_b (w := w) ht
  refine ⟨ht, by show 0 ≤ w.lng * w.t - w.s; omega, by show w.lng * w.t - w.s < w.t; omega, Int.emod_nonneg _ (Int.ne_of_gt ht), Int.le_of_lt (Int.emod_lt_of_pos _ ht), fun p p0 p1 => ?_⟩
  obtain ⟨L, _, _, _, e, _⟩ := lap_one h ht p0 p1
  rw [← e]
  exact hC_nn h p0 (by have := h.ts; have : p < w.t := p1; omega) L
/-- many laps -/
theorem lap_many {w : Wk} (h : WF w) (ht : 0 < w.t) {b : Int} (b0 : 0 ≤ b) (b1 : b < w.t) : ∀ N : Nat, ∃ S : Nat, N ≤ S ∧ hP w S b = hP w.laps N b ∧ hC w S b = hC w.laps N b ∧ b + S * w.t - N * w.s = hP w.laps N b
  | 0 => ⟨0, Nat.le_refl _, rfl, rfl, by
    show b + (0 : Nat) * w.t - (0 : Nat) * w.s = b
    rw [show ((0 : Nat) : Int) = 0 from rfl, Int.zero_mul, Int.zero_mul]; omega⟩
  | N + 1 => by
    obtain ⟨S, hS, e1, e2, e3⟩ := lap_many h ht b0 b1 N
    obtain ⟨r0, r1⟩ := hP_rng (laps_wf h ht) b0 (show b < w.laps.s from b1) N
    obtain ⟨L, _, hL, f1, f2, f3⟩ := lap_one h ht r0 r1
    refine ⟨S + L, by omega, ?_, ?_, ?_⟩
    · rw [hP_add, e1, f1]; rfl
    · rw [hC_add, e1, e2, f2]; rfl
    · show _ = hn w.laps.s w.laps.t (hP w.laps N b)
      rw [← f3, ← e3, Int.natCast_add, Int.add_mul, Int.natCast_succ, Int.add_mul, Int.one_mul]; omega
/-! mirrored -/
def Wk.mir (w : Wk) : Wk := ⟨w.s, w.s - w.t, w.s - w.m, w.e + w.k + w.r, -w.k, -w.r⟩
theorem mir_hc {w : Wk} (h : WF w) {p : Int} (p0 : 0 ≤ p) (p1 : p < w.s) : hc w.mir (w.s - 1 - p) = hc w p := by
  show (w.e + w.k + w.r) + (if w.s - 1 - p < w.s - w.m then -w.k else 0) + (if w.s ≤ w.s - 1 - p + (w.s - w.t) then -w.r else 0) = w.e + (if p < w.m then w.k else 0) + (if w.s ≤ p + w.t then w.r else 0)
  have ts := h.ts
  by_cases c1 : p < w.m
  · rw [if_neg (show ¬ w.s - 1 - p < w.s - w.m by omega), if_pos c1]
    by_cases c2 : w.s ≤ p + w.t
    · rw [if_neg (show ¬ w.s ≤ w.s - 1 - p + (w.s - w.t) by omega), if_pos c2]; omega
    · rw [if_pos (show w.s ≤ w.s - 1 - p + (w.s - w.t) by omega), if_neg c2]; omega
  · rw [if_pos (show w.s - 1 - p < w.s - w.m by omega), if_neg c1]
    by_cases c2 : w.s ≤ p + w.t
    · rw [if_neg (show ¬ w.s ≤ w.s - 1 - p + (w.s - w.t) by omega), if_pos c2]; omega
    · rw [if_pos (show w.s ≤ w.s - 1 - p + (w.s - w.t) by omega), if_neg c2]; omega
theorem mir_wf {w : Wk} (h : WF w) (ht : 0 < w.t) : WF w.mir := by
  have ts := h.ts
  have m0 := h.m0
  have ms := h.ms
  refine ⟨h.s0, by show 0 ≤ w.s - w.t; omega, by show w.s - w.t < w.s; omega, by show 0 ≤ w.s - w.m; omega, by show w.s - w.m ≤ w.s; omega, fun p p0 p1 => ?_⟩
  have p1 : p < w.s := p1
  have e := mir_hc h (p := w.s - 1 - p) (by omega) (by omega)
  rw [show w.s - 1 - (w.s - 1 - p) = p by omega] at e
  rw [e]
  exact h.nn _ (by omega) (by omega)
theorem mir_hP {w : Wk} (h : WF w) {p : Int} (p0 : 0 ≤ p) (p1 : p < w.s) : ∀ n : Nat, hP w.mir n (w.s - 1 - p) = w.s - 1 - hP w n p ∧ hC w.mir n (w.s - 1 - p) = hC w n p
  | 0 => ⟨rfl, rfl⟩
  | n + 1 => by
    obtain ⟨e1, e2⟩ := mir_hP h p0 p1 n
    obtain ⟨r0, r1⟩ := hP_rng h p0 p1 n
    constructor
    · show hn w.s (w.s - w.t) (hP w.mir n (w.s - 1 - p)) = w.s - 1 - hn w.s w.t (hP w n p)
      rw [e1]
      unfold hn
      by_cases c : w.s ≤ hP w n p + w.t
      · rw [if_pos c, if_neg (by omega)]; omega
      · rw [if_neg c, if_pos (by omega)]; omega
    · show hC w.mir n (w.s - 1 - p) + hc w.mir (hP w.mir n (w.s - 1 - p)) = hC w n p + hc w (hP w n p)
      rw [e2, e1, mir_hc h r0 r1]
theorem mir_hT {w : Wk} (h : WF w) {p b g : Int} {n : Nat} (p0 : 0 ≤ p) (p1 : p < w.s) (t : hT w.mir (w.s - 1 - p) b n g) : hT w p b n g := by
  obtain ⟨e1, e2⟩ := mir_hP h p0 p1 n
  obtain ⟨r0, r1⟩ := hP_rng h p0 p1 n
  obtain ⟨t1, t2, t3⟩ := t
  rw [e2] at t1
  rw [e1, mir_hc h r0 r1] at t3
  exact ⟨t1, t2, t3⟩
/-! as many steps of a lap as a budget allows -/
def Wk.sfor (w : Wk) (b g : Int) : Int :=
  if min (w.most b) (w.mst b) * (w.e + w.k) > g then g / (w.e + w.k)
  else if (w.most b - min (w.most b) (w.mst b)) * w.e > g - min (w.most b) (w.mst b) * (w.e + w.k) then min (w.most b) (w.mst b) + (g - min (w.most b) (w.mst b) * (w.e + w.k)) / w.e
  else w.most b
theorem sfor_ok {w : Wk} (h : WF w) (ht : 0 < w.t) {b g : Int} (b0 : 0 ≤ b) (b1 : b < w.t) (g0 : 0 ≤ g) : ∃ n : Nat, w.sfor b g = (n : Int) ∧ (n : Int) ≤ w.most b ∧ w.cost b n ≤ g ∧ ((n : Int) < w.most b → g < w.cost b ((n : Int) + 1)) := by
  have ts := h.ts
  have mo0 : 0 ≤ w.most b := (most_iff (w := w) ht).mpr (by rw [Int.zero_mul]; omega)
  have ms0 : 0 ≤ w.mst b := by unfold Wk.mst; omega
  -- what a step costs
  have stp : ∀ i : Int, 0 ≤ i → i < w.most b → 0 ≤ w.e + (if i < w.mst b then w.k else 0) := fun i i0 i1 => by
    have c1 := (most_iff (w := w) ht (b := b) (i := i + 1)).mp (by omega)
    rw [Int.add_mul, Int.one_mul] at c1
    have c2 := Int.mul_nonneg i0 (Int.le_of_lt ht)
    have e := h.nn (b + i * w.t) (by omega) (by omega)
    have c3 := mst_iff (w := w) ht (b := b) i0
    unfold hc at e
    rw [if_neg (show ¬ w.s ≤ b + i * w.t + w.t by omega)] at e
    by_cases c : i < w.mst b
    · rw [if_pos c]; rw [if_pos (c3.mp c)] at e; omega
    · rw [if_neg c]; rw [if_neg (fun z => c (c3.mpr z))] at e; omega
  unfold Wk.sfor
  obtain ⟨n0, hn0⟩ : ∃ n0, n0 = min (w.most b) (w.mst b) := ⟨_, rfl⟩
  rw [← hn0]
  have e1 : 0 ≤ n0 ∧ n0 ≤ w.most b ∧ n0 ≤ w.mst b := by omega
  have cost1 : ∀ n : Int, n ≤ n0 → w.cost b n = n * (w.e + w.k) := fun n z => by
    unfold Wk.cost
    rw [show min n (w.mst b) = n by omega, Int.mul_add]
  have cost2 : ∀ n : Int, n0 ≤ n → n ≤ w.most b → w.cost b n = n0 * (w.e + w.k) + (n - n0) * w.e := fun n z1 z2 => by
    unfold Wk.cost
    have : min n (w.mst b) = n0 := by omega
    rw [this, Int.mul_add, Int.sub_mul]; omega
  by_cases c1 : n0 * (w.e + w.k) > g
  · rw [if_pos c1]
    have n0p : 0 < n0 := by
      refine Int.not_le.mp fun z => ?_
      have : n0 = 0 := by omega
      rw [this, Int.zero_mul] at c1; omega
    have ek : 0 < w.e + w.k := by
      refine Int.not_le.mp fun z => ?_
      have := Int.mul_nonneg (show 0 ≤ n0 by omega) (show 0 ≤ -(w.e + w.k) by omega)
      rw [Int.mul_neg] at this; omega
    have q0 := Int.ediv_nonneg g0 (Int.le_of_lt ek)
    have e := Int.mul_ediv_add_emod g (w.e + w.k)
    have r0 := Int.emod_nonneg g (Int.ne_of_gt ek)
    have r1 := Int.emod_lt_of_pos g ek
    obtain ⟨n, hn'⟩ := Int.eq_ofNat_of_zero_le q0
    have lt : g / (w.e + w.k) < n0 := (Int.ediv_lt_iff_lt_mul ek).mpr c1
    rw [Int.mul_comm] at e
    refine ⟨n, hn', by omega, ?_, fun _ => ?_⟩
    · rw [cost1 _ (by omega), ← hn']; omega
    · rw [cost1 _ (by omega), ← hn', Int.add_mul, Int.one_mul]; omega
  · rw [if_neg c1]
    by_cases c2 : (w.most b - n0) * w.e > g - n0 * (w.e + w.k)
    · rw [if_pos c2]
      have lt : n0 < w.most b := by
        refine Int.not_le.mp fun z => ?_
        rw [show w.most b - n0 = 0 by omega, Int.zero_mul] at c2; omega
      have ep : 0 < w.e := by
        refine Int.not_le.mp fun z => ?_
        have := Int.mul_nonneg (show 0 ≤ w.most b - n0 by omega) (show 0 ≤ -w.e by omega)
        rw [Int.mul_neg] at this; omega
      obtain ⟨rest, hr⟩ : ∃ rest, rest = g - n0 * (w.e + w.k) := ⟨_, rfl⟩
      rw [← hr] at c2 ⊢
      have q0 := Int.ediv_nonneg (show 0 ≤ rest by omega) (Int.le_of_lt ep)
      have e := Int.mul_ediv_add_emod rest w.e
      have r0 := Int.emod_nonneg rest (Int.ne_of_gt ep)
      have r1 := Int.emod_lt_of_pos rest ep
      have lt2 : rest / w.e < w.most b - n0 := (Int.ediv_lt_iff_lt_mul ep).mpr c2
      obtain ⟨n, hn'⟩ := Int.eq_ofNat_of_zero_le (show 0 ≤ n0 + rest / w.e by omega)
      rw [Int.mul_comm] at e
      refine ⟨n, hn', by omega, ?_, fun _ => ?_⟩
      · rw [cost2 _ (by omega) (by omega), show (n : Int) - n0 = rest / w.e by omega]; omega
      · rw [cost2 _ (by omega) (by omega), show (n : Int) + 1 - n0 = rest / w.e + 1 by omega, Int.add_mul, Int.one_mul]; omega
    · rw [if_neg c2]
      obtain ⟨n, hn'⟩ := Int.eq_ofNat_of_zero_le mo0
      refine ⟨n, hn', by omega, ?_, fun z => by omega⟩
      rw [cost2 _ (by omega) (by omega), ← hn']; omega
/-- from laps back to steps -/
def Wk.steps (w : Wk) (p N : Int) : Int := -(-(N * w.s - p) / w.t)
theorem back_ok {w : Wk} (h : WF w) (ht : 0 < w.t) {p b g : Int} {N : Nat} (p0 : 0 ≤ p) (p1 : p < w.t) (t : hT w.laps p b N g) :
    ∃ S n : Nat, w.steps p N = (S : Int) ∧ 0 ≤ S * w.t - (N * w.s - p) ∧ S * w.t - (N * w.s - p) < w.t ∧ w.sfor (S * w.t - (N * w.s - p)) g = (n : Int) ∧ hT w p b (S + n) (g - w.cost (S * w.t - (N * w.s - p)) n) := by
  obtain ⟨S, hS, e1, e2, e3⟩ := lap_many h ht p0 p1 N
  obtain ⟨r0, r1⟩ := hP_rng (laps_wf h ht) p0 (show p < w.laps.s from p1) N
  have r1 : hP w.laps N p < w.t := r1
  have eb : S * w.t - (N * w.s - p) = hP w.laps N p := by omega
  have eS : w.steps p N = (S : Int) := by
    unfold Wk.steps
    have : -(N * w.s - p) = hP w.laps N p + w.t * (-(S : Int)) := by rw [Int.mul_neg, Int.mul_comm w.t]; omega
    rw [this, Int.add_mul_ediv_left _ _ (Int.ne_of_gt ht), Int.ediv_eq_zero_of_lt r0 r1]; omega
  obtain ⟨t1, t2, t3⟩ := t
  obtain ⟨n, n1, n2, n3, n4⟩ := sfor_ok h ht r0 r1 t2
  obtain ⟨i1, i2⟩ := lap_in h ht r0 n n2
  obtain ⟨L, hL, _, _, f2, _⟩ := lap_one h ht r0 r1
  refine ⟨S, n, eS, by omega, by omega, by rw [eb]; exact n1, ?_⟩
  rw [eb]
  refine ⟨?_, by omega, ?_⟩
  · rw [hC_add, e1, e2, i2]; omega
  · rw [hP_add, e1]
    by_cases c : (n : Int) < w.most (hP w.laps N p)
    · obtain ⟨_, j2⟩ := lap_in h ht r0 (n + 1) (by omega)
      have : hC w (n + 1) (hP w.laps N p) = hC w n (hP w.laps N p) + hc w (hP w n (hP w.laps N p)) := rfl
      have := n4 c
      rw [show ((n : Int) + 1) = ((n + 1 : Nat) : Int) by omega] at this
      omega
    · have eL : L = n + 1 := by omega
      rw [eL] at f2
      have : hC w (n + 1) (hP w.laps N p) = hC w n (hP w.laps N p) + hc w (hP w n (hP w.laps N p)) := rfl
      omega
/-- the walk that began where the lap of its first place does -/
theorem ahead_ok {w : Wk} (h : WF w) (ht : 0 < w.t) {p : Int} (p0 : 0 ≤ p) (p1 : p < w.s) : ∃ A : Nat, p / w.t = (A : Int) ∧ hP w A (p % w.t) = p ∧ hC w A (p % w.t) = w.cost (p % w.t) A := by
  have e := Int.mul_ediv_add_emod p w.t
  have r0 := Int.emod_nonneg p (Int.ne_of_gt ht)
  obtain ⟨A, hA⟩ := Int.eq_ofNat_of_zero_le (Int.ediv_nonneg p0 (Int.le_of_lt ht))
  rw [hA, Int.mul_comm] at e
  obtain ⟨e1, e2⟩ := lap_in h ht r0 A ((most_iff ht).mpr (by omega))
  exact ⟨A, hA, by rw [e1]; omega, e2⟩
theorem ahead_hT {w : Wk} (h : WF w) {q p b g : Int} {A X : Nat} (q0 : 0 ≤ q) (q1 : q < w.s) (b0 : 0 ≤ b) (e1 : hP w A q = p) (t : hT w q (b + hC w A q) X g) : A ≤ X ∧ hT w p b (X - A) g := by
  have ax := hT_ge h q0 q1 t (show hC w A q ≤ b + hC w A q by omega)
  obtain ⟨t1, t2, t3⟩ := t
  obtain ⟨k, rfl⟩ : ∃ k, X = A + k := ⟨X - A, by omega⟩
  rw [hC_add, e1] at t1
  rw [hP_add, e1] at t3
  rw [Nat.add_sub_cancel_left]
  exact ⟨ax, by omega, t2, t3⟩
/-- where no place changes -/
theorem base_hT {w : Wk} (h : WF w) (ht : w.t = 0) {p b : Int} {N : Nat} (p0 : 0 ≤ p) (p1 : p < w.s) (b0 : 0 ≤ b) (hN : b < hC w N p) : 0 < w.e + (if p < w.m then w.k else 0) ∧ ∃ n : Nat, b / (w.e + (if p < w.m then w.k else 0)) = (n : Int) ∧ hT w p b n (b % (w.e + (if p < w.m then w.k else 0))) := by
  have eP : ∀ n, hP w n p = p := fun n => by
    induction n with
    | zero => rfl
    | succ n ih =>
      show hn w.s w.t (hP w n p) = p
      rw [ih]
      unfold hn
      rw [if_neg (by omega), ht]; omega
  have ec : hc w p = w.e + (if p < w.m then w.k else 0) := by
    unfold hc
    rw [if_neg (show ¬ w.s ≤ p + w.t by omega)]; omega
  have eC : ∀ n : Nat, hC w n p = n * hc w p := fun n => by
    induction n with
    | zero => show (0 : Int) = (0 : Nat) * hc w p; rw [show ((0 : Nat) : Int) = 0 from rfl, Int.zero_mul]
    | succ n ih =>
      show hC w n p + hc w (hP w n p) = _
      rw [ih, eP, Int.natCast_succ, Int.add_mul, Int.one_mul]
  have c0 : 0 < hc w p := by
    refine Int.not_le.mp fun z => ?_
    rw [eC] at hN
    have := Int.mul_nonneg (show (0 : Int) ≤ N by omega) (show 0 ≤ -hc w p by omega)
    rw [Int.mul_neg] at this; omega
  rw [← ec]
  refine ⟨c0, ?_⟩
  have e := Int.mul_ediv_add_emod b (hc w p)
  obtain ⟨n, hn'⟩ := Int.eq_ofNat_of_zero_le (Int.ediv_nonneg b0 (Int.le_of_lt c0))
  rw [hn', Int.mul_comm] at e
  refine ⟨n, hn', ?_, Int.emod_nonneg _ (Int.ne_of_gt c0), ?_⟩
  · rw [eC]; exact e
  · rw [eP]; exact Int.emod_lt_of_pos _ c0
/-! how great all that is -/
structure WB (w : Wk) : Prop where
  s1 : w.s ≤ 2 ^ 129
  ex : ∃ E : Int, 0 ≤ E ∧ (-E ≤ w.e ∧ w.e ≤ E) ∧ (-E ≤ w.k ∧ w.k ≤ E) ∧ (-E ≤ w.r ∧ w.r ≤ E) ∧ E * w.s ^ 5 ≤ 2 ^ 700
theorem wb_top {s t m : Int} (s0 : 0 < s) (s1 : s ≤ 2 ^ 129) : WB ⟨s, t, m, 0, 1, 0⟩ := by
  refine ⟨s1, 1, by decide, ⟨by show -1 ≤ (0 : Int); decide, by show (0 : Int) ≤ 1; decide⟩, ⟨by show -1 ≤ (1 : Int); decide, Int.le_refl _⟩, ⟨by show -1 ≤ (0 : Int); decide, by show (0 : Int) ≤ 1; decide⟩, ?_⟩
  show 1 * s ^ 5 ≤ 2 ^ 700
  rw [Int.one_mul]
  have h : s.toNat ^ 5 ≤ (2 ^ 129) ^ 5 := Nat.pow_le_pow_left (by omega) 5
  have h2 : (2 ^ 129) ^ 5 ≤ 2 ^ 700 := by decide +kernel
  have e : s = (s.toNat : Int) := by omega
  rw [e]
  have h3 := Nat.le_trans h h2
  exact_mod_cast h3
theorem wb_mul {E a b : Int} (h : -E ≤ a ∧ a ≤ E) (b0 : 0 ≤ b) : -(b * E) ≤ b * a ∧ b * a ≤ b * E := by
  have h1 := Int.mul_le_mul_of_nonneg_left h.1 b0
  have h2 := Int.mul_le_mul_of_nonneg_left h.2 b0
  rw [Int.mul_neg] at h1
  exact ⟨h1, h2⟩
/-- the walk whose laps are taken: this one, or mirrored -/
def Wk.low (w : Wk) : Wk := if w.s < 2 * w.t then w.mir else w
theorem low_facts {w : Wk} (h : WF w) (ht : 0 < w.t) : WF w.low ∧ 0 < w.low.t ∧ 2 * w.low.t ≤ w.s ∧ w.low.s = w.s := by
  have ts := h.ts
  unfold Wk.low
  split
  · exact ⟨mir_wf h ht, by show 0 < w.s - w.t; omega, by show 2 * (w.s - w.t) ≤ w.s; omega, rfl⟩
  · exact ⟨h, ht, by omega, rfl⟩
theorem low_ex {w : Wk} (b : WB w) : ∃ E : Int, 0 ≤ E ∧ (-(3 * E) ≤ w.low.e ∧ w.low.e ≤ 3 * E) ∧ (-(3 * E) ≤ w.low.k ∧ w.low.k ≤ 3 * E) ∧ (-(3 * E) ≤ w.low.r ∧ w.low.r ≤ 3 * E) ∧ E * w.s ^ 5 ≤ 2 ^ 700 := by
  obtain ⟨_, E, e0, ee, ek, er, c⟩ := b
  refine ⟨E, e0, ?_, ?_, ?_, c⟩
  all_goals
    unfold Wk.low
    split
  · show -(3 * E) ≤ w.e + w.k + w.r ∧ w.e + w.k + w.r ≤ 3 * E; omega
  · omega
  · show -(3 * E) ≤ -w.k ∧ -w.k ≤ 3 * E; omega
  · omega
  · show -(3 * E) ≤ -w.r ∧ -w.r ≤ 3 * E; omega
  · omega
theorem wb_laps {w : Wk} (h : WF w) (ht : 0 < w.t) (b : WB w) : WB w.low.laps := by
  obtain ⟨hl, tl, t2, es⟩ := low_facts h ht
  obtain ⟨E, e0, ee, ek, er, c⟩ := low_ex b
  obtain ⟨l1, l2⟩ := lng_b (w := w.low) tl
  have s0 := h.s0
  have m0 := hl.m0
  have ms := hl.ms
  rw [es] at l1 l2 ms
  have q0 : 0 ≤ w.low.m / w.low.t := Int.ediv_nonneg m0 (Int.le_of_lt tl)
  have q1 : w.low.m / w.low.t * w.low.t ≤ w.low.m := Int.ediv_mul_le _ (Int.ne_of_gt tl)
  have n0 : 0 ≤ w.low.lng := by
    refine Int.not_lt.mp fun z => ?_
    have := Int.mul_le_mul_of_nonneg_right (show w.low.lng ≤ 0 by omega) (Int.le_of_lt tl)
    rw [Int.zero_mul] at this; omega
  have f1 := wb_mul ee n0
  have f2 := wb_mul ek q0
  have s1 := b.s1
  obtain ⟨M, hM⟩ : ∃ M, M = w.low.lng + w.low.m / w.low.t + 1 := ⟨_, rfl⟩
  have sum : M * (3 * E) = w.low.lng * (3 * E) + w.low.m / w.low.t * (3 * E) + 3 * E := by rw [hM, Int.add_mul, Int.add_mul, Int.one_mul]
  have M1 : 1 ≤ M := by omega
  have M3 : 3 * E ≤ M * (3 * E) := by
    have := Int.mul_le_mul_of_nonneg_right M1 (show 0 ≤ 3 * E by omega)
    rw [Int.one_mul] at this; exact this
  refine ⟨by show w.low.t ≤ 2 ^ 129; omega, M * (3 * E), Int.mul_nonneg (by omega) (by omega), ?_, ?_, ?_, ?_⟩
  · show -(M * (3 * E)) ≤ w.low.lng * w.low.e + w.low.m / w.low.t * w.low.k + w.low.r ∧ w.low.lng * w.low.e + w.low.m / w.low.t * w.low.k + w.low.r ≤ M * (3 * E)
    omega
  · show -(M * (3 * E)) ≤ w.low.k ∧ w.low.k ≤ M * (3 * E)
    omega
  · show -(M * (3 * E)) ≤ -w.low.e ∧ -w.low.e ≤ M * (3 * E)
    omega
  · show M * (3 * E) * w.low.t ^ 5 ≤ 2 ^ 700
    refine Int.le_trans ?_ c
    have Mt : M * w.low.t ≤ 3 * w.s := by
      rw [hM, Int.add_mul, Int.add_mul, Int.one_mul]; omega
    have t4 : 9 * w.low.t ^ 4 ≤ w.s ^ 4 := by
      have h1 : (2 * w.low.t.toNat) ^ 4 ≤ w.s.toNat ^ 4 := Nat.pow_le_pow_left (by omega) 4
      have e1 : w.low.t = (w.low.t.toNat : Int) := by omega
      have e2 : w.s = (w.s.toNat : Int) := by omega
      rw [Nat.mul_pow] at h1
      have h2 : 9 * w.low.t.toNat ^ 4 ≤ w.s.toNat ^ 4 := by
        have : 2 ^ 4 * w.low.t.toNat ^ 4 = 16 * w.low.t.toNat ^ 4 := rfl
        omega
      rw [e1, e2]
      exact_mod_cast h2
    have p4 : 0 ≤ w.low.t ^ 4 := Int.pow_nonneg (Int.le_of_lt tl)
    have g1 : M * (3 * E) * w.low.t ^ 5 = (M * w.low.t) * (3 * E * w.low.t ^ 4) := by
      rw [show (5 : Nat) = 4 + 1 from rfl, Int.pow_succ]
      rw [Int.mul_assoc M, Int.mul_assoc M, ← Int.mul_assoc (3 * E), Int.mul_comm (3 * E * w.low.t ^ 4) w.low.t]
    have g2 := Int.mul_le_mul_of_nonneg_right Mt (show 0 ≤ 3 * E * w.low.t ^ 4 from Int.mul_nonneg (by omega) p4)
    have g3 : 3 * w.s * (3 * E * w.low.t ^ 4) = (E * w.s) * (9 * w.low.t ^ 4) := by
      rw [show 3 * w.s * (3 * E * w.low.t ^ 4) = 3 * (w.s * (3 * E * w.low.t ^ 4)) by rw [Int.mul_assoc], show 3 * E * w.low.t ^ 4 = 3 * (E * w.low.t ^ 4) by rw [Int.mul_assoc], Int.mul_left_comm w.s 3, Int.mul_left_comm (E * w.s) 9, Int.mul_comm E w.s, Int.mul_assoc w.s E]
      omega
    have g4 := Int.mul_le_mul_of_nonneg_left t4 (show 0 ≤ E * w.s from Int.mul_nonneg e0 (Int.le_of_lt s0))
    have g5 : E * w.s * w.s ^ 4 = E * w.s ^ 5 := by
      have p5 : w.s ^ 5 = w.s ^ 4 * w.s := Int.pow_succ _ _
      rw [p5, Int.mul_comm (w.s ^ 4) w.s, Int.mul_assoc]
    omega
theorem wb_E {w : Wk} (h : WF w) (b : WB w) : ∃ E : Int, 0 ≤ E ∧ (-E ≤ w.e ∧ w.e ≤ E) ∧ (-E ≤ w.k ∧ w.k ≤ E) ∧ (-E ≤ w.r ∧ w.r ≤ E) ∧ E ≤ 2 ^ 700 ∧ E * w.s ≤ 2 ^ 700 := by
  obtain ⟨_, E, e0, ee, ek, er, c⟩ := b
  have s0 := h.s0
  have one : ∀ n : Nat, 1 ≤ w.s ^ n := fun n => by
    have := Int.pow_pos (m := n) s0; omega
  refine ⟨E, e0, ee, ek, er, ?_, ?_⟩
  · have := Int.mul_le_mul_of_nonneg_left (one 5) e0
    rw [Int.mul_one] at this; omega
  · have g5 : E * w.s * w.s ^ 4 = E * w.s ^ 5 := by
      have p5 : w.s ^ 5 = w.s ^ 4 * w.s := Int.pow_succ _ _
      rw [p5, Int.mul_comm (w.s ^ 4) w.s, Int.mul_assoc]
    have := Int.mul_le_mul_of_nonneg_left (one 4) (show 0 ≤ E * w.s from Int.mul_nonneg e0 (Int.le_of_lt s0))
    rw [Int.mul_one] at this; omega
end Fw
namespace Fw
open PySem L2
def rDivC : List V → Hp → VK → Prop := fun xs H Q => ∃ i j, xs = [.int i, .int j] ∧ CDivP i j ∧ ∀ p, H p = none → Q (.ref p) (upd H p (.tup [.int (i / j), .int (i % j)]))
def rmax2C : List V → Hp → VK → Prop := fun xs H Q => ∃ i j : Int, xs = [.int i, .int j] ∧ Q (.int (if j > i then j else i)) H
def rmin2C : List V → Hp → VK → Prop := fun xs H Q => ∃ i j : Int, xs = [.int i, .int j] ∧ Q (.int (if j < i then j else i)) H
section
variable {σ : L2.St} {H : Hp} {Q : VK} {D : Ends} {te : TE}
theorem w_aug {i : Nat} {x : V} {g : Int → Int → Int} (hx : σ[i]? = some (some x)) (q : te σ H fun y H1 => ∃ u v : Int, x = .int u ∧ y = .int v ∧ D.nx (σ.set i (some (.int (g u v)))) H1) : tAug i te (ipI g) D σ H := ⟨x, hx, q⟩
theorem w_augR {i : Nat} {x : V} {r : R2} (hx : σ[i]? = some (some x)) (q : te σ H fun y H1 => r x y H1 fun z H2 => D.nx (σ.set i (some z)) H2) : tAug i te r D σ H := ⟨x, hx, q⟩
theorem w_ipi {u v : Int} {P : Int → Int → Prop} (q : P u v) : ∃ a b : Int, V.int u = .int a ∧ V.int v = .int b ∧ P a b := ⟨u, v, rfl, rfl, q⟩
theorem w_max2 {i j : Int} (q : Q (.int (max i j)) H) : rmax2C [.int i, .int j] H Q := ⟨i, j, rfl, by
  have e : (if j > i then j else i) = max i j := by split <;> omega
  rw [e]; exact q⟩
theorem w_min2 {i j : Int} (q : Q (.int (min i j)) H) : rmin2C [.int i, .int j] H Q := ⟨i, j, rfl, by
  have e : (if j < i then j else i) = min i j := by split <;> omega
  rw [e]; exact q⟩
theorem w_lenT {K : PySem.W.Frag} {p : Addr} {ys : List V} (h : H p = some (.tup ys)) (q : Q (.int (ys.length : Int)) H) : rLenS K [.ref p] H Q := ⟨p, ys, rfl, .inr (SqT.of h), q⟩
theorem w_stJ {c : Prop} [Decidable c] {ta tb : TS} (R : L2.St → Hp → Prop) (h1 : c → ∀ D' : Ends, (∀ σ' H', R σ' H' → D'.nx σ' H') → ta D' σ H) (h2 : ¬ c → ∀ D' : Ends, (∀ σ' H', R σ' H' → D'.nx σ' H') → tb D' σ H) (q : ∀ σ' H', R σ' H' → D.nx σ' H') : if decide c = true then ta D σ H else tb D σ H := w_dec (fun z => h1 z D q) (fun z => h2 z D q)
theorem w_bm {K : PySem.W.Frag} {T : String} {r : V → List V → Hp → VK → Prop} {to : TE} {t : TA} (q : to σ H fun x H1 => tyV K T x H1 ∧ t σ H1 fun xs H2 => r x xs H2 Q) : tBM K T r to t σ H Q := q
theorem w_ifJ {tt : TT} {ta tb : TE} (R : V → Hp → Prop) (h1 : ∀ Q : VK, (∀ x H', R x H' → Q x H') → tIf tt ta tb σ H Q) (q : ∀ x H', R x H' → Q x H') : tIf tt ta tb σ H Q := h1 Q q
/-- whatever an expression's value is, as far as R tells of it -/
theorem w_any (R : V → Hp → Prop) (h1 : ∀ Q : VK, (∀ x H', R x H' → Q x H') → te σ H Q) (q : ∀ x H', R x H' → Q x H') : te σ H Q := h1 Q q
theorem w_tst {tt : TT} {Q : Bool → Hp → Prop} (R : Bool → Hp → Prop) (h : ∀ Q : Bool → Hp → Prop, (∀ b H', R b H' → Q b H') → tt σ H Q) (q : ∀ b H', R b H' → Q b H') : tt σ H Q := h Q q
/-- c and tt, as a test that comes out false -/
theorem w_decJ {c : Prop} [Decidable c] {tt : TT} {Q : Bool → Hp → Prop} (R : Hp → Prop) (h1 : c → ∀ Q : Bool → Hp → Prop, (∀ H', R H' → Q false H') → tt σ H Q) (h2 : ¬ c → R H) (q : ∀ H', R H' → Q false H') : if decide c = true then tt σ H Q else Q false H := w_dec (fun z => h1 z Q q) (fun z => q H (h2 z))
end
section
variable {K : PySem.W.Frag} {σ : L2.St} {H : Hp} {Q : VK} {D : Ends} {te : TE}
theorem w_itT {tl : TE} {R : It → Hp → Prop} (q : tl σ H fun x H1 => ∃ a, x = .ref a ∧ (∃ xs, SqT K H1 a xs) ∧ R (Itt K a) H1) : iTup K tl σ H R := q
theorem w_itE {ta : TA} {R : It → Hp → Prop} (q : ta σ H fun vs H1 => ∃ a xs, vs = [.ref a] ∧ SqL K H1 a xs ∧ R (Ite K a) H1) : iEnum K ta σ H R := q
theorem w_minL {a : Addr} {ns : List Int} (h : SqL K H a (ns.map V.int)) (n : 0 < ns.length) (q : ∀ m, m ∈ ns → (∀ y, y ∈ ns → m ≤ y) → Q (.int m) H) : rMin K [.ref a] H Q := ⟨a, ns, rfl, h, n, q⟩
theorem w_truL {p : Addr} {xs : List V} {P : Bool → Prop} (h : SqL K H p xs) (q : P (!xs.isEmpty)) : ∃ k, TruV K (.ref p) H k ∧ P k := ⟨_, .inl ⟨xs, h, rfl⟩, q⟩
theorem w_notinL {p : Addr} {x : V} {xs : List V} (h : SqL K H p xs) (f1 : flatV x = true) (f2 : xs.all flatV = true) (q : Q (.bl (!inV x xs)) H) : rIn K true x (.ref p) H Q := ⟨p, xs, rfl, .inl h, f1, f2, q⟩
theorem w_inL {p : Addr} {x : V} {xs : List V} (h : SqL K H p xs) (f1 : flatV x = true) (f2 : xs.all flatV = true) (q : Q (.bl (inV x xs)) H) : rIn K false x (.ref p) H Q := ⟨p, xs, rfl, .inl h, f1, f2, q⟩
theorem w_eqDg {x y : V} {d e : PyData} (hx : Dp K H x d) (hy : Dp K H y e) (sd : SeqAt.shaped d = true) (se : SeqAt.shaped e = true) (q : Q (.bl (PyData.eqv d e)) H) : rEqD K x y H Q := ⟨d, e, hx, hy, sd, se, q⟩
theorem w_neDg {x y : V} {d e : PyData} (hx : Dp K H x d) (hy : Dp K H y e) (sd : SeqAt.shaped d = true) (se : SeqAt.shaped e = true) (q : Q (.bl (!PyData.eqv d e)) H) : rNeD K x y H Q := ⟨d, e, hx, hy, sd, se, q⟩
end
theorem flat_ints (is : List Int) : (is.map V.int).all flatV = true := by
  induction is with
  | nil => rfl
  | cons x r ih => rw [List.map_cons, List.all_cons, ih]; rfl
theorem inV_ints (i : Int) (is : List Int) : inV (.int i) (is.map V.int) = decide (i ∈ is) := by
  unfold inV
  induction is with
  | nil => simp
  | cons x r ih =>
    rw [List.map_cons, List.any_cons, ih]
    by_cases h : i = x
    · subst h
      rw [show eqV (V.int i) (V.int i) = true by simp [eqV]]; simp
    · have e1 : eqV (V.int x) (V.int i) = false := by simp [eqV]; exact fun z => h z.symm
      have e2 : eqV (V.int i) (V.int x) = false := by simp [eqV]; exact h
      first | rw [e1] | rw [e2]
      simp [h]
theorem w_rng2 {σ : L2.St} {H : Hp} {ta : TA} {R : It → Hp → Prop} (q : ta σ H fun vs H1 => ∃ i j : Int, vs = [.int i, .int j] ∧ (-(2 ^ 62) ≤ i ∧ i < 2 ^ 62 ∧ -(2 ^ 62) ≤ j ∧ j < 2 ^ 62) ∧ R (Itr i (j - i).toNat) H1) : iRng2 ta σ H R := q
theorem w_neOg {H : Hp} {Q : VK} {x y : V} (hx : x = .non ∨ ∃ i, x = .int i) (hy : y = .non ∨ ∃ i, y = .int i) (q : Q (.bl (!decide (x = y))) H) : rNe x y H Q := ⟨by
  rcases hx with rfl | ⟨i, rfl⟩ <;> rcases hy with rfl | ⟨j, rfl⟩ <;> rfl, q⟩
theorem w_itZ {K : PySem.W.Frag} {σ : L2.St} {H : Hp} {ta : TA} {R : It → Hp → Prop} (q : ta σ H fun vs H1 => ∃ a b xs ys, vs = [.ref a, .ref b] ∧ SqL K H1 a xs ∧ SqL K H1 b ys ∧ R (Itz K a b) H1) : iZip K ta σ H R := q
theorem w_srt {K : PySem.W.Frag} {H : Hp} {Q : VK} {a : Addr} {ns : List Int} (h : SqL K H a (ns.map V.int)) (q : ∀ (ns' : List Int) (p : Addr), ns'.Perm ns → ns'.Pairwise (· ≤ ·) → H p = none → Q (.ref p) (upd H p (.lst (ns'.map V.int)))) : rSortedI K [.ref a] H Q := ⟨a, ns, rfl, h, q⟩
theorem w_isNr {H : Hp} {Q : VK} {r : Addr} (q : Q (.bl false) H) : rIsNn (.ref r) .non H Q := ⟨rfl, q⟩
theorem w_boolJ {b : Bool} {tt : TT} {σ : L2.St} {H : Hp} {Q : Bool → Hp → Prop} (R : Hp → Prop) (h1 : b = true → ∀ Q : Bool → Hp → Prop, (∀ H', R H' → Q false H') → tt σ H Q) (h2 : b = false → R H) (q : ∀ H', R H' → Q false H') : if b = true then tt σ H Q else Q false H := by
  cases b with
  | true => exact iteT (h1 rfl Q q)
  | false => exact iteF (q H (h2 rfl))
theorem w_par3 {i j l : Nat} {t : TA} {D : Ends} {σ : L2.St} {H : Hp} (q : t σ H fun vs H1 => ∃ u v w, vs = [u, v, w] ∧ D.nx (((σ.set i (some u)).set j (some v)).set l (some w)) H1) : tPar3 i j l t D σ H := q
theorem w_itR {K : PySem.W.Frag} {σ : L2.St} {H : Hp} {ta : TA} {R : It → Hp → Prop} (q : ta σ H fun vs H1 => ∃ a xs, vs = [.ref a] ∧ SqL K H1 a xs ∧ R (Itv K a xs.length) H1) : iRev K ta σ H R := q
theorem w_methA {C : Addr} {m : Str} {sp : Sp} {E : XK} {ta : TE} {t : TA} {σ : L2.St} {H : Hp} {Q : VK} (q : ta σ H fun x H1 => ∃ a dx fs, x = .ref a ∧ H1 a = some (.ins C dx fs) ∧ fs.lookup m = none ∧ t σ H1 fun vs H2 => sp (x :: (vs ++ [])) H2 Q E) : tMeth C m sp [] E ta t σ H Q := q
end Fw
namespace Fw
/-! ### steps x -> a * x + c, modulo a power of two -/
theorem gpos (w : Nat) : (0 : Int) < 2 ^ w := Int.pow_pos (by decide)
theorem g2S (w : Nat) : (2 : Int) ^ (w + 1) = 2 * 2 ^ w := by rw [Int.pow_succ, Int.mul_comm]
theorem gmd {S x y : Int} : x % S = y % S ↔ S ∣ x - y := by
  constructor
  · intro h
    exact Int.dvd_of_emod_eq_zero (Int.emod_eq_emod_iff_emod_sub_eq_zero.mp h)
  · intro h
    exact Int.emod_eq_emod_iff_emod_sub_eq_zero.mpr (Int.emod_eq_zero_of_dvd h)
theorem gpp {a b : Nat} (h : a ≤ b) : (2 : Int) ^ a ∣ 2 ^ b := ⟨2 ^ (b - a), by rw [← Int.pow_add]; congr 1; omega⟩
theorem gdv0 {S x : Int} : S ∣ x - x := by rw [Int.sub_self]; exact Int.dvd_zero _
theorem gdvS {S x y : Int} (h : S ∣ x - y) : S ∣ y - x := by
  rw [show y - x = -(x - y) by omega]; exact Int.dvd_neg.mpr h
theorem gdvT {S x y z : Int} (h : S ∣ x - y) (g : S ∣ y - z) : S ∣ x - z := by
  rw [show x - z = (x - y) + (y - z) by omega]; exact Int.dvd_add h g
/-- n steps -/
def gIt (a c : Int) : Nat → Int → Int
  | 0, x => x
  | n + 1, x => a * gIt a c n x + c
theorem gIt_one {a c x : Int} : gIt a c 1 x = a * x + c := rfl
theorem gIt_add (a c : Int) (m : Nat) : ∀ (n : Nat) (x : Int), gIt a c (m + n) x = gIt a c n (gIt a c m x)
  | 0, x => rfl
  | n + 1, x => by
    show a * gIt a c (m + n) x + c = a * gIt a c n (gIt a c m x) + c
    rw [gIt_add a c m n x]
theorem gIt_sub (a c : Int) : ∀ (n : Nat) (x y : Int), gIt a c n x - gIt a c n y = a ^ n * (x - y)
  | 0, x, y => by rw [Int.pow_zero, Int.one_mul]; rfl
  | n + 1, x, y => by
    show a * gIt a c n x + c - (a * gIt a c n y + c) = _
    rw [Int.pow_succ, Int.mul_comm (a ^ n) a, Int.mul_assoc, ← gIt_sub a c n x y, Int.mul_sub]; omega
theorem gIt_cong {S a a' c c' : Int} (ha : S ∣ a - a') (hc : S ∣ c - c') : ∀ (n : Nat) {x y : Int}, S ∣ x - y → S ∣ gIt a c n x - gIt a' c' n y
  | 0, x, y, h => h
  | n + 1, x, y, h => by
    have ih := gIt_cong ha hc n h
    show S ∣ a * gIt a c n x + c - (a' * gIt a' c' n y + c')
    have e : a * gIt a c n x + c - (a' * gIt a' c' n y + c') = a * (gIt a c n x - gIt a' c' n y) + (a - a') * gIt a' c' n y + (c - c') := by
      rw [Int.mul_sub, Int.sub_mul]; omega
    rw [e]
    exact Int.dvd_add (Int.dvd_add (Int.dvd_mul_of_dvd_right ih) (Int.dvd_mul_of_dvd_left ha)) hc
theorem gIt_congx {S a c : Int} (n : Nat) {x y : Int} (h : S ∣ x - y) : S ∣ gIt a c n x - gIt a c n y := gIt_cong gdv0 gdv0 n h
/-- (p, q) leads where n steps do -/
def gRep (S a c p q : Int) (n : Nat) : Prop := ∀ x, S ∣ p * x + q - gIt a c n x
theorem gRep_zero (S a c : Int) : gRep S a c 1 0 0 := fun x => by
  show S ∣ 1 * x + 0 - x
  rw [Int.one_mul, Int.add_zero]; exact gdv0
theorem gRep_one (S a c : Int) : gRep S a c a c 1 := fun x => gdv0
theorem gRep_onem (S a c : Int) : gRep S a c (a % S) (c % S) 1 := fun x => by
  have e1 : S ∣ a % S - a := Int.dvd_emod_sub_self
  have e2 : S ∣ c % S - c := Int.dvd_emod_sub_self
  show S ∣ a % S * x + c % S - (a * x + c)
  rw [show a % S * x + c % S - (a * x + c) = (a % S - a) * x + (c % S - c) by rw [Int.sub_mul]; omega]
  exact Int.dvd_add (Int.dvd_mul_of_dvd_left e1) e2
theorem gRep_comp {S a c p q p' q' : Int} {m n : Nat} (h1 : gRep S a c p q m) (h2 : gRep S a c p' q' n) : gRep S a c (p * p' % S) ((p' * q + q') % S) (m + n) := fun x => by
  have e1 : S ∣ p * p' % S - p * p' := Int.dvd_emod_sub_self
  have e2 : S ∣ (p' * q + q') % S - (p' * q + q') := Int.dvd_emod_sub_self
  have e3 := h2 (p * x + q)
  have e4 := gIt_congx (a := a) (c := c) n (h1 x)
  rw [gIt_add]
  have e : p * p' % S * x + (p' * q + q') % S - gIt a c n (gIt a c m x) = (p * p' % S - p * p') * x + ((p' * q + q') % S - (p' * q + q')) + (p' * (p * x + q) + q' - gIt a c n (p * x + q)) + (gIt a c n (p * x + q) - gIt a c n (gIt a c m x)) := by
    rw [Int.sub_mul, Int.mul_add, ← Int.mul_assoc, Int.mul_comm p' p]; omega
  rw [e]
  exact Int.dvd_add (Int.dvd_add (Int.dvd_add (Int.dvd_mul_of_dvd_left e1) e2) e3) e4
theorem gRep.mod {S a c p q : Int} {n : Nat} (h : gRep S a c p q n) (x : Int) : (p * x + q) % S = gIt a c n x % S := gmd.mpr (h x)
theorem gRep.it {S a c p q : Int} {n : Nat} (h : gRep S a c p q n) : ∀ (k : Nat) (x : Int), S ∣ gIt p q k x - gIt a c (n * k) x
  | 0, x => by rw [Nat.mul_zero]; exact gdv0
  | k + 1, x => by
    rw [Nat.mul_succ, gIt_add a c (n * k) n]
    show S ∣ p * gIt p q k x + q - _
    exact gdvT (h _) (gIt_congx n (h.it k x))
theorem god_pow {a : Int} (ha : a % 2 = 1) : ∀ n : Nat, a ^ n % 2 = 1
  | 0 => by rw [Int.pow_zero]; rfl
  | n + 1 => by rw [Int.pow_succ, Int.mul_emod, god_pow ha n, ha]; rfl
theorem gIt_full {a : Int} (ha : a % 2 = 1) (c : Int) : ∀ (w : Nat) (x : Int), (2 : Int) ^ w ∣ gIt a c (2 ^ w) x - x
  | 0, x => by rw [Int.pow_zero]; exact Int.one_dvd _
  | w + 1, x => by
    have ih := gIt_full ha c w x
    have e : gIt a c (2 ^ (w + 1)) x - x = (a ^ (2 ^ w) + 1) * (gIt a c (2 ^ w) x - x) := by
      rw [show 2 ^ (w + 1) = 2 ^ w + 2 ^ w by rw [Nat.pow_succ]; omega, gIt_add]
      have := gIt_sub a c (2 ^ w) (gIt a c (2 ^ w) x) x
      rw [Int.add_mul, Int.one_mul, ← this]; omega
    rw [e, g2S]
    have := god_pow ha (2 ^ w)
    exact Int.mul_dvd_mul (Int.dvd_of_emod_eq_zero (by omega)) ih
theorem gIt_fullm {a : Int} (ha : a % 2 = 1) (c : Int) (w : Nat) : ∀ (k : Nat) (x : Int), (2 : Int) ^ w ∣ gIt a c (2 ^ w * k) x - x
  | 0, x => gdv0
  | k + 1, x => by
    rw [Nat.mul_succ, gIt_add]
    exact gdvT (gIt_full ha c w _) (gIt_fullm ha c w k x)
theorem gIt_modn {a : Int} (ha : a % 2 = 1) (c : Int) (w : Nat) (m : Nat) (x : Int) : (2 : Int) ^ w ∣ gIt a c m x - gIt a c (m % 2 ^ w) x := by
  have e : m = 2 ^ w * (m / 2 ^ w) + m % 2 ^ w := (Nat.div_add_mod _ _).symm
  have h : gIt a c m x = gIt a c (m % 2 ^ w) (gIt a c (2 ^ w * (m / 2 ^ w)) x) := by
    rw [← gIt_add, ← e]
  rw [h]
  exact gIt_congx _ (gIt_fullm ha c w _ x)
theorem gnat_mod {w m n : Nat} (h : (2 : Int) ^ w ∣ (m : Int) - n) : m % 2 ^ w = n % 2 ^ w := by
  have e := gmd.mpr h
  have c : ((2 ^ w : Nat) : Int) = (2 : Int) ^ w := Int.natCast_pow 2 w
  rw [← c, ← Int.natCast_emod, ← Int.natCast_emod] at e
  exact Int.ofNat_inj.mp e
theorem gIt_modz {a : Int} (ha : a % 2 = 1) (c : Int) {w m n : Nat} (h : (2 : Int) ^ w ∣ (m : Int) - n) (x : Int) : (2 : Int) ^ w ∣ gIt a c m x - gIt a c n x := by
  have e := gnat_mod h
  have h1 := gIt_modn ha c w m x
  have h2 := gIt_modn ha c w n x
  rw [e] at h1
  exact gdvT h1 (gdvS h2)
theorem gpow_even {a : Int} (ha : a % 2 = 0) (w : Nat) : (2 : Int) ^ w ∣ a ^ w := by
  obtain ⟨b, rfl⟩ := Int.dvd_of_emod_eq_zero ha
  rw [Int.mul_pow]; exact Int.dvd_mul_right _ _
theorem gIt_even {a : Int} (ha : a % 2 = 0) (c : Int) {w n : Nat} (h : w ≤ n) (x : Int) : (2 : Int) ^ w ∣ gIt a c n x - gIt a c w x := by
  obtain ⟨k, rfl⟩ : ∃ k, n = k + w := ⟨n - w, by omega⟩
  rw [gIt_add, gIt_sub]
  exact Int.dvd_mul_of_dvd_left (gpow_even ha w)
/-- as many steps as are done for n -/
def gCnt (w : Nat) (a n : Int) : Nat := if a % 2 = 0 then (min n w).toNat else (n % 2 ^ w).toNat
def gAt (w : Nat) (a c x n : Int) : Int := gIt a c (gCnt w a n) x
theorem gAt_odd {w : Nat} {a c x n : Int} (ha : a % 2 = 1) {k : Nat} (h : (2 : Int) ^ w ∣ (k : Int) - n) : (2 : Int) ^ w ∣ gAt w a c x n - gIt a c k x := by
  unfold gAt gCnt
  rw [if_neg (by omega)]
  refine gIt_modz ha c ?_ x
  have h0 := Int.emod_nonneg n (Int.ne_of_gt (gpos w))
  rw [Int.toNat_of_nonneg h0]
  exact gdvT Int.dvd_emod_sub_self (gdvS h)
theorem gAt_nat (w : Nat) (a c x : Int) (n : Nat) : (2 : Int) ^ w ∣ gAt w a c x n - gIt a c n x := by
  rcases Int.emod_two_eq a with ha | ha
  · unfold gAt gCnt
    rw [if_pos ha]
    by_cases h : n ≤ w
    · rw [show (min (n : Int) w).toNat = n by omega]; exact gdv0
    · rw [show (min (n : Int) w).toNat = w by omega]
      exact gdvS (gIt_even ha c (by omega) x)
  · exact gAt_odd ha gdv0
/-- how often 2 divides, w at most -/
def gv : Nat → Int → Nat
  | 0, _ => 0
  | w + 1, n => if n % 2 = 0 then gv w (n / 2) + 1 else 0
theorem gv_le : ∀ (w : Nat) (n : Int), gv w n ≤ w
  | 0, _ => Nat.le_refl _
  | w + 1, n => by
    unfold gv
    have := gv_le w (n / 2)
    split <;> omega
theorem gv_iff : ∀ (w : Nat) (n : Int) (k : Nat), k ≤ gv w n ↔ k ≤ w ∧ (2 : Int) ^ k ∣ n
  | 0, n, k => by
    constructor
    · intro h
      have h : k ≤ 0 := h
      obtain rfl : k = 0 := by omega
      exact ⟨h, by rw [Int.pow_zero]; exact Int.one_dvd _⟩
    · intro h; exact h.1
  | w + 1, n, 0 => ⟨fun _ => ⟨by omega, by rw [Int.pow_zero]; exact Int.one_dvd _⟩, fun _ => by omega⟩
  | w + 1, n, k + 1 => by
    unfold gv
    by_cases h : n % 2 = 0
    · rw [if_pos h]
      have ih := gv_iff w (n / 2) k
      have e : n = 2 * (n / 2) := by omega
      constructor
      · intro hk
        obtain ⟨h1, t, ht⟩ := ih.mp (by omega)
        refine ⟨by omega, t, ?_⟩
        rw [g2S, Int.mul_assoc, ← ht]; exact e
      · rintro ⟨h1, t, ht⟩
        rw [g2S, Int.mul_assoc] at ht
        have := ih.mpr ⟨by omega, t, by omega⟩
        omega
    · rw [if_neg h]
      constructor
      · intro hk; omega
      · rintro ⟨h1, t, ht⟩
        rw [g2S, Int.mul_assoc] at ht
        omega
theorem gv_dvd (w : Nat) (n : Int) : (2 : Int) ^ gv w n ∣ n := ((gv_iff w n _).mp (Nat.le_refl _)).2
theorem gv_full {w : Nat} {n : Int} : (2 : Int) ^ w ∣ n ↔ gv w n = w := by
  have a := gv_le w n
  have b := gv_iff w n w
  constructor
  · intro h
    have := b.mpr ⟨Nat.le_refl _, h⟩
    omega
  · intro h
    exact (b.mp (by omega)).2
theorem gv_cong {w : Nat} {x y : Int} (h : (2 : Int) ^ w ∣ x - y) : gv w x = gv w y := by
  have key : ∀ {x y : Int}, (2 : Int) ^ w ∣ x - y → gv w x ≤ gv w y := fun {x y} h => by
    refine (gv_iff w y _).mpr ⟨gv_le w x, ?_⟩
    have h1 := Int.dvd_trans (gpp (gv_le w x)) h
    have h2 := gv_dvd w x
    rw [show y = x - (x - y) by omega]
    exact Int.dvd_sub h2 h1
  exact Nat.le_antisymm (key h) (key (gdvS h))
theorem gv_val {w j : Nat} {n a : Int} (h : n = 2 ^ j * (2 * a + 1)) (hj : j ≤ w) : gv w n = j := by
  have h1 := (gv_iff w n j).mpr ⟨hj, by rw [h]; exact Int.dvd_mul_right _ _⟩
  refine Nat.le_antisymm (Nat.le_of_not_lt fun c => ?_) h1
  obtain ⟨_, t, ht⟩ := (gv_iff w n (j + 1)).mp c
  have ht' : (2 : Int) ^ j * (2 * a + 1) = 2 ^ j * (2 * t) := by rw [← h, ht, g2S, Int.mul_assoc, Int.mul_left_comm]
  have := Int.eq_of_mul_eq_mul_left (Int.ne_of_gt (gpos j)) ht'
  omega
theorem gv_next (w : Nat) (z : Int) : gv w z = min w (gv (w + 1) z) := by
  have key : ∀ k, k ≤ gv w z ↔ k ≤ min w (gv (w + 1) z) := fun k => by
    rw [gv_iff, Nat.le_min, gv_iff]
    constructor
    · rintro ⟨a, b⟩; exact ⟨a, by omega, b⟩
    · rintro ⟨a, b, c⟩; exact ⟨a, c⟩
  exact Nat.le_antisymm ((key _).mp (Nat.le_refl _)) ((key _).mpr (Nat.le_refl _))
theorem gv_mul : ∀ (w : Nat) (y z : Int), gv w (y * z) = min w (gv w y + gv w z)
  | 0, y, z => by show 0 = min 0 _; omega
  | w + 1, y, z => by
    have nz := gv_next w z
    have ny := gv_next w y
    have lz := gv_le (w + 1) z
    have ly := gv_le (w + 1) y
    rcases Int.emod_two_eq y with hy | hy
    · have e : y * z = 2 * (y / 2 * z) := by rw [← Int.mul_assoc]; congr 1; omega
      have ih := gv_mul w (y / 2) z
      have g1 : gv (w + 1) (y * z) = gv w (y / 2 * z) + 1 := by
        show (if y * z % 2 = 0 then gv w (y * z / 2) + 1 else 0) = _
        rw [if_pos (by omega), show y * z / 2 = y / 2 * z by omega]
      have g2 : gv (w + 1) y = gv w (y / 2) + 1 := by
        show (if y % 2 = 0 then gv w (y / 2) + 1 else 0) = _
        rw [if_pos hy]
      rw [g1, ih, g2]; omega
    · have g0 : gv (w + 1) y = 0 := by
        show (if y % 2 = 0 then gv w (y / 2) + 1 else 0) = _
        rw [if_neg (by omega)]
      rcases Int.emod_two_eq z with hz | hz
      · have e : y * z = 2 * (y * (z / 2)) := by rw [Int.mul_left_comm]; congr 1; omega
        have ih := gv_mul w y (z / 2)
        have g1 : gv (w + 1) (y * z) = gv w (y * (z / 2)) + 1 := by
          show (if y * z % 2 = 0 then gv w (y * z / 2) + 1 else 0) = _
          rw [if_pos (by omega), show y * z / 2 = y * (z / 2) by omega]
        have g2 : gv (w + 1) z = gv w (z / 2) + 1 := by
          show (if z % 2 = 0 then gv w (z / 2) + 1 else 0) = _
          rw [if_pos hz]
        rw [g1, ih, g2]; omega
      · have g1 : gv (w + 1) (y * z) = 0 := by
          show (if y * z % 2 = 0 then gv w (y * z / 2) + 1 else 0) = _
          rw [if_neg (by rw [Int.mul_emod, hy, hz]; decide)]
        have g2 : gv (w + 1) z = 0 := by
          show (if z % 2 = 0 then gv w (z / 2) + 1 else 0) = _
          rw [if_neg (by omega)]
        rw [g1, g0, g2]; omega
theorem gv_pow (w : Nat) (a y : Int) : ∀ k : Nat, gv w (a ^ k * y) = min w (k * gv w a + gv w y)
  | 0 => by
    have := gv_le w y
    rw [Int.pow_zero, Int.one_mul]; omega
  | k + 1 => by
    rw [Int.pow_succ, Int.mul_comm (a ^ k) a, Int.mul_assoc, gv_mul, gv_pow w a y k, Nat.add_mul]; omega
theorem gLead {a : Int} (ha : a % 2 = 0) (c : Int) (w k : Nat) (x : Int) : (2 : Int) ^ w ∣ gIt a c k x - gIt a c w x ↔ w ≤ k * gv w a + gv w (x - gIt a c w x) := by
  have e1 : (2 : Int) ^ w ∣ gIt a c k (gIt a c w x) - gIt a c w x := by
    rw [← gIt_add]; exact gIt_even ha c (by omega) x
  have e2 := gIt_sub a c k x (gIt a c w x)
  have e3 : (2 : Int) ^ w ∣ gIt a c k x - gIt a c w x ↔ (2 : Int) ^ w ∣ a ^ k * (x - gIt a c w x) := by
    rw [← e2]
    exact ⟨fun h => gdvT h (gdvS e1), fun h => gdvT h e1⟩
  rw [e3, gv_full, gv_pow]; omega
/-- the quotient rounded up -/
theorem gceil {l t : Int} (ht : 0 < t) (hl : 0 ≤ l) : ∃ L : Nat, -((-l) / t) = (L : Int) ∧ l ≤ (L : Int) * t ∧ (∀ k : Nat, k < L → (k : Int) * t < l) ∧ (L : Int) ≤ l := by
  have e := Int.mul_ediv_add_emod (-l) t
  have r0 := Int.emod_nonneg (-l) (Int.ne_of_gt ht)
  have r1 := Int.emod_lt_of_pos (-l) ht
  have q0 : (-l) / t ≤ 0 := by
    refine Int.le_of_not_gt fun c => ?_
    have := Int.mul_le_mul_of_nonneg_left (show (1 : Int) ≤ (-l) / t by omega) (Int.le_of_lt ht)
    omega
  obtain ⟨L, hL⟩ := Int.eq_ofNat_of_zero_le (show 0 ≤ -((-l) / t) by omega)
  have eL : (L : Int) * t = l + (-l) % t := by
    have : (-l) / t = -(L : Int) := by omega
    rw [this, Int.mul_neg, Int.mul_comm] at e
    omega
  refine ⟨L, hL, by omega, fun k hk => ?_, ?_⟩
  · have h1 := Int.mul_le_mul_of_nonneg_right (show (k : Int) + 1 ≤ L by omega) (Int.le_of_lt ht)
    rw [Int.add_mul, Int.one_mul] at h1
    omega
  · by_cases c : L = 0
    · omega
    · have h1 := Int.mul_le_mul_of_nonneg_right (show (L : Int) - 1 + 1 ≤ L by omega) (Int.le_of_lt ht)
      have h2 := Int.mul_le_mul_of_nonneg_left (show (1 : Int) ≤ t by omega) (show 0 ≤ (L : Int) - 1 by omega)
      rw [Int.mul_one, Int.sub_mul, Int.one_mul] at h2
      omega
end Fw
namespace Fw
def ind (c : Bool) : Int := if c = true then 1 else 0
theorem sZ_only {f : Nat → Int} {n i0 : Nat} (h : i0 < n) (h0 : ∀ i, i < n → i ≠ i0 → f i = 0) : sZ f n = f i0 := by
  induction n with
  | zero => omega
  | succ n ih =>
    show sZ f n + f n = f i0
    by_cases c : i0 = n
    · subst c
      have : sZ f i0 = 0 := by
        rw [sZ_congr (g := fun _ => 0) fun i hi => h0 i (by omega) (by omega), sZ_zero]
      omega
    · rw [ih (by omega) fun i hi hn => h0 i (by omega) hn, h0 n (by omega) (fun z => c z.symm)]; omega
/-- a range of the small kind is as many of the wide one -/
theorem wide_sum {S M : Int} {m : Nat} {b t : Int} (s0 : 0 < S) (hM : (m : Int) = M) (m0 : 0 < m) (hd : t - b < S) (y : Int) : sZ (fun i => ind (inR (M * S) (b + (i : Int) * S) (t + (i : Int) * S) y)) m = ind (inR S b t y) := by
  have r0 := Int.emod_nonneg (y - b) (Int.ne_of_gt s0)
  have r1 := Int.emod_lt_of_pos (y - b) s0
  have r2 := Int.emod_add_mul_ediv (y - b) S
  obtain ⟨r, hr⟩ : ∃ r, r = (y - b) % S := ⟨_, rfl⟩
  obtain ⟨q, hq⟩ : ∃ q, q = (y - b) / S := ⟨_, rfl⟩
  rw [← hr, ← hq] at r2
  rw [← hr] at r0 r1
  have M0 : 0 < M := by omega
  have q0 := Int.emod_nonneg q (Int.ne_of_gt M0)
  have q1 := Int.emod_lt_of_pos q M0
  have q2 := Int.emod_add_mul_ediv q M
  obtain ⟨i0, hi0⟩ := Int.eq_ofNat_of_zero_le q0
  have MS : 0 < M * S := Int.mul_pos M0 s0
  have eq1 : S * q = S * (i0 : Int) + M * S * (q / M) := by
    have : q = (i0 : Int) + M * (q / M) := by omega
    conv => lhs; rw [this]
    rw [Int.mul_add, ← Int.mul_assoc, Int.mul_comm S M]
  have key : ∀ i : Nat, i < m → ∃ d : Int, (y - (b + (i : Int) * S)) % (M * S) = r + S * d ∧ (i = i0 → d = 0) ∧ (i ≠ i0 → 1 ≤ d) := fun i hi => by
    have e2 : (i : Int) * S = S * (i : Int) := Int.mul_comm _ _
    by_cases c : i ≤ i0
    · refine ⟨(i0 : Int) - i, ?_, fun z => by omega, fun z => by omega⟩
      have a1 : 0 ≤ S * ((i0 : Int) - i) := Int.mul_nonneg (Int.le_of_lt s0) (by omega)
      have a2 : S * ((i0 : Int) - i) ≤ S * (M - 1) := Int.mul_le_mul_of_nonneg_left (by omega) (Int.le_of_lt s0)
      rw [Int.mul_sub S M, Int.mul_one, Int.mul_comm S M] at a2
      rw [show y - (b + (i : Int) * S) = (r + S * ((i0 : Int) - i)) + (M * S) * (q / M) by rw [Int.mul_sub S]; omega, Int.add_mul_emod_self_left, Int.emod_eq_of_lt (by omega) (by omega)]
    · refine ⟨(i0 : Int) - i + M, ?_, fun z => by omega, fun z => by omega⟩
      have a1 : 0 ≤ S * ((i0 : Int) - i + M) := Int.mul_nonneg (Int.le_of_lt s0) (by omega)
      have a2 : S * ((i0 : Int) - i + M) ≤ S * (M - 1) := Int.mul_le_mul_of_nonneg_left (by omega) (Int.le_of_lt s0)
      rw [Int.mul_sub S M, Int.mul_one, Int.mul_comm S M] at a2
      rw [show y - (b + (i : Int) * S) = (r + S * ((i0 : Int) - i + M)) + (M * S) * (q / M - 1) by rw [Int.mul_add S, Int.mul_sub S, Int.mul_sub (M * S), Int.mul_one, Int.mul_comm S M]; omega, Int.add_mul_emod_self_left, Int.emod_eq_of_lt (by omega) (by omega)]
  rw [sZ_only (i0 := i0) (by omega) fun i hi hne => ?_]
  · obtain ⟨d, e, d0, _⟩ := key i0 (by omega)
    rw [d0 rfl, Int.mul_zero, Int.add_zero] at e
    unfold ind inR
    rw [e, ← hr, show decide (b + (i0 : Int) * S ≤ t + (i0 : Int) * S ∧ r ≤ t + (i0 : Int) * S - (b + (i0 : Int) * S)) = decide (b ≤ t ∧ r ≤ t - b) from decide_eq_decide.mpr (by omega)]
  · obtain ⟨d, e, _, d1⟩ := key i hi
    have := Int.mul_le_mul_of_nonneg_left (d1 hne) (Int.le_of_lt s0)
    rw [Int.mul_one] at this
    unfold ind inR
    rw [e, if_neg (by rw [decide_eq_true_eq]; omega)]
/-- a range that may go beyond the greatest value is one arc or two -/
theorem arc_one {S L lo hi y : Int} (s0 : 0 < S) (h0 : lo ≤ hi) (h1 : hi - lo < S) (c : L + (lo - L) % S + hi - lo < L + S) : inR S lo hi y = decide (L + (lo - L) % S ≤ L + (y - L) % S ∧ L + (y - L) % S ≤ L + (lo - L) % S + hi - lo) := by
  have u0 := Int.emod_nonneg (y - L) (Int.ne_of_gt s0)
  have u1 := Int.emod_lt_of_pos (y - L) s0
  have u2 := Int.emod_add_mul_ediv (y - L) S
  have v0 := Int.emod_nonneg (lo - L) (Int.ne_of_gt s0)
  have v1 := Int.emod_lt_of_pos (lo - L) s0
  have v2 := Int.emod_add_mul_ediv (lo - L) S
  unfold inR
  generalize (y - L) % S = u at *
  generalize (lo - L) % S = v at *
  generalize (y - L) / S = p at *
  generalize (lo - L) / S = q at *
  by_cases g : v ≤ u
  · rw [show y - lo = (u - v) + S * (p - q) by rw [Int.mul_sub]; omega, Int.add_mul_emod_self_left, Int.emod_eq_of_lt (by omega) (by omega)]
    exact decide_eq_decide.mpr (by omega)
  · rw [show y - lo = (u - v + S) + S * (p - q - 1) by rw [Int.mul_sub, Int.mul_sub, Int.mul_one]; omega, Int.add_mul_emod_self_left, Int.emod_eq_of_lt (by omega) (by omega)]
    exact decide_eq_decide.mpr (by omega)
theorem arc_two {S L lo hi y : Int} (s0 : 0 < S) (h0 : lo ≤ hi) (h1 : hi - lo < S) (c : ¬ L + (lo - L) % S + hi - lo < L + S) : ind (inR S lo hi y) = ind (decide (L + (lo - L) % S ≤ L + (y - L) % S ∧ L + (y - L) % S ≤ L + S - 1)) + ind (decide (L ≤ L + (y - L) % S ∧ L + (y - L) % S ≤ L + (lo - L) % S + hi - lo - S)) := by
  have u0 := Int.emod_nonneg (y - L) (Int.ne_of_gt s0)
  have u1 := Int.emod_lt_of_pos (y - L) s0
  have u2 := Int.emod_add_mul_ediv (y - L) S
  have v0 := Int.emod_nonneg (lo - L) (Int.ne_of_gt s0)
  have v1 := Int.emod_lt_of_pos (lo - L) s0
  have v2 := Int.emod_add_mul_ediv (lo - L) S
  unfold inR ind
  generalize (y - L) % S = u at *
  generalize (lo - L) % S = v at *
  generalize (y - L) / S = p at *
  generalize (lo - L) / S = q at *
  by_cases g : v ≤ u
  · rw [show y - lo = (u - v) + S * (p - q) by rw [Int.mul_sub]; omega, Int.add_mul_emod_self_left, Int.emod_eq_of_lt (by omega) (by omega)]
    rw [decide_eq_true (show lo ≤ hi ∧ u - v ≤ hi - lo by omega), decide_eq_true (show L + v ≤ L + u ∧ L + u ≤ L + S - 1 by omega), decide_eq_false (show ¬ (L ≤ L + u ∧ L + u ≤ L + v + hi - lo - S) by omega)]; rfl
  · rw [show y - lo = (u - v + S) + S * (p - q - 1) by rw [Int.mul_sub, Int.mul_sub, Int.mul_one]; omega, Int.add_mul_emod_self_left, Int.emod_eq_of_lt (by omega) (by omega)]
    rw [decide_eq_false (show ¬ (L + v ≤ L + u ∧ L + u ≤ L + S - 1) by omega), show decide (lo ≤ hi ∧ u - v + S ≤ hi - lo) = decide (L ≤ L + u ∧ L + u ≤ L + v + hi - lo - S) from decide_eq_decide.mpr (by omega)]
    rw [if_neg Bool.false_ne_true]; omega
theorem sum_sZ {α : Type} (g : α → Nat → Int) (n : Nat) : ∀ ts : List α, (ts.map fun r => sZ (g r) n).sum = sZ (fun i => (ts.map fun r => g r i).sum) n
  | [] => by
    show (0 : Int) = sZ (fun _ => 0) n
    rw [sZ_zero]
  | t :: r => by
    rw [List.map_cons, List.sum_cons, sum_sZ g n r, ← sZ_add]
    exact sZ_congr fun i _ => by rw [List.map_cons, List.sum_cons]
theorem tot_sum {α : Type} (p : α → Int → Bool) (q : Int → Bool) (ts : List α) (f l : Int) (h : ∀ x, (ts.map fun r => ind (p r x)).sum = ind (q x)) : (ts.map fun r => tot (p r) f l).sum = tot q f l := by
  unfold tot cN
  rw [sum_sZ]
  exact sZ_congr fun i _ => h _
end Fw
namespace Fw
open PySem L2
theorem w_lstRg {σ : L2.St} {H : Hp} {Q : VK} {te : L2.St → Hp → (Int → Int → Hp → Prop) → Prop} (q : te σ H fun a b H1 => RgOk a b ∧ ∀ q, H1 q = none → Q (.ref q) (upd H1 q (.lst (rgV a b)))) : tLstRg te σ H Q := q
theorem w_rg1 {σ : L2.St} {H : Hp} {ta : TE} {P : Int → Int → Hp → Prop} (q : ta σ H fun x H1 => ∃ n, x = .int n ∧ P 0 n H1) : tRg1 ta σ H P := q
theorem w_dget2 {σ : L2.St} {H : Hp} {Q : VK} {td ty tx : TE} (q : td σ H fun x H1 => ∃ a, x = .ref a ∧ IsD H1 a ∧ ty σ H1 fun y H2 => tx σ H2 fun z H3 => ∃ o, DGet H3 a y o ∧ Q (o.getD z) H3) : tDGet2 td ty tx σ H Q := q
theorem w_disp {σ : L2.St} {H : Hp} {Q : VK} {trs : List (TE × TE)} (kvs : List (Key × V)) (h : ∀ (H1 : Hp) (F : List (V × V) → Hp → Prop), F (kvs.map fun kv => (kV kv.1, kv.2)) H1 → tPairs trs σ H1 F) (l : kvs.length ≤ 15) (q : ∀ p, H p = none → Q (.ref p) (upd (upd H p (.dK [])) p (.dK (mergeK [] kvs)))) : tDisp trs σ H Q := fun p hp => h _ _ ⟨upd_same, kvs, rfl, l, q p hp⟩
theorem upd_twice {H : Hp} {p : Addr} {o u : HO} : upd (upd H p o) p u = upd H p u := by
  funext q
  by_cases e : q = p
  · rw [e, upd_same, upd_same]
  · rw [upd_ne e, upd_ne e, upd_ne e]
theorem w_pair {σ : L2.St} {H : Hp} {tk tv : TE} {r : List (TE × TE)} {Q : List (V × V) → Hp → Prop} (q : tk σ H fun x H1 => tv σ H1 fun y H2 => tPairs r σ H2 fun ps H3 => Q ((x, y) :: ps) H3) : tPairs ((tk, tv) :: r) σ H Q := q
theorem w_pair0 {σ : L2.St} {H : Hp} {Q : List (V × V) → Hp → Prop} (q : Q [] H) : tPairs [] σ H Q := q
theorem dmut {H : Hp} {p q : Addr} {o u : HO} {kvs : List (Key × V)} (h : H q = some o) (hp : H p = some (.dK kvs)) (no : ∀ k, o ≠ .dK k := by intro k z; cases z) : (upd H p u) q = some o := by
  rw [upd_ne (ne_of h hp (no _))]; exact h
theorem w_st {σ : L2.St} {H : Hp} {D : Ends} {t : TS} (R : L2.St → Hp → Prop) (h : ∀ D' : Ends, (∀ σ' H', R σ' H' → D'.nx σ' H') → t D' σ H) (q : ∀ σ' H', R σ' H' → D.nx σ' H') : t D σ H := h D q
theorem cop_two {k : Nat} (h : k % 2 = 1) (n : Nat) : Nat.gcd k (2 ^ n) = 1 := by
  have h2 : Nat.Coprime k 2 := by
    unfold Nat.Coprime
    have d := Nat.gcd_dvd_right k 2
    have l := Nat.le_of_dvd (by decide) d
    have p : 0 < Nat.gcd k 2 := Nat.gcd_pos_of_pos_right _ (by decide)
    rcases (show Nat.gcd k 2 = 1 ∨ Nat.gcd k 2 = 2 by omega) with e | e
    · exact e
    · have := Nat.gcd_dvd_left k 2
      rw [e] at this; omega
  exact Nat.Coprime.pow_right n h2
theorem two_ex' : ∀ (f : Nat) (n : Int), n.natAbs ≤ f → n ≠ 0 → ∃ (j : Nat) (a : Int), n = 2 ^ j * (2 * a + 1)
  | 0, n, h, h0 => by omega
  | f + 1, n, h, h0 => by
    rcases Int.emod_two_eq n with e | e
    · obtain ⟨j, a, q⟩ := two_ex' f (n / 2) (by omega) (by omega)
      refine ⟨j + 1, a, ?_⟩
      rw [Int.pow_succ, Int.mul_assoc, Int.mul_left_comm, ← q]; omega
    · exact ⟨0, n / 2, by rw [Int.pow_zero]; omega⟩
theorem gcd_gv (w : Nat) (c : Int) : ((Nat.gcd c.natAbs ((2 : Int) ^ w).natAbs : Nat) : Int) = 2 ^ gv w c := by
  have e2 : ((2 : Int) ^ w).natAbs = 2 ^ w := Int.natAbs_pow 2 w
  rw [e2]
  by_cases h : (2 : Int) ^ w ∣ c
  · rw [gv_full.mp h]
    have d : 2 ^ w ∣ c.natAbs := by
      have := Int.natAbs_dvd_natAbs.mpr h
      rw [e2] at this; exact this
    rw [Nat.gcd_eq_right d]; exact Int.natCast_pow 2 w
  · have c0 : c ≠ 0 := fun z => h (by rw [z]; exact Int.dvd_zero _)
    obtain ⟨j, a, e⟩ := two_ex' _ c (Nat.le_refl _) c0
    have jw : j ≤ w := Nat.le_of_not_lt fun z => h (by rw [e]; exact Int.dvd_trans (gpp (Nat.le_of_lt z)) (Int.dvd_mul_right _ _))
    rw [gv_val e jw]
    have ea : c.natAbs = 2 ^ j * (2 * a + 1).natAbs := by
      rw [e, Int.natAbs_mul, Int.natAbs_pow]; rfl
    have ew : 2 ^ w = 2 ^ j * 2 ^ (w - j) := by rw [← Nat.pow_add]; congr 1; omega
    rw [ea, ew, Nat.gcd_mul_left, cop_two (by omega), Nat.mul_one]
    exact Int.natCast_pow 2 j
theorem tot_up (p : Int → Bool) (f S : Int) (s0 : 0 < S) (h : ∀ x, p (x + S) = p x) : tot p (f + 1) (f + 1 + S - 1) = tot p f (f + S - 1) := by
  have e1 := tot_split p (first := f) (mid := f) (last := f + S) (by omega) (by omega)
  have e2 := tot_step p (show f ≤ f + S by omega)
  have e3 := tot_one p f
  rw [h f] at e2
  rw [show f + 1 + S - 1 = f + S by omega]
  omega
theorem tot_any (p : Int → Bool) (S : Int) (s0 : 0 < S) (h : ∀ x, p (x + S) = p x) (f g : Int) : tot p f (f + S - 1) = tot p g (g + S - 1) := by
  have up : ∀ (n : Nat) (f : Int), tot p (f + (n : Int)) (f + (n : Int) + S - 1) = tot p f (f + S - 1) := fun n => by
    induction n with
    | zero => intro f; rw [show f + ((0 : Nat) : Int) = f by omega]
    | succ n ih =>
      intro f
      rw [show f + ((n + 1 : Nat) : Int) = (f + (n : Int)) + 1 by omega, tot_up p _ S s0 h, ih]
  rcases Int.le_total f g with c | c
  · obtain ⟨n, hn⟩ := Int.eq_ofNat_of_zero_le (show 0 ≤ g - f by omega)
    rw [show g = f + (n : Int) by omega, up]
  · obtain ⟨n, hn⟩ := Int.eq_ofNat_of_zero_le (show 0 ≤ f - g by omega)
    rw [show f = g + (n : Int) by omega, up]
theorem tot_laps (p : Int → Bool) (S : Int) (s0 : 0 < S) (h : ∀ x, p (x + S) = p x) (f : Int) : ∀ n : Nat, tot p f (f + (n : Int) * S - 1) = n * tot p f (f + S - 1)
  | 0 => by rw [tot_none (by omega)]; omega
  | n + 1 => by
    have n0 : 0 ≤ (n : Int) * S := Int.mul_nonneg (by omega) (by omega)
    rw [show ((n + 1 : Nat) : Int) = (n : Int) + 1 by omega, Int.add_mul, Int.one_mul, Int.add_mul, Int.one_mul]
    have e := tot_split p (first := f) (mid := f + (n : Int) * S - 1) (last := f + ((n : Int) * S + S) - 1) (by omega) (by omega)
    rw [e, tot_laps p S s0 h f n, show f + (n : Int) * S - 1 + 1 = f + (n : Int) * S by omega, show f + ((n : Int) * S + S) - 1 = f + (n : Int) * S + S - 1 by omega, tot_any p S s0 h (f + (n : Int) * S) f]
/-- whether a multiple of g, more a, is from lo to hi -/
theorem mult_iff {g lo hi a : Int} (g0 : 0 < g) (h : hi - lo < g) : ((hi - a) / g > (lo - 1 - a) / g) ↔ inR g lo hi a = true := by
  unfold inR
  rw [decide_eq_true_eq]
  have r0 := Int.emod_nonneg (a - lo) (Int.ne_of_gt g0)
  have r1 := Int.emod_lt_of_pos (a - lo) g0
  have r2 := Int.emod_add_mul_ediv (a - lo) g
  generalize (a - lo) % g = r at *
  generalize (a - lo) / g = q at *
  have e1 : (lo - 1 - a) / g = -q - 1 := by
    have : lo - 1 - a = (g - 1 - r) + g * (-q - 1) := by rw [Int.mul_sub, Int.mul_neg]; omega
    rw [this, Int.add_mul_ediv_left _ _ (Int.ne_of_gt g0), Int.ediv_eq_zero_of_lt (by omega) (by omega)]; omega
  rw [e1]
  constructor
  · intro z
    have := (Int.le_ediv_iff_mul_le g0 (a := -q) (b := hi - a)).mp (by omega)
    rw [Int.mul_comm, Int.mul_neg] at this
    omega
  · rintro ⟨z1, z2⟩
    have := (Int.le_ediv_iff_mul_le g0 (a := -q) (b := hi - a)).mpr (by rw [Int.mul_comm, Int.mul_neg]; omega)
    omega
theorem tot_inR {g lo hi : Int} (g0 : 0 < g) (h0 : lo ≤ hi + 1) (h : hi - lo < g) (f : Int) : tot (fun a => inR g lo hi a) f (f + g - 1) = hi - lo + 1 := by
  have per : ∀ x, inR g lo hi (x + g) = inR g lo hi x := fun x => by
    unfold inR
    rw [show x + g - lo = (x - lo) + g * 1 by omega, Int.add_mul_emod_self_left]
  show tot (inR g lo hi) f (f + g - 1) = _
  rw [tot_any _ g g0 per f lo, tot_split _ (first := lo) (mid := hi) (last := lo + g - 1) (by omega) (by omega)]
  have e1 : tot (inR g lo hi) lo hi = hi - lo + 1 := (tot_all_iff (by omega)).mpr fun x x1 x2 => by
    unfold inR
    rw [Int.emod_eq_of_lt (by omega) (by omega)]; exact decide_eq_true (by omega)
  have e2 : tot (inR g lo hi) (hi + 1) (lo + g - 1) = 0 := tot_zero_iff.mpr fun x x1 x2 => by
    unfold inR
    rw [Int.emod_eq_of_lt (by omega) (by omega)]; exact decide_eq_false (by omega)
  omega
/-- for how many a of w bits no multiple of 2 ** p, more a, is from lo to hi -/
theorem tot_miss {w p : Nat} {lo hi : Int} (pw : p ≤ w) (h0 : lo ≤ hi + 1) (f : Int) : tot (fun a => !decide ((hi - a) / (2 : Int) ^ p > (lo - 1 - a) / 2 ^ p)) f (f + 2 ^ w - 1) = (2 ^ p - min (2 ^ p) (hi - lo + 1)) * 2 ^ (w - p) := by
  have g0 : (0 : Int) < 2 ^ p := Int.pow_pos (by decide)
  have w0 : (0 : Int) < 2 ^ w := Int.pow_pos (by decide)
  have ew : (2 : Int) ^ w = ((2 ^ (w - p) : Nat) : Int) * 2 ^ p := by
    rw [show ((2 ^ (w - p) : Nat) : Int) = (2 : Int) ^ (w - p) from Int.natCast_pow 2 _, ← Int.pow_add]; congr 1; omega
  rw [tot_not (by omega)]
  by_cases c : hi - lo < 2 ^ p
  · rw [tot_congr (q := fun a => inR (2 ^ p) lo hi a) fun x _ _ => by
      rw [Bool.eq_iff_iff, decide_eq_true_eq]; exact mult_iff g0 c]
    have per : ∀ x, inR (2 ^ p) lo hi (x + 2 ^ p) = inR (2 ^ p) lo hi x := fun x => by
      unfold inR
      rw [show x + 2 ^ p - lo = (x - lo) + 2 ^ p * 1 by omega, Int.add_mul_emod_self_left]
    rw [ew, tot_laps _ _ g0 per, tot_inR g0 h0 c, show min ((2 : Int) ^ p) (hi - lo + 1) = hi - lo + 1 by omega, show ((2 ^ (w - p) : Nat) : Int) = (2 : Int) ^ (w - p) from Int.natCast_pow 2 _, Int.sub_mul, Int.mul_comm (2 ^ p), Int.mul_comm (hi - lo + 1)]
    omega
  · rw [show min ((2 : Int) ^ p) (hi - lo + 1) = 2 ^ p by omega, Int.sub_self, Int.zero_mul]
    have := (tot_all_iff (p := fun a => decide ((hi - a) / (2 : Int) ^ p > (lo - 1 - a) / 2 ^ p)) (first := f) (last := f + 2 ^ w - 1) (by omega)).mpr fun x _ _ => by
      rw [decide_eq_true_eq]
      have e := Int.add_mul_ediv_left (lo - 1 - x) 1 (Int.ne_of_gt g0)
      have := Int.ediv_le_ediv g0 (show lo - 1 - x + 2 ^ p * 1 ≤ hi - x by omega)
      omega
    omega
theorem bits_pow (k : Nat) : PySem.Builtin.Int.intBits (2 ^ k) = k + 1 := by
  unfold PySem.Builtin.Int.intBits
  have e : ((2 : Int) ^ k).natAbs = 2 ^ k := by rw [Int.natAbs_pow]; rfl
  have n : ¬ (((2 : Int) ^ k == 0) = true) := by
    have : (0 : Int) < 2 ^ k := Int.pow_pos (by decide)
    simp only [beq_iff_eq]; omega
  rw [if_neg n, e, Nat.log2_two_pow]
end Fw
namespace Fw
/-- the integers with a property are those that are equal to X modulo per -/
def Sol (p : Int → Bool) (per X : Int) : Prop := ∀ x, p x = true ↔ per ∣ x - X
section
variable {p : Int → Bool} {per X f : Int}
theorem Sol.shift (h : Sol p per X) (x : Int) : p (x + per) = p x := by
  rw [Bool.eq_iff_iff, h, h]
  constructor
  · rintro ⟨k, e⟩; exact ⟨k - 1, by rw [Int.mul_sub]; omega⟩
  · rintro ⟨k, e⟩; exact ⟨k + 1, by rw [Int.mul_add]; omega⟩
theorem Sol.near (h : Sol p per X) (p0 : 0 < per) {x : Int} (h1 : X - per < x) (h2 : x < X + per) (hx : p x = true) : x = X := by
  obtain ⟨k, e⟩ := (h x).mp hx
  rcases Int.lt_trichotomy k 0 with z | z | z
  · have := Int.mul_le_mul_of_nonneg_left (show k ≤ -1 by omega) (Int.le_of_lt p0); omega
  · rw [z] at e; omega
  · have := Int.mul_le_mul_of_nonneg_left (show 1 ≤ k by omega) (Int.le_of_lt p0); omega
theorem Sol.self (h : Sol p per X) : p X = true := (h X).mpr ⟨0, by omega⟩
theorem Sol.before (h : Sol p per X) (p0 : 0 < per) (h1 : f ≤ X) (h2 : X < f + per) : tot p f (X - 1) = 0 := tot_zero_iff.mpr fun x x0 x1 => by
  cases e : p x with
  | false => rfl
  | true => have := h.near p0 (by omega) (by omega) e; omega
theorem Sol.block (h : Sol p per X) (p0 : 0 < per) (h1 : f ≤ X) (h2 : X < f + per) : tot p f (f + per - 1) = 1 := by
  rw [tot_split p (first := f) (mid := X) (last := f + per - 1) (by omega) (by omega), tot_step p h1, h.before p0 h1 h2, if_pos h.self]
  have : tot p (X + 1) (f + per - 1) = 0 := tot_zero_iff.mpr fun x x0 x1 => by
    cases e : p x with
    | false => rfl
    | true => have := h.near p0 (by omega) (by omega) e; omega
  omega
theorem Sol.many (h : Sol p per X) (p0 : 0 < per) (h1 : f ≤ X) (h2 : X < f + per) (n : Nat) : tot p f (f + (n : Int) * per - 1) = n := by
  rw [tot_laps p per p0 h.shift f n, h.block p0 h1 h2, Int.mul_one]
theorem Sol.at (h : Sol p per X) (p0 : 0 < per) (h1 : f ≤ X) (h2 : X < f + per) (n : Nat) : p (X + (n : Int) * per) = true ∧ tot p f (X + (n : Int) * per - 1) = n := by
  refine ⟨(h _).mpr ⟨n, by rw [Int.mul_comm]; omega⟩, ?_⟩
  have n0 : 0 ≤ (n : Int) * per := Int.mul_nonneg (by omega) (Int.le_of_lt p0)
  have e := tot_split p (first := f) (mid := X - 1) (last := X + (n : Int) * per - 1) (by omega) (by omega)
  have h' : Sol p per X := h
  have b := h'.many p0 (f := X) (Int.le_refl _) (by omega) n
  rw [h.before p0 h1 h2, show X - 1 + 1 = X by omega] at e
  omega
end
/-- how many integers of a range are equal to r modulo m -/
theorem tot_mod {m r b t : Int} (m0 : 0 < m) (h : b ≤ t + 1) : tot (fun v => decide ((v - r) % m = 0)) b t = (t - r) / m - (b - r - 1) / m := by
  obtain ⟨n, hn⟩ := Int.eq_ofNat_of_zero_le (show 0 ≤ t + 1 - b by omega)
  have key : ∀ n : Nat, cN (fun v => decide ((v - r) % m = 0)) b n = (b + (n : Int) - 1 - r) / m - (b - r - 1) / m := fun n => by
    induction n with
    | zero =>
      show (0 : Int) = _
      rw [show b + ((0 : Nat) : Int) - 1 - r = b - r - 1 by omega, Int.sub_self]
    | succ n ih =>
      show cN (fun v => decide ((v - r) % m = 0)) b n + (if decide ((b + (n : Int) - r) % m = 0) = true then 1 else 0) = _
      rw [ih, show b + ((n + 1 : Nat) : Int) - 1 - r = b + (n : Int) - r by omega, show b + (n : Int) - 1 - r = b + (n : Int) - r - 1 by omega]
      generalize b + (n : Int) - r = y
      have r0 := Int.emod_nonneg y (Int.ne_of_gt m0)
      have r1 := Int.emod_lt_of_pos y m0
      have r2 := Int.emod_add_mul_ediv y m
      generalize y % m = c at *
      generalize y / m = q at *
      by_cases z : c = 0
      · have e : (y - 1) / m = q - 1 := by
          rw [show y - 1 = (m - 1) + m * (q - 1) by rw [Int.mul_sub]; omega, Int.add_mul_ediv_left _ _ (Int.ne_of_gt m0), Int.ediv_eq_zero_of_lt (by omega) (by omega)]; omega
        rw [e, decide_eq_true z, if_pos rfl]; omega
      · have e : (y - 1) / m = q := by
          rw [show y - 1 = (c - 1) + m * q by omega, Int.add_mul_ediv_left _ _ (Int.ne_of_gt m0), Int.ediv_eq_zero_of_lt (by omega) (by omega)]; omega
        rw [e, decide_eq_false z, if_neg Bool.false_ne_true]; omega
  unfold tot
  rw [show (t - b + 1).toNat = n by omega, key n, show b + (n : Int) - 1 - r = t - r by omega]
/-- values counted one by one -/
theorem tot_vals {v : Int → Int} {b t f l c : Int} {g : Int → Bool} (hbt : b ≤ t + 1) (h : ∀ w, b ≤ w → w ≤ t → tot (fun x => decide (v x = w)) f l = if g w = true then c else 0) : tot (fun x => decide (b ≤ v x ∧ v x ≤ t)) f l = c * tot g b t := by
  obtain ⟨n, hn⟩ := Int.eq_ofNat_of_zero_le (show 0 ≤ t - b + 1 by omega)
  unfold tot at *
  rw [show (t - b + 1).toNat = n by omega]
  generalize (l - f + 1).toNat = N at *
  unfold cN at *
  have e1 : sZ (fun i => if decide (b ≤ v (f + (i : Int)) ∧ v (f + (i : Int)) ≤ t) = true then (1 : Int) else 0) N = sZ (fun i => sZ (fun j => if decide (v (f + (i : Int)) = b + (j : Int)) = true then 1 else 0) n) N := by
    refine sZ_congr fun i _ => ?_
    by_cases q : b ≤ v (f + (i : Int)) ∧ v (f + (i : Int)) ≤ t
    · rw [if_pos (decide_eq_true q)]
      obtain ⟨j, hj⟩ := Int.eq_ofNat_of_zero_le (show 0 ≤ v (f + (i : Int)) - b by omega)
      rw [sZ_only (i0 := j) (by omega) fun i2 _ h2 => if_neg (by rw [decide_eq_true_eq]; omega), if_pos (decide_eq_true (by omega))]
    · rw [if_neg (by rw [decide_eq_true_eq]; exact q)]
      rw [sZ_congr (g := fun _ => 0) fun j hj => if_neg (by rw [decide_eq_true_eq]; omega), sZ_zero]
  rw [e1, sZ_swap, ← sZ_mul]
  refine sZ_congr fun j hj => ?_
  have := h (b + (j : Int)) (by omega) (by omega)
  rw [this]
  by_cases q : g (b + (j : Int)) = true
  · rw [if_pos q, if_pos q, Int.mul_one]
  · rw [if_neg q, if_neg q, Int.mul_zero]
/-- a x = far modulo 2 ^ w, where a is o * 2 ^ t -/
theorem sol_iff {w t : Nat} {o u far x : Int} (tw : t ≤ w) (hu : (2 : Int) ^ w ∣ o * u - 1) (hf : (2 : Int) ^ t ∣ far) : (2 : Int) ^ w ∣ o * 2 ^ t * x - far ↔ (2 : Int) ^ (w - t) ∣ x - far / 2 ^ t * u := by
  have t0 : (0 : Int) < 2 ^ t := Int.pow_pos (by decide)
  have e : (2 : Int) ^ w = 2 ^ t * 2 ^ (w - t) := by rw [← Int.pow_add]; congr 1; omega
  obtain ⟨m, hm⟩ := hf
  have hq : far / 2 ^ t = m := by rw [hm, Int.mul_ediv_cancel_left _ (Int.ne_of_gt t0)]
  obtain ⟨d, hd⟩ : (2 : Int) ^ (w - t) ∣ o * u - 1 := Int.dvd_trans ⟨2 ^ t, by rw [e, Int.mul_comm]⟩ hu
  rw [hq, hm]
  have e2 : o * 2 ^ t * x - 2 ^ t * m = 2 ^ t * (o * x - m) := by rw [Int.mul_sub, Int.mul_comm o, Int.mul_assoc]
  rw [e2, e]
  constructor
  · rintro ⟨k, hk⟩
    rw [Int.mul_assoc] at hk
    have hk := Int.eq_of_mul_eq_mul_left (Int.ne_of_gt t0) hk
    refine ⟨u * k - d * x, ?_⟩
    have h1 : u * (o * x - m) = u * (2 ^ (w - t) * k) := by rw [hk]
    rw [Int.mul_sub, Int.mul_left_comm u (2 ^ (w - t)) k, ← Int.mul_assoc u o x, Int.mul_comm u o, show o * u = 1 + 2 ^ (w - t) * d by omega, Int.add_mul, Int.one_mul, Int.mul_comm u m, Int.mul_assoc] at h1
    rw [Int.mul_sub]; omega
  · rintro ⟨k, hk⟩
    refine ⟨o * k + d * m, ?_⟩
    rw [Int.mul_assoc]
    congr 1
    have h1 : o * (x - m * u) = o * (2 ^ (w - t) * k) := by rw [hk]
    rw [Int.mul_sub, Int.mul_left_comm o m u, show o * u = 1 + 2 ^ (w - t) * d by omega, Int.mul_add, Int.mul_one, Int.mul_left_comm o, Int.mul_left_comm m] at h1
    rw [Int.mul_add, Int.mul_comm d m]; omega
end Fw
local macro_rules | `(tactic| walk_at "rd") => `(tactic| repeat (first
  | (with_reducible show L2.tVar _ _ _ _; first | with_reducible refine Fw.w_v0 ?_ | with_reducible refine Fw.w_v1 ?_ | with_reducible refine Fw.w_v2 ?_ | with_reducible refine Fw.w_v3 ?_ | with_reducible refine Fw.w_v4 ?_ | with_reducible refine Fw.w_v5 ?_ | with_reducible refine Fw.w_v6 ?_ | with_reducible refine Fw.w_v7 ?_ | with_reducible refine Fw.w_v8 ?_ | with_reducible refine Fw.w_v9 ?_ | with_reducible refine Fw.w_v10 ?_ | with_reducible refine Fw.w_v11 ?_ | with_reducible refine Fw.w_v12 ?_ | with_reducible refine Fw.w_v13 ?_ | with_reducible refine Fw.w_v14 ?_ | with_reducible refine Fw.w_v15 ?_ | with_reducible refine Fw.w_v16 ?_ | with_reducible refine Fw.w_v17 ?_ | with_reducible refine Fw.w_v18 ?_ | with_reducible refine Fw.w_v19 ?_ | with_reducible refine Fw.w_v20 ?_ | with_reducible refine Fw.w_v21 ?_ | with_reducible refine Fw.w_v22 ?_ | with_reducible refine Fw.w_v23 ?_ | with_reducible refine Fw.w_v24 ?_ | with_reducible refine Fw.w_v25 ?_ | with_reducible refine Fw.w_v26 ?_ | with_reducible refine Fw.w_v27 ?_ | with_reducible refine Fw.w_v28 ?_ | with_reducible refine Fw.w_v29 ?_ | with_reducible refine Fw.w_v30 ?_ | with_reducible refine Fw.w_v31 ?_ | with_reducible refine Fw.w_var (by with_unfolding_all exact rfl) ?_)
  | with_reducible refine Fw.w_cons ?_
  | with_reducible refine Fw.w_c ?_
  | with_reducible refine Fw.w_op ?_
  | with_reducible refine Fw.w_nil ?_
  | with_reducible refine Fw.w_I0 ?_
  | with_reducible refine Fw.w_seq ?_
  | with_reducible refine Fw.w_asg ?_
  | (with_reducible show L2.gName _ _ (L2.wipe _ _) _ _; dsimp only [L2.wipe, List.set, List.map])
  | (with_reducible show L2.gTup _ _ _ _ (L2.wipe _ _) _ _; dsimp only [L2.wipe, List.set, List.map])
  | (with_reducible show L2.gName _ _ _ _ _; first | with_reducible refine Fw.w_n0 ?_ | with_reducible refine Fw.w_n1 ?_ | with_reducible refine Fw.w_n2 ?_ | with_reducible refine Fw.w_n3 ?_ | with_reducible refine Fw.w_n4 ?_ | with_reducible refine Fw.w_n5 ?_ | with_reducible refine Fw.w_n6 ?_ | with_reducible refine Fw.w_n7 ?_ | with_reducible refine Fw.w_n8 ?_ | with_reducible refine Fw.w_n9 ?_ | with_reducible refine Fw.w_n10 ?_ | with_reducible refine Fw.w_n11 ?_ | with_reducible refine Fw.w_n12 ?_ | with_reducible refine Fw.w_n13 ?_ | with_reducible refine Fw.w_n14 ?_ | with_reducible refine Fw.w_n15 ?_ | with_reducible refine Fw.w_n16 ?_ | with_reducible refine Fw.w_n17 ?_ | with_reducible refine Fw.w_n18 ?_ | with_reducible refine Fw.w_n19 ?_ | with_reducible refine Fw.w_n20 ?_ | with_reducible refine Fw.w_n21 ?_ | with_reducible refine Fw.w_n22 ?_ | with_reducible refine Fw.w_n23 ?_ | with_reducible refine Fw.w_n24 ?_ | with_reducible refine Fw.w_n25 ?_ | with_reducible refine Fw.w_n26 ?_ | with_reducible refine Fw.w_n27 ?_ | with_reducible refine Fw.w_n28 ?_ | with_reducible refine Fw.w_n29 ?_ | with_reducible refine Fw.w_n30 ?_ | with_reducible refine Fw.w_n31 ?_ | with_reducible refine Fw.w_name ?_)
  | with_reducible refine Fw.w_call ?_
  | with_reducible refine Fw.w_exb ?_
  | with_reducible refine Fw.w_test ?_
  | (with_reducible show L2.rI _ _ _ _ _ _; with_reducible refine Fw.w_I (by with_unfolding_all first | exact Or.inl ⟨by decide, by decide⟩ | exact Or.inr ⟨by decide, by decide⟩ | exact ⟨by decide, by decide⟩ | exact ⟨by decide, by decide, by decide⟩ | (show (0 : Int) < _; decide)) ?_)
  | with_reducible refine Fw.w_neI ?_
  | with_reducible refine Fw.w_ifS ?_
  | with_reducible refine Fw.w_next ?_
  | with_reducible refine Fw.w_callK ?_
  | with_reducible refine Fw.w_ret ?_
  | with_reducible refine Fw.w_cb ?_
  | with_reducible refine Fw.w_int ?_
  | (with_reducible show L2.rIxL _ _ _ _ _; with_reducible refine Fw.w_ixL (by first | assumption | exact L2.upd_same) (by with_unfolding_all rfl) ?_)
  | (with_reducible show L2.rIxT _ _ _ _ _; with_reducible refine Fw.w_ixT (by first | assumption | exact L2.upd_same) (by with_unfolding_all rfl) ?_)
  | (with_reducible show L2.rSetL _ _ _ _ _; with_reducible refine Fw.w_setL (by first | assumption | exact L2.upd_same) (by with_unfolding_all rfl) ?_)
  | (with_reducible show L2.gTup _ _ _ _ _ _ _; with_reducible refine Fw.w_gtup (by first | assumption | exact L2.upd_same) rfl ?_)
  | with_reducible refine Fw.w_U ?_
  | with_reducible refine Fw.w_un ?_
  | with_reducible refine Fw.w_eqI ?_
  | with_reducible refine Fw.w_eqB ?_
  | with_reducible refine Fw.w_neB ?_
  | with_reducible refine Fw.w_eqS ?_
  | with_reducible refine Fw.w_exi ?_
  | with_reducible refine Fw.w_exr ?_
  | with_reducible refine Fw.w_B ?_
  | with_reducible refine Fw.w_and ?_
  | with_reducible refine Fw.w_or ?_
  | with_reducible refine Fw.w_not ?_
  | with_reducible refine Fw.w_andV ?_
  | with_reducible refine Fw.w_notV ?_
  | with_reducible refine Fw.w_make ?_
  | with_reducible refine Fw.w_intB ?_
  | with_reducible refine Fw.w_abs ?_
  | with_reducible refine Fw.w_bits ?_
  | with_reducible refine Fw.w_sl ?_
  | with_reducible refine Fw.w_part ?_
  | with_reducible refine Fw.w_nopart ?_
  | with_reducible refine Fw.w_lst ?_
  | with_reducible refine Fw.w_tup ?_
  | with_reducible refine Fw.w_dnewK ?_
  | with_reducible refine Fw.w_dget ?_
  | with_reducible refine Fw.w_isNn ?_
  | with_reducible refine Fw.w_isNi ?_
  | with_reducible refine Fw.w_meth0 ?_
  | with_reducible refine Fw.w_match ?_
  | with_reducible refine Fw.w_caseA ?_
  | with_reducible refine Fw.w_caseT ?_
  | with_reducible refine Fw.w_par ?_
  | (with_reducible refine Fw.w_exvw ?_; try dsimp only [List.set])
  | with_reducible refine Fw.w_drop ?_
  | with_reducible refine Fw.w_retN ?_
  | with_reducible refine Fw.w_gnil ?_
  | with_reducible refine Fw.w_gcons ?_
  | with_reducible refine Fw.w_gsub ?_
  | with_reducible refine Fw.w_for ?_
  | with_reducible refine Fw.w_lc ?_
  | with_reducible refine Fw.w_yes ?_
  | with_reducible refine Fw.w_iList ?_
  | with_reducible refine Fw.w_iRng1 ?_
  | with_reducible refine Fw.w_sfld ?_))
namespace Fw
open PySem L2
def top (i : Nat) : Stmt := PySem.Challenge.pw_farwrap_k19_overflow_of_values_and_pairs.main.body.getD i (.Pass ⟨0, 0, 0, 0⟩)
abbrev s_is_integer : Stmt := top 7
abbrev s_check_integer : Stmt := top 8
abbrev s_is_sixty_digits : Stmt := top 9
abbrev s_check_sixty_digits : Stmt := top 10
abbrev s_toward_zero : Stmt := top 11
abbrev s_exact_result : Stmt := top 17
abbrev s__bitwise : Stmt := top 18
abbrev s_is_word : Stmt := top 20
abbrev s_check_word : Stmt := top 21
abbrev s_Kind___init__ : Stmt := inClass (top 24) 0
abbrev s_check_kind : Stmt := top 25
abbrev s_check_value : Stmt := top 26
abbrev s_least : Stmt := top 27
abbrev s_greatest : Stmt := top 28
abbrev s_is_value : Stmt := top 29
abbrev s_wrapped : Stmt := top 30
abbrev s__check_operation : Stmt := top 31
abbrev s_operate : Stmt := top 32
abbrev s_overflows : Stmt := top 33
abbrev s_quotient_total : Stmt := top 35
abbrev s_total_between : Stmt := top 36
abbrev s_check_line : Stmt := top 38
abbrev s_check_range : Stmt := top 39
abbrev s__check : Stmt := top 40
abbrev s__check_within : Stmt := top 41
abbrev s__total : Stmt := top 42
abbrev s_total_within : Stmt := top 43
abbrev s__count : Stmt := top 47
abbrev s__factors_between : Stmt := top 48
abbrev s__safe_values : Stmt := top 49
abbrev s__check_constant : Stmt := top 50
abbrev s_overflow_total : Stmt := top 51
abbrev s_safe_values : Stmt := top 52
abbrev s__check_span : Stmt := top 53
abbrev s__check_pairs : Stmt := top 54
abbrev s__corner : Stmt := top 55
abbrev s__sums_up_to : Stmt := top 56
abbrev s__pairs_between : Stmt := top 57
abbrev s_pair_overflows : Stmt := top 58
abbrev s_pairs_within : Stmt := top 59
abbrev s__law_deck : Stmt := top 61
abbrev s__law_deal : Stmt := top 62
abbrev s__law_choice : Stmt := top 63
abbrev s__law_great : Stmt := top 64
abbrev s__law_values_right : Stmt := top 65
abbrev s__law_span : Stmt := top 66
abbrev s__law_pairs_right : Stmt := top 67
abbrev s__law_great_values_right : Stmt := top 68
abbrev s__law_points_right : Stmt := top 69
abbrev s__law_great_pairs_right : Stmt := top 70
abbrev s_law : Stmt := top 71
theorem sc_is_integer : FnScope ["value"] ["value"] (defScope s_is_integer) := ⟨rfl, rfl, rfl, by decide +kernel, rfl, by decide +kernel, by decide +kernel⟩
theorem sc_check_integer : FnScope ["value", "argument"] ["value", "argument"] (defScope s_check_integer) := ⟨rfl, rfl, rfl, by decide +kernel, rfl, by decide +kernel, by decide +kernel⟩
theorem sc_is_sixty_digits : FnScope ["value"] ["value"] (defScope s_is_sixty_digits) := ⟨rfl, rfl, rfl, by decide +kernel, rfl, by decide +kernel, by decide +kernel⟩
theorem sc_check_sixty_digits : FnScope ["value", "argument"] ["value", "argument"] (defScope s_check_sixty_digits) := ⟨rfl, rfl, rfl, by decide +kernel, rfl, by decide +kernel, by decide +kernel⟩
theorem sc_toward_zero : FnScope ["x", "y", "quotient"] ["x", "y"] (defScope s_toward_zero) := ⟨rfl, rfl, rfl, by decide +kernel, rfl, by decide +kernel, by decide +kernel⟩
theorem sc_exact_result : FnScope ["name", "x", "y"] ["name", "x", "y"] (defScope s_exact_result) := ⟨rfl, rfl, rfl, by decide +kernel, rfl, by decide +kernel, by decide +kernel⟩
theorem sc__bitwise : FnScope ["name", "x", "y"] ["name", "x", "y"] (defScope s__bitwise) := ⟨rfl, rfl, rfl, by decide +kernel, rfl, by decide +kernel, by decide +kernel⟩
theorem sc_is_word : FnScope ["value", "words"] ["value", "words"] (defScope s_is_word) := ⟨rfl, rfl, rfl, by decide +kernel, rfl, by decide +kernel, by decide +kernel⟩
theorem sc_check_word : FnScope ["word", "words", "argument"] ["word", "words", "argument"] (defScope s_check_word) := ⟨rfl, rfl, rfl, by decide +kernel, rfl, by decide +kernel, by decide +kernel⟩
theorem sc_Kind___init__ : FnScope ["self", "bits", "is_signed"] ["self", "bits", "is_signed"] (defScope s_Kind___init__) := ⟨rfl, rfl, rfl, by decide +kernel, rfl, by decide +kernel, by decide +kernel⟩
theorem sc_check_kind : FnScope ["kind"] ["kind"] (defScope s_check_kind) := ⟨rfl, rfl, rfl, by decide +kernel, rfl, by decide +kernel, by decide +kernel⟩
theorem sc_check_value : FnScope ["kind", "x", "argument"] ["kind", "x", "argument"] (defScope s_check_value) := ⟨rfl, rfl, rfl, by decide +kernel, rfl, by decide +kernel, by decide +kernel⟩
theorem sc_least : FnScope ["kind"] ["kind"] (defScope s_least) := ⟨rfl, rfl, rfl, by decide +kernel, rfl, by decide +kernel, by decide +kernel⟩
theorem sc_greatest : FnScope ["kind"] ["kind"] (defScope s_greatest) := ⟨rfl, rfl, rfl, by decide +kernel, rfl, by decide +kernel, by decide +kernel⟩
theorem sc_is_value : FnScope ["kind", "x"] ["kind", "x"] (defScope s_is_value) := ⟨rfl, rfl, rfl, by decide +kernel, rfl, by decide +kernel, by decide +kernel⟩
theorem sc_wrapped : FnScope ["kind", "n", "low"] ["kind", "n"] (defScope s_wrapped) := ⟨rfl, rfl, rfl, by decide +kernel, rfl, by decide +kernel, by decide +kernel⟩
theorem sc__check_operation : FnScope ["kind", "names", "name", "x", "y"] ["kind", "names", "name", "x", "y"] (defScope s__check_operation) := ⟨rfl, rfl, rfl, by decide +kernel, rfl, by decide +kernel, by decide +kernel⟩
theorem sc_operate : FnScope ["kind", "name", "x", "y"] ["kind", "name", "x", "y"] (defScope s_operate) := ⟨rfl, rfl, rfl, by decide +kernel, rfl, by decide +kernel, by decide +kernel⟩
theorem sc_overflows : FnScope ["kind", "name", "x", "y"] ["kind", "name", "x", "y"] (defScope s_overflows) := ⟨rfl, rfl, rfl, by decide +kernel, rfl, by decide +kernel, by decide +kernel⟩
theorem sc_quotient_total : FnScope ["line", "size", "first", "last", "a", "b", "count", "total", "top"] ["line", "size", "first", "last"] (defScope s_quotient_total) := ⟨rfl, rfl, rfl, by decide +kernel, rfl, by decide +kernel, by decide +kernel⟩
theorem sc_total_between : FnScope ["line", "size", "first", "last", "low", "high", "a", "b"] ["line", "size", "first", "last", "low", "high"] (defScope s_total_between) := ⟨rfl, rfl, rfl, by decide +kernel, rfl, by decide +kernel, by decide +kernel⟩
theorem sc_check_line : FnScope ["line", "argument"] ["line", "argument"] (defScope s_check_line) := ⟨rfl, rfl, rfl, by decide +kernel, rfl, by decide +kernel, by decide +kernel⟩
theorem sc_check_range : FnScope ["first", "last"] ["first", "last"] (defScope s_check_range) := ⟨rfl, rfl, rfl, by decide +kernel, rfl, by decide +kernel, by decide +kernel⟩
theorem sc__check : FnScope ["kind", "line", "first", "last"] ["kind", "line", "first", "last"] (defScope s__check) := ⟨rfl, rfl, rfl, by decide +kernel, rfl, by decide +kernel, by decide +kernel⟩
theorem sc__check_within : FnScope ["kind", "line", "first", "last", "low", "high"] ["kind", "line", "first", "last", "low", "high"] (defScope s__check_within) := ⟨rfl, rfl, rfl, by decide +kernel, rfl, by decide +kernel, by decide +kernel⟩
theorem sc__total : FnScope ["kind", "line", "first", "last", "low", "high"] ["kind", "line", "first", "last", "low", "high"] (defScope s__total) := ⟨rfl, rfl, rfl, by decide +kernel, rfl, by decide +kernel, by decide +kernel⟩
theorem sc_total_within : FnScope ["kind", "line", "first", "last", "low", "high"] ["kind", "line", "first", "last", "low", "high"] (defScope s_total_within) := ⟨rfl, rfl, rfl, by decide +kernel, rfl, by decide +kernel, by decide +kernel⟩
theorem sc__count : FnScope ["first", "last"] ["first", "last"] (defScope s__count) := ⟨rfl, rfl, rfl, by decide +kernel, rfl, by decide +kernel, by decide +kernel⟩
theorem sc__factors_between : FnScope ["c", "low", "high"] ["c", "low", "high"] (defScope s__factors_between) := ⟨rfl, rfl, rfl, by decide +kernel, rfl, by decide +kernel, by decide +kernel⟩
theorem sc__safe_values : FnScope ["kind", "name", "c", "low", "high", "start", "end"] ["kind", "name", "c"] (defScope s__safe_values) := ⟨rfl, rfl, rfl, by decide +kernel, rfl, by decide +kernel, by decide +kernel⟩
theorem sc__check_constant : FnScope ["kind", "name", "c"] ["kind", "name", "c"] (defScope s__check_constant) := ⟨rfl, rfl, rfl, by decide +kernel, rfl, by decide +kernel, by decide +kernel⟩
theorem sc_overflow_total : FnScope ["kind", "name", "c", "first", "last", "start", "end"] ["kind", "name", "c", "first", "last"] (defScope s_overflow_total) := ⟨rfl, rfl, rfl, by decide +kernel, rfl, by decide +kernel, by decide +kernel⟩
theorem sc_safe_values : FnScope ["kind", "name", "c"] ["kind", "name", "c"] (defScope s_safe_values) := ⟨rfl, rfl, rfl, by decide +kernel, rfl, by decide +kernel, by decide +kernel⟩
theorem sc__check_span : FnScope ["kind", "span", "argument"] ["kind", "span", "argument"] (defScope s__check_span) := ⟨rfl, rfl, rfl, by decide +kernel, rfl, by decide +kernel, by decide +kernel⟩
theorem sc__check_pairs : FnScope ["kind", "name", "xs", "ys"] ["kind", "name", "xs", "ys"] (defScope s__check_pairs) := ⟨rfl, rfl, rfl, by decide +kernel, rfl, by decide +kernel, by decide +kernel⟩
theorem sc__corner : FnScope ["height"] ["height"] (defScope s__corner) := ⟨rfl, rfl, rfl, by decide +kernel, rfl, by decide +kernel, by decide +kernel⟩
theorem sc__sums_up_to : FnScope ["xs", "ys", "most", "height", "width", "depth"] ["xs", "ys", "most"] (defScope s__sums_up_to) := ⟨rfl, rfl, rfl, by decide +kernel, rfl, by decide +kernel, by decide +kernel⟩
theorem sc__pairs_between : FnScope ["name", "xs", "ys", "low", "high"] ["name", "xs", "ys", "low", "high"] (defScope s__pairs_between) := ⟨rfl, rfl, rfl, by decide +kernel, rfl, by decide +kernel, by decide +kernel⟩
theorem sc_pair_overflows : FnScope ["kind", "name", "xs", "ys", "pairs"] ["kind", "name", "xs", "ys"] (defScope s_pair_overflows) := ⟨rfl, rfl, rfl, by decide +kernel, rfl, by decide +kernel, by decide +kernel⟩
theorem sc_pairs_within : FnScope ["kind", "name", "xs", "ys", "low", "high", "size", "shift"] ["kind", "name", "xs", "ys", "low", "high"] (defScope s_pairs_within) := ⟨rfl, rfl, rfl, by decide +kernel, rfl, by decide +kernel, by decide +kernel⟩
theorem sc__law_deck : FnScope ["_law_cell"] ["_law_cell"] (defScope s__law_deck) := ⟨rfl, rfl, rfl, by decide +kernel, rfl, by decide +kernel, by decide +kernel⟩
theorem sc__law_deal : FnScope ["_law_deck_here", "_law_many", "_law_card", "_law_mixed"] ["_law_deck_here", "_law_many"] (defScope s__law_deal) := ⟨rfl, rfl, rfl, by decide +kernel, rfl, by decide +kernel, by decide +kernel⟩
theorem sc__law_choice : FnScope ["_law_deck_here", "_law_some"] ["_law_deck_here", "_law_some"] (defScope s__law_choice) := ⟨rfl, rfl, rfl, by decide +kernel, rfl, by decide +kernel, by decide +kernel⟩
theorem sc__law_great : FnScope ["_law_deck_here", "_law_most", "_law_found", "_law_turn"] ["_law_deck_here", "_law_most"] (defScope s__law_great) := ⟨rfl, rfl, rfl, by decide +kernel, rfl, by decide +kernel, by decide +kernel⟩
theorem sc__law_values_right : FnScope ["_law_own", "_law_least_one", "_law_size", "_law_one", "_law_word", "_law_safe", "_law_n", "_law_begin", "_law_end", "_law_due"] ["_law_own", "_law_least_one", "_law_size", "_law_one"] (defScope s__law_values_right) := ⟨rfl, rfl, rfl, by decide +kernel, rfl, by decide +kernel, by decide +kernel⟩
theorem sc__law_span : FnScope ["_law_deck_here", "_law_least_one", "_law_size", "_law_turn"] ["_law_deck_here", "_law_least_one", "_law_size"] (defScope s__law_span) := ⟨rfl, rfl, rfl, by decide +kernel, rfl, by decide +kernel, by decide +kernel⟩
theorem sc__law_pairs_right : FnScope ["_law_deck_here", "_law_own", "_law_least_one", "_law_size", "_law_left", "_law_right", "_law_bottom", "_law_top", "_law_turn", "_law_word", "_law_over_so", "_law_within_so", "_law_n", "_law_row", "_law_k"] ["_law_deck_here", "_law_own", "_law_least_one", "_law_size"] (defScope s__law_pairs_right) := ⟨rfl, rfl, rfl, by decide +kernel, rfl, by decide +kernel, by decide +kernel⟩
theorem sc__law_great_values_right : FnScope ["_law_deck_here", "_law_own", "_law_least_one", "_law_size", "_law_one", "_law_word", "_law_near", "_law_far", "_law_some", "_law_n", "_law_beside", "_law_begin", "_law_end", "_law_due", "_law_told"] ["_law_deck_here", "_law_own", "_law_least_one", "_law_size"] (defScope s__law_great_values_right) := ⟨rfl, rfl, rfl, by decide +kernel, rfl, by decide +kernel, by decide +kernel⟩
theorem sc__law_points_right : FnScope ["_law_deck_here", "_law_own", "_law_least_one", "_law_size", "_law_left", "_law_right", "_law_bottom", "_law_top", "_law_n", "_law_word", "_law_sign", "_law_due", "_law_peak", "_law_cut", "_law_parts", "_law_part", "_law_some"] ["_law_deck_here", "_law_own", "_law_least_one", "_law_size"] (defScope s__law_points_right) := ⟨rfl, rfl, rfl, by decide +kernel, rfl, by decide +kernel, by decide +kernel⟩
theorem sc__law_great_pairs_right : FnScope ["_law_deck_here", "_law_own", "_law_least_one", "_law_size", "_law_left", "_law_right", "_law_bottom", "_law_top", "_law_cut", "_law_whole", "_law_word", "_law_many", "_law_held_so", "_law_parts", "_law_part", "_law_rest", "_law_some", "_law_row", "_law_point", "_law_every", "_law_due"] ["_law_deck_here", "_law_own", "_law_least_one", "_law_size"] (defScope s__law_great_pairs_right) := ⟨rfl, rfl, rfl, by decide +kernel, rfl, by decide +kernel, by decide +kernel⟩
theorem sc_law : FnScope ["_law_script", "_law_cell", "_law_deck_here", "_law_bits", "_law_is_signed", "_law_size", "_law_own", "_law_least_one", "_law_byte"] ["_law_script"] (defScope s_law) := ⟨rfl, rfl, rfl, by decide +kernel, rfl, by decide +kernel, by decide +kernel⟩

/-- a kind's object -/
def kf (w : Nat) (s : Bool) : List (Str × V) := [("bits", .int (w : Int)), ("is_signed", .bl s)]
structure Kd (C : Addr) (H : Hp) (p : Addr) (w : Nat) (s : Bool) : Prop where
  ex : ∃ dx, H p = some (.ins C dx (kf w s))
  w1 : 1 ≤ w
  w2 : w ≤ 128
theorem kf_bits (w : Nat) (s : Bool) : (kf w s).lookup ("bits" : Str) = some (.int (w : Int)) := by unfold kf; simp [List.lookup]
theorem kf_sign (w : Nat) (s : Bool) : (kf w s).lookup ("is_signed" : Str) = some (.bl s) := by
  have e : (("is_signed" : Str) == ("bits" : Str)) = false := by decide +kernel
  unfold kf; simp [List.lookup, e]
/-- the values of a kind, wrapping -/
def loK (w : Nat) (s : Bool) : Int := if s = true then -(2 ^ (w - 1)) else 0
def hiK (w : Nat) (s : Bool) : Int := loK w s + 2 ^ w - 1
def wr (w : Nat) (s : Bool) (n : Int) : Int := loK w s + (n - loK w s) % 2 ^ w
theorem p2 (w : Nat) : (0 : Int) < 2 ^ w := Int.pow_pos (by decide)
theorem p2s {w : Nat} (h : 1 ≤ w) : (2 : Int) ^ w = 2 * 2 ^ (w - 1) := by
  obtain ⟨k, rfl⟩ : ∃ k, w = k + 1 := ⟨w - 1, by omega⟩
  rw [Nat.add_sub_cancel, Int.pow_succ, Int.mul_comm]
theorem wr_lo (w : Nat) (s : Bool) (n : Int) : loK w s ≤ wr w s n := by
  have := Int.emod_nonneg (n - loK w s) (show (2 : Int) ^ w ≠ 0 from Int.ne_of_gt (p2 w))
  unfold wr; omega
theorem wr_hi (w : Nat) (s : Bool) (n : Int) : wr w s n ≤ hiK w s := by
  have := Int.emod_lt_of_pos (n - loK w s) (p2 w)
  unfold wr hiK; omega
theorem wr_id {w : Nat} {s : Bool} {n : Int} (h1 : loK w s ≤ n) (h2 : n ≤ hiK w s) : wr w s n = n := by
  unfold wr
  rw [Int.emod_eq_of_lt (by omega) (by unfold hiK at h2; omega)]
  omega
/-- what the law takes for the same -/
def pl (w : Nat) (s : Bool) (n : Int) : Int := if s = true ∧ 2 ^ (w - 1) ≤ n % 2 ^ w then n % 2 ^ w - 2 ^ w else n % 2 ^ w
theorem pl_wr {w : Nat} (hw : 1 ≤ w) (s : Bool) (n : Int) : pl w s n = wr w s n := by
  have hp := p2 (w - 1)
  have e := p2s hw
  have h0 := Int.emod_nonneg n (show (2 : Int) ^ w ≠ 0 from Int.ne_of_gt (p2 w))
  have h1 := Int.emod_lt_of_pos n (p2 w)
  cases s with
  | false =>
    have hl : loK w false = 0 := by unfold loK; rw [if_neg Bool.false_ne_true]
    unfold pl wr
    rw [if_neg (by intro z; exact Bool.false_ne_true z.1), hl, Int.sub_zero, Int.zero_add]
  | true =>
    have hl : loK w true = -(2 ^ (w - 1)) := by unfold loK; rw [if_pos rfl]
    unfold pl wr
    rw [hl]
    have ed : n % 2 ^ w = n - 2 ^ w * (n / 2 ^ w) := Int.emod_def n _
    by_cases c : 2 ^ (w - 1) ≤ n % 2 ^ w
    · rw [if_pos ⟨rfl, c⟩]
      have q : (n - -(2 ^ (w - 1))) % 2 ^ w = n % 2 ^ w - 2 ^ (w - 1) := by
        have z : n - -(2 ^ (w - 1)) = (n % 2 ^ w - 2 ^ (w - 1)) + 2 ^ w * (n / 2 ^ w + 1) := by
          rw [Int.mul_add, Int.mul_one]; omega
        rw [z, Int.add_mul_emod_self_left, Int.emod_eq_of_lt (by omega) (by omega)]
      rw [q]; omega
    · rw [if_neg (fun z => c z.2)]
      have q : (n - -(2 ^ (w - 1))) % 2 ^ w = n % 2 ^ w + 2 ^ (w - 1) := by
        have z : n - -(2 ^ (w - 1)) = (n % 2 ^ w + 2 ^ (w - 1)) + 2 ^ w * (n / 2 ^ w) := by omega
        rw [z, Int.add_mul_emod_self_left, Int.emod_eq_of_lt (by omega) (by omega)]
      rw [q]; omega
/-- all but p as it was -/
def Kp (p : Addr) (H H' : Hp) : Prop := ∀ q o, q ≠ p → H q = some o → H' q = some o
theorem Kp.refl (p : Addr) (H : Hp) : Kp p H H := fun _ _ _ h => h
theorem Kp.trans {p : Addr} {H H1 H2 : Hp} (a : Kp p H H1) (b : Kp p H1 H2) : Kp p H H2 := fun q o n h => b q o n (a q o n h)
theorem Kp.upd {p : Addr} {H H1 : Hp} {o : HO} (a : Kp p H H1) : Kp p H (upd H1 p o) := fun q u n h => by rw [upd_ne n]; exact a q u n h
theorem Kp.new {p r : Addr} {H H1 : Hp} {o : HO} (a : Kp p H H1) (h : H1 r = none) : Kp p H (L2.upd H1 r o) := fun q u n e => by
  have z := a q u n e
  rw [upd_ne (ne_of_none z h)]; exact z
theorem Kp.of_same {p : Addr} {H H' : Hp} (a : Same H H') : Kp p H H' := fun q o _ h => a q o h
theorem sm_new {H H1 : Hp} {r : Addr} {o : HO} (a : Same H H1) (h : H1 r = none) : Same H (L2.upd H1 r o) := fun q u e => by
  have z := a q u e
  rw [upd_ne (ne_of_none z h)]; exact z
theorem Kp.free {p r : Addr} {H H' : Hp} (a : Kp p H H') (hr : r ≠ p) (h : H' r = none) : H r = none := by
  cases q : H r with
  | none => rfl
  | some o => rw [a r o hr q] at h; cases h
theorem same_free {H H' : Hp} {r : Addr} (a : Same H H') (h : H' r = none) : H r = none := a.free h
/-- a source of draws -/
def SrcAt (H : Hp) (p : Addr) : Prop := ∃ a b c : Int, H p = some (.lst [.int a, .int b, .int c])
theorem SrcAt.same {H H' : Hp} {p : Addr} (h : SrcAt H p) (s : Same H H') : SrcAt H' p := by
  obtain ⟨a, b, c, e⟩ := h
  exact ⟨a, b, c, s _ _ e⟩
theorem kp_mut {p D : Addr} {H H' : Hp} {o : HO} (a : Kp p H H') (h : H D = none) : Kp p H (L2.upd H' D o) := fun q u n e => by
  rw [upd_ne (ne_of_none e h)]; exact a q u n e
theorem SrcAt.mut {H : Hp} {p D : Addr} {o : HO} (h : SrcAt H p) (n : D ≠ p) : SrcAt (L2.upd H D o) p := by
  obtain ⟨a, b, c, e⟩ := h
  exact ⟨a, b, c, by rw [upd_ne (Ne.symm n)]; exact e⟩
theorem SrcAt.ne {H : Hp} {p q : Addr} (h : SrcAt H p) (n : H q = none) : q ≠ p := by
  obtain ⟨a, b, c, e⟩ := h
  exact (ne_of_none e n).symm
theorem b9 {m : Int} (h : m.natAbs < 2 ^ 200) : m.natAbs < 2 ^ 8999 := Nat.lt_trans h (Nat.pow_lt_pow_right (by decide) (by decide))
theorem SrcAt.new {H : Hp} {p r : Addr} {o : HO} (h : SrcAt H p) (n : H r = none) : SrcAt (L2.upd H r o) p := h.same (sm_new (Same.refl H) n)
theorem Kd.same {C : Addr} {H H' : Hp} {p : Addr} {w : Nat} {s : Bool} (h : Kd C H p w s) (e : Same H H') : Kd C H' p w s := by
  obtain ⟨⟨dx, q⟩, a, b⟩ := h
  exact ⟨⟨dx, e _ _ q⟩, a, b⟩
theorem Kd.kp {C : Addr} {H H' : Hp} {p r : Addr} {w : Nat} {s : Bool} (h : Kd C H p w s) (hr : SrcAt H r) (e : Kp r H H') : Kd C H' p w s := by
  obtain ⟨⟨dx, q⟩, a, b⟩ := h
  obtain ⟨_, _, _, z⟩ := hr
  exact ⟨⟨dx, e _ _ (ne_of q z (by intro y; cases y)) q⟩, a, b⟩
/-- how a value that is asked for whether it is an integer looks -/
def IntQ (K : PySem.W.Frag) (H : Hp) (v : V) (b : Bool) : Prop := ∃ t : String, TyX K H v (.type t) ∧ kitB t "int" = some (b || t == "bool") ∧ (b = true ∨ t = "bool" → True) ∧ (∃ c, kitB t "bool" = some c ∧ ((b || t == "bool") && !c) = b)
theorem IntQ.int {K : PySem.W.Frag} {H : Hp} (i : Int) : IntQ K H (.int i) true := ⟨"int", .base (.int i), by decide +kernel, fun _ => trivial, false, by decide +kernel, rfl⟩
theorem IntQ.bl {K : PySem.W.Frag} {H : Hp} (i : Bool) : IntQ K H (.bl i) false := ⟨"bool", .base (.bl i), by decide +kernel, fun _ => trivial, true, by decide +kernel, rfl⟩
theorem IntQ.non {K : PySem.W.Frag} {H : Hp} : IntQ K H .non false := ⟨"NoneType", .base .non, by decide +kernel, fun _ => trivial, false, by decide +kernel, rfl⟩
theorem IntQ.str {K : PySem.W.Frag} {H : Hp} (z : Str) : IntQ K H (.str z) false := ⟨"str", .base (.str z), by decide +kernel, fun _ => trivial, false, by decide +kernel, rfl⟩
theorem IntQ.lst {K : PySem.W.Frag} {H : Hp} {a : Addr} {xs : List V} (h : H a = some (.lst xs)) : IntQ K H (.ref a) false := ⟨"list", .base (.lst h), by decide +kernel, fun _ => trivial, false, by decide +kernel, rfl⟩
theorem IntQ.tup {K : PySem.W.Frag} {H : Hp} {a : Addr} {xs : List V} (h : H a = some (.tup xs)) : IntQ K H (.ref a) false := ⟨"tuple", .base (.tup h), by decide +kernel, fun _ => trivial, false, by decide +kernel, rfl⟩
theorem IntQ.dK {K : PySem.W.Frag} {H : Hp} {a : Addr} {xs : List (Key × V)} (h : H a = some (.dK xs)) : IntQ K H (.ref a) false := ⟨"dict", .base (.dK h), by decide +kernel, fun _ => trivial, false, by decide +kernel, rfl⟩
/-- a row of kinds' parts: a list at D of tuples -/
structure RowAt (H : Hp) (p D : Addr) (rs : List (Addr × Nat × Bool)) : Prop where
  lst : H D = some (.lst (rs.map fun r => V.ref r.1))
  nD : D ≠ p
  tup : ∀ r ∈ rs, H r.1 = some (.tup [.int (r.2.1 : Int), .bl r.2.2]) ∧ r.1 ≠ p ∧ 1 ≤ r.2.1 ∧ r.2.1 ≤ 128
theorem RowAt.kp {H H' : Hp} {p D : Addr} {rs : List (Addr × Nat × Bool)} (h : RowAt H p D rs) (e : Kp p H H') : RowAt H' p D rs :=
  ⟨e _ _ h.nD h.lst, h.nD, fun r hr => ⟨e _ _ (h.tup r hr).2.1 (h.tup r hr).1, (h.tup r hr).2⟩⟩
/-- a list at E of kinds -/
structure KdsAt (C : Addr) (H : Hp) (p E : Addr) (ks : List (Addr × Nat × Bool)) : Prop where
  lst : H E = some (.lst (ks.map fun r => V.ref r.1))
  nE : E ≠ p
  kd : ∀ r ∈ ks, Kd C H r.1 r.2.1 r.2.2 ∧ r.1 ≠ p
theorem KdsAt.kp {C : Addr} {H H' : Hp} {p E : Addr} {ks : List (Addr × Nat × Bool)} (h : KdsAt C H p E ks) (e : Kp p H H') : KdsAt C H' p E ks :=
  ⟨e _ _ h.nE h.lst, h.nE, fun r hr => by
    obtain ⟨⟨⟨dx, q⟩, a, b⟩, n⟩ := h.kd r hr
    exact ⟨⟨⟨dx, e _ _ n q⟩, a, b⟩, n⟩⟩
def wrs (ks : List (Addr × Nat × Bool)) (n : Int) : Int := ks.foldl (fun n k => wr k.2.1 k.2.2 n) n
theorem wrs_eq : ∀ {ks rs : List (Addr × Nat × Bool)} (_ : ks.map (·.2) = rs.map (·.2)) (n : Int), wrs ks n = wrs rs n
  | [], [], _, _ => rfl
  | [], _ :: _, h, _ => by simp at h
  | _ :: _, [], h, _ => by simp at h
  | k :: ks, r :: rs, h, n => by
    rw [List.map_cons, List.map_cons, List.cons.injEq] at h
    show wrs ks (wr k.2.1 k.2.2 n) = wrs rs (wr r.2.1 r.2.2 n)
    rw [h.1]
    exact wrs_eq h.2 _
theorem wrs_more (ks : List (Addr × Nat × Bool)) (r : Addr × Nat × Bool) (n : Int) : wrs (ks ++ [r]) n = wr r.2.1 r.2.2 (wrs ks n) := by
  unfold wrs; rw [List.foldl_append]; rfl

/-! ### lines -/
def BB (n : Int) : Prop := n.natAbs < 2 ^ 300
def SD (n : Int) : Prop := -(10 ^ 60) < n ∧ n < 10 ^ 60
theorem SD.bb {n : Int} (h : SD n) : BB n := by
  obtain ⟨a, b⟩ := h
  unfold BB
  exact Nat.lt_trans (show n.natAbs < 10 ^ 60 by omega) (by decide +kernel)
theorem bbk {wd : Nat} {s : Bool} (h : wd ≤ 128) {n : Int} (h1 : loK wd s ≤ n) (h2 : n ≤ hiK wd s) : BB n := by
  have e : (2 : Int) ^ wd ≤ 2 ^ 128 := by
    have := Nat.pow_le_pow_right (n := 2) (by decide) h
    exact_mod_cast this
  have e1 : (2 : Int) ^ (wd - 1) ≤ 2 ^ 128 := by
    have := Nat.pow_le_pow_right (n := 2) (by decide) (show wd - 1 ≤ 128 by omega)
    exact_mod_cast this
  have p1 := p2 (wd - 1)
  have l0 : -(2 ^ 128) ≤ loK wd s ∧ loK wd s ≤ 0 := by unfold loK; split <;> omega
  have hh : hiK wd s ≤ 2 ^ 128 := by unfold hiK; omega
  unfold BB
  exact Nat.lt_of_le_of_lt (show n.natAbs ≤ 2 ^ 128 by omega) (by decide +kernel)
theorem bb_pow {wd : Nat} (h : wd ≤ 128) : BB (2 ^ wd) := by
  unfold BB
  rw [Int.natAbs_pow]
  exact Nat.pow_lt_pow_right (by decide) (by show wd < 300; omega)
/-- all but the source stays, the tables are told -/
def Kq (TS : List (Addr × Str)) (p : Addr) (H H' : Hp) : Prop := (∀ q o, q ≠ p → H q = some o → (∀ ps, o ≠ .tbl ps) → H' q = some o) ∧ (LamX.Tabs TS H → LamX.Tabs TS H')
section
variable {TS : List (Addr × Str)} {p : Addr} {H H1 H2 : Hp}
theorem Kq.refl (H : Hp) : Kq TS p H H := ⟨fun _ _ _ h _ => h, fun h => h⟩
theorem Kq.trans (a : Kq TS p H H1) (b : Kq TS p H1 H2) : Kq TS p H H2 := ⟨fun q o n h t => b.1 q o n (a.1 q o n h t) t, fun h => b.2 (a.2 h)⟩
theorem Kq.of (a : Sm TS H H1) : Kq TS p H H1 := ⟨fun q o _ h t => a.1 q o h t, a.2⟩
theorem Kp.toQ (a : Kp p H H1) (hl : ∃ xs, H p = some (.lst xs)) : Kq TS p H H1 := by
  obtain ⟨xs, hp⟩ := hl
  refine ⟨fun q o n h _ => a q o n h, fun t b hb => ?_⟩
  obtain ⟨ps, a1, a2, a3⟩ := t b hb
  refine ⟨ps, a _ _ (ne_of a1 hp (by intro z; cases z)) a1, a2, fun pos cv e => ?_⟩
  obtain ⟨c, e1, e2⟩ := a3 pos cv e
  exact ⟨c, e1, a _ _ (ne_of e2 hp (by unfold LamX.CodeO; intro z; cases z)) e2⟩
theorem Kq.at {a : Addr} {o : HO} (s : Kq TS p H H1) (n : a ≠ p) (h : H a = some o) (t : ∀ ps, o ≠ .tbl ps := by intro ps z; cases z) : H1 a = some o := s.1 a o n h t
theorem Kq.free {r : Addr} {xs : List V} (s : Kq TS p H H1) (hp : H1 p = some (.lst xs)) (t : ∀ ps, H r ≠ some (.tbl ps)) (h : H1 r = none) : H r = none := by
  cases q : H r with
  | none => rfl
  | some o =>
    by_cases e : r = p
    · rw [e, hp] at h; cases h
    · rw [s.1 r o e q (fun ps z => t ps (by rw [q, z]))] at h; cases h
end
/-- a source of draws, after at most n of them -/
def SrcN (n : Nat) (H : Hp) (p : Addr) : Prop := ∃ a b c : Int, H p = some (.lst [.int a, .int b, .int c]) ∧ 0 ≤ b ∧ b < 2147483648 ∧ 0 ≤ c ∧ c ≤ n
section
variable {TS : List (Addr × Str)} {p : Addr} {H H1 : Hp} {n m : Nat}
theorem SrcN.lst (h : SrcN n H p) : ∃ xs, H p = some (.lst xs) := by
  obtain ⟨a, b, c, e, _⟩ := h
  exact ⟨_, e⟩
theorem SrcN.le (h : SrcN n H p) (k : n ≤ m) : SrcN m H p := by
  obtain ⟨a, b, c, e, h1, h2, h3, h4⟩ := h
  exact ⟨a, b, c, e, h1, h2, h3, by omega⟩
theorem SrcN.sm (h : SrcN n H p) (s : Sm TS H H1) : SrcN n H1 p := by
  obtain ⟨a, b, c, e, r⟩ := h
  exact ⟨a, b, c, s.at e, r⟩
theorem SrcN.same (h : SrcN n H p) (s : Same H H1) : SrcN n H1 p := by
  obtain ⟨a, b, c, e, r⟩ := h
  exact ⟨a, b, c, s _ _ e, r⟩
theorem SrcN.new {r : Addr} {o : HO} (h : SrcN n H p) (k : H r = none) : SrcN n (upd H r o) p := h.same (sm_new (Same.refl H) k)
theorem SrcN.ne {q : Addr} (h : SrcN n H p) (k : H q = none) : q ≠ p := by
  obtain ⟨_, e⟩ := h.lst
  exact (ne_of_none e k).symm
theorem SrcN.mut {r : Addr} {o : HO} (h : SrcN n H p) (k : r ≠ p) : SrcN n (upd H r o) p := by
  obtain ⟨a, b, c, e, rest⟩ := h
  exact ⟨a, b, c, by rw [upd_ne k.symm]; exact e, rest⟩
theorem SrcN.ne_of {q : Addr} {o : HO} (h : SrcN n H p) (k : H q = some o) (t : ∀ xs, o ≠ .lst xs := by intro xs z; cases z) : q ≠ p := by
  obtain ⟨xs, e⟩ := h.lst
  exact L2.ne_of k e (t xs)
end
/-- the x whose result is from lo to hi -/
def rsP (wd : Nat) (a b lo hi : Int) : Int → Bool := fun x => inR (2 ^ wd) lo hi (a * x + b)
theorem rsP_wr {wd : Nat} {s : Bool} {a b lo hi x : Int} (h1 : loK wd s ≤ lo) (h2 : hi ≤ hiK wd s) : rsP wd a b lo hi x = decide (lo ≤ wr wd s (a * x + b) ∧ wr wd s (a * x + b) ≤ hi) := by
  have hp := p2 wd
  have a1 := wr_lo wd s (a * x + b)
  have a2 := wr_hi wd s (a * x + b)
  have em : ∃ q, a * x + b = wr wd s (a * x + b) + 2 ^ wd * q := by
    refine ⟨(a * x + b - loK wd s) / 2 ^ wd, ?_⟩
    have := Int.emod_add_mul_ediv (a * x + b - loK wd s) (2 ^ wd)
    unfold wr; omega
  obtain ⟨q, e⟩ := em
  generalize wr wd s (a * x + b) = y at a1 a2 e ⊢
  unfold rsP inR
  rw [e]
  unfold hiK at *
  by_cases c2 : lo ≤ hi
  · by_cases c : lo ≤ y
    · have z : (y + 2 ^ wd * q - lo) % 2 ^ wd = y - lo := by
        rw [show y + 2 ^ wd * q - lo = (y - lo) + 2 ^ wd * q by omega, Int.add_mul_emod_self_left, Int.emod_eq_of_lt (by omega) (by omega)]
      rw [z]
      by_cases c3 : y ≤ hi
      · rw [decide_eq_true ⟨c2, by omega⟩, decide_eq_true ⟨c, c3⟩]
      · rw [decide_eq_false fun z => by omega, decide_eq_false fun z => c3 z.2]
    · have z : (y + 2 ^ wd * q - lo) % 2 ^ wd = y - lo + 2 ^ wd := by
        rw [show y + 2 ^ wd * q - lo = (y - lo + 2 ^ wd) + 2 ^ wd * (q - 1) by rw [Int.mul_sub, Int.mul_one]; omega, Int.add_mul_emod_self_left, Int.emod_eq_of_lt (by omega) (by omega)]
      rw [z, decide_eq_false fun z => by omega, decide_eq_false fun z => c z.1]
  · rw [decide_eq_false fun z => c2 z.1, decide_eq_false fun z => by omega]
def FirstOf (p : Int → Bool) (f l : Int) (v : V) : Prop := (v = .non ∧ tot p f l = 0) ∨ ∃ x, v = .int x ∧ f ≤ x ∧ x ≤ l ∧ p x = true ∧ tot p f (x - 1) = 0
def LastOf (p : Int → Bool) (f l : Int) (v : V) : Prop := (v = .non ∧ tot p f l = 0) ∨ ∃ x, v = .int x ∧ f ≤ x ∧ x ≤ l ∧ p x = true ∧ tot p (x + 1) l = 0
def AtOf (p : Int → Bool) (f l j x : Int) : Prop := f ≤ x ∧ x ≤ l ∧ p x = true ∧ tot p f (x - 1) = j
def spP_ (TS : List (Addr × Str)) (H : Hp) (P : Int → Bool) (first last : Int) : Sp := fun vs H' Q _ => ∃ e : Int, vs = [.int e] ∧ first ≤ e ∧ e < last ∧ Sm TS H H' ∧ ∀ H'', Sm TS H' H'' → Q (.bl (P e)) H''
def spT_ (TS : List (Addr × Str)) (H : Hp) (p : Int → Bool) (first last : Int) : Sp := fun vs H' Q _ => ∃ e : Int, vs = [.int e] ∧ (e = last ∨ (first ≤ e ∧ e ≤ last)) ∧ Sm TS H H' ∧ ∀ H'', Sm TS H' H'' → Q (.int (tot p first e)) H''

theorem Kd.sm {C : Addr} {TS : List (Addr × Str)} {H H' : Hp} {p : Addr} {w : Nat} {s : Bool} (h : Kd C H p w s) (e : Sm TS H H') : Kd C H' p w s := by
  obtain ⟨⟨dx, q⟩, a, b⟩ := h
  exact ⟨⟨dx, e.at q⟩, a, b⟩
theorem Kd.kq {C : Addr} {TS : List (Addr × Str)} {H H' : Hp} {p r : Addr} {w : Nat} {s : Bool} (h : Kd C H p w s) (n : p ≠ r) (e : Kq TS r H H') : Kd C H' p w s := by
  obtain ⟨⟨dx, q⟩, a, b⟩ := h
  exact ⟨⟨dx, e.at n q⟩, a, b⟩

theorem loK_hi (w : Nat) (s : Bool) : hiK w s = loK w s + 2 ^ w - 1 := rfl
theorem loK_b {wd : Nat} {s : Bool} (h : wd ≤ 128) : -(2 ^ 128) ≤ loK wd s ∧ loK wd s ≤ 0 ∧ hiK wd s ≤ 2 ^ 128 ∧ 0 ≤ hiK wd s + 1 ∧ (2 : Int) ^ wd ≤ 2 ^ 128 := by
  have e : (2 : Int) ^ wd ≤ 2 ^ 128 := by
    have := Nat.pow_le_pow_right (n := 2) (by decide) h
    exact_mod_cast this
  have e1 : (2 : Int) ^ (wd - 1) ≤ 2 ^ 128 := by
    have := Nat.pow_le_pow_right (n := 2) (by decide) (show wd - 1 ≤ 128 by omega)
    exact_mod_cast this
  have p1 := p2 (wd - 1)
  have p0 := p2 wd
  have e3 : (2 : Int) ^ (wd - 1) ≤ 2 ^ wd := by
    have := Nat.pow_le_pow_right (n := 2) (by decide) (show wd - 1 ≤ wd by omega)
    exact_mod_cast this
  cases s with
  | false =>
    have l : loK wd false = 0 := by unfold loK; rw [if_neg Bool.false_ne_true]
    refine ⟨by omega, by omega, by unfold hiK; omega, by unfold hiK; omega, e⟩
  | true =>
    have l : loK wd true = -(2 ^ (wd - 1)) := by unfold loK; rw [if_pos rfl]
    refine ⟨by omega, by omega, by unfold hiK; omega, by unfold hiK; omega, e⟩
theorem bb_of {n : Int} (h1 : -(2 ^ 299) ≤ n) (h2 : n ≤ 2 ^ 299) : BB n := by
  unfold BB
  exact Nat.lt_of_le_of_lt (show n.natAbs ≤ 2 ^ 299 by omega) (by decide +kernel)
theorem p128 : (2 : Int) ^ 128 < 2 ^ 290 := by decide +kernel
theorem p290 : (2 : Int) ^ 290 * 8 ≤ 2 ^ 299 := by decide +kernel
theorem wr_q (w : Nat) (s : Bool) (n : Int) : wr w s n = n - 2 ^ w * ((n - loK w s) / 2 ^ w) := by
  have := Int.emod_add_mul_ediv (n - loK w s) (2 ^ w)
  unfold wr; omega
theorem wr_in {w : Nat} {s : Bool} {n k : Int} (h1 : loK w s + 2 ^ w * k ≤ n) (h2 : n ≤ hiK w s + 2 ^ w * k) : wr w s n = n - 2 ^ w * k := by
  unfold hiK at h2
  have e : n - loK w s = (n - loK w s - 2 ^ w * k) + 2 ^ w * k := by omega
  unfold wr
  rw [e, Int.add_mul_emod_self_left, Int.emod_eq_of_lt (by omega) (by omega)]
  omega
theorem wr_add (w : Nat) (s : Bool) (n a : Int) : wr w s (n + a) = if wr w s n + a % 2 ^ w ≤ hiK w s then wr w s n + a % 2 ^ w else wr w s n + a % 2 ^ w - 2 ^ w := by
  have hp := p2 w
  have e1 := wr_q w s n
  have e2 := Int.emod_add_mul_ediv a (2 ^ w)
  have a0 := Int.emod_nonneg a (Int.ne_of_gt hp)
  have a1 := Int.emod_lt_of_pos a hp
  have w0 := wr_lo w s n
  have w1 := wr_hi w s n
  generalize (n - loK w s) / 2 ^ w = q at e1
  generalize a / 2 ^ w = r at e2
  generalize a % 2 ^ w = c at *
  by_cases z : wr w s n + c ≤ hiK w s
  · rw [if_pos z]
    have := wr_in (w := w) (s := s) (n := n + a) (k := q + r) (by rw [Int.mul_add]; omega) (by rw [Int.mul_add]; omega)
    rw [this, Int.mul_add]; omega
  · rw [if_neg z]
    have := wr_in (w := w) (s := s) (n := n + a) (k := q + r + 1) (by rw [Int.mul_add, Int.mul_add]; unfold hiK at z; omega) (by rw [Int.mul_add, Int.mul_add]; unfold hiK at *; omega)
    rw [this, Int.mul_add, Int.mul_add]; omega
/-- the descents -/
def dsP (wd : Nat) (s : Bool) (a b : Int) : Int → Bool := fun x => decide (wr wd s (a * (x + 1) + b) < wr wd s (a * x + b))
theorem dsP_rs (wd : Nat) (s : Bool) (a b x : Int) : rsP wd a b (hiK wd s + 1 - a % 2 ^ wd) (hiK wd s) x = dsP wd s a b x := by
  have hp := p2 wd
  have a0 := Int.emod_nonneg a (Int.ne_of_gt hp)
  have a1 := Int.emod_lt_of_pos a hp
  have w0 := wr_lo wd s (a * x + b)
  have w1 := wr_hi wd s (a * x + b)
  rw [rsP_wr (s := s) (by unfold hiK; omega) (Int.le_refl _)]
  unfold dsP
  rw [show a * (x + 1) + b = (a * x + b) + a by rw [Int.mul_add]; omega, wr_add wd s (a * x + b) a]
  by_cases z : wr wd s (a * x + b) + a % 2 ^ wd ≤ hiK wd s
  · rw [if_pos z, decide_eq_false fun y => by omega, decide_eq_false fun y => by omega]
  · rw [if_neg z, decide_eq_true (show _ ∧ _ from ⟨by omega, w1⟩), decide_eq_true (by omega)]
theorem mk_same {H H1 : Hp} {kx dx : Addr} {o1 o2 : HO} (nx : H kx = none) (ndx : H dx = none) (kp : Kp kx (upd (upd H dx o1) kx o2) H1) : Same H H1 := fun b o e => kp b o (ne_of_none e nx) (by rw [upd_ne (ne_of_none e nx), upd_ne (ne_of_none e ndx)]; exact e)
section
variable {TS : List (Addr × Str)} {p : Addr} {H H1 H2 : Hp}
theorem Kq.new {r : Addr} {o : HO} (s : Kq TS p H H1) (h : H1 r = none) : Kq TS p H (upd H1 r o) := s.trans (.of ((Sm.refl H1).new h))
theorem Kq.same (s : Kq TS p H H1) (h : Same H1 H2) : Kq TS p H H2 := s.trans (.of (Sm.of h))
theorem Kq.sm (s : Kq TS p H H1) (h : Sm TS H1 H2) : Kq TS p H H2 := s.trans (.of h)
/-- p is new: the change of p is no change to what was there -/
theorem Kq.mut {r : Addr} {o u : HO} (s : Kq TS p H H1) (hn : H r = none) (h : H1 r = some u) (hu : ∀ ps, u ≠ .tbl ps := by intro ps z; cases z) (hc : ∀ c q, u ≠ LamX.CodeO c q := by intro c q z; cases z) : Kq TS p H (upd H1 r o) := by
  refine ⟨fun q w n e t => ?_, fun t b hb => ?_⟩
  · rw [upd_ne (ne_of_none e hn)]
    exact s.1 q w n e t
  · obtain ⟨ps, a1, a2, a3⟩ := s.2 t b hb
    refine ⟨ps, by rw [upd_ne (fun z => by rw [z, h] at a1; cases a1; exact hu ps rfl)]; exact a1, a2, fun pos cv e => ?_⟩
    obtain ⟨c, e1, e2⟩ := a3 pos cv e
    exact ⟨c, e1, by rw [upd_ne (fun z => by rw [z, h] at e2; exact hc _ _ (Option.some.inj e2))]; exact e2⟩
theorem Kq.out {H3 : Hp} (a : Sm TS H H1) (n : H1 p = none) (b : Sm TS H1 H2) (s : Kq TS p H2 H3) : Sm TS H H3 := ⟨fun q o e t => s.1 q o (ne_of_none (a.1 q o e t) n) (b.1 q o (a.1 q o e t) t) t, fun h => s.2 (b.2 (a.2 h))⟩
end

theorem b28 {n : Int} (h : BB n) : n.natAbs < 2 ^ 2800 := Nat.lt_of_lt_of_le h (Nat.pow_le_pow_right (by decide) (by decide))
theorem b89 {n : Int} (h : BB n) : n.natAbs < 2 ^ 8999 := Nat.lt_of_lt_of_le h (Nat.pow_le_pow_right (by decide) (by decide))
theorem bb_sm {n : Int} (h1 : -(2 ^ 64) ≤ n) (h2 : n ≤ 2 ^ 64) : BB n := by
  have : (2 : Int) ^ 64 ≤ 2 ^ 299 := by decide +kernel
  exact bb_of (by omega) (by omega)
theorem bb_ten {n : Int} (h1 : -(10 ^ 62) ≤ n) (h2 : n ≤ 10 ^ 62) : BB n := by
  have : (10 : Int) ^ 62 ≤ 2 ^ 299 := by decide +kernel
  exact bb_of (by omega) (by omega)
theorem SD.of {n : Int} (h1 : -(10 ^ 60) < n) (h2 : n < 10 ^ 60) : SD n := ⟨h1, h2⟩
theorem eqv_rfl {d : PyData} (h : d.canLay0 = true) : PyData.eqv d d = true := PySem.SeqAt.eqv_refl d h

theorem lo_val {wd : Nat} (h : 1 ≤ wd) (s : Bool) : 0 - 2 ^ wd / 2 * (if s = true then (1 : Int) else 0) = loK wd s := by
  have e := p2s h
  have hp := p2 (wd - 1)
  cases s with
  | false =>
    unfold loK
    rw [if_neg Bool.false_ne_true, if_neg Bool.false_ne_true]; omega
  | true =>
    unfold loK
    rw [if_pos rfl, if_pos rfl]; omega

theorem lay_ints : ∀ is : List Int, PyData.canLayAll0 (is.map PyData.int) = true
  | [] => rfl
  | x :: r => by
    rw [List.map_cons, PyData.canLayAll0, lay_ints r]; rfl
theorem depth_ints : ∀ is : List Int, PyData.depthAll (is.map PyData.int) = 0
  | [] => by simp only [List.map_nil, PyData.depthAll]
  | x :: r => by
    rw [List.map_cons, PyData.depthAll, depth_ints r]; simp [PyData.depth]
theorem eqv_ints : ∀ is js : List Int, PyData.eqvAll (is.map PyData.int) (js.map PyData.int) = decide (is = js)
  | [], [] => by simp [PyData.eqvAll]
  | [], _ :: _ => by simp [PyData.eqvAll]
  | _ :: _, [] => by simp [PyData.eqvAll]
  | x :: xs, y :: ys => by
    rw [List.map_cons, List.map_cons, PyData.eqvAll, eqv_ints xs ys, show PyData.eqv (.int x) (.int y) = decide (x = y) from by simp only [PyData.eqv]; rfl, ← Bool.decide_and]
    exact decide_eq_decide.mpr (by rw [List.cons.injEq])
theorem shaped_ints (is : List Int) : SeqAt.shaped (.list (is.map PyData.int)) = true := by
  unfold SeqAt.shaped
  rw [show PyData.canLay0 (.list (is.map PyData.int)) = PyData.canLayAll0 (is.map PyData.int) from by simp only [PyData.canLay0], lay_ints, show PyData.depth (.list (is.map PyData.int)) = PyData.depthAll (is.map PyData.int) + 1 from by simp only [PyData.depth], depth_ints]
  rfl
theorem dp_ints {K : PySem.W.Frag} {H : Hp} : ∀ is : List Int, DpAll K H (is.map V.int) (is.map PyData.int)
  | [] => .nil
  | x :: r => .cons (.int x) (dp_ints r)
/-! operations -/
inductive Op where
  | add | sub | mul | div | rem | band | bor | bxor | left | right
deriving DecidableEq
def Op.nm : Op → Str
  | .add => "add" | .sub => "subtract" | .mul => "multiply" | .div => "divide" | .rem => "remainder" | .band => "and" | .bor => "or" | .bxor => "xor" | .left => "left" | .right => "right"
def tz (x y : Int) : Int := if decide (x < 0) = decide (y < 0) then ab x / ab y else -(ab x / ab y)
def exO : Op → Int → Int → Int
  | .add, x, y => x + y
  | .sub, x, y => x - y
  | .mul, x, y => x * y
  | .div, x, y => tz x y
  | .rem, x, y => x - y * tz x y
  | .band, x, y => PySem.Builtin.bitAnd x y
  | .bor, x, y => PySem.Builtin.bitOr x y
  | .bxor, x, y => PySem.Builtin.bitXor x y
  | .left, x, y => x * 2 ^ y.toNat
  | .right, x, y => x / 2 ^ y.toNat
theorem ab_abs (x : Int) : ab x = (x.natAbs : Int) := by unfold ab; split <;> omega
theorem ab_nat (x : Int) : (ab x).natAbs = x.natAbs := by unfold ab; split <;> omega
/-- values are small -/
theorem val_bits {w : Nat} {s : Bool} {x : Int} (h1 : loK w s ≤ x) (h2 : x ≤ hiK w s) : x.natAbs < 2 ^ (w + 1) := by
  have hp := p2 w
  have hw : (2 : Int) ^ (w + 1) = 2 * 2 ^ w := by rw [Int.pow_succ, Int.mul_comm]
  have c : ((2 ^ (w + 1) : Nat) : Int) = (2 : Int) ^ (w + 1) := by exact Int.natCast_pow 2 (w + 1)
  have hl : -(2 ^ w) ≤ loK w s ∧ loK w s ≤ 0 := by
    unfold loK
    split
    · have a := p2 (w - 1)
      have b : (2 : Int) ^ (w - 1) ≤ 2 ^ w := by
        rcases w with _ | w
        · exact Int.le_refl _
        · rw [Nat.add_sub_cancel, Int.pow_succ]; have := p2 w; omega
      omega
    · omega
  unfold hiK at h2
  have : (x.natAbs : Int) < ((2 ^ (w + 1) : Nat) : Int) := by rw [c, hw]; omega
  exact Int.ofNat_lt.mp this
theorem lt_130 {x : Int} {w : Nat} (hw : w ≤ 128) (h : x.natAbs < 2 ^ (w + 1)) : x.natAbs < 2 ^ 129 := Nat.lt_of_lt_of_le h (Nat.pow_le_pow_right (by decide) (by omega))
/-! wrapping modulo -/
theorem wr_mod (w : Nat) (s : Bool) (n : Int) : wr w s n % 2 ^ w = n % 2 ^ w := by
  unfold wr
  rw [Int.add_emod, Int.emod_emod_of_dvd _ (Int.dvd_refl _), ← Int.add_emod]
  congr 1; omega
theorem wr_cong {w : Nat} {s : Bool} {a b : Int} (h : a % 2 ^ w = b % 2 ^ w) : wr w s a = wr w s b := by
  unfold wr
  have e : (a - loK w s) % 2 ^ w = (b - loK w s) % 2 ^ w := by rw [Int.sub_emod, h, ← Int.sub_emod]
  rw [e]
theorem wr_val {w : Nat} {s : Bool} {a x : Int} (h1 : loK w s ≤ x) (h2 : x ≤ hiK w s) (h : a % 2 ^ w = x % 2 ^ w) : wr w s a = x := (wr_cong h).trans (wr_id h1 h2)
theorem mod_add {m a b c d : Int} (h : a % m = b % m) (g : c % m = d % m) : (a + c) % m = (b + d) % m := by rw [Int.add_emod, h, g, ← Int.add_emod]
theorem mod_sub {m a b c d : Int} (h : a % m = b % m) (g : c % m = d % m) : (a - c) % m = (b - d) % m := by rw [Int.sub_emod, h, g, ← Int.sub_emod]
theorem mod_mul {m a b c d : Int} (h : a % m = b % m) (g : c % m = d % m) : (a * c) % m = (b * d) % m := by rw [Int.mul_emod, h, g, ← Int.mul_emod]
theorem cong_ex {m a b : Int} (h : a % m = b % m) : ∃ t, a = b + m * t := ⟨a / m - b / m, by
  have e1 := Int.emod_def a m
  have e2 := Int.emod_def b m
  rw [Int.mul_sub]; omega⟩
theorem cong_of {m a b t : Int} (h : a = b + m * t) : a % m = b % m := by rw [h, Int.add_mul_emod_self_left]
theorem p2S (w : Nat) : (2 : Int) ^ (w + 1) = 2 * 2 ^ w := by rw [Int.pow_succ, Int.mul_comm]
theorem cong_half {w : Nat} {a b : Int} (h : a % 2 ^ (w + 1) = b % 2 ^ (w + 1)) : a % 2 = b % 2 ∧ a / 2 % 2 ^ w = b / 2 % 2 ^ w := by
  obtain ⟨t, ht⟩ := cong_ex h
  rw [p2S, Int.mul_assoc] at ht
  have e : a / 2 = b / 2 + 2 ^ w * t := by rw [ht, Int.add_mul_ediv_left _ _ (by decide)]
  exact ⟨by rw [ht, Int.add_mul_emod_self_left], cong_of e⟩
theorem cong_dbl {w : Nat} {a b c : Int} (h : a % 2 ^ w = b % 2 ^ w) : (2 * a + c) % 2 ^ (w + 1) = (2 * b + c) % 2 ^ (w + 1) := by
  obtain ⟨t, ht⟩ := cong_ex h
  refine cong_of (t := t) ?_
  rw [p2S, ht, Int.mul_add, Int.mul_assoc]; omega
/-! bits -/
open PySem.Builtin in
theorem and_cong : ∀ (w : Nat) {a a' : Int} (b : Int), a % 2 ^ w = a' % 2 ^ w → bitAnd a b % 2 ^ w = bitAnd a' b % 2 ^ w
  | 0, a, a', b, _ => by rw [Int.pow_zero, Int.emod_one, Int.emod_one]
  | w + 1, a, a', b, h => by
    obtain ⟨h2, hd⟩ := cong_half h
    rw [PySem.W.kbt_halves a b, PySem.W.kbt_halves a' b, h2]
    exact cong_dbl (and_cong w (b / 2) hd)
open PySem.Builtin in
theorem xor_cong (w : Nat) {a a' : Int} (b : Int) (h : a % 2 ^ w = a' % 2 ^ w) : bitXor a b % 2 ^ w = bitXor a' b % 2 ^ w := by
  rw [PyProof.Rows.bitXor_and, PyProof.Rows.bitXor_and]
  exact mod_sub (mod_add h rfl) (mod_mul rfl (and_cong w b h))
open PySem.Builtin in
theorem xor_halves (x y : Int) : bitXor x y = 2 * bitXor (x / 2) (y / 2) + (x + y) % 2 := by
  rw [PyProof.Rows.bitXor_and, PyProof.Rows.bitXor_and, PySem.W.kbt_halves x y]
  have e1 := Int.emod_def x 2
  have e2 := Int.emod_def y 2
  have := Int.emod_two_eq x
  have := Int.emod_two_eq y
  split <;> omega
open PySem.Builtin in
theorem xor_back : ∀ (w : Nat) (x y : Int), bitXor (bitXor x y) y % 2 ^ w = x % 2 ^ w
  | 0, x, y => by rw [Int.pow_zero, Int.emod_one, Int.emod_one]
  | w + 1, x, y => by
    have e := xor_halves x y
    have h2 : bitXor x y / 2 = bitXor (x / 2) (y / 2) := by omega
    have e3 := xor_halves (bitXor x y) y
    rw [h2] at e3
    have e4 : x = 2 * (x / 2) + x % 2 := by omega
    have e5 : (bitXor x y + y) % 2 = x % 2 := by omega
    rw [e3, e5]
    exact (cong_dbl (xor_back w (x / 2) (y / 2))).trans (congrArg (· % 2 ^ (w + 1)) e4.symm)
/-! division -/
theorem tz_eq {x y : Int} (hy : y ≠ 0) : x - y * tz x y = if x < 0 then -(ab x % ab y) else ab x % ab y := by
  have e := Int.emod_def (ab x) (ab y)
  by_cases hx : x < 0 <;> by_cases hy : y < 0
  · have t : tz x y = ab x / ab y := by unfold tz; rw [decide_eq_true hx, decide_eq_true hy, if_pos rfl]
    have ex : x = -(ab x) := by unfold ab; rw [if_pos hx]; omega
    have ey : y = -(ab y) := by unfold ab; rw [if_pos hy]; omega
    rw [if_pos hx, t, e]
    generalize ab x / ab y = q
    generalize ab x = A at ex
    generalize ab y = B at ey
    rw [ex, ey, Int.neg_mul]; omega
  · have t : tz x y = -(ab x / ab y) := by unfold tz; rw [decide_eq_true hx, decide_eq_false hy, if_neg (by decide)]
    have ex : x = -(ab x) := by unfold ab; rw [if_pos hx]; omega
    have ey : y = ab y := by unfold ab; rw [if_neg hy]
    rw [if_pos hx, t, e]
    generalize ab x / ab y = q
    generalize ab x = A at ex
    generalize ab y = B at ey
    rw [ex, ey, Int.mul_neg]; omega
  · have t : tz x y = -(ab x / ab y) := by unfold tz; rw [decide_eq_false hx, decide_eq_true hy, if_neg (by decide)]
    have ex : x = ab x := by unfold ab; rw [if_neg hx]
    have ey : y = -(ab y) := by unfold ab; rw [if_pos hy]; omega
    rw [if_neg hx, t, e]
    generalize ab x / ab y = q
    generalize ab x = A at ex
    generalize ab y = B at ey
    rw [ex, ey, Int.neg_mul_neg]
  · have t : tz x y = ab x / ab y := by unfold tz; rw [decide_eq_false hx, decide_eq_false hy, if_pos rfl]
    have ex : x = ab x := by unfold ab; rw [if_neg hx]
    have ey : y = ab y := by unfold ab; rw [if_neg hy]
    rw [if_neg hx, t, e]
    generalize ab x / ab y = q
    generalize ab x = A at ex
    generalize ab y = B at ey
    rw [ex, ey]
theorem tz_spec {x y : Int} (hy : y ≠ 0) : (x - y * tz x y).natAbs < y.natAbs ∧ (x - y * tz x y = 0 ∨ (x - y * tz x y < 0 ↔ x < 0)) ∧ (x - y * tz x y).natAbs ≤ x.natAbs := by
  have ea := ab_abs x
  have eb := ab_abs y
  have hb : 0 < ab y := by omega
  have h0 := Int.emod_nonneg (ab x) (Int.ne_of_gt hb)
  have h1 := Int.emod_lt_of_pos (ab x) hb
  have hq : ab x % ab y ≤ ab x := by
    have e := Int.emod_def (ab x) (ab y)
    have a0 : 0 ≤ ab x := by omega
    have := Int.mul_nonneg (Int.le_of_lt hb) (Int.ediv_nonneg a0 (Int.le_of_lt hb))
    omega
  rw [tz_eq hy]
  generalize ab x % ab y = r at *
  split <;> omega
theorem tz_abs {x y : Int} : (tz x y).natAbs ≤ x.natAbs := by
  have ea := ab_abs x
  have eb := ab_abs y
  have a0 : 0 ≤ ab x := by omega
  have q0 := Int.ediv_nonneg a0 (show 0 ≤ ab y by omega)
  have q1 : ab x / ab y ≤ ab x := by
    by_cases h : ab y = 0
    · rw [h, Int.ediv_zero]; exact a0
    · exact Int.ediv_le_self _ a0
  unfold tz
  split <;> omega
/-- the remainder is a value -/
theorem rem_val {w : Nat} {s : Bool} {x y : Int} (hw : 1 ≤ w) (h1 : loK w s ≤ x) (h2 : x ≤ hiK w s) (hy : y ≠ 0) : loK w s ≤ x - y * tz x y ∧ x - y * tz x y ≤ hiK w s := by
  obtain ⟨a, b, c⟩ := tz_spec (x := x) hy
  have hp := p2 (w - 1)
  have e := p2s hw
  have l : loK w s ≤ 0 ∧ 0 ≤ hiK w s := by unfold hiK loK; split <;> omega
  rcases b with b | b
  · rw [b]; exact l
  · omega
/-! inverses -/
theorem inv_uniq {m a b c : Int} (h1 : a * b % m = 1 % m) (h2 : b * c % m = 1 % m) : c % m = a % m := by
  have e1 : a * b * c % m = 1 * c % m := mod_mul h1 rfl
  have e2 : a * (b * c) % m = a * 1 % m := mod_mul rfl h2
  rw [Int.one_mul, Int.mul_assoc] at e1
  rw [Int.mul_one] at e2
  exact e1.symm.trans e2
theorem pdp {a b : Nat} (h : a ≤ b) : (2 : Int) ^ a ∣ 2 ^ b := ⟨2 ^ (b - a), by rw [← Int.pow_add]; congr 1; omega⟩
/-- one step of Newton's -/
theorem newton {w d : Nat} {x y z : Int} (h : (2 : Int) ^ min w d ∣ x * y - 1) (hz : z % 2 ^ w = y * (2 - x * y) % 2 ^ w) : (2 : Int) ^ min w (2 * d) ∣ x * z - 1 := by
  obtain ⟨t, ht⟩ := cong_ex hz
  obtain ⟨u, hu⟩ := h
  have e : x * z - 1 = -((x * y - 1) * (x * y - 1)) + 2 ^ w * (x * t) := by
    rw [ht]
    have q1 : x * (y * (2 - x * y) + 2 ^ w * t) = x * y * (2 - x * y) + 2 ^ w * (x * t) := by
      rw [Int.mul_add, ← Int.mul_assoc x y, Int.mul_left_comm x]
    rw [q1]
    generalize x * y = k
    have q2 : k * (2 - k) = 2 * k - k * k := by rw [Int.mul_sub, Int.mul_comm k 2]
    have q3 : (k - 1) * (k - 1) = k * k - 2 * k + 1 := by rw [Int.sub_mul, Int.mul_sub, Int.mul_one, Int.one_mul]; omega
    rw [q2, q3]; omega
  rw [e]
  refine Int.dvd_add (Int.dvd_neg.mpr ?_) ?_
  · rw [hu]
    have q : (2 : Int) ^ min w d * u * (2 ^ min w d * u) = 2 ^ (min w d + min w d) * (u * u) := by
      rw [Int.pow_add]
      rw [Int.mul_assoc, Int.mul_assoc, Int.mul_left_comm u]
    rw [q]
    exact Int.dvd_trans (pdp (by omega)) (Int.dvd_mul_right _ _)
  · exact Int.dvd_trans (pdp (Nat.min_le_left _ _)) (Int.dvd_mul_right _ _)
/-! how often 2 divides -/
theorem two_ex : ∀ (n : Nat) (x : Int), x.natAbs ≤ n → x ≠ 0 → ∃ (k : Nat) (a : Int), x = 2 ^ k * (2 * a + 1)
  | 0, x, h, hx => absurd (by omega) hx
  | n + 1, x, h, hx => by
    by_cases e : x % 2 = 0
    · obtain ⟨k, a, q⟩ := two_ex n (x / 2) (by omega) (by omega)
      refine ⟨k + 1, a, ?_⟩
      rw [p2S, Int.mul_assoc, ← q]; omega
    · exact ⟨0, x / 2, by rw [Int.pow_zero]; omega⟩
/-- a value with k twos has fewer than w -/
theorem twos_lt {w k : Nat} {s : Bool} {x a : Int} (h1 : loK w s ≤ x) (h2 : x ≤ hiK w s) (hw : 1 ≤ w) (h : x = 2 ^ k * (2 * a + 1)) : k < w := by
  refine Nat.lt_of_not_le fun hk => ?_
  obtain ⟨j, rfl⟩ : ∃ j, k = w + j := ⟨k - w, by omega⟩
  have e := p2s hw
  have hp := p2 (w - 1)
  have hj := p2 j
  rw [Int.pow_add, Int.mul_assoc] at h
  have hl : -(2 ^ (w - 1)) ≤ loK w s ∧ hiK w s < 2 ^ w := by unfold hiK loK; split <;> omega
  generalize hc : 2 ^ j * (2 * a + 1) = c at h
  have c0 : c ≠ 0 := by
    rw [← hc]
    exact Int.mul_ne_zero (Int.ne_of_gt hj) (by omega)
  have : c ≤ -1 ∨ 1 ≤ c := by omega
  rcases this with q | q
  · have := Int.mul_le_mul_of_nonneg_left q (Int.le_of_lt (p2 w)); omega
  · have := Int.mul_le_mul_of_nonneg_left q (Int.le_of_lt (p2 w)); omega
theorem div_abs {x y : Int} (h : 0 < y) : (x / y).natAbs ≤ x.natAbs := Int.natAbs_ediv_le_natAbs x y
theorem tot_tel {p : Int → Bool} {g : Int → Int} {f l : Int} (h : f ≤ l + 1) (hg : ∀ x, (if p x = true then (1 : Int) else 0) = g (x + 1) - g x) : tot p f l = g (l + 1) - g f := by
  obtain ⟨n, hn⟩ := Int.eq_ofNat_of_zero_le (show 0 ≤ l + 1 - f by omega)
  have key : ∀ n : Nat, cN p f n = g (f + n) - g f := fun n => by
    induction n with
    | zero => show (0 : Int) = g (f + ((0 : Nat) : Int)) - g f; rw [show f + ((0 : Nat) : Int) = f by omega]; omega
    | succ n ih =>
      show cN p f n + (if p (f + n) = true then 1 else 0) = _
      rw [ih, hg, show f + ((n + 1 : Nat) : Int) = f + n + 1 by omega]; omega
  unfold tot
  rw [show (l - f + 1).toNat = n by omega, key n, show f + (n : Int) = l + 1 by omega]
theorem tot_notM (p : Int → Bool) (f l : Int) : tot (fun x => !p x) f l = max 0 (l - f + 1) - tot p f l := by
  by_cases h : f ≤ l + 1
  · rw [tot_not h]
    have := tot_le p h
    omega
  · rw [tot_none (show l < f by omega), tot_none (show l < f by omega)]; omega

/-! ### overflow of values and pairs -/
def fits (wd : Nat) (s : Bool) (e : Int) : Bool := decide (loK wd s ≤ e ∧ e ≤ hiK wd s)
def isV (o : Op) : Prop := o = .add ∨ o = .sub ∨ o = .mul
def isP (o : Op) : Prop := o = .add ∨ o = .sub
theorem isP.v {o : Op} (h : isP o) : isV o := by
  rcases h with h | h
  · exact .inl h
  · exact .inr (.inl h)
theorem isV.ov {o : Op} (h : isV o) : o = .add ∨ o = .sub ∨ o = .mul ∨ o = .div ∨ o = .left := by
  rcases h with h | h | h
  · exact .inl h
  · exact .inr (.inl h)
  · exact .inr (.inr (.inl h))
theorem isV.nd {o : Op} (h : isV o) : ¬ (o = .div ∨ o = .rem) ∧ ¬ (o = .left ∨ o = .right) := by
  rcases h with rfl | rfl | rfl <;> simp
theorem in_v {o : Op} (h : isV o) : inV (.str o.nm) [.str "add", .str "subtract", .str "multiply"] = true := by
  rcases h with rfl | rfl | rfl <;> decide +kernel
theorem in_p {o : Op} (h : isP o) : inV (.str o.nm) [.str "add", .str "subtract"] = true := by
  rcases h with rfl | rfl <;> decide +kernel
structure Safe (wd : Nat) (s : Bool) (o : Op) (c S E : Int) : Prop where
  lo : loK wd s ≤ S
  se : S ≤ E
  hi : E ≤ hiK wd s
  is : ∀ x, loK wd s ≤ x → x ≤ hiK wd s → (loK wd s ≤ exO o x c ∧ exO o x c ≤ hiK wd s ↔ S ≤ x ∧ x ≤ E)
theorem lohi {wd : Nat} (w1 : 1 ≤ wd) (s : Bool) : loK wd s ≤ 0 ∧ 0 ≤ hiK wd s ∧ hiK wd s = loK wd s + 2 ^ wd - 1 ∧ -(2 ^ wd) ≤ 2 * loK wd s := by
  have e := p2s w1
  have hp := p2 (wd - 1)
  unfold hiK loK
  cases s with
  | false => rw [if_neg Bool.false_ne_true]; omega
  | true => rw [if_pos rfl]; omega
theorem safe_add {wd : Nat} (w1 : 1 ≤ wd) {s : Bool} {c : Int} (h1 : loK wd s ≤ c) (h2 : c ≤ hiK wd s) : Safe wd s .add c (max (loK wd s) (loK wd s - c)) (min (hiK wd s) (hiK wd s - c)) := by
  obtain ⟨l0, l1, l2, _⟩ := lohi w1 s
  exact ⟨by omega, by omega, by omega, fun x x1 x2 => by
    show loK wd s ≤ x + c ∧ x + c ≤ hiK wd s ↔ _
    omega⟩
theorem safe_sub {wd : Nat} (w1 : 1 ≤ wd) {s : Bool} {c : Int} (h1 : loK wd s ≤ c) (h2 : c ≤ hiK wd s) : Safe wd s .sub c (max (loK wd s) (loK wd s + c)) (min (hiK wd s) (hiK wd s + c)) := by
  obtain ⟨l0, l1, l2, _⟩ := lohi w1 s
  exact ⟨by omega, by omega, by omega, fun x x1 x2 => by
    show loK wd s ≤ x - c ∧ x - c ≤ hiK wd s ↔ _
    omega⟩
theorem fac_pos {c lo hi x : Int} (h : 0 < c) : (lo ≤ x * c ∧ x * c ≤ hi) ↔ (-(-lo / c) ≤ x ∧ x ≤ hi / c) := by
  have a := Int.le_ediv_iff_mul_le h (a := -x) (b := -lo)
  have b := Int.le_ediv_iff_mul_le h (a := x) (b := hi)
  rw [Int.neg_mul] at a
  constructor
  · rintro ⟨u, v⟩; exact ⟨by have := a.mpr (by omega); omega, b.mpr v⟩
  · rintro ⟨u, v⟩; exact ⟨by have := a.mp (by omega); omega, b.mp v⟩
def facS (c lo hi : Int) : Int := if c < 0 then -(hi / -c) else -(-lo / c)
def facE (c lo hi : Int) : Int := if c < 0 then -lo / -c else hi / c
theorem fac_is {c lo hi x : Int} (h : c ≠ 0) : (lo ≤ x * c ∧ x * c ≤ hi) ↔ (facS c lo hi ≤ x ∧ x ≤ facE c lo hi) := by
  unfold facS facE
  by_cases n : c < 0
  · rw [if_pos n, if_pos n]
    have f := fac_pos (c := -c) (lo := -hi) (hi := -lo) (x := x) (by omega)
    rw [Int.neg_neg, Int.mul_neg] at f
    rw [← f]; omega
  · rw [if_neg n, if_neg n]
    exact fac_pos (by omega)
theorem safe_mul {wd : Nat} (w1 : 1 ≤ wd) {s : Bool} {c : Int} (h : c ≠ 0) : Safe wd s .mul c (max (loK wd s) (facS c (loK wd s) (hiK wd s))) (min (hiK wd s) (facE c (loK wd s) (hiK wd s))) := by
  obtain ⟨l0, l1, l2, _⟩ := lohi w1 s
  have z := (fac_is (lo := loK wd s) (hi := hiK wd s) (x := 0) h).mp (by rw [Int.zero_mul]; exact ⟨l0, l1⟩)
  exact ⟨by omega, by omega, by omega, fun x x1 x2 => by
    show loK wd s ≤ x * c ∧ x * c ≤ hiK wd s ↔ _
    rw [fac_is h]; omega⟩
theorem safe_mul0 {wd : Nat} (w1 : 1 ≤ wd) {s : Bool} : Safe wd s .mul 0 (max (loK wd s) (loK wd s)) (min (hiK wd s) (hiK wd s)) := by
  obtain ⟨l0, l1, l2, _⟩ := lohi w1 s
  exact ⟨by omega, by omega, by omega, fun x x1 x2 => by
    show loK wd s ≤ x * 0 ∧ x * 0 ≤ hiK wd s ↔ _
    rw [Int.mul_zero]; omega⟩
theorem tot_rng (S E f l : Int) : tot (fun x => decide (S ≤ x ∧ x ≤ E)) f l = max 0 (min l E - max f S + 1) := by
  by_cases c : f ≤ l + 1
  · by_cases d : S ≤ E + 1
    · have t := tot_tel (p := fun x => decide (S ≤ x ∧ x ≤ E)) (g := fun x => min (max x S) (E + 1)) c fun x => by
        by_cases z : S ≤ x ∧ x ≤ E
        · rw [decide_eq_true z, if_pos rfl]
          show (1 : Int) = min (max (x + 1) S) (E + 1) - min (max x S) (E + 1)
          omega
        · rw [decide_eq_false z, if_neg Bool.false_ne_true]
          show (0 : Int) = min (max (x + 1) S) (E + 1) - min (max x S) (E + 1)
          omega
      rw [t]
      show min (max (l + 1) S) (E + 1) - min (max f S) (E + 1) = _
      omega
    · rw [tot_zero_iff.mpr fun x _ _ => decide_eq_false (by omega)]; omega
  · rw [tot_none (by omega)]; omega
theorem Safe.fit {wd : Nat} {s : Bool} {o : Op} {c S E : Int} (h : Safe wd s o c S E) {x : Int} (x1 : loK wd s ≤ x) (x2 : x ≤ hiK wd s) : fits wd s (exO o x c) = decide (S ≤ x ∧ x ≤ E) := decide_eq_decide.mpr (h.is x x1 x2)
theorem Safe.tot {wd : Nat} {s : Bool} {o : Op} {c S E : Int} (h : Safe wd s o c S E) {f l : Int} (f1 : loK wd s ≤ f) (l1 : l ≤ hiK wd s) : Fw.tot (fun x => !fits wd s (exO o x c)) f l = max 0 (l - f + 1) - max 0 (min l E - max f S + 1) := by
  rw [tot_notM, tot_congr (q := fun x => decide (S ≤ x ∧ x ≤ E)) fun x x1 x2 => h.fit (by omega) (by omega), tot_rng]
theorem safe_uniq {wd : Nat} {s : Bool} {o : Op} {c S E S' E' : Int} (h : Safe wd s o c S E) (h' : Safe wd s o c S' E') : S = S' ∧ E = E' := by
  have q : ∀ x, loK wd s ≤ x → x ≤ hiK wd s → ((S ≤ x ∧ x ≤ E) ↔ (S' ≤ x ∧ x ≤ E')) := fun x x1 x2 => (h.is x x1 x2).symm.trans (h'.is x x1 x2)
  obtain ⟨a1, a2, a3, _⟩ := h
  obtain ⟨b1, b2, b3, _⟩ := h'
  have q1 := q S a1 (by omega)
  have q2 := q E (by omega) a3
  have q3 := q S' b1 (by omega)
  have q4 := q E' (by omega) b3
  omega
/-! sums over a range -/
def totS (h : Int → Int) (f l : Int) : Int := sZ (fun i => h (f + (i : Int))) (l - f + 1).toNat
theorem totS_congr {g h : Int → Int} {f l : Int} (e : ∀ x, f ≤ x → x ≤ l → g x = h x) : totS g f l = totS h f l := sZ_congr fun i hi => e _ (by omega) (by omega)
theorem totS_sub (g h : Int → Int) (f l : Int) : totS (fun x => g x - h x) f l = totS g f l - totS h f l := sZ_sub _ _ _
theorem totS_add (g h : Int → Int) (f l : Int) : totS (fun x => g x + h x) f l = totS g f l + totS h f l := sZ_add _ _ _
theorem totS_const (c f l : Int) : totS (fun _ => c) f l = max 0 (l - f + 1) * c := by
  unfold totS
  rw [sZ_const, Int.toNat_eq_max, Int.max_comm]
theorem totS_none {g : Int → Int} {f l : Int} (h : l < f) : totS g f l = 0 := by
  unfold totS
  rw [show (l - f + 1).toNat = 0 by omega]; rfl
theorem totS_succ (g : Int → Int) {f l : Int} (h : f ≤ l) : totS g f l = totS g f (l - 1) + g l := by
  unfold totS
  obtain ⟨n, hn⟩ := Int.eq_ofNat_of_zero_le (show 0 ≤ l - f by omega)
  rw [show (l - f + 1).toNat = n + 1 by omega, show (l - 1 - f + 1).toNat = n by omega, show l = f + (n : Int) by omega]
  rfl
theorem totS_split (g : Int → Int) {f m l : Int} (h1 : f - 1 ≤ m) (h2 : m ≤ l) : totS g f l = totS g f m + totS g (m + 1) l := by
  unfold totS
  obtain ⟨n, hn⟩ := Int.eq_ofNat_of_zero_le (show 0 ≤ m - f + 1 by omega)
  obtain ⟨k, hk⟩ := Int.eq_ofNat_of_zero_le (show 0 ≤ l - m by omega)
  rw [show (l - f + 1).toNat = n + k by omega, show (m - f + 1).toNat = n by omega, show (l - (m + 1) + 1).toNat = k by omega, sZ_split]
  congr 1
  refine sZ_congr fun i _ => ?_
  congr 1; omega
theorem totS_one (g : Int → Int) (x : Int) : totS g x x = g x := by
  rw [totS_succ g (Int.le_refl x), totS_none (by omega)]; omega
theorem totS_nonneg {g : Int → Int} {f l : Int} (h : ∀ x, 0 ≤ g x) : 0 ≤ totS g f l := sZ_nonneg fun i _ => h _
theorem totS_tel {h G : Int → Int} (e : ∀ u, h u = G u - G (u + 1)) {f l : Int} (hf : f ≤ l + 1) : totS h f l = G f - G (l + 1) := by
  obtain ⟨n, hn⟩ := Int.eq_ofNat_of_zero_le (show 0 ≤ l + 1 - f by omega)
  have key : ∀ n : Nat, sZ (fun i => h (f + (i : Int))) n = G f - G (f + n) := fun n => by
    induction n with
    | zero => show (0 : Int) = G f - G (f + ((0 : Nat) : Int)); rw [show f + ((0 : Nat) : Int) = f by omega]; omega
    | succ n ih =>
      show sZ (fun i => h (f + (i : Int))) n + h (f + (n : Int)) = _
      rw [ih, e, show f + ((n + 1 : Nat) : Int) = f + (n : Int) + 1 by omega]; omega
  unfold totS
  rw [show (l - f + 1).toNat = n by omega, key n, show f + (n : Int) = l + 1 by omega]
theorem tot_totS (p : Int → Bool) (f l : Int) : tot p f l = totS (fun x => if p x = true then 1 else 0) f l := rfl
def prS (g : Int → Int → Bool) (x0 x1 y0 y1 : Int) : Int := totS (fun u => tot (g u) y0 y1) x0 x1
def corn (h : Int) : Int := if h ≥ 0 then (h + 1) * (h + 2) / 2 else 0
theorem corn_step (h : Int) : corn h - corn (h - 1) = max 0 (h + 1) := by
  unfold corn
  by_cases c : h ≥ 0
  · rw [if_pos c]
    by_cases d : h - 1 ≥ 0
    · rw [if_pos d, show h - 1 + 1 = h by omega, show h - 1 + 2 = h + 1 by omega, show (h + 1) * (h + 2) = h * (h + 1) + (h + 1) * 2 by rw [Int.mul_add, Int.mul_comm (h + 1) h]; , Int.add_mul_ediv_right _ _ (by decide)]
      omega
    · have e : h = 0 := by omega
      rw [if_neg d, e]; decide
  · rw [if_neg c, if_neg (by omega)]; omega
def smS (x0 x1 y0 y1 m : Int) : Int := prS (fun u v => decide (u + v ≤ m)) x0 x1 y0 y1
theorem sm_corn {x0 x1 y0 y1 m : Int} (hx : x0 ≤ x1) (hy : y0 ≤ y1) : smS x0 x1 y0 y1 m = corn (m - x0 - y0) - corn (m - x0 - y0 - max 0 (x1 - x0 + 1)) - corn (m - x0 - y0 - max 0 (y1 - y0 + 1)) + corn (m - x0 - y0 - max 0 (x1 - x0 + 1) - max 0 (y1 - y0 + 1)) := by
  unfold smS prS
  have t := totS_tel (h := fun u => tot (fun v => decide (u + v ≤ m)) y0 y1) (G := fun u => corn (m - u - y0) - corn (m - u - y0 - (y1 - y0 + 1))) (fun u => by
    have a1 := corn_step (m - u - y0)
    have a2 := corn_step (m - u - y0 - (y1 - y0 + 1))
    have e := tot_congr (p := fun v => decide (u + v ≤ m)) (q := fun v => decide (y0 ≤ v ∧ v ≤ m - u)) (first := y0) (last := y1) fun v v1 v2 => decide_eq_decide.mpr (by omega)
    rw [e, tot_rng]
    show _ = corn (m - u - y0) - corn (m - u - y0 - (y1 - y0 + 1)) - (corn (m - (u + 1) - y0) - corn (m - (u + 1) - y0 - (y1 - y0 + 1)))
    rw [show m - (u + 1) - y0 = m - u - y0 - 1 by omega, show m - u - y0 - 1 - (y1 - y0 + 1) = m - u - y0 - (y1 - y0 + 1) - 1 by omega]
    omega) (f := x0) (l := x1) (by omega)
  rw [t]
  show corn (m - x0 - y0) - corn (m - x0 - y0 - (y1 - y0 + 1)) - (corn (m - (x1 + 1) - y0) - corn (m - (x1 + 1) - y0 - (y1 - y0 + 1))) = _
  rw [show max 0 (x1 - x0 + 1) = x1 - x0 + 1 by omega, show max 0 (y1 - y0 + 1) = y1 - y0 + 1 by omega, show m - (x1 + 1) - y0 = m - x0 - y0 - (x1 - x0 + 1) by omega]
  omega
theorem prS_congr {g h : Int → Int → Bool} {x0 x1 y0 y1 : Int} (e : ∀ u v, x0 ≤ u → u ≤ x1 → y0 ≤ v → v ≤ y1 → g u v = h u v) : prS g x0 x1 y0 y1 = prS h x0 x1 y0 y1 := totS_congr fun u u1 u2 => tot_congr fun v v1 v2 => e u v u1 u2 v1 v2
/-- pairs whose exact result lies between -/
def prB (o : Op) (lo hi x0 x1 y0 y1 : Int) : Int := prS (fun u v => decide (lo ≤ exO o u v ∧ exO o u v ≤ hi)) x0 x1 y0 y1
theorem prB_nonneg (o : Op) (lo hi x0 x1 y0 y1 : Int) : 0 ≤ prB o lo hi x0 x1 y0 y1 := by
  unfold prB prS
  exact totS_nonneg fun u => tot_nonneg _ _ _
theorem prB_add (lo hi x0 x1 y0 y1 : Int) : max 0 (smS x0 x1 y0 y1 hi - smS x0 x1 y0 y1 (lo - 1)) = prB .add lo hi x0 x1 y0 y1 := by
  by_cases c : lo ≤ hi
  · have e : prB .add lo hi x0 x1 y0 y1 = smS x0 x1 y0 y1 hi - smS x0 x1 y0 y1 (lo - 1) := by
      unfold prB smS prS
      rw [← totS_sub]
      refine totS_congr fun u _ _ => ?_
      rw [tot_totS, tot_totS, tot_totS, ← totS_sub]
      refine totS_congr fun v _ _ => ?_
      show (if decide (lo ≤ u + v ∧ u + v ≤ hi) = true then (1 : Int) else 0) = (if decide (u + v ≤ hi) = true then 1 else 0) - (if decide (u + v ≤ lo - 1) = true then 1 else 0)
      simp only [decide_eq_true_eq]
      repeat' split
      all_goals omega
    have := prB_nonneg .add lo hi x0 x1 y0 y1
    omega
  · have e : prB .add lo hi x0 x1 y0 y1 = 0 := by
      unfold prB prS
      rw [totS_congr (h := fun _ => 0) fun u _ _ => tot_zero_iff.mpr fun v _ _ => decide_eq_false (by omega), totS_const]; omega
    have m : 0 ≤ smS x0 x1 y0 y1 (lo - 1) - smS x0 x1 y0 y1 hi := by
      unfold smS prS
      rw [← totS_sub]
      refine totS_nonneg fun u => ?_
      rw [tot_totS, tot_totS, ← totS_sub]
      refine totS_nonneg fun v => ?_
      simp only [decide_eq_true_eq]
      repeat' split
      all_goals omega
    omega
theorem prB_sub (lo hi x0 x1 y0 y1 : Int) : prB .add lo hi x0 x1 (-y1) (-y0) = prB .sub lo hi x0 x1 y0 y1 := by
  unfold prB prS
  refine totS_congr fun u _ _ => ?_
  rw [← tot_turn]
  exact tot_congr fun v _ _ => by
    show decide (lo ≤ u + -v ∧ u + -v ≤ hi) = decide (lo ≤ u - v ∧ u - v ≤ hi)
    rw [Int.sub_eq_add_neg]
/-- pairs that overflow -/
def prO (wd : Nat) (s : Bool) (o : Op) (x0 x1 y0 y1 : Int) : Int := prS (fun u v => !fits wd s (exO o u v)) x0 x1 y0 y1
theorem prO_is (wd : Nat) (s : Bool) (o : Op) (x0 x1 y0 y1 : Int) : max 0 (x1 - x0 + 1) * max 0 (y1 - y0 + 1) - prB o (loK wd s) (hiK wd s) x0 x1 y0 y1 = prO wd s o x0 x1 y0 y1 := by
  unfold prB prO prS
  rw [← totS_const, ← totS_sub]
  exact totS_congr fun u _ _ => (tot_notM _ _ _).symm
/-- pairs whose wrapped result lies between -/
def prW (wd : Nat) (s : Bool) (o : Op) (lo hi x0 x1 y0 y1 : Int) : Int := prS (fun u v => decide (lo ≤ wr wd s (exO o u v) ∧ wr wd s (exO o u v) ≤ hi)) x0 x1 y0 y1
theorem wr_three {wd : Nat} (w1 : 1 ≤ wd) {s : Bool} {lo hi e : Int} (h1 : loK wd s ≤ lo) (h2 : hi ≤ hiK wd s) (er : -(2 ^ wd) ≤ e ∧ e ≤ 2 * 2 ^ wd - 2 + 2 * loK wd s ∨ (-(2 ^ wd) < e ∧ e < 2 ^ wd)) :
    (if decide (lo + -(2 ^ wd) ≤ e ∧ e ≤ hi + -(2 ^ wd)) = true then (1 : Int) else 0) + (if decide (lo + 0 ≤ e ∧ e ≤ hi + 0) = true then 1 else 0) + (if decide (lo + 2 ^ wd ≤ e ∧ e ≤ hi + 2 ^ wd) = true then 1 else 0) = if decide (lo ≤ wr wd s e ∧ wr wd s e ≤ hi) = true then 1 else 0 := by
  have hp := p2 wd
  obtain ⟨l0, l1, l2, l3⟩ := lohi w1 s
  have q := wr_q wd s e
  have w0 := wr_lo wd s e
  have w3 := wr_hi wd s e
  generalize (e - loK wd s) / 2 ^ wd = k at q
  have kk : k = -1 ∨ k = 0 ∨ k = 1 := by
    rcases Int.lt_trichotomy k 0 with z | z | z
    · by_cases y : k = -1
      · exact .inl y
      · have := Int.mul_le_mul_of_nonneg_left (show k ≤ -2 by omega) (Int.le_of_lt hp)
        omega
    · exact .inr (.inl z)
    · by_cases y : k = 1
      · exact .inr (.inr y)
      · have := Int.mul_le_mul_of_nonneg_left (show 2 ≤ k by omega) (Int.le_of_lt hp)
        omega
  generalize wr wd s e = y at q w0 w3
  simp only [decide_eq_true_eq]
  rcases kk with rfl | rfl | rfl
  · repeat' split
    all_goals omega
  · repeat' split
    all_goals omega
  · repeat' split
    all_goals omega
theorem prW_is {wd : Nat} (w1 : 1 ≤ wd) {s : Bool} {o : Op} (ho : isP o) {lo hi x0 x1 y0 y1 : Int} (h1 : loK wd s ≤ lo) (h2 : hi ≤ hiK wd s) (hx0 : loK wd s ≤ x0) (hx1 : x1 ≤ hiK wd s) (hy0 : loK wd s ≤ y0) (hy1 : y1 ≤ hiK wd s) :
    prB o (lo + -(2 ^ wd)) (hi + -(2 ^ wd)) x0 x1 y0 y1 + prB o (lo + 0) (hi + 0) x0 x1 y0 y1 + prB o (lo + 2 ^ wd) (hi + 2 ^ wd) x0 x1 y0 y1 = prW wd s o lo hi x0 x1 y0 y1 := by
  have hp := p2 wd
  obtain ⟨l0, l1, l2, l3⟩ := lohi w1 s
  unfold prB prW prS
  rw [← totS_add, ← totS_add]
  refine totS_congr fun u u1 u2 => ?_
  rw [tot_totS, tot_totS, tot_totS, tot_totS, ← totS_add, ← totS_add]
  refine totS_congr fun v v1 v2 => ?_
  dsimp only
  have er : -(2 ^ wd) ≤ exO o u v ∧ exO o u v ≤ 2 * 2 ^ wd - 2 + 2 * loK wd s ∨ (-(2 ^ wd) < exO o u v ∧ exO o u v < 2 ^ wd) := by
    rcases ho with rfl | rfl
    · exact .inl ⟨by show -(2 ^ wd) ≤ u + v; omega, by show u + v ≤ _; omega⟩
    · exact .inr ⟨by show -(2 ^ wd) < u - v; omega, by show u - v < _; omega⟩
  exact wr_three w1 h1 h2 er
theorem prS_left (g : Int → Int → Bool) {x0 c x1 y0 y1 : Int} (h1 : x0 - 1 ≤ c) (h2 : c ≤ x1) : prS g x0 x1 y0 y1 = prS g x0 c y0 y1 + prS g (c + 1) x1 y0 y1 := totS_split _ h1 h2
theorem prS_right (g : Int → Int → Bool) {x0 x1 y0 c y1 : Int} (h1 : y0 - 1 ≤ c) (h2 : c ≤ y1) : prS g x0 x1 y0 y1 = prS g x0 x1 y0 c + prS g x0 x1 (c + 1) y1 := by
  unfold prS
  rw [← totS_add]
  exact totS_congr fun u _ _ => tot_split _ h1 h2
theorem prS_row (g : Int → Int → Bool) (x y0 y1 : Int) : prS g x x y0 y1 = tot (g x) y0 y1 := totS_one _ _
theorem prS_col (g : Int → Int → Bool) (x0 x1 y : Int) : prS g x0 x1 y y = tot (fun u => g u y) x0 x1 := by
  unfold prS
  rw [tot_totS]
  exact totS_congr fun u _ _ => tot_one _ _
theorem prS_nonneg (g : Int → Int → Bool) (x0 x1 y0 y1 : Int) : 0 ≤ prS g x0 x1 y0 y1 := by
  unfold prS
  exact totS_nonneg fun u => tot_nonneg _ _ _
theorem prS_le (g : Int → Int → Bool) {x0 x1 y0 y1 : Int} (hx : x0 ≤ x1) (hy : y0 ≤ y1) : prS g x0 x1 y0 y1 ≤ (x1 - x0 + 1) * (y1 - y0 + 1) := by
  have e : prS g x0 x1 y0 y1 + prS (fun u v => !g u v) x0 x1 y0 y1 = (x1 - x0 + 1) * (y1 - y0 + 1) := by
    unfold prS
    rw [← totS_add, totS_congr (h := fun _ => y1 - y0 + 1) fun u _ _ => by rw [tot_not (by omega)]; omega, totS_const, show max 0 (x1 - x0 + 1) = x1 - x0 + 1 by omega]
  have := prS_nonneg (fun u v => !g u v) x0 x1 y0 y1
  omega
theorem prS_step (g : Int → Int → Bool) {x0 x1 y0 y1 : Int} (h : x0 ≤ x1) : prS g x0 x1 y0 y1 = prS g x0 (x1 - 1) y0 y1 + tot (g x1) y0 y1 := totS_succ _ h

def VB (x : Int) : Prop := -(2 ^ 132) ≤ x ∧ x ≤ 2 ^ 132
theorem vb_val {wd : Nat} {s : Bool} (h : wd ≤ 128) {x : Int} (h1 : loK wd s ≤ x) (h2 : x ≤ hiK wd s) : -(2 ^ 128) ≤ x ∧ x ≤ 2 ^ 128 := by
  obtain ⟨z1, z2, z3, z4, z5⟩ := loK_b (s := s) h
  omega
theorem p132 : (2 : Int) ^ 132 = 16 * 2 ^ 128 ∧ (2 : Int) ^ 132 * 16 ≤ 2 ^ 290 ∧ (0 : Int) < 2 ^ 128 := by decide +kernel
theorem p128' {wd : Nat} (h : wd ≤ 128) : (2 : Int) ^ wd ≤ 2 ^ 128 := by
  have := Nat.pow_le_pow_right (n := 2) (by decide) h
  exact_mod_cast this
theorem sh_pair (n l : Int) : SeqAt.shaped (.tuple [.int n, .int l]) = true := by
  unfold SeqAt.shaped
  simp [PyData.canLay0, PyData.canLayAll0, PyData.depth, PyData.depthAll]
theorem eqv_pair (n l : Int) : PyData.eqv (.tuple [.int n, .int l]) (.tuple [.int n, .int l]) = true := PySem.SeqAt.eqv_refl _ (by simp [PyData.canLay0, PyData.canLayAll0])
theorem dp_pair {K : PySem.W.Frag} {H : Hp} {q : Addr} {n l : Int} (h : H q = some (.tup [.int n, .int l])) : Dp K H (.ref q) (.tuple [.int n, .int l]) := .tup (SqT.of h) (.cons (.int n) (.cons (.int l) .nil))

theorem rg_step {wd : Nat} {s : Bool} (w1 : 1 ≤ wd) (w5 : wd ≤ 5) {cc : Nat} (hc : cc = 2 ∨ cc = 3) : ∃ n : Nat, RgC (loK wd s) (loK wd s + 2 ^ wd) (cc : Int) n ∧ ∀ i, i < n → loK wd s ≤ loK wd s + (i : Int) * (cc : Int) ∧ loK wd s + (i : Int) * (cc : Int) ≤ hiK wd s := by
  refine ⟨(2 ^ wd + cc - 1) / cc, ?_⟩
  have h : wd = 1 ∨ wd = 2 ∨ wd = 3 ∨ wd = 4 ∨ wd = 5 := by omega
  rcases h with rfl | rfl | rfl | rfl | rfl <;> cases s <;> rcases hc with rfl | rfl
  all_goals exact ⟨⟨by decide, by decide, by decide +kernel, by decide +kernel⟩, by decide +kernel⟩
theorem wl_len_le (p : Int → Bool) (f : Int) (n : Nat) : (wl p f n).length ≤ n := by
  unfold wl
  exact Nat.le_trans (List.length_filter_le _ _) (by rw [List.length_map, List.length_range]; exact Nat.le_refl _)
theorem Safe.list {wd : Nat} {s : Bool} {o : Op} {c S E : Int} (h : Safe wd s o c S E) {N : Nat} (hN : (N : Int) = 2 ^ wd) {is : List Int} (e : is = wl (fun n => fits wd s (exO o n c)) (loK wd s) N) :
    (is.length : Int) = E - S + 1 ∧ is[0]? = some S ∧ is[is.length - 1]? = some E ∧ ∀ x, loK wd s ≤ x → x ≤ hiK wd s → decide (x ∈ is) = fits wd s (exO o x c) := by
  have hh : hiK wd s = loK wd s + 2 ^ wd - 1 := rfl
  have hn : hiK wd s - loK wd s + 1 = (N : Int) := by omega
  have sub : ∀ {f l : Int}, loK wd s ≤ f → l ≤ hiK wd s → Fw.tot (fun n => fits wd s (exO o n c)) f l = max 0 (min l E - max f S + 1) := fun f1 l1 => by
    rw [tot_congr (q := fun x => decide (S ≤ x ∧ x ≤ E)) fun x x1 x2 => h.fit (by omega) (by omega), tot_rng]
  obtain ⟨a1, a2, a3, a4⟩ := h
  have len : (is.length : Int) = E - S + 1 := by
    rw [e, wl_tot hn, sub (Int.le_refl _) (Int.le_refl _)]; omega
  have fS : fits wd s (exO o S c) = true := decide_eq_true ((a4 S a1 (by omega)).mpr ⟨Int.le_refl _, a2⟩)
  have fE : fits wd s (exO o E c) = true := decide_eq_true ((a4 E (by omega) a3).mpr ⟨a2, Int.le_refl _⟩)
  refine ⟨len, ?_, ?_, fun x x1 x2 => ?_⟩
  · obtain ⟨y, hy⟩ : ∃ y, is[0]? = some y := ⟨_, List.getElem?_eq_getElem (show 0 < is.length by omega)⟩
    have hy' := hy
    rw [e] at hy'
    have := wl_at hy' a1 fS (by
      by_cases z : loK wd s ≤ S - 1 + 1
      · rw [sub (Int.le_refl _) (by omega)]; omega
      · rw [tot_none (by omega)]; rfl)
    rw [hy, this]
  · obtain ⟨y, hy⟩ : ∃ y, is[is.length - 1]? = some y := ⟨_, List.getElem?_eq_getElem (show is.length - 1 < is.length by omega)⟩
    have hy' := hy
    obtain ⟨j, hj⟩ : ∃ j, j = is.length - 1 := ⟨_, rfl⟩
    rw [← hj] at hy hy' ⊢
    rw [e] at hy'
    have := wl_at hy' (by omega) fE (by rw [sub (Int.le_refl _) (by omega)]; omega)
    rw [hy, this]
  · rw [e]
    cases z : fits wd s (exO o x c) with
    | true => exact decide_eq_true (wl_mem.mpr ⟨x1, by omega, z⟩)
    | false => exact decide_eq_false fun y => by have := (wl_mem.mp y).2.2; rw [z] at this; cases this
theorem nm3 {x : V} {j : Nat} (h : ([("add" : Str), "subtract", "multiply"].map V.str)[j]? = some x) : ∃ o : Op, x = .str o.nm ∧ isV o := by
  rcases j with _ | _ | _ | j
  · cases h; exact ⟨.add, rfl, .inl rfl⟩
  · cases h; exact ⟨.sub, rfl, .inr (.inl rfl)⟩
  · cases h; exact ⟨.mul, rfl, .inr (.inr rfl)⟩
  · cases h
theorem nm2 {x : V} {j : Nat} (h : ([("add" : Str), "subtract"].map V.str)[j]? = some x) : ∃ o : Op, x = .str o.nm ∧ isP o := by
  rcases j with _ | _ | j
  · cases h; exact ⟨.add, rfl, .inl rfl⟩
  · cases h; exact ⟨.sub, rfl, .inr rfl⟩
  · cases h
theorem rgV_get {a b : Int} {i : Nat} {x : V} (h : (rgV a b)[i]? = some x) : x = .int (a + (i : Int)) ∧ i < (b - a).toNat := by
  unfold rgV at h
  rw [List.getElem?_map] at h
  by_cases c : i < (b - a).toNat
  · rw [List.getElem?_range c] at h
    exact ⟨(Option.some.inj h).symm, c⟩
  · rw [List.getElem?_eq_none (by rw [List.length_range]; omega)] at h; cases h
theorem emod_is {n m q r : Int} (h : n = r + m * q) (r0 : 0 ≤ r) (r1 : r < m) : n % m = r := by
  rw [h, Int.add_mul_emod_self_left, Int.emod_eq_of_lt r0 r1]
/-- how many of the integers below n are, modulo S, below R -/
def rF (S R n : Int) : Int := n / S * R + min (n % S) R
theorem rF_step {S R : Int} (s0 : 0 < S) (r0 : 0 ≤ R) (r1 : R ≤ S) (n : Int) : (if decide (n % S < R) = true then (1 : Int) else 0) = rF S R (n + 1) - rF S R n := by
  have e := Int.emod_add_mul_ediv n S
  have m0 := Int.emod_nonneg n (Int.ne_of_gt s0)
  have m1 := Int.emod_lt_of_pos n s0
  unfold rF
  generalize n / S = q at *
  generalize n % S = r at *
  by_cases c : r + 1 < S
  · have d1 : (n + 1) / S = q := by
      rw [show n + 1 = (r + 1) + S * q by omega, Int.add_mul_ediv_left _ _ (Int.ne_of_gt s0), Int.ediv_eq_zero_of_lt (by omega) c]; omega
    have d2 : (n + 1) % S = r + 1 := emod_is (q := q) (by omega) (by omega) c
    rw [d1, d2]
    by_cases z : r < R
    · rw [decide_eq_true z, if_pos rfl, Int.min_eq_left (by omega), Int.min_eq_left (by omega)]; omega
    · rw [decide_eq_false z, if_neg Bool.false_ne_true, Int.min_eq_right (by omega), Int.min_eq_right (by omega)]; omega
  · have d1 : (n + 1) / S = q + 1 := by
      rw [show n + 1 = 0 + S * (q + 1) by rw [Int.mul_add]; omega, Int.add_mul_ediv_left _ _ (Int.ne_of_gt s0), Int.zero_ediv]; omega
    have d2 : (n + 1) % S = 0 := emod_is (q := q + 1) (by rw [Int.mul_add]; omega) (by omega) s0
    rw [d1, d2, Int.add_mul, Int.one_mul, Int.min_eq_left r0]
    by_cases z : r < R
    · rw [decide_eq_true z, if_pos rfl, Int.min_eq_left (by omega)]; omega
    · rw [decide_eq_false z, if_neg Bool.false_ne_true, Int.min_eq_right (by omega)]; omega
theorem rF_laps {S R : Int} (s0 : 0 < S) (n k : Int) : rF S R (n + S * k) = rF S R n + k * R := by
  unfold rF
  rw [Int.add_mul_ediv_left _ _ (Int.ne_of_gt s0), Int.add_mul_emod_self_left, Int.add_mul]; omega
theorem room_tot {p : Int → Bool} {S R c f l : Int} (s0 : 0 < S) (r0 : 0 ≤ R) (r1 : R ≤ S) (h : ∀ x, p x = decide ((x + c) % S < R)) (hf : f ≤ l + 1) : tot p f l = rF S R (l + 1 + c) - rF S R (f + c) := by
  refine tot_tel (g := fun x => rF S R (x + c)) hf fun x => ?_
  rw [h, rF_step s0 r0 r1]
  show rF S R (x + c + 1) - rF S R (x + c) = rF S R (x + 1 + c) - rF S R (x + c)
  rw [show x + c + 1 = x + 1 + c by omega]

theorem prW_row {wd : Nat} {s : Bool} {lo hi n y0 y1 : Int} (h1 : loK wd s ≤ lo) (h2 : hi ≤ hiK wd s) {o : Op} {sg : Int} (ho : (o = .add ∧ sg = 1) ∨ (o = .sub ∧ sg = -1)) : prW wd s o lo hi n n y0 y1 = tot (rsP wd sg n lo hi) y0 y1 := by
  unfold prW
  rw [prS_row]
  refine tot_congr fun v _ _ => ?_
  rw [rsP_wr (s := s) h1 h2]
  rcases ho with ⟨rfl, rfl⟩ | ⟨rfl, rfl⟩
  · show decide (lo ≤ wr wd s (n + v) ∧ wr wd s (n + v) ≤ hi) = _
    rw [show n + v = 1 * v + n by omega]
  · show decide (lo ≤ wr wd s (n - v) ∧ wr wd s (n - v) ≤ hi) = _
    rw [show n - v = -1 * v + n by omega]
theorem prW_col {wd : Nat} {s : Bool} {lo hi n x0 x1 : Int} (h1 : loK wd s ≤ lo) (h2 : hi ≤ hiK wd s) {o : Op} {sg : Int} (ho : (o = .add ∧ sg = 1) ∨ (o = .sub ∧ sg = -1)) : prW wd s o lo hi x0 x1 n n = tot (rsP wd 1 (sg * n) lo hi) x0 x1 := by
  unfold prW
  rw [prS_col]
  refine tot_congr fun v _ _ => ?_
  rw [rsP_wr (s := s) h1 h2]
  rcases ho with ⟨rfl, rfl⟩ | ⟨rfl, rfl⟩
  · show decide (lo ≤ wr wd s (v + n) ∧ wr wd s (v + n) ≤ hi) = _
    rw [show v + n = 1 * v + 1 * n by omega]
  · show decide (lo ≤ wr wd s (v - n) ∧ wr wd s (v - n) ≤ hi) = _
    rw [show v - n = 1 * v + -1 * n by omega]
theorem prO_col (wd : Nat) (s : Bool) (o : Op) (n x0 x1 : Int) : prO wd s o x0 x1 n n = tot (fun x => !fits wd s (exO o x n)) x0 x1 := prS_col _ _ _ _
theorem prO_addrow (wd : Nat) (s : Bool) (n y0 y1 : Int) : prO wd s .add n n y0 y1 = tot (fun x => !fits wd s (exO .add x n)) y0 y1 := by
  unfold prO
  rw [prS_row]
  exact tot_congr fun v _ _ => by
    show (!fits wd s (n + v)) = !fits wd s (v + n)
    rw [Int.add_comm]
theorem prO_subrow (wd : Nat) (s : Bool) {n y0 y1 : Int} (h : y0 ≤ y1) : prO wd s .sub n n y0 y1 = y1 - y0 + 1 - max 0 (min y1 (n - loK wd s) - max y0 (n - hiK wd s) + 1) := by
  have e : tot (fun v => fits wd s (exO .sub n v)) y0 y1 = tot (fun v => decide (n - hiK wd s ≤ v ∧ v ≤ n - loK wd s)) y0 y1 := tot_congr fun v _ _ => decide_eq_decide.mpr (by show loK wd s ≤ n - v ∧ n - v ≤ hiK wd s ↔ _; omega)
  unfold prO
  rw [prS_row, tot_notM, e, tot_rng]
  omega
theorem prW_none {wd : Nat} {s : Bool} {o : Op} {lo hi x0 x1 y0 y1 : Int} (h : hi < lo) : prW wd s o lo hi x0 x1 y0 y1 = 0 := by
  unfold prW prS
  rw [totS_congr (h := fun _ => 0) fun u _ _ => tot_zero_iff.mpr fun v _ _ => decide_eq_false (by omega), totS_const]; omega
theorem prW_whole {wd : Nat} {s : Bool} {o : Op} {bo to x0 x1 y0 y1 : Int} (b1 : loK wd s ≤ bo) (b2 : bo ≤ to) (b3 : to ≤ hiK wd s) (hx : x0 ≤ x1) (hy : y0 ≤ y1) :
    prW wd s o bo to x0 x1 y0 y1 + (prW wd s o (loK wd s) (bo - 1) x0 x1 y0 y1 + prW wd s o (to + 1) (hiK wd s) x0 x1 y0 y1) = (x1 - x0 + 1) * (y1 - y0 + 1) := by
  have e : totS (fun _ => totS (fun _ => 1) y0 y1) x0 x1 = (x1 - x0 + 1) * (y1 - y0 + 1) := by
    rw [totS_const, totS_const, show max 0 (x1 - x0 + 1) = x1 - x0 + 1 by omega, show max 0 (y1 - y0 + 1) = y1 - y0 + 1 by omega, Int.mul_one]
  rw [← e]
  unfold prW prS
  rw [← totS_add, ← totS_add]
  refine totS_congr fun u _ _ => ?_
  rw [tot_totS, tot_totS, tot_totS, ← totS_add, ← totS_add]
  refine totS_congr fun v _ _ => ?_
  dsimp only
  have w0 := wr_lo wd s (exO o u v)
  have w1 := wr_hi wd s (exO o u v)
  simp only [decide_eq_true_eq]
  repeat' split
  all_goals omega
theorem turn_add {wd : Nat} {u bo to f : Int} (b2 : bo ≤ to) (b3 : to - bo < 2 ^ wd) : tot (fun v => decide ((v + (u - bo)) % 2 ^ wd < to - bo + 1)) f (f + 2 ^ wd - 1) = to - bo + 1 := by
  have hp := p2 wd
  rw [room_tot (S := 2 ^ wd) (R := to - bo + 1) (c := u - bo) hp (by omega) (by omega) (fun x => rfl) (by omega), show f + 2 ^ wd - 1 + 1 + (u - bo) = f + (u - bo) + 2 ^ wd * 1 by omega, rF_laps hp]
  omega
theorem wr_in_iff {wd : Nat} {s : Bool} {bo to e : Int} (b1 : loK wd s ≤ bo) (b2 : bo ≤ to) (b3 : to ≤ hiK wd s) : decide (bo ≤ wr wd s e ∧ wr wd s e ≤ to) = decide ((e - bo) % 2 ^ wd < to - bo + 1) := by
  have h := rsP_wr (wd := wd) (s := s) (a := 0) (b := e) (lo := bo) (hi := to) (x := 0) b1 b3
  rw [show (0 : Int) * 0 + e = e by omega] at h
  rw [← h]
  unfold rsP inR
  rw [show (0 : Int) * 0 + e - bo = e - bo by omega]
  exact decide_eq_decide.mpr (by omega)
theorem prW_every {wd : Nat} {s : Bool} {o : Op} (ho : isP o) {bo to : Int} (b1 : loK wd s ≤ bo) (b2 : bo ≤ to) (b3 : to ≤ hiK wd s) : prW wd s o bo to (loK wd s) (hiK wd s) (loK wd s) (hiK wd s) = 2 ^ wd * (to - bo + 1) := by
  have hp := p2 wd
  have hh : hiK wd s = loK wd s + 2 ^ wd - 1 := rfl
  unfold prW prS
  rw [totS_congr (h := fun _ => to - bo + 1) fun u _ _ => ?_, totS_const, show max 0 (hiK wd s - loK wd s + 1) = 2 ^ wd by omega]
  rw [tot_congr fun v _ _ => wr_in_iff b1 b2 b3]
  rcases ho with rfl | rfl
  · have t := turn_add (wd := wd) (u := u) (f := loK wd s) b2 (by omega)
    rw [← hh] at t
    refine Eq.trans (tot_congr fun v _ _ => ?_) t
    · show decide ((u + v - bo) % 2 ^ wd < to - bo + 1) = _
      rw [show u + v - bo = v + (u - bo) by omega]
  · have t := turn_add (wd := wd) (u := u) (f := -hiK wd s) b2 (by omega)
    rw [show -hiK wd s + 2 ^ wd - 1 = -loK wd s by omega, ← tot_turn] at t
    refine Eq.trans (tot_congr fun v _ _ => ?_) t
    · show decide ((u - v - bo) % 2 ^ wd < to - bo + 1) = decide ((-v + (u - bo)) % 2 ^ wd < to - bo + 1)
      rw [show u - v - bo = -v + (u - bo) by omega]

theorem cnt2 {f l S E : Int} {a b : Bool} (ha : a = !decide (S ≤ f ∧ f ≤ E)) (hb : b = !decide (S ≤ l ∧ l ≤ E)) : ((([(if a = true then (1 : Int) else 0), (if b = true then 1 else 0)].count 1 : Nat) : Int)) = ((([f, l].filter fun n => !decide (S ≤ n ∧ n ≤ E)).length : Nat) : Int) := by
  rw [List.filter_cons, List.filter_cons, List.filter_nil, ← ha, ← hb]
  cases a <;> cases b <;> rfl

theorem parts_ex {H : Hp} {r1 r2 : Addr} {a c b : Int} (h1 : H r1 = some (.tup [.int a, .int c])) (h2 : H r2 = some (.tup [.int (c + 1), .int b])) (ac : a ≤ c) (cb : c ≤ b) : ∃ rs : List (Addr × Int × Int), [V.ref r1] ++ (List.replicate (if decide (c < b) = true then (1 : Int) else 0).toNat [V.ref r2]).flatten = rs.map (fun r => V.ref r.1) ∧ rs.length ≤ 2 ∧ (∀ r ∈ rs, H r.1 = some (.tup [.int r.2.1, .int r.2.2]) ∧ a ≤ r.2.1 ∧ r.2.1 ≤ r.2.2 ∧ r.2.2 ≤ b) ∧ ∀ F : Int → Int → Int, F a b = F a c + F (c + 1) b → (rs.map fun r => F r.2.1 r.2.2).sum = F a b := by
  by_cases z : c < b
  · refine ⟨[(r1, a, c), (r2, c + 1, b)], by rw [decide_eq_true z, if_pos rfl]; rfl, Nat.le_refl _, fun r hr => ?_, fun F e => ?_⟩
    · rcases List.mem_cons.mp hr with rfl | hr
      · exact ⟨h1, Int.le_refl _, ac, cb⟩
      · rw [List.mem_singleton.mp hr]
        exact ⟨h2, by show a ≤ c + 1; omega, by show c + 1 ≤ b; omega, Int.le_refl _⟩
    · show F a c + (F (c + 1) b + 0) = F a b
      omega
  · have e : c = b := by omega
    subst e
    refine ⟨[(r1, a, c)], by rw [decide_eq_false z, if_neg Bool.false_ne_true]; rfl, by show 1 ≤ 2; decide, fun r hr => ?_, fun F e => ?_⟩
    · rw [List.mem_singleton.mp hr]
      exact ⟨h1, Int.le_refl _, ac, Int.le_refl _⟩
    · show F a c + 0 = F a c
      omega
def p_kb_pair_overflows_0_ys_xs_name_kind {α : Type} (us ws : List α) : List α := match us, ws with | [], [w0, w1, w2, w3] => [w3, w2, w1, w0] | _, _ => []
def p_kb_pairs_within_0_high_low_ys_xs_name_kind {α : Type} (us ws : List α) : List α := match us, ws with | [], [w0, w1, w2, w3, w4, w5] => [w5, w4, w3, w2, w1, w0] | _, _ => []
def p_kb_overflow_total_0_last_first_c_name_kind {α : Type} (us ws : List α) : List α := match us, ws with | [], [w0, w1, w2, w3, w4] => [w4, w3, w2, w1, w0] | _, _ => []
def p_kb_safe_values_0_c_name_kind {α : Type} (us ws : List α) : List α := match us, ws with | [], [w0, w1, w2] => [w2, w1, w0] | _, _ => []
structure Txt (K : PySem.W.Frag) (mg : Str → Option Value) where
  C_Kind : Addr
  cl_Kind : Cls K C_Kind
  g_Kind : mg "Kind" = some (.ref C_Kind)
  na_Kind_bits : NoAttr K C_Kind "bits"
  na_Kind_is_signed : NoAttr K C_Kind "is_signed"
  ia_Kind : PySem.W.findIn K (.ref C_Kind) "__class__" = some (some (.builtin "object.__class__"))
  ib_Kind : PySem.W.specialIn K (.builtin "object.__class__") "__get__" = some (some (.builtin "getset_descriptor.__get__"))
  ic_Kind : PySem.W.takesIn K (.builtin "object.__class__") = some true
  id_Kind : PySem.W.mroIn K C_Kind (.type "object") = some true
  f_is_integer : Addr
  fd_is_integer : FuncData
  F_is_integer : Fun K "is_integer" "is_integer" s_is_integer f_is_integer fd_is_integer
  b_is_integer : Binds K fd_is_integer ["value"] []
  g_is_integer : mg "is_integer" = some (.ref f_is_integer)
  k_is_integer : PySem.W.keepIn K (.ref f_is_integer) = true
  f_check_integer : Addr
  fd_check_integer : FuncData
  F_check_integer : Fun K "check_integer" "check_integer" s_check_integer f_check_integer fd_check_integer
  b_check_integer : Binds K fd_check_integer ["value", "argument"] []
  g_check_integer : mg "check_integer" = some (.ref f_check_integer)
  k_check_integer : PySem.W.keepIn K (.ref f_check_integer) = true
  f_is_sixty_digits : Addr
  fd_is_sixty_digits : FuncData
  F_is_sixty_digits : Fun K "is_sixty_digits" "is_sixty_digits" s_is_sixty_digits f_is_sixty_digits fd_is_sixty_digits
  b_is_sixty_digits : Binds K fd_is_sixty_digits ["value"] []
  g_is_sixty_digits : mg "is_sixty_digits" = some (.ref f_is_sixty_digits)
  k_is_sixty_digits : PySem.W.keepIn K (.ref f_is_sixty_digits) = true
  f_check_sixty_digits : Addr
  fd_check_sixty_digits : FuncData
  F_check_sixty_digits : Fun K "check_sixty_digits" "check_sixty_digits" s_check_sixty_digits f_check_sixty_digits fd_check_sixty_digits
  b_check_sixty_digits : Binds K fd_check_sixty_digits ["value", "argument"] []
  g_check_sixty_digits : mg "check_sixty_digits" = some (.ref f_check_sixty_digits)
  k_check_sixty_digits : PySem.W.keepIn K (.ref f_check_sixty_digits) = true
  f_toward_zero : Addr
  fd_toward_zero : FuncData
  F_toward_zero : Fun K "toward_zero" "toward_zero" s_toward_zero f_toward_zero fd_toward_zero
  b_toward_zero : Binds K fd_toward_zero ["x", "y"] []
  g_toward_zero : mg "toward_zero" = some (.ref f_toward_zero)
  k_toward_zero : PySem.W.keepIn K (.ref f_toward_zero) = true
  f_exact_result : Addr
  fd_exact_result : FuncData
  F_exact_result : Fun K "exact_result" "exact_result" s_exact_result f_exact_result fd_exact_result
  b_exact_result : Binds K fd_exact_result ["name", "x", "y"] []
  g_exact_result : mg "exact_result" = some (.ref f_exact_result)
  k_exact_result : PySem.W.keepIn K (.ref f_exact_result) = true
  f__bitwise : Addr
  fd__bitwise : FuncData
  F__bitwise : Fun K "_bitwise" "_bitwise" s__bitwise f__bitwise fd__bitwise
  b__bitwise : Binds K fd__bitwise ["name", "x", "y"] []
  g__bitwise : mg "_bitwise" = some (.ref f__bitwise)
  k__bitwise : PySem.W.keepIn K (.ref f__bitwise) = true
  f_is_word : Addr
  fd_is_word : FuncData
  F_is_word : Fun K "is_word" "is_word" s_is_word f_is_word fd_is_word
  b_is_word : Binds K fd_is_word ["value", "words"] []
  g_is_word : mg "is_word" = some (.ref f_is_word)
  k_is_word : PySem.W.keepIn K (.ref f_is_word) = true
  f_check_word : Addr
  fd_check_word : FuncData
  F_check_word : Fun K "check_word" "check_word" s_check_word f_check_word fd_check_word
  b_check_word : Binds K fd_check_word ["word", "words", "argument"] []
  g_check_word : mg "check_word" = some (.ref f_check_word)
  k_check_word : PySem.W.keepIn K (.ref f_check_word) = true
  f_Kind___init__ : Addr
  fd_Kind___init__ : FuncData
  F_Kind___init__ : Fun K "__init__" "Kind.__init__" s_Kind___init__ f_Kind___init__ fd_Kind___init__
  b_Kind___init__ : Binds K fd_Kind___init__ ["self", "bits", "is_signed"] []
  f_check_kind : Addr
  fd_check_kind : FuncData
  F_check_kind : Fun K "check_kind" "check_kind" s_check_kind f_check_kind fd_check_kind
  b_check_kind : Binds K fd_check_kind ["kind"] []
  g_check_kind : mg "check_kind" = some (.ref f_check_kind)
  k_check_kind : PySem.W.keepIn K (.ref f_check_kind) = true
  f_check_value : Addr
  fd_check_value : FuncData
  F_check_value : Fun K "check_value" "check_value" s_check_value f_check_value fd_check_value
  b_check_value : Binds K fd_check_value ["kind", "x", "argument"] []
  g_check_value : mg "check_value" = some (.ref f_check_value)
  k_check_value : PySem.W.keepIn K (.ref f_check_value) = true
  f_least : Addr
  fd_least : FuncData
  F_least : Fun K "least" "least" s_least f_least fd_least
  b_least : Binds K fd_least ["kind"] []
  g_least : mg "least" = some (.ref f_least)
  k_least : PySem.W.keepIn K (.ref f_least) = true
  f_greatest : Addr
  fd_greatest : FuncData
  F_greatest : Fun K "greatest" "greatest" s_greatest f_greatest fd_greatest
  b_greatest : Binds K fd_greatest ["kind"] []
  g_greatest : mg "greatest" = some (.ref f_greatest)
  k_greatest : PySem.W.keepIn K (.ref f_greatest) = true
  f_is_value : Addr
  fd_is_value : FuncData
  F_is_value : Fun K "is_value" "is_value" s_is_value f_is_value fd_is_value
  b_is_value : Binds K fd_is_value ["kind", "x"] []
  g_is_value : mg "is_value" = some (.ref f_is_value)
  k_is_value : PySem.W.keepIn K (.ref f_is_value) = true
  f_wrapped : Addr
  fd_wrapped : FuncData
  F_wrapped : Fun K "wrapped" "wrapped" s_wrapped f_wrapped fd_wrapped
  b_wrapped : Binds K fd_wrapped ["kind", "n"] []
  g_wrapped : mg "wrapped" = some (.ref f_wrapped)
  k_wrapped : PySem.W.keepIn K (.ref f_wrapped) = true
  f__check_operation : Addr
  fd__check_operation : FuncData
  F__check_operation : Fun K "_check_operation" "_check_operation" s__check_operation f__check_operation fd__check_operation
  b__check_operation : Binds K fd__check_operation ["kind", "names", "name", "x", "y"] []
  g__check_operation : mg "_check_operation" = some (.ref f__check_operation)
  k__check_operation : PySem.W.keepIn K (.ref f__check_operation) = true
  f_operate : Addr
  fd_operate : FuncData
  F_operate : Fun K "operate" "operate" s_operate f_operate fd_operate
  b_operate : Binds K fd_operate ["kind", "name", "x", "y"] []
  g_operate : mg "operate" = some (.ref f_operate)
  k_operate : PySem.W.keepIn K (.ref f_operate) = true
  f_overflows : Addr
  fd_overflows : FuncData
  F_overflows : Fun K "overflows" "overflows" s_overflows f_overflows fd_overflows
  b_overflows : Binds K fd_overflows ["kind", "name", "x", "y"] []
  g_overflows : mg "overflows" = some (.ref f_overflows)
  k_overflows : PySem.W.keepIn K (.ref f_overflows) = true
  f_quotient_total : Addr
  fd_quotient_total : FuncData
  F_quotient_total : Fun K "quotient_total" "quotient_total" s_quotient_total f_quotient_total fd_quotient_total
  b_quotient_total : Binds K fd_quotient_total ["line", "size", "first", "last"] []
  g_quotient_total : mg "quotient_total" = some (.ref f_quotient_total)
  k_quotient_total : PySem.W.keepIn K (.ref f_quotient_total) = true
  f_total_between : Addr
  fd_total_between : FuncData
  F_total_between : Fun K "total_between" "total_between" s_total_between f_total_between fd_total_between
  b_total_between : Binds K fd_total_between ["line", "size", "first", "last", "low", "high"] []
  g_total_between : mg "total_between" = some (.ref f_total_between)
  k_total_between : PySem.W.keepIn K (.ref f_total_between) = true
  f_check_line : Addr
  fd_check_line : FuncData
  F_check_line : Fun K "check_line" "check_line" s_check_line f_check_line fd_check_line
  b_check_line : Binds K fd_check_line ["line", "argument"] []
  g_check_line : mg "check_line" = some (.ref f_check_line)
  k_check_line : PySem.W.keepIn K (.ref f_check_line) = true
  f_check_range : Addr
  fd_check_range : FuncData
  F_check_range : Fun K "check_range" "check_range" s_check_range f_check_range fd_check_range
  b_check_range : Binds K fd_check_range ["first", "last"] []
  g_check_range : mg "check_range" = some (.ref f_check_range)
  k_check_range : PySem.W.keepIn K (.ref f_check_range) = true
  f__check : Addr
  fd__check : FuncData
  F__check : Fun K "_check" "_check" s__check f__check fd__check
  b__check : Binds K fd__check ["kind", "line", "first", "last"] []
  g__check : mg "_check" = some (.ref f__check)
  k__check : PySem.W.keepIn K (.ref f__check) = true
  f__check_within : Addr
  fd__check_within : FuncData
  F__check_within : Fun K "_check_within" "_check_within" s__check_within f__check_within fd__check_within
  b__check_within : Binds K fd__check_within ["kind", "line", "first", "last", "low", "high"] []
  g__check_within : mg "_check_within" = some (.ref f__check_within)
  k__check_within : PySem.W.keepIn K (.ref f__check_within) = true
  f__total : Addr
  fd__total : FuncData
  F__total : Fun K "_total" "_total" s__total f__total fd__total
  b__total : Binds K fd__total ["kind", "line", "first", "last", "low", "high"] []
  g__total : mg "_total" = some (.ref f__total)
  k__total : PySem.W.keepIn K (.ref f__total) = true
  f_total_within : Addr
  fd_total_within : FuncData
  F_total_within : Fun K "total_within" "total_within" s_total_within f_total_within fd_total_within
  b_total_within : Binds K fd_total_within ["kind", "line", "first", "last", "low", "high"] []
  g_total_within : mg "total_within" = some (.ref f_total_within)
  k_total_within : PySem.W.keepIn K (.ref f_total_within) = true
  f__count : Addr
  fd__count : FuncData
  F__count : Fun K "_count" "_count" s__count f__count fd__count
  b__count : Binds K fd__count ["first", "last"] []
  g__count : mg "_count" = some (.ref f__count)
  k__count : PySem.W.keepIn K (.ref f__count) = true
  f__factors_between : Addr
  fd__factors_between : FuncData
  F__factors_between : Fun K "_factors_between" "_factors_between" s__factors_between f__factors_between fd__factors_between
  b__factors_between : Binds K fd__factors_between ["c", "low", "high"] []
  g__factors_between : mg "_factors_between" = some (.ref f__factors_between)
  k__factors_between : PySem.W.keepIn K (.ref f__factors_between) = true
  f__safe_values : Addr
  fd__safe_values : FuncData
  F__safe_values : Fun K "_safe_values" "_safe_values" s__safe_values f__safe_values fd__safe_values
  b__safe_values : Binds K fd__safe_values ["kind", "name", "c"] []
  g__safe_values : mg "_safe_values" = some (.ref f__safe_values)
  k__safe_values : PySem.W.keepIn K (.ref f__safe_values) = true
  f__check_constant : Addr
  fd__check_constant : FuncData
  F__check_constant : Fun K "_check_constant" "_check_constant" s__check_constant f__check_constant fd__check_constant
  b__check_constant : Binds K fd__check_constant ["kind", "name", "c"] []
  g__check_constant : mg "_check_constant" = some (.ref f__check_constant)
  k__check_constant : PySem.W.keepIn K (.ref f__check_constant) = true
  f_overflow_total : Addr
  fd_overflow_total : FuncData
  F_overflow_total : Fun K "overflow_total" "overflow_total" s_overflow_total f_overflow_total fd_overflow_total
  b_overflow_total : Binds K fd_overflow_total ["kind", "name", "c", "first", "last"] []
  g_overflow_total : mg "overflow_total" = some (.ref f_overflow_total)
  k_overflow_total : PySem.W.keepIn K (.ref f_overflow_total) = true
  f_safe_values : Addr
  fd_safe_values : FuncData
  F_safe_values : Fun K "safe_values" "safe_values" s_safe_values f_safe_values fd_safe_values
  b_safe_values : Binds K fd_safe_values ["kind", "name", "c"] []
  g_safe_values : mg "safe_values" = some (.ref f_safe_values)
  k_safe_values : PySem.W.keepIn K (.ref f_safe_values) = true
  f__check_span : Addr
  fd__check_span : FuncData
  F__check_span : Fun K "_check_span" "_check_span" s__check_span f__check_span fd__check_span
  b__check_span : Binds K fd__check_span ["kind", "span", "argument"] []
  g__check_span : mg "_check_span" = some (.ref f__check_span)
  k__check_span : PySem.W.keepIn K (.ref f__check_span) = true
  f__check_pairs : Addr
  fd__check_pairs : FuncData
  F__check_pairs : Fun K "_check_pairs" "_check_pairs" s__check_pairs f__check_pairs fd__check_pairs
  b__check_pairs : Binds K fd__check_pairs ["kind", "name", "xs", "ys"] []
  g__check_pairs : mg "_check_pairs" = some (.ref f__check_pairs)
  k__check_pairs : PySem.W.keepIn K (.ref f__check_pairs) = true
  f__corner : Addr
  fd__corner : FuncData
  F__corner : Fun K "_corner" "_corner" s__corner f__corner fd__corner
  b__corner : Binds K fd__corner ["height"] []
  g__corner : mg "_corner" = some (.ref f__corner)
  k__corner : PySem.W.keepIn K (.ref f__corner) = true
  f__sums_up_to : Addr
  fd__sums_up_to : FuncData
  F__sums_up_to : Fun K "_sums_up_to" "_sums_up_to" s__sums_up_to f__sums_up_to fd__sums_up_to
  b__sums_up_to : Binds K fd__sums_up_to ["xs", "ys", "most"] []
  g__sums_up_to : mg "_sums_up_to" = some (.ref f__sums_up_to)
  k__sums_up_to : PySem.W.keepIn K (.ref f__sums_up_to) = true
  f__pairs_between : Addr
  fd__pairs_between : FuncData
  F__pairs_between : Fun K "_pairs_between" "_pairs_between" s__pairs_between f__pairs_between fd__pairs_between
  b__pairs_between : Binds K fd__pairs_between ["name", "xs", "ys", "low", "high"] []
  g__pairs_between : mg "_pairs_between" = some (.ref f__pairs_between)
  k__pairs_between : PySem.W.keepIn K (.ref f__pairs_between) = true
  f_pair_overflows : Addr
  fd_pair_overflows : FuncData
  F_pair_overflows : Fun K "pair_overflows" "pair_overflows" s_pair_overflows f_pair_overflows fd_pair_overflows
  b_pair_overflows : Binds K fd_pair_overflows ["kind", "name", "xs", "ys"] []
  g_pair_overflows : mg "pair_overflows" = some (.ref f_pair_overflows)
  k_pair_overflows : PySem.W.keepIn K (.ref f_pair_overflows) = true
  f_pairs_within : Addr
  fd_pairs_within : FuncData
  F_pairs_within : Fun K "pairs_within" "pairs_within" s_pairs_within f_pairs_within fd_pairs_within
  b_pairs_within : Binds K fd_pairs_within ["kind", "name", "xs", "ys", "low", "high"] []
  g_pairs_within : mg "pairs_within" = some (.ref f_pairs_within)
  k_pairs_within : PySem.W.keepIn K (.ref f_pairs_within) = true
  f__law_deck : Addr
  fd__law_deck : FuncData
  F__law_deck : Fun K "_law_deck" "_law_deck" s__law_deck f__law_deck fd__law_deck
  b__law_deck : Binds K fd__law_deck ["_law_cell"] []
  g__law_deck : mg "_law_deck" = some (.ref f__law_deck)
  k__law_deck : PySem.W.keepIn K (.ref f__law_deck) = true
  f__law_deal : Addr
  fd__law_deal : FuncData
  F__law_deal : Fun K "_law_deal" "_law_deal" s__law_deal f__law_deal fd__law_deal
  b__law_deal : Binds K fd__law_deal ["_law_deck_here", "_law_many"] []
  g__law_deal : mg "_law_deal" = some (.ref f__law_deal)
  k__law_deal : PySem.W.keepIn K (.ref f__law_deal) = true
  f__law_choice : Addr
  fd__law_choice : FuncData
  F__law_choice : Fun K "_law_choice" "_law_choice" s__law_choice f__law_choice fd__law_choice
  b__law_choice : Binds K fd__law_choice ["_law_deck_here", "_law_some"] []
  g__law_choice : mg "_law_choice" = some (.ref f__law_choice)
  k__law_choice : PySem.W.keepIn K (.ref f__law_choice) = true
  f__law_great : Addr
  fd__law_great : FuncData
  F__law_great : Fun K "_law_great" "_law_great" s__law_great f__law_great fd__law_great
  b__law_great : Binds K fd__law_great ["_law_deck_here", "_law_most"] []
  g__law_great : mg "_law_great" = some (.ref f__law_great)
  k__law_great : PySem.W.keepIn K (.ref f__law_great) = true
  f__law_values_right : Addr
  fd__law_values_right : FuncData
  F__law_values_right : Fun K "_law_values_right" "_law_values_right" s__law_values_right f__law_values_right fd__law_values_right
  b__law_values_right : Binds K fd__law_values_right ["_law_own", "_law_least_one", "_law_size", "_law_one"] []
  g__law_values_right : mg "_law_values_right" = some (.ref f__law_values_right)
  k__law_values_right : PySem.W.keepIn K (.ref f__law_values_right) = true
  f__law_span : Addr
  fd__law_span : FuncData
  F__law_span : Fun K "_law_span" "_law_span" s__law_span f__law_span fd__law_span
  b__law_span : Binds K fd__law_span ["_law_deck_here", "_law_least_one", "_law_size"] []
  g__law_span : mg "_law_span" = some (.ref f__law_span)
  k__law_span : PySem.W.keepIn K (.ref f__law_span) = true
  f__law_pairs_right : Addr
  fd__law_pairs_right : FuncData
  F__law_pairs_right : Fun K "_law_pairs_right" "_law_pairs_right" s__law_pairs_right f__law_pairs_right fd__law_pairs_right
  b__law_pairs_right : Binds K fd__law_pairs_right ["_law_deck_here", "_law_own", "_law_least_one", "_law_size"] []
  g__law_pairs_right : mg "_law_pairs_right" = some (.ref f__law_pairs_right)
  k__law_pairs_right : PySem.W.keepIn K (.ref f__law_pairs_right) = true
  f__law_great_values_right : Addr
  fd__law_great_values_right : FuncData
  F__law_great_values_right : Fun K "_law_great_values_right" "_law_great_values_right" s__law_great_values_right f__law_great_values_right fd__law_great_values_right
  b__law_great_values_right : Binds K fd__law_great_values_right ["_law_deck_here", "_law_own", "_law_least_one", "_law_size"] []
  g__law_great_values_right : mg "_law_great_values_right" = some (.ref f__law_great_values_right)
  k__law_great_values_right : PySem.W.keepIn K (.ref f__law_great_values_right) = true
  f__law_points_right : Addr
  fd__law_points_right : FuncData
  F__law_points_right : Fun K "_law_points_right" "_law_points_right" s__law_points_right f__law_points_right fd__law_points_right
  b__law_points_right : Binds K fd__law_points_right ["_law_deck_here", "_law_own", "_law_least_one", "_law_size"] []
  g__law_points_right : mg "_law_points_right" = some (.ref f__law_points_right)
  k__law_points_right : PySem.W.keepIn K (.ref f__law_points_right) = true
  f__law_great_pairs_right : Addr
  fd__law_great_pairs_right : FuncData
  F__law_great_pairs_right : Fun K "_law_great_pairs_right" "_law_great_pairs_right" s__law_great_pairs_right f__law_great_pairs_right fd__law_great_pairs_right
  b__law_great_pairs_right : Binds K fd__law_great_pairs_right ["_law_deck_here", "_law_own", "_law_least_one", "_law_size"] []
  g__law_great_pairs_right : mg "_law_great_pairs_right" = some (.ref f__law_great_pairs_right)
  k__law_great_pairs_right : PySem.W.keepIn K (.ref f__law_great_pairs_right) = true
  f_law : Addr
  fd_law : FuncData
  F_law : Fun K "law" "law" s_law f_law fd_law
  b_law : Binds K fd_law ["_law_script"] []
  g_law : mg "law" = some (.ref f_law)
  k_law : PySem.W.keepIn K (.ref f_law) = true
  mk_Kind : Mk K C_Kind f_Kind___init__
  kb_pair_overflows_0_ys_xs_name_kind : KBinds K fd_pair_overflows ["kind", "name", "xs", "ys"] ["ys", "xs", "name", "kind"] p_kb_pair_overflows_0_ys_xs_name_kind p_kb_pair_overflows_0_ys_xs_name_kind
  kb_pairs_within_0_high_low_ys_xs_name_kind : KBinds K fd_pairs_within ["kind", "name", "xs", "ys", "low", "high"] ["high", "low", "ys", "xs", "name", "kind"] p_kb_pairs_within_0_high_low_ys_xs_name_kind p_kb_pairs_within_0_high_low_ys_xs_name_kind
  kb_overflow_total_0_last_first_c_name_kind : KBinds K fd_overflow_total ["kind", "name", "c", "first", "last"] ["last", "first", "c", "name", "kind"] p_kb_overflow_total_0_last_first_c_name_kind p_kb_overflow_total_0_last_first_c_name_kind
  kb_safe_values_0_c_name_kind : KBinds K fd_safe_values ["kind", "name", "c"] ["c", "name", "kind"] p_kb_safe_values_0_c_name_kind p_kb_safe_values_0_c_name_kind
  t_BEYOND_SIXTY_DIGITS : Tok
  g_BEYOND_SIXTY_DIGITS : mg "BEYOND_SIXTY_DIGITS" = some (.int 1000000000000000000000000000000000000000000000000000000000000 t_BEYOND_SIXTY_DIGITS)
  a_OPERATIONS : Addr
  g_OPERATIONS : mg "OPERATIONS" = some (.ref a_OPERATIONS)
  q_OPERATIONS : ∀ H : Hp, SqT K H a_OPERATIONS [.str "add", .str "subtract", .str "multiply", .str "divide", .str "remainder", .str "and", .str "or", .str "xor", .str "left", .str "right"]
  a_OVERFLOWING : Addr
  g_OVERFLOWING : mg "OVERFLOWING" = some (.ref a_OVERFLOWING)
  q_OVERFLOWING : ∀ H : Hp, SqT K H a_OVERFLOWING [.str "add", .str "subtract", .str "multiply", .str "divide", .str "left"]
  a_DIVISIONS : Addr
  g_DIVISIONS : mg "DIVISIONS" = some (.ref a_DIVISIONS)
  q_DIVISIONS : ∀ H : Hp, SqT K H a_DIVISIONS [.str "divide", .str "remainder"]
  a_SHIFTS : Addr
  g_SHIFTS : mg "SHIFTS" = some (.ref a_SHIFTS)
  q_SHIFTS : ∀ H : Hp, SqT K H a_SHIFTS [.str "left", .str "right"]
  t_MOST_BITS : Tok
  g_MOST_BITS : mg "MOST_BITS" = some (.int 128 t_MOST_BITS)
  a_VALUE_OPERATIONS : Addr
  g_VALUE_OPERATIONS : mg "VALUE_OPERATIONS" = some (.ref a_VALUE_OPERATIONS)
  q_VALUE_OPERATIONS : ∀ H : Hp, SqT K H a_VALUE_OPERATIONS [.str "add", .str "subtract", .str "multiply"]
  a_PAIR_OPERATIONS : Addr
  g_PAIR_OPERATIONS : mg "PAIR_OPERATIONS" = some (.ref a_PAIR_OPERATIONS)
  q_PAIR_OPERATIONS : ∀ H : Hp, SqT K H a_PAIR_OPERATIONS [.str "add", .str "subtract"]
  n_abs : mg "abs" = none
  n_bool : mg "bool" = none
  n_divmod : mg "divmod" = none
  n_int : mg "int" = none
  n_isinstance : mg "isinstance" = none
  n_len : mg "len" = none
  n_list : mg "list" = none
  n_max : mg "max" = none
  n_min : mg "min" = none
  n_range : mg "range" = none
  n_sorted : mg "sorted" = none
  n_str : mg "str" = none
  n_sum : mg "sum" = none
  n_tuple : mg "tuple" = none
  bl_law : ∀ (s : Shared) (v : Value), BindsTo s fd_law ⟨[v], []⟩ [("_law_script", v)]

section
variable {K : PySem.W.Frag} {mg : Str → Option Value} {H : Hp} {Q : VK} {C p : Addr} {wd : Nat} {s : Bool}
theorem w_isi {v : V} {t c : String} {b : Bool} (ty : TyX K H v (.type t)) (e : kitB t c = some b) (q : Q (.bl b) H) : rIsi K [v, .ty c] H Q := ⟨_, _, _, _, b, rfl, .ty c, ty, kit_ty e, q⟩
theorem w_isK (T : Txt K mg) (k : Kd T.C_Kind H p wd s) (q : Q (.bl true) H) : rIsi K [.ref p, .ref T.C_Kind] H Q := by
  obtain ⟨⟨dx, e⟩, _, _⟩ := k
  exact ⟨_, _, _, _, true, rfl, .own _, .base (.ins e T.cl_Kind T.ia_Kind T.ib_Kind T.ic_Kind T.id_Kind), (by unfold PySem.W.kitOne; rw [if_pos (by simp)]), q⟩
theorem w_fb {i : Nat} {σ : L2.St} (T : Txt K mg) (hs : σ[i]? = some (some (.ref p))) (k : Kd T.C_Kind H p wd s) (q : Q (.int (wd : Int)) H) : tFld K (tVar i) "bits" σ H Q := by
  obtain ⟨⟨dx, e⟩, _, _⟩ := k
  exact ⟨_, hs, p, _, dx, _, _, rfl, e, T.cl_Kind, T.na_Kind_bits, kf_bits _ _, q⟩
theorem w_fs {i : Nat} {σ : L2.St} (T : Txt K mg) (hs : σ[i]? = some (some (.ref p))) (k : Kd T.C_Kind H p wd s) (q : Q (.bl s) H) : tFld K (tVar i) "is_signed" σ H Q := by
  obtain ⟨⟨dx, e⟩, _, _⟩ := k
  exact ⟨_, hs, p, _, dx, _, _, rfl, e, T.cl_Kind, T.na_Kind_is_signed, kf_sign _ _, q⟩
end


section
variable {K : PySem.W.Frag} {H : Hp} {σ : L2.St} {Q : VK}
theorem w_iTup {tl : TE} {R : It → Hp → Prop} (q : tl σ H fun x H1 => ∃ a, x = .ref a ∧ (∃ xs, SqT K H1 a xs) ∧ R (Itt K a) H1) : iTup K tl σ H R := q
theorem w_eqD {x y : V} {d e : PyData} (hx : Dp K H x d) (hy : Dp K H y e) (sd : SeqAt.shaped d = true) (se : SeqAt.shaped e = true) (q : Q (.bl (PyData.eqv d e)) H) : rEqD K x y H Q := ⟨d, e, hx, hy, sd, se, q⟩
theorem w_neD {x y : V} {d e : PyData} (hx : Dp K H x d) (hy : Dp K H y e) (sd : SeqAt.shaped d = true) (se : SeqAt.shaped e = true) (q : Q (.bl (!PyData.eqv d e)) H) : rNeD K x y H Q := ⟨d, e, hx, hy, sd, se, q⟩
end

section
variable {K : PySem.W.Frag} {H : Hp} {σ : L2.St} {Q : VK}
theorem w_neL {a b : Addr} {is js : List Int} (ha : H a = some (.lst (is.map V.int))) (hb : H b = some (.lst (js.map V.int))) (q : Q (.bl (!decide (is = js))) H) : rNeD K (.ref a) (.ref b) H Q :=
  ⟨_, _, .lst (SqL.of ha) (dp_ints is), .lst (SqL.of hb) (dp_ints js), shaped_ints is, shaped_ints js, by
    rw [show PyData.eqv (.list (is.map PyData.int)) (.list (js.map PyData.int)) = PyData.eqvAll (is.map PyData.int) (js.map PyData.int) from by simp only [PyData.eqv], eqv_ints]
    exact q⟩
theorem w_eqL {a b : Addr} {is js : List Int} (ha : H a = some (.lst (is.map V.int))) (hb : H b = some (.lst (js.map V.int))) (q : Q (.bl (decide (is = js))) H) : rEqD K (.ref a) (.ref b) H Q :=
  ⟨_, _, .lst (SqL.of ha) (dp_ints is), .lst (SqL.of hb) (dp_ints js), shaped_ints is, shaped_ints js, by
    rw [show PyData.eqv (.list (is.map PyData.int)) (.list (js.map PyData.int)) = PyData.eqvAll (is.map PyData.int) (js.map PyData.int) from by simp only [PyData.eqv], eqv_ints]
    exact q⟩
theorem w_vals {c : Prop} [Decidable c] {ta tb : TE} (R : V → Hp → Prop) (h1 : c → ∀ Q : VK, (∀ x H', R x H' → Q x H') → ta σ H Q) (h2 : ¬ c → ∀ Q : VK, (∀ x H', R x H' → Q x H') → tb σ H Q) (q : ∀ x H', R x H' → Q x H') : if decide c = true then ta σ H Q else tb σ H Q := w_dec (fun z => h1 z Q q) (fun z => h2 z Q q)
theorem w_gunl {n : Nat} {t : TGs} {a : Addr} {xs : List V} {Q : L2.St → Hp → Prop} (h : H a = some (.lst xs)) (l : xs.length = n) (q : t xs σ H Q) : gUnl K n t (.ref a) σ H Q := ⟨a, xs, rfl, SqL.of h, l, q⟩
theorem w_iRngL {ta : TA} {R : It → Hp → Prop} (q : ta σ H fun vs H1 => ∃ i j : Int, vs = [.int i, .int j] ∧ R (Itr i (j - i).toNat) H1) : iRngL ta σ H R := q
theorem w_sum {a : Addr} {ns : List Int} (h : H a = some (.lst (ns.map V.int))) (q : Q (.int ns.sum) H) : rSum K [.ref a] H Q := ⟨a, ns, rfl, SqL.of h, q⟩
theorem w_neOpt {x y : V} (hx : x = .non ∨ ∃ i, x = .int i) (hy : y = .non ∨ ∃ i, y = .int i) (q : Q (.bl (!decide (x = y))) H) : rNe x y H Q := ⟨by
  rcases hx with rfl | ⟨i, rfl⟩ <;> rcases hy with rfl | ⟨j, rfl⟩ <;> rfl, q⟩
theorem w_eqOpt {x y : V} (hx : x = .non ∨ ∃ i, x = .int i) (hy : y = .non ∨ ∃ i, y = .int i) (q : Q (.bl (decide (x = y))) H) : rEq x y H Q := ⟨by
  rcases hx with rfl | ⟨i, rfl⟩ <;> rcases hy with rfl | ⟨j, rfl⟩ <;> rfl, q⟩
end
theorem at_m1 {xs : List V} {v : V} (h : xs[xs.length - 1]? = some v) : atI xs (-1) = some v := by
  have hne : xs ≠ [] := fun z => by rw [z] at h; cases h
  have e := (List.dropLast_concat_getLast hne).symm
  rw [e] at h ⊢
  rw [List.length_append, List.length_singleton, Nat.add_sub_cancel, List.getElem?_append_right (Nat.le_refl _), Nat.sub_self] at h
  rw [← Option.some.inj h]
  exact atI_last _ _
theorem FirstOf.opt {p : Int → Bool} {f l : Int} {v : V} (h : FirstOf p f l v) : v = .non ∨ ∃ i, v = .int i := by
  rcases h with ⟨h, _⟩ | ⟨x, h, _⟩
  · exact .inl h
  · exact .inr ⟨x, h⟩
theorem LastOf.opt {p : Int → Bool} {f l : Int} {v : V} (h : LastOf p f l v) : v = .non ∨ ∃ i, v = .int i := by
  rcases h with ⟨h, _⟩ | ⟨x, h, _⟩
  · exact .inl h
  · exact .inr ⟨x, h⟩
theorem first_nil {p : Int → Bool} {f l : Int} {n : Nat} {v : V} (h : l - f + 1 = n) (e : wl p f n = []) (hf : FirstOf p f l v) : v = .non := by
  rcases hf with ⟨h1, _⟩ | ⟨x, _, x1, x2, px, _⟩
  · exact h1
  · have : x ∈ wl p f n := wl_mem.mpr ⟨x1, by omega, px⟩
    rw [e] at this; cases this
theorem last_nil {p : Int → Bool} {f l : Int} {n : Nat} {v : V} (h : l - f + 1 = n) (e : wl p f n = []) (hf : LastOf p f l v) : v = .non := by
  rcases hf with ⟨h1, _⟩ | ⟨x, _, x1, x2, px, _⟩
  · exact h1
  · have : x ∈ wl p f n := wl_mem.mpr ⟨x1, by omega, px⟩
    rw [e] at this; cases this
theorem first_get {p : Int → Bool} {f l : Int} {n : Nat} {v : V} {y : Int} (h : l - f + 1 = n) (e : (wl p f n)[0]? = some y) (hf : FirstOf p f l v) : v = .int y := by
  rcases hf with ⟨_, h0⟩ | ⟨x, rfl, x1, x2, px, x3⟩
  · rw [(wl_nil h).mpr h0] at e; cases e
  · rw [wl_at e x1 px x3]
theorem last_get {p : Int → Bool} {f l : Int} {n : Nat} {v : V} {y : Int} (h : l - f + 1 = n) (e : (wl p f n)[(wl p f n).length - 1]? = some y) (hf : LastOf p f l v) : v = .int y := by
  rcases hf with ⟨_, h0⟩ | ⟨x, rfl, x1, x2, px, x3⟩
  · rw [(wl_nil h).mpr h0] at e; cases e
  · have t := wl_tot (p := p) h
    have s := tot_split p (first := f) (mid := x) (last := l) (by omega) x2
    rw [x3, tot_step p x1, if_pos px] at s
    have nn := tot_nonneg p f (x - 1)
    have yj : tot p f (x - 1) = (((wl p f n).length - 1 : Nat) : Int) := by omega
    rw [wl_at e x1 px yj]

theorem in_div (o : Op) : inV (.str o.nm) [.str "divide", .str "remainder"] = decide (o = .div ∨ o = .rem) := by cases o <;> decide +kernel
theorem in_shift (o : Op) : inV (.str o.nm) [.str "left", .str "right"] = decide (o = .left ∨ o = .right) := by cases o <;> decide +kernel
theorem in_ops (o : Op) : inV (.str o.nm) [.str "add", .str "subtract", .str "multiply", .str "divide", .str "remainder", .str "and", .str "or", .str "xor", .str "left", .str "right"] = true := by cases o <;> decide +kernel
theorem in_over {o : Op} (h : o = .add ∨ o = .sub ∨ o = .mul ∨ o = .div ∨ o = .left) : inV (.str o.nm) [.str "add", .str "subtract", .str "multiply", .str "divide", .str "left"] = true := by
  rcases h with rfl | rfl | rfl | rfl | rfl <;> decide +kernel
theorem b129 {w : Nat} {s : Bool} {x : Int} (hw : w ≤ 128) (h1 : loK w s ≤ x) (h2 : x ≤ hiK w s) : x.natAbs < 2 ^ 129 := lt_130 hw (val_bits h1 h2)

def rTupOf (K : PySem.W.Frag) : List V → Hp → VK → Prop := fun xs H Q => ∃ p ys, xs = [.ref p] ∧ ((SqL K H p ys ∧ ∀ l, H l = none → Q (.ref l) (upd H l (.tup ys))) ∨ (SqT K H p ys ∧ Q (.ref p) H))
theorem w_tupOf {K : PySem.W.Frag} {H : Hp} {Q : VK} {a : Addr} {xs : List V} (h : H a = some (.lst xs)) (q : ∀ l, H l = none → Q (.ref l) (upd H l (.tup xs))) : rTupOf K [.ref a] H Q := ⟨a, xs, rfl, .inl ⟨SqL.of h, q⟩⟩
theorem w_notIn {K : PySem.W.Frag} {H : Hp} {Q : VK} {a : Addr} {x : V} {xs : List V} (h : H a = some (.lst xs)) (f1 : flatV x = true) (f2 : xs.all flatV = true) (q : Q (.bl (!inV x xs)) H) : rIn K true x (.ref a) H Q := ⟨a, xs, rfl, .inl (SqL.of h), f1, f2, q⟩

section
variable {K : PySem.W.Frag} {H : Hp} {Q : VK}
theorem ne_pair {q r : Addr} {n l : Int} (h1 : H q = some (.tup [.int n, .int l])) (h2 : H r = some (.tup [.int n, .int l])) (k : Q (.bl false) H) : rNeD K (.ref q) (.ref r) H Q := by
  refine w_neD (dp_pair h1) (dp_pair h2) (sh_pair _ _) (sh_pair _ _) ?_
  rw [eqv_pair]; exact k
theorem w_iRng3 {σ : L2.St} {ta : TA} {R : It → Hp → Prop} (q : ta σ H fun vs H1 => ∃ (i j c : Int) (n : Nat), vs = [.int i, .int j, .int c] ∧ RgC i j c n ∧ R (Itc i c n) H1) : iRng3 ta σ H R := q
theorem eq_pair {q r : Addr} {n l : Int} (h1 : H q = some (.tup [.int n, .int l])) (h2 : H r = some (.tup [.int n, .int l])) (k : Q (.bl true) H) : rEqD K (.ref q) (.ref r) H Q := by
  refine w_eqD (dp_pair h1) (dp_pair h2) (sh_pair _ _) (sh_pair _ _) ?_
  rw [eqv_pair]; exact k
end

theorem w_rg2 {σ : L2.St} {H : Hp} {ta tb : TE} {P : Int → Int → Hp → Prop} (q : ta σ H fun x H1 => tb σ H1 fun y H2 => ∃ i j, x = .int i ∧ y = .int j ∧ P i j H2) : tRg2 ta tb σ H P := q
theorem kbinds_of {K : PySem.W.Frag} {x qual : Str} {st : Stmt} {f : Addr} {fd : FuncData} {ps ks : List Str} {g : List Value → List Value → List Value} {gV : List V → List V → List V} (F : Fun K x qual st f fd)
    (h : ∀ (kV doc pm : Value) (an : Option Addr) (cdv ct : Value) (us ws : List Value), (g us ws).length = ps.length → bindArgs (PySem.W.fnOf x qual (defArgs st) (defBody st) (defScope st) .none kV doc pm an cdv ct) ⟨us, ks.zip ws⟩ = pure (ps.zip (g us ws)))
    (hrel : ∀ {vs : List V} {us : List Value} {zs : List V} {ws : List Value}, Vals vs us → Vals zs ws → Vals (gV vs zs) (g us ws)) : KBinds K fd ps ks g gV := by
  obtain ⟨oc, od, kV, doc, pm, an, cdv, ct, osl, rfl, lk, hcd⟩ := F.ex
  exact ⟨fun s us ws _ hl => .of_eq (h kV doc pm an cdv ct us ws hl), hrel⟩
theorem rel_kb_pair_overflows_0_ys_xs_name_kind {vs : List V} {us : List Value} {zs : List V} {ws : List Value} (r : Vals vs us) (rz : Vals zs ws) : Vals (p_kb_pair_overflows_0_ys_xs_name_kind vs zs) (p_kb_pair_overflows_0_ys_xs_name_kind us ws) := by
  cases r with
  | cons _ _ => exact .nil
  | nil =>
    cases rz with
    | nil => exact .nil
    | cons k0 z0 =>
      cases z0 with
      | nil => exact .nil
      | cons k1 z1 =>
        cases z1 with
        | nil => exact .nil
        | cons k2 z2 =>
          cases z2 with
          | nil => exact .nil
          | cons k3 z3 =>
            cases z3 with
            | cons _ _ => exact .nil
            | nil => exact (.cons k3 (.cons k2 (.cons k1 (.cons k0 .nil))))
theorem rel_kb_pairs_within_0_high_low_ys_xs_name_kind {vs : List V} {us : List Value} {zs : List V} {ws : List Value} (r : Vals vs us) (rz : Vals zs ws) : Vals (p_kb_pairs_within_0_high_low_ys_xs_name_kind vs zs) (p_kb_pairs_within_0_high_low_ys_xs_name_kind us ws) := by
  cases r with
  | cons _ _ => exact .nil
  | nil =>
    cases rz with
    | nil => exact .nil
    | cons k0 z0 =>
      cases z0 with
      | nil => exact .nil
      | cons k1 z1 =>
        cases z1 with
        | nil => exact .nil
        | cons k2 z2 =>
          cases z2 with
          | nil => exact .nil
          | cons k3 z3 =>
            cases z3 with
            | nil => exact .nil
            | cons k4 z4 =>
              cases z4 with
              | nil => exact .nil
              | cons k5 z5 =>
                cases z5 with
                | cons _ _ => exact .nil
                | nil => exact (.cons k5 (.cons k4 (.cons k3 (.cons k2 (.cons k1 (.cons k0 .nil))))))
theorem rel_kb_overflow_total_0_last_first_c_name_kind {vs : List V} {us : List Value} {zs : List V} {ws : List Value} (r : Vals vs us) (rz : Vals zs ws) : Vals (p_kb_overflow_total_0_last_first_c_name_kind vs zs) (p_kb_overflow_total_0_last_first_c_name_kind us ws) := by
  cases r with
  | cons _ _ => exact .nil
  | nil =>
    cases rz with
    | nil => exact .nil
    | cons k0 z0 =>
      cases z0 with
      | nil => exact .nil
      | cons k1 z1 =>
        cases z1 with
        | nil => exact .nil
        | cons k2 z2 =>
          cases z2 with
          | nil => exact .nil
          | cons k3 z3 =>
            cases z3 with
            | nil => exact .nil
            | cons k4 z4 =>
              cases z4 with
              | cons _ _ => exact .nil
              | nil => exact (.cons k4 (.cons k3 (.cons k2 (.cons k1 (.cons k0 .nil)))))
theorem rel_kb_safe_values_0_c_name_kind {vs : List V} {us : List Value} {zs : List V} {ws : List Value} (r : Vals vs us) (rz : Vals zs ws) : Vals (p_kb_safe_values_0_c_name_kind vs zs) (p_kb_safe_values_0_c_name_kind us ws) := by
  cases r with
  | cons _ _ => exact .nil
  | nil =>
    cases rz with
    | nil => exact .nil
    | cons k0 z0 =>
      cases z0 with
      | nil => exact .nil
      | cons k1 z1 =>
        cases z1 with
        | nil => exact .nil
        | cons k2 z2 =>
          cases z2 with
          | cons _ _ => exact .nil
          | nil => exact (.cons k2 (.cons k1 (.cons k0 .nil)))
local macro_rules | `(tactic| walk_at "kq") => `(tactic| first
  | exact Fw.Kq.refl _
  | assumption
  | (refine Fw.Kq.new ?_ (by assumption); walk_at "kq")
  | (refine Fw.Kq.trans ?_ (by assumption); walk_at "kq")
  | (refine Fw.Kq.sm ?_ (by assumption); walk_at "kq")
  | (refine Fw.Kq.same ?_ (by assumption); walk_at "kq"))
def sp_is_integer (K : PySem.W.Frag) (C : Addr) (TS : List (Addr × Str)) : Sp := fun vs H Q _ => ∃ (v : V) (b : Bool), vs = [v] ∧ IntQ K H v b ∧ Q (.bl b) H
theorem ok_is_integer {P : Program} {w : World} {K : PySem.W.Frag} {mg : Str → Option Value} {base : Heap} (T : Txt K mg) : FnOk P w K mg base CX0 1 T.f_is_integer T.fd_is_integer ["value"] (sp_is_integer K T.C_Kind []) := by
  refine T.F_is_integer.ok sc_is_integer (fun vs H Q E h => ?_) (fun cdv A outer s H vs Q E hr h => ?_)
  · obtain ⟨v, b, rfl, _⟩ := h
    rfl
  · obtain ⟨v, b, rfl, h⟩ := h
    refine ⟨_, (pss_one (ps_ret (pe_and (pe_callB (id := "isinstance") (r := rIsi K) call_isi (by rfl) T.n_isinstance (by decide +kernel) (pa_cons (pv 0 (hv := Or.inl rfl)) (pa_cons (pe_bltn (v := .ty "int") (by rfl) T.n_int (by decide +kernel) rfl) pa_nil))) (pe_one (pe_not (pe_callB (id := "isinstance") (r := rIsi K) call_isi (by rfl) T.n_isinstance (by decide +kernel) (pa_cons (pv 0 (hv := Or.inl rfl)) (pa_cons (pe_bltn (v := .ty "bool") (by rfl) T.n_bool (by decide +kernel) rfl) pa_nil)))))))), ?_⟩
    try dsimp only [cxOf, Cx.nox, Cx.wish, Cx.blk]
    rw [show L2.start ["value"] [v] = [some (v)] from rfl]
    obtain ⟨⟨t, ty, e1, -, c, e2, e3⟩, k⟩ := h
    walk_at "rd"
    refine w_isi ty e1 ?_
    walk_at "rd"
    cases hb : (b || t == "bool") with
    | false =>
      rw [hb] at e3
      have e3 : false = b := e3
      refine iteF ?_
      rw [e3]; exact k
    | true =>
      rw [hb] at e3
      refine iteT ?_
      walk_at "rd"
      refine w_isi ty e2 ?_
      walk_at "rd"
      have e4 : (!c) = b := e3
      rw [e4]; exact k
def sp_check_integer (K : PySem.W.Frag) (C : Addr) (TS : List (Addr × Str)) : Sp := fun vs H Q _ => ∃ (i : Int) (z : Str), vs = [.int i, .str z] ∧ Q .non H
theorem ok_check_integer {P : Program} {w : World} {K : PySem.W.Frag} {mg : Str → Option Value} {base : Heap} (T : Txt K mg) : FnOk P w K mg base CX0 2 T.f_check_integer T.fd_check_integer ["value", "argument"] (sp_check_integer K T.C_Kind []) := by
  have G_is_integer := ok_is_integer (P := P) (w := w) (base := base) T
  refine T.F_check_integer.ok sc_check_integer (fun vs H Q E h => ?_) (fun cdv A outer s H vs Q E hr h => ?_)
  · obtain ⟨i, z, rfl, _⟩ := h
    rfl
  · obtain ⟨i, z, rfl, h⟩ := h
    have hr_is_integer : Room 1 _ := hr.mono (by decide)
    refine ⟨_, (pss_one (ps_if (pt_not (pt_val (pe_call G_is_integer hr_is_integer rfl T.g_is_integer T.k_is_integer T.b_is_integer .nil pass0 (pa_cons (pv 0 (hv := Or.inl rfl)) pa_nil)))) (pss_one ps_never) pss_nil)), ?_⟩
    try dsimp only [cxOf, Cx.nox, Cx.wish, Cx.blk]
    rw [show L2.start ["value", "argument"] [.int i, .str z] = [some (.int i), some (.str z)] from rfl]
    walk_at "rd"
    refine ⟨.int i, true, rfl, IntQ.int i, ?_⟩
    walk_at "rd"
    refine iteF ?_
    walk_at "rd"
    exact h
def sp_is_sixty_digits (K : PySem.W.Frag) (C : Addr) (TS : List (Addr × Str)) : Sp := fun vs H Q _ => ∃ (i : Int), vs = [.int i] ∧ Q (.bl (decide (-(10 ^ 60) < i ∧ i < 10 ^ 60))) H
theorem ok_is_sixty_digits {P : Program} {w : World} {K : PySem.W.Frag} {mg : Str → Option Value} {base : Heap} (T : Txt K mg) : FnOk P w K mg base CX0 2 T.f_is_sixty_digits T.fd_is_sixty_digits ["value"] (sp_is_sixty_digits K T.C_Kind []) := by
  have G_is_integer := ok_is_integer (P := P) (w := w) (base := base) T
  refine T.F_is_sixty_digits.ok sc_is_sixty_digits (fun vs H Q E h => ?_) (fun cdv A outer s H vs Q E hr h => ?_)
  · obtain ⟨i, rfl, _⟩ := h
    rfl
  · obtain ⟨i, rfl, h⟩ := h
    have hr_is_integer : Room 1 _ := hr.mono (by decide)
    refine ⟨_, (pss_one (ps_ret (pe_and (pe_call G_is_integer hr_is_integer rfl T.g_is_integer T.k_is_integer T.b_is_integer .nil pass0 (pa_cons (pv 0 (hv := Or.inl rfl)) pa_nil)) (pe_one (pe_cmpR op_lt (pe_callB (id := "abs") (r := rAbsC) call_abs (by rfl) T.n_abs (by decide +kernel) (pa_cons (pv 0 (hv := Or.inl rfl)) pa_nil)) (pe_glob (v := .int 1000000000000000000000000000000000000000000000000000000000000) rfl T.g_BEYOND_SIXTY_DIGITS ⟨_, rfl⟩) (nomark _)))))), ?_⟩
    try dsimp only [cxOf, Cx.nox, Cx.wish, Cx.blk]
    rw [show L2.start ["value"] [.int i] = [some (.int i)] from rfl]
    walk_at "rd"
    refine ⟨.int i, true, rfl, IntQ.int i, ?_⟩
    walk_at "rd"
    refine iteT ?_
    walk_at "rd"
    have e : decide (ab i < 1000000000000000000000000000000000000000000000000000000000000) = decide (-(10 ^ 60) < i ∧ i < 10 ^ 60) := by
      unfold ab
      by_cases c : i < 0
      · rw [if_pos c]
        by_cases d : -(10 ^ 60) < i
        · rw [decide_eq_true (show -i < 1000000000000000000000000000000000000000000000000000000000000 by omega), decide_eq_true ⟨d, by omega⟩]
        · rw [decide_eq_false (show ¬ -i < 1000000000000000000000000000000000000000000000000000000000000 by omega), decide_eq_false fun z => d z.1]
      · rw [if_neg c]
        by_cases d : i < 10 ^ 60
        · rw [decide_eq_true (show i < 1000000000000000000000000000000000000000000000000000000000000 by omega), decide_eq_true ⟨by omega, d⟩]
        · rw [decide_eq_false (show ¬ i < 1000000000000000000000000000000000000000000000000000000000000 by omega), decide_eq_false fun z => d z.2]
    rw [e]
    exact h
def sp_check_sixty_digits (K : PySem.W.Frag) (C : Addr) (TS : List (Addr × Str)) : Sp := fun vs H Q _ => ∃ (i : Int) (z : Str), vs = [.int i, .str z] ∧ SD i ∧ Q .non H
theorem ok_check_sixty_digits {P : Program} {w : World} {K : PySem.W.Frag} {mg : Str → Option Value} {base : Heap} (T : Txt K mg) : FnOk P w K mg base CX0 3 T.f_check_sixty_digits T.fd_check_sixty_digits ["value", "argument"] (sp_check_sixty_digits K T.C_Kind []) := by
  have G_is_sixty_digits := ok_is_sixty_digits (P := P) (w := w) (base := base) T
  refine T.F_check_sixty_digits.ok sc_check_sixty_digits (fun vs H Q E h => ?_) (fun cdv A outer s H vs Q E hr h => ?_)
  · obtain ⟨i, z, rfl, _⟩ := h
    rfl
  · obtain ⟨i, z, rfl, h⟩ := h
    have hr_is_sixty_digits : Room 2 _ := hr.mono (by decide)
    refine ⟨_, (pss_one (ps_if (pt_not (pt_val (pe_call G_is_sixty_digits hr_is_sixty_digits rfl T.g_is_sixty_digits T.k_is_sixty_digits T.b_is_sixty_digits .nil pass0 (pa_cons (pv 0 (hv := Or.inl rfl)) pa_nil)))) (pss_one ps_never) pss_nil)), ?_⟩
    try dsimp only [cxOf, Cx.nox, Cx.wish, Cx.blk]
    rw [show L2.start ["value", "argument"] [.int i, .str z] = [some (.int i), some (.str z)] from rfl]
    obtain ⟨sd, k⟩ := h
    walk_at "rd"
    refine ⟨i, rfl, ?_⟩
    walk_at "rd"
    rw [decide_eq_true (show -(10 ^ 60) < i ∧ i < 10 ^ 60 from sd)]
    refine iteF ?_
    walk_at "rd"
    exact k
def sp_toward_zero (K : PySem.W.Frag) (C : Addr) (TS : List (Addr × Str)) : Sp := fun vs H Q _ => ∃ (x y : Int), vs = [.int x, .int y] ∧ y ≠ 0 ∧ y.natAbs < 2 ^ 129 ∧ Q (.int (tz x y)) H
theorem ok_toward_zero {P : Program} {w : World} {K : PySem.W.Frag} {mg : Str → Option Value} {base : Heap} (T : Txt K mg) : FnOk P w K mg base CX0 1 T.f_toward_zero T.fd_toward_zero ["x", "y"] (sp_toward_zero K T.C_Kind []) := by
  refine T.F_toward_zero.ok sc_toward_zero (fun vs H Q E h => ?_) (fun cdv A outer s H vs Q E hr h => ?_)
  · obtain ⟨x, y, rfl, _⟩ := h
    rfl
  · obtain ⟨x, y, rfl, h⟩ := h
    refine ⟨_, (pss_cons (ps_set (i := 2) sc_toward_zero.nd rfl (Or.inl rfl) (pe_op op_fdivW (pe_callB (id := "abs") (r := rAbsC) call_abs (by rfl) T.n_abs (by decide +kernel) (pa_cons (pv 0 (hv := Or.inl rfl)) pa_nil)) (pe_callB (id := "abs") (r := rAbsC) call_abs (by rfl) T.n_abs (by decide +kernel) (pa_cons (pv 1 (hv := Or.inl rfl)) pa_nil))))
      (pss_one (ps_ret (pe_ifExp (pt_cmpR op_eq (pe_cmpR op_lt (pv 0 (hv := Or.inl rfl)) pe_int (nomark _)) (pe_cmpR op_lt (pv 1 (hv := Or.inl rfl)) pe_int (nomark _)) (nomark _)) (pv 2 (hv := Or.inl rfl)) (pe_un un_neg (pv 2 (hv := Or.inl rfl))))))), ?_⟩
    try dsimp only [cxOf, Cx.nox, Cx.wish, Cx.blk]
    rw [show L2.start ["x", "y", "quotient"] [.int x, .int y] = [some (.int x), some (.int y), none] from rfl]
    obtain ⟨hy, hb, k⟩ := h
    have e := ab_abs y
    walk_at "rd"
    refine w_I (wide_div (b := 129) (by omega) (by rw [ab_nat]; exact hb) (by decide) (by decide)) ?_
    walk_at "rd"
    refine w_if ?_
    walk_at "rd"
    refine w_dec (fun c => ?_) (fun c => ?_)
    · walk_at "rd"
      unfold tz at k
      rw [if_pos c] at k
      exact k
    · walk_at "rd"
      unfold tz at k
      rw [if_neg c] at k
      exact k
def sp__bitwise (K : PySem.W.Frag) (C : Addr) (TS : List (Addr × Str)) : Sp := fun vs H Q _ => ∃ (o : Op) (x y : Int), vs = [.str o.nm, .int x, .int y] ∧ (o = .band ∨ o = .bor ∨ o = .bxor) ∧ Q (.int (exO o x y)) H
theorem ok__bitwise {P : Program} {w : World} {K : PySem.W.Frag} {mg : Str → Option Value} {base : Heap} (T : Txt K mg) : FnOk P w K mg base CX0 1 T.f__bitwise T.fd__bitwise ["name", "x", "y"] (sp__bitwise K T.C_Kind []) := by
  refine T.F__bitwise.ok sc__bitwise (fun vs H Q E h => ?_) (fun cdv A outer s H vs Q E hr h => ?_)
  · obtain ⟨o, x, y, rfl, _⟩ := h
    rfl
  · obtain ⟨o, x, y, rfl, h⟩ := h
    refine ⟨_, (pss_one (ps_match (pv 0 (hv := Or.inl rfl))
      (pm_str (pss_one (ps_ret (pe_op op_and (pv 1 (hv := Or.inl rfl)) (pv 2 (hv := Or.inl rfl)))))
      (pm_str (pss_one (ps_ret (pe_op op_or (pv 1 (hv := Or.inl rfl)) (pv 2 (hv := Or.inl rfl)))))
      (pm_any (pss_one (ps_ret (pe_op op_xor (pv 1 (hv := Or.inl rfl)) (pv 2 (hv := Or.inl rfl)))))))))), ?_⟩
    try dsimp only [cxOf, Cx.nox, Cx.wish, Cx.blk]
    rw [show L2.start ["name", "x", "y"] [.str o.nm, .int x, .int y] = [some (.str o.nm), some (.int x), some (.int y)] from rfl]
    obtain ⟨ho, k⟩ := h
    walk_at "rd"
    rcases ho with rfl | rfl | rfl
    all_goals
      dsimp only [Op.nm]
      repeat (first | refine w_caseT ?_ | refine w_caseF (by decide +kernel) ?_ | refine w_caseA ?_)
      walk_at "rd"
      exact k
def sp_exact_result (K : PySem.W.Frag) (C : Addr) (TS : List (Addr × Str)) : Sp := fun vs H Q _ => ∃ (o : Op) (x y : Int), vs = [.str o.nm, .int x, .int y] ∧ x.natAbs < 2 ^ 129 ∧ y.natAbs < 2 ^ 129 ∧ (o = .div ∨ o = .rem → y ≠ 0) ∧ (o = .left ∨ o = .right → 0 ≤ y ∧ y ≤ 128) ∧ Q (.int (exO o x y)) H
theorem ok_exact_result {P : Program} {w : World} {K : PySem.W.Frag} {mg : Str → Option Value} {base : Heap} (T : Txt K mg) : FnOk P w K mg base CX0 2 T.f_exact_result T.fd_exact_result ["name", "x", "y"] (sp_exact_result K T.C_Kind []) := by
  have G__bitwise := ok__bitwise (P := P) (w := w) (base := base) T
  have G_toward_zero := ok_toward_zero (P := P) (w := w) (base := base) T
  refine T.F_exact_result.ok sc_exact_result (fun vs H Q E h => ?_) (fun cdv A outer s H vs Q E hr h => ?_)
  · obtain ⟨o, x, y, rfl, _⟩ := h
    rfl
  · obtain ⟨o, x, y, rfl, h⟩ := h
    have hr__bitwise : Room 1 _ := hr.mono (by decide)
    have hr_toward_zero : Room 1 _ := hr.mono (by decide)
    refine ⟨_, (pss_one (ps_match (pv 0 (hv := Or.inl rfl))
      (pm_str (pss_one (ps_ret (pe_op op_add (pv 1 (hv := Or.inl rfl)) (pv 2 (hv := Or.inl rfl)))))
      (pm_str (pss_one (ps_ret (pe_op op_sub (pv 1 (hv := Or.inl rfl)) (pv 2 (hv := Or.inl rfl)))))
      (pm_str (pss_one (ps_ret (pe_op op_mulX (pv 1 (hv := Or.inl rfl)) (pv 2 (hv := Or.inl rfl)))))
      (pm_str (pss_one (ps_ret (pe_call G_toward_zero hr_toward_zero rfl T.g_toward_zero T.k_toward_zero T.b_toward_zero .nil pass0 (pa_cons (pv 1 (hv := Or.inl rfl)) (pa_cons (pv 2 (hv := Or.inl rfl)) pa_nil)))))
      (pm_str (pss_one (ps_ret (pe_op op_sub (pv 1 (hv := Or.inl rfl)) (pe_op op_mulX (pv 2 (hv := Or.inl rfl)) (pe_call G_toward_zero hr_toward_zero rfl T.g_toward_zero T.k_toward_zero T.b_toward_zero .nil pass0 (pa_cons (pv 1 (hv := Or.inl rfl)) (pa_cons (pv 2 (hv := Or.inl rfl)) pa_nil)))))))
      (pm_str (pss_one (ps_ret (pe_op op_shlW (pv 1 (hv := Or.inl rfl)) (pv 2 (hv := Or.inl rfl)))))
      (pm_str (pss_one (ps_ret (pe_op op_shr (pv 1 (hv := Or.inl rfl)) (pv 2 (hv := Or.inl rfl)))))
      (pm_any (pss_one (ps_ret (pe_call G__bitwise hr__bitwise rfl T.g__bitwise T.k__bitwise T.b__bitwise .nil pass0 (pa_cons (pv 0 (hv := Or.inl rfl)) (pa_cons (pv 1 (hv := Or.inl rfl)) (pa_cons (pv 2 (hv := Or.inl rfl)) pa_nil)))))))))))))))), ?_⟩
    try dsimp only [cxOf, Cx.nox, Cx.wish, Cx.blk]
    rw [show L2.start ["name", "x", "y"] [.str o.nm, .int x, .int y] = [some (.str o.nm), some (.int x), some (.int y)] from rfl]
    obtain ⟨hx, hy, hd, hs, k⟩ := h
    walk_at "rd"
    cases o
    all_goals
      dsimp only [Op.nm]
      repeat (first | refine w_caseT ?_ | refine w_caseF (by decide +kernel) ?_ | refine w_caseA ?_)
      walk_at "rd"
    · exact k
    · exact k
    · refine w_I (mulx_ok hx hy (by decide)) ?_
      exact k
    · exact ⟨x, y, rfl, hd (.inl rfl), hy, k⟩
    · refine ⟨x, y, rfl, hd (.inr rfl), hy, ?_⟩
      walk_at "rd"
      refine w_I (mulx_ok hy (Nat.lt_of_le_of_lt tz_abs hx) (by decide)) ?_
      walk_at "rd"
      exact k
    · exact ⟨.band, x, y, rfl, .inl rfl, k⟩
    · exact ⟨.bor, x, y, rfl, .inr (.inl rfl), k⟩
    · exact ⟨.bxor, x, y, rfl, .inr (.inr rfl), k⟩
    · have q := hs (.inl rfl)
      obtain ⟨j, rfl⟩ := Int.eq_ofNat_of_zero_le q.1
      refine w_I (shl_ok hx (by omega)) ?_
      exact k
    · have q := hs (.inr rfl)
      refine w_I q.1 ?_
      exact k
def sp_is_word (K : PySem.W.Frag) (C : Addr) (TS : List (Addr × Str)) : Sp := fun vs H Q _ => ∃ (z : Str) (t : Addr) (its : List V), vs = [.str z, .ref t] ∧ SqT K H t its ∧ its.all flatV = true ∧ Q (.bl (inV (.str z) its)) H
theorem ok_is_word {P : Program} {w : World} {K : PySem.W.Frag} {mg : Str → Option Value} {base : Heap} (T : Txt K mg) : FnOk P w K mg base CX0 1 T.f_is_word T.fd_is_word ["value", "words"] (sp_is_word K T.C_Kind []) := by
  refine T.F_is_word.ok sc_is_word (fun vs H Q E h => ?_) (fun cdv A outer s H vs Q E hr h => ?_)
  · obtain ⟨z, t, its, rfl, _⟩ := h
    rfl
  · obtain ⟨z, t, its, rfl, h⟩ := h
    refine ⟨_, (pss_one (ps_ret (pe_and (pe_callB (id := "isinstance") (r := rIsi K) call_isi (by rfl) T.n_isinstance (by decide +kernel) (pa_cons (pv 0 (hv := Or.inl rfl)) (pa_cons (pe_bltn (v := .ty "str") (by rfl) T.n_str (by decide +kernel) rfl) pa_nil))) (pe_one (pe_cmpR (r := rIn K false) op_in_seq (pv 0 (hv := Or.inl rfl)) (pv 1 (hv := Or.inl rfl)) (by rfl)))))), ?_⟩
    try dsimp only [cxOf, Cx.nox, Cx.wish, Cx.blk]
    rw [show L2.start ["value", "words"] [.str z, .ref t] = [some (.str z), some (.ref t)] from rfl]
    obtain ⟨ht, hf, k⟩ := h
    walk_at "rd"
    refine w_isi (b := true) (.base (.str z)) (by decide +kernel) ?_
    walk_at "rd"
    refine iteT ?_
    walk_at "rd"
    refine w_inT ht rfl hf ?_
    exact k
def sp_check_word (K : PySem.W.Frag) (C : Addr) (TS : List (Addr × Str)) : Sp := fun vs H Q _ => ∃ (z : Str) (t : Addr) (u : Str) (its : List V), vs = [.str z, .ref t, .str u] ∧ SqT K H t its ∧ its.all flatV = true ∧ inV (.str z) its = true ∧ Q .non H
theorem ok_check_word {P : Program} {w : World} {K : PySem.W.Frag} {mg : Str → Option Value} {base : Heap} (T : Txt K mg) : FnOk P w K mg base CX0 2 T.f_check_word T.fd_check_word ["word", "words", "argument"] (sp_check_word K T.C_Kind []) := by
  have G_is_word := ok_is_word (P := P) (w := w) (base := base) T
  refine T.F_check_word.ok sc_check_word (fun vs H Q E h => ?_) (fun cdv A outer s H vs Q E hr h => ?_)
  · obtain ⟨z, t, u, its, rfl, _⟩ := h
    rfl
  · obtain ⟨z, t, u, its, rfl, h⟩ := h
    have hr_is_word : Room 1 _ := hr.mono (by decide)
    refine ⟨_, (pss_one (ps_if (pt_not (pt_val (pe_call G_is_word hr_is_word rfl T.g_is_word T.k_is_word T.b_is_word .nil pass0 (pa_cons (pv 0 (hv := Or.inl rfl)) (pa_cons (pv 1 (hv := Or.inl rfl)) pa_nil))))) (pss_one ps_never) pss_nil)), ?_⟩
    try dsimp only [cxOf, Cx.nox, Cx.wish, Cx.blk]
    rw [show L2.start ["word", "words", "argument"] [.str z, .ref t, .str u] = [some (.str z), some (.ref t), some (.str u)] from rfl]
    obtain ⟨ht, hf, hi, k⟩ := h
    walk_at "rd"
    refine ⟨z, t, its, rfl, ht, hf, ?_⟩
    rw [hi]
    walk_at "rd"
    refine iteF ?_
    walk_at "rd"
    exact k
def sp_Kind___init__ (K : PySem.W.Frag) (C : Addr) (TS : List (Addr × Str)) : Sp := fun vs H Q _ => ∃ (p : Addr) (wd : Nat) (s : Bool), vs = [.ref p, .int (wd : Int), .bl s] ∧ (∃ dx, H p = some (.ins C dx [])) ∧ 1 ≤ wd ∧ wd ≤ 128 ∧ ∀ H', Kd C H' p wd s → Kp p H H' → Q .non H'
theorem ok_Kind___init__ {P : Program} {w : World} {K : PySem.W.Frag} {mg : Str → Option Value} {base : Heap} (T : Txt K mg) : FnOk P w K mg base CX0 2 T.f_Kind___init__ T.fd_Kind___init__ ["self", "bits", "is_signed"] (sp_Kind___init__ K T.C_Kind []) := by
  have G_is_integer := ok_is_integer (P := P) (w := w) (base := base) T
  refine T.F_Kind___init__.ok sc_Kind___init__ (fun vs H Q E h => ?_) (fun cdv A outer s H vs Q E hr h => ?_)
  · obtain ⟨p, wd, s, rfl, _⟩ := h
    rfl
  · obtain ⟨p, wd, s, rfl, h⟩ := h
    have hr_is_integer : Room 1 _ := hr.mono (by decide)
    refine ⟨_, (pss_cons (ps_if (pt_not (PW.pt (pw_and (pt_val (pe_call G_is_integer hr_is_integer rfl T.g_is_integer T.k_is_integer T.b_is_integer .nil pass0 (pa_cons (pv 1 (hv := Or.inl rfl)) pa_nil))) (pw_and1 (pt_chain op_le op_le pe_int (pv 1 (hv := Or.inl rfl)) (pe_glob (v := .int 128) rfl T.g_MOST_BITS ⟨_, rfl⟩)))))) (pss_one ps_never) pss_nil)
      (pss_cons (ps_if (pt_not (pt_val (pe_callB (id := "isinstance") (r := rIsi K) call_isi (by rfl) T.n_isinstance (by decide +kernel) (pa_cons (pv 2 (hv := Or.inl rfl)) (pa_cons (pe_bltn (v := .ty "bool") (by rfl) T.n_bool (by decide +kernel) rfl) pa_nil))))) (pss_one ps_never) pss_nil)
      (pss_cons (ps_fld (pv 0 (hv := Or.inl rfl)) (pv 1 (hv := Or.inl rfl)) rfl)
      (pss_one (ps_fld (pv 0 (hv := Or.inl rfl)) (pv 2 (hv := Or.inl rfl)) rfl))))), ?_⟩
    try dsimp only [cxOf, Cx.nox, Cx.wish, Cx.blk]
    rw [show L2.start ["self", "bits", "is_signed"] [.ref p, .int (wd : Int), .bl s] = [some (.ref p), some (.int (wd : Int)), some (.bl s)] from rfl]
    obtain ⟨⟨dx, hp⟩, h1, h2, k⟩ := h
    walk_at "rd"
    refine ⟨_, true, rfl, IntQ.int _, ?_⟩
    walk_at "rd"
    refine iteT ?_
    walk_at "rd"
    refine w_chain ?_
    walk_at "rd"
    refine w_decT (by omega) ?_
    walk_at "rd"
    refine w_bF (by rw [decide_eq_true (show ((wd : Int) ≤ 128) by omega)]; rfl) ?_
    walk_at "rd"
    refine w_isi (b := true) (.base (.bl s)) (by decide +kernel) ?_
    walk_at "rd"
    refine iteF ?_
    walk_at "rd"
    refine ⟨p, _, dx, _, rfl, hp, T.cl_Kind, T.na_Kind_bits, (by show 0 < 1000; decide), ?_⟩
    walk_at "rd"
    refine ⟨p, _, dx, _, rfl, upd_same, T.cl_Kind, T.na_Kind_is_signed, (by show 1 < 1000; decide), ?_⟩
    refine k _ ⟨⟨dx, ?_⟩, h1, h2⟩ ((Kp.refl p H).upd.upd)
    rw [upd_same]
    show some (HO.ins _ _ (if ("bits" : Str) = "is_signed" then [(("bits" : Str), V.bl s)] else (("bits" : Str), V.int (wd : Int)) :: putF "is_signed" (V.bl s) [])) = _
    rw [if_neg (by decide +kernel)]
    rfl
def sp_check_kind (K : PySem.W.Frag) (C : Addr) (TS : List (Addr × Str)) : Sp := fun vs H Q _ => ∃ (p : Addr), vs = [.ref p] ∧ (∃ wd s, Kd C H p wd s) ∧ Q .non H
theorem ok_check_kind {P : Program} {w : World} {K : PySem.W.Frag} {mg : Str → Option Value} {base : Heap} (T : Txt K mg) : FnOk P w K mg base CX0 1 T.f_check_kind T.fd_check_kind ["kind"] (sp_check_kind K T.C_Kind []) := by
  refine T.F_check_kind.ok sc_check_kind (fun vs H Q E h => ?_) (fun cdv A outer s H vs Q E hr h => ?_)
  · obtain ⟨p, rfl, _⟩ := h
    rfl
  · obtain ⟨p, rfl, h⟩ := h
    refine ⟨_, (pss_one (ps_if (pt_not (pt_val (pe_callB (id := "isinstance") (r := rIsi K) call_isi (by rfl) T.n_isinstance (by decide +kernel) (pa_cons (pv 0 (hv := Or.inl rfl)) (pa_cons (pe_glob (v := .ref T.C_Kind) rfl T.g_Kind rfl) pa_nil))))) (pss_one ps_never) pss_nil)), ?_⟩
    try dsimp only [cxOf, Cx.nox, Cx.wish, Cx.blk]
    rw [show L2.start ["kind"] [.ref p] = [some (.ref p)] from rfl]
    obtain ⟨⟨wd, s, hk⟩, k⟩ := h
    walk_at "rd"
    refine w_isK T hk ?_
    walk_at "rd"
    refine iteF ?_
    walk_at "rd"
    exact k
def sp_least (K : PySem.W.Frag) (C : Addr) (TS : List (Addr × Str)) : Sp := fun vs H Q _ => ∃ (p : Addr) (wd : Nat) (s : Bool), vs = [.ref p] ∧ Kd C H p wd s ∧ Q (.int (loK wd s)) H
theorem ok_least {P : Program} {w : World} {K : PySem.W.Frag} {mg : Str → Option Value} {base : Heap} (T : Txt K mg) : FnOk P w K mg base CX0 2 T.f_least T.fd_least ["kind"] (sp_least K T.C_Kind []) := by
  have G_check_kind := ok_check_kind (P := P) (w := w) (base := base) T
  refine T.F_least.ok sc_least (fun vs H Q E h => ?_) (fun cdv A outer s H vs Q E hr h => ?_)
  · obtain ⟨p, wd, s, rfl, _⟩ := h
    rfl
  · obtain ⟨p, wd, s, rfl, h⟩ := h
    have hr_check_kind : Room 1 _ := hr.mono (by decide)
    refine ⟨_, (pss_cons (ps_expr (pe_call G_check_kind hr_check_kind rfl T.g_check_kind T.k_check_kind T.b_check_kind .nil pass0 (pa_cons (pv 0 (hv := Or.inl rfl)) pa_nil)))
      (pss_one (ps_ret (pe_ifExp (pt_val (pe_fld (pv 0 (hv := Or.inl rfl)) rfl)) (pe_un un_neg (pe_op op_shl pe_int (pe_op op_sub (pe_fld (pv 0 (hv := Or.inl rfl)) rfl) pe_int))) pe_int)))), ?_⟩
    try dsimp only [cxOf, Cx.nox, Cx.wish, Cx.blk]
    rw [show L2.start ["kind"] [.ref p] = [some (.ref p)] from rfl]
    obtain ⟨hk, k⟩ := h
    walk_at "rd"
    refine ⟨p, rfl, ⟨wd, s, hk⟩, ?_⟩
    walk_at "rd"
    refine w_if ?_
    walk_at "rd"
    refine w_fs T rfl hk ?_
    walk_at "rd"
    cases s with
    | false =>
      refine iteF ?_
      walk_at "rd"
      have e : loK wd false = 0 := by unfold loK; rw [if_neg Bool.false_ne_true]
      rw [e] at k
      exact k
    | true =>
      refine iteT ?_
      walk_at "rd"
      refine w_fb T rfl hk ?_
      walk_at "rd"
      have h1 := hk.w1
      have h2 := hk.w2
      have e : (wd : Int) - 1 = ((wd - 1 : Nat) : Int) := by omega
      rw [e]
      refine w_I (cpow (n := 1) (by omega) (by decide)) ?_
      walk_at "rd"
      rw [Int.toNat_natCast, Int.one_mul]
      have e : loK wd true = -(2 ^ (wd - 1)) := by unfold loK; rw [if_pos rfl]
      rw [e] at k
      exact k
def sp_greatest (K : PySem.W.Frag) (C : Addr) (TS : List (Addr × Str)) : Sp := fun vs H Q _ => ∃ (p : Addr) (wd : Nat) (s : Bool), vs = [.ref p] ∧ Kd C H p wd s ∧ Q (.int (hiK wd s)) H
theorem ok_greatest {P : Program} {w : World} {K : PySem.W.Frag} {mg : Str → Option Value} {base : Heap} (T : Txt K mg) : FnOk P w K mg base CX0 3 T.f_greatest T.fd_greatest ["kind"] (sp_greatest K T.C_Kind []) := by
  have G_least := ok_least (P := P) (w := w) (base := base) T
  refine T.F_greatest.ok sc_greatest (fun vs H Q E h => ?_) (fun cdv A outer s H vs Q E hr h => ?_)
  · obtain ⟨p, wd, s, rfl, _⟩ := h
    rfl
  · obtain ⟨p, wd, s, rfl, h⟩ := h
    have hr_least : Room 2 _ := hr.mono (by decide)
    refine ⟨_, (pss_one (ps_ret (pe_op op_sub (pe_op op_add (pe_call G_least hr_least rfl T.g_least T.k_least T.b_least .nil pass0 (pa_cons (pv 0 (hv := Or.inl rfl)) pa_nil)) (pe_op op_shl pe_int (pe_fld (pv 0 (hv := Or.inl rfl)) rfl))) pe_int))), ?_⟩
    try dsimp only [cxOf, Cx.nox, Cx.wish, Cx.blk]
    rw [show L2.start ["kind"] [.ref p] = [some (.ref p)] from rfl]
    obtain ⟨hk, k⟩ := h
    have h2 := hk.w2
    walk_at "rd"
    refine ⟨p, wd, s, rfl, hk, ?_⟩
    walk_at "rd"
    refine w_fb T rfl hk ?_
    walk_at "rd"
    refine w_I (cpow (n := 1) (by omega) (by decide)) ?_
    walk_at "rd"
    rw [Int.toNat_natCast, Int.one_mul]
    exact k
def sp_is_value (K : PySem.W.Frag) (C : Addr) (TS : List (Addr × Str)) : Sp := fun vs H Q _ => ∃ (p : Addr) (v : V) (wd : Nat) (s : Bool), vs = [.ref p, v] ∧ Kd C H p wd s ∧ ((∃ i : Int, v = .int i ∧ Q (.bl (decide (loK wd s ≤ i ∧ i ≤ hiK wd s))) H) ∨ (IntQ K H v false ∧ Q (.bl false) H))
theorem ok_is_value {P : Program} {w : World} {K : PySem.W.Frag} {mg : Str → Option Value} {base : Heap} (T : Txt K mg) : FnOk P w K mg base CX0 4 T.f_is_value T.fd_is_value ["kind", "x"] (sp_is_value K T.C_Kind []) := by
  have G_check_kind := ok_check_kind (P := P) (w := w) (base := base) T
  have G_greatest := ok_greatest (P := P) (w := w) (base := base) T
  have G_is_integer := ok_is_integer (P := P) (w := w) (base := base) T
  have G_least := ok_least (P := P) (w := w) (base := base) T
  refine T.F_is_value.ok sc_is_value (fun vs H Q E h => ?_) (fun cdv A outer s H vs Q E hr h => ?_)
  · obtain ⟨p, v, wd, s, rfl, _⟩ := h
    rfl
  · obtain ⟨p, v, wd, s, rfl, h⟩ := h
    have hr_check_kind : Room 1 _ := hr.mono (by decide)
    have hr_greatest : Room 3 _ := hr.mono (by decide)
    have hr_is_integer : Room 1 _ := hr.mono (by decide)
    have hr_least : Room 2 _ := hr.mono (by decide)
    refine ⟨_, (pss_cons (ps_expr (pe_call G_check_kind hr_check_kind rfl T.g_check_kind T.k_check_kind T.b_check_kind .nil pass0 (pa_cons (pv 0 (hv := Or.inl rfl)) pa_nil)))
      (pss_one (ps_ret (pe_and (pe_call G_is_integer hr_is_integer rfl T.g_is_integer T.k_is_integer T.b_is_integer .nil pass0 (pa_cons (pv 1 (hv := Or.inl rfl)) pa_nil)) (pe_one (pe_chain op_le op_le (pe_call G_least hr_least rfl T.g_least T.k_least T.b_least .nil pass0 (pa_cons (pv 0 (hv := Or.inl rfl)) pa_nil)) (pv 1 (hv := Or.inl rfl)) (pe_call G_greatest hr_greatest rfl T.g_greatest T.k_greatest T.b_greatest .nil pass0 (pa_cons (pv 0 (hv := Or.inl rfl)) pa_nil)))))))), ?_⟩
    try dsimp only [cxOf, Cx.nox, Cx.wish, Cx.blk]
    rw [show L2.start ["kind", "x"] [.ref p, v] = [some (.ref p), some (v)] from rfl]
    obtain ⟨hk, k⟩ := h
    walk_at "rd"
    refine ⟨p, rfl, ⟨wd, s, hk⟩, ?_⟩
    walk_at "rd"
    rcases k with ⟨i, rfl, k⟩ | ⟨hi, k⟩
    · refine ⟨_, true, rfl, IntQ.int _, ?_⟩
      walk_at "rd"
      refine iteT ?_
      refine w_chain ?_
      walk_at "rd"
      refine ⟨p, wd, s, rfl, hk, ?_⟩
      walk_at "rd"
      refine w_dec (fun h1 => ?_) (fun h1 => ?_)
      · walk_at "rd"
        refine ⟨p, wd, s, rfl, hk, ?_⟩
        walk_at "rd"
        have e : decide (loK wd s ≤ i ∧ i ≤ hiK wd s) = decide (i ≤ hiK wd s) := by simp [h1]
        rw [e] at k
        exact k
      · have e : decide (loK wd s ≤ i ∧ i ≤ hiK wd s) = false := by simp [h1]
        rw [e] at k
        exact k
    · refine ⟨_, false, rfl, hi, ?_⟩
      walk_at "rd"
      refine iteF ?_
      exact k
def sp_check_value (K : PySem.W.Frag) (C : Addr) (TS : List (Addr × Str)) : Sp := fun vs H Q _ => ∃ (p : Addr) (i : Int) (z : Str), vs = [.ref p, .int i, .str z] ∧ (∃ wd s, Kd C H p wd s ∧ loK wd s ≤ i ∧ i ≤ hiK wd s) ∧ Q .non H
theorem ok_check_value {P : Program} {w : World} {K : PySem.W.Frag} {mg : Str → Option Value} {base : Heap} (T : Txt K mg) : FnOk P w K mg base CX0 5 T.f_check_value T.fd_check_value ["kind", "x", "argument"] (sp_check_value K T.C_Kind []) := by
  have G_is_value := ok_is_value (P := P) (w := w) (base := base) T
  refine T.F_check_value.ok sc_check_value (fun vs H Q E h => ?_) (fun cdv A outer s H vs Q E hr h => ?_)
  · obtain ⟨p, i, z, rfl, _⟩ := h
    rfl
  · obtain ⟨p, i, z, rfl, h⟩ := h
    have hr_is_value : Room 4 _ := hr.mono (by decide)
    refine ⟨_, (pss_one (ps_if (pt_not (pt_val (pe_call G_is_value hr_is_value rfl T.g_is_value T.k_is_value T.b_is_value .nil pass0 (pa_cons (pv 0 (hv := Or.inl rfl)) (pa_cons (pv 1 (hv := Or.inl rfl)) pa_nil))))) (pss_one ps_never) pss_nil)), ?_⟩
    try dsimp only [cxOf, Cx.nox, Cx.wish, Cx.blk]
    rw [show L2.start ["kind", "x", "argument"] [.ref p, .int i, .str z] = [some (.ref p), some (.int i), some (.str z)] from rfl]
    obtain ⟨⟨wd, s, hk, h1, h2⟩, k⟩ := h
    walk_at "rd"
    refine ⟨p, _, wd, s, rfl, hk, Or.inl ⟨i, rfl, ?_⟩⟩
    walk_at "rd"
    rw [decide_eq_true (show loK wd s ≤ i ∧ i ≤ hiK wd s from ⟨h1, h2⟩)]
    refine iteF ?_
    walk_at "rd"
    exact k
def sp_wrapped (K : PySem.W.Frag) (C : Addr) (TS : List (Addr × Str)) : Sp := fun vs H Q _ => ∃ (p : Addr) (i : Int) (wd : Nat) (s : Bool), vs = [.ref p, .int i] ∧ Kd C H p wd s ∧ Q (.int (wr wd s i)) H
theorem ok_wrapped {P : Program} {w : World} {K : PySem.W.Frag} {mg : Str → Option Value} {base : Heap} (T : Txt K mg) : FnOk P w K mg base CX0 3 T.f_wrapped T.fd_wrapped ["kind", "n"] (sp_wrapped K T.C_Kind []) := by
  have G_check_integer := ok_check_integer (P := P) (w := w) (base := base) T
  have G_check_kind := ok_check_kind (P := P) (w := w) (base := base) T
  have G_least := ok_least (P := P) (w := w) (base := base) T
  refine T.F_wrapped.ok sc_wrapped (fun vs H Q E h => ?_) (fun cdv A outer s H vs Q E hr h => ?_)
  · obtain ⟨p, i, wd, s, rfl, _⟩ := h
    rfl
  · obtain ⟨p, i, wd, s, rfl, h⟩ := h
    have hr_check_integer : Room 2 _ := hr.mono (by decide)
    have hr_check_kind : Room 1 _ := hr.mono (by decide)
    have hr_least : Room 2 _ := hr.mono (by decide)
    refine ⟨_, (pss_cons (ps_expr (pe_call G_check_kind hr_check_kind rfl T.g_check_kind T.k_check_kind T.b_check_kind .nil pass0 (pa_cons (pv 0 (hv := Or.inl rfl)) pa_nil)))
      (pss_cons (ps_expr (pe_call G_check_integer hr_check_integer rfl T.g_check_integer T.k_check_integer T.b_check_integer .nil pass0 (pa_cons (pv 1 (hv := Or.inl rfl)) (pa_cons pe_str pa_nil))))
      (pss_cons (ps_set (i := 2) sc_wrapped.nd rfl (Or.inl rfl) (pe_call G_least hr_least rfl T.g_least T.k_least T.b_least .nil pass0 (pa_cons (pv 0 (hv := Or.inl rfl)) pa_nil)))
      (pss_one (ps_ret (pe_op op_add (pv 2 (hv := Or.inl rfl)) (pe_op op_mod (pe_op op_sub (pv 1 (hv := Or.inl rfl)) (pv 2 (hv := Or.inl rfl))) (pe_op op_shl pe_int (pe_fld (pv 0 (hv := Or.inl rfl)) rfl))))))))), ?_⟩
    try dsimp only [cxOf, Cx.nox, Cx.wish, Cx.blk]
    rw [show L2.start ["kind", "n", "low"] [.ref p, .int i] = [some (.ref p), some (.int i), none] from rfl]
    obtain ⟨hk, k⟩ := h
    have h2 := hk.w2
    walk_at "rd"
    refine ⟨p, rfl, ⟨wd, s, hk⟩, ?_⟩
    walk_at "rd"
    refine ⟨_, _, rfl, ?_⟩
    walk_at "rd"
    refine ⟨p, wd, s, rfl, hk, ?_⟩
    walk_at "rd"
    refine w_fb T rfl hk ?_
    walk_at "rd"
    refine w_I (cpow (n := 1) (by omega) (by decide)) ?_
    rw [Int.toNat_natCast, Int.one_mul]
    refine w_I (p2 wd) ?_
    walk_at "rd"
    exact k
def sp__check_operation (K : PySem.W.Frag) (C : Addr) (TS : List (Addr × Str)) : Sp := fun vs H Q _ => ∃ (p a : Addr) (o : Op) (x y : Int), vs = [.ref p, .ref a, .str o.nm, .int x, .int y] ∧ (∃ its, SqT K H a its ∧ its.all flatV = true ∧ inV (.str o.nm) its = true) ∧ (∃ wd s, Kd C H p wd s ∧ (loK wd s ≤ x ∧ x ≤ hiK wd s) ∧ (loK wd s ≤ y ∧ y ≤ hiK wd s) ∧ (o = .div ∨ o = .rem → y ≠ 0) ∧ (o = .left ∨ o = .right → 0 ≤ y ∧ y < wd)) ∧ Q .non H
theorem ok__check_operation {P : Program} {w : World} {K : PySem.W.Frag} {mg : Str → Option Value} {base : Heap} (T : Txt K mg) : FnOk P w K mg base CX0 6 T.f__check_operation T.fd__check_operation ["kind", "names", "name", "x", "y"] (sp__check_operation K T.C_Kind []) := by
  have G_check_kind := ok_check_kind (P := P) (w := w) (base := base) T
  have G_check_value := ok_check_value (P := P) (w := w) (base := base) T
  have G_check_word := ok_check_word (P := P) (w := w) (base := base) T
  refine T.F__check_operation.ok sc__check_operation (fun vs H Q E h => ?_) (fun cdv A outer s H vs Q E hr h => ?_)
  · obtain ⟨p, a, o, x, y, rfl, _⟩ := h
    rfl
  · obtain ⟨p, a, o, x, y, rfl, h⟩ := h
    have hr_check_kind : Room 1 _ := hr.mono (by decide)
    have hr_check_value : Room 5 _ := hr.mono (by decide)
    have hr_check_word : Room 2 _ := hr.mono (by decide)
    refine ⟨_, (pss_cons (ps_expr (pe_call G_check_kind hr_check_kind rfl T.g_check_kind T.k_check_kind T.b_check_kind .nil pass0 (pa_cons (pv 0 (hv := Or.inl rfl)) pa_nil)))
      (pss_cons (ps_expr (pe_call G_check_word hr_check_word rfl T.g_check_word T.k_check_word T.b_check_word .nil pass0 (pa_cons (pv 2 (hv := Or.inl rfl)) (pa_cons (pv 1 (hv := Or.inl rfl)) (pa_cons pe_str pa_nil)))))
      (pss_cons (ps_expr (pe_call G_check_value hr_check_value rfl T.g_check_value T.k_check_value T.b_check_value .nil pass0 (pa_cons (pv 0 (hv := Or.inl rfl)) (pa_cons (pv 3 (hv := Or.inl rfl)) (pa_cons pe_str pa_nil)))))
      (pss_cons (ps_expr (pe_call G_check_value hr_check_value rfl T.g_check_value T.k_check_value T.b_check_value .nil pass0 (pa_cons (pv 0 (hv := Or.inl rfl)) (pa_cons (pv 4 (hv := Or.inl rfl)) (pa_cons pe_str pa_nil)))))
      (pss_cons (ps_if (PW.pt (pw_and (pt_cmpR (r := rIn K false) op_in_seq (pv 2 (hv := Or.inl rfl)) (pe_glob (v := .ref T.a_DIVISIONS) rfl T.g_DIVISIONS rfl) (by rfl)) (pw_and1 (pt_cmpR op_eq (pv 4 (hv := Or.inl rfl)) pe_int (nomark _))))) (pss_one ps_never) pss_nil)
      (pss_one (ps_if (PW.pt (pw_and (pt_cmpR (r := rIn K false) op_in_seq (pv 2 (hv := Or.inl rfl)) (pe_glob (v := .ref T.a_SHIFTS) rfl T.g_SHIFTS rfl) (by rfl)) (pw_and1 (pt_not (pt_chain op_le op_lt pe_int (pv 4 (hv := Or.inl rfl)) (pe_fld (pv 0 (hv := Or.inl rfl)) rfl)))))) (pss_one ps_never) pss_nil))))))), ?_⟩
    try dsimp only [cxOf, Cx.nox, Cx.wish, Cx.blk]
    rw [show L2.start ["kind", "names", "name", "x", "y"] [.ref p, .ref a, .str o.nm, .int x, .int y] = [some (.ref p), some (.ref a), some (.str o.nm), some (.int x), some (.int y)] from rfl]
    obtain ⟨⟨its, ha, hf, hi⟩, ⟨wd, s, hk, hx, hy, hd, hs⟩, k⟩ := h
    walk_at "rd"
    refine ⟨p, rfl, ⟨wd, s, hk⟩, ?_⟩
    walk_at "rd"
    refine ⟨_, a, _, its, rfl, ha, hf, hi, ?_⟩
    walk_at "rd"
    refine ⟨p, x, _, rfl, ⟨wd, s, hk, hx⟩, ?_⟩
    walk_at "rd"
    refine ⟨p, y, _, rfl, ⟨wd, s, hk, hy⟩, ?_⟩
    walk_at "rd"
    refine w_inT (T.q_DIVISIONS _) rfl rfl ?_
    rw [in_div]
    walk_at "rd"
    refine w_dec (fun c => ?_) (fun c => ?_)
    · walk_at "rd"
      refine w_decF (hd c) ?_
      have c2 : ¬ (o = .left ∨ o = .right) := by rcases c with rfl | rfl <;> simp
      walk_at "rd"
      refine w_inT (T.q_SHIFTS _) rfl rfl ?_
      rw [in_shift]
      walk_at "rd"
      refine w_decF c2 ?_
      refine iteF ?_
      walk_at "rd"
      exact k
    · refine iteF ?_
      walk_at "rd"
      refine w_inT (T.q_SHIFTS _) rfl rfl ?_
      rw [in_shift]
      walk_at "rd"
      refine w_dec (fun c2 => ?_) (fun c2 => ?_)
      · walk_at "rd"
        refine w_chain ?_
        walk_at "rd"
        refine w_decT (hs c2).1 ?_
        walk_at "rd"
        refine w_fb T rfl hk ?_
        walk_at "rd"
        refine w_bF (by rw [decide_eq_true (hs c2).2]; rfl) ?_
        walk_at "rd"
        exact k
      · refine iteF ?_
        walk_at "rd"
        exact k
def sp_operate (K : PySem.W.Frag) (C : Addr) (TS : List (Addr × Str)) : Sp := fun vs H Q _ => ∃ (p : Addr) (o : Op) (x y : Int) (wd : Nat) (s : Bool), vs = [.ref p, .str o.nm, .int x, .int y] ∧ Kd C H p wd s ∧ (loK wd s ≤ x ∧ x ≤ hiK wd s) ∧ (loK wd s ≤ y ∧ y ≤ hiK wd s) ∧ (o = .div ∨ o = .rem → y ≠ 0) ∧ (o = .left ∨ o = .right → 0 ≤ y ∧ y < wd) ∧ Q (.int (wr wd s (exO o x y))) H
theorem ok_operate {P : Program} {w : World} {K : PySem.W.Frag} {mg : Str → Option Value} {base : Heap} (T : Txt K mg) : FnOk P w K mg base CX0 7 T.f_operate T.fd_operate ["kind", "name", "x", "y"] (sp_operate K T.C_Kind []) := by
  have G__check_operation := ok__check_operation (P := P) (w := w) (base := base) T
  have G_exact_result := ok_exact_result (P := P) (w := w) (base := base) T
  have G_wrapped := ok_wrapped (P := P) (w := w) (base := base) T
  refine T.F_operate.ok sc_operate (fun vs H Q E h => ?_) (fun cdv A outer s H vs Q E hr h => ?_)
  · obtain ⟨p, o, x, y, wd, s, rfl, _⟩ := h
    rfl
  · obtain ⟨p, o, x, y, wd, s, rfl, h⟩ := h
    have hr__check_operation : Room 6 _ := hr.mono (by decide)
    have hr_exact_result : Room 2 _ := hr.mono (by decide)
    have hr_wrapped : Room 3 _ := hr.mono (by decide)
    refine ⟨_, (pss_cons (ps_expr (pe_call G__check_operation hr__check_operation rfl T.g__check_operation T.k__check_operation T.b__check_operation .nil pass0 (pa_cons (pv 0 (hv := Or.inl rfl)) (pa_cons (pe_glob (v := .ref T.a_OPERATIONS) rfl T.g_OPERATIONS rfl) (pa_cons (pv 1 (hv := Or.inl rfl)) (pa_cons (pv 2 (hv := Or.inl rfl)) (pa_cons (pv 3 (hv := Or.inl rfl)) pa_nil)))))))
      (pss_one (ps_ret (pe_call G_wrapped hr_wrapped rfl T.g_wrapped T.k_wrapped T.b_wrapped .nil pass0 (pa_cons (pv 0 (hv := Or.inl rfl)) (pa_cons (pe_call G_exact_result hr_exact_result rfl T.g_exact_result T.k_exact_result T.b_exact_result .nil pass0 (pa_cons (pv 1 (hv := Or.inl rfl)) (pa_cons (pv 2 (hv := Or.inl rfl)) (pa_cons (pv 3 (hv := Or.inl rfl)) pa_nil)))) pa_nil)))))), ?_⟩
    try dsimp only [cxOf, Cx.nox, Cx.wish, Cx.blk]
    rw [show L2.start ["kind", "name", "x", "y"] [.ref p, .str o.nm, .int x, .int y] = [some (.ref p), some (.str o.nm), some (.int x), some (.int y)] from rfl]
    obtain ⟨hk, hx, hy, hd, hs, k⟩ := h
    walk_at "rd"
    refine ⟨p, _, o, x, y, rfl, ⟨_, T.q_OPERATIONS _, rfl, in_ops o⟩, ⟨wd, s, hk, hx, hy, hd, hs⟩, ?_⟩
    walk_at "rd"
    refine ⟨o, x, y, rfl, b129 hk.w2 hx.1 hx.2, b129 hk.w2 hy.1 hy.2, hd, fun c => ⟨(hs c).1, by have := (hs c).2; have := hk.w2; omega⟩, ?_⟩
    walk_at "rd"
    exact ⟨p, _, wd, s, rfl, hk, k⟩
def sp_overflows (K : PySem.W.Frag) (C : Addr) (TS : List (Addr × Str)) : Sp := fun vs H Q _ => ∃ (p : Addr) (o : Op) (x y : Int) (wd : Nat) (s : Bool), vs = [.ref p, .str o.nm, .int x, .int y] ∧ Kd C H p wd s ∧ (o = .add ∨ o = .sub ∨ o = .mul ∨ o = .div ∨ o = .left) ∧ (loK wd s ≤ x ∧ x ≤ hiK wd s) ∧ (loK wd s ≤ y ∧ y ≤ hiK wd s) ∧ (o = .div ∨ o = .rem → y ≠ 0) ∧ (o = .left ∨ o = .right → 0 ≤ y ∧ y < wd) ∧ Q (.bl (!decide (loK wd s ≤ exO o x y ∧ exO o x y ≤ hiK wd s))) H
theorem ok_overflows {P : Program} {w : World} {K : PySem.W.Frag} {mg : Str → Option Value} {base : Heap} (T : Txt K mg) : FnOk P w K mg base CX0 7 T.f_overflows T.fd_overflows ["kind", "name", "x", "y"] (sp_overflows K T.C_Kind []) := by
  have G__check_operation := ok__check_operation (P := P) (w := w) (base := base) T
  have G_exact_result := ok_exact_result (P := P) (w := w) (base := base) T
  have G_is_value := ok_is_value (P := P) (w := w) (base := base) T
  refine T.F_overflows.ok sc_overflows (fun vs H Q E h => ?_) (fun cdv A outer s H vs Q E hr h => ?_)
  · obtain ⟨p, o, x, y, wd, s, rfl, _⟩ := h
    rfl
  · obtain ⟨p, o, x, y, wd, s, rfl, h⟩ := h
    have hr__check_operation : Room 6 _ := hr.mono (by decide)
    have hr_exact_result : Room 2 _ := hr.mono (by decide)
    have hr_is_value : Room 4 _ := hr.mono (by decide)
    refine ⟨_, (pss_cons (ps_expr (pe_call G__check_operation hr__check_operation rfl T.g__check_operation T.k__check_operation T.b__check_operation .nil pass0 (pa_cons (pv 0 (hv := Or.inl rfl)) (pa_cons (pe_glob (v := .ref T.a_OVERFLOWING) rfl T.g_OVERFLOWING rfl) (pa_cons (pv 1 (hv := Or.inl rfl)) (pa_cons (pv 2 (hv := Or.inl rfl)) (pa_cons (pv 3 (hv := Or.inl rfl)) pa_nil)))))))
      (pss_one (ps_ret (pe_not (pe_call G_is_value hr_is_value rfl T.g_is_value T.k_is_value T.b_is_value .nil pass0 (pa_cons (pv 0 (hv := Or.inl rfl)) (pa_cons (pe_call G_exact_result hr_exact_result rfl T.g_exact_result T.k_exact_result T.b_exact_result .nil pass0 (pa_cons (pv 1 (hv := Or.inl rfl)) (pa_cons (pv 2 (hv := Or.inl rfl)) (pa_cons (pv 3 (hv := Or.inl rfl)) pa_nil)))) pa_nil))))))), ?_⟩
    try dsimp only [cxOf, Cx.nox, Cx.wish, Cx.blk]
    rw [show L2.start ["kind", "name", "x", "y"] [.ref p, .str o.nm, .int x, .int y] = [some (.ref p), some (.str o.nm), some (.int x), some (.int y)] from rfl]
    obtain ⟨hk, ho, hx, hy, hd, hs, k⟩ := h
    walk_at "rd"
    refine ⟨p, _, o, x, y, rfl, ⟨_, T.q_OVERFLOWING _, rfl, in_over ho⟩, ⟨wd, s, hk, hx, hy, hd, hs⟩, ?_⟩
    walk_at "rd"
    refine ⟨o, x, y, rfl, b129 hk.w2 hx.1 hx.2, b129 hk.w2 hy.1 hy.2, hd, fun c => ⟨(hs c).1, by have := (hs c).2; have := hk.w2; omega⟩, ?_⟩
    walk_at "rd"
    refine ⟨p, _, wd, s, rfl, hk, .inl ⟨_, rfl, ?_⟩⟩
    walk_at "rd"
    exact k
def sp_quotient_total (K : PySem.W.Frag) (C : Addr) (TS : List (Addr × Str)) : Sp := fun vs H Q _ => ∃ (l : Addr) (a b m first last : Int), vs = [.ref l, .int m, .int first, .int last] ∧ H l = some (.tup [.int a, .int b]) ∧ 0 < m ∧ BB m ∧ BB a ∧ b.natAbs < 2 ^ 302 ∧ BB first ∧ BB last ∧ ∀ H', Same H H' → Q (.int (QT a b m first last)) H'
theorem ok_quotient_total {P : Program} {w : World} {K : PySem.W.Frag} {mg : Str → Option Value} {base : Heap} (T : Txt K mg) : FnOk P w K mg base CX0 1 T.f_quotient_total T.fd_quotient_total ["line", "size", "first", "last"] (sp_quotient_total K T.C_Kind []) := by
  refine T.F_quotient_total.ok sc_quotient_total (fun vs H Q E h => ?_) (fun cdv A outer s H vs Q E hr h => ?_)
  · obtain ⟨l, a, b, m, first, last, rfl, _⟩ := h
    rfl
  · obtain ⟨l, a, b, m, first, last, rfl, h⟩ := h
    refine ⟨_, (pss_cons (ps_asg (pv 0 (hv := Or.inl rfl)) (pg_tup rfl (pgs_cons (pg_name (i := 4) sc_quotient_total.nd rfl (Or.inl rfl)) (pgs_cons (pg_name (i := 5) sc_quotient_total.nd rfl (Or.inl rfl)) pgs_nil))))
      (pss_cons (ps_set (i := 6) sc_quotient_total.nd rfl (Or.inl rfl) (pe_op op_add (pe_op op_sub (pv 3 (hv := Or.inl rfl)) (pv 2 (hv := Or.inl rfl))) pe_int))
      (pss_cons (ps_if (pt_cmpR op_le (pv 6 (hv := Or.inl rfl)) pe_int (nomark _)) (pss_one (ps_ret pe_int)) pss_nil)
      (pss_cons (ps_aug (i := 5) sc_quotient_total.nd rfl (Or.inl rfl) (pe_op op_mulX (pv 4 (hv := Or.inl rfl)) (pv 2 (hv := Or.inl rfl))) ip_add)
      (pss_cons (ps_set (i := 7) sc_quotient_total.nd rfl (Or.inl rfl) pe_int)
      (pss_one (ps_while PassesOwn.never (pt_val pe_bl)
        (pss_cons (ps_aug (i := 7) sc_quotient_total.nd rfl (Or.inl rfl) (pe_op op_add (pe_op op_mulX (pe_op op_fdiv (pe_op op_mulX (pv 6 (hv := Or.inl rfl)) (pe_op op_sub (pv 6 (hv := Or.inl rfl)) pe_int)) pe_int) (pe_op op_fdivW (pv 4 (hv := Or.inl rfl)) (pv 1 (hv := Or.inl rfl)))) (pe_op op_mulX (pv 6 (hv := Or.inl rfl)) (pe_op op_fdivW (pv 5 (hv := Or.inl rfl)) (pv 1 (hv := Or.inl rfl))))) ip_add)
      (pss_cons (ps_par rfl sc_quotient_total.nd (i := 4) (j := 5) rfl rfl (by decide) rfl rfl (pa_cons (pe_op op_mod (pv 4 (hv := Or.inl rfl)) (pv 1 (hv := Or.inl rfl))) (pa_cons (pe_op op_mod (pv 5 (hv := Or.inl rfl)) (pv 1 (hv := Or.inl rfl))) pa_nil)) (by rfl))
      (pss_cons (ps_set (i := 8) sc_quotient_total.nd rfl (Or.inl rfl) (pe_op op_add (pe_op op_mulX (pv 4 (hv := Or.inl rfl)) (pv 6 (hv := Or.inl rfl))) (pv 5 (hv := Or.inl rfl))))
      (pss_cons (ps_if (pt_cmpR op_lt (pv 8 (hv := Or.inl rfl)) (pv 1 (hv := Or.inl rfl)) (nomark _)) (pss_one (ps_ret (pv 7 (hv := Or.inl rfl)))) pss_nil)
      (pss_cons (ps_asg (pe_callB (id := "divmod") (r := rDivC) call_divmodW (by rfl) T.n_divmod (by decide +kernel) (pa_cons (pv 8 (hv := Or.inl rfl)) (pa_cons (pv 1 (hv := Or.inl rfl)) pa_nil))) (pg_tup rfl (pgs_cons (pg_name (i := 6) sc_quotient_total.nd rfl (Or.inl rfl)) (pgs_cons (pg_name (i := 5) sc_quotient_total.nd rfl (Or.inl rfl)) pgs_nil))))
      (pss_one (ps_par rfl sc_quotient_total.nd (i := 4) (j := 1) rfl rfl (by decide) rfl rfl (pa_cons (pv 1 (hv := Or.inl rfl)) (pa_cons (pv 4 (hv := Or.inl rfl)) pa_nil)) (by rfl))))))))))))))), ?_⟩
    try dsimp only [cxOf, Cx.nox, Cx.wish, Cx.blk]
    rw [show L2.start ["line", "size", "first", "last", "a", "b", "count", "total", "top"] [.ref l, .int m, .int first, .int last] = [some (.ref l), some (.int m), some (.int first), some (.int last), none, none, none, none, none] from rfl]
    obtain ⟨hl, m0, bm, ba, bb, bf, bl, k⟩ := h
    unfold BB at bm ba bf bl
    have h302 : (2 : Nat) ^ 302 = 4 * 2 ^ 300 := by decide +kernel
    walk_at "rd"
    refine w_dec (fun c => ?_) (fun c => ?_)
    · walk_at "rd"
      have e : QT a b m first last = 0 := by unfold QT; rw [show (last - first + 1).toNat = 0 by omega]; rfl
      rw [e] at k
      exact k _ (Same.refl H)
    obtain ⟨n, hn⟩ := Int.eq_ofNat_of_zero_le (show 0 ≤ last - first + 1 by omega)
    have n0 : 0 < n := by omega
    have nb : n < 2 ^ 302 := by omega
    rw [hn]
    have bmul : (a * first).natAbs < 2 ^ (300 + 300) := wide_lt ba bf
    have h600 : (2 : Nat) ^ (300 + 300) + 2 ^ 302 < 2 ^ 601 := by decide +kernel
    walk_at "rd"
    refine w_aug rfl ?_
    walk_at "rd"
    refine w_I (mulx_ok ba bf (by decide)) ?_
    refine ⟨_, _, rfl, rfl, ?_⟩
    walk_at "rd"
    rw [QT_QS, hn, Int.toNat_natCast] at k
    refine w_while (fun ms σ H' => ∃ (a' b' m' t : Int) (n' : Nat) (v : Option V), σ = [some (.ref l), some (.int m'), some (.int first), some (.int last), some (.int a'), some (.int b'), some (.int (n' : Int)), some (.int t), v] ∧ ms = m'.toNat ∧ 0 < m' ∧ BB m' ∧ BB a' ∧ b'.natAbs < 2 ^ 601 ∧ 0 < n' ∧ n' < 2 ^ 302 ∧ t + QS a' b' m' n' = QS a (b + a * first) m n ∧ Same H H')
      m.toNat ⟨a, b + a * first, m, 0, n, none, rfl, rfl, m0, bm, ba, by omega, n0, nb, by omega, Same.refl H⟩ ?_
    rintro ms σ H' ⟨a', b', m', t, n', v, rfl, rfl, m0', bm', ba', bb', n0', nb', heq, sm⟩
    unfold BB at bm' ba'
    walk_at "rd"
    refine iteT ?_
    refine ⟨_, fun _ _ h => h, ?_⟩
    walk_at "rd"
    refine w_aug rfl ?_
    have bn : ((n' : Int)).natAbs < 2 ^ 302 := by omega
    have bn1 : ((n' : Int) - 1).natAbs < 2 ^ 302 := by omega
    have bnn : ((n' : Int) * ((n' : Int) - 1)).natAbs < 2 ^ (302 + 302) := wide_lt bn bn1
    have q1 := Int.natAbs_ediv_le_natAbs a' m'
    have q2 := Int.natAbs_ediv_le_natAbs b' m'
    have bnn2 : ((n' : Int) * ((n' : Int) - 1) / 2).natAbs < 2 ^ (302 + 302) := Nat.lt_of_le_of_lt (Int.natAbs_ediv_le_natAbs _ 2) bnn
    walk_at "rd"
    refine w_I (mulx_ok bn bn1 (by decide)) ?_
    walk_at "rd"
    refine w_I (wide_div m0' bm' (by decide) (by decide)) ?_
    walk_at "rd"
    refine w_I (mulx_ok bnn2 (Nat.lt_of_le_of_lt q1 ba') (by decide)) ?_
    walk_at "rd"
    refine w_I (wide_div m0' bm' (by decide) (by decide)) ?_
    walk_at "rd"
    refine w_I (mulx_ok bn (Nat.lt_of_le_of_lt q2 bb') (by decide)) ?_
    walk_at "rd"
    refine ⟨_, _, rfl, rfl, ?_⟩
    walk_at "rd"
    refine w_I m0' ?_
    walk_at "rd"
    refine w_I m0' ?_
    walk_at "rd"
    have r0 := Int.emod_nonneg a' (Int.ne_of_gt m0')
    have r1 := Int.emod_lt_of_pos a' m0'
    have s0 := Int.emod_nonneg b' (Int.ne_of_gt m0')
    have s1 := Int.emod_lt_of_pos b' m0'
    have bam : (a' % m').natAbs < 2 ^ 300 := by omega
    have bbm : (b' % m').natAbs < 2 ^ 300 := by omega
    refine w_I (mulx_ok bam bn (by decide)) ?_
    have bam2 : (a' % m' * (n' : Int)).natAbs < 2 ^ (300 + 302) := wide_lt bam bn
    walk_at "rd"
    have red := QS_red a' b' m0' n'
    refine w_dec (fun c2 => ?_) (fun c2 => ?_)
    · walk_at "rd"
      have z := QS_zero r0 s0 n' c2
      have e : t + ((n' : Int) * ((n' : Int) - 1) / 2 * (a' / m') + (n' : Int) * (b' / m')) = QS a (b + a * first) m n := by omega
      rw [e]
      exact k _ sm
    have ap : 0 < a' % m' := by
      rcases Int.lt_or_le 0 (a' % m') with z | z
      · exact z
      · have z0 : a' % m' = 0 := by omega
        rw [z0, Int.zero_mul] at c2; omega
    have anb : 0 ≤ a' % m' * (n' : Int) := Int.mul_nonneg r0 (by omega)
    have top0 : 0 ≤ a' % m' * (n' : Int) + b' % m' := by omega
    have topb : (a' % m' * (n' : Int) + b' % m').natAbs < 2 ^ 603 := by
      have : (2 : Nat) ^ (300 + 302) + 2 ^ 300 < 2 ^ 603 := by decide +kernel
      omega
    walk_at "rd"
    refine ⟨_, _, rfl, divp_ok m0' ?_, fun pr hpr => ?_⟩
    · have := PyProof.Rows.intBits_le topb
      omega
    have hq0 : 0 ≤ (a' % m' * (n' : Int) + b' % m') / m' := Int.ediv_nonneg top0 (Int.le_of_lt m0')
    obtain ⟨n2, hn2⟩ := Int.eq_ofNat_of_zero_le hq0
    have n2p : 0 < n2 := by
      have : 1 ≤ (a' % m' * (n' : Int) + b' % m') / m' := (Int.le_ediv_iff_mul_le m0').mpr (by omega)
      omega
    have n2b : n2 ≤ n' := by
      have h1 : (a' % m' * (n' : Int) + b' % m') / m' < (n' : Int) + 1 := (Int.ediv_lt_iff_lt_mul m0').mpr (by
        have : a' % m' * (n' : Int) ≤ m' * (n' : Int) := Int.mul_le_mul_of_nonneg_right (by omega) (by omega)
        rw [Int.add_mul, Int.one_mul, Int.mul_comm (n' : Int) m']; omega)
      omega
    rw [hn2]
    have u0 := Int.emod_nonneg (a' % m' * (n' : Int) + b' % m') (Int.ne_of_gt m0')
    have u1 := Int.emod_lt_of_pos (a' % m' * (n' : Int) + b' % m') m0'
    have turn := QS_turn ap r1 s0 s1 n' hn2.symm
    have h601 : (2 : Nat) ^ 300 < 2 ^ 601 := by decide +kernel
    walk_at "rd"
    refine ⟨(a' % m').toNat, by omega, m', _, a' % m', _, n2, _, rfl, rfl, ap, bam, bm', ?_, n2p, by omega, ?_, sm_new sm hpr⟩
    · omega
    · omega
def sp_total_between (K : PySem.W.Frag) (C : Addr) (TS : List (Addr × Str)) : Sp := fun vs H Q _ => ∃ (l : Addr) (a b m first last lo hi : Int), vs = [.ref l, .int m, .int first, .int last, .int lo, .int hi] ∧ H l = some (.tup [.int a, .int b]) ∧ 0 < m ∧ BB m ∧ BB a ∧ BB b ∧ BB first ∧ BB last ∧ BB lo ∧ BB hi ∧ (lo ≤ hi → hi - lo < m) ∧ ∀ H', Same H H' → Q (.int (tot (fun x => inR m lo hi (a * x + b)) first last)) H'
theorem ok_total_between {P : Program} {w : World} {K : PySem.W.Frag} {mg : Str → Option Value} {base : Heap} (T : Txt K mg) : FnOk P w K mg base CX0 2 T.f_total_between T.fd_total_between ["line", "size", "first", "last", "low", "high"] (sp_total_between K T.C_Kind []) := by
  have G_quotient_total := ok_quotient_total (P := P) (w := w) (base := base) T
  refine T.F_total_between.ok sc_total_between (fun vs H Q E h => ?_) (fun cdv A outer s H vs Q E hr h => ?_)
  · obtain ⟨l, a, b, m, first, last, lo, hi, rfl, _⟩ := h
    rfl
  · obtain ⟨l, a, b, m, first, last, lo, hi, rfl, h⟩ := h
    have hr_quotient_total : Room 1 _ := hr.mono (by decide)
    refine ⟨_, (pss_cons (ps_if (pt_cmpR op_lt (pv 5 (hv := Or.inl rfl)) (pv 4 (hv := Or.inl rfl)) (nomark _)) (pss_one (ps_ret pe_int)) pss_nil)
      (pss_cons (ps_asg (pv 0 (hv := Or.inl rfl)) (pg_tup rfl (pgs_cons (pg_name (i := 6) sc_total_between.nd rfl (Or.inl rfl)) (pgs_cons (pg_name (i := 7) sc_total_between.nd rfl (Or.inl rfl)) pgs_nil))))
      (pss_one (ps_ret (pe_op op_sub (pe_call G_quotient_total hr_quotient_total rfl T.g_quotient_total T.k_quotient_total T.b_quotient_total .nil pass0 (pa_cons (pe_tup (pa_cons (pv 6 (hv := Or.inl rfl)) (pa_cons (pe_op op_sub (pv 7 (hv := Or.inl rfl)) (pv 4 (hv := Or.inl rfl))) pa_nil))) (pa_cons (pv 1 (hv := Or.inl rfl)) (pa_cons (pv 2 (hv := Or.inl rfl)) (pa_cons (pv 3 (hv := Or.inl rfl)) pa_nil))))) (pe_call G_quotient_total hr_quotient_total rfl T.g_quotient_total T.k_quotient_total T.b_quotient_total .nil pass0 (pa_cons (pe_tup (pa_cons (pv 6 (hv := Or.inl rfl)) (pa_cons (pe_op op_sub (pe_op op_sub (pv 7 (hv := Or.inl rfl)) (pv 5 (hv := Or.inl rfl))) pe_int) pa_nil))) (pa_cons (pv 1 (hv := Or.inl rfl)) (pa_cons (pv 2 (hv := Or.inl rfl)) (pa_cons (pv 3 (hv := Or.inl rfl)) pa_nil)))))))))), ?_⟩
    try dsimp only [cxOf, Cx.nox, Cx.wish, Cx.blk]
    rw [show L2.start ["line", "size", "first", "last", "low", "high", "a", "b"] [.ref l, .int m, .int first, .int last, .int lo, .int hi] = [some (.ref l), some (.int m), some (.int first), some (.int last), some (.int lo), some (.int hi), none, none] from rfl]
    obtain ⟨hl, m0, bm, ba, bb, bf, bl, blo, bhi, hlt, k⟩ := h
    walk_at "rd"
    refine w_dec (fun c => ?_) (fun c => ?_)
    · walk_at "rd"
      rw [tot_never (fun x => inR_none c (a * x + b))] at k
      exact k _ (Same.refl H)
    walk_at "rd"
    have e := QT_between (a := a) (b := b) (first := first) (last := last) m0 (show lo ≤ hi by omega) (hlt (by omega))
    have h302 : (2 : Nat) ^ 302 = 4 * 2 ^ 300 := by decide +kernel
    unfold BB at bb blo bhi
    refine ⟨by show 2 ≤ sizeLine; decide, fun q1 hq1 => ?_⟩
    walk_at "rd"
    refine ⟨q1, a, b - lo, m, first, last, rfl, upd_same, m0, bm, ba, by omega, bf, bl, fun H1 s1 => ?_⟩
    walk_at "rd"
    refine ⟨by show 2 ≤ sizeLine; decide, fun q2 hq2 => ?_⟩
    walk_at "rd"
    refine ⟨q2, a, b - hi - 1, m, first, last, rfl, upd_same, m0, bm, ba, by omega, bf, bl, fun H2 s2 => ?_⟩
    walk_at "rd"
    rw [e]
    exact k _ (((sm_new (Same.refl H) hq1).trans s1).trans ((sm_new (Same.refl H1) hq2).trans s2))
def sp_check_line (K : PySem.W.Frag) (C : Addr) (TS : List (Addr × Str)) : Sp := fun vs H Q _ => ∃ (l : Addr) (z : Str) (a b : Int), vs = [.ref l, .str z] ∧ H l = some (.tup [.int a, .int b]) ∧ SD a ∧ SD b ∧ Q .non H
theorem ok_check_line {P : Program} {w : World} {K : PySem.W.Frag} {mg : Str → Option Value} {base : Heap} (T : Txt K mg) : FnOk P w K mg base CX0 3 T.f_check_line T.fd_check_line ["line", "argument"] (sp_check_line K T.C_Kind []) := by
  have G_is_sixty_digits := ok_is_sixty_digits (P := P) (w := w) (base := base) T
  refine T.F_check_line.ok sc_check_line (fun vs H Q E h => ?_) (fun cdv A outer s H vs Q E hr h => ?_)
  · obtain ⟨l, z, a, b, rfl, _⟩ := h
    rfl
  · obtain ⟨l, z, a, b, rfl, h⟩ := h
    have hr_is_sixty_digits : Room 2 _ := hr.mono (by decide)
    refine ⟨_, (pss_cons (ps_if (pt_not (PW.pt (pw_and (pt_val (pe_callB (id := "isinstance") (r := rIsi K) call_isi (by rfl) T.n_isinstance (by decide +kernel) (pa_cons (pv 0 (hv := Or.inl rfl)) (pa_cons (pe_bltn (v := .ty "tuple") (by rfl) T.n_tuple (by decide +kernel) rfl) pa_nil)))) (pw_and1 (pt_cmpR op_eq (pe_callB (id := "len") (r := rLenS K) call_len_seq (by rfl) T.n_len (by decide +kernel) (pa_cons (pv 0 (hv := Or.inl rfl)) pa_nil)) pe_int (nomark _)))))) (pss_one ps_never) pss_nil)
      (pss_one (ps_if (pt_not (PW.pt (pw_and (pt_val (pe_call G_is_sixty_digits hr_is_sixty_digits rfl T.g_is_sixty_digits T.k_is_sixty_digits T.b_is_sixty_digits .nil pass0 (pa_cons (pe_ix (r := rIxT K) ix_tup (pv 0 (hv := Or.inl rfl)) pe_int (fun _ _ => rfl)) pa_nil))) (pw_and1 (pt_val (pe_call G_is_sixty_digits hr_is_sixty_digits rfl T.g_is_sixty_digits T.k_is_sixty_digits T.b_is_sixty_digits .nil pass0 (pa_cons (pe_ix (r := rIxT K) ix_tup (pv 0 (hv := Or.inl rfl)) pe_int (fun _ _ => rfl)) pa_nil))))))) (pss_one ps_never) pss_nil))), ?_⟩
    try dsimp only [cxOf, Cx.nox, Cx.wish, Cx.blk]
    rw [show L2.start ["line", "argument"] [.ref l, .str z] = [some (.ref l), some (.str z)] from rfl]
    obtain ⟨hl, sa, sb, k⟩ := h
    walk_at "rd"
    refine w_isi (b := true) (.base (.tup hl)) (by decide +kernel) ?_
    walk_at "rd"
    refine iteT ?_
    walk_at "rd"
    refine w_lenT hl ?_
    walk_at "rd"
    refine w_bF (by simp) ?_
    walk_at "rd"
    refine ⟨a, rfl, ?_⟩
    walk_at "rd"
    rw [decide_eq_true (show -(10 ^ 60) < a ∧ a < 10 ^ 60 from sa)]
    refine iteT ?_
    walk_at "rd"
    refine ⟨b, rfl, ?_⟩
    walk_at "rd"
    rw [decide_eq_true (show -(10 ^ 60) < b ∧ b < 10 ^ 60 from sb)]
    refine iteF ?_
    walk_at "rd"
    exact k
def sp_check_range (K : PySem.W.Frag) (C : Addr) (TS : List (Addr × Str)) : Sp := fun vs H Q _ => ∃ (i j : Int), vs = [.int i, .int j] ∧ SD i ∧ SD j ∧ Q .non H
theorem ok_check_range {P : Program} {w : World} {K : PySem.W.Frag} {mg : Str → Option Value} {base : Heap} (T : Txt K mg) : FnOk P w K mg base CX0 4 T.f_check_range T.fd_check_range ["first", "last"] (sp_check_range K T.C_Kind []) := by
  have G_check_sixty_digits := ok_check_sixty_digits (P := P) (w := w) (base := base) T
  refine T.F_check_range.ok sc_check_range (fun vs H Q E h => ?_) (fun cdv A outer s H vs Q E hr h => ?_)
  · obtain ⟨i, j, rfl, _⟩ := h
    rfl
  · obtain ⟨i, j, rfl, h⟩ := h
    have hr_check_sixty_digits : Room 3 _ := hr.mono (by decide)
    refine ⟨_, (pss_cons (ps_expr (pe_call G_check_sixty_digits hr_check_sixty_digits rfl T.g_check_sixty_digits T.k_check_sixty_digits T.b_check_sixty_digits .nil pass0 (pa_cons (pv 0 (hv := Or.inl rfl)) (pa_cons pe_str pa_nil))))
      (pss_one (ps_expr (pe_call G_check_sixty_digits hr_check_sixty_digits rfl T.g_check_sixty_digits T.k_check_sixty_digits T.b_check_sixty_digits .nil pass0 (pa_cons (pv 1 (hv := Or.inl rfl)) (pa_cons pe_str pa_nil)))))), ?_⟩
    try dsimp only [cxOf, Cx.nox, Cx.wish, Cx.blk]
    rw [show L2.start ["first", "last"] [.int i, .int j] = [some (.int i), some (.int j)] from rfl]
    obtain ⟨si, sj, k⟩ := h
    walk_at "rd"
    refine ⟨i, _, rfl, si, ?_⟩
    walk_at "rd"
    refine ⟨j, _, rfl, sj, ?_⟩
    walk_at "rd"
    exact k
def sp__check (K : PySem.W.Frag) (C : Addr) (TS : List (Addr × Str)) : Sp := fun vs H Q _ => ∃ (kp l : Addr) (first last : Int), vs = [.ref kp, .ref l, .int first, .int last] ∧ (∃ wd s, Kd C H kp wd s) ∧ (∃ a b, H l = some (.tup [.int a, .int b]) ∧ SD a ∧ SD b ∧ SD first ∧ SD last) ∧ Q .non H
theorem ok__check {P : Program} {w : World} {K : PySem.W.Frag} {mg : Str → Option Value} {base : Heap} (T : Txt K mg) : FnOk P w K mg base CX0 5 T.f__check T.fd__check ["kind", "line", "first", "last"] (sp__check K T.C_Kind []) := by
  have G_check_kind := ok_check_kind (P := P) (w := w) (base := base) T
  have G_check_line := ok_check_line (P := P) (w := w) (base := base) T
  have G_check_range := ok_check_range (P := P) (w := w) (base := base) T
  refine T.F__check.ok sc__check (fun vs H Q E h => ?_) (fun cdv A outer s H vs Q E hr h => ?_)
  · obtain ⟨kp, l, first, last, rfl, _⟩ := h
    rfl
  · obtain ⟨kp, l, first, last, rfl, h⟩ := h
    have hr_check_kind : Room 1 _ := hr.mono (by decide)
    have hr_check_line : Room 3 _ := hr.mono (by decide)
    have hr_check_range : Room 4 _ := hr.mono (by decide)
    refine ⟨_, (pss_cons (ps_expr (pe_call G_check_kind hr_check_kind rfl T.g_check_kind T.k_check_kind T.b_check_kind .nil pass0 (pa_cons (pv 0 (hv := Or.inl rfl)) pa_nil)))
      (pss_cons (ps_expr (pe_call G_check_line hr_check_line rfl T.g_check_line T.k_check_line T.b_check_line .nil pass0 (pa_cons (pv 1 (hv := Or.inl rfl)) (pa_cons pe_str pa_nil))))
      (pss_one (ps_expr (pe_call G_check_range hr_check_range rfl T.g_check_range T.k_check_range T.b_check_range .nil pass0 (pa_cons (pv 2 (hv := Or.inl rfl)) (pa_cons (pv 3 (hv := Or.inl rfl)) pa_nil))))))), ?_⟩
    try dsimp only [cxOf, Cx.nox, Cx.wish, Cx.blk]
    rw [show L2.start ["kind", "line", "first", "last"] [.ref kp, .ref l, .int first, .int last] = [some (.ref kp), some (.ref l), some (.int first), some (.int last)] from rfl]
    obtain ⟨hk, ⟨a, b, hl, sa, sb, sf, sl⟩, k⟩ := h
    walk_at "rd"
    refine ⟨kp, rfl, hk, ?_⟩
    walk_at "rd"
    refine ⟨l, _, a, b, rfl, hl, sa, sb, ?_⟩
    walk_at "rd"
    refine ⟨_, _, rfl, sf, sl, ?_⟩
    walk_at "rd"
    exact k
def sp__check_within (K : PySem.W.Frag) (C : Addr) (TS : List (Addr × Str)) : Sp := fun vs H Q _ => ∃ (kp l : Addr) (first last lo hi : Int), vs = [.ref kp, .ref l, .int first, .int last, .int lo, .int hi] ∧ (∃ wd s, Kd C H kp wd s ∧ loK wd s ≤ lo ∧ lo ≤ hiK wd s ∧ loK wd s ≤ hi ∧ hi ≤ hiK wd s) ∧ (∃ a b, H l = some (.tup [.int a, .int b]) ∧ SD a ∧ SD b ∧ SD first ∧ SD last) ∧ Q .non H
theorem ok__check_within {P : Program} {w : World} {K : PySem.W.Frag} {mg : Str → Option Value} {base : Heap} (T : Txt K mg) : FnOk P w K mg base CX0 6 T.f__check_within T.fd__check_within ["kind", "line", "first", "last", "low", "high"] (sp__check_within K T.C_Kind []) := by
  have G__check := ok__check (P := P) (w := w) (base := base) T
  have G_check_value := ok_check_value (P := P) (w := w) (base := base) T
  refine T.F__check_within.ok sc__check_within (fun vs H Q E h => ?_) (fun cdv A outer s H vs Q E hr h => ?_)
  · obtain ⟨kp, l, first, last, lo, hi, rfl, _⟩ := h
    rfl
  · obtain ⟨kp, l, first, last, lo, hi, rfl, h⟩ := h
    have hr__check : Room 5 _ := hr.mono (by decide)
    have hr_check_value : Room 5 _ := hr.mono (by decide)
    refine ⟨_, (pss_cons (ps_expr (pe_call G__check hr__check rfl T.g__check T.k__check T.b__check .nil pass0 (pa_cons (pv 0 (hv := Or.inl rfl)) (pa_cons (pv 1 (hv := Or.inl rfl)) (pa_cons (pv 2 (hv := Or.inl rfl)) (pa_cons (pv 3 (hv := Or.inl rfl)) pa_nil))))))
      (pss_cons (ps_expr (pe_call G_check_value hr_check_value rfl T.g_check_value T.k_check_value T.b_check_value .nil pass0 (pa_cons (pv 0 (hv := Or.inl rfl)) (pa_cons (pv 4 (hv := Or.inl rfl)) (pa_cons pe_str pa_nil)))))
      (pss_one (ps_expr (pe_call G_check_value hr_check_value rfl T.g_check_value T.k_check_value T.b_check_value .nil pass0 (pa_cons (pv 0 (hv := Or.inl rfl)) (pa_cons (pv 5 (hv := Or.inl rfl)) (pa_cons pe_str pa_nil)))))))), ?_⟩
    try dsimp only [cxOf, Cx.nox, Cx.wish, Cx.blk]
    rw [show L2.start ["kind", "line", "first", "last", "low", "high"] [.ref kp, .ref l, .int first, .int last, .int lo, .int hi] = [some (.ref kp), some (.ref l), some (.int first), some (.int last), some (.int lo), some (.int hi)] from rfl]
    obtain ⟨⟨wd, s, hk, b1, b2, b3, b4⟩, ⟨a, b, hl, sa, sb, sf, sl⟩, k⟩ := h
    walk_at "rd"
    refine ⟨kp, l, first, last, rfl, ⟨wd, s, hk⟩, ⟨a, b, hl, sa, sb, sf, sl⟩, ?_⟩
    walk_at "rd"
    refine ⟨kp, _, _, rfl, ⟨wd, s, hk, b1, b2⟩, ?_⟩
    walk_at "rd"
    refine ⟨kp, _, _, rfl, ⟨wd, s, hk, b3, b4⟩, ?_⟩
    walk_at "rd"
    exact k
def sp__total (K : PySem.W.Frag) (C : Addr) (TS : List (Addr × Str)) : Sp := fun vs H Q _ => ∃ (kp l : Addr) (first last lo hi : Int) (a b : Int) (wd : Nat) (s : Bool), vs = [.ref kp, .ref l, .int first, .int last, .int lo, .int hi] ∧ Kd C H kp wd s ∧ H l = some (.tup [.int a, .int b]) ∧ BB a ∧ BB b ∧ BB first ∧ BB last ∧ BB lo ∧ BB hi ∧ (lo ≤ hi → hi - lo < 2 ^ wd) ∧ ∀ H', Same H H' → Q (.int (tot (rsP wd a b lo hi) first last)) H'
theorem ok__total {P : Program} {w : World} {K : PySem.W.Frag} {mg : Str → Option Value} {base : Heap} (T : Txt K mg) : FnOk P w K mg base CX0 3 T.f__total T.fd__total ["kind", "line", "first", "last", "low", "high"] (sp__total K T.C_Kind []) := by
  have G_total_between := ok_total_between (P := P) (w := w) (base := base) T
  refine T.F__total.ok sc__total (fun vs H Q E h => ?_) (fun cdv A outer s H vs Q E hr h => ?_)
  · obtain ⟨kp, l, first, last, lo, hi, a, b, wd, s, rfl, _⟩ := h
    rfl
  · obtain ⟨kp, l, first, last, lo, hi, a, b, wd, s, rfl, h⟩ := h
    have hr_total_between : Room 2 _ := hr.mono (by decide)
    refine ⟨_, (pss_one (ps_ret (pe_call G_total_between hr_total_between rfl T.g_total_between T.k_total_between T.b_total_between .nil pass0 (pa_cons (pv 1 (hv := Or.inl rfl)) (pa_cons (pe_op op_shl pe_int (pe_fld (pv 0 (hv := Or.inl rfl)) rfl)) (pa_cons (pv 2 (hv := Or.inl rfl)) (pa_cons (pv 3 (hv := Or.inl rfl)) (pa_cons (pv 4 (hv := Or.inl rfl)) (pa_cons (pv 5 (hv := Or.inl rfl)) pa_nil))))))))), ?_⟩
    try dsimp only [cxOf, Cx.nox, Cx.wish, Cx.blk]
    rw [show L2.start ["kind", "line", "first", "last", "low", "high"] [.ref kp, .ref l, .int first, .int last, .int lo, .int hi] = [some (.ref kp), some (.ref l), some (.int first), some (.int last), some (.int lo), some (.int hi)] from rfl]
    obtain ⟨hk, hl, ba, bb, bf, bl, blo, bhi, hlt, k⟩ := h
    have h2 := hk.w2
    walk_at "rd"
    refine w_fb T rfl hk ?_
    walk_at "rd"
    refine w_I (cpow (n := 1) (by omega) (by decide)) ?_
    rw [Int.toNat_natCast, Int.one_mul]
    walk_at "rd"
    exact ⟨l, a, b, 2 ^ wd, first, last, lo, hi, rfl, hl, p2 wd, bb_pow h2, ba, bb, bf, bl, blo, bhi, hlt, k⟩
def sp_total_within (K : PySem.W.Frag) (C : Addr) (TS : List (Addr × Str)) : Sp := fun vs H Q _ => ∃ (kp l : Addr) (first last lo hi : Int) (a b : Int) (wd : Nat) (s : Bool), vs = [.ref kp, .ref l, .int first, .int last, .int lo, .int hi] ∧ Kd C H kp wd s ∧ H l = some (.tup [.int a, .int b]) ∧ SD a ∧ SD b ∧ SD first ∧ SD last ∧ loK wd s ≤ lo ∧ lo ≤ hiK wd s ∧ loK wd s ≤ hi ∧ hi ≤ hiK wd s ∧ ∀ H', Same H H' → Q (.int (tot (rsP wd a b lo hi) first last)) H'
theorem ok_total_within {P : Program} {w : World} {K : PySem.W.Frag} {mg : Str → Option Value} {base : Heap} (T : Txt K mg) : FnOk P w K mg base CX0 7 T.f_total_within T.fd_total_within ["kind", "line", "first", "last", "low", "high"] (sp_total_within K T.C_Kind []) := by
  have G__check_within := ok__check_within (P := P) (w := w) (base := base) T
  have G__total := ok__total (P := P) (w := w) (base := base) T
  refine T.F_total_within.ok sc_total_within (fun vs H Q E h => ?_) (fun cdv A outer s H vs Q E hr h => ?_)
  · obtain ⟨kp, l, first, last, lo, hi, a, b, wd, s, rfl, _⟩ := h
    rfl
  · obtain ⟨kp, l, first, last, lo, hi, a, b, wd, s, rfl, h⟩ := h
    have hr__check_within : Room 6 _ := hr.mono (by decide)
    have hr__total : Room 3 _ := hr.mono (by decide)
    refine ⟨_, (pss_cons (ps_expr (pe_call G__check_within hr__check_within rfl T.g__check_within T.k__check_within T.b__check_within .nil pass0 (pa_cons (pv 0 (hv := Or.inl rfl)) (pa_cons (pv 1 (hv := Or.inl rfl)) (pa_cons (pv 2 (hv := Or.inl rfl)) (pa_cons (pv 3 (hv := Or.inl rfl)) (pa_cons (pv 4 (hv := Or.inl rfl)) (pa_cons (pv 5 (hv := Or.inl rfl)) pa_nil))))))))
      (pss_one (ps_ret (pe_call G__total hr__total rfl T.g__total T.k__total T.b__total .nil pass0 (pa_cons (pv 0 (hv := Or.inl rfl)) (pa_cons (pv 1 (hv := Or.inl rfl)) (pa_cons (pv 2 (hv := Or.inl rfl)) (pa_cons (pv 3 (hv := Or.inl rfl)) (pa_cons (pv 4 (hv := Or.inl rfl)) (pa_cons (pv 5 (hv := Or.inl rfl)) pa_nil)))))))))), ?_⟩
    try dsimp only [cxOf, Cx.nox, Cx.wish, Cx.blk]
    rw [show L2.start ["kind", "line", "first", "last", "low", "high"] [.ref kp, .ref l, .int first, .int last, .int lo, .int hi] = [some (.ref kp), some (.ref l), some (.int first), some (.int last), some (.int lo), some (.int hi)] from rfl]
    obtain ⟨hk, hl, sa, sb, sf, sl, b1, b2, b3, b4, k⟩ := h
    have w2 := hk.w2
    walk_at "rd"
    refine ⟨kp, l, first, last, lo, hi, rfl, ⟨wd, s, hk, b1, b2, b3, b4⟩, ⟨a, b, hl, sa, sb, sf, sl⟩, ?_⟩
    walk_at "rd"
    refine ⟨kp, l, first, last, lo, hi, a, b, wd, s, rfl, hk, hl, sa.bb, sb.bb, sf.bb, sl.bb, bbk w2 b1 b2, bbk w2 b3 b4, fun _ => ?_, fun H' s' => ?_⟩
    · unfold hiK at b4; omega
    · exact k _ s'
def sp__count (K : PySem.W.Frag) (C : Addr) (TS : List (Addr × Str)) : Sp := fun vs H Q _ => ∃ (f l : Int), vs = [.int f, .int l] ∧ Q (.int (max 0 (l - f + 1))) H
theorem ok__count {P : Program} {w : World} {K : PySem.W.Frag} {mg : Str → Option Value} {base : Heap} (T : Txt K mg) : FnOk P w K mg base CX0 1 T.f__count T.fd__count ["first", "last"] (sp__count K T.C_Kind []) := by
  refine T.F__count.ok sc__count (fun vs H Q E h => ?_) (fun cdv A outer s H vs Q E hr h => ?_)
  · obtain ⟨f, l, rfl, _⟩ := h
    rfl
  · obtain ⟨f, l, rfl, h⟩ := h
    refine ⟨_, (pss_one (ps_ret (pe_callB (id := "max") (r := rmax2C) (call_max2 rfl) (by rfl) T.n_max (by decide +kernel) (pa_cons pe_int (pa_cons (pe_op op_add (pe_op op_sub (pv 1 (hv := Or.inl rfl)) (pv 0 (hv := Or.inl rfl))) pe_int) pa_nil))))), ?_⟩
    try dsimp only [cxOf, Cx.nox, Cx.wish, Cx.blk]
    rw [show L2.start ["first", "last"] [.int f, .int l] = [some (.int f), some (.int l)] from rfl]
    walk_at "rd"
    refine w_max2 ?_
    exact h
def sp__factors_between (K : PySem.W.Frag) (C : Addr) (TS : List (Addr × Str)) : Sp := fun vs H Q _ => ∃ (c lo hi : Int), vs = [.int c, .int lo, .int hi] ∧ c ≠ 0 ∧ BB c ∧ ∀ q, H q = none → Q (.ref q) (upd H q (.tup [.int (facS c lo hi), .int (facE c lo hi)]))
theorem ok__factors_between {P : Program} {w : World} {K : PySem.W.Frag} {mg : Str → Option Value} {base : Heap} (T : Txt K mg) : FnOk P w K mg base CX0 1 T.f__factors_between T.fd__factors_between ["c", "low", "high"] (sp__factors_between K T.C_Kind []) := by
  refine T.F__factors_between.ok sc__factors_between (fun vs H Q E h => ?_) (fun cdv A outer s H vs Q E hr h => ?_)
  · obtain ⟨c, lo, hi, rfl, _⟩ := h
    rfl
  · obtain ⟨c, lo, hi, rfl, h⟩ := h
    refine ⟨_, (pss_cons (ps_if (pt_cmpR op_lt (pv 0 (hv := Or.inl rfl)) pe_int (nomark _)) (pss_one (ps_par3 rfl sc__factors_between.nd (i := 0) (j := 1) (l := 2) rfl rfl rfl (by decide) (by decide) (by decide) rfl rfl rfl (pa_cons (pe_un un_neg (pv 0 (hv := Or.inl rfl))) (pa_cons (pe_un un_neg (pv 2 (hv := Or.inl rfl))) (pa_cons (pe_un un_neg (pv 1 (hv := Or.inl rfl))) pa_nil))) (by rfl))) pss_nil)
      (pss_one (ps_ret (pe_tup (pa_cons (pe_un un_neg (pe_op op_fdivW (pe_un un_neg (pv 1 (hv := Or.inl rfl))) (pv 0 (hv := Or.inl rfl)))) (pa_cons (pe_op op_fdivW (pv 2 (hv := Or.inl rfl)) (pv 0 (hv := Or.inl rfl))) pa_nil)))))), ?_⟩
    try dsimp only [cxOf, Cx.nox, Cx.wish, Cx.blk]
    rw [show L2.start ["c", "low", "high"] [.int c, .int lo, .int hi] = [some (.int c), some (.int lo), some (.int hi)] from rfl]
    obtain ⟨c0, bc, k⟩ := h
    unfold facS facE at k
    walk_at "rd"
    refine w_dec (fun n => ?_) (fun n => ?_)
    · rw [if_pos n, if_pos n] at k
      walk_at "rd"
      refine w_par3 ?_
      walk_at "rd"
      refine ⟨_, _, _, rfl, ?_⟩
      have bn : BB (-c) := by unfold BB at *; omega
      walk_at "rd"
      refine w_I (wide_div (show (0 : Int) < -c by omega) bn (by decide) (by decide)) ?_
      walk_at "rd"
      refine w_I (wide_div (show (0 : Int) < -c by omega) bn (by decide) (by decide)) ?_
      walk_at "rd"
      refine ⟨by show 2 ≤ sizeLine; decide, fun q hq => ?_⟩
      rw [Int.neg_neg]
      exact k q hq
    · rw [if_neg n, if_neg n] at k
      walk_at "rd"
      refine w_I (wide_div (show (0 : Int) < c by omega) bc (by decide) (by decide)) ?_
      walk_at "rd"
      refine w_I (wide_div (show (0 : Int) < c by omega) bc (by decide) (by decide)) ?_
      walk_at "rd"
      refine ⟨by show 2 ≤ sizeLine; decide, fun q hq => ?_⟩
      exact k q hq
def sp__safe_values (K : PySem.W.Frag) (C : Addr) (TS : List (Addr × Str)) : Sp := fun vs H Q _ => ∃ (kp : Addr) (o : Op) (c : Int) (wd : Nat) (s : Bool), vs = [.ref kp, .str o.nm, .int c] ∧ Kd C H kp wd s ∧ isV o ∧ (loK wd s ≤ c ∧ c ≤ hiK wd s) ∧ ∀ q S E H', H' q = some (.tup [.int S, .int E]) → Same H H' → Safe wd s o c S E → Q (.ref q) H'
theorem ok__safe_values {P : Program} {w : World} {K : PySem.W.Frag} {mg : Str → Option Value} {base : Heap} (T : Txt K mg) : FnOk P w K mg base CX0 4 T.f__safe_values T.fd__safe_values ["kind", "name", "c"] (sp__safe_values K T.C_Kind []) := by
  have G__factors_between := ok__factors_between (P := P) (w := w) (base := base) T
  have G_greatest := ok_greatest (P := P) (w := w) (base := base) T
  have G_least := ok_least (P := P) (w := w) (base := base) T
  refine T.F__safe_values.ok sc__safe_values (fun vs H Q E h => ?_) (fun cdv A outer s H vs Q E hr h => ?_)
  · obtain ⟨kp, o, c, wd, s, rfl, _⟩ := h
    rfl
  · obtain ⟨kp, o, c, wd, s, rfl, h⟩ := h
    have hr__factors_between : Room 1 _ := hr.mono (by decide)
    have hr_greatest : Room 3 _ := hr.mono (by decide)
    have hr_least : Room 2 _ := hr.mono (by decide)
    refine ⟨_, (pss_cons (ps_par rfl sc__safe_values.nd (i := 3) (j := 4) rfl rfl (by decide) rfl rfl (pa_cons (pe_call G_least hr_least rfl T.g_least T.k_least T.b_least .nil pass0 (pa_cons (pv 0 (hv := Or.inl rfl)) pa_nil)) (pa_cons (pe_call G_greatest hr_greatest rfl T.g_greatest T.k_greatest T.b_greatest .nil pass0 (pa_cons (pv 0 (hv := Or.inl rfl)) pa_nil)) pa_nil)) (by rfl))
      (pss_cons (ps_match (pv 1 (hv := Or.inl rfl))
      (pm_str (pss_one (ps_par rfl sc__safe_values.nd (i := 5) (j := 6) rfl rfl (by decide) rfl rfl (pa_cons (pe_op op_sub (pv 3 (hv := Or.inl rfl)) (pv 2 (hv := Or.inl rfl))) (pa_cons (pe_op op_sub (pv 4 (hv := Or.inl rfl)) (pv 2 (hv := Or.inl rfl))) pa_nil)) (by rfl)))
      (pm_str (pss_one (ps_par rfl sc__safe_values.nd (i := 5) (j := 6) rfl rfl (by decide) rfl rfl (pa_cons (pe_op op_add (pv 3 (hv := Or.inl rfl)) (pv 2 (hv := Or.inl rfl))) (pa_cons (pe_op op_add (pv 4 (hv := Or.inl rfl)) (pv 2 (hv := Or.inl rfl))) pa_nil)) (by rfl)))
      (pm_any (pss_one (ps_asg (pe_ifExp (pt_cmpR op_eq (pv 2 (hv := Or.inl rfl)) pe_int (nomark _)) (pe_tup (pa_cons (pv 3 (hv := Or.inl rfl)) (pa_cons (pv 4 (hv := Or.inl rfl)) pa_nil))) (pe_call G__factors_between hr__factors_between rfl T.g__factors_between T.k__factors_between T.b__factors_between .nil pass0 (pa_cons (pv 2 (hv := Or.inl rfl)) (pa_cons (pv 3 (hv := Or.inl rfl)) (pa_cons (pv 4 (hv := Or.inl rfl)) pa_nil))))) (pg_tup rfl (pgs_cons (pg_name (i := 5) sc__safe_values.nd rfl (Or.inl rfl)) (pgs_cons (pg_name (i := 6) sc__safe_values.nd rfl (Or.inl rfl)) pgs_nil)))))))))
      (pss_one (ps_ret (pe_tup (pa_cons (pe_callB (id := "max") (r := rmax2C) (call_max2 rfl) (by rfl) T.n_max (by decide +kernel) (pa_cons (pv 3 (hv := Or.inl rfl)) (pa_cons (pv 5 (hv := Or.inl rfl)) pa_nil))) (pa_cons (pe_callB (id := "min") (r := rmin2C) (call_min2 rfl) (by rfl) T.n_min (by decide +kernel) (pa_cons (pv 4 (hv := Or.inl rfl)) (pa_cons (pv 6 (hv := Or.inl rfl)) pa_nil))) pa_nil))))))), ?_⟩
    try dsimp only [cxOf, Cx.nox, Cx.wish, Cx.blk]
    rw [show L2.start ["kind", "name", "c", "low", "high", "start", "end"] [.ref kp, .str o.nm, .int c] = [some (.ref kp), some (.str o.nm), some (.int c), none, none, none, none] from rfl]
    obtain ⟨hk, ho, ⟨c1, c2⟩, k⟩ := h
    have w1 := hk.w1
    have w2 := hk.w2
    walk_at "rd"
    refine ⟨kp, wd, s, rfl, hk, ?_⟩
    walk_at "rd"
    refine ⟨kp, wd, s, rfl, hk, ?_⟩
    walk_at "rd"
    rcases ho with rfl | rfl | rfl
    all_goals
      dsimp only [Op.nm]
      repeat (first | refine w_caseT ?_ | refine w_caseF (by decide +kernel) ?_ | refine w_caseA ?_)
      walk_at "rd"
    · refine w_max2 ?_
      walk_at "rd"
      refine w_min2 ?_
      walk_at "rd"
      refine ⟨by show 2 ≤ sizeLine; decide, fun q hq => ?_⟩
      exact k q _ _ _ upd_same (sm_new (Same.refl H) hq) (safe_add w1 c1 c2)
    · refine w_max2 ?_
      walk_at "rd"
      refine w_min2 ?_
      walk_at "rd"
      refine ⟨by show 2 ≤ sizeLine; decide, fun q hq => ?_⟩
      exact k q _ _ _ upd_same (sm_new (Same.refl H) hq) (safe_sub w1 c1 c2)
    · refine w_if ?_
      walk_at "rd"
      refine w_dec (fun c0 => ?_) (fun c0 => ?_)
      · subst c0
        walk_at "rd"
        refine ⟨by show 2 ≤ sizeLine; decide, fun t ht => ?_⟩
        have e1 := sm_new (o := .tup [.int (loK wd s), .int (hiK wd s)]) (Same.refl H) ht
        have ht' : (L2.upd H t (.tup [.int (loK wd s), .int (hiK wd s)])) t = some (.tup [.int (loK wd s), .int (hiK wd s)]) := upd_same
        generalize L2.upd H t _ = H1 at e1 ht' ⊢
        walk_at "rd"
        refine w_max2 ?_
        walk_at "rd"
        refine w_min2 ?_
        walk_at "rd"
        refine ⟨by show 2 ≤ sizeLine; decide, fun q hq => ?_⟩
        exact k q _ _ _ upd_same (sm_new e1 hq) (safe_mul0 w1)
      · walk_at "rd"
        refine ⟨c, _, _, rfl, c0, bbk w2 c1 c2, fun t ht => ?_⟩
        have e1 := sm_new (o := .tup [.int (facS c (loK wd s) (hiK wd s)), .int (facE c (loK wd s) (hiK wd s))]) (Same.refl H) ht
        have ht' : (L2.upd H t (.tup [.int (facS c (loK wd s) (hiK wd s)), .int (facE c (loK wd s) (hiK wd s))])) t = some (.tup [.int (facS c (loK wd s) (hiK wd s)), .int (facE c (loK wd s) (hiK wd s))]) := upd_same
        generalize L2.upd H t _ = H1 at e1 ht' ⊢
        walk_at "rd"
        refine w_max2 ?_
        walk_at "rd"
        refine w_min2 ?_
        walk_at "rd"
        refine ⟨by show 2 ≤ sizeLine; decide, fun q hq => ?_⟩
        exact k q _ _ _ upd_same (sm_new e1 hq) (safe_mul w1 c0)
def sp__check_constant (K : PySem.W.Frag) (C : Addr) (TS : List (Addr × Str)) : Sp := fun vs H Q _ => ∃ (kp : Addr) (o : Op) (c : Int), vs = [.ref kp, .str o.nm, .int c] ∧ (∃ wd s, Kd C H kp wd s ∧ loK wd s ≤ c ∧ c ≤ hiK wd s) ∧ isV o ∧ Q .non H
theorem ok__check_constant {P : Program} {w : World} {K : PySem.W.Frag} {mg : Str → Option Value} {base : Heap} (T : Txt K mg) : FnOk P w K mg base CX0 6 T.f__check_constant T.fd__check_constant ["kind", "name", "c"] (sp__check_constant K T.C_Kind []) := by
  have G_check_kind := ok_check_kind (P := P) (w := w) (base := base) T
  have G_check_value := ok_check_value (P := P) (w := w) (base := base) T
  have G_check_word := ok_check_word (P := P) (w := w) (base := base) T
  refine T.F__check_constant.ok sc__check_constant (fun vs H Q E h => ?_) (fun cdv A outer s H vs Q E hr h => ?_)
  · obtain ⟨kp, o, c, rfl, _⟩ := h
    rfl
  · obtain ⟨kp, o, c, rfl, h⟩ := h
    have hr_check_kind : Room 1 _ := hr.mono (by decide)
    have hr_check_value : Room 5 _ := hr.mono (by decide)
    have hr_check_word : Room 2 _ := hr.mono (by decide)
    refine ⟨_, (pss_cons (ps_expr (pe_call G_check_kind hr_check_kind rfl T.g_check_kind T.k_check_kind T.b_check_kind .nil pass0 (pa_cons (pv 0 (hv := Or.inl rfl)) pa_nil)))
      (pss_cons (ps_expr (pe_call G_check_word hr_check_word rfl T.g_check_word T.k_check_word T.b_check_word .nil pass0 (pa_cons (pv 1 (hv := Or.inl rfl)) (pa_cons (pe_glob (v := .ref T.a_VALUE_OPERATIONS) rfl T.g_VALUE_OPERATIONS rfl) (pa_cons pe_str pa_nil)))))
      (pss_one (ps_expr (pe_call G_check_value hr_check_value rfl T.g_check_value T.k_check_value T.b_check_value .nil pass0 (pa_cons (pv 0 (hv := Or.inl rfl)) (pa_cons (pv 2 (hv := Or.inl rfl)) (pa_cons pe_str pa_nil)))))))), ?_⟩
    try dsimp only [cxOf, Cx.nox, Cx.wish, Cx.blk]
    rw [show L2.start ["kind", "name", "c"] [.ref kp, .str o.nm, .int c] = [some (.ref kp), some (.str o.nm), some (.int c)] from rfl]
    obtain ⟨⟨wd, s, hk, c1, c2⟩, ho, k⟩ := h
    walk_at "rd"
    refine ⟨kp, rfl, ⟨wd, s, hk⟩, ?_⟩
    walk_at "rd"
    refine ⟨_, _, _, _, rfl, T.q_VALUE_OPERATIONS H, rfl, in_v ho, ?_⟩
    walk_at "rd"
    refine ⟨kp, c, _, rfl, ⟨wd, s, hk, c1, c2⟩, ?_⟩
    walk_at "rd"
    exact k
def sp_overflow_total (K : PySem.W.Frag) (C : Addr) (TS : List (Addr × Str)) : Sp := fun vs H Q _ => ∃ (kp : Addr) (o : Op) (c f l : Int) (wd : Nat) (s : Bool), vs = [.ref kp, .str o.nm, .int c, .int f, .int l] ∧ Kd C H kp wd s ∧ isV o ∧ (loK wd s ≤ c ∧ c ≤ hiK wd s) ∧ (loK wd s ≤ f ∧ f ≤ hiK wd s) ∧ (loK wd s ≤ l ∧ l ≤ hiK wd s) ∧ ∀ H', Same H H' → Q (.int (tot (fun x => !fits wd s (exO o x c)) f l)) H'
theorem ok_overflow_total {P : Program} {w : World} {K : PySem.W.Frag} {mg : Str → Option Value} {base : Heap} (T : Txt K mg) : FnOk P w K mg base CX0 7 T.f_overflow_total T.fd_overflow_total ["kind", "name", "c", "first", "last"] (sp_overflow_total K T.C_Kind []) := by
  have G__check_constant := ok__check_constant (P := P) (w := w) (base := base) T
  have G__count := ok__count (P := P) (w := w) (base := base) T
  have G__safe_values := ok__safe_values (P := P) (w := w) (base := base) T
  have G_check_value := ok_check_value (P := P) (w := w) (base := base) T
  refine T.F_overflow_total.ok sc_overflow_total (fun vs H Q E h => ?_) (fun cdv A outer s H vs Q E hr h => ?_)
  · obtain ⟨kp, o, c, f, l, wd, s, rfl, _⟩ := h
    rfl
  · obtain ⟨kp, o, c, f, l, wd, s, rfl, h⟩ := h
    have hr__check_constant : Room 6 _ := hr.mono (by decide)
    have hr__count : Room 1 _ := hr.mono (by decide)
    have hr__safe_values : Room 4 _ := hr.mono (by decide)
    have hr_check_value : Room 5 _ := hr.mono (by decide)
    refine ⟨_, (pss_cons (ps_expr (pe_call G__check_constant hr__check_constant rfl T.g__check_constant T.k__check_constant T.b__check_constant .nil pass0 (pa_cons (pv 0 (hv := Or.inl rfl)) (pa_cons (pv 1 (hv := Or.inl rfl)) (pa_cons (pv 2 (hv := Or.inl rfl)) pa_nil)))))
      (pss_cons (ps_expr (pe_call G_check_value hr_check_value rfl T.g_check_value T.k_check_value T.b_check_value .nil pass0 (pa_cons (pv 0 (hv := Or.inl rfl)) (pa_cons (pv 3 (hv := Or.inl rfl)) (pa_cons pe_str pa_nil)))))
      (pss_cons (ps_expr (pe_call G_check_value hr_check_value rfl T.g_check_value T.k_check_value T.b_check_value .nil pass0 (pa_cons (pv 0 (hv := Or.inl rfl)) (pa_cons (pv 4 (hv := Or.inl rfl)) (pa_cons pe_str pa_nil)))))
      (pss_cons (ps_asg (pe_call G__safe_values hr__safe_values rfl T.g__safe_values T.k__safe_values T.b__safe_values .nil pass0 (pa_cons (pv 0 (hv := Or.inl rfl)) (pa_cons (pv 1 (hv := Or.inl rfl)) (pa_cons (pv 2 (hv := Or.inl rfl)) pa_nil)))) (pg_tup rfl (pgs_cons (pg_name (i := 5) sc_overflow_total.nd rfl (Or.inl rfl)) (pgs_cons (pg_name (i := 6) sc_overflow_total.nd rfl (Or.inl rfl)) pgs_nil))))
      (pss_one (ps_ret (pe_op op_sub (pe_call G__count hr__count rfl T.g__count T.k__count T.b__count .nil pass0 (pa_cons (pv 3 (hv := Or.inl rfl)) (pa_cons (pv 4 (hv := Or.inl rfl)) pa_nil))) (pe_call G__count hr__count rfl T.g__count T.k__count T.b__count .nil pass0 (pa_cons (pe_callB (id := "max") (r := rmax2C) (call_max2 rfl) (by rfl) T.n_max (by decide +kernel) (pa_cons (pv 3 (hv := Or.inl rfl)) (pa_cons (pv 5 (hv := Or.inl rfl)) pa_nil))) (pa_cons (pe_callB (id := "min") (r := rmin2C) (call_min2 rfl) (by rfl) T.n_min (by decide +kernel) (pa_cons (pv 4 (hv := Or.inl rfl)) (pa_cons (pv 6 (hv := Or.inl rfl)) pa_nil))) pa_nil)))))))))), ?_⟩
    try dsimp only [cxOf, Cx.nox, Cx.wish, Cx.blk]
    rw [show L2.start ["kind", "name", "c", "first", "last", "start", "end"] [.ref kp, .str o.nm, .int c, .int f, .int l] = [some (.ref kp), some (.str o.nm), some (.int c), some (.int f), some (.int l), none, none] from rfl]
    obtain ⟨hk, ho, ⟨c1, c2⟩, ⟨f1, f2⟩, ⟨l1, l2⟩, k⟩ := h
    walk_at "rd"
    refine ⟨kp, o, c, rfl, ⟨wd, s, hk, c1, c2⟩, ho, ?_⟩
    walk_at "rd"
    refine ⟨kp, f, _, rfl, ⟨wd, s, hk, f1, f2⟩, ?_⟩
    walk_at "rd"
    refine ⟨kp, l, _, rfl, ⟨wd, s, hk, l1, l2⟩, ?_⟩
    walk_at "rd"
    refine ⟨kp, o, c, wd, s, rfl, hk, ho, ⟨c1, c2⟩, fun q S E H1 hq s1 sf => ?_⟩
    walk_at "rd"
    refine ⟨_, _, rfl, ?_⟩
    walk_at "rd"
    refine w_max2 ?_
    walk_at "rd"
    refine w_min2 ?_
    walk_at "rd"
    refine ⟨_, _, rfl, ?_⟩
    walk_at "rd"
    rw [← sf.tot f1 l2]
    exact k _ s1
def sp_safe_values (K : PySem.W.Frag) (C : Addr) (TS : List (Addr × Str)) : Sp := fun vs H Q _ => ∃ (kp : Addr) (o : Op) (c : Int) (wd : Nat) (s : Bool), vs = [.ref kp, .str o.nm, .int c] ∧ Kd C H kp wd s ∧ isV o ∧ (loK wd s ≤ c ∧ c ≤ hiK wd s) ∧ ∀ q S E H', H' q = some (.tup [.int S, .int E]) → Same H H' → Safe wd s o c S E → Q (.ref q) H'
theorem ok_safe_values {P : Program} {w : World} {K : PySem.W.Frag} {mg : Str → Option Value} {base : Heap} (T : Txt K mg) : FnOk P w K mg base CX0 7 T.f_safe_values T.fd_safe_values ["kind", "name", "c"] (sp_safe_values K T.C_Kind []) := by
  have G__check_constant := ok__check_constant (P := P) (w := w) (base := base) T
  have G__safe_values := ok__safe_values (P := P) (w := w) (base := base) T
  refine T.F_safe_values.ok sc_safe_values (fun vs H Q E h => ?_) (fun cdv A outer s H vs Q E hr h => ?_)
  · obtain ⟨kp, o, c, wd, s, rfl, _⟩ := h
    rfl
  · obtain ⟨kp, o, c, wd, s, rfl, h⟩ := h
    have hr__check_constant : Room 6 _ := hr.mono (by decide)
    have hr__safe_values : Room 4 _ := hr.mono (by decide)
    refine ⟨_, (pss_cons (ps_expr (pe_call G__check_constant hr__check_constant rfl T.g__check_constant T.k__check_constant T.b__check_constant .nil pass0 (pa_cons (pv 0 (hv := Or.inl rfl)) (pa_cons (pv 1 (hv := Or.inl rfl)) (pa_cons (pv 2 (hv := Or.inl rfl)) pa_nil)))))
      (pss_one (ps_ret (pe_call G__safe_values hr__safe_values rfl T.g__safe_values T.k__safe_values T.b__safe_values .nil pass0 (pa_cons (pv 0 (hv := Or.inl rfl)) (pa_cons (pv 1 (hv := Or.inl rfl)) (pa_cons (pv 2 (hv := Or.inl rfl)) pa_nil))))))), ?_⟩
    try dsimp only [cxOf, Cx.nox, Cx.wish, Cx.blk]
    rw [show L2.start ["kind", "name", "c"] [.ref kp, .str o.nm, .int c] = [some (.ref kp), some (.str o.nm), some (.int c)] from rfl]
    obtain ⟨hk, ho, ⟨c1, c2⟩, k⟩ := h
    walk_at "rd"
    refine ⟨kp, o, c, rfl, ⟨wd, s, hk, c1, c2⟩, ho, ?_⟩
    walk_at "rd"
    exact ⟨kp, o, c, wd, s, rfl, hk, ho, ⟨c1, c2⟩, k⟩
def sp__check_span (K : PySem.W.Frag) (C : Addr) (TS : List (Addr × Str)) : Sp := fun vs H Q _ => ∃ (kp q : Addr) (z : Str), vs = [.ref kp, .ref q, .str z] ∧ (∃ wd s a b, Kd C H kp wd s ∧ H q = some (.tup [.int a, .int b]) ∧ loK wd s ≤ a ∧ a ≤ b ∧ b ≤ hiK wd s) ∧ Q .non H
theorem ok__check_span {P : Program} {w : World} {K : PySem.W.Frag} {mg : Str → Option Value} {base : Heap} (T : Txt K mg) : FnOk P w K mg base CX0 5 T.f__check_span T.fd__check_span ["kind", "span", "argument"] (sp__check_span K T.C_Kind []) := by
  have G_is_value := ok_is_value (P := P) (w := w) (base := base) T
  refine T.F__check_span.ok sc__check_span (fun vs H Q E h => ?_) (fun cdv A outer s H vs Q E hr h => ?_)
  · obtain ⟨kp, q, z, rfl, _⟩ := h
    rfl
  · obtain ⟨kp, q, z, rfl, h⟩ := h
    have hr_is_value : Room 4 _ := hr.mono (by decide)
    refine ⟨_, (pss_cons (ps_if (pt_not (PW.pt (pw_and (pt_val (pe_callB (id := "isinstance") (r := rIsi K) call_isi (by rfl) T.n_isinstance (by decide +kernel) (pa_cons (pv 1 (hv := Or.inl rfl)) (pa_cons (pe_bltn (v := .ty "tuple") (by rfl) T.n_tuple (by decide +kernel) rfl) pa_nil)))) (pw_and1 (pt_cmpR op_eq (pe_callB (id := "len") (r := rLenS K) call_len_seq (by rfl) T.n_len (by decide +kernel) (pa_cons (pv 1 (hv := Or.inl rfl)) pa_nil)) pe_int (nomark _)))))) (pss_one ps_never) pss_nil)
      (pss_one (ps_if (pt_not (PW.pt (pw_and (pt_val (pe_call G_is_value hr_is_value rfl T.g_is_value T.k_is_value T.b_is_value .nil pass0 (pa_cons (pv 0 (hv := Or.inl rfl)) (pa_cons (pe_ix (r := rIxT K) ix_tup (pv 1 (hv := Or.inl rfl)) pe_int (fun _ _ => rfl)) pa_nil)))) (pw_and (pt_val (pe_call G_is_value hr_is_value rfl T.g_is_value T.k_is_value T.b_is_value .nil pass0 (pa_cons (pv 0 (hv := Or.inl rfl)) (pa_cons (pe_ix (r := rIxT K) ix_tup (pv 1 (hv := Or.inl rfl)) pe_int (fun _ _ => rfl)) pa_nil)))) (pw_and1 (pt_cmpR op_le (pe_ix (r := rIxT K) ix_tup (pv 1 (hv := Or.inl rfl)) pe_int (fun _ _ => rfl)) (pe_ix (r := rIxT K) ix_tup (pv 1 (hv := Or.inl rfl)) pe_int (fun _ _ => rfl)) (nomark _))))))) (pss_one ps_never) pss_nil))), ?_⟩
    try dsimp only [cxOf, Cx.nox, Cx.wish, Cx.blk]
    rw [show L2.start ["kind", "span", "argument"] [.ref kp, .ref q, .str z] = [some (.ref kp), some (.ref q), some (.str z)] from rfl]
    obtain ⟨⟨wd, s, a, b, hk, hq, a1, ab, b1⟩, k⟩ := h
    walk_at "rd"
    refine w_isi (b := true) (.base (.tup hq)) (by decide +kernel) ?_
    walk_at "rd"
    refine iteT ?_
    walk_at "rd"
    refine w_lenT hq ?_
    walk_at "rd"
    refine w_bF (by simp) ?_
    walk_at "rd"
    refine ⟨kp, _, wd, s, rfl, hk, .inl ⟨a, rfl, ?_⟩⟩
    walk_at "rd"
    rw [decide_eq_true (show loK wd s ≤ a ∧ a ≤ hiK wd s from ⟨a1, by omega⟩)]
    refine iteT ?_
    walk_at "rd"
    refine ⟨kp, _, wd, s, rfl, hk, .inl ⟨b, rfl, ?_⟩⟩
    walk_at "rd"
    rw [decide_eq_true (show loK wd s ≤ b ∧ b ≤ hiK wd s from ⟨by omega, b1⟩)]
    refine iteT ?_
    walk_at "rd"
    refine w_bF (by rw [decide_eq_true ab]; rfl) ?_
    walk_at "rd"
    exact k
def sp__check_pairs (K : PySem.W.Frag) (C : Addr) (TS : List (Addr × Str)) : Sp := fun vs H Q _ => ∃ (kp : Addr) (o : Op) (qx qy : Addr), vs = [.ref kp, .str o.nm, .ref qx, .ref qy] ∧ isP o ∧ (∃ wd s x0 x1 y0 y1, Kd C H kp wd s ∧ H qx = some (.tup [.int x0, .int x1]) ∧ H qy = some (.tup [.int y0, .int y1]) ∧ (loK wd s ≤ x0 ∧ x0 ≤ x1 ∧ x1 ≤ hiK wd s) ∧ (loK wd s ≤ y0 ∧ y0 ≤ y1 ∧ y1 ≤ hiK wd s)) ∧ Q .non H
theorem ok__check_pairs {P : Program} {w : World} {K : PySem.W.Frag} {mg : Str → Option Value} {base : Heap} (T : Txt K mg) : FnOk P w K mg base CX0 6 T.f__check_pairs T.fd__check_pairs ["kind", "name", "xs", "ys"] (sp__check_pairs K T.C_Kind []) := by
  have G__check_span := ok__check_span (P := P) (w := w) (base := base) T
  have G_check_kind := ok_check_kind (P := P) (w := w) (base := base) T
  have G_check_word := ok_check_word (P := P) (w := w) (base := base) T
  refine T.F__check_pairs.ok sc__check_pairs (fun vs H Q E h => ?_) (fun cdv A outer s H vs Q E hr h => ?_)
  · obtain ⟨kp, o, qx, qy, rfl, _⟩ := h
    rfl
  · obtain ⟨kp, o, qx, qy, rfl, h⟩ := h
    have hr__check_span : Room 5 _ := hr.mono (by decide)
    have hr_check_kind : Room 1 _ := hr.mono (by decide)
    have hr_check_word : Room 2 _ := hr.mono (by decide)
    refine ⟨_, (pss_cons (ps_expr (pe_call G_check_kind hr_check_kind rfl T.g_check_kind T.k_check_kind T.b_check_kind .nil pass0 (pa_cons (pv 0 (hv := Or.inl rfl)) pa_nil)))
      (pss_cons (ps_expr (pe_call G_check_word hr_check_word rfl T.g_check_word T.k_check_word T.b_check_word .nil pass0 (pa_cons (pv 1 (hv := Or.inl rfl)) (pa_cons (pe_glob (v := .ref T.a_PAIR_OPERATIONS) rfl T.g_PAIR_OPERATIONS rfl) (pa_cons pe_str pa_nil)))))
      (pss_cons (ps_expr (pe_call G__check_span hr__check_span rfl T.g__check_span T.k__check_span T.b__check_span .nil pass0 (pa_cons (pv 0 (hv := Or.inl rfl)) (pa_cons (pv 2 (hv := Or.inl rfl)) (pa_cons pe_str pa_nil)))))
      (pss_one (ps_expr (pe_call G__check_span hr__check_span rfl T.g__check_span T.k__check_span T.b__check_span .nil pass0 (pa_cons (pv 0 (hv := Or.inl rfl)) (pa_cons (pv 3 (hv := Or.inl rfl)) (pa_cons pe_str pa_nil))))))))), ?_⟩
    try dsimp only [cxOf, Cx.nox, Cx.wish, Cx.blk]
    rw [show L2.start ["kind", "name", "xs", "ys"] [.ref kp, .str o.nm, .ref qx, .ref qy] = [some (.ref kp), some (.str o.nm), some (.ref qx), some (.ref qy)] from rfl]
    obtain ⟨ho, ⟨wd, s, x0, x1, y0, y1, hk, hx, hy, ⟨x01, x02, x03⟩, ⟨y01, y02, y03⟩⟩, k⟩ := h
    walk_at "rd"
    refine ⟨kp, rfl, ⟨wd, s, hk⟩, ?_⟩
    walk_at "rd"
    refine ⟨_, _, _, _, rfl, T.q_PAIR_OPERATIONS H, rfl, in_p ho, ?_⟩
    walk_at "rd"
    refine ⟨kp, qx, _, rfl, ⟨wd, s, x0, x1, hk, hx, x01, x02, x03⟩, ?_⟩
    walk_at "rd"
    refine ⟨kp, qy, _, rfl, ⟨wd, s, y0, y1, hk, hy, y01, y02, y03⟩, ?_⟩
    walk_at "rd"
    exact k
def sp__corner (K : PySem.W.Frag) (C : Addr) (TS : List (Addr × Str)) : Sp := fun vs H Q _ => ∃ (x : Int), vs = [.int x] ∧ -(2 ^ 290) ≤ x ∧ x ≤ 2 ^ 290 ∧ Q (.int (corn x)) H
theorem ok__corner {P : Program} {w : World} {K : PySem.W.Frag} {mg : Str → Option Value} {base : Heap} (T : Txt K mg) : FnOk P w K mg base CX0 1 T.f__corner T.fd__corner ["height"] (sp__corner K T.C_Kind []) := by
  refine T.F__corner.ok sc__corner (fun vs H Q E h => ?_) (fun cdv A outer s H vs Q E hr h => ?_)
  · obtain ⟨x, rfl, _⟩ := h
    rfl
  · obtain ⟨x, rfl, h⟩ := h
    refine ⟨_, (pss_one (ps_ret (pe_ifExp (pt_cmpR op_ge (pv 0 (hv := Or.inl rfl)) pe_int (nomark _)) (pe_op op_fdiv (pe_op op_mulX (pe_op op_add (pv 0 (hv := Or.inl rfl)) pe_int) (pe_op op_add (pv 0 (hv := Or.inl rfl)) pe_int)) pe_int) pe_int))), ?_⟩
    try dsimp only [cxOf, Cx.nox, Cx.wish, Cx.blk]
    rw [show L2.start ["height"] [.int x] = [some (.int x)] from rfl]
    obtain ⟨b1, b2, k⟩ := h
    have z7 := p290
    have q290 : (1 : Int) ≤ 2 ^ 290 := by decide +kernel
    unfold corn at k
    walk_at "rd"
    refine w_if ?_
    walk_at "rd"
    refine w_dec (fun c => ?_) (fun c => ?_)
    · rw [if_pos c] at k
      walk_at "rd"
      refine w_I (mulx_ok (show BB (x + 1) from bb_of (by omega) (by omega)) (show BB (x + 2) from bb_of (by omega) (by omega)) (by decide)) ?_
      walk_at "rd"
      exact k
    · rw [if_neg c] at k
      walk_at "rd"
      exact k
def sp__sums_up_to (K : PySem.W.Frag) (C : Addr) (TS : List (Addr × Str)) : Sp := fun vs H Q _ => ∃ (qx qy : Addr) (m x0 x1 y0 y1 : Int), vs = [.ref qx, .ref qy, .int m] ∧ H qx = some (.tup [.int x0, .int x1]) ∧ H qy = some (.tup [.int y0, .int y1]) ∧ (x0 ≤ x1 ∧ -(2 ^ 128) ≤ x0 ∧ x1 ≤ 2 ^ 128) ∧ (y0 ≤ y1 ∧ -(2 ^ 128) ≤ y0 ∧ y1 ≤ 2 ^ 128) ∧ VB m ∧ Q (.int (smS x0 x1 y0 y1 m)) H
theorem ok__sums_up_to {P : Program} {w : World} {K : PySem.W.Frag} {mg : Str → Option Value} {base : Heap} (T : Txt K mg) : FnOk P w K mg base CX0 2 T.f__sums_up_to T.fd__sums_up_to ["xs", "ys", "most"] (sp__sums_up_to K T.C_Kind []) := by
  have G__corner := ok__corner (P := P) (w := w) (base := base) T
  have G__count := ok__count (P := P) (w := w) (base := base) T
  refine T.F__sums_up_to.ok sc__sums_up_to (fun vs H Q E h => ?_) (fun cdv A outer s H vs Q E hr h => ?_)
  · obtain ⟨qx, qy, m, x0, x1, y0, y1, rfl, _⟩ := h
    rfl
  · obtain ⟨qx, qy, m, x0, x1, y0, y1, rfl, h⟩ := h
    have hr__corner : Room 1 _ := hr.mono (by decide)
    have hr__count : Room 1 _ := hr.mono (by decide)
    refine ⟨_, (pss_cons (ps_set (i := 3) sc__sums_up_to.nd rfl (Or.inl rfl) (pe_op op_sub (pe_op op_sub (pv 2 (hv := Or.inl rfl)) (pe_ix (r := rIxT K) ix_tup (pv 0 (hv := Or.inl rfl)) pe_int (fun _ _ => rfl))) (pe_ix (r := rIxT K) ix_tup (pv 1 (hv := Or.inl rfl)) pe_int (fun _ _ => rfl))))
      (pss_cons (ps_par rfl sc__sums_up_to.nd (i := 4) (j := 5) rfl rfl (by decide) rfl rfl (pa_cons (pe_call G__count hr__count rfl T.g__count T.k__count T.b__count .nil pass0 (pa_cons (pe_ix (r := rIxT K) ix_tup (pv 0 (hv := Or.inl rfl)) pe_int (fun _ _ => rfl)) (pa_cons (pe_ix (r := rIxT K) ix_tup (pv 0 (hv := Or.inl rfl)) pe_int (fun _ _ => rfl)) pa_nil))) (pa_cons (pe_call G__count hr__count rfl T.g__count T.k__count T.b__count .nil pass0 (pa_cons (pe_ix (r := rIxT K) ix_tup (pv 1 (hv := Or.inl rfl)) pe_int (fun _ _ => rfl)) (pa_cons (pe_ix (r := rIxT K) ix_tup (pv 1 (hv := Or.inl rfl)) pe_int (fun _ _ => rfl)) pa_nil))) pa_nil)) (by rfl))
      (pss_one (ps_ret (pe_op op_add (pe_op op_sub (pe_op op_sub (pe_call G__corner hr__corner rfl T.g__corner T.k__corner T.b__corner .nil pass0 (pa_cons (pv 3 (hv := Or.inl rfl)) pa_nil)) (pe_call G__corner hr__corner rfl T.g__corner T.k__corner T.b__corner .nil pass0 (pa_cons (pe_op op_sub (pv 3 (hv := Or.inl rfl)) (pv 4 (hv := Or.inl rfl))) pa_nil))) (pe_call G__corner hr__corner rfl T.g__corner T.k__corner T.b__corner .nil pass0 (pa_cons (pe_op op_sub (pv 3 (hv := Or.inl rfl)) (pv 5 (hv := Or.inl rfl))) pa_nil))) (pe_call G__corner hr__corner rfl T.g__corner T.k__corner T.b__corner .nil pass0 (pa_cons (pe_op op_sub (pe_op op_sub (pv 3 (hv := Or.inl rfl)) (pv 4 (hv := Or.inl rfl))) (pv 5 (hv := Or.inl rfl))) pa_nil))))))), ?_⟩
    try dsimp only [cxOf, Cx.nox, Cx.wish, Cx.blk]
    rw [show L2.start ["xs", "ys", "most", "height", "width", "depth"] [.ref qx, .ref qy, .int m] = [some (.ref qx), some (.ref qy), some (.int m), none, none, none] from rfl]
    obtain ⟨hx, hy, ⟨x01, x02, x03⟩, ⟨y01, y02, y03⟩, ⟨m1, m2⟩, k⟩ := h
    obtain ⟨p1, p2', p3⟩ := p132
    walk_at "rd"
    refine ⟨_, _, rfl, ?_⟩
    walk_at "rd"
    refine ⟨_, _, rfl, ?_⟩
    walk_at "rd"
    refine ⟨_, rfl, by omega, by omega, ?_⟩
    walk_at "rd"
    refine ⟨_, rfl, by omega, by omega, ?_⟩
    walk_at "rd"
    refine ⟨_, rfl, by omega, by omega, ?_⟩
    walk_at "rd"
    refine ⟨_, rfl, by omega, by omega, ?_⟩
    walk_at "rd"
    rw [← sm_corn x01 y01]
    exact k
def sp__pairs_between (K : PySem.W.Frag) (C : Addr) (TS : List (Addr × Str)) : Sp := fun vs H Q _ => ∃ (o : Op) (qx qy : Addr) (lo hi x0 x1 y0 y1 : Int), vs = [.str o.nm, .ref qx, .ref qy, .int lo, .int hi] ∧ isP o ∧ H qx = some (.tup [.int x0, .int x1]) ∧ H qy = some (.tup [.int y0, .int y1]) ∧ (x0 ≤ x1 ∧ -(2 ^ 128) ≤ x0 ∧ x1 ≤ 2 ^ 128) ∧ (y0 ≤ y1 ∧ -(2 ^ 128) ≤ y0 ∧ y1 ≤ 2 ^ 128) ∧ (-(2 ^ 131) ≤ lo ∧ lo ≤ 2 ^ 131) ∧ (-(2 ^ 131) ≤ hi ∧ hi ≤ 2 ^ 131) ∧ ∀ H', Same H H' → Q (.int (prB o lo hi x0 x1 y0 y1)) H'
theorem ok__pairs_between {P : Program} {w : World} {K : PySem.W.Frag} {mg : Str → Option Value} {base : Heap} (T : Txt K mg) : FnOk P w K mg base CX0 3 T.f__pairs_between T.fd__pairs_between ["name", "xs", "ys", "low", "high"] (sp__pairs_between K T.C_Kind []) := by
  have G__sums_up_to := ok__sums_up_to (P := P) (w := w) (base := base) T
  refine T.F__pairs_between.ok sc__pairs_between (fun vs H Q E h => ?_) (fun cdv A outer s H vs Q E hr h => ?_)
  · obtain ⟨o, qx, qy, lo, hi, x0, x1, y0, y1, rfl, _⟩ := h
    rfl
  · obtain ⟨o, qx, qy, lo, hi, x0, x1, y0, y1, rfl, h⟩ := h
    have hr__sums_up_to : Room 2 _ := hr.mono (by decide)
    refine ⟨_, (pss_cons (ps_if (pt_cmpR op_eq (pv 0 (hv := Or.inl rfl)) pe_str (nomark _)) (pss_one (ps_set (i := 2) sc__pairs_between.nd rfl (Or.inl rfl) (pe_tup (pa_cons (pe_un un_neg (pe_ix (r := rIxT K) ix_tup (pv 2 (hv := Or.inl rfl)) pe_int (fun _ _ => rfl))) (pa_cons (pe_un un_neg (pe_ix (r := rIxT K) ix_tup (pv 2 (hv := Or.inl rfl)) pe_int (fun _ _ => rfl))) pa_nil))))) pss_nil)
      (pss_one (ps_ret (pe_callB (id := "max") (r := rmax2C) (call_max2 rfl) (by rfl) T.n_max (by decide +kernel) (pa_cons pe_int (pa_cons (pe_op op_sub (pe_call G__sums_up_to hr__sums_up_to rfl T.g__sums_up_to T.k__sums_up_to T.b__sums_up_to .nil pass0 (pa_cons (pv 1 (hv := Or.inl rfl)) (pa_cons (pv 2 (hv := Or.inl rfl)) (pa_cons (pv 4 (hv := Or.inl rfl)) pa_nil)))) (pe_call G__sums_up_to hr__sums_up_to rfl T.g__sums_up_to T.k__sums_up_to T.b__sums_up_to .nil pass0 (pa_cons (pv 1 (hv := Or.inl rfl)) (pa_cons (pv 2 (hv := Or.inl rfl)) (pa_cons (pe_op op_sub (pv 3 (hv := Or.inl rfl)) pe_int) pa_nil))))) pa_nil)))))), ?_⟩
    try dsimp only [cxOf, Cx.nox, Cx.wish, Cx.blk]
    rw [show L2.start ["name", "xs", "ys", "low", "high"] [.str o.nm, .ref qx, .ref qy, .int lo, .int hi] = [some (.str o.nm), some (.ref qx), some (.ref qy), some (.int lo), some (.int hi)] from rfl]
    obtain ⟨ho, hx, hy, ⟨x01, x02, x03⟩, ⟨y01, y02, y03⟩, ⟨l1, l2⟩, ⟨h1, h2⟩, k⟩ := h
    have q131 : (2 : Int) ^ 132 = 2 * 2 ^ 131 ∧ (1 : Int) ≤ 2 ^ 131 := by decide +kernel
    obtain ⟨q1, q2⟩ := q131
    walk_at "rd"
    rcases ho with rfl | rfl
    · refine w_decF (by decide +kernel) ?_
      walk_at "rd"
      refine ⟨qx, qy, hi, x0, x1, y0, y1, rfl, hx, hy, ⟨x01, x02, x03⟩, ⟨y01, y02, y03⟩, ⟨by omega, by omega⟩, ?_⟩
      walk_at "rd"
      refine ⟨qx, qy, lo - 1, x0, x1, y0, y1, rfl, hx, hy, ⟨x01, x02, x03⟩, ⟨y01, y02, y03⟩, ⟨by omega, by omega⟩, ?_⟩
      walk_at "rd"
      refine w_max2 ?_
      rw [prB_add]
      exact k _ (Same.refl H)
    · refine w_decT (by decide +kernel) ?_
      walk_at "rd"
      refine ⟨by show 2 ≤ sizeLine; decide, fun q hq => ?_⟩
      have e1 := sm_new (o := .tup [.int (-y1), .int (-y0)]) (Same.refl H) hq
      have hq' : (L2.upd H q (.tup [.int (-y1), .int (-y0)])) q = some (.tup [.int (-y1), .int (-y0)]) := upd_same
      generalize L2.upd H q _ = H1 at e1 hq' ⊢
      have hx := e1 _ _ hx
      walk_at "rd"
      refine ⟨qx, q, hi, x0, x1, -y1, -y0, rfl, hx, hq', ⟨x01, x02, x03⟩, ⟨by omega, by omega, by omega⟩, ⟨by omega, by omega⟩, ?_⟩
      walk_at "rd"
      refine ⟨qx, q, lo - 1, x0, x1, -y1, -y0, rfl, hx, hq', ⟨x01, x02, x03⟩, ⟨by omega, by omega, by omega⟩, ⟨by omega, by omega⟩, ?_⟩
      walk_at "rd"
      refine w_max2 ?_
      rw [prB_add, prB_sub]
      exact k _ e1
def sp_pair_overflows (K : PySem.W.Frag) (C : Addr) (TS : List (Addr × Str)) : Sp := fun vs H Q _ => ∃ (kp : Addr) (o : Op) (qx qy : Addr) (wd : Nat) (s : Bool) (x0 x1 y0 y1 : Int), vs = [.ref kp, .str o.nm, .ref qx, .ref qy] ∧ Kd C H kp wd s ∧ isP o ∧ H qx = some (.tup [.int x0, .int x1]) ∧ H qy = some (.tup [.int y0, .int y1]) ∧ (loK wd s ≤ x0 ∧ x0 ≤ x1 ∧ x1 ≤ hiK wd s) ∧ (loK wd s ≤ y0 ∧ y0 ≤ y1 ∧ y1 ≤ hiK wd s) ∧ ∀ H', Same H H' → Q (.int (prO wd s o x0 x1 y0 y1)) H'
theorem ok_pair_overflows {P : Program} {w : World} {K : PySem.W.Frag} {mg : Str → Option Value} {base : Heap} (T : Txt K mg) : FnOk P w K mg base CX0 7 T.f_pair_overflows T.fd_pair_overflows ["kind", "name", "xs", "ys"] (sp_pair_overflows K T.C_Kind []) := by
  have G__check_pairs := ok__check_pairs (P := P) (w := w) (base := base) T
  have G__count := ok__count (P := P) (w := w) (base := base) T
  have G__pairs_between := ok__pairs_between (P := P) (w := w) (base := base) T
  have G_greatest := ok_greatest (P := P) (w := w) (base := base) T
  have G_least := ok_least (P := P) (w := w) (base := base) T
  refine T.F_pair_overflows.ok sc_pair_overflows (fun vs H Q E h => ?_) (fun cdv A outer s H vs Q E hr h => ?_)
  · obtain ⟨kp, o, qx, qy, wd, s, x0, x1, y0, y1, rfl, _⟩ := h
    rfl
  · obtain ⟨kp, o, qx, qy, wd, s, x0, x1, y0, y1, rfl, h⟩ := h
    have hr__check_pairs : Room 6 _ := hr.mono (by decide)
    have hr__count : Room 1 _ := hr.mono (by decide)
    have hr__pairs_between : Room 3 _ := hr.mono (by decide)
    have hr_greatest : Room 3 _ := hr.mono (by decide)
    have hr_least : Room 2 _ := hr.mono (by decide)
    refine ⟨_, (pss_cons (ps_expr (pe_call G__check_pairs hr__check_pairs rfl T.g__check_pairs T.k__check_pairs T.b__check_pairs .nil pass0 (pa_cons (pv 0 (hv := Or.inl rfl)) (pa_cons (pv 1 (hv := Or.inl rfl)) (pa_cons (pv 2 (hv := Or.inl rfl)) (pa_cons (pv 3 (hv := Or.inl rfl)) pa_nil))))))
      (pss_cons (ps_set (i := 4) sc_pair_overflows.nd rfl (Or.inl rfl) (pe_op op_mulX (pe_call G__count hr__count rfl T.g__count T.k__count T.b__count .nil pass0 (pa_cons (pe_ix (r := rIxT K) ix_tup (pv 2 (hv := Or.inl rfl)) pe_int (fun _ _ => rfl)) (pa_cons (pe_ix (r := rIxT K) ix_tup (pv 2 (hv := Or.inl rfl)) pe_int (fun _ _ => rfl)) pa_nil))) (pe_call G__count hr__count rfl T.g__count T.k__count T.b__count .nil pass0 (pa_cons (pe_ix (r := rIxT K) ix_tup (pv 3 (hv := Or.inl rfl)) pe_int (fun _ _ => rfl)) (pa_cons (pe_ix (r := rIxT K) ix_tup (pv 3 (hv := Or.inl rfl)) pe_int (fun _ _ => rfl)) pa_nil)))))
      (pss_one (ps_ret (pe_op op_sub (pv 4 (hv := Or.inl rfl)) (pe_call G__pairs_between hr__pairs_between rfl T.g__pairs_between T.k__pairs_between T.b__pairs_between .nil pass0 (pa_cons (pv 1 (hv := Or.inl rfl)) (pa_cons (pv 2 (hv := Or.inl rfl)) (pa_cons (pv 3 (hv := Or.inl rfl)) (pa_cons (pe_call G_least hr_least rfl T.g_least T.k_least T.b_least .nil pass0 (pa_cons (pv 0 (hv := Or.inl rfl)) pa_nil)) (pa_cons (pe_call G_greatest hr_greatest rfl T.g_greatest T.k_greatest T.b_greatest .nil pass0 (pa_cons (pv 0 (hv := Or.inl rfl)) pa_nil)) pa_nil))))))))))), ?_⟩
    try dsimp only [cxOf, Cx.nox, Cx.wish, Cx.blk]
    rw [show L2.start ["kind", "name", "xs", "ys", "pairs"] [.ref kp, .str o.nm, .ref qx, .ref qy] = [some (.ref kp), some (.str o.nm), some (.ref qx), some (.ref qy), none] from rfl]
    obtain ⟨hk, ho, hx, hy, ⟨x01, x02, x03⟩, ⟨y01, y02, y03⟩, k⟩ := h
    have w2 := hk.w2
    obtain ⟨z1, z2, z3, z4, z5⟩ := loK_b (s := s) w2
    have q131 : (2 : Int) ^ 131 = 8 * 2 ^ 128 ∧ (0 : Int) < 2 ^ 128 ∧ (2 : Int) ^ 128 * 4 ≤ 2 ^ 299 := by decide +kernel
    obtain ⟨q1, q2, q3⟩ := q131
    walk_at "rd"
    refine ⟨kp, o, qx, qy, rfl, ho, ⟨wd, s, x0, x1, y0, y1, hk, hx, hy, ⟨x01, x02, x03⟩, ⟨y01, y02, y03⟩⟩, ?_⟩
    walk_at "rd"
    refine ⟨_, _, rfl, ?_⟩
    walk_at "rd"
    refine ⟨_, _, rfl, ?_⟩
    refine w_I (mulx_ok (show BB (max 0 (x1 - x0 + 1)) from bb_of (by omega) (by omega)) (show BB (max 0 (y1 - y0 + 1)) from bb_of (by omega) (by omega)) (by decide)) ?_
    walk_at "rd"
    refine ⟨kp, wd, s, rfl, hk, ?_⟩
    walk_at "rd"
    refine ⟨kp, wd, s, rfl, hk, ?_⟩
    walk_at "rd"
    refine ⟨o, qx, qy, _, _, x0, x1, y0, y1, rfl, ho, hx, hy, ⟨x02, by omega, by omega⟩, ⟨y02, by omega, by omega⟩, ⟨by omega, by omega⟩, ⟨by omega, by omega⟩, fun H1 s1 => ?_⟩
    walk_at "rd"
    rw [prO_is]
    exact k _ s1
def sp_pairs_within (K : PySem.W.Frag) (C : Addr) (TS : List (Addr × Str)) : Sp := fun vs H Q _ => ∃ (kp : Addr) (o : Op) (qx qy : Addr) (lo hi : Int) (wd : Nat) (s : Bool) (x0 x1 y0 y1 : Int), vs = [.ref kp, .str o.nm, .ref qx, .ref qy, .int lo, .int hi] ∧ Kd C H kp wd s ∧ isP o ∧ H qx = some (.tup [.int x0, .int x1]) ∧ H qy = some (.tup [.int y0, .int y1]) ∧ (loK wd s ≤ x0 ∧ x0 ≤ x1 ∧ x1 ≤ hiK wd s) ∧ (loK wd s ≤ y0 ∧ y0 ≤ y1 ∧ y1 ≤ hiK wd s) ∧ (loK wd s ≤ lo ∧ lo ≤ hiK wd s) ∧ (loK wd s ≤ hi ∧ hi ≤ hiK wd s) ∧ ∀ H', Same H H' → Q (.int (prW wd s o lo hi x0 x1 y0 y1)) H'
theorem ok_pairs_within {P : Program} {w : World} {K : PySem.W.Frag} {mg : Str → Option Value} {base : Heap} (T : Txt K mg) : FnOk P w K mg base CX0 7 T.f_pairs_within T.fd_pairs_within ["kind", "name", "xs", "ys", "low", "high"] (sp_pairs_within K T.C_Kind []) := by
  have G__check_pairs := ok__check_pairs (P := P) (w := w) (base := base) T
  have G__pairs_between := ok__pairs_between (P := P) (w := w) (base := base) T
  have G_check_value := ok_check_value (P := P) (w := w) (base := base) T
  refine T.F_pairs_within.ok sc_pairs_within (fun vs H Q E h => ?_) (fun cdv A outer s H vs Q E hr h => ?_)
  · obtain ⟨kp, o, qx, qy, lo, hi, wd, s, x0, x1, y0, y1, rfl, _⟩ := h
    rfl
  · obtain ⟨kp, o, qx, qy, lo, hi, wd, s, x0, x1, y0, y1, rfl, h⟩ := h
    have hr__check_pairs : Room 6 _ := hr.mono (by decide)
    have hr__pairs_between : Room 3 _ := hr.mono (by decide)
    have hr_check_value : Room 5 _ := hr.mono (by decide)
    refine ⟨_, (pss_cons (ps_expr (pe_call G__check_pairs hr__check_pairs rfl T.g__check_pairs T.k__check_pairs T.b__check_pairs .nil pass0 (pa_cons (pv 0 (hv := Or.inl rfl)) (pa_cons (pv 1 (hv := Or.inr (Or.inl rfl))) (pa_cons (pv 2 (hv := Or.inr (Or.inl rfl))) (pa_cons (pv 3 (hv := Or.inr (Or.inl rfl))) pa_nil))))))
      (pss_cons (ps_expr (pe_call G_check_value hr_check_value rfl T.g_check_value T.k_check_value T.b_check_value .nil pass0 (pa_cons (pv 0 (hv := Or.inl rfl)) (pa_cons (pv 4 (hv := Or.inr (Or.inl rfl))) (pa_cons pe_str pa_nil)))))
      (pss_cons (ps_expr (pe_call G_check_value hr_check_value rfl T.g_check_value T.k_check_value T.b_check_value .nil pass0 (pa_cons (pv 0 (hv := Or.inl rfl)) (pa_cons (pv 5 (hv := Or.inr (Or.inl rfl))) (pa_cons pe_str pa_nil)))))
      (pss_cons (ps_set (i := 6) sc_pairs_within.nd rfl (Or.inl rfl) (pe_op op_shl pe_int (pe_fld (pv 0 (hv := Or.inl rfl)) rfl)))
      (pss_one (ps_ret (pe_callB (id := "sum") (r := rSum K) (cr_sum rfl) (by rfl) T.n_sum (by decide +kernel) (pa_cons (pe_lc (own := [("shift", 7)]) (g := gName 7) (tt := tYes) (by rfl) sc_pairs_within.nd (pi_tup (pe_tup (pa_cons (pe_un un_neg (pv 6 (hv := Or.inl rfl))) (pa_cons pe_int (pa_cons (pv 6 (hv := Or.inl rfl)) pa_nil))))) (blkOk_by (own := [("shift", 7)]) (N := ["kind", "name", "xs", "ys", "low", "high", "size", "shift"]) (sc := defScope s_pairs_within) (by decide +kernel)) (fun _ _ _ _ _ => (pg_name (i := 7) sc_pairs_within.nd rfl (Or.inl rfl))) (fun _ _ _ _ _ => pts_nil) (fun _ _ _ _ _ => (pe_call G__pairs_between hr__pairs_between rfl T.g__pairs_between T.k__pairs_between T.b__pairs_between .nil pass0 (pa_cons (pv 1 (hv := Or.inr (Or.inl rfl))) (pa_cons (pv 2 (hv := Or.inr (Or.inl rfl))) (pa_cons (pv 3 (hv := Or.inr (Or.inl rfl))) (pa_cons (pe_op op_add (pv 4 (hv := Or.inr (Or.inl rfl))) (pv 7 (hv := Or.inl rfl))) (pa_cons (pe_op op_add (pv 5 (hv := Or.inr (Or.inl rfl))) (pv 7 (hv := Or.inl rfl))) pa_nil)))))))) pa_nil)))))))), ?_⟩
    try dsimp only [cxOf, Cx.nox, Cx.wish, Cx.blk]
    rw [show L2.start ["kind", "name", "xs", "ys", "low", "high", "size", "shift"] [.ref kp, .str o.nm, .ref qx, .ref qy, .int lo, .int hi] = [some (.ref kp), some (.str o.nm), some (.ref qx), some (.ref qy), some (.int lo), some (.int hi), none, none] from rfl]
    obtain ⟨hk, ho, hx, hy, ⟨x01, x02, x03⟩, ⟨y01, y02, y03⟩, ⟨l1, l2⟩, ⟨h1, h2⟩, k⟩ := h
    have w1 := hk.w1
    have w2 := hk.w2
    obtain ⟨z1, z2, z3, z4, z5⟩ := loK_b (s := s) w2
    have hp := p2 wd
    have q131 : (2 : Int) ^ 131 = 8 * 2 ^ 128 ∧ (0 : Int) < 2 ^ 128 := by decide +kernel
    obtain ⟨q1, q2⟩ := q131
    walk_at "rd"
    refine ⟨kp, o, qx, qy, rfl, ho, ⟨wd, s, x0, x1, y0, y1, hk, hx, hy, ⟨x01, x02, x03⟩, ⟨y01, y02, y03⟩⟩, ?_⟩
    walk_at "rd"
    refine ⟨kp, lo, _, rfl, ⟨wd, s, hk, l1, l2⟩, ?_⟩
    walk_at "rd"
    refine ⟨kp, hi, _, rfl, ⟨wd, s, hk, h1, h2⟩, ?_⟩
    walk_at "rd"
    refine w_fb T rfl hk ?_
    walk_at "rd"
    refine w_I (cpow (n := 1) (by omega) (by decide)) ?_
    rw [Int.toNat_natCast, Int.one_mul]
    walk_at "rd"
    refine w_iTup ?_
    walk_at "rd"
    refine ⟨by show 3 ≤ sizeLine; decide, fun t ht => ?_⟩
    have e1 := sm_new (o := .tup [.int (-(2 ^ wd)), .int 0, .int (2 ^ wd)]) (Same.refl H) ht
    have ht' : (L2.upd H t (.tup [.int (-(2 ^ wd)), .int 0, .int (2 ^ wd)])) t = some (.tup ([-(2 ^ wd), 0, 2 ^ wd].map V.int)) := upd_same
    generalize L2.upd H t _ = H1 at e1 ht' ⊢
    walk_at "rd"
    refine ⟨⟨_, SqT.of ht'⟩, fun D hD => lc_tup (K := K) (a := t) (xs := [-(2 ^ wd), 0, 2 ^ wd].map V.int) (fun j H'' => H'' D = some (.lst (((List.take j [-(2 ^ wd), 0, 2 ^ wd]).map fun z : Int => prB o (lo + z) (hi + z) x0 x1 y0 y1).map V.int)) ∧ Same H1 H'') ⟨upd_same, sm_new (Same.refl H1) hD⟩ (fun i H' _ q => SqT.of (q.2 _ _ ht')) ?_ ?_⟩
    · rintro j y H2 hj ⟨hd, s2⟩
      obtain ⟨z, hz, rfl⟩ := map_get hj
      have s12 := e1.trans s2
      have zb : z = -(2 ^ wd) ∨ z = 0 ∨ z = 2 ^ wd := by
        have := List.mem_of_getElem? hz
        simpa using this
      walk_at "rd"
      refine ⟨rfl, ?_⟩
      walk_at "rd"
      refine iteT ?_
      walk_at "rd"
      refine ⟨o, qx, qy, _, _, x0, x1, y0, y1, rfl, ho, s12 _ _ hx, s12 _ _ hy, ⟨x02, by omega, by omega⟩, ⟨y02, by omega, by omega⟩, ⟨by omega, by omega⟩, ⟨by omega, by omega⟩, fun H3 s3 => ?_⟩
      refine ⟨_, s3 _ _ hd, by rw [List.length_map, List.length_map, List.length_take]; exact small1000 (Nat.le_trans (Nat.min_le_right _ _) (by show 3 ≤ 1000; decide)), ?_, sm_mut (s2.trans s3) hD⟩
      rw [upd_same, tk_more hz, List.map_append, List.map_append]
      rfl
    rintro H2 ⟨hd, s2⟩
    walk_at "rd"
    refine w_sum hd ?_
    have e := prW_is w1 ho (s := s) (lo := lo) (hi := hi) l1 h2 x01 x03 y01 y03
    have e3 : (((List.take ([-(2 ^ wd), 0, 2 ^ wd].map V.int).length [-(2 ^ wd), 0, 2 ^ wd]).map fun z : Int => prB o (lo + z) (hi + z) x0 x1 y0 y1)).sum = prW wd s o lo hi x0 x1 y0 y1 := by
      rw [← e]
      show prB o (lo + -(2 ^ wd)) (hi + -(2 ^ wd)) x0 x1 y0 y1 + (prB o (lo + 0) (hi + 0) x0 x1 y0 y1 + (prB o (lo + 2 ^ wd) (hi + 2 ^ wd) x0 x1 y0 y1 + 0)) = _
      omega
    rw [e3]
    exact k _ (e1.trans s2)
def sp__law_deck (K : PySem.W.Frag) (C : Addr) (TS : List (Addr × Str)) : Sp := fun vs H Q _ => ∃ (c : Int), vs = [.int c] ∧ ∀ p H', H p = none → Same H H' → SrcN 3 H' p → Q (.ref p) H'
theorem ok__law_deck {P : Program} {w : World} {K : PySem.W.Frag} {mg : Str → Option Value} {base : Heap} (T : Txt K mg) : FnOk P w K mg base CX0 1 T.f__law_deck T.fd__law_deck ["_law_cell"] (sp__law_deck K T.C_Kind []) := by
  refine T.F__law_deck.ok sc__law_deck (fun vs H Q E h => ?_) (fun cdv A outer s H vs Q E hr h => ?_)
  · obtain ⟨c, rfl, _⟩ := h
    rfl
  · obtain ⟨c, rfl, h⟩ := h
    refine ⟨_, (pss_one (ps_ret (pe_lst (pa_cons (pe_op op_mul (pv 0 (hv := Or.inl rfl)) (pe_callTy (T := "int") (r := rIntC) call_int1 (by rfl) T.n_int (by decide +kernel) (pa_cons (pe_cmpR op_ge (pv 0 (hv := Or.inl rfl)) (pe_op op_pow pe_int pe_int) (nomark _)) pa_nil))) (pa_cons (pe_op op_mod (pe_callTy (T := "int") (r := rIntC) call_int1 (by rfl) T.n_int (by decide +kernel) (pa_cons (pv 0 (hv := Or.inl rfl)) pa_nil)) pe_int) (pa_cons pe_int pa_nil)))))), ?_⟩
    try dsimp only [cxOf, Cx.nox, Cx.wish, Cx.blk]
    rw [show L2.start ["_law_cell"] [.int c] = [some (.int c)] from rfl]
    walk_at "rd"
    refine w_I (Or.inr ⟨by split <;> decide, by split <;> decide⟩) ?_
    walk_at "rd"
    refine ⟨by show 3 ≤ sizeLine; decide, fun p hp => ?_⟩
    have h1 := Int.emod_nonneg c (show (2147483587 : Int) ≠ 0 by decide)
    have h2 := Int.emod_lt_of_pos c (show (0 : Int) < 2147483587 by decide)
    exact h p _ hp (sm_new (Same.refl H) hp) ⟨_, _, _, upd_same, h1, by omega, by decide, by decide⟩
def sp__law_deal (K : PySem.W.Frag) (C : Addr) (TS : List (Addr × Str)) : Sp := fun vs H Q _ => ∃ (p : Addr) (m : Int) (n : Nat), vs = [.ref p, .int m] ∧ SrcN n H p ∧ n < 2 ^ 40 ∧ 0 < m ∧ m.natAbs < 2 ^ 8999 ∧ ∀ v H', 0 ≤ v → v < m → Kp p H H' → SrcN (n + 1) H' p → Q (.int v) H'
theorem ok__law_deal {P : Program} {w : World} {K : PySem.W.Frag} {mg : Str → Option Value} {base : Heap} (T : Txt K mg) : FnOk P w K mg base CX0 1 T.f__law_deal T.fd__law_deal ["_law_deck_here", "_law_many"] (sp__law_deal K T.C_Kind []) := by
  refine T.F__law_deal.ok sc__law_deal (fun vs H Q E h => ?_) (fun cdv A outer s H vs Q E hr h => ?_)
  · obtain ⟨p, m, n, rfl, _⟩ := h
    rfl
  · obtain ⟨p, m, n, rfl, h⟩ := h
    refine ⟨_, (pss_cons (ps_if (pt_cmpR op_gt (pe_ix (r := rIxL K) ix_list (pv 0 (hv := Or.inl rfl)) pe_int (fun _ _ => rfl)) pe_int (nomark _)) (pss_cons (ps_set (i := 2) sc__law_deal.nd rfl (Or.inl rfl) (pe_op op_mod (pe_callTy (T := "int") (r := rIntC) call_int1 (by rfl) T.n_int (by decide +kernel) (pa_cons (pe_ix (r := rIxL K) ix_list (pv 0 (hv := Or.inl rfl)) pe_int (fun _ _ => rfl)) pa_nil)) (pv 1 (hv := Or.inl rfl))))
      (pss_cons (ps_asg (pe_op op_fdivW (pe_ix (r := rIxL K) ix_list (pv 0 (hv := Or.inl rfl)) pe_int (fun _ _ => rfl)) (pv 1 (hv := Or.inl rfl))) (pg_sub (pv 0 (hv := Or.inl rfl)) pe_int set_list))
      (pss_one (ps_ret (pv 2 (hv := Or.inl rfl)))))) pss_nil)
      (pss_cons (ps_asg (pe_op op_add (pe_ix (r := rIxL K) ix_list (pv 0 (hv := Or.inl rfl)) pe_int (fun _ _ => rfl)) pe_int) (pg_sub (pv 0 (hv := Or.inl rfl)) pe_int set_list))
      (pss_cons (ps_set (i := 3) sc__law_deal.nd rfl (Or.inl rfl) (pe_op op_mod (pe_callTy (T := "int") (r := rIntC) call_int1 (by rfl) T.n_int (by decide +kernel) (pa_cons (pe_op op_pow (pe_op op_add (pe_op op_add (pe_ix (r := rIxL K) ix_list (pv 0 (hv := Or.inl rfl)) pe_int (fun _ _ => rfl)) (pe_op op_mul pe_int (pe_ix (r := rIxL K) ix_list (pv 0 (hv := Or.inl rfl)) pe_int (fun _ _ => rfl)))) pe_int) pe_int) pa_nil)) pe_int))
      (pss_cons (ps_set (i := 3) sc__law_deal.nd rfl (Or.inl rfl) (pe_op op_mod (pe_callTy (T := "int") (r := rIntC) call_int1 (by rfl) T.n_int (by decide +kernel) (pa_cons (pe_op op_mul (pe_op op_add (pv 3 (hv := Or.inl rfl)) (pe_op op_mul pe_int (pe_ix (r := rIxL K) ix_list (pv 0 (hv := Or.inl rfl)) pe_int (fun _ _ => rfl)))) (pe_op op_add (pe_op op_fdiv (pv 3 (hv := Or.inl rfl)) pe_int) pe_int)) pa_nil)) pe_int))
      (pss_one (ps_ret (pe_op op_mod (pe_callTy (T := "int") (r := rIntC) call_int1 (by rfl) T.n_int (by decide +kernel) (pa_cons (pe_op op_fdiv (pe_op op_mod (pe_callTy (T := "int") (r := rIntC) call_int1 (by rfl) T.n_int (by decide +kernel) (pa_cons (pe_op op_mul (pv 3 (hv := Or.inl rfl)) (pe_op op_add (pe_op op_fdiv (pv 3 (hv := Or.inl rfl)) pe_int) pe_int)) pa_nil)) pe_int) pe_int) pa_nil)) (pv 1 (hv := Or.inl rfl))))))))), ?_⟩
    try dsimp only [cxOf, Cx.nox, Cx.wish, Cx.blk]
    rw [show L2.start ["_law_deck_here", "_law_many", "_law_card", "_law_mixed"] [.ref p, .int m] = [some (.ref p), some (.int m), none, none] from rfl]
    obtain ⟨⟨a, b, c, hp, b0, b1, c0, c1⟩, n40, h0, hb, k⟩ := h
    have fin : ∀ (x : Int) (H' : Hp), Kp p H H' → SrcN (n + 1) H' p → Q (.int (x % m)) H' := fun x H' a b => k _ _ (Int.emod_nonneg x (Int.ne_of_gt h0)) (Int.emod_lt_of_pos x h0) a b
    clear k
    walk_at "rd"
    refine w_dec (fun _ => ?_) (fun _ => ?_)
    · walk_at "rd"
      refine w_I h0 ?_
      walk_at "rd"
      refine w_I (wide_div h0 hb (by decide) (by decide)) ?_
      walk_at "rd"
      exact fin _ _ (Kp.refl p H).upd ⟨_, _, _, upd_same, b0, b1, c0, by omega⟩
    · have n40' : n < 1099511627776 := n40
      walk_at "rd"
      have hp1 : ∀ x : Int, 0 ≤ x % 2147483629 ∧ x % 2147483629 < 2147483629 := fun x => ⟨Int.emod_nonneg x (by decide), Int.emod_lt_of_pos x (by decide)⟩
      have hp2 : ∀ x : Int, 0 ≤ x % 2147483579 ∧ x % 2147483579 < 2147483579 := fun x => ⟨Int.emod_nonneg x (by decide), Int.emod_lt_of_pos x (by decide)⟩
      refine w_I (CC := CPow) ⟨by decide, by decide, by omega⟩ ?_
      walk_at "rd"
      refine w_I (CC := CMul) (Or.inr ⟨?_, ?_⟩) ?_
      · have := hp1 ((b + 70003 * (c + 1) + 5) ^ (3 : Int).toNat); omega
      · have := hp1 ((b + 70003 * (c + 1) + 5) ^ (3 : Int).toNat); omega
      walk_at "rd"
      refine w_I (CC := CMul) (Or.inl ⟨Int.lt_of_lt_of_le (by decide) (hp2 _).1, Int.lt_trans (hp2 _).2 (by decide)⟩) ?_
      walk_at "rd"
      refine w_I h0 ?_
      walk_at "rd"
      exact fin _ _ (Kp.refl p H).upd ⟨_, _, _, upd_same, b0, b1, by omega, by omega⟩
def sp__law_choice (K : PySem.W.Frag) (C : Addr) (TS : List (Addr × Str)) : Sp := fun vs H Q _ => ∃ (p l : Addr) (n : Nat) (xs : List V), vs = [.ref p, .ref l] ∧ SrcN n H p ∧ n < 2 ^ 40 ∧ H l = some (.lst xs) ∧ l ≠ p ∧ 0 < xs.length ∧ xs.length ≤ 1000 ∧ ∀ v H', v ∈ xs → Kp p H H' → SrcN (n + 1) H' p → Q v H'
theorem ok__law_choice {P : Program} {w : World} {K : PySem.W.Frag} {mg : Str → Option Value} {base : Heap} (T : Txt K mg) : FnOk P w K mg base CX0 2 T.f__law_choice T.fd__law_choice ["_law_deck_here", "_law_some"] (sp__law_choice K T.C_Kind []) := by
  have G__law_deal := ok__law_deal (P := P) (w := w) (base := base) T
  refine T.F__law_choice.ok sc__law_choice (fun vs H Q E h => ?_) (fun cdv A outer s H vs Q E hr h => ?_)
  · obtain ⟨p, l, n, xs, rfl, _⟩ := h
    rfl
  · obtain ⟨p, l, n, xs, rfl, h⟩ := h
    have hr__law_deal : Room 1 _ := hr.mono (by decide)
    refine ⟨_, (pss_one (ps_ret (pe_ix (r := rIxL K) ix_list (pv 1 (hv := Or.inl rfl)) (pe_call G__law_deal hr__law_deal rfl T.g__law_deal T.k__law_deal T.b__law_deal .nil pass0 (pa_cons (pv 0 (hv := Or.inl rfl)) (pa_cons (pe_callB (id := "len") (r := rLenS K) call_len_seq (by rfl) T.n_len (by decide +kernel) (pa_cons (pv 1 (hv := Or.inl rfl)) pa_nil)) pa_nil))) (fun _ _ => rfl)))), ?_⟩
    try dsimp only [cxOf, Cx.nox, Cx.wish, Cx.blk]
    rw [show L2.start ["_law_deck_here", "_law_some"] [.ref p, .ref l] = [some (.ref p), some (.ref l)] from rfl]
    obtain ⟨hs, n40, hl, hn, n0, n1, k⟩ := h
    walk_at "rd"
    refine w_len hl ?_
    walk_at "rd"
    refine ⟨p, _, n, rfl, hs, n40, by omega, Nat.lt_trans (show ((xs.length : Nat) : Int).natAbs < 2 ^ 10 by omega) (Nat.pow_lt_pow_right (by decide) (by decide)), fun v H' h1 h2 kp hs' => ?_⟩
    obtain ⟨j, rfl⟩ := Int.eq_ofNat_of_zero_le h1
    have hj : j < xs.length := by omega
    refine w_ixL (kp _ _ hn hl) (atI_nat (v := xs[j]) (List.getElem?_eq_getElem hj)) ?_
    exact k _ _ (List.getElem_mem hj) kp hs'
def sp__law_great (K : PySem.W.Frag) (C : Addr) (TS : List (Addr × Str)) : Sp := fun vs H Q _ => ∃ (p : Addr) (m : Int) (n : Nat), vs = [.ref p, .int m] ∧ SrcN n H p ∧ n + 100 < 2 ^ 40 ∧ 0 < m ∧ m.natAbs < 2 ^ 2800 ∧ ∀ v H', 0 ≤ v → v < m → Kp p H H' → SrcN (n + 100) H' p → Q (.int v) H'
theorem ok__law_great {P : Program} {w : World} {K : PySem.W.Frag} {mg : Str → Option Value} {base : Heap} (T : Txt K mg) : FnOk P w K mg base CX0 2 T.f__law_great T.fd__law_great ["_law_deck_here", "_law_most"] (sp__law_great K T.C_Kind []) := by
  have G__law_deal := ok__law_deal (P := P) (w := w) (base := base) T
  refine T.F__law_great.ok sc__law_great (fun vs H Q E h => ?_) (fun cdv A outer s H vs Q E hr h => ?_)
  · obtain ⟨p, m, n, rfl, _⟩ := h
    rfl
  · obtain ⟨p, m, n, rfl, h⟩ := h
    have hr__law_deal : Room 1 _ := hr.mono (by decide)
    refine ⟨_, (pss_cons (ps_set (i := 2) sc__law_great.nd rfl (Or.inl rfl) pe_int)
      (pss_cons (ps_for PassesOwn.never rfl (pi_range1 (by rfl) T.n_range (pa_cons (pe_op op_add (pe_op op_fdiv (pe_bits (pv 1 (hv := Or.inl rfl))) pe_int) pe_int) pa_nil)) (pg_name (i := 3) sc__law_great.nd rfl (Or.inl rfl))
        (pss_one (ps_set (i := 2) sc__law_great.nd rfl (Or.inl rfl) (pe_op op_add (pe_op op_mul (pv 2 (hv := Or.inl rfl)) (pe_op op_pow pe_int pe_int)) (pe_call G__law_deal hr__law_deal rfl T.g__law_deal T.k__law_deal T.b__law_deal .nil pass0 (pa_cons (pv 0 (hv := Or.inl rfl)) (pa_cons (pe_op op_pow pe_int pe_int) pa_nil)))))))
      (pss_one (ps_ret (pe_op op_mod (pe_callTy (T := "int") (r := rIntC) call_int1 (by rfl) T.n_int (by decide +kernel) (pa_cons (pv 2 (hv := Or.inl rfl)) pa_nil)) (pv 1 (hv := Or.inl rfl))))))), ?_⟩
    try dsimp only [cxOf, Cx.nox, Cx.wish, Cx.blk]
    rw [show L2.start ["_law_deck_here", "_law_most", "_law_found", "_law_turn"] [.ref p, .int m] = [some (.ref p), some (.int m), none, none] from rfl]
    obtain ⟨hs, n40, h0, hb, k⟩ := h
    have bb := PyProof.Rows.intBits_le hb
    walk_at "rd"
    refine ⟨_, rfl, by omega, by omega, for_range (lo := 0) (n := ((Builtin.Int.intBits m : Int) / 29 + 1).toNat) (fun i σ H' => ∃ (f : Int) (v : Option V), σ = [some (.ref p), some (.int m), some (.int f), v] ∧ Kp p H H' ∧ SrcN (n + i) H' p) ⟨0, none, rfl, Kp.refl p H, hs⟩ ?_ ?_⟩
    · rintro i σ H' hi ⟨f, v, rfl, kp, hs'⟩
      walk_at "rd"
      refine ⟨p, _, n + i, rfl, hs', by omega, by decide, Nat.lt_of_lt_of_le (show ((10 : Int) ^ (9 : Int).toNat).natAbs < 2 ^ 32 by decide) (Nat.pow_le_pow_right (by decide) (by decide)), fun v1 H1 _ _ kp1 hs1 => ?_⟩
      walk_at "rd"
      exact ⟨_, _, rfl, kp.trans kp1, hs1⟩
    · rintro σ H' ⟨f, v, rfl, kp, hs'⟩
      walk_at "rd"
      refine w_I h0 ?_
      walk_at "rd"
      exact k _ _ (Int.emod_nonneg _ (Int.ne_of_gt h0)) (Int.emod_lt_of_pos _ h0) kp (hs'.le (by omega))
def sp__law_values_right (K : PySem.W.Frag) (C : Addr) (TS : List (Addr × Str)) : Sp := fun vs H Q _ => ∃ (kp : Addr) (c : Int) (wd : Nat) (s : Bool), vs = [.ref kp, .int (loK wd s), .int (2 ^ wd), .int c] ∧ Kd C H kp wd s ∧ wd ≤ 5 ∧ (loK wd s ≤ c ∧ c ≤ hiK wd s) ∧ ∀ H', Same H H' → Q (.bl true) H'
theorem ok__law_values_right {P : Program} {w : World} {K : PySem.W.Frag} {mg : Str → Option Value} {base : Heap} (T : Txt K mg) : FnOk P w K mg base CX0 8 T.f__law_values_right T.fd__law_values_right ["_law_own", "_law_least_one", "_law_size", "_law_one"] (sp__law_values_right K T.C_Kind []) := by
  have G_overflow_total := ok_overflow_total (P := P) (w := w) (base := base) T
  have G_overflows := ok_overflows (P := P) (w := w) (base := base) T
  have G_safe_values := ok_safe_values (P := P) (w := w) (base := base) T
  refine T.F__law_values_right.ok sc__law_values_right (fun vs H Q E h => ?_) (fun cdv A outer s H vs Q E hr h => ?_)
  · obtain ⟨kp, c, wd, s, rfl, _⟩ := h
    rfl
  · obtain ⟨kp, c, wd, s, rfl, h⟩ := h
    have hr_overflow_total : Room 7 _ := hr.mono (by decide)
    have hr_overflows : Room 7 _ := hr.mono (by decide)
    have hr_safe_values : Room 7 _ := hr.mono (by decide)
    refine ⟨_, (pss_cons (ps_for PassesOwn.never rfl (pi_tup (pe_tup (pa_cons pe_str (pa_cons pe_str (pa_cons pe_str pa_nil))))) (pg_name (i := 4) sc__law_values_right.nd rfl (Or.inr rfl))
        (pss_cons (ps_set (i := 5) sc__law_values_right.nd rfl (Or.inr rfl) (pe_lc (own := [("_law_n", 6)]) (g := gName 6) (by rfl) sc__law_values_right.nd (pi_rangeL (by rfl) T.n_range (pa_cons (pv 1 (hv := Or.inl rfl)) (pa_cons (pe_op op_add (pv 1 (hv := Or.inl rfl)) (pv 2 (hv := Or.inl rfl))) pa_nil))) (blkOk_by (own := [("_law_n", 6)]) (N := ["_law_own", "_law_least_one", "_law_size", "_law_one", "_law_word", "_law_safe", "_law_n", "_law_begin", "_law_end", "_law_due"]) (sc := defScope s__law_values_right) (by decide +kernel)) (fun _ _ _ _ _ => (pg_name (i := 6) sc__law_values_right.nd rfl (Or.inl rfl))) (fun _ _ _ _ _ => pts_one (pt_not (pt_val (pe_call G_overflows hr_overflows rfl T.g_overflows T.k_overflows T.b_overflows .nil pass0 (pa_cons (pv 0 (hv := Or.inr (Or.inl rfl))) (pa_cons (pv 4 (hv := Or.inr (Or.inl rfl))) (pa_cons (pv 6 (hv := Or.inl rfl)) (pa_cons (pv 3 (hv := Or.inr (Or.inl rfl))) pa_nil)))))))) (fun _ _ _ _ _ => (pv 6 (hv := Or.inl rfl)))))
      (pss_cons (ps_if (PW.pt (pw_or (pt_cmpR (op_neD hr.units) (pe_call G_safe_values hr_safe_values rfl T.g_safe_values T.k_safe_values T.b_safe_values .nil pass0 (pa_cons (pv 0 (hv := Or.inr (Or.inl rfl))) (pa_cons (pv 4 (hv := Or.inr (Or.inl rfl))) (pa_cons (pv 3 (hv := Or.inr (Or.inl rfl))) pa_nil)))) (pe_tup (pa_cons (pe_ix (r := rIxL K) ix_list (pv 5 (hv := Or.inr (Or.inl rfl))) pe_int (fun _ _ => rfl)) (pa_cons (pe_ix (r := rIxL K) ix_list (pv 5 (hv := Or.inr (Or.inl rfl))) (pe_un un_neg pe_int) (fun _ _ => rfl)) pa_nil))) (nomark _)) (pw_or1 (pt_cmpR op_ne (pe_callB (id := "len") (r := rLenS K) call_len_seq (by rfl) T.n_len (by decide +kernel) (pa_cons (pv 5 (hv := Or.inr (Or.inl rfl))) pa_nil)) (pe_op op_add (pe_op op_sub (pe_ix (r := rIxL K) ix_list (pv 5 (hv := Or.inr (Or.inl rfl))) (pe_un un_neg pe_int) (fun _ _ => rfl)) (pe_ix (r := rIxL K) ix_list (pv 5 (hv := Or.inr (Or.inl rfl))) pe_int (fun _ _ => rfl))) pe_int) (nomark _))))) (pss_one (ps_ret pe_bl)) pss_nil)
      (pss_one (ps_for PassesOwn.never rfl (pi_range3 (by rfl) T.n_range (pa_cons (pv 1 (hv := Or.inl rfl)) (pa_cons (pe_op op_add (pv 1 (hv := Or.inl rfl)) (pv 2 (hv := Or.inl rfl))) (pa_cons pe_int pa_nil)))) (pg_name (i := 7) sc__law_values_right.nd rfl (Or.inl rfl))
        (pss_one (ps_for PassesOwn.never rfl (pi_range3 (by rfl) T.n_range (pa_cons (pv 1 (hv := Or.inl rfl)) (pa_cons (pe_op op_add (pv 1 (hv := Or.inl rfl)) (pv 2 (hv := Or.inl rfl))) (pa_cons pe_int pa_nil)))) (pg_name (i := 8) sc__law_values_right.nd rfl (Or.inl rfl))
        (pss_cons (ps_set (i := 9) sc__law_values_right.nd rfl (Or.inl rfl) (pe_callB (id := "len") (r := rLenS K) call_len_seq (by rfl) T.n_len (by decide +kernel) (pa_cons (pe_lc (own := [("_law_n", 6)]) (g := gName 6) (by rfl) sc__law_values_right.nd (pi_rangeL (by rfl) T.n_range (pa_cons (pv 7 (hv := Or.inl rfl)) (pa_cons (pe_op op_add (pv 8 (hv := Or.inl rfl)) pe_int) pa_nil))) (blkOk_by (own := [("_law_n", 6)]) (N := ["_law_own", "_law_least_one", "_law_size", "_law_one", "_law_word", "_law_safe", "_law_n", "_law_begin", "_law_end", "_law_due"]) (sc := defScope s__law_values_right) (by decide +kernel)) (fun _ _ _ _ _ => (pg_name (i := 6) sc__law_values_right.nd rfl (Or.inl rfl))) (fun _ _ _ _ _ => pts_one (pt_cmpR (r := rIn K true) op_notIn_seq (pv 6 (hv := Or.inl rfl)) (pv 5 (hv := Or.inr (Or.inl rfl))) (by rfl))) (fun _ _ _ _ _ => (pv 6 (hv := Or.inl rfl)))) pa_nil)))
      (pss_one (ps_if (pt_cmpR op_ne (pe_call G_overflow_total hr_overflow_total rfl T.g_overflow_total T.k_overflow_total T.b_overflow_total .nil pass0 (pa_cons (pv 0 (hv := Or.inr (Or.inl rfl))) (pa_cons (pv 4 (hv := Or.inr (Or.inl rfl))) (pa_cons (pv 3 (hv := Or.inr (Or.inl rfl))) (pa_cons (pv 7 (hv := Or.inl rfl)) (pa_cons (pv 8 (hv := Or.inl rfl)) pa_nil)))))) (pv 9 (hv := Or.inl rfl)) (nomark _)) (pss_one (ps_ret pe_bl)) pss_nil))))))))))
      (pss_one (ps_ret pe_bl))), ?_⟩
    try dsimp only [cxOf, Cx.nox, Cx.wish, Cx.blk]
    rw [show L2.start ["_law_own", "_law_least_one", "_law_size", "_law_one", "_law_word", "_law_safe", "_law_n", "_law_begin", "_law_end", "_law_due"] [.ref kp, .int (loK wd s), .int (2 ^ wd), .int c] = [some (.ref kp), some (.int (loK wd s)), some (.int (2 ^ wd)), some (.int c), none, none, none, none, none, none] from rfl]
    obtain ⟨hk, w5, ⟨c1, c2⟩, k⟩ := h
    have w1 := hk.w1
    have w2 := hk.w2
    have hp := p2 wd
    have hhi : hiK wd s = loK wd s + 2 ^ wd - 1 := rfl
    obtain ⟨l0, l1, l2, l3⟩ := lohi w1 s
    obtain ⟨N, hN⟩ : ∃ N : Nat, (N : Int) = 2 ^ wd := ⟨2 ^ wd, Int.natCast_pow 2 wd⟩
    have p32 : (2 : Int) ^ wd ≤ 32 := by
      have := Nat.pow_le_pow_right (n := 2) (by decide) w5
      have e : (2 : Nat) ^ 5 = 32 := by decide
      rw [e] at this
      exact_mod_cast this
    obtain ⟨n3, r3, b3⟩ := rg_step (s := s) w1 w5 (cc := 3) (.inr rfl)
    obtain ⟨n2, r2, b2⟩ := rg_step (s := s) w1 w5 (cc := 2) (.inl rfl)
    walk_at "rd"
    refine w_iTup ?_
    walk_at "rd"
    refine ⟨by show 3 ≤ sizeLine; decide, fun t ht => ?_⟩
    have e1 := sm_new (o := .tup [.str "add", .str "subtract", .str "multiply"]) (Same.refl H) ht
    have ht' : (L2.upd H t (.tup [.str "add", .str "subtract", .str "multiply"])) t = some (.tup ([("add" : Str), "subtract", "multiply"].map V.str)) := upd_same
    generalize L2.upd H t _ = H1 at e1 ht' ⊢
    walk_at "rd"
    refine ⟨⟨_, SqT.of ht'⟩, for_tup (K := K) (a := t) (xs := [("add" : Str), "subtract", "multiply"].map V.str) (fun i σ H' => (∃ (v4 v5 v6 v7 v8 v9 : Option V), σ = [some (.ref kp), some (.int (loK wd s)), some (.int (2 ^ wd)), some (.int c), v4, v5, v6, v7, v8, v9]) ∧ Same H1 H')
      ⟨⟨_, _, _, _, _, _, rfl⟩, Same.refl H1⟩ (fun i σ H' _ q => SqT.of (q.2 _ _ ht')) ?_ ?_⟩
    · rintro i x σ H2 hi ⟨⟨v4, v5, v6, v7, v8, v9, rfl⟩, s2⟩
      obtain ⟨o, rfl, ho⟩ := nm3 hi
      have hk2 := hk.same (e1.trans s2)
      walk_at "rd"
      refine w_iRngL ?_
      walk_at "rd"
      refine ⟨_, _, rfl, ?_⟩
      rw [show (loK wd s + 2 ^ wd - loK wd s).toNat = N by omega]
      intro D hD
      refine lc_range (lo := loK wd s) (n := N) (fun j H' => H' D = some (.lst ((wl (fun n => fits wd s (exO o n c)) (loK wd s) j).map V.int)) ∧ Same H2 H') ⟨upd_same, sm_new (Same.refl H2) hD⟩ ?_ ?_
      · rintro j H3 hj ⟨hd, s3⟩
        walk_at "rd"
        refine ⟨rfl, ?_⟩
        walk_at "rd"
        refine ⟨kp, o, _, c, wd, s, rfl, hk2.same s3, ho.ov, ⟨by omega, by omega⟩, ⟨c1, c2⟩, fun z => absurd z ho.nd.1, fun z => absurd z ho.nd.2, ?_⟩
        walk_at "rd"
        rw [Bool.not_not]
        have ef : decide (loK wd s ≤ exO o (loK wd s + (j : Int)) c ∧ exO o (loK wd s + (j : Int)) c ≤ hiK wd s) = fits wd s (exO o (loK wd s + (j : Int)) c) := rfl
        rw [ef]
        cases hz : fits wd s (exO o (loK wd s + (j : Int)) c) with
        | true =>
          refine iteT ?_
          walk_at "rd"
          refine ⟨_, hd, by rw [List.length_map]; exact small1000 (by have := wl_len_le (fun n => fits wd s (exO o n c)) (loK wd s) j; omega), ?_, sm_mut s3 hD⟩
          rw [upd_same, wl_succ, if_pos hz, List.map_append]
          rfl
        | false =>
          refine iteF ?_
          refine ⟨?_, s3⟩
          rw [wl_succ, hz, if_neg Bool.false_ne_true, List.append_nil]
          exact hd
      rintro H3 ⟨hd, s3⟩
      obtain ⟨is, his⟩ : ∃ is, is = wl (fun n => fits wd s (exO o n c)) (loK wd s) N := ⟨_, rfl⟩
      rw [← his] at hd
      have hk3 := hk2.same s3
      walk_at "rd"
      refine ⟨kp, o, c, wd, s, rfl, hk3, ho, ⟨c1, c2⟩, fun q S E H4 hq s4 sf => ?_⟩
      obtain ⟨len, g0, g1, mem⟩ := sf.list hN his
      have hd4 := s4 _ _ hd
      have a0 : atI (is.map V.int) 0 = some (.int S) := atI_nat (v := V.int S) (j := 0) (by rw [List.getElem?_map, g0]; rfl)
      have a1 : atI (is.map V.int) (-1) = some (.int E) := at_m1 (by rw [List.length_map, List.getElem?_map, g1]; rfl)
      walk_at "rd"
      refine w_ixL hd4 a0 ?_
      walk_at "rd"
      refine w_ixL hd4 a1 ?_
      walk_at "rd"
      refine ⟨by show 2 ≤ sizeLine; decide, fun q2 hq2 => ?_⟩
      have s5 := sm_new (o := .tup [.int S, .int E]) s4 hq2
      have hq5 := gn (u := .tup [.int S, .int E]) hq hq2
      have hq2' : (L2.upd H4 q2 (.tup [.int S, .int E])) q2 = some (.tup [.int S, .int E]) := upd_same
      generalize L2.upd H4 q2 _ = H5 at s5 hq5 hq2' ⊢
      have hd5 := s5 _ _ hd
      walk_at "rd"
      refine ne_pair hq5 hq2' ?_
      walk_at "rd"
      refine iteF ?_
      walk_at "rd"
      refine w_len hd5 ?_
      walk_at "rd"
      refine w_ixL hd5 a1 ?_
      walk_at "rd"
      refine w_ixL hd5 a0 ?_
      walk_at "rd"
      rw [List.length_map]
      refine w_ndecT len ?_
      have s15 := (s2.trans s3).trans s5
      walk_at "rd"
      refine w_iRng3 ?_
      walk_at "rd"
      refine ⟨_, _, _, n3, rfl, r3, for_rangeC (lo := loK wd s) (c := 3) (n := n3) (fun i σ H' => (∃ (v6 v7 v8 v9 : Option V), σ = [some (.ref kp), some (.int (loK wd s)), some (.int (2 ^ wd)), some (.int c), some (.str o.nm), some (.ref D), v6, v7, v8, v9]) ∧ Same H5 H') ⟨⟨_, _, _, _, rfl⟩, Same.refl H5⟩ ?_ ?_⟩
      · rintro i1 σ H6 hi1 ⟨⟨v6, v7, v8, v9, rfl⟩, s6⟩
        have bb1 := b3 i1 hi1
        obtain ⟨bg, hbg⟩ : ∃ bg, bg = loK wd s + (i1 : Int) * 3 := ⟨_, rfl⟩
        rw [← hbg]
        have bb1 : loK wd s ≤ bg ∧ bg ≤ hiK wd s := by rw [hbg]; exact bb1
        walk_at "rd"
        refine w_iRng3 ?_
        walk_at "rd"
        refine ⟨_, _, _, n2, rfl, r2, for_rangeC (lo := loK wd s) (c := 2) (n := n2) (fun i σ H' => (∃ (v6 v8 v9 : Option V), σ = [some (.ref kp), some (.int (loK wd s)), some (.int (2 ^ wd)), some (.int c), some (.str o.nm), some (.ref D), v6, some (.int bg), v8, v9]) ∧ Same H5 H') ⟨⟨_, _, _, rfl⟩, s6⟩ ?_ ?_⟩
        · rintro i2 σ H7 hi2 ⟨⟨v6, v8, v9, rfl⟩, s7⟩
          have bb2 := b2 i2 hi2
          obtain ⟨en, hen⟩ : ∃ en, en = loK wd s + (i2 : Int) * 2 := ⟨_, rfl⟩
          rw [← hen]
          have bb2 : loK wd s ≤ en ∧ en ≤ hiK wd s := by rw [hen]; exact bb2
          have hd7 := s7 _ _ hd5
          walk_at "rd"
          refine w_iRngL ?_
          walk_at "rd"
          refine ⟨_, _, rfl, ?_⟩
          obtain ⟨M, hM⟩ : ∃ M, M = (en + 1 - bg).toNat := ⟨_, rfl⟩
          rw [← hM]
          intro DD hDD
          refine lc_range (lo := bg) (n := M) (fun j H' => H' DD = some (.lst ((wl (fun n => !decide (n ∈ is)) bg j).map V.int)) ∧ Same H7 H') ⟨upd_same, sm_new (Same.refl H7) hDD⟩ ?_ ?_
          · rintro j H8 hj ⟨hd8, s8⟩
            walk_at "rd"
            refine ⟨rfl, ?_⟩
            walk_at "rd"
            refine w_notinL (SqL.of (s8 _ _ hd7)) rfl (by rw [List.all_eq_true]; intro y hy; obtain ⟨z, _, rfl⟩ := List.mem_map.mp hy; rfl) ?_
            rw [inV_ints]
            walk_at "rd"
            cases hz : !decide ((bg + (j : Int)) ∈ is) with
            | true =>
              refine iteT ?_
              walk_at "rd"
              refine ⟨_, hd8, by rw [List.length_map]; exact small1000 (by have := wl_len_le (fun n => !decide (n ∈ is)) bg j; omega), ?_, sm_mut s8 hDD⟩
              rw [upd_same, wl_succ, if_pos hz, List.map_append]
              rfl
            | false =>
              refine iteF ?_
              refine ⟨?_, s8⟩
              rw [wl_succ, hz, if_neg Bool.false_ne_true, List.append_nil]
              exact hd8
          rintro H8 ⟨hd8, s8⟩
          have ln : ((wl (fun n => !decide (n ∈ is)) bg M).length : Int) = tot (fun x => !fits wd s (exO o x c)) bg en := by
            rw [wl_len]
            unfold tot
            rw [show (en - bg + 1).toNat = M by omega]
            unfold cN
            exact sZ_congr fun j hj => by
              show (if (!decide ((bg + (j : Int)) ∈ is)) = true then (1 : Int) else 0) = if (!fits wd s (exO o (bg + (j : Int)) c)) = true then 1 else 0
              rw [mem _ (by omega) (by omega)]
          walk_at "rd"
          refine w_len hd8 ?_
          rw [List.length_map, ln]
          have s18 := (s15.trans s7).trans s8
          walk_at "rd"
          refine ⟨kp, o, c, bg, en, wd, s, rfl, (hk.same e1).same s18, ho, ⟨c1, c2⟩, bb1, bb2, fun H9 s9 => ?_⟩
          walk_at "rd"
          refine w_ndecT rfl ?_
          walk_at "rd"
          exact ⟨⟨_, _, _, rfl⟩, (s7.trans s8).trans s9⟩
        · rintro σ H7 ⟨⟨v6, v8, v9, rfl⟩, s7⟩
          exact ⟨⟨_, _, _, _, rfl⟩, s7⟩
      · rintro σ H6 ⟨⟨v6, v7, v8, v9, rfl⟩, s6⟩
        walk_at "rd"
        exact ⟨⟨_, _, _, _, _, _, rfl⟩, s15.trans s6⟩
    · rintro σ H2 ⟨⟨v4, v5, v6, v7, v8, v9, rfl⟩, s2⟩
      walk_at "rd"
      exact k _ (e1.trans s2)
def sp__law_span (K : PySem.W.Frag) (C : Addr) (TS : List (Addr × Str)) : Sp := fun vs H Q _ => ∃ (p : Addr) (m wd : Nat) (s : Bool), vs = [.ref p, .int (loK wd s), .int (2 ^ wd)] ∧ SrcN m H p ∧ m < 2 ^ 39 ∧ wd ≤ 128 ∧ ∀ (q : Addr) (a b : Int) H', H' q = some (.tup [.int a, .int b]) → loK wd s ≤ a → a ≤ b → b ≤ hiK wd s → Kp p H H' → SrcN (m + 200) H' p → Q (.ref q) H'
theorem ok__law_span {P : Program} {w : World} {K : PySem.W.Frag} {mg : Str → Option Value} {base : Heap} (T : Txt K mg) : FnOk P w K mg base CX0 3 T.f__law_span T.fd__law_span ["_law_deck_here", "_law_least_one", "_law_size"] (sp__law_span K T.C_Kind []) := by
  have G__law_great := ok__law_great (P := P) (w := w) (base := base) T
  refine T.F__law_span.ok sc__law_span (fun vs H Q E h => ?_) (fun cdv A outer s H vs Q E hr h => ?_)
  · obtain ⟨p, m, wd, s, rfl, _⟩ := h
    rfl
  · obtain ⟨p, m, wd, s, rfl, h⟩ := h
    have hr__law_great : Room 2 _ := hr.mono (by decide)
    refine ⟨_, (pss_one (ps_ret (pe_callTy (T := "tuple") (r := rTupOf K) call_tuple_of (by rfl) T.n_tuple (by decide +kernel) (pa_cons (pe_callB (id := "sorted") (r := rSortedI K) cr_sortedI (by rfl) T.n_sorted (by decide +kernel) (pa_cons (pe_lc (own := [("_law_turn", 3)]) (g := gName 3) (tt := tYes) (by rfl) sc__law_span.nd (pi_range1 (by rfl) T.n_range (pa_cons pe_int pa_nil)) (blkOk_by (own := [("_law_turn", 3)]) (N := ["_law_deck_here", "_law_least_one", "_law_size", "_law_turn"]) (sc := defScope s__law_span) (by decide +kernel)) (fun _ _ _ _ _ => (pg_name (i := 3) sc__law_span.nd rfl (Or.inl rfl))) (fun _ _ _ _ _ => pts_nil) (fun _ _ _ _ _ => (pe_op op_add (pv 1 (hv := Or.inr (Or.inl rfl))) (pe_call G__law_great hr__law_great rfl T.g__law_great T.k__law_great T.b__law_great .nil pass0 (pa_cons (pv 0 (hv := Or.inr (Or.inl rfl))) (pa_cons (pv 2 (hv := Or.inr (Or.inl rfl))) pa_nil)))))) pa_nil)) pa_nil)))), ?_⟩
    try dsimp only [cxOf, Cx.nox, Cx.wish, Cx.blk]
    rw [show L2.start ["_law_deck_here", "_law_least_one", "_law_size", "_law_turn"] [.ref p, .int (loK wd s), .int (2 ^ wd)] = [some (.ref p), some (.int (loK wd s)), some (.int (2 ^ wd)), none] from rfl]
    obtain ⟨hs, n38, w2, k⟩ := h
    have hp := p2 wd
    have hhi : hiK wd s = loK wd s + 2 ^ wd - 1 := rfl
    walk_at "rd"
    refine ⟨2, rfl, by decide, by decide, fun D hD => lc_range (lo := 0) (n := 2) (fun i H' => ∃ us : List Int, H' D = some (.lst (us.map V.int)) ∧ us.length = i ∧ (∀ u ∈ us, loK wd s ≤ u ∧ u ≤ hiK wd s) ∧ Kp p H H' ∧ SrcN (m + i * 100) H' p)
      ⟨[], upd_same, rfl, (fun u hu => by cases hu), (Kp.refl p H).new hD, hs.new hD⟩ ?_ ?_⟩
    · rintro i H' hi ⟨us, hu, ul, ub, s7, hs7⟩
      walk_at "rd"
      refine ⟨rfl, ?_⟩
      walk_at "rd"
      refine iteT ?_
      walk_at "rd"
      refine ⟨p, _, _, rfl, hs7, by omega, hp, b28 (bb_pow w2), fun v H8 v0 v1 kp8 hs8 => ?_⟩
      have nD : D ≠ p := hs.ne hD
      have hu8 := kp8 _ _ nD hu
      walk_at "rd"
      refine ⟨_, hu8, by rw [List.length_map, ul]; exact small1000 (by omega), us ++ [loK wd s + v], by rw [upd_same, List.map_append]; rfl, by rw [List.length_append, ul]; rfl, fun u hm => ?_, kp_mut (s7.trans kp8) hD, (hs8.mut nD).le (by omega)⟩
      rcases List.mem_append.mp hm with h | h
      · exact ub u h
      · rw [List.mem_singleton.mp h]
        omega
    rintro H3 ⟨us, hu, ul, ub, s3, hs3⟩
    walk_at "rd"
    refine ⟨D, us, rfl, SqL.of hu, fun ns' q1 perm srt hq1 => ?_⟩
    have hl := perm.length_eq
    have hm : ∀ v ∈ ns', loK wd s ≤ v ∧ v ≤ hiK wd s := fun v hv => ub v (perm.mem_iff.mp hv)
    obtain ⟨lo, hi, rfl⟩ : ∃ lo hi, ns' = [lo, hi] := by
      rcases ns' with _ | ⟨u0, _ | ⟨u1, _ | ⟨u2, r⟩⟩⟩
      · rw [ul] at hl; cases hl
      · rw [ul] at hl; cases hl
      · exact ⟨u0, u1, rfl⟩
      · rw [ul] at hl; simp at hl
    obtain ⟨lo1, lo2⟩ := hm lo (by simp)
    obtain ⟨hi1, hi2⟩ := hm hi (by simp)
    have lohi : lo ≤ hi := by
      rw [List.pairwise_cons] at srt
      exact srt.1 hi (by simp)
    have hq1' : (L2.upd H3 q1 (.lst ([lo, hi].map V.int))) q1 = some (.lst ([lo, hi].map V.int)) := upd_same
    have s4 := s3.new (o := .lst ([lo, hi].map V.int)) hq1
    have hs4 := hs3.new (o := .lst ([lo, hi].map V.int)) hq1
    generalize L2.upd H3 q1 _ = H4 at hq1' s4 hs4 ⊢
    walk_at "rd"
    refine w_tupOf hq1' (fun q hq => ?_)
    exact k q lo hi _ upd_same lo1 lohi hi2 (s4.new hq) ((hs4.new hq).le (by omega))
def sp__law_pairs_right (K : PySem.W.Frag) (C : Addr) (TS : List (Addr × Str)) : Sp := fun vs H Q _ => ∃ (p kx : Addr) (m wd : Nat) (s : Bool), vs = [.ref p, .ref kx, .int (loK wd s), .int (2 ^ wd)] ∧ SrcN m H p ∧ m < 2 ^ 37 ∧ Kd C H kx wd s ∧ wd ≤ 5 ∧ ∀ H', Kq TS p H H' → SrcN (m + 1000) H' p → Q (.bl true) H'
theorem ok__law_pairs_right {P : Program} {w : World} {K : PySem.W.Frag} {mg : Str → Option Value} {base : Heap} (T : Txt K mg) : FnOk P w K mg base CX0 8 T.f__law_pairs_right T.fd__law_pairs_right ["_law_deck_here", "_law_own", "_law_least_one", "_law_size"] (sp__law_pairs_right K T.C_Kind []) := by
  have G__law_deal := ok__law_deal (P := P) (w := w) (base := base) T
  have G__law_span := ok__law_span (P := P) (w := w) (base := base) T
  have G_operate := ok_operate (P := P) (w := w) (base := base) T
  have G_overflows := ok_overflows (P := P) (w := w) (base := base) T
  have G_pair_overflows := ok_pair_overflows (P := P) (w := w) (base := base) T
  have G_pairs_within := ok_pairs_within (P := P) (w := w) (base := base) T
  refine T.F__law_pairs_right.ok sc__law_pairs_right (fun vs H Q E h => ?_) (fun cdv A outer s H vs Q E hr h => ?_)
  · obtain ⟨p, kx, m, wd, s, rfl, _⟩ := h
    rfl
  · obtain ⟨p, kx, m, wd, s, rfl, h⟩ := h
    have hr__law_deal : Room 1 _ := hr.mono (by decide)
    have hr__law_span : Room 3 _ := hr.mono (by decide)
    have hr_operate : Room 7 _ := hr.mono (by decide)
    have hr_overflows : Room 7 _ := hr.mono (by decide)
    have hr_pair_overflows : Room 7 _ := hr.mono (by decide)
    have hr_pairs_within : Room 7 _ := hr.mono (by decide)
    refine ⟨_, (pss_cons (ps_par rfl sc__law_pairs_right.nd (i := 4) (j := 5) rfl rfl (by decide) rfl rfl (pa_cons (pe_call G__law_span hr__law_span rfl T.g__law_span T.k__law_span T.b__law_span .nil pass0 (pa_cons (pv 0 (hv := Or.inr (Or.inl rfl))) (pa_cons (pv 2 (hv := Or.inr (Or.inl rfl))) (pa_cons (pv 3 (hv := Or.inr (Or.inl rfl))) pa_nil)))) (pa_cons (pe_call G__law_span hr__law_span rfl T.g__law_span T.k__law_span T.b__law_span .nil pass0 (pa_cons (pv 0 (hv := Or.inr (Or.inl rfl))) (pa_cons (pv 2 (hv := Or.inr (Or.inl rfl))) (pa_cons (pv 3 (hv := Or.inr (Or.inl rfl))) pa_nil)))) pa_nil)) (by rfl))
      (pss_cons (ps_asg (pe_lc (own := [("_law_turn", 8)]) (g := gName 8) (tt := tYes) (by rfl) sc__law_pairs_right.nd (pi_range1 (by rfl) T.n_range (pa_cons pe_int pa_nil)) (blkOk_by (own := [("_law_turn", 8)]) (N := ["_law_deck_here", "_law_own", "_law_least_one", "_law_size", "_law_left", "_law_right", "_law_bottom", "_law_top", "_law_turn", "_law_word", "_law_over_so", "_law_within_so", "_law_n", "_law_row", "_law_k"]) (sc := defScope s__law_pairs_right) (by decide +kernel)) (fun _ _ _ _ _ => (pg_name (i := 8) sc__law_pairs_right.nd rfl (Or.inl rfl))) (fun _ _ _ _ _ => pts_nil) (fun _ _ _ _ _ => (pe_op op_add (pv 2 (hv := Or.inr (Or.inl rfl))) (pe_call G__law_deal hr__law_deal rfl T.g__law_deal T.k__law_deal T.b__law_deal .nil pass0 (pa_cons (pv 0 (hv := Or.inr (Or.inl rfl))) (pa_cons (pv 3 (hv := Or.inr (Or.inl rfl))) pa_nil)))))) (pg_unl rfl (pgs_cons (pg_name (i := 6) sc__law_pairs_right.nd rfl (Or.inr rfl)) (pgs_cons (pg_name (i := 7) sc__law_pairs_right.nd rfl (Or.inr rfl)) pgs_nil))))
      (pss_cons (ps_for PassesOwn.never rfl (pi_tup (pe_tup (pa_cons pe_str (pa_cons pe_str pa_nil)))) (pg_name (i := 9) sc__law_pairs_right.nd rfl (Or.inr rfl))
        (pss_cons (ps_asg (pe_tup (pa_cons pe_int (pa_cons pe_int pa_nil))) (pg_tup rfl (pgs_cons (pg_name (i := 10) sc__law_pairs_right.nd rfl (Or.inl rfl)) (pgs_cons (pg_name (i := 11) sc__law_pairs_right.nd rfl (Or.inl rfl)) pgs_nil))))
      (pss_cons (ps_for PassesOwn.never rfl (pi_rangeL (by rfl) T.n_range (pa_cons (pe_ix (r := rIxT K) ix_tup (pv 4 (hv := Or.inl rfl)) pe_int (fun _ _ => rfl)) (pa_cons (pe_op op_add (pe_ix (r := rIxT K) ix_tup (pv 4 (hv := Or.inl rfl)) pe_int (fun _ _ => rfl)) pe_int) pa_nil))) (pg_name (i := 12) sc__law_pairs_right.nd rfl (Or.inr rfl))
        (pss_cons (ps_set (i := 13) sc__law_pairs_right.nd rfl (Or.inl rfl) (pe_listRg rfl (by rfl) T.n_list (prg_2 (by rfl) T.n_range (pe_ix (r := rIxT K) ix_tup (pv 5 (hv := Or.inl rfl)) pe_int (fun _ _ => rfl)) (pe_op op_add (pe_ix (r := rIxT K) ix_tup (pv 5 (hv := Or.inl rfl)) pe_int (fun _ _ => rfl)) pe_int))))
      (pss_cons (ps_set (i := 10) sc__law_pairs_right.nd rfl (Or.inl rfl) (pe_op op_add (pv 10 (hv := Or.inl rfl)) (pe_callB (id := "len") (r := rLenS K) call_len_seq (by rfl) T.n_len (by decide +kernel) (pa_cons (pe_lc (own := [("_law_k", 14)]) (g := gName 14) (by rfl) sc__law_pairs_right.nd (pi_list (pv 13 (hv := Or.inl rfl))) (blkOk_by (own := [("_law_k", 14)]) (N := ["_law_deck_here", "_law_own", "_law_least_one", "_law_size", "_law_left", "_law_right", "_law_bottom", "_law_top", "_law_turn", "_law_word", "_law_over_so", "_law_within_so", "_law_n", "_law_row", "_law_k"]) (sc := defScope s__law_pairs_right) (by decide +kernel)) (fun _ _ _ _ _ => (pg_name (i := 14) sc__law_pairs_right.nd rfl (Or.inl rfl))) (fun _ _ _ _ _ => pts_one (pt_val (pe_call G_overflows hr_overflows rfl T.g_overflows T.k_overflows T.b_overflows .nil pass0 (pa_cons (pv 1 (hv := Or.inr (Or.inl rfl))) (pa_cons (pv 9 (hv := Or.inr (Or.inl rfl))) (pa_cons (pv 12 (hv := Or.inr (Or.inl rfl))) (pa_cons (pv 14 (hv := Or.inl rfl)) pa_nil))))))) (fun _ _ _ _ _ => (pv 14 (hv := Or.inl rfl)))) pa_nil))))
      (pss_one (ps_set (i := 11) sc__law_pairs_right.nd rfl (Or.inl rfl) (pe_op op_add (pv 11 (hv := Or.inl rfl)) (pe_callB (id := "len") (r := rLenS K) call_len_seq (by rfl) T.n_len (by decide +kernel) (pa_cons (pe_lc (own := [("_law_k", 14)]) (g := gName 14) (by rfl) sc__law_pairs_right.nd (pi_list (pv 13 (hv := Or.inl rfl))) (blkOk_by (own := [("_law_k", 14)]) (N := ["_law_deck_here", "_law_own", "_law_least_one", "_law_size", "_law_left", "_law_right", "_law_bottom", "_law_top", "_law_turn", "_law_word", "_law_over_so", "_law_within_so", "_law_n", "_law_row", "_law_k"]) (sc := defScope s__law_pairs_right) (by decide +kernel)) (fun _ _ _ _ _ => (pg_name (i := 14) sc__law_pairs_right.nd rfl (Or.inl rfl))) (fun _ _ _ _ _ => pts_one (pt_chain op_le op_le (pv 6 (hv := Or.inr (Or.inl rfl))) (pe_call G_operate hr_operate rfl T.g_operate T.k_operate T.b_operate .nil pass0 (pa_cons (pv 1 (hv := Or.inr (Or.inl rfl))) (pa_cons (pv 9 (hv := Or.inr (Or.inl rfl))) (pa_cons (pv 12 (hv := Or.inr (Or.inl rfl))) (pa_cons (pv 14 (hv := Or.inl rfl)) pa_nil))))) (pv 7 (hv := Or.inr (Or.inl rfl))))) (fun _ _ _ _ _ => (pv 14 (hv := Or.inl rfl)))) pa_nil))))))))
      (pss_cons (ps_if (pt_cmpR op_ne (pe_call G_pair_overflows hr_pair_overflows rfl T.g_pair_overflows T.k_pair_overflows T.b_pair_overflows .nil pass0 (pa_cons (pv 1 (hv := Or.inr (Or.inl rfl))) (pa_cons (pv 9 (hv := Or.inr (Or.inl rfl))) (pa_cons (pv 4 (hv := Or.inl rfl)) (pa_cons (pv 5 (hv := Or.inl rfl)) pa_nil))))) (pv 10 (hv := Or.inl rfl)) (nomark _)) (pss_one (ps_ret pe_bl)) pss_nil)
      (pss_cons (ps_if (pt_cmpR op_ne (pe_callK0 G_pair_overflows hr_pair_overflows rfl T.g_pair_overflows T.k_pair_overflows T.kb_pair_overflows_0_ys_xs_name_kind pass0 (pk_cons (pv 5 (hv := Or.inl rfl)) (pk_cons (pv 4 (hv := Or.inl rfl)) (pk_cons (pv 9 (hv := Or.inr (Or.inl rfl))) (pk_cons (pv 1 (hv := Or.inr (Or.inl rfl))) pk_nil))))) (pv 10 (hv := Or.inl rfl)) (nomark _)) (pss_one (ps_ret pe_bl)) pss_nil)
      (pss_cons (ps_if (pt_cmpR op_ne (pe_call G_pairs_within hr_pairs_within rfl T.g_pairs_within T.k_pairs_within T.b_pairs_within .nil pass0 (pa_cons (pv 1 (hv := Or.inr (Or.inl rfl))) (pa_cons (pv 9 (hv := Or.inr (Or.inl rfl))) (pa_cons (pv 4 (hv := Or.inl rfl)) (pa_cons (pv 5 (hv := Or.inl rfl)) (pa_cons (pv 6 (hv := Or.inr (Or.inl rfl))) (pa_cons (pv 7 (hv := Or.inr (Or.inl rfl))) pa_nil))))))) (pv 11 (hv := Or.inl rfl)) (nomark _)) (pss_one (ps_ret pe_bl)) pss_nil)
      (pss_one (ps_if (pt_cmpR op_ne (pe_callK0 G_pairs_within hr_pairs_within rfl T.g_pairs_within T.k_pairs_within T.kb_pairs_within_0_high_low_ys_xs_name_kind pass0 (pk_cons (pv 7 (hv := Or.inr (Or.inl rfl))) (pk_cons (pv 6 (hv := Or.inr (Or.inl rfl))) (pk_cons (pv 5 (hv := Or.inl rfl)) (pk_cons (pv 4 (hv := Or.inl rfl)) (pk_cons (pv 9 (hv := Or.inr (Or.inl rfl))) (pk_cons (pv 1 (hv := Or.inr (Or.inl rfl))) pk_nil))))))) (pv 11 (hv := Or.inl rfl)) (nomark _)) (pss_one (ps_ret pe_bl)) pss_nil))))))))
      (pss_one (ps_ret pe_bl))))), ?_⟩
    try dsimp only [cxOf, Cx.nox, Cx.wish, Cx.blk]
    rw [show L2.start ["_law_deck_here", "_law_own", "_law_least_one", "_law_size", "_law_left", "_law_right", "_law_bottom", "_law_top", "_law_turn", "_law_word", "_law_over_so", "_law_within_so", "_law_n", "_law_row", "_law_k"] [.ref p, .ref kx, .int (loK wd s), .int (2 ^ wd)] = [some (.ref p), some (.ref kx), some (.int (loK wd s)), some (.int (2 ^ wd)), none, none, none, none, none, none, none, none, none, none, none] from rfl]
    obtain ⟨hs0, n38, hk0, w5, k⟩ := h
    generalize hH0 : H = H0 at hs0 hk0 ⊢
    have s0 : Kq ([] : List (Addr × Str)) p H H0 := by rw [hH0]; exact Kq.refl _
    have w1 := hk0.w1
    have w2 := hk0.w2
    have hp := p2 wd
    have hhi : hiK wd s = loK wd s + 2 ^ wd - 1 := rfl
    obtain ⟨l0, l1, l2, l3⟩ := lohi w1 s
    have q128 := p128' w2
    have p32 : (2 : Int) ^ wd ≤ 32 := by
      have := Nat.pow_le_pow_right (n := 2) (by decide) w5
      have e : (2 : Nat) ^ 5 = 32 := by decide
      rw [e] at this
      exact_mod_cast this
    walk_at "rd"
    refine ⟨p, _, wd, s, rfl, hs0, by omega, w2, fun ql x0 x1 H1 hql ql0 ql1 ql2 kp1 hs1 => ?_⟩
    have e1 : Kq ([] : List (Addr × Str)) p H0 H1 := kp1.toQ hs0.lst
    have s1 := s0.trans e1
    have hk1 := hk0.kq (hs0.ne_of hk0.ex.choose_spec) e1
    clear kp1 e1 hk0 s0
    walk_at "rd"
    refine ⟨p, _, wd, s, rfl, hs1, by omega, w2, fun qr y0 y1 H2 hqr qr0 qr1 qr2 kp2 hs2 => ?_⟩
    have e2 : Kq ([] : List (Addr × Str)) p H1 H2 := kp2.toQ hs1.lst
    have s2 := s1.trans e2
    have hk2 := hk1.kq (hs1.ne_of hk1.ex.choose_spec) e2
    have hql := e2.at (hs1.ne_of hql) hql
    clear kp2 e2 hk1 s1
    walk_at "rd"
    refine ⟨2, rfl, by decide, by decide, fun D hD => lc_range (lo := 0) (n := 2) (fun i H' => ∃ us : List Int, H' D = some (.lst (us.map V.int)) ∧ us.length = i ∧ (∀ u ∈ us, loK wd s ≤ u ∧ u ≤ hiK wd s) ∧ Kq ([] : List (Addr × Str)) p H2 H' ∧ SrcN (m + 400 + i) H' p)
      ⟨[], upd_same, rfl, (fun u hu => by cases hu), (Kq.refl H2).new hD, (hs2.new hD).le (by omega)⟩ ?_ ?_⟩
    · rintro i H' hi ⟨us, hu, ul, ub, s7, hs7⟩
      walk_at "rd"
      refine ⟨rfl, ?_⟩
      walk_at "rd"
      refine iteT ?_
      walk_at "rd"
      refine ⟨p, _, _, rfl, hs7, by omega, hp, b89 (bb_pow w2), fun v H8 v0 v1 kp8 hs8 => ?_⟩
      have nD : D ≠ p := hs2.ne hD
      have s8 : Kq ([] : List (Addr × Str)) p H' H8 := kp8.toQ hs7.lst
      have hu8 := s8.at nD hu
      walk_at "rd"
      refine ⟨_, hu8, by rw [List.length_map, ul]; exact small1000 (by omega), us ++ [loK wd s + v], by rw [upd_same, List.map_append]; rfl, by rw [List.length_append, ul]; rfl, fun u hm => ?_, (s7.trans s8).mut hD hu8, (hs8.mut nD).le (by omega)⟩
      rcases List.mem_append.mp hm with h | h
      · exact ub u h
      · rw [List.mem_singleton.mp h]
        omega
    rintro H3 ⟨us, hu, ul, ub, e3, hs3⟩
    obtain ⟨bo, to, rfl⟩ : ∃ bo to, us = [bo, to] := by
      rcases us with _ | ⟨u0, _ | ⟨u1, _ | ⟨u2, r⟩⟩⟩
      · cases ul
      · cases ul
      · exact ⟨u0, u1, rfl⟩
      · simp at ul
    obtain ⟨bo1, bo2⟩ := ub bo (by simp)
    obtain ⟨to1, to2⟩ := ub to (by simp)
    have hql := e3.at (hs2.ne_of hql) hql
    have hqr := e3.at (hs2.ne_of hqr) hqr
    have hk3 := hk2.kq (hs2.ne_of hk2.ex.choose_spec) e3
    have s3 := s2.trans e3
    clear e3 hk2 hs2 s2
    walk_at "rd"
    refine w_gunl (xs := [.int bo, .int to]) hu rfl ?_
    walk_at "rd"
    refine w_iTup ?_
    walk_at "rd"
    refine ⟨by show 2 ≤ sizeLine; decide, fun t ht => ?_⟩
    have e4 := (Sm.refl (T := ([] : List (Addr × Str))) H3).new (o := (.tup [.str "add", .str "subtract"])) ht
    have hql := e4.at hql
    have hqr := e4.at hqr
    have ht : (L2.upd H3 t (.tup [.str "add", .str "subtract"])) t = some (.tup [.str "add", .str "subtract"]) := upd_same
    have s4 := s3.sm e4
    have hk4 := hk3.sm e4
    have hs4 := hs3.sm e4
    generalize L2.upd H3 t _ = H4 at e4 ht s4 hk4 hs4 hql hqr ⊢
    clear e4 s3 hk3 hs3
    walk_at "rd"
    have ht' : H4 t = some (.tup ([("add" : Str), "subtract"].map V.str)) := ht
    refine ⟨⟨_, SqT.of ht'⟩, for_tup (K := K) (a := t) (xs := [("add" : Str), "subtract"].map V.str) (fun i σ H' => (∃ (v9 v10 v11 v12 v13 v14 : Option V), σ = [some (.ref p), some (.ref kx), some (.int (loK wd s)), some (.int (2 ^ wd)), some (.ref ql), some (.ref qr), some (.int bo), some (.int to), none, v9, v10, v11, v12, v13, v14]) ∧ Sm ([] : List (Addr × Str)) H4 H')
      ⟨⟨_, _, _, _, _, _, rfl⟩, Sm.refl H4⟩ (fun i σ H' _ q => SqT.of (q.2.at ht')) ?_ ?_⟩
    · rintro i x σ H5 hi ⟨⟨v9, v10, v11, v12, v13, v14, rfl⟩, s5⟩
      obtain ⟨o, rfl, ho⟩ := nm2 hi
      have hk5 := hk4.sm s5
      have hql := s5.at hql
      have hqr := s5.at hqr
      walk_at "rd"
      refine ⟨by show 2 ≤ sizeLine; decide, fun z hz => ?_⟩
      have s6 := s5.new (o := .tup [.int 0, .int 0]) hz
      have hql := gn (u := .tup [.int 0, .int 0]) hql hz
      have hqr := gn (u := .tup [.int 0, .int 0]) hqr hz
      have hz' : (L2.upd H5 z (.tup [.int 0, .int 0])) z = some (.tup [.int 0, .int 0]) := upd_same
      generalize L2.upd H5 z _ = H6 at s6 hql hqr hz' ⊢
      have hk6 := hk4.sm s6
      walk_at "rd"
      refine w_iRngL ?_
      walk_at "rd"
      refine ⟨_, _, rfl, ?_⟩
      obtain ⟨W, hW⟩ : ∃ W, W = (x1 + 1 - x0).toNat := ⟨_, rfl⟩
      rw [← hW]
      obtain ⟨gO, hgO⟩ : ∃ g : Int → Int → Bool, g = fun u v => !fits wd s (exO o u v) := ⟨_, rfl⟩
      obtain ⟨gW, hgW⟩ : ∃ g : Int → Int → Bool, g = fun u v => decide (bo ≤ wr wd s (exO o u v) ∧ wr wd s (exO o u v) ≤ to) := ⟨_, rfl⟩
      refine for_range (lo := x0) (n := W) (fun i σ H' => (∃ (v12 v13 v14 : Option V), σ = [some (.ref p), some (.ref kx), some (.int (loK wd s)), some (.int (2 ^ wd)), some (.ref ql), some (.ref qr), some (.int bo), some (.int to), none, some (.str o.nm), some (.int (prS gO x0 (x0 + (i : Int) - 1) y0 y1)), some (.int (prS gW x0 (x0 + (i : Int) - 1) y0 y1)), v12, v13, v14]) ∧ Sm ([] : List (Addr × Str)) H6 H') ⟨⟨_, _, _, by
        have e0 : ∀ g, prS g x0 (x0 + ((0 : Nat) : Int) - 1) y0 y1 = 0 := fun g => totS_none (by omega)
        rw [e0, e0]⟩, Sm.refl H6⟩ ?_ ?_
      · rintro i1 σ H7 hi1 ⟨⟨v12, v13, v14, rfl⟩, s7⟩
        have hk7 := hk6.sm s7
        have hql := s7.at hql
        have hqr := s7.at hqr
        obtain ⟨n, hn⟩ : ∃ n, n = x0 + (i1 : Int) := ⟨_, rfl⟩
        have more : ∀ g, prS g x0 (x0 + ((i1 + 1 : Nat) : Int) - 1) y0 y1 = prS g x0 (n - 1) y0 y1 + tot (g n) y0 y1 := fun g => by
          rw [prS_step g (show x0 ≤ x0 + ((i1 + 1 : Nat) : Int) - 1 by omega), show x0 + ((i1 + 1 : Nat) : Int) - 1 - 1 = n - 1 by omega, show x0 + ((i1 + 1 : Nat) : Int) - 1 = n by omega]
        rw [← hn]
        walk_at "rd"
        refine w_lstRg ?_
        refine w_rg2 ?_
        walk_at "rd"
        refine ⟨_, _, rfl, rfl, ⟨by omega, by omega, by omega, by omega, by omega⟩, fun rw_ hrw => ?_⟩
        have s8 := s7.new (o := .lst (rgV y0 (y1 + 1))) hrw
        have hrw' : (L2.upd H7 rw_ (.lst (rgV y0 (y1 + 1)))) rw_ = some (.lst (rgV y0 (y1 + 1))) := upd_same
        generalize L2.upd H7 rw_ _ = H8 at s8 hrw' ⊢
        have hk8 := hk6.sm s8
        obtain ⟨Y, hY⟩ : ∃ Y, Y = (y1 + 1 - y0).toNat := ⟨_, rfl⟩
        have lY : (rgV y0 (y1 + 1)).length = Y := by rw [rgV_length, hY]
        have tl : ∀ P : Int → Bool, ((wl P y0 Y).length : Int) = tot P y0 y1 := fun P => wl_tot (by omega)
        walk_at "rd"
        refine ⟨⟨_, SqL.of hrw'⟩, fun D2 hD2 => lc_list (K := K) (a := rw_) (xs := rgV y0 (y1 + 1)) (fun j H'' => H'' D2 = some (.lst ((wl (gO n) y0 j).map V.int)) ∧ Sm ([] : List (Addr × Str)) H8 H'') ⟨upd_same, (Sm.refl H8).new hD2⟩ (fun i H' _ q => SqL.of (q.2.at hrw')) ?_ ?_⟩
        · rintro j y H9 hj ⟨hd, s9⟩
          obtain ⟨rfl, jl⟩ := rgV_get hj
          walk_at "rd"
          refine ⟨rfl, ?_⟩
          walk_at "rd"
          refine ⟨kx, o, _, _, wd, s, rfl, hk8.sm s9, ho.v.ov, ⟨by omega, by omega⟩, ⟨by omega, by omega⟩, fun z => absurd z ho.v.nd.1, fun z => absurd z ho.v.nd.2, ?_⟩
          walk_at "rd"
          have ef : (!decide (loK wd s ≤ exO o n (y0 + (j : Int)) ∧ exO o n (y0 + (j : Int)) ≤ hiK wd s)) = gO n (y0 + (j : Int)) := by rw [hgO]; rfl
          rw [ef]
          cases hz : gO n (y0 + (j : Int)) with
          | true =>
            refine iteT ?_
            walk_at "rd"
            refine ⟨_, hd, by rw [List.length_map]; exact small1000 (by have := wl_len_le (gO n) y0 j; omega), ?_, s9.mut hD2 hd⟩
            rw [upd_same, wl_succ, if_pos hz, List.map_append]
            rfl
          | false =>
            refine iteF ?_
            refine ⟨?_, s9⟩
            rw [wl_succ, hz, if_neg Bool.false_ne_true, List.append_nil]
            exact hd
        rintro H9 ⟨hd, s9⟩
        rw [lY] at hd
        walk_at "rd"
        refine w_len hd ?_
        rw [List.length_map, tl]
        walk_at "rd"
        rw [← more gO]
        have s10 := s8.trans s9
        have hk10 := hk6.sm s10
        have hrw9 := s9.at hrw'
        refine ⟨⟨_, SqL.of hrw9⟩, fun D3 hD3 => lc_list (K := K) (a := rw_) (xs := rgV y0 (y1 + 1)) (fun j H'' => H'' D3 = some (.lst ((wl (gW n) y0 j).map V.int)) ∧ Sm ([] : List (Addr × Str)) H9 H'') ⟨upd_same, (Sm.refl H9).new hD3⟩ (fun i H' _ q => SqL.of (q.2.at hrw9)) ?_ ?_⟩
        · rintro j y H11 hj ⟨hd3, s11⟩
          obtain ⟨rfl, jl⟩ := rgV_get hj
          walk_at "rd"
          refine ⟨rfl, ?_⟩
          walk_at "rd"
          refine w_chain ?_
          walk_at "rd"
          refine ⟨kx, o, _, _, wd, s, rfl, hk10.sm s11, ⟨by omega, by omega⟩, ⟨by omega, by omega⟩, fun z => absurd z ho.v.nd.1, fun z => absurd z ho.v.nd.2, ?_⟩
          walk_at "rd"
          have ef : gW n (y0 + (j : Int)) = decide (bo ≤ wr wd s (exO o n (y0 + (j : Int))) ∧ wr wd s (exO o n (y0 + (j : Int))) ≤ to) := by rw [hgW]
          have yes : gW n (y0 + (j : Int)) = true → wl (gW n) y0 (j + 1) = wl (gW n) y0 j ++ [y0 + (j : Int)] := fun z => by rw [wl_succ, if_pos z]
          have no : gW n (y0 + (j : Int)) = false → wl (gW n) y0 (j + 1) = wl (gW n) y0 j := fun z => by rw [wl_succ, z, if_neg Bool.false_ne_true, List.append_nil]
          refine w_dec (fun g1 => ?_) (fun g1 => ?_)
          · walk_at "rd"
            refine w_dec (fun g2 => ?_) (fun g2 => ?_)
            · walk_at "rd"
              refine ⟨_, hd3, by rw [List.length_map]; exact small1000 (by have := wl_len_le (gW n) y0 j; omega), ?_, s11.mut hD3 hd3⟩
              rw [upd_same, yes (by rw [ef]; exact decide_eq_true ⟨g1, g2⟩), List.map_append]
              rfl
            · refine ⟨?_, s11⟩
              rw [no (by rw [ef]; exact decide_eq_false fun z => g2 z.2)]
              exact hd3
          · walk_at "rd"
            refine iteF ?_
            refine ⟨?_, s11⟩
            rw [no (by rw [ef]; exact decide_eq_false fun z => g1 z.1)]
            exact hd3
        rintro H11 ⟨hd3, s11⟩
        rw [lY] at hd3
        walk_at "rd"
        refine w_len hd3 ?_
        rw [List.length_map, tl]
        walk_at "rd"
        rw [← more gW]
        exact ⟨⟨_, _, _, rfl⟩, s10.trans s11⟩
      rintro σ H7 ⟨⟨v12, v13, v14, rfl⟩, s7⟩
      rw [show x0 + (W : Int) - 1 = x1 by omega]
      have eO : prS gO x0 x1 y0 y1 = prO wd s o x0 x1 y0 y1 := by rw [hgO]; rfl
      have eW : prS gW x0 x1 y0 y1 = prW wd s o bo to x0 x1 y0 y1 := by rw [hgW]; rfl
      rw [eO, eW]
      have hk7 := hk6.sm s7
      have hql := s7.at hql
      have hqr := s7.at hqr
      walk_at "rd"
      refine ⟨kx, o, ql, qr, wd, s, x0, x1, y0, y1, rfl, hk7, ho, hql, hqr, ⟨ql0, ql1, ql2⟩, ⟨qr0, qr1, qr2⟩, fun H8 s8 => ?_⟩
      walk_at "rd"
      refine w_ndecT rfl ?_
      walk_at "rd"
      refine ⟨kx, o, ql, qr, wd, s, x0, x1, y0, y1, rfl, hk7.same s8, ho, s8 _ _ hql, s8 _ _ hqr, ⟨ql0, ql1, ql2⟩, ⟨qr0, qr1, qr2⟩, fun H9 s9 => ?_⟩
      walk_at "rd"
      refine w_ndecT rfl ?_
      have s89 := s8.trans s9
      walk_at "rd"
      refine ⟨kx, o, ql, qr, bo, to, wd, s, x0, x1, y0, y1, rfl, hk7.same s89, ho, s89 _ _ hql, s89 _ _ hqr, ⟨ql0, ql1, ql2⟩, ⟨qr0, qr1, qr2⟩, ⟨bo1, bo2⟩, ⟨to1, to2⟩, fun H10 s10 => ?_⟩
      walk_at "rd"
      refine w_ndecT rfl ?_
      have s810 := s89.trans s10
      walk_at "rd"
      refine ⟨kx, o, ql, qr, bo, to, wd, s, x0, x1, y0, y1, rfl, hk7.same s810, ho, s810 _ _ hql, s810 _ _ hqr, ⟨ql0, ql1, ql2⟩, ⟨qr0, qr1, qr2⟩, ⟨bo1, bo2⟩, ⟨to1, to2⟩, fun H11 s11 => ?_⟩
      walk_at "rd"
      refine w_ndecT rfl ?_
      walk_at "rd"
      exact ⟨⟨_, _, _, _, _, _, rfl⟩, (s6.trans s7).trans (Sm.of (s810.trans s11))⟩
    · rintro σ H5 ⟨⟨v9, v10, v11, v12, v13, v14, rfl⟩, s5⟩
      walk_at "rd"
      exact k _ (s4.sm s5) ((hs4.sm s5).le (by omega))
def sp__law_great_values_right (K : PySem.W.Frag) (C : Addr) (TS : List (Addr × Str)) : Sp := fun vs H Q _ => ∃ (p kx : Addr) (m wd : Nat) (s : Bool), vs = [.ref p, .ref kx, .int (loK wd s), .int (2 ^ wd)] ∧ SrcN m H p ∧ m < 2 ^ 37 ∧ Kd C H kx wd s ∧ ∀ H', Kq TS p H H' → SrcN (m + 3000) H' p → Q (.bl true) H'
theorem ok__law_great_values_right {P : Program} {w : World} {K : PySem.W.Frag} {mg : Str → Option Value} {base : Heap} (T : Txt K mg) : FnOk P w K mg base CX0 8 T.f__law_great_values_right T.fd__law_great_values_right ["_law_deck_here", "_law_own", "_law_least_one", "_law_size"] (sp__law_great_values_right K T.C_Kind []) := by
  have G__law_choice := ok__law_choice (P := P) (w := w) (base := base) T
  have G__law_great := ok__law_great (P := P) (w := w) (base := base) T
  have G__law_span := ok__law_span (P := P) (w := w) (base := base) T
  have G_overflow_total := ok_overflow_total (P := P) (w := w) (base := base) T
  have G_overflows := ok_overflows (P := P) (w := w) (base := base) T
  have G_safe_values := ok_safe_values (P := P) (w := w) (base := base) T
  refine T.F__law_great_values_right.ok sc__law_great_values_right (fun vs H Q E h => ?_) (fun cdv A outer s H vs Q E hr h => ?_)
  · obtain ⟨p, kx, m, wd, s, rfl, _⟩ := h
    rfl
  · obtain ⟨p, kx, m, wd, s, rfl, h⟩ := h
    have hr__law_choice : Room 2 _ := hr.mono (by decide)
    have hr__law_great : Room 2 _ := hr.mono (by decide)
    have hr__law_span : Room 3 _ := hr.mono (by decide)
    have hr_overflow_total : Room 7 _ := hr.mono (by decide)
    have hr_overflows : Room 7 _ := hr.mono (by decide)
    have hr_safe_values : Room 7 _ := hr.mono (by decide)
    refine ⟨_, (pss_cons (ps_set (i := 4) sc__law_great_values_right.nd rfl (Or.inr rfl) (pe_op op_add (pv 2 (hv := Or.inr (Or.inl rfl))) (pe_call G__law_great hr__law_great rfl T.g__law_great T.k__law_great T.b__law_great .nil pass0 (pa_cons (pv 0 (hv := Or.inl rfl)) (pa_cons (pe_call G__law_choice hr__law_choice rfl T.g__law_choice T.k__law_choice T.b__law_choice .nil pass0 (pa_cons (pv 0 (hv := Or.inl rfl)) (pa_cons (pe_lst (pa_cons (pv 3 (hv := Or.inr (Or.inl rfl))) (pa_cons (pe_callB (id := "min") (r := rmin2C) (call_min2 rfl) (by rfl) T.n_min (by decide +kernel) (pa_cons (pv 3 (hv := Or.inr (Or.inl rfl))) (pa_cons pe_int pa_nil))) pa_nil))) pa_nil))) pa_nil)))))
      (pss_cons (ps_set (i := 4) sc__law_great_values_right.nd rfl (Or.inr rfl) (pe_call G__law_choice hr__law_choice rfl T.g__law_choice T.k__law_choice T.b__law_choice .nil pass0 (pa_cons (pv 0 (hv := Or.inl rfl)) (pa_cons (pe_lst (pa_cons (pv 4 (hv := Or.inr (Or.inl rfl))) (pa_cons (pv 4 (hv := Or.inr (Or.inl rfl))) (pa_cons (pe_op op_sub (pe_op op_add (pv 2 (hv := Or.inr (Or.inl rfl))) (pv 3 (hv := Or.inr (Or.inl rfl)))) pe_int) (pa_cons (pv 2 (hv := Or.inr (Or.inl rfl))) pa_nil))))) pa_nil))))
      (pss_cons (ps_for PassesOwn.never rfl (pi_tup (pe_tup (pa_cons pe_str (pa_cons pe_str (pa_cons pe_str pa_nil))))) (pg_name (i := 5) sc__law_great_values_right.nd rfl (Or.inr rfl))
        (pss_cons (ps_asg (pe_call G_safe_values hr_safe_values rfl T.g_safe_values T.k_safe_values T.b_safe_values .nil pass0 (pa_cons (pv 1 (hv := Or.inr (Or.inl rfl))) (pa_cons (pv 5 (hv := Or.inr (Or.inl rfl))) (pa_cons (pv 4 (hv := Or.inr (Or.inl rfl))) pa_nil)))) (pg_tup rfl (pgs_cons (pg_name (i := 6) sc__law_great_values_right.nd rfl (Or.inr rfl)) (pgs_cons (pg_name (i := 7) sc__law_great_values_right.nd rfl (Or.inr rfl)) pgs_nil))))
      (pss_cons (ps_set (i := 8) sc__law_great_values_right.nd rfl (Or.inl rfl) (pe_lst (pa_cons (pv 6 (hv := Or.inr (Or.inl rfl))) (pa_cons (pv 7 (hv := Or.inr (Or.inl rfl))) (pa_cons (pe_op op_add (pv 6 (hv := Or.inr (Or.inl rfl))) (pe_call G__law_great hr__law_great rfl T.g__law_great T.k__law_great T.b__law_great .nil pass0 (pa_cons (pv 0 (hv := Or.inl rfl)) (pa_cons (pe_op op_add (pe_op op_sub (pv 7 (hv := Or.inr (Or.inl rfl))) (pv 6 (hv := Or.inr (Or.inl rfl)))) pe_int) pa_nil)))) pa_nil)))))
      (pss_cons (ps_if (pt_cmpR (op_neD hr.units) (pe_lc (own := [("_law_n", 9)]) (g := gName 9) (by rfl) sc__law_great_values_right.nd (pi_list (pv 8 (hv := Or.inl rfl))) (blkOk_by (own := [("_law_n", 9)]) (N := ["_law_deck_here", "_law_own", "_law_least_one", "_law_size", "_law_one", "_law_word", "_law_near", "_law_far", "_law_some", "_law_n", "_law_beside", "_law_begin", "_law_end", "_law_due", "_law_told"]) (sc := defScope s__law_great_values_right) (by decide +kernel)) (fun _ _ _ _ _ => (pg_name (i := 9) sc__law_great_values_right.nd rfl (Or.inl rfl))) (fun _ _ _ _ _ => pts_one (pt_val (pe_call G_overflows hr_overflows rfl T.g_overflows T.k_overflows T.b_overflows .nil pass0 (pa_cons (pv 1 (hv := Or.inr (Or.inl rfl))) (pa_cons (pv 5 (hv := Or.inr (Or.inl rfl))) (pa_cons (pv 9 (hv := Or.inl rfl)) (pa_cons (pv 4 (hv := Or.inr (Or.inl rfl))) pa_nil))))))) (fun _ _ _ _ _ => (pv 9 (hv := Or.inl rfl)))) (pe_lst pa_nil) (nomark _)) (pss_one (ps_ret pe_bl)) pss_nil)
      (pss_cons (ps_setLc (i := 10) (own := [("_law_n", 9)]) (g := gName 9) rfl sc__law_great_values_right.nd rfl rfl (sw_true rfl rfl rfl (by decide +kernel)) (pi_tup (pe_tup (pa_cons (pe_op op_sub (pv 6 (hv := Or.inr (Or.inl rfl))) pe_int) (pa_cons (pe_op op_add (pv 7 (hv := Or.inr (Or.inl rfl))) pe_int) pa_nil)))) (blkOk_by (own := [("_law_n", 9)]) (N := ["_law_deck_here", "_law_own", "_law_least_one", "_law_size", "_law_one", "_law_word", "_law_near", "_law_far", "_law_some", "_law_n", "_law_beside", "_law_begin", "_law_end", "_law_due", "_law_told"]) (sc := defScope s__law_great_values_right) (by decide +kernel)) (fun _ _ _ _ _ => (pg_name (i := 9) sc__law_great_values_right.nd rfl (Or.inl rfl))) (fun _ _ _ _ _ => pts_one (pt_chain op_le op_lt (pv 2 (hv := Or.inr (Or.inl rfl))) (pv 9 (hv := Or.inl rfl)) (pe_op op_add (pv 2 (hv := Or.inr (Or.inl rfl))) (pv 3 (hv := Or.inr (Or.inl rfl)))))) (fun _ _ _ _ _ => (pv 9 (hv := Or.inl rfl))))
      (pss_cons (ps_if (pt_cmpR (op_neD hr.units) (pe_lc (own := [("_law_n", 9)]) (g := gName 9) (by rfl) sc__law_great_values_right.nd (pi_list (pv 10 (hv := Or.inl rfl))) (blkOk_by (own := [("_law_n", 9)]) (N := ["_law_deck_here", "_law_own", "_law_least_one", "_law_size", "_law_one", "_law_word", "_law_near", "_law_far", "_law_some", "_law_n", "_law_beside", "_law_begin", "_law_end", "_law_due", "_law_told"]) (sc := defScope s__law_great_values_right) (by decide +kernel)) (fun _ _ _ _ _ => (pg_name (i := 9) sc__law_great_values_right.nd rfl (Or.inl rfl))) (fun _ _ _ _ _ => pts_one (pt_not (pt_val (pe_call G_overflows hr_overflows rfl T.g_overflows T.k_overflows T.b_overflows .nil pass0 (pa_cons (pv 1 (hv := Or.inr (Or.inl rfl))) (pa_cons (pv 5 (hv := Or.inr (Or.inl rfl))) (pa_cons (pv 9 (hv := Or.inl rfl)) (pa_cons (pv 4 (hv := Or.inr (Or.inl rfl))) pa_nil)))))))) (fun _ _ _ _ _ => (pv 9 (hv := Or.inl rfl)))) (pe_lst pa_nil) (nomark _)) (pss_one (ps_ret pe_bl)) pss_nil)
      (pss_cons (ps_asg (pe_call G__law_span hr__law_span rfl T.g__law_span T.k__law_span T.b__law_span .nil pass0 (pa_cons (pv 0 (hv := Or.inl rfl)) (pa_cons (pv 2 (hv := Or.inr (Or.inl rfl))) (pa_cons (pv 3 (hv := Or.inr (Or.inl rfl))) pa_nil)))) (pg_tup rfl (pgs_cons (pg_name (i := 11) sc__law_great_values_right.nd rfl (Or.inl rfl)) (pgs_cons (pg_name (i := 12) sc__law_great_values_right.nd rfl (Or.inl rfl)) pgs_nil))))
      (pss_cons (ps_set (i := 13) sc__law_great_values_right.nd rfl (Or.inl rfl) (pe_callB (id := "len") (r := rLenS K) call_len_seq (by rfl) T.n_len (by decide +kernel) (pa_cons (pe_lc (own := [("_law_n", 9)]) (g := gName 9) (by rfl) sc__law_great_values_right.nd (pi_tup (pe_tup (pa_cons (pv 11 (hv := Or.inl rfl)) (pa_cons (pv 12 (hv := Or.inl rfl)) pa_nil)))) (blkOk_by (own := [("_law_n", 9)]) (N := ["_law_deck_here", "_law_own", "_law_least_one", "_law_size", "_law_one", "_law_word", "_law_near", "_law_far", "_law_some", "_law_n", "_law_beside", "_law_begin", "_law_end", "_law_due", "_law_told"]) (sc := defScope s__law_great_values_right) (by decide +kernel)) (fun _ _ _ _ _ => (pg_name (i := 9) sc__law_great_values_right.nd rfl (Or.inl rfl))) (fun _ _ _ _ _ => pts_one (pt_not (pt_chain op_le op_le (pv 6 (hv := Or.inr (Or.inl rfl))) (pv 9 (hv := Or.inl rfl)) (pv 7 (hv := Or.inr (Or.inl rfl)))))) (fun _ _ _ _ _ => (pv 9 (hv := Or.inl rfl)))) pa_nil)))
      (pss_cons (ps_if (pt_cmpR op_ne (pe_bm PySem.F.plainAttrs_list PySem.F.slot_list_count PySem.F.type_list_count mt_lcount (pe_lc (own := [("_law_n", 9)]) (g := gName 9) (tt := tYes) (by rfl) sc__law_great_values_right.nd (pi_tup (pe_tup (pa_cons (pv 11 (hv := Or.inl rfl)) (pa_cons (pv 12 (hv := Or.inl rfl)) pa_nil)))) (blkOk_by (own := [("_law_n", 9)]) (N := ["_law_deck_here", "_law_own", "_law_least_one", "_law_size", "_law_one", "_law_word", "_law_near", "_law_far", "_law_some", "_law_n", "_law_beside", "_law_begin", "_law_end", "_law_due", "_law_told"]) (sc := defScope s__law_great_values_right) (by decide +kernel)) (fun _ _ _ _ _ => (pg_name (i := 9) sc__law_great_values_right.nd rfl (Or.inl rfl))) (fun _ _ _ _ _ => pts_nil) (fun _ _ _ _ _ => (pe_call G_overflow_total hr_overflow_total rfl T.g_overflow_total T.k_overflow_total T.b_overflow_total .nil pass0 (pa_cons (pv 1 (hv := Or.inr (Or.inl rfl))) (pa_cons (pv 5 (hv := Or.inr (Or.inl rfl))) (pa_cons (pv 4 (hv := Or.inr (Or.inl rfl))) (pa_cons (pv 9 (hv := Or.inl rfl)) (pa_cons (pv 9 (hv := Or.inl rfl)) pa_nil)))))))) (pa_cons pe_int pa_nil)) (pv 13 (hv := Or.inl rfl)) (nomark _)) (pss_one (ps_ret pe_bl)) pss_nil)
      (pss_cons (ps_if (pt_cmpR op_ne (pe_call G_overflow_total hr_overflow_total rfl T.g_overflow_total T.k_overflow_total T.b_overflow_total .nil pass0 (pa_cons (pv 1 (hv := Or.inr (Or.inl rfl))) (pa_cons (pv 5 (hv := Or.inr (Or.inl rfl))) (pa_cons (pv 4 (hv := Or.inr (Or.inl rfl))) (pa_cons (pv 2 (hv := Or.inr (Or.inl rfl))) (pa_cons (pe_op op_sub (pe_op op_add (pv 2 (hv := Or.inr (Or.inl rfl))) (pv 3 (hv := Or.inr (Or.inl rfl)))) pe_int) pa_nil)))))) (pe_op op_sub (pv 3 (hv := Or.inr (Or.inl rfl))) (pe_op op_add (pe_op op_sub (pv 7 (hv := Or.inr (Or.inl rfl))) (pv 6 (hv := Or.inr (Or.inl rfl)))) pe_int)) (nomark _)) (pss_one (ps_ret pe_bl)) pss_nil)
      (pss_cons (ps_set (i := 13) sc__law_great_values_right.nd rfl (Or.inl rfl) (pe_op op_sub (pe_op op_add (pe_op op_sub (pv 12 (hv := Or.inl rfl)) (pv 11 (hv := Or.inl rfl))) pe_int) (pe_callB (id := "max") (r := rmax2C) (call_max2 rfl) (by rfl) T.n_max (by decide +kernel) (pa_cons pe_int (pa_cons (pe_op op_add (pe_op op_sub (pe_callB (id := "min") (r := rmin2C) (call_min2 rfl) (by rfl) T.n_min (by decide +kernel) (pa_cons (pv 12 (hv := Or.inl rfl)) (pa_cons (pv 7 (hv := Or.inr (Or.inl rfl))) pa_nil))) (pe_callB (id := "max") (r := rmax2C) (call_max2 rfl) (by rfl) T.n_max (by decide +kernel) (pa_cons (pv 11 (hv := Or.inl rfl)) (pa_cons (pv 6 (hv := Or.inr (Or.inl rfl))) pa_nil)))) pe_int) pa_nil)))))
      (pss_cons (ps_if (pt_cmpR op_ne (pe_call G_overflow_total hr_overflow_total rfl T.g_overflow_total T.k_overflow_total T.b_overflow_total .nil pass0 (pa_cons (pv 1 (hv := Or.inr (Or.inl rfl))) (pa_cons (pv 5 (hv := Or.inr (Or.inl rfl))) (pa_cons (pv 4 (hv := Or.inr (Or.inl rfl))) (pa_cons (pv 11 (hv := Or.inl rfl)) (pa_cons (pv 12 (hv := Or.inl rfl)) pa_nil)))))) (pv 13 (hv := Or.inl rfl)) (nomark _)) (pss_one (ps_ret pe_bl)) pss_nil)
      (pss_cons (ps_set (i := 14) sc__law_great_values_right.nd rfl (Or.inl rfl) (pe_callK0 G_overflow_total hr_overflow_total rfl T.g_overflow_total T.k_overflow_total T.kb_overflow_total_0_last_first_c_name_kind pass0 (pk_cons (pv 12 (hv := Or.inl rfl)) (pk_cons (pv 11 (hv := Or.inl rfl)) (pk_cons (pv 4 (hv := Or.inr (Or.inl rfl))) (pk_cons (pv 5 (hv := Or.inr (Or.inl rfl))) (pk_cons (pv 1 (hv := Or.inr (Or.inl rfl))) pk_nil)))))))
      (pss_one (ps_if (pt_cmpR op_ne (pv 14 (hv := Or.inl rfl)) (pe_call G_overflow_total hr_overflow_total rfl T.g_overflow_total T.k_overflow_total T.b_overflow_total .nil pass0 (pa_cons (pv 1 (hv := Or.inr (Or.inl rfl))) (pa_cons (pv 5 (hv := Or.inr (Or.inl rfl))) (pa_cons (pv 4 (hv := Or.inr (Or.inl rfl))) (pa_cons (pv 11 (hv := Or.inl rfl)) (pa_cons (pv 12 (hv := Or.inl rfl)) pa_nil)))))) (nomark _)) (pss_one (ps_ret pe_bl)) pss_nil)))))))))))))))
      (pss_one (ps_ret (pe_cmpR (op_eqD hr.units) (pe_callK0 G_safe_values hr_safe_values rfl T.g_safe_values T.k_safe_values T.kb_safe_values_0_c_name_kind pass0 (pk_cons (pv 4 (hv := Or.inr (Or.inl rfl))) (pk_cons pe_str (pk_cons (pv 1 (hv := Or.inr (Or.inl rfl))) pk_nil)))) (pe_call G_safe_values hr_safe_values rfl T.g_safe_values T.k_safe_values T.b_safe_values .nil pass0 (pa_cons (pv 1 (hv := Or.inr (Or.inl rfl))) (pa_cons pe_str (pa_cons (pv 4 (hv := Or.inr (Or.inl rfl))) pa_nil)))) (nomark _))))))), ?_⟩
    try dsimp only [cxOf, Cx.nox, Cx.wish, Cx.blk]
    rw [show L2.start ["_law_deck_here", "_law_own", "_law_least_one", "_law_size", "_law_one", "_law_word", "_law_near", "_law_far", "_law_some", "_law_n", "_law_beside", "_law_begin", "_law_end", "_law_due", "_law_told"] [.ref p, .ref kx, .int (loK wd s), .int (2 ^ wd)] = [some (.ref p), some (.ref kx), some (.int (loK wd s)), some (.int (2 ^ wd)), none, none, none, none, none, none, none, none, none, none, none] from rfl]
    obtain ⟨hs0, n38, hk0, k⟩ := h
    generalize hH0 : H = H0 at hs0 hk0 ⊢
    have s0 : Kq ([] : List (Addr × Str)) p H H0 := by rw [hH0]; exact Kq.refl _
    have w1 := hk0.w1
    have w2 := hk0.w2
    have hp := p2 wd
    have hhi : hiK wd s = loK wd s + 2 ^ wd - 1 := rfl
    obtain ⟨l0, l1, l2, l3⟩ := lohi w1 s
    have q128 := p128' w2
    have q62 : (2 : Int) ^ 128 * 16 ≤ 10 ^ 62 := by decide +kernel
    walk_at "rd"
    refine w_min2 ?_
    walk_at "rd"
    refine ⟨by show 2 ≤ sizeLine; decide, fun c1 hc1 => ?_⟩
    walk_at "rd"
    refine ⟨p, c1, _, _, rfl, hs0.new hc1, by omega, upd_same, hs0.ne hc1, by simp, by simp, fun v H1 hv kp1 hs1 => ?_⟩
    have e1 : Kq ([] : List (Addr × Str)) p H0 H1 := (Kq.refl H0).new hc1 |>.trans (kp1.toQ (hs0.new hc1).lst)
    obtain ⟨mi, rfl, mi0, mi1⟩ : ∃ mi : Int, v = .int mi ∧ 0 < mi ∧ mi ≤ 2 ^ wd := by
      rcases List.mem_cons.mp hv with e | e
      · exact ⟨_, e, by omega, by omega⟩
      · exact ⟨_, List.mem_singleton.mp e, by omega, by omega⟩
    walk_at "rd"
    refine ⟨p, _, _, rfl, hs1, by omega, mi0, b28 (bb_ten (by omega) (by omega)), fun v1 H2 v10 v11 kp2 hs2 => ?_⟩
    have e2 : Kq ([] : List (Addr × Str)) p H1 H2 := kp2.toQ hs1.lst
    walk_at "rd"
    refine ⟨by show 4 ≤ sizeLine; decide, fun c2 hc2 => ?_⟩
    walk_at "rd"
    refine ⟨p, c2, _, _, rfl, hs2.new hc2, by omega, upd_same, hs2.ne hc2, by simp, by simp, fun v H3 hv kp3 hs3 => ?_⟩
    have e3 : Kq ([] : List (Addr × Str)) p H2 H3 := (Kq.refl H2).new hc2 |>.trans (kp3.toQ (hs2.new hc2).lst)
    obtain ⟨c, rfl, cb1, cb2⟩ : ∃ c : Int, v = .int c ∧ loK wd s ≤ c ∧ c ≤ hiK wd s := by
      rcases List.mem_cons.mp hv with e | e
      · exact ⟨_, e, by omega, by omega⟩
      · rcases List.mem_cons.mp e with e | e
        · exact ⟨_, e, by omega, by omega⟩
        · rcases List.mem_cons.mp e with e | e
          · exact ⟨_, e, by omega, by omega⟩
          · exact ⟨_, List.mem_singleton.mp e, by omega, by omega⟩
    have e03 := (e1.trans e2).trans e3
    have s3 := s0.trans e03
    have hk3 := hk0.kq (hs0.ne_of hk0.ex.choose_spec) e03
    clear e03 e1 e2 e3 kp1 kp2 kp3 hk0 s0 hs0 hs1 hs2
    walk_at "rd"
    refine w_iTup ?_
    walk_at "rd"
    refine ⟨by show 3 ≤ sizeLine; decide, fun t ht => ?_⟩
    have e4 := (Sm.refl (T := ([] : List (Addr × Str))) H3).new (o := (.tup [.str "add", .str "subtract", .str "multiply"])) ht
    have ht : (L2.upd H3 t (.tup [.str "add", .str "subtract", .str "multiply"])) t = some (.tup [.str "add", .str "subtract", .str "multiply"]) := upd_same
    have s4 := s3.sm e4
    have hk4 := hk3.sm e4
    have hs4 := hs3.sm e4
    generalize L2.upd H3 t _ = H4 at e4 ht s4 hk4 hs4 ⊢
    clear e4 s3 hk3 hs3
    walk_at "rd"
    have ht' : H4 t = some (.tup ([("add" : Str), "subtract", "multiply"].map V.str)) := ht
    have nt := hs4.ne_of ht
    obtain ⟨m4, hm4⟩ : ∃ n, n = m + 200 := ⟨_, rfl⟩
    have hs4 : SrcN m4 H4 p := hs4.le (by omega)
    have S0 := k
    refine ⟨⟨_, SqT.of ht'⟩, for_tup (K := K) (a := t) (xs := [("add" : Str), "subtract", "multiply"].map V.str) (fun i σ H' => (∃ (v5 v6 v7 v8 v9 v10 v11 v12 v13 v14 : Option V), σ = [some (.ref p), some (.ref kx), some (.int (loK wd s)), some (.int (2 ^ wd)), some (.int c), v5, v6, v7, v8, v9, v10, v11, v12, v13, v14]) ∧ Kq ([] : List (Addr × Str)) p H4 H' ∧ SrcN (m4 + i * 500) H' p)
      ⟨⟨_, _, _, _, _, _, _, _, _, _, rfl⟩, Kq.refl H4, hs4⟩ (fun i σ H' _ q => SqT.of (q.2.1.at nt ht')) ?_ ?_⟩
    · rintro i x σ H5 hi ⟨⟨v5, v6, v7, v8, v9, v10, v11, v12, v13, v14, rfl⟩, s5, hs5⟩
      have i3 : i < 3 := (List.getElem?_eq_some_iff.mp hi).1
      obtain ⟨o, rfl, ho⟩ := nm3 hi
      clear hi
      have hk5 := hk4.kq (hs4.ne_of hk4.ex.choose_spec) s5
      walk_at "rd"
      refine ⟨kx, o, c, wd, s, rfl, hk5, ho, ⟨cb1, cb2⟩, fun q S E H6 hq e6 sf => ?_⟩
      have hs6 := hs5.same e6
      have hk6 := hk5.same e6
      have s6 := s5.same e6
      obtain ⟨f1, f2, f3, f4⟩ := id sf
      walk_at "rd"
      refine ⟨p, _, _, rfl, hs6, by omega, by omega, b28 (bb_ten (by omega) (by omega)), fun g H7 g0 g1 kp7 hs7 => ?_⟩
      have e7 : Kq ([] : List (Addr × Str)) p H6 H7 := kp7.toQ hs6.lst
      have s7 := s6.trans e7
      have hk7 := hk6.kq (hs6.ne_of hk6.ex.choose_spec) e7
      walk_at "rd"
      refine ⟨by show 3 ≤ sizeLine; decide, fun q1 hq1 => ?_⟩
      have e8 := (Sm.refl (T := ([] : List (Addr × Str))) H7).new (o := .lst [.int S, .int E, .int (S + g)]) hq1
      have hq1' : (L2.upd H7 q1 (.lst [.int S, .int E, .int (S + g)])) q1 = some (.lst ([S, E, S + g].map V.int)) := upd_same
      generalize L2.upd H7 q1 _ = H8 at e8 hq1' ⊢
      have hk8 := hk7.sm e8
      walk_at "rd"
      refine ⟨⟨_, SqL.of hq1'⟩, fun D hD => lc_list (K := K) (a := q1) (xs := [S, E, S + g].map V.int) (fun j H'' => H'' D = some (.lst []) ∧ Sm ([] : List (Addr × Str)) H8 H'') ⟨upd_same, (Sm.refl H8).new hD⟩ (fun i H' _ q => SqL.of (q.2.at hq1')) ?_ ?_⟩
      · rintro j y H9 hj ⟨hd, s9⟩
        obtain ⟨n, hn, rfl⟩ := map_get hj
        have nb : S ≤ n ∧ n ≤ E := by
          have := List.mem_of_getElem? hn
          simp only [List.mem_cons, List.not_mem_nil, or_false] at this
          omega
        walk_at "rd"
        refine ⟨rfl, ?_⟩
        walk_at "rd"
        refine ⟨kx, o, n, c, wd, s, rfl, hk8.sm s9, ho.ov, ⟨by omega, by omega⟩, ⟨cb1, cb2⟩, fun z => absurd z ho.nd.1, fun z => absurd z ho.nd.2, ?_⟩
        walk_at "rd"
        rw [decide_eq_true ((f4 n (by omega) (by omega)).mpr nb)]
        refine iteF ?_
        exact ⟨hd, s9⟩
      rintro H9 ⟨hd, s9⟩
      walk_at "rd"
      refine ⟨by show 0 ≤ sizeLine; decide, fun q2 hq2 => ?_⟩
      have e10 := (e8.trans s9).new (o := .lst []) hq2
      have hd10 := gn (u := .lst []) hd hq2
      have hq2' : (L2.upd H9 q2 (.lst [])) q2 = some (.lst []) := upd_same
      generalize L2.upd H9 q2 _ = H10 at e10 hd10 hq2' ⊢
      have hk10 := hk7.sm e10
      walk_at "rd"
      refine w_neL (is := []) (js := []) hd10 hq2' ?_
      walk_at "rd"
      refine w_ndecT rfl ?_
      walk_at "rd"
      refine w_iTup ?_
      walk_at "rd"
      refine ⟨by show 2 ≤ sizeLine; decide, fun q3 hq3 => ?_⟩
      have e11 := (Sm.refl (T := ([] : List (Addr × Str))) H10).new (o := .tup [.int (S - 1), .int (E + 1)]) hq3
      have hq3' : (L2.upd H10 q3 (.tup [.int (S - 1), .int (E + 1)])) q3 = some (.tup ([S - 1, E + 1].map V.int)) := upd_same
      generalize L2.upd H10 q3 _ = H11 at e11 hq3' ⊢
      walk_at "rd"
      refine ⟨⟨_, SqT.of hq3'⟩, fun D2 hD2 => lc_tup (K := K) (a := q3) (xs := [S - 1, E + 1].map V.int) (fun j H'' => (∃ bs : List Int, H'' D2 = some (.lst (bs.map V.int)) ∧ bs.length ≤ j ∧ ∀ b ∈ bs, (loK wd s ≤ b ∧ b ≤ hiK wd s) ∧ ¬ (S ≤ b ∧ b ≤ E)) ∧ Sm ([] : List (Addr × Str)) H11 H'') ⟨⟨[], upd_same, Nat.le_refl _, fun b hb => by cases hb⟩, (Sm.refl H11).new hD2⟩ (fun i H' _ q => SqT.of (q.2.at hq3')) ?_ ?_⟩
      · rintro j y H12 hj ⟨⟨bs, hb, bl, bb⟩, s12⟩
        obtain ⟨n, hn, rfl⟩ := map_get hj
        have jl : j < 2 := (List.getElem?_eq_some_iff.mp hn).1
        have nb : ¬ (S ≤ n ∧ n ≤ E) := by
          have := List.mem_of_getElem? hn
          simp only [List.mem_cons, List.not_mem_nil, or_false] at this
          omega
        walk_at "rd"
        refine ⟨rfl, ?_⟩
        walk_at "rd"
        refine w_chain ?_
        walk_at "rd"
        refine w_dec (fun z1 => ?_) (fun z1 => ?_)
        · walk_at "rd"
          refine w_dec (fun z2 => ?_) (fun z2 => ?_)
          · walk_at "rd"
            refine ⟨_, hb, by rw [List.length_map]; exact small1000 (by omega), ⟨bs ++ [n], by rw [upd_same, List.map_append]; rfl, by rw [List.length_append]; show bs.length + 1 ≤ _; omega, fun b hbm => ?_⟩, s12.mut hD2 hb⟩
            rcases List.mem_append.mp hbm with h | h
            · exact bb b h
            · rw [List.mem_singleton.mp h]
              exact ⟨⟨z1, by omega⟩, nb⟩
          · exact ⟨⟨bs, hb, by omega, bb⟩, s12⟩
        · walk_at "rd"
          refine iteF ?_
          exact ⟨⟨bs, hb, by omega, bb⟩, s12⟩
      rintro H12 ⟨⟨bs, hb, bl, bb⟩, s12⟩
      have bl : bs.length ≤ 2 := bl
      have e12 := e11.trans s12
      have hk12 := hk10.sm e12
      walk_at "rd"
      refine ⟨⟨_, SqL.of hb⟩, fun D3 hD3 => lc_list (K := K) (a := D2) (xs := bs.map V.int) (fun j H'' => H'' D3 = some (.lst []) ∧ Sm ([] : List (Addr × Str)) H12 H'') ⟨upd_same, (Sm.refl H12).new hD3⟩ (fun i H' _ q => SqL.of (q.2.at hb)) ?_ ?_⟩
      · rintro j y H13 hj ⟨hd3, s13⟩
        obtain ⟨n, hn, rfl⟩ := map_get hj
        obtain ⟨nb1, nb2⟩ := bb n (List.mem_of_getElem? hn)
        walk_at "rd"
        refine ⟨rfl, ?_⟩
        walk_at "rd"
        refine ⟨kx, o, n, c, wd, s, rfl, hk12.sm s13, ho.ov, nb1, ⟨cb1, cb2⟩, fun z => absurd z ho.nd.1, fun z => absurd z ho.nd.2, ?_⟩
        walk_at "rd"
        rw [decide_eq_false (fun z => nb2 ((f4 n nb1.1 nb1.2).mp z))]
        refine iteF ?_
        exact ⟨hd3, s13⟩
      rintro H13 ⟨hd3, s13⟩
      walk_at "rd"
      refine ⟨by show 0 ≤ sizeLine; decide, fun q4 hq4 => ?_⟩
      have e14 := ((e10.trans e12).trans s13).new (o := .lst []) hq4
      have hd14 := gn (u := .lst []) hd3 hq4
      have hq4' : (L2.upd H13 q4 (.lst [])) q4 = some (.lst []) := upd_same
      generalize L2.upd H13 q4 _ = H14 at e14 hd14 hq4' ⊢
      have hk14 := hk7.sm e14
      have s14 := s7.sm e14
      have hs14 := hs7.sm e14
      walk_at "rd"
      refine w_neL (is := []) (js := []) hd14 hq4' ?_
      walk_at "rd"
      refine w_ndecT rfl ?_
      walk_at "rd"
      refine ⟨p, _, wd, s, rfl, hs14, by omega, w2, fun q5 f l H15 hq5 b0 b1 b2 kp15 hs15 => ?_⟩
      have e15 : Kq ([] : List (Addr × Str)) p H14 H15 := kp15.toQ hs14.lst
      have s15 := s14.trans e15
      have hk15 := hk14.kq (hs14.ne_of hk14.ex.choose_spec) e15
      clear e15 kp15 hk14 hs14 s14 hk12 hk10 hk8 hk7 hk6 hk5 s7 s6
      walk_at "rd"
      refine w_iTup ?_
      walk_at "rd"
      refine ⟨by show 2 ≤ sizeLine; decide, fun q6 hq6 => ?_⟩
      have e16 := (Sm.refl (T := ([] : List (Addr × Str))) H15).new (o := .tup [.int f, .int l]) hq6
      have hq6' : (L2.upd H15 q6 (.tup [.int f, .int l])) q6 = some (.tup ([f, l].map V.int)) := upd_same
      generalize L2.upd H15 q6 _ = H16 at e16 hq6' ⊢
      walk_at "rd"
      refine ⟨⟨_, SqT.of hq6'⟩, fun D4 hD4 => lc_tup (K := K) (a := q6) (xs := [f, l].map V.int) (fun j H'' => H'' D4 = some (.lst ((([f, l].take j).filter fun n => !decide (S ≤ n ∧ n ≤ E)).map V.int)) ∧ Sm ([] : List (Addr × Str)) H16 H'') ⟨upd_same, (Sm.refl H16).new hD4⟩ (fun i H' _ q => SqT.of (q.2.at hq6')) ?_ ?_⟩
      · rintro j y H17 hj ⟨hd, s17⟩
        obtain ⟨n, hn, rfl⟩ := map_get hj
        have jl : j < 2 := (List.getElem?_eq_some_iff.mp hn).1
        have ln : (([f, l].take j).filter fun n => !decide (S ≤ n ∧ n ≤ E)).length ≤ 2 := Nat.le_trans (List.length_filter_le _ _) (by rw [List.length_take]; exact Nat.min_le_right _ _)
        have yes : ¬ (S ≤ n ∧ n ≤ E) → (([f, l].take (j + 1)).filter fun n => !decide (S ≤ n ∧ n ≤ E)) = (([f, l].take j).filter fun n => !decide (S ≤ n ∧ n ≤ E)) ++ [n] := fun z => by
          rw [tk_more hn, List.filter_append, List.filter_cons, List.filter_nil, decide_eq_false z]; rfl
        have no : (S ≤ n ∧ n ≤ E) → (([f, l].take (j + 1)).filter fun n => !decide (S ≤ n ∧ n ≤ E)) = (([f, l].take j).filter fun n => !decide (S ≤ n ∧ n ≤ E)) := fun z => by
          rw [tk_more hn, List.filter_append, List.filter_cons, List.filter_nil, decide_eq_true z]; exact List.append_nil _
        walk_at "rd"
        refine ⟨rfl, ?_⟩
        walk_at "rd"
        refine w_chain ?_
        walk_at "rd"
        refine w_dec (fun z1 => ?_) (fun z1 => ?_)
        · walk_at "rd"
          refine w_ndec (fun z2 => ?_) (fun z2 => ?_)
          · walk_at "rd"
            refine ⟨_, hd, by rw [List.length_map]; exact small1000 (by omega), ?_, s17.mut hD4 hd⟩
            rw [upd_same, yes (fun z => z2 z.2), List.map_append]
            rfl
          · refine ⟨?_, s17⟩
            rw [no ⟨z1, z2⟩]
            exact hd
        · walk_at "rd"
          refine iteT ?_
          walk_at "rd"
          refine ⟨_, hd, by rw [List.length_map]; exact small1000 (by omega), ?_, s17.mut hD4 hd⟩
          rw [upd_same, yes (fun z => z1 z.1), List.map_append]
          rfl
      rintro H17 ⟨hd, s17⟩
      have hd : H17 D4 = some (.lst (([f, l].filter fun n => !decide (S ≤ n ∧ n ≤ E)).map V.int)) := hd
      have e17 := e16.trans s17
      have hk17 := hk15.sm e17
      walk_at "rd"
      refine w_len hd ?_
      rw [List.length_map]
      walk_at "rd"
      refine w_bm ?_
      walk_at "rd"
      refine w_iTup ?_
      walk_at "rd"
      refine ⟨by show 2 ≤ sizeLine; decide, fun q7 hq7 => ?_⟩
      have e18 := (Sm.refl (T := ([] : List (Addr × Str))) H17).new (o := .tup [.int f, .int l]) hq7
      have hq7' : (L2.upd H17 q7 (.tup [.int f, .int l])) q7 = some (.tup ([f, l].map V.int)) := upd_same
      generalize L2.upd H17 q7 _ = H18 at e18 hq7' ⊢
      have hk18 := hk17.sm e18
      obtain ⟨G, hG⟩ : ∃ G : Int → Int, G = fun n => if (!fits wd s (exO o n c)) = true then 1 else 0 := ⟨_, rfl⟩
      walk_at "rd"
      refine ⟨⟨_, SqT.of hq7'⟩, fun D5 hD5 => lc_tup (K := K) (a := q7) (xs := [f, l].map V.int) (fun j H'' => H'' D5 = some (.lst ((([f, l].take j).map G).map V.int)) ∧ Sm ([] : List (Addr × Str)) H18 H'') ⟨upd_same, (Sm.refl H18).new hD5⟩ (fun i H' _ q => SqT.of (q.2.at hq7')) ?_ ?_⟩
      · rintro j y H19 hj ⟨hd5, s19⟩
        obtain ⟨n, hn, rfl⟩ := map_get hj
        have jl : j < 2 := (List.getElem?_eq_some_iff.mp hn).1
        have nb : loK wd s ≤ n ∧ n ≤ hiK wd s := by
          have := List.mem_of_getElem? hn
          simp only [List.mem_cons, List.not_mem_nil, or_false] at this
          omega
        walk_at "rd"
        refine ⟨rfl, ?_⟩
        walk_at "rd"
        refine iteT ?_
        walk_at "rd"
        refine ⟨kx, o, c, n, n, wd, s, rfl, hk18.sm s19, ho, ⟨cb1, cb2⟩, nb, nb, fun H20 s20 => ?_⟩
        have eG : tot (fun x => !fits wd s (exO o x c)) n n = G n := by rw [tot_one, hG]
        rw [eG]
        have hd20 := s20 _ _ hd5
        refine ⟨_, hd20, by rw [List.length_map, List.length_map, List.length_take]; exact small1000 (by omega), ?_, (s19.trans (Sm.of s20)).mut hD5 hd20⟩
        rw [upd_same, tk_more hn, List.map_append, List.map_append]
        rfl
      rintro H19 ⟨hd5, s19⟩
      have hd5 : H19 D5 = some (.lst ([G f, G l].map V.int)) := hd5
      have e19 := (e17.trans e18).trans s19
      have hk19 := hk15.sm e19
      walk_at "rd"
      refine ⟨.inl ⟨rfl, _, SqL.of hd5⟩, ?_⟩
      walk_at "rd"
      refine ⟨D5, _, 1, rfl, rfl, SqL.of hd5, ?_⟩
      walk_at "rd"
      refine w_ndecT ?_ ?_
      · rw [hG]
        exact cnt2 (by rw [sf.fit (by omega) (by omega)]) (by rw [sf.fit (by omega) (by omega)])
      walk_at "rd"
      refine ⟨kx, o, c, _, _, wd, s, rfl, hk19, ho, ⟨cb1, cb2⟩, ⟨by omega, by omega⟩, ⟨by omega, by omega⟩, fun H20 s20 => ?_⟩
      have hk20 := hk19.same s20
      walk_at "rd"
      refine w_ndecT (by rw [sf.tot (by omega) (by omega)]; omega) ?_
      walk_at "rd"
      refine w_min2 ?_
      walk_at "rd"
      refine w_max2 ?_
      walk_at "rd"
      refine w_max2 ?_
      walk_at "rd"
      refine ⟨kx, o, c, f, l, wd, s, rfl, hk20, ho, ⟨cb1, cb2⟩, ⟨by omega, by omega⟩, ⟨by omega, by omega⟩, fun H21 s21 => ?_⟩
      have hk21 := hk20.same s21
      walk_at "rd"
      refine w_ndecT (by rw [sf.tot (by omega) (by omega)]; omega) ?_
      walk_at "rd"
      refine ⟨kx, o, c, f, l, wd, s, rfl, hk21, ho, ⟨cb1, cb2⟩, ⟨by omega, by omega⟩, ⟨by omega, by omega⟩, fun H22 s22 => ?_⟩
      have hk22 := hk21.same s22
      walk_at "rd"
      refine ⟨kx, o, c, f, l, wd, s, rfl, hk22, ho, ⟨cb1, cb2⟩, ⟨by omega, by omega⟩, ⟨by omega, by omega⟩, fun H23 s23 => ?_⟩
      walk_at "rd"
      refine w_ndecT rfl ?_
      walk_at "rd"
      have sz := (s20.trans s21).trans (s22.trans s23)
      exact ⟨⟨_, _, _, _, _, _, _, _, _, _, rfl⟩, (s15.sm e19).same sz, ((hs15.sm e19).same sz).le (by omega)⟩
    rintro σ H5 ⟨⟨v5, v6, v7, v8, v9, v10, v11, v12, v13, v14, rfl⟩, s5, hs5⟩
    have hk5 := hk4.kq (hs4.ne_of hk4.ex.choose_spec) s5
    walk_at "rd"
    refine ⟨kx, .add, c, wd, s, rfl, hk5, .inl rfl, ⟨cb1, cb2⟩, fun q S E H6 hq e6 sf => ?_⟩
    walk_at "rd"
    refine ⟨kx, .add, c, wd, s, rfl, hk5.same e6, .inl rfl, ⟨cb1, cb2⟩, fun q' S' E' H7 hq' e7 sf' => ?_⟩
    obtain ⟨rfl, rfl⟩ := safe_uniq sf sf'
    walk_at "rd"
    refine eq_pair (e7 _ _ hq) hq' ?_
    exact k _ (((s4.trans s5).same e6).same e7) (((hs5.same e6).same e7).le (by show m4 + 3 * 500 ≤ m + 3000; omega))
def sp__law_points_right (K : PySem.W.Frag) (C : Addr) (TS : List (Addr × Str)) : Sp := fun vs H Q _ => ∃ (p kx : Addr) (m wd : Nat) (s : Bool), vs = [.ref p, .ref kx, .int (loK wd s), .int (2 ^ wd)] ∧ SrcN m H p ∧ m < 2 ^ 37 ∧ Kd C H kx wd s ∧ ∀ H', Kq TS p H H' → SrcN (m + 1000) H' p → Q (.bl true) H'
theorem ok__law_points_right {P : Program} {w : World} {K : PySem.W.Frag} {mg : Str → Option Value} {base : Heap} (T : Txt K mg) : FnOk P w K mg base CX0 8 T.f__law_points_right T.fd__law_points_right ["_law_deck_here", "_law_own", "_law_least_one", "_law_size"] (sp__law_points_right K T.C_Kind []) := by
  have G__law_great := ok__law_great (P := P) (w := w) (base := base) T
  have G__law_span := ok__law_span (P := P) (w := w) (base := base) T
  have G_overflow_total := ok_overflow_total (P := P) (w := w) (base := base) T
  have G_pair_overflows := ok_pair_overflows (P := P) (w := w) (base := base) T
  have G_pairs_within := ok_pairs_within (P := P) (w := w) (base := base) T
  have G_total_within := ok_total_within (P := P) (w := w) (base := base) T
  refine T.F__law_points_right.ok sc__law_points_right (fun vs H Q E h => ?_) (fun cdv A outer s H vs Q E hr h => ?_)
  · obtain ⟨p, kx, m, wd, s, rfl, _⟩ := h
    rfl
  · obtain ⟨p, kx, m, wd, s, rfl, h⟩ := h
    have hr__law_great : Room 2 _ := hr.mono (by decide)
    have hr__law_span : Room 3 _ := hr.mono (by decide)
    have hr_overflow_total : Room 7 _ := hr.mono (by decide)
    have hr_pair_overflows : Room 7 _ := hr.mono (by decide)
    have hr_pairs_within : Room 7 _ := hr.mono (by decide)
    have hr_total_within : Room 7 _ := hr.mono (by decide)
    refine ⟨_, (pss_cons (ps_asg (pe_tup (pa_cons (pe_call G__law_span hr__law_span rfl T.g__law_span T.k__law_span T.b__law_span .nil pass0 (pa_cons (pv 0 (hv := Or.inl rfl)) (pa_cons (pv 2 (hv := Or.inl rfl)) (pa_cons (pv 3 (hv := Or.inl rfl)) pa_nil)))) (pa_cons (pe_call G__law_span hr__law_span rfl T.g__law_span T.k__law_span T.b__law_span .nil pass0 (pa_cons (pv 0 (hv := Or.inl rfl)) (pa_cons (pv 2 (hv := Or.inl rfl)) (pa_cons (pv 3 (hv := Or.inl rfl)) pa_nil)))) pa_nil))) (pg_tup rfl (pgs_cons (pg_name (i := 4) sc__law_points_right.nd rfl (Or.inr rfl)) (pgs_cons (pg_name (i := 5) sc__law_points_right.nd rfl (Or.inl rfl)) pgs_nil))))
      (pss_cons (ps_asg (pe_call G__law_span hr__law_span rfl T.g__law_span T.k__law_span T.b__law_span .nil pass0 (pa_cons (pv 0 (hv := Or.inl rfl)) (pa_cons (pv 2 (hv := Or.inl rfl)) (pa_cons (pv 3 (hv := Or.inl rfl)) pa_nil)))) (pg_tup rfl (pgs_cons (pg_name (i := 6) sc__law_points_right.nd rfl (Or.inr rfl)) (pgs_cons (pg_name (i := 7) sc__law_points_right.nd rfl (Or.inr rfl)) pgs_nil))))
      (pss_cons (ps_set (i := 8) sc__law_points_right.nd rfl (Or.inl rfl) (pe_ix (r := rIxT K) ix_tup (pv 4 (hv := Or.inr (Or.inl rfl))) pe_int (fun _ _ => rfl)))
      (pss_cons (ps_for PassesOwn.never rfl (pi_tup (pe_tup (pa_cons (pe_tup (pa_cons pe_str (pa_cons pe_int pa_nil))) (pa_cons (pe_tup (pa_cons pe_str (pa_cons (pe_un un_neg pe_int) pa_nil))) pa_nil)))) (pg_tup rfl (pgs_cons (pg_name (i := 9) sc__law_points_right.nd rfl (Or.inr rfl)) (pgs_cons (pg_name (i := 10) sc__law_points_right.nd rfl (Or.inl rfl)) pgs_nil)))
        (pss_cons (ps_set (i := 11) sc__law_points_right.nd rfl (Or.inl rfl) (pe_call G_total_within hr_total_within rfl T.g_total_within T.k_total_within T.b_total_within .nil pass0 (pa_cons (pv 1 (hv := Or.inr (Or.inl rfl))) (pa_cons (pe_tup (pa_cons (pv 10 (hv := Or.inl rfl)) (pa_cons (pv 8 (hv := Or.inl rfl)) pa_nil))) (pa_cons (pe_ix (r := rIxT K) ix_tup (pv 5 (hv := Or.inl rfl)) pe_int (fun _ _ => rfl)) (pa_cons (pe_ix (r := rIxT K) ix_tup (pv 5 (hv := Or.inl rfl)) pe_int (fun _ _ => rfl)) (pa_cons (pv 6 (hv := Or.inr (Or.inl rfl))) (pa_cons (pv 7 (hv := Or.inr (Or.inl rfl))) pa_nil))))))))
      (pss_cons (ps_if (pt_cmpR op_ne (pe_call G_pairs_within hr_pairs_within rfl T.g_pairs_within T.k_pairs_within T.b_pairs_within .nil pass0 (pa_cons (pv 1 (hv := Or.inr (Or.inl rfl))) (pa_cons (pv 9 (hv := Or.inr (Or.inl rfl))) (pa_cons (pe_tup (pa_cons (pv 8 (hv := Or.inl rfl)) (pa_cons (pv 8 (hv := Or.inl rfl)) pa_nil))) (pa_cons (pv 5 (hv := Or.inl rfl)) (pa_cons (pv 6 (hv := Or.inr (Or.inl rfl))) (pa_cons (pv 7 (hv := Or.inr (Or.inl rfl))) pa_nil))))))) (pv 11 (hv := Or.inl rfl)) (nomark _)) (pss_one (ps_ret pe_bl)) pss_nil)
      (pss_cons (ps_set (i := 11) sc__law_points_right.nd rfl (Or.inl rfl) (pe_call G_total_within hr_total_within rfl T.g_total_within T.k_total_within T.b_total_within .nil pass0 (pa_cons (pv 1 (hv := Or.inr (Or.inl rfl))) (pa_cons (pe_tup (pa_cons pe_int (pa_cons (pe_op op_mul (pv 10 (hv := Or.inl rfl)) (pv 8 (hv := Or.inl rfl))) pa_nil))) (pa_cons (pe_ix (r := rIxT K) ix_tup (pv 5 (hv := Or.inl rfl)) pe_int (fun _ _ => rfl)) (pa_cons (pe_ix (r := rIxT K) ix_tup (pv 5 (hv := Or.inl rfl)) pe_int (fun _ _ => rfl)) (pa_cons (pv 6 (hv := Or.inr (Or.inl rfl))) (pa_cons (pv 7 (hv := Or.inr (Or.inl rfl))) pa_nil))))))))
      (pss_cons (ps_if (pt_cmpR op_ne (pe_call G_pairs_within hr_pairs_within rfl T.g_pairs_within T.k_pairs_within T.b_pairs_within .nil pass0 (pa_cons (pv 1 (hv := Or.inr (Or.inl rfl))) (pa_cons (pv 9 (hv := Or.inr (Or.inl rfl))) (pa_cons (pv 5 (hv := Or.inl rfl)) (pa_cons (pe_tup (pa_cons (pv 8 (hv := Or.inl rfl)) (pa_cons (pv 8 (hv := Or.inl rfl)) pa_nil))) (pa_cons (pv 6 (hv := Or.inr (Or.inl rfl))) (pa_cons (pv 7 (hv := Or.inr (Or.inl rfl))) pa_nil))))))) (pv 11 (hv := Or.inl rfl)) (nomark _)) (pss_one (ps_ret pe_bl)) pss_nil)
      (pss_one (ps_if (pt_cmpR op_ne (pe_call G_pair_overflows hr_pair_overflows rfl T.g_pair_overflows T.k_pair_overflows T.b_pair_overflows .nil pass0 (pa_cons (pv 1 (hv := Or.inr (Or.inl rfl))) (pa_cons (pv 9 (hv := Or.inr (Or.inl rfl))) (pa_cons (pv 5 (hv := Or.inl rfl)) (pa_cons (pe_tup (pa_cons (pv 8 (hv := Or.inl rfl)) (pa_cons (pv 8 (hv := Or.inl rfl)) pa_nil))) pa_nil))))) (pe_call G_overflow_total hr_overflow_total rfl T.g_overflow_total T.k_overflow_total T.b_overflow_total .nil pass0 (pa_cons (pv 1 (hv := Or.inr (Or.inl rfl))) (pa_cons (pv 9 (hv := Or.inr (Or.inl rfl))) (pa_cons (pv 8 (hv := Or.inl rfl)) (pa_cons (pe_ix (r := rIxT K) ix_tup (pv 5 (hv := Or.inl rfl)) pe_int (fun _ _ => rfl)) (pa_cons (pe_ix (r := rIxT K) ix_tup (pv 5 (hv := Or.inl rfl)) pe_int (fun _ _ => rfl)) pa_nil)))))) (nomark _)) (pss_one (ps_ret pe_bl)) pss_nil)))))))
      (pss_cons (ps_set (i := 12) sc__law_points_right.nd rfl (Or.inl rfl) (pe_op op_sub (pe_op op_add (pv 2 (hv := Or.inl rfl)) (pv 3 (hv := Or.inl rfl))) pe_int))
      (pss_cons (ps_set (i := 11) sc__law_points_right.nd rfl (Or.inl rfl) (pe_op op_sub (pe_op op_add (pe_op op_sub (pe_ix (r := rIxT K) ix_tup (pv 5 (hv := Or.inl rfl)) pe_int (fun _ _ => rfl)) (pe_ix (r := rIxT K) ix_tup (pv 5 (hv := Or.inl rfl)) pe_int (fun _ _ => rfl))) pe_int) (pe_callB (id := "max") (r := rmax2C) (call_max2 rfl) (by rfl) T.n_max (by decide +kernel) (pa_cons pe_int (pa_cons (pe_op op_add (pe_op op_sub (pe_callB (id := "min") (r := rmin2C) (call_min2 rfl) (by rfl) T.n_min (by decide +kernel) (pa_cons (pe_ix (r := rIxT K) ix_tup (pv 5 (hv := Or.inl rfl)) pe_int (fun _ _ => rfl)) (pa_cons (pe_op op_sub (pv 8 (hv := Or.inl rfl)) (pv 2 (hv := Or.inl rfl))) pa_nil))) (pe_callB (id := "max") (r := rmax2C) (call_max2 rfl) (by rfl) T.n_max (by decide +kernel) (pa_cons (pe_ix (r := rIxT K) ix_tup (pv 5 (hv := Or.inl rfl)) pe_int (fun _ _ => rfl)) (pa_cons (pe_op op_sub (pv 8 (hv := Or.inl rfl)) (pv 12 (hv := Or.inl rfl))) pa_nil)))) pe_int) pa_nil)))))
      (pss_cons (ps_if (pt_cmpR op_ne (pe_call G_pair_overflows hr_pair_overflows rfl T.g_pair_overflows T.k_pair_overflows T.b_pair_overflows .nil pass0 (pa_cons (pv 1 (hv := Or.inr (Or.inl rfl))) (pa_cons pe_str (pa_cons (pe_tup (pa_cons (pv 8 (hv := Or.inl rfl)) (pa_cons (pv 8 (hv := Or.inl rfl)) pa_nil))) (pa_cons (pv 5 (hv := Or.inl rfl)) pa_nil))))) (pv 11 (hv := Or.inl rfl)) (nomark _)) (pss_one (ps_ret pe_bl)) pss_nil)
      (pss_cons (ps_set (i := 13) sc__law_points_right.nd rfl (Or.inl rfl) (pe_op op_add (pe_ix (r := rIxT K) ix_tup (pv 5 (hv := Or.inl rfl)) pe_int (fun _ _ => rfl)) (pe_call G__law_great hr__law_great rfl T.g__law_great T.k__law_great T.b__law_great .nil pass0 (pa_cons (pv 0 (hv := Or.inl rfl)) (pa_cons (pe_op op_add (pe_op op_sub (pe_ix (r := rIxT K) ix_tup (pv 5 (hv := Or.inl rfl)) pe_int (fun _ _ => rfl)) (pe_ix (r := rIxT K) ix_tup (pv 5 (hv := Or.inl rfl)) pe_int (fun _ _ => rfl))) pe_int) pa_nil)))))
      (pss_cons (ps_set (i := 14) sc__law_points_right.nd rfl (Or.inl rfl) (pe_op op_cat (pe_lst (pa_cons (pe_tup (pa_cons (pe_ix (r := rIxT K) ix_tup (pv 5 (hv := Or.inl rfl)) pe_int (fun _ _ => rfl)) (pa_cons (pv 13 (hv := Or.inl rfl)) pa_nil))) pa_nil)) (pe_op op_rep (pe_lst (pa_cons (pe_tup (pa_cons (pe_op op_add (pv 13 (hv := Or.inl rfl)) pe_int) (pa_cons (pe_ix (r := rIxT K) ix_tup (pv 5 (hv := Or.inl rfl)) pe_int (fun _ _ => rfl)) pa_nil))) pa_nil)) (pe_callTy (T := "int") (r := rIntC) call_int1 (by rfl) T.n_int (by decide +kernel) (pa_cons (pe_cmpR op_lt (pv 13 (hv := Or.inl rfl)) (pe_ix (r := rIxT K) ix_tup (pv 5 (hv := Or.inl rfl)) pe_int (fun _ _ => rfl)) (nomark _)) pa_nil)))))
      (pss_cons (ps_for PassesOwn.never rfl (pi_tup (pe_tup (pa_cons pe_str (pa_cons pe_str pa_nil)))) (pg_name (i := 9) sc__law_points_right.nd rfl (Or.inr rfl))
        (pss_cons (ps_if (pt_cmpR op_ne (pe_callB (id := "sum") (r := rSum K) (cr_sum rfl) (by rfl) T.n_sum (by decide +kernel) (pa_cons (pe_lc (own := [("_law_part", 15)]) (g := gName 15) (tt := tYes) (by rfl) sc__law_points_right.nd (pi_list (pv 14 (hv := Or.inl rfl))) (blkOk_by (own := [("_law_part", 15)]) (N := ["_law_deck_here", "_law_own", "_law_least_one", "_law_size", "_law_left", "_law_right", "_law_bottom", "_law_top", "_law_n", "_law_word", "_law_sign", "_law_due", "_law_peak", "_law_cut", "_law_parts", "_law_part", "_law_some"]) (sc := defScope s__law_points_right) (by decide +kernel)) (fun _ _ _ _ _ => (pg_name (i := 15) sc__law_points_right.nd rfl (Or.inl rfl))) (fun _ _ _ _ _ => pts_nil) (fun _ _ _ _ _ => (pe_call G_pair_overflows hr_pair_overflows rfl T.g_pair_overflows T.k_pair_overflows T.b_pair_overflows .nil pass0 (pa_cons (pv 1 (hv := Or.inr (Or.inl rfl))) (pa_cons (pv 9 (hv := Or.inr (Or.inl rfl))) (pa_cons (pv 4 (hv := Or.inr (Or.inl rfl))) (pa_cons (pv 15 (hv := Or.inl rfl)) pa_nil))))))) pa_nil)) (pe_call G_pair_overflows hr_pair_overflows rfl T.g_pair_overflows T.k_pair_overflows T.b_pair_overflows .nil pass0 (pa_cons (pv 1 (hv := Or.inr (Or.inl rfl))) (pa_cons (pv 9 (hv := Or.inr (Or.inl rfl))) (pa_cons (pv 4 (hv := Or.inr (Or.inl rfl))) (pa_cons (pv 5 (hv := Or.inl rfl)) pa_nil))))) (nomark _)) (pss_one (ps_ret pe_bl)) pss_nil)
      (pss_cons (ps_setLc (i := 16) (own := [("_law_part", 15)]) (g := gName 15) (tt := tYes) rfl sc__law_points_right.nd rfl rfl (sw_true rfl rfl rfl (by decide +kernel)) (pi_list (pv 14 (hv := Or.inl rfl))) (blkOk_by (own := [("_law_part", 15)]) (N := ["_law_deck_here", "_law_own", "_law_least_one", "_law_size", "_law_left", "_law_right", "_law_bottom", "_law_top", "_law_n", "_law_word", "_law_sign", "_law_due", "_law_peak", "_law_cut", "_law_parts", "_law_part", "_law_some"]) (sc := defScope s__law_points_right) (by decide +kernel)) (fun _ _ _ _ _ => (pg_name (i := 15) sc__law_points_right.nd rfl (Or.inl rfl))) (fun _ _ _ _ _ => pts_nil) (fun _ _ _ _ _ => (pe_call G_pairs_within hr_pairs_within rfl T.g_pairs_within T.k_pairs_within T.b_pairs_within .nil pass0 (pa_cons (pv 1 (hv := Or.inr (Or.inl rfl))) (pa_cons (pv 9 (hv := Or.inr (Or.inl rfl))) (pa_cons (pv 4 (hv := Or.inr (Or.inl rfl))) (pa_cons (pv 15 (hv := Or.inl rfl)) (pa_cons (pv 6 (hv := Or.inr (Or.inl rfl))) (pa_cons (pv 7 (hv := Or.inr (Or.inl rfl))) pa_nil)))))))))
      (pss_one (ps_if (pt_cmpR op_ne (pe_callB (id := "sum") (r := rSum K) (cr_sum rfl) (by rfl) T.n_sum (by decide +kernel) (pa_cons (pv 16 (hv := Or.inl rfl)) pa_nil)) (pe_call G_pairs_within hr_pairs_within rfl T.g_pairs_within T.k_pairs_within T.b_pairs_within .nil pass0 (pa_cons (pv 1 (hv := Or.inr (Or.inl rfl))) (pa_cons (pv 9 (hv := Or.inr (Or.inl rfl))) (pa_cons (pv 4 (hv := Or.inr (Or.inl rfl))) (pa_cons (pv 5 (hv := Or.inl rfl)) (pa_cons (pv 6 (hv := Or.inr (Or.inl rfl))) (pa_cons (pv 7 (hv := Or.inr (Or.inl rfl))) pa_nil))))))) (nomark _)) (pss_one (ps_ret pe_bl)) pss_nil)))))
      (pss_one (ps_ret pe_bl)))))))))))), ?_⟩
    try dsimp only [cxOf, Cx.nox, Cx.wish, Cx.blk]
    rw [show L2.start ["_law_deck_here", "_law_own", "_law_least_one", "_law_size", "_law_left", "_law_right", "_law_bottom", "_law_top", "_law_n", "_law_word", "_law_sign", "_law_due", "_law_peak", "_law_cut", "_law_parts", "_law_part", "_law_some"] [.ref p, .ref kx, .int (loK wd s), .int (2 ^ wd)] = [some (.ref p), some (.ref kx), some (.int (loK wd s)), some (.int (2 ^ wd)), none, none, none, none, none, none, none, none, none, none, none, none, none] from rfl]
    obtain ⟨hs0, n38, hk0, k⟩ := h
    generalize hH0 : H = H0 at hs0 hk0 ⊢
    have s0 : Kq ([] : List (Addr × Str)) p H H0 := by rw [hH0]; exact Kq.refl _
    have w1 := hk0.w1
    have w2 := hk0.w2
    have hp := p2 wd
    have hhi : hiK wd s = loK wd s + 2 ^ wd - 1 := rfl
    obtain ⟨l0, l1, l2, l3⟩ := lohi w1 s
    have q128 := p128' w2
    have q60 : (2 : Int) ^ 128 * 8 < 10 ^ 60 ∧ (0 : Int) < 2 ^ 128 ∧ (2 : Int) ^ 128 * 16 ≤ 10 ^ 62 := by decide +kernel
    obtain ⟨q601, q602, q603⟩ := q60
    obtain ⟨zz1, zz2, zz3, zz4, zz5⟩ := loK_b (s := s) w2
    walk_at "rd"
    refine ⟨p, _, wd, s, rfl, hs0, by omega, w2, fun ql x0 x1 H1 hql ql0 ql1 ql2 kp1 hs1 => ?_⟩
    have e1 : Kq ([] : List (Addr × Str)) p H0 H1 := kp1.toQ hs0.lst
    have s1 := s0.trans e1
    have hk1 := hk0.kq (hs0.ne_of hk0.ex.choose_spec) e1
    clear kp1 e1 hk0 s0
    walk_at "rd"
    refine ⟨p, _, wd, s, rfl, hs1, by omega, w2, fun qr y0 y1 H2 hqr qr0 qr1 qr2 kp2 hs2 => ?_⟩
    have e2 : Kq ([] : List (Addr × Str)) p H1 H2 := kp2.toQ hs1.lst
    have s2 := s1.trans e2
    have hk2 := hk1.kq (hs1.ne_of hk1.ex.choose_spec) e2
    have hql := e2.at (hs1.ne_of hql) hql
    clear kp2 e2 hk1 s1
    walk_at "rd"
    refine ⟨by show 2 ≤ sizeLine; decide, fun q0 hq0 => ?_⟩
    have e3 := (Sm.refl (T := ([] : List (Addr × Str))) H2).new (o := (.tup [.ref ql, .ref qr])) hq0
    have hql := e3.at hql
    have hqr := e3.at hqr
    have hq0 : (L2.upd H2 q0 (.tup [.ref ql, .ref qr])) q0 = some (.tup [.ref ql, .ref qr]) := upd_same
    have s3 := s2.sm e3
    have hk3 := hk2.sm e3
    have hs3 := hs2.sm e3
    generalize L2.upd H2 q0 _ = H3 at e3 hq0 s3 hk3 hs3 hql hqr ⊢
    clear e3 s2 hk2 hs2
    walk_at "rd"
    walk_at "rd"
    refine ⟨p, _, wd, s, rfl, hs3, by omega, w2, fun qb bo to H4 hqb qb0 qb1 qb2 kp4 hs4 => ?_⟩
    have e4 : Kq ([] : List (Addr × Str)) p H3 H4 := kp4.toQ hs3.lst
    have s4 := s3.trans e4
    have hk4 := hk3.kq (hs3.ne_of hk3.ex.choose_spec) e4
    have hql := e4.at (hs3.ne_of hql) hql
    have hqr := e4.at (hs3.ne_of hqr) hqr
    clear kp4 e4 hk3 s3
    walk_at "rd"
    refine w_iTup ?_
    walk_at "rd"
    refine ⟨by show 2 ≤ sizeLine; decide, fun t1 ht1 => ?_⟩
    have e5 := (Sm.refl (T := ([] : List (Addr × Str))) H4).new (o := (.tup [.str "add", .int 1])) ht1
    have hql := e5.at hql
    have hqr := e5.at hqr
    have ht1 : (L2.upd H4 t1 (.tup [.str "add", .int 1])) t1 = some (.tup [.str "add", .int 1]) := upd_same
    have s5 := s4.sm e5
    have hk5 := hk4.sm e5
    have hs5 := hs4.sm e5
    generalize L2.upd H4 t1 _ = H5 at e5 ht1 s5 hk5 hs5 hql hqr ⊢
    clear e5 s4 hk4 hs4
    walk_at "rd"
    walk_at "rd"
    refine ⟨by show 2 ≤ sizeLine; decide, fun t2 ht2 => ?_⟩
    have e6 := (Sm.refl (T := ([] : List (Addr × Str))) H5).new (o := (.tup [.str "subtract", .int (-1)])) ht2
    have hql := e6.at hql
    have hqr := e6.at hqr
    have ht1 := e6.at ht1
    have ht2 : (L2.upd H5 t2 (.tup [.str "subtract", .int (-1)])) t2 = some (.tup [.str "subtract", .int (-1)]) := upd_same
    have s6 := s5.sm e6
    have hk6 := hk5.sm e6
    have hs6 := hs5.sm e6
    generalize L2.upd H5 t2 _ = H6 at e6 ht2 s6 hk6 hs6 hql hqr ht1 ⊢
    clear e6 s5 hk5 hs5
    walk_at "rd"
    walk_at "rd"
    refine ⟨by show 2 ≤ sizeLine; decide, fun t3 ht3 => ?_⟩
    have e7 := (Sm.refl (T := ([] : List (Addr × Str))) H6).new (o := (.tup [.ref t1, .ref t2])) ht3
    have hql := e7.at hql
    have hqr := e7.at hqr
    have ht1 := e7.at ht1
    have ht2 := e7.at ht2
    have ht3 : (L2.upd H6 t3 (.tup [.ref t1, .ref t2])) t3 = some (.tup [.ref t1, .ref t2]) := upd_same
    have s7 := s6.sm e7
    have hk7 := hk6.sm e7
    have hs7 := hs6.sm e7
    generalize L2.upd H6 t3 _ = H7 at e7 ht3 s7 hk7 hs7 hql hqr ht1 ht2 ⊢
    clear e7 s6 hk6 hs6
    walk_at "rd"
    refine ⟨⟨_, SqT.of ht3⟩, for_tup (K := K) (a := t3) (xs := [.ref t1, .ref t2]) (fun i σ H' => (∃ (v9 v10 v11 : Option V), σ = [some (.ref p), some (.ref kx), some (.int (loK wd s)), some (.int (2 ^ wd)), some (.ref ql), some (.ref qr), some (.int bo), some (.int to), some (.int x0), v9, v10, v11, none, none, none, none, none]) ∧ Sm ([] : List (Addr × Str)) H7 H')
      ⟨⟨_, _, _, rfl⟩, Sm.refl H7⟩ (fun i σ H' _ q => SqT.of (q.2.at ht3)) ?_ ?_⟩
    · rintro i x σ H8 hi ⟨⟨v9, v10, v11, rfl⟩, s8⟩
      obtain ⟨q, o, sg, rfl, ho, hq, hsg⟩ : ∃ (q : Addr) (o : Op) (sg : Int), x = .ref q ∧ ((o = .add ∧ sg = 1) ∨ (o = .sub ∧ sg = -1)) ∧ H8 q = some (.tup [.str o.nm, .int sg]) ∧ (sg = 1 ∨ sg = -1) := by
        rcases i with _ | _ | i
        · cases hi; exact ⟨t1, .add, 1, rfl, .inl ⟨rfl, rfl⟩, s8.at ht1, .inl rfl⟩
        · cases hi; exact ⟨t2, .sub, -1, rfl, .inr ⟨rfl, rfl⟩, s8.at ht2, .inr rfl⟩
        · cases hi
      clear hi
      have hoP : isP o := by
        rcases ho with ⟨h, _⟩ | ⟨h, _⟩
        · exact .inl h
        · exact .inr h
      have hk8 := hk7.sm s8
      have hqr8 := s8.at hqr
      have sgn : -(2 ^ 128) ≤ sg * x0 ∧ sg * x0 ≤ 2 ^ 128 := by
        rcases hsg with e | e <;> rw [e] <;> omega
      walk_at "rd"
      refine ⟨by show 2 ≤ sizeLine; decide, fun u1 hu1 => ?_⟩
      have e9 := (Sm.refl (T := ([] : List (Addr × Str))) H8).new (o := .tup [.int sg, .int x0]) hu1
      have hu1' : (L2.upd H8 u1 (.tup [.int sg, .int x0])) u1 = some (.tup [.int sg, .int x0]) := upd_same
      have hqr9 := e9.at hqr8
      generalize L2.upd H8 u1 _ = H9 at e9 hu1' hqr9 ⊢
      have hk9 := hk8.sm e9
      walk_at "rd"
      refine ⟨kx, u1, y0, y1, bo, to, sg, x0, wd, s, rfl, hk9, hu1', ⟨by omega, by omega⟩, ⟨by omega, by omega⟩, ⟨by omega, by omega⟩, ⟨by omega, by omega⟩, by omega, by omega, by omega, by omega, fun H10 s10 => ?_⟩
      have e10 := e9.trans (Sm.of (T := ([] : List (Addr × Str))) s10)
      have hk10 := hk8.sm e10
      have hqr10 := e10.at hqr8
      walk_at "rd"
      refine ⟨by show 2 ≤ sizeLine; decide, fun u2 hu2 => ?_⟩
      have e11 := e10.new (o := .tup [.int x0, .int x0]) hu2
      have hu2' : (L2.upd H10 u2 (.tup [.int x0, .int x0])) u2 = some (.tup [.int x0, .int x0]) := upd_same
      generalize L2.upd H10 u2 _ = H11 at e11 hu2' ⊢
      walk_at "rd"
      refine ⟨kx, o, u2, qr, bo, to, wd, s, x0, x0, y0, y1, rfl, hk8.sm e11, hoP, hu2', e11.at hqr8, ⟨by omega, by omega, by omega⟩, ⟨by omega, by omega, by omega⟩, ⟨by omega, by omega⟩, ⟨by omega, by omega⟩, fun H12 s12 => ?_⟩
      rw [prW_row qb0 qb2 ho]
      have e12 := e11.trans (Sm.of (T := ([] : List (Addr × Str))) s12)
      walk_at "rd"
      refine w_ndecT rfl ?_
      walk_at "rd"
      refine w_I (CC := CMul) (Or.inl ⟨by rcases hsg with e | e <;> rw [e] <;> decide, by rcases hsg with e | e <;> rw [e] <;> decide⟩) ?_
      walk_at "rd"
      refine ⟨by show 2 ≤ sizeLine; decide, fun u3 hu3 => ?_⟩
      have e13 := e12.new (o := .tup [.int 1, .int (sg * x0)]) hu3
      have hu3' : (L2.upd H12 u3 (.tup [.int 1, .int (sg * x0)])) u3 = some (.tup [.int 1, .int (sg * x0)]) := upd_same
      have hqr13 := e13.at hqr8
      generalize L2.upd H12 u3 _ = H13 at e13 hu3' hqr13 ⊢
      walk_at "rd"
      refine ⟨kx, u3, y0, y1, bo, to, 1, sg * x0, wd, s, rfl, hk8.sm e13, hu3', ⟨by omega, by omega⟩, ⟨by omega, by omega⟩, ⟨by omega, by omega⟩, ⟨by omega, by omega⟩, by omega, by omega, by omega, by omega, fun H14 s14 => ?_⟩
      have e14 := e13.trans (Sm.of (T := ([] : List (Addr × Str))) s14)
      walk_at "rd"
      refine ⟨by show 2 ≤ sizeLine; decide, fun u4 hu4 => ?_⟩
      have e15 := e14.new (o := .tup [.int x0, .int x0]) hu4
      have hu4' : (L2.upd H14 u4 (.tup [.int x0, .int x0])) u4 = some (.tup [.int x0, .int x0]) := upd_same
      generalize L2.upd H14 u4 _ = H15 at e15 hu4' ⊢
      walk_at "rd"
      refine ⟨kx, o, qr, u4, bo, to, wd, s, y0, y1, x0, x0, rfl, hk8.sm e15, hoP, e15.at hqr8, hu4', ⟨by omega, by omega, by omega⟩, ⟨by omega, by omega, by omega⟩, ⟨by omega, by omega⟩, ⟨by omega, by omega⟩, fun H16 s16 => ?_⟩
      rw [prW_col qb0 qb2 ho]
      have e16 := e15.trans (Sm.of (T := ([] : List (Addr × Str))) s16)
      walk_at "rd"
      refine w_ndecT rfl ?_
      walk_at "rd"
      refine ⟨by show 2 ≤ sizeLine; decide, fun u5 hu5 => ?_⟩
      have e17 := e16.new (o := .tup [.int x0, .int x0]) hu5
      have hu5' : (L2.upd H16 u5 (.tup [.int x0, .int x0])) u5 = some (.tup [.int x0, .int x0]) := upd_same
      have hqr17 := e17.at hqr8
      generalize L2.upd H16 u5 _ = H17 at e17 hu5' hqr17 ⊢
      walk_at "rd"
      refine ⟨kx, o, qr, u5, wd, s, y0, y1, x0, x0, rfl, hk8.sm e17, hoP, hqr17, hu5', ⟨by omega, by omega, by omega⟩, ⟨by omega, by omega, by omega⟩, fun H18 s18 => ?_⟩
      rw [prO_col]
      have e18 := e17.trans (Sm.of (T := ([] : List (Addr × Str))) s18)
      have hqr18 := e18.at hqr8
      walk_at "rd"
      refine ⟨kx, o, x0, y0, y1, wd, s, rfl, hk8.sm e18, hoP.v, ⟨by omega, by omega⟩, ⟨by omega, by omega⟩, ⟨by omega, by omega⟩, fun H19 s19 => ?_⟩
      walk_at "rd"
      refine w_ndecT rfl ?_
      walk_at "rd"
      exact ⟨⟨_, _, _, rfl⟩, s8.trans (e18.trans (Sm.of s19))⟩
    rintro σ H8 ⟨⟨v9, v10, v11, rfl⟩, e8⟩
    have s8 := s7.sm e8
    have hk8 := hk7.sm e8
    have hs8 := hs7.sm e8
    have hql := e8.at hql
    have hqr := e8.at hqr
    clear e8 s7 hk7 hs7 ht1 ht2 ht3
    walk_at "rd"
    refine w_min2 ?_
    walk_at "rd"
    refine w_max2 ?_
    walk_at "rd"
    refine w_max2 ?_
    walk_at "rd"
    refine ⟨by show 2 ≤ sizeLine; decide, fun u6 hu6 => ?_⟩
    have e9 := (Sm.refl (T := ([] : List (Addr × Str))) H8).new (o := (.tup [.int x0, .int x0])) hu6
    have hql := e9.at hql
    have hqr := e9.at hqr
    have hu6 : (L2.upd H8 u6 (.tup [.int x0, .int x0])) u6 = some (.tup [.int x0, .int x0]) := upd_same
    have s9 := s8.sm e9
    have hk9 := hk8.sm e9
    have hs9 := hs8.sm e9
    generalize L2.upd H8 u6 _ = H9 at e9 hu6 s9 hk9 hs9 hql hqr ⊢
    clear e9 s8 hk8 hs8
    walk_at "rd"
    refine ⟨kx, .sub, u6, qr, wd, s, x0, x0, y0, y1, rfl, hk9, .inr rfl, hu6, hqr, ⟨by omega, by omega, by omega⟩, ⟨by omega, by omega, by omega⟩, fun H10 e10 => ?_⟩
    have s10 := s9.same e10
    have hk10 := hk9.same e10
    have hs10 := hs9.same e10
    have hql := e10 _ _ hql
    have hqr := e10 _ _ hqr
    clear e10 s9 hk9 hs9 hu6
    rw [prO_subrow wd s qr1]
    walk_at "rd"
    refine w_ndecT (by omega) ?_
    walk_at "rd"
    refine ⟨p, _, _, rfl, hs10, by omega, by omega, b28 (bb_ten (by omega) (by omega)), fun gg H11 gg0 gg1 kp11 hs11 => ?_⟩
    have e11 : Kq ([] : List (Addr × Str)) p H10 H11 := kp11.toQ hs10.lst
    have s11 := s10.trans e11
    have hk11 := hk10.kq (hs10.ne_of hk10.ex.choose_spec) e11
    have hql := e11.at (hs10.ne_of hql) hql
    have hqr := e11.at (hs10.ne_of hqr) hqr
    clear e11 kp11 s10 hk10 hs10
    obtain ⟨ct, hct⟩ : ∃ ct, ct = y0 + gg := ⟨_, rfl⟩
    walk_at "rd"
    rw [← hct]
    walk_at "rd"
    refine ⟨by show 2 ≤ sizeLine; decide, fun r1 hr1 => ?_⟩
    have e12a := (Sm.refl (T := ([] : List (Addr × Str))) H11).new (o := (.tup [.int y0, .int ct])) hr1
    have hql := e12a.at hql
    have hqr := e12a.at hqr
    have hr1 : (L2.upd H11 r1 (.tup [.int y0, .int ct])) r1 = some (.tup [.int y0, .int ct]) := upd_same
    have s12a := s11.sm e12a
    have hk12a := hk11.sm e12a
    have hs12a := hs11.sm e12a
    generalize L2.upd H11 r1 _ = H12a at e12a hr1 s12a hk12a hs12a hql hqr ⊢
    clear e12a s11 hk11 hs11
    walk_at "rd"
    refine ⟨by show 1 ≤ sizeLine; decide, fun g1 hg1 => ?_⟩
    have e1 := (Sm.refl (T := ([] : List (Addr × Str))) H12a).new (o := .lst [.ref r1]) hg1
    have hr1 := e1.at hr1
    have hql := e1.at hql
    have hqr := e1.at hqr
    have hg1' : (L2.upd H12a g1 (.lst [.ref r1])) g1 = some (.lst [.ref r1]) := upd_same
    have s12b := s12a.sm e1
    have hk12b := hk12a.sm e1
    have hs12b := hs12a.sm e1
    generalize L2.upd H12a g1 _ = H12b at e1 hr1 hg1' s12b hk12b hs12b hql hqr ⊢
    clear e1 s12a hk12a hs12a
    walk_at "rd"
    refine ⟨by show 2 ≤ sizeLine; decide, fun r2 hr2 => ?_⟩
    have e12c := (Sm.refl (T := ([] : List (Addr × Str))) H12b).new (o := (.tup [.int (ct + 1), .int y1])) hr2
    have hql := e12c.at hql
    have hqr := e12c.at hqr
    have hr1 := e12c.at hr1
    have hg1' := e12c.at hg1'
    have hr2 : (L2.upd H12b r2 (.tup [.int (ct + 1), .int y1])) r2 = some (.tup [.int (ct + 1), .int y1]) := upd_same
    have s12c := s12b.sm e12c
    have hk12c := hk12b.sm e12c
    have hs12c := hs12b.sm e12c
    generalize L2.upd H12b r2 _ = H12c at e12c hr2 s12c hk12c hs12c hql hqr hr1 hg1' ⊢
    clear e12c s12b hk12b hs12b
    walk_at "rd"
    refine ⟨by show 1 ≤ sizeLine; decide, fun g2 hg2 => ?_⟩
    have e2 := (Sm.refl (T := ([] : List (Addr × Str))) H12c).new (o := .lst [.ref r2]) hg2
    have hql := e2.at hql
    have hqr := e2.at hqr
    have hr1 := e2.at hr1
    have hr2 := e2.at hr2
    have hg1' := e2.at hg1'
    have hg2' : (L2.upd H12c g2 (.lst [.ref r2])) g2 = some (.lst [.ref r2]) := upd_same
    have s12d := s12c.sm e2
    have hk12d := hk12c.sm e2
    have hs12d := hs12c.sm e2
    generalize L2.upd H12c g2 _ = H12d at e2 hr1 hr2 hg1' hg2' s12d hk12d hs12d hql hqr ⊢
    clear e2 s12c hk12c hs12c
    walk_at "rd"
    refine w_rep (k := if decide (ct < y1) = true then (1 : Int) else 0) (xs := [V.ref r2]) hg2' (by split <;> decide) (by split <;> decide) (by rw [List.length_singleton]; split <;> decide) (fun g3 hg3 => ?_)
    refine w_cat (gn hg1' hg3) upd_same (by split <;> first | (show 2 ≤ sizeLine; decide) | (show 1 ≤ sizeLine; decide)) (fun pp hpp => ?_)
    have e4 := (((Sm.refl (T := ([] : List (Addr × Str))) H12d).new hg3).new (o := .lst ([V.ref r1] ++ (List.replicate (if decide (ct < y1) = true then (1 : Int) else 0).toNat [V.ref r2]).flatten)) hpp)
    obtain ⟨rs, hrs, rsl, rsb, rsum⟩ := parts_ex hr1 hr2 (by omega) (by omega)
    rw [hrs] at e4 ⊢
    have hpp' : (L2.upd (L2.upd H12d g3 (.lst (List.replicate (if decide (ct < y1) = true then (1 : Int) else 0).toNat [V.ref r2]).flatten)) pp (.lst (rs.map fun r => V.ref r.1))) pp = some (.lst (rs.map fun r => V.ref r.1)) := upd_same
    generalize L2.upd (L2.upd H12d g3 _) pp _ = H12 at e4 hpp' ⊢
    have hql := e4.at hql
    have hqr := e4.at hqr
    have rsb : ∀ r ∈ rs, H12 r.1 = some (.tup [.int r.2.1, .int r.2.2]) ∧ y0 ≤ r.2.1 ∧ r.2.1 ≤ r.2.2 ∧ r.2.2 ≤ y1 := fun r hr => ⟨e4.at (rsb r hr).1, (rsb r hr).2⟩
    have s12 := s12d.sm e4
    have hk12 := hk12d.sm e4
    have hs12 := hs12d.sm e4
    clear e4 s12d hk12d hs12d hr1 hr2 hg1' hg2'
    walk_at "rd"
    refine w_iTup ?_
    walk_at "rd"
    refine ⟨by show 2 ≤ sizeLine; decide, fun t4 ht4 => ?_⟩
    have e13 := (Sm.refl (T := ([] : List (Addr × Str))) H12).new (o := (.tup [.str "add", .str "subtract"])) ht4
    have hql := e13.at hql
    have hqr := e13.at hqr
    have hpp' := e13.at hpp'
    have ht4 : (L2.upd H12 t4 (.tup [.str "add", .str "subtract"])) t4 = some (.tup [.str "add", .str "subtract"]) := upd_same
    have s13 := s12.sm e13
    have hk13 := hk12.sm e13
    have hs13 := hs12.sm e13
    have rsb : ∀ r ∈ rs, (L2.upd H12 t4 (.tup [.str "add", .str "subtract"])) r.1 = some (.tup [.int r.2.1, .int r.2.2]) ∧ y0 ≤ r.2.1 ∧ r.2.1 ≤ r.2.2 ∧ r.2.2 ≤ y1 := fun r hr => ⟨e13.at (rsb r hr).1, (rsb r hr).2⟩
    generalize L2.upd H12 t4 _ = H13 at e13 rsb ht4 s13 hk13 hs13 hql hqr hpp' ⊢
    clear e13 s12 hk12 hs12
    walk_at "rd"
    have ht4' : H13 t4 = some (.tup ([("add" : Str), "subtract"].map V.str)) := ht4
    refine ⟨⟨_, SqT.of ht4'⟩, for_tup (K := K) (a := t4) (xs := [("add" : Str), "subtract"].map V.str) (fun i σ H' => (∃ (v9 v10 v11 v12 v13 v15 v16 : Option V), σ = [some (.ref p), some (.ref kx), some (.int (loK wd s)), some (.int (2 ^ wd)), some (.ref ql), some (.ref qr), some (.int bo), some (.int to), some (.int x0), v9, v10, v11, v12, v13, some (.ref pp), v15, v16]) ∧ Sm ([] : List (Addr × Str)) H13 H')
      ⟨⟨_, _, _, _, _, _, _, rfl⟩, Sm.refl H13⟩ (fun i σ H' _ q => SqT.of (q.2.at ht4')) ?_ ?_⟩
    · rintro i x σ H14 hi ⟨⟨v9, v10, v11, v12, v13, v15, v16, rfl⟩, e14⟩
      obtain ⟨o, rfl, ho⟩ := nm2 hi
      clear hi
      have hk14 := hk13.sm e14
      have hql := e14.at hql
      have hqr := e14.at hqr
      have hpp' := e14.at hpp'
      have rsb : ∀ r ∈ rs, H14 r.1 = some (.tup [.int r.2.1, .int r.2.2]) ∧ y0 ≤ r.2.1 ∧ r.2.1 ≤ r.2.2 ∧ r.2.2 ≤ y1 := fun r hr => ⟨e14.at (rsb r hr).1, (rsb r hr).2⟩
      walk_at "rd"
      refine ⟨⟨_, SqL.of hpp'⟩, fun D1 hD => lc_list (K := K) (a := pp) (xs := rs.map fun r => V.ref r.1) (fun j H'' => H'' D1 = some (.lst (((rs.take j).map fun r : Addr × Int × Int => prO wd s o x0 x1 r.2.1 r.2.2).map V.int)) ∧ Sm ([] : List (Addr × Str)) H14 H'') ⟨upd_same, (Sm.refl H14).new hD⟩ (fun i H' _ q => SqL.of (q.2.at hpp')) ?_ ?_⟩
      · rintro j y HJ hj ⟨hd, sj⟩
        obtain ⟨r, hr, rfl⟩ := map_get hj
        obtain ⟨hrt, rb1, rb2, rb3⟩ := rsb r (List.mem_of_getElem? hr)
        have hrt := sj.at hrt
        have jl : j < rs.length := (List.getElem?_eq_some_iff.mp hr).1
        walk_at "rd"
        refine ⟨rfl, ?_⟩
        walk_at "rd"
        refine iteT ?_
        walk_at "rd"
        refine ⟨kx, o, ql, r.1, wd, s, x0, x1, r.2.1, r.2.2, rfl, hk14.sm sj, ho, sj.at hql, hrt, ⟨by omega, by omega, by omega⟩, ⟨by omega, by omega, by omega⟩, fun HC sc => ?_⟩
        have hd' := sc _ _ hd
        refine ⟨_, hd', by rw [List.length_map, List.length_map, List.length_take]; exact small1000 (by omega), ?_, (sj.trans (Sm.of sc)).mut hD hd'⟩
        rw [upd_same, tk_more hr, List.map_append, List.map_append]
        rfl
      rintro H15 ⟨hD1, e15⟩
      rw [List.length_map, List.take_length] at hD1
      walk_at "rd"
      refine w_sum hD1 ?_
      rw [rsum (fun u v => prO wd s o x0 x1 u v) (prS_right _ (by omega) (by omega))]
      have hk15 := hk14.sm e15
      have hql15 := e15.at hql
      have hqr15 := e15.at hqr
      walk_at "rd"
      refine ⟨kx, o, ql, qr, wd, s, x0, x1, y0, y1, rfl, hk15, ho, hql15, hqr15, ⟨by omega, by omega, by omega⟩, ⟨by omega, by omega, by omega⟩, fun H16 e16 => ?_⟩
      walk_at "rd"
      refine w_ndecT rfl ?_
      have e16 := e15.trans (Sm.of (T := ([] : List (Addr × Str))) e16)
      have hk16 := hk14.sm e16
      have hql := e16.at hql
      have hqr := e16.at hqr
      have hpp' := e16.at hpp'
      have rsb : ∀ r ∈ rs, H16 r.1 = some (.tup [.int r.2.1, .int r.2.2]) ∧ y0 ≤ r.2.1 ∧ r.2.1 ≤ r.2.2 ∧ r.2.2 ≤ y1 := fun r hr => ⟨e16.at (rsb r hr).1, (rsb r hr).2⟩
      walk_at "rd"
      refine ⟨⟨_, SqL.of hpp'⟩, fun D2 hD => lc_list (K := K) (a := pp) (xs := rs.map fun r => V.ref r.1) (fun j H'' => H'' D2 = some (.lst (((rs.take j).map fun r : Addr × Int × Int => prW wd s o bo to x0 x1 r.2.1 r.2.2).map V.int)) ∧ Sm ([] : List (Addr × Str)) H16 H'') ⟨upd_same, (Sm.refl H16).new hD⟩ (fun i H' _ q => SqL.of (q.2.at hpp')) ?_ ?_⟩
      · rintro j y HJ hj ⟨hd, sj⟩
        obtain ⟨r, hr, rfl⟩ := map_get hj
        obtain ⟨hrt, rb1, rb2, rb3⟩ := rsb r (List.mem_of_getElem? hr)
        have hrt := sj.at hrt
        have jl : j < rs.length := (List.getElem?_eq_some_iff.mp hr).1
        walk_at "rd"
        refine ⟨rfl, ?_⟩
        walk_at "rd"
        refine iteT ?_
        walk_at "rd"
        refine ⟨kx, o, ql, r.1, bo, to, wd, s, x0, x1, r.2.1, r.2.2, rfl, hk16.sm sj, ho, sj.at hql, hrt, ⟨by omega, by omega, by omega⟩, ⟨by omega, by omega, by omega⟩, ⟨by omega, by omega⟩, ⟨by omega, by omega⟩, fun HC sc => ?_⟩
        have hd' := sc _ _ hd
        refine ⟨_, hd', by rw [List.length_map, List.length_map, List.length_take]; exact small1000 (by omega), ?_, (sj.trans (Sm.of sc)).mut hD hd'⟩
        rw [upd_same, tk_more hr, List.map_append, List.map_append]
        rfl
      rintro H17 ⟨hD2, e17⟩
      rw [List.length_map, List.take_length] at hD2
      walk_at "rd"
      refine w_sum hD2 ?_
      rw [rsum (fun u v => prW wd s o bo to x0 x1 u v) (prS_right _ (by omega) (by omega))]
      have hk17 := hk16.sm e17
      have hql17 := e17.at hql
      have hqr17 := e17.at hqr
      walk_at "rd"
      refine ⟨kx, o, ql, qr, bo, to, wd, s, x0, x1, y0, y1, rfl, hk17, ho, hql17, hqr17, ⟨by omega, by omega, by omega⟩, ⟨by omega, by omega, by omega⟩, ⟨by omega, by omega⟩, ⟨by omega, by omega⟩, fun H18 e18 => ?_⟩
      walk_at "rd"
      refine w_ndecT rfl ?_
      walk_at "rd"
      exact ⟨⟨_, _, _, _, _, _, _, rfl⟩, (e14.trans e16).trans (e17.trans (Sm.of e18))⟩
    rintro σ H14 ⟨⟨v9', v10', v11', v12', v13', v15, v16, rfl⟩, e14⟩
    walk_at "rd"
    exact k _ (s13.sm e14) ((hs13.sm e14).le (by omega))
def sp__law_great_pairs_right (K : PySem.W.Frag) (C : Addr) (TS : List (Addr × Str)) : Sp := fun vs H Q _ => ∃ (p kx : Addr) (m wd : Nat) (s : Bool), vs = [.ref p, .ref kx, .int (loK wd s), .int (2 ^ wd)] ∧ SrcN m H p ∧ m < 2 ^ 37 ∧ Kd C H kx wd s ∧ ∀ H', Kq TS p H H' → SrcN (m + 1000) H' p → Q (.bl true) H'
theorem ok__law_great_pairs_right {P : Program} {w : World} {K : PySem.W.Frag} {mg : Str → Option Value} {base : Heap} (T : Txt K mg) : FnOk P w K mg base CX0 8 T.f__law_great_pairs_right T.fd__law_great_pairs_right ["_law_deck_here", "_law_own", "_law_least_one", "_law_size"] (sp__law_great_pairs_right K T.C_Kind []) := by
  have G__law_great := ok__law_great (P := P) (w := w) (base := base) T
  have G__law_span := ok__law_span (P := P) (w := w) (base := base) T
  have G_overflow_total := ok_overflow_total (P := P) (w := w) (base := base) T
  have G_pair_overflows := ok_pair_overflows (P := P) (w := w) (base := base) T
  have G_pairs_within := ok_pairs_within (P := P) (w := w) (base := base) T
  refine T.F__law_great_pairs_right.ok sc__law_great_pairs_right (fun vs H Q E h => ?_) (fun cdv A outer s H vs Q E hr h => ?_)
  · obtain ⟨p, kx, m, wd, s, rfl, _⟩ := h
    rfl
  · obtain ⟨p, kx, m, wd, s, rfl, h⟩ := h
    have hr__law_great : Room 2 _ := hr.mono (by decide)
    have hr__law_span : Room 3 _ := hr.mono (by decide)
    have hr_overflow_total : Room 7 _ := hr.mono (by decide)
    have hr_pair_overflows : Room 7 _ := hr.mono (by decide)
    have hr_pairs_within : Room 7 _ := hr.mono (by decide)
    refine ⟨_, (pss_cons (ps_asg (pe_tup (pa_cons (pe_call G__law_span hr__law_span rfl T.g__law_span T.k__law_span T.b__law_span .nil pass0 (pa_cons (pv 0 (hv := Or.inl rfl)) (pa_cons (pv 2 (hv := Or.inl rfl)) (pa_cons (pv 3 (hv := Or.inl rfl)) pa_nil)))) (pa_cons (pe_call G__law_span hr__law_span rfl T.g__law_span T.k__law_span T.b__law_span .nil pass0 (pa_cons (pv 0 (hv := Or.inl rfl)) (pa_cons (pv 2 (hv := Or.inl rfl)) (pa_cons (pv 3 (hv := Or.inl rfl)) pa_nil)))) pa_nil))) (pg_tup rfl (pgs_cons (pg_name (i := 4) sc__law_great_pairs_right.nd rfl (Or.inr rfl)) (pgs_cons (pg_name (i := 5) sc__law_great_pairs_right.nd rfl (Or.inr rfl)) pgs_nil))))
      (pss_cons (ps_asg (pe_call G__law_span hr__law_span rfl T.g__law_span T.k__law_span T.b__law_span .nil pass0 (pa_cons (pv 0 (hv := Or.inl rfl)) (pa_cons (pv 2 (hv := Or.inl rfl)) (pa_cons (pv 3 (hv := Or.inl rfl)) pa_nil)))) (pg_tup rfl (pgs_cons (pg_name (i := 6) sc__law_great_pairs_right.nd rfl (Or.inr rfl)) (pgs_cons (pg_name (i := 7) sc__law_great_pairs_right.nd rfl (Or.inr rfl)) pgs_nil))))
      (pss_cons (ps_set (i := 8) sc__law_great_pairs_right.nd rfl (Or.inl rfl) (pe_op op_add (pe_ix (r := rIxT K) ix_tup (pv 4 (hv := Or.inr (Or.inl rfl))) pe_int (fun _ _ => rfl)) (pe_call G__law_great hr__law_great rfl T.g__law_great T.k__law_great T.b__law_great .nil pass0 (pa_cons (pv 0 (hv := Or.inl rfl)) (pa_cons (pe_op op_add (pe_op op_sub (pe_ix (r := rIxT K) ix_tup (pv 4 (hv := Or.inr (Or.inl rfl))) pe_int (fun _ _ => rfl)) (pe_ix (r := rIxT K) ix_tup (pv 4 (hv := Or.inr (Or.inl rfl))) pe_int (fun _ _ => rfl))) pe_int) pa_nil)))))
      (pss_cons (ps_set (i := 9) sc__law_great_pairs_right.nd rfl (Or.inl rfl) (pe_op op_mulX (pe_op op_add (pe_op op_sub (pe_ix (r := rIxT K) ix_tup (pv 4 (hv := Or.inr (Or.inl rfl))) pe_int (fun _ _ => rfl)) (pe_ix (r := rIxT K) ix_tup (pv 4 (hv := Or.inr (Or.inl rfl))) pe_int (fun _ _ => rfl))) pe_int) (pe_op op_add (pe_op op_sub (pe_ix (r := rIxT K) ix_tup (pv 5 (hv := Or.inr (Or.inl rfl))) pe_int (fun _ _ => rfl)) (pe_ix (r := rIxT K) ix_tup (pv 5 (hv := Or.inr (Or.inl rfl))) pe_int (fun _ _ => rfl))) pe_int)))
      (pss_cons (ps_for PassesOwn.never rfl (pi_tup (pe_tup (pa_cons pe_str (pa_cons pe_str pa_nil)))) (pg_name (i := 10) sc__law_great_pairs_right.nd rfl (Or.inr rfl))
        (pss_cons (ps_par rfl sc__law_great_pairs_right.nd (i := 11) (j := 12) rfl rfl (by decide) rfl rfl (pa_cons (pe_call G_pair_overflows hr_pair_overflows rfl T.g_pair_overflows T.k_pair_overflows T.b_pair_overflows .nil pass0 (pa_cons (pv 1 (hv := Or.inr (Or.inl rfl))) (pa_cons (pv 10 (hv := Or.inr (Or.inl rfl))) (pa_cons (pv 4 (hv := Or.inr (Or.inl rfl))) (pa_cons (pv 5 (hv := Or.inr (Or.inl rfl))) pa_nil))))) (pa_cons (pe_call G_pairs_within hr_pairs_within rfl T.g_pairs_within T.k_pairs_within T.b_pairs_within .nil pass0 (pa_cons (pv 1 (hv := Or.inr (Or.inl rfl))) (pa_cons (pv 10 (hv := Or.inr (Or.inl rfl))) (pa_cons (pv 4 (hv := Or.inr (Or.inl rfl))) (pa_cons (pv 5 (hv := Or.inr (Or.inl rfl))) (pa_cons (pv 6 (hv := Or.inr (Or.inl rfl))) (pa_cons (pv 7 (hv := Or.inr (Or.inl rfl))) pa_nil))))))) pa_nil)) (by rfl))
      (pss_cons (ps_set (i := 13) sc__law_great_pairs_right.nd rfl (Or.inl rfl) (pe_op op_cat (pe_lst (pa_cons (pe_tup (pa_cons (pe_ix (r := rIxT K) ix_tup (pv 4 (hv := Or.inr (Or.inl rfl))) pe_int (fun _ _ => rfl)) (pa_cons (pv 8 (hv := Or.inl rfl)) pa_nil))) pa_nil)) (pe_op op_rep (pe_lst (pa_cons (pe_tup (pa_cons (pe_op op_add (pv 8 (hv := Or.inl rfl)) pe_int) (pa_cons (pe_ix (r := rIxT K) ix_tup (pv 4 (hv := Or.inr (Or.inl rfl))) pe_int (fun _ _ => rfl)) pa_nil))) pa_nil)) (pe_callTy (T := "int") (r := rIntC) call_int1 (by rfl) T.n_int (by decide +kernel) (pa_cons (pe_cmpR op_lt (pv 8 (hv := Or.inl rfl)) (pe_ix (r := rIxT K) ix_tup (pv 4 (hv := Or.inr (Or.inl rfl))) pe_int (fun _ _ => rfl)) (nomark _)) pa_nil)))))
      (pss_cons (ps_if (pt_cmpR op_ne (pe_callB (id := "sum") (r := rSum K) (cr_sum rfl) (by rfl) T.n_sum (by decide +kernel) (pa_cons (pe_lc (own := [("_law_part", 14)]) (g := gName 14) (tt := tYes) (by rfl) sc__law_great_pairs_right.nd (pi_list (pv 13 (hv := Or.inl rfl))) (blkOk_by (own := [("_law_part", 14)]) (N := ["_law_deck_here", "_law_own", "_law_least_one", "_law_size", "_law_left", "_law_right", "_law_bottom", "_law_top", "_law_cut", "_law_whole", "_law_word", "_law_many", "_law_held_so", "_law_parts", "_law_part", "_law_rest", "_law_some", "_law_row", "_law_point", "_law_every", "_law_due"]) (sc := defScope s__law_great_pairs_right) (by decide +kernel)) (fun _ _ _ _ _ => (pg_name (i := 14) sc__law_great_pairs_right.nd rfl (Or.inl rfl))) (fun _ _ _ _ _ => pts_nil) (fun _ _ _ _ _ => (pe_call G_pair_overflows hr_pair_overflows rfl T.g_pair_overflows T.k_pair_overflows T.b_pair_overflows .nil pass0 (pa_cons (pv 1 (hv := Or.inr (Or.inl rfl))) (pa_cons (pv 10 (hv := Or.inr (Or.inl rfl))) (pa_cons (pv 14 (hv := Or.inl rfl)) (pa_cons (pv 5 (hv := Or.inr (Or.inl rfl))) pa_nil))))))) pa_nil)) (pv 11 (hv := Or.inl rfl)) (nomark _)) (pss_one (ps_ret pe_bl)) pss_nil)
      (pss_cons (ps_if (pt_cmpR op_ne (pe_callB (id := "sum") (r := rSum K) (cr_sum rfl) (by rfl) T.n_sum (by decide +kernel) (pa_cons (pe_lc (own := [("_law_part", 14)]) (g := gName 14) (tt := tYes) (by rfl) sc__law_great_pairs_right.nd (pi_list (pv 13 (hv := Or.inl rfl))) (blkOk_by (own := [("_law_part", 14)]) (N := ["_law_deck_here", "_law_own", "_law_least_one", "_law_size", "_law_left", "_law_right", "_law_bottom", "_law_top", "_law_cut", "_law_whole", "_law_word", "_law_many", "_law_held_so", "_law_parts", "_law_part", "_law_rest", "_law_some", "_law_row", "_law_point", "_law_every", "_law_due"]) (sc := defScope s__law_great_pairs_right) (by decide +kernel)) (fun _ _ _ _ _ => (pg_name (i := 14) sc__law_great_pairs_right.nd rfl (Or.inl rfl))) (fun _ _ _ _ _ => pts_nil) (fun _ _ _ _ _ => (pe_call G_pairs_within hr_pairs_within rfl T.g_pairs_within T.k_pairs_within T.b_pairs_within .nil pass0 (pa_cons (pv 1 (hv := Or.inr (Or.inl rfl))) (pa_cons (pv 10 (hv := Or.inr (Or.inl rfl))) (pa_cons (pv 14 (hv := Or.inl rfl)) (pa_cons (pv 5 (hv := Or.inr (Or.inl rfl))) (pa_cons (pv 6 (hv := Or.inr (Or.inl rfl))) (pa_cons (pv 7 (hv := Or.inr (Or.inl rfl))) pa_nil))))))))) pa_nil)) (pv 12 (hv := Or.inl rfl)) (nomark _)) (pss_one (ps_ret pe_bl)) pss_nil)
      (pss_cons (ps_set (i := 15) sc__law_great_pairs_right.nd rfl (Or.inl rfl) (pe_lst (pa_cons (pe_tup (pa_cons (pv 2 (hv := Or.inl rfl)) (pa_cons (pe_op op_sub (pv 6 (hv := Or.inr (Or.inl rfl))) pe_int) pa_nil))) (pa_cons (pe_tup (pa_cons (pe_op op_add (pv 7 (hv := Or.inr (Or.inl rfl))) pe_int) (pa_cons (pe_op op_sub (pe_op op_add (pv 2 (hv := Or.inl rfl)) (pv 3 (hv := Or.inl rfl))) pe_int) pa_nil))) pa_nil))))
      (pss_cons (ps_setLc (i := 16) (own := [("_law_row", 17)]) (g := gName 17) rfl sc__law_great_pairs_right.nd rfl rfl (sw_true rfl rfl rfl (by decide +kernel)) (pi_list (pv 15 (hv := Or.inl rfl))) (blkOk_by (own := [("_law_row", 17)]) (N := ["_law_deck_here", "_law_own", "_law_least_one", "_law_size", "_law_left", "_law_right", "_law_bottom", "_law_top", "_law_cut", "_law_whole", "_law_word", "_law_many", "_law_held_so", "_law_parts", "_law_part", "_law_rest", "_law_some", "_law_row", "_law_point", "_law_every", "_law_due"]) (sc := defScope s__law_great_pairs_right) (by decide +kernel)) (fun _ _ _ _ _ => (pg_name (i := 17) sc__law_great_pairs_right.nd rfl (Or.inl rfl))) (fun _ _ _ _ _ => pts_one (pt_cmpR op_le (pe_ix (r := rIxT K) ix_tup (pv 17 (hv := Or.inl rfl)) pe_int (fun _ _ => rfl)) (pe_ix (r := rIxT K) ix_tup (pv 17 (hv := Or.inl rfl)) pe_int (fun _ _ => rfl)) (nomark _))) (fun _ _ _ _ _ => (pe_call G_pairs_within hr_pairs_within rfl T.g_pairs_within T.k_pairs_within T.b_pairs_within .nil pass0 (pa_cons (pv 1 (hv := Or.inr (Or.inl rfl))) (pa_cons (pv 10 (hv := Or.inr (Or.inl rfl))) (pa_cons (pv 4 (hv := Or.inr (Or.inl rfl))) (pa_cons (pv 5 (hv := Or.inr (Or.inl rfl))) (pa_cons (pe_ix (r := rIxT K) ix_tup (pv 17 (hv := Or.inl rfl)) pe_int (fun _ _ => rfl)) (pa_cons (pe_ix (r := rIxT K) ix_tup (pv 17 (hv := Or.inl rfl)) pe_int (fun _ _ => rfl)) pa_nil)))))))))
      (pss_cons (ps_if (PW.pt (pw_or (pt_cmpR op_ne (pe_op op_add (pv 12 (hv := Or.inl rfl)) (pe_callB (id := "sum") (r := rSum K) (cr_sum rfl) (by rfl) T.n_sum (by decide +kernel) (pa_cons (pv 16 (hv := Or.inl rfl)) pa_nil))) (pv 9 (hv := Or.inl rfl)) (nomark _)) (pw_or1 (pt_not (pt_chain op_le op_le pe_int (pv 11 (hv := Or.inl rfl)) (pv 9 (hv := Or.inl rfl))))))) (pss_one (ps_ret pe_bl)) pss_nil)
      (pss_cons (ps_set (i := 18) sc__law_great_pairs_right.nd rfl (Or.inl rfl) (pe_tup (pa_cons (pe_ix (r := rIxT K) ix_tup (pv 4 (hv := Or.inr (Or.inl rfl))) pe_int (fun _ _ => rfl)) (pa_cons (pe_ix (r := rIxT K) ix_tup (pv 4 (hv := Or.inr (Or.inl rfl))) pe_int (fun _ _ => rfl)) pa_nil))))
      (pss_cons (ps_set (i := 17) sc__law_great_pairs_right.nd rfl (Or.inl rfl) (pe_call G_pair_overflows hr_pair_overflows rfl T.g_pair_overflows T.k_pair_overflows T.b_pair_overflows .nil pass0 (pa_cons (pv 1 (hv := Or.inr (Or.inl rfl))) (pa_cons (pv 10 (hv := Or.inr (Or.inl rfl))) (pa_cons (pv 18 (hv := Or.inl rfl)) (pa_cons (pv 5 (hv := Or.inr (Or.inl rfl))) pa_nil))))))
      (pss_cons (ps_if (PW.pt (pw_and (pt_cmpR op_eq (pv 10 (hv := Or.inr (Or.inl rfl))) pe_str (nomark _)) (pw_and1 (pt_cmpR op_ne (pv 17 (hv := Or.inl rfl)) (pe_call G_overflow_total hr_overflow_total rfl T.g_overflow_total T.k_overflow_total T.b_overflow_total .nil pass0 (pa_cons (pv 1 (hv := Or.inr (Or.inl rfl))) (pa_cons (pv 10 (hv := Or.inr (Or.inl rfl))) (pa_cons (pe_ix (r := rIxT K) ix_tup (pv 4 (hv := Or.inr (Or.inl rfl))) pe_int (fun _ _ => rfl)) (pa_cons (pe_ix (r := rIxT K) ix_tup (pv 5 (hv := Or.inr (Or.inl rfl))) pe_int (fun _ _ => rfl)) (pa_cons (pe_ix (r := rIxT K) ix_tup (pv 5 (hv := Or.inr (Or.inl rfl))) pe_int (fun _ _ => rfl)) pa_nil)))))) (nomark _))))) (pss_one (ps_ret pe_bl)) pss_nil)
      (pss_cons (ps_set (i := 17) sc__law_great_pairs_right.nd rfl (Or.inl rfl) (pe_call G_pair_overflows hr_pair_overflows rfl T.g_pair_overflows T.k_pair_overflows T.b_pair_overflows .nil pass0 (pa_cons (pv 1 (hv := Or.inr (Or.inl rfl))) (pa_cons (pv 10 (hv := Or.inr (Or.inl rfl))) (pa_cons (pv 4 (hv := Or.inr (Or.inl rfl))) (pa_cons (pe_tup (pa_cons (pe_ix (r := rIxT K) ix_tup (pv 5 (hv := Or.inr (Or.inl rfl))) pe_int (fun _ _ => rfl)) (pa_cons (pe_ix (r := rIxT K) ix_tup (pv 5 (hv := Or.inr (Or.inl rfl))) pe_int (fun _ _ => rfl)) pa_nil))) pa_nil))))))
      (pss_one (ps_if (pt_cmpR op_ne (pv 17 (hv := Or.inl rfl)) (pe_call G_overflow_total hr_overflow_total rfl T.g_overflow_total T.k_overflow_total T.b_overflow_total .nil pass0 (pa_cons (pv 1 (hv := Or.inr (Or.inl rfl))) (pa_cons (pv 10 (hv := Or.inr (Or.inl rfl))) (pa_cons (pe_ix (r := rIxT K) ix_tup (pv 5 (hv := Or.inr (Or.inl rfl))) pe_int (fun _ _ => rfl)) (pa_cons (pe_ix (r := rIxT K) ix_tup (pv 4 (hv := Or.inr (Or.inl rfl))) pe_int (fun _ _ => rfl)) (pa_cons (pe_ix (r := rIxT K) ix_tup (pv 4 (hv := Or.inr (Or.inl rfl))) pe_int (fun _ _ => rfl)) pa_nil)))))) (nomark _)) (pss_one (ps_ret pe_bl)) pss_nil))))))))))))))
      (pss_cons (ps_set (i := 19) sc__law_great_pairs_right.nd rfl (Or.inr rfl) (pe_tup (pa_cons (pv 2 (hv := Or.inl rfl)) (pa_cons (pe_op op_sub (pe_op op_add (pv 2 (hv := Or.inl rfl)) (pv 3 (hv := Or.inl rfl))) pe_int) pa_nil))))
      (pss_cons (ps_set (i := 20) sc__law_great_pairs_right.nd rfl (Or.inl rfl) (pe_op op_mulX (pv 3 (hv := Or.inl rfl)) (pe_op op_add (pe_op op_sub (pv 7 (hv := Or.inr (Or.inl rfl))) (pv 6 (hv := Or.inr (Or.inl rfl)))) pe_int)))
      (pss_one (ps_ret (pe_cmpR (op_eqD hr.units) (pe_lc (own := [("_law_word", 10)]) (g := gName 10) (tt := tYes) (by rfl) sc__law_great_pairs_right.nd (pi_tup (pe_tup (pa_cons pe_str (pa_cons pe_str pa_nil)))) (blkOk_by (own := [("_law_word", 10)]) (N := ["_law_deck_here", "_law_own", "_law_least_one", "_law_size", "_law_left", "_law_right", "_law_bottom", "_law_top", "_law_cut", "_law_whole", "_law_word", "_law_many", "_law_held_so", "_law_parts", "_law_part", "_law_rest", "_law_some", "_law_row", "_law_point", "_law_every", "_law_due"]) (sc := defScope s__law_great_pairs_right) (by decide +kernel)) (fun _ _ _ _ _ => (pg_name (i := 10) sc__law_great_pairs_right.nd rfl (Or.inl rfl))) (fun _ _ _ _ _ => pts_nil) (fun _ _ _ _ _ => (pe_call G_pairs_within hr_pairs_within rfl T.g_pairs_within T.k_pairs_within T.b_pairs_within .nil pass0 (pa_cons (pv 1 (hv := Or.inr (Or.inl rfl))) (pa_cons (pv 10 (hv := Or.inl rfl)) (pa_cons (pv 19 (hv := Or.inr (Or.inl rfl))) (pa_cons (pv 19 (hv := Or.inr (Or.inl rfl))) (pa_cons (pv 6 (hv := Or.inr (Or.inl rfl))) (pa_cons (pv 7 (hv := Or.inr (Or.inl rfl))) pa_nil))))))))) (pe_lst (pa_cons (pv 20 (hv := Or.inl rfl)) (pa_cons (pv 20 (hv := Or.inl rfl)) pa_nil))) (nomark _))))))))))), ?_⟩
    try dsimp only [cxOf, Cx.nox, Cx.wish, Cx.blk]
    rw [show L2.start ["_law_deck_here", "_law_own", "_law_least_one", "_law_size", "_law_left", "_law_right", "_law_bottom", "_law_top", "_law_cut", "_law_whole", "_law_word", "_law_many", "_law_held_so", "_law_parts", "_law_part", "_law_rest", "_law_some", "_law_row", "_law_point", "_law_every", "_law_due"] [.ref p, .ref kx, .int (loK wd s), .int (2 ^ wd)] = [some (.ref p), some (.ref kx), some (.int (loK wd s)), some (.int (2 ^ wd)), none, none, none, none, none, none, none, none, none, none, none, none, none, none, none, none, none] from rfl]
    obtain ⟨hs0, n38, hk0, k⟩ := h
    generalize hH0 : H = H0 at hs0 hk0 ⊢
    have s0 : Kq ([] : List (Addr × Str)) p H H0 := by rw [hH0]; exact Kq.refl _
    have w1 := hk0.w1
    have w2 := hk0.w2
    have hp := p2 wd
    have hhi : hiK wd s = loK wd s + 2 ^ wd - 1 := rfl
    obtain ⟨l0, l1, l2, l3⟩ := lohi w1 s
    have q128 := p128' w2
    have q60 : (2 : Int) ^ 128 * 8 < 10 ^ 60 ∧ (0 : Int) < 2 ^ 128 ∧ (2 : Int) ^ 128 * 16 ≤ 10 ^ 62 := by decide +kernel
    obtain ⟨q601, q602, q603⟩ := q60
    obtain ⟨zz1, zz2, zz3, zz4, zz5⟩ := loK_b (s := s) w2
    walk_at "rd"
    refine ⟨p, _, wd, s, rfl, hs0, by omega, w2, fun ql x0 x1 H1 hql ql0 ql1 ql2 kp1 hs1 => ?_⟩
    have e1 : Kq ([] : List (Addr × Str)) p H0 H1 := kp1.toQ hs0.lst
    have s1 := s0.trans e1
    have hk1 := hk0.kq (hs0.ne_of hk0.ex.choose_spec) e1
    clear kp1 e1 hk0 s0
    walk_at "rd"
    refine ⟨p, _, wd, s, rfl, hs1, by omega, w2, fun qr y0 y1 H2 hqr qr0 qr1 qr2 kp2 hs2 => ?_⟩
    have e2 : Kq ([] : List (Addr × Str)) p H1 H2 := kp2.toQ hs1.lst
    have s2 := s1.trans e2
    have hk2 := hk1.kq (hs1.ne_of hk1.ex.choose_spec) e2
    have hql := e2.at (hs1.ne_of hql) hql
    clear kp2 e2 hk1 s1
    walk_at "rd"
    refine ⟨by show 2 ≤ sizeLine; decide, fun q0 hq0 => ?_⟩
    have e3 := (Sm.refl (T := ([] : List (Addr × Str))) H2).new (o := (.tup [.ref ql, .ref qr])) hq0
    have hql := e3.at hql
    have hqr := e3.at hqr
    have hq0 : (L2.upd H2 q0 (.tup [.ref ql, .ref qr])) q0 = some (.tup [.ref ql, .ref qr]) := upd_same
    have s3 := s2.sm e3
    have hk3 := hk2.sm e3
    have hs3 := hs2.sm e3
    generalize L2.upd H2 q0 _ = H3 at e3 hq0 s3 hk3 hs3 hql hqr ⊢
    clear e3 s2 hk2 hs2
    walk_at "rd"
    walk_at "rd"
    refine ⟨p, _, wd, s, rfl, hs3, by omega, w2, fun qb bo to H4 hqb qb0 qb1 qb2 kp4 hs4 => ?_⟩
    have e4 : Kq ([] : List (Addr × Str)) p H3 H4 := kp4.toQ hs3.lst
    have s4 := s3.trans e4
    have hk4 := hk3.kq (hs3.ne_of hk3.ex.choose_spec) e4
    have hql := e4.at (hs3.ne_of hql) hql
    have hqr := e4.at (hs3.ne_of hqr) hqr
    clear kp4 e4 hk3 s3
    walk_at "rd"
    refine ⟨p, _, _, rfl, hs4, by omega, by omega, b28 (bb_ten (by omega) (by omega)), fun gg H5 gg0 gg1 kp5 hs5 => ?_⟩
    have e5 : Kq ([] : List (Addr × Str)) p H4 H5 := kp5.toQ hs4.lst
    have s5 := s4.trans e5
    have hk5 := hk4.kq (hs4.ne_of hk4.ex.choose_spec) e5
    have hql := e5.at (hs4.ne_of hql) hql
    have hqr := e5.at (hs4.ne_of hqr) hqr
    clear e5 kp5 s4 hk4 hs4
    obtain ⟨ct, hct⟩ : ∃ ct, ct = x0 + gg := ⟨_, rfl⟩
    walk_at "rd"
    rw [← hct]
    refine w_I (mulx_ok (show BB (x1 - x0 + 1) from bb_ten (by omega) (by omega)) (show BB (y1 - y0 + 1) from bb_ten (by omega) (by omega)) (by decide)) ?_
    obtain ⟨WH, hWH⟩ : ∃ WH, WH = (x1 - x0 + 1) * (y1 - y0 + 1) := ⟨_, rfl⟩
    rw [← hWH]
    walk_at "rd"
    refine w_iTup ?_
    walk_at "rd"
    refine ⟨by show 2 ≤ sizeLine; decide, fun t ht => ?_⟩
    have e6 := (Sm.refl (T := ([] : List (Addr × Str))) H5).new (o := (.tup [.str "add", .str "subtract"])) ht
    have hql := e6.at hql
    have hqr := e6.at hqr
    have ht : (L2.upd H5 t (.tup [.str "add", .str "subtract"])) t = some (.tup [.str "add", .str "subtract"]) := upd_same
    have s6 := s5.sm e6
    have hk6 := hk5.sm e6
    have hs6 := hs5.sm e6
    generalize L2.upd H5 t _ = H6 at e6 ht s6 hk6 hs6 hql hqr ⊢
    clear e6 s5 hk5 hs5
    walk_at "rd"
    have ht' : H6 t = some (.tup ([("add" : Str), "subtract"].map V.str)) := ht
    refine ⟨⟨_, SqT.of ht'⟩, for_tup (K := K) (a := t) (xs := [("add" : Str), "subtract"].map V.str) (fun i σ H' => (∃ (v10 v11 v12 v13 v14 v15 v16 v17 v18 : Option V), σ = [some (.ref p), some (.ref kx), some (.int (loK wd s)), some (.int (2 ^ wd)), some (.ref ql), some (.ref qr), some (.int bo), some (.int to), some (.int ct), some (.int WH), v10, v11, v12, v13, v14, v15, v16, v17, v18, none, none]) ∧ H' t = some (.tup ([("add" : Str), "subtract"].map V.str)) ∧ H' ql = some (.tup [.int x0, .int x1]) ∧ H' qr = some (.tup [.int y0, .int y1]) ∧ Kd T.C_Kind H' kx wd s ∧ Kq ([] : List (Addr × Str)) p H H' ∧ SrcN (m + 900) H' p)
      ⟨⟨_, _, _, _, _, _, _, _, _, rfl⟩, ht', hql, hqr, hk6, s6, hs6.le (by omega)⟩ (fun i σ H' _ q => SqT.of q.2.1) ?_ ?_⟩
    · rintro i x σ HI hi ⟨⟨v10, v11, v12, v13, v14, v15, v16, v17, v18, rfl⟩, ht', hql, hqr, hkI, sI, hsI⟩
      obtain ⟨o, rfl, ho⟩ := nm2 hi
      clear hi
      obtain ⟨PO, hPO⟩ : ∃ PO, PO = prO wd s o x0 x1 y0 y1 := ⟨_, rfl⟩
      obtain ⟨PW, hPW⟩ : ∃ PW, PW = prW wd s o bo to x0 x1 y0 y1 := ⟨_, rfl⟩
      walk_at "rd"
      refine ⟨kx, o, ql, qr, wd, s, x0, x1, y0, y1, rfl, hkI, ho, hql, hqr, ⟨by omega, by omega, by omega⟩, ⟨by omega, by omega, by omega⟩, fun H7 e7 => ?_⟩
      rw [← hPO]
      walk_at "rd"
      refine ⟨kx, o, ql, qr, bo, to, wd, s, x0, x1, y0, y1, rfl, hkI.same e7, ho, e7 _ _ hql, e7 _ _ hqr, ⟨by omega, by omega, by omega⟩, ⟨by omega, by omega, by omega⟩, ⟨by omega, by omega⟩, ⟨by omega, by omega⟩, fun H8 e8 => ?_⟩
      rw [← hPW]
      have e8 := e7.trans e8
      have s8 := sI.same e8
      have hk8 := hkI.same e8
      have hs8 := hsI.same e8
      have hql := e8 _ _ hql
      have hqr := e8 _ _ hqr
      have ht' := e8 _ _ ht'
      clear e7 e8 sI hkI hsI
      walk_at "rd"
      refine ⟨by show 2 ≤ sizeLine; decide, fun r1 hr1 => ?_⟩
      have e9a := (Sm.refl (T := ([] : List (Addr × Str))) H8).new (o := (.tup [.int x0, .int ct])) hr1
      have hql := e9a.at hql
      have hqr := e9a.at hqr
      have ht' := e9a.at ht'
      have hr1 : (L2.upd H8 r1 (.tup [.int x0, .int ct])) r1 = some (.tup [.int x0, .int ct]) := upd_same
      have s9a := s8.sm e9a
      have hk9a := hk8.sm e9a
      have hs9a := hs8.sm e9a
      generalize L2.upd H8 r1 _ = H9a at e9a hr1 s9a hk9a hs9a hql hqr ht' ⊢
      clear e9a s8 hk8 hs8
      walk_at "rd"
      refine ⟨by show 1 ≤ sizeLine; decide, fun g1 hg1 => ?_⟩
      have e1 := (Sm.refl (T := ([] : List (Addr × Str))) H9a).new (o := .lst [.ref r1]) hg1
      have hr1 := e1.at hr1
      have hql := e1.at hql
      have hqr := e1.at hqr
      have ht' := e1.at ht'
      have hg1' : (L2.upd H9a g1 (.lst [.ref r1])) g1 = some (.lst [.ref r1]) := upd_same
      have s9b := s9a.sm e1
      have hk9b := hk9a.sm e1
      have hs9b := hs9a.sm e1
      generalize L2.upd H9a g1 _ = H9b at e1 hr1 hg1' s9b hk9b hs9b hql hqr ht' ⊢
      clear e1 s9a hk9a hs9a
      walk_at "rd"
      refine ⟨by show 2 ≤ sizeLine; decide, fun r2 hr2 => ?_⟩
      have e9c := (Sm.refl (T := ([] : List (Addr × Str))) H9b).new (o := (.tup [.int (ct + 1), .int x1])) hr2
      have hql := e9c.at hql
      have hqr := e9c.at hqr
      have ht' := e9c.at ht'
      have hr1 := e9c.at hr1
      have hg1' := e9c.at hg1'
      have hr2 : (L2.upd H9b r2 (.tup [.int (ct + 1), .int x1])) r2 = some (.tup [.int (ct + 1), .int x1]) := upd_same
      have s9c := s9b.sm e9c
      have hk9c := hk9b.sm e9c
      have hs9c := hs9b.sm e9c
      generalize L2.upd H9b r2 _ = H9c at e9c hr2 s9c hk9c hs9c hql hqr ht' hr1 hg1' ⊢
      clear e9c s9b hk9b hs9b
      walk_at "rd"
      refine ⟨by show 1 ≤ sizeLine; decide, fun g2 hg2 => ?_⟩
      have e2 := (Sm.refl (T := ([] : List (Addr × Str))) H9c).new (o := .lst [.ref r2]) hg2
      have hql := e2.at hql
      have hqr := e2.at hqr
      have ht' := e2.at ht'
      have hr1 := e2.at hr1
      have hr2 := e2.at hr2
      have hg1' := e2.at hg1'
      have hg2' : (L2.upd H9c g2 (.lst [.ref r2])) g2 = some (.lst [.ref r2]) := upd_same
      have s9d := s9c.sm e2
      have hk9d := hk9c.sm e2
      have hs9d := hs9c.sm e2
      generalize L2.upd H9c g2 _ = H9d at e2 hr1 hr2 hg1' hg2' s9d hk9d hs9d hql hqr ht' ⊢
      clear e2 s9c hk9c hs9c
      walk_at "rd"
      refine w_rep (k := if decide (ct < x1) = true then (1 : Int) else 0) (xs := [V.ref r2]) hg2' (by split <;> decide) (by split <;> decide) (by rw [List.length_singleton]; split <;> decide) (fun g3 hg3 => ?_)
      refine w_cat (gn hg1' hg3) upd_same (by split <;> first | (show 2 ≤ sizeLine; decide) | (show 1 ≤ sizeLine; decide)) (fun pp hpp => ?_)
      have e4 := (((Sm.refl (T := ([] : List (Addr × Str))) H9d).new hg3).new (o := .lst ([V.ref r1] ++ (List.replicate (if decide (ct < x1) = true then (1 : Int) else 0).toNat [V.ref r2]).flatten)) hpp)
      obtain ⟨rs, hrs, rsl, rsb, rsum⟩ := parts_ex hr1 hr2 (by omega) (by omega)
      rw [hrs] at e4 ⊢
      have hpp' : (L2.upd (L2.upd H9d g3 (.lst (List.replicate (if decide (ct < x1) = true then (1 : Int) else 0).toNat [V.ref r2]).flatten)) pp (.lst (rs.map fun r => V.ref r.1))) pp = some (.lst (rs.map fun r => V.ref r.1)) := upd_same
      generalize L2.upd (L2.upd H9d g3 _) pp _ = H9 at e4 hpp' ⊢
      have hql := e4.at hql
      have hqr := e4.at hqr
      have ht' := e4.at ht'
      have rsb : ∀ r ∈ rs, H9 r.1 = some (.tup [.int r.2.1, .int r.2.2]) ∧ x0 ≤ r.2.1 ∧ r.2.1 ≤ r.2.2 ∧ r.2.2 ≤ x1 := fun r hr => ⟨e4.at (rsb r hr).1, (rsb r hr).2⟩
      have s9 := s9d.sm e4
      have hk9 := hk9d.sm e4
      have hs9 := hs9d.sm e4
      clear e4 s9d hk9d hs9d hr1 hr2 hg1' hg2'
      walk_at "rd"
      refine ⟨⟨_, SqL.of hpp'⟩, fun D1 hD => lc_list (K := K) (a := pp) (xs := rs.map fun r => V.ref r.1) (fun j H'' => H'' D1 = some (.lst (((rs.take j).map fun r : Addr × Int × Int => prO wd s o r.2.1 r.2.2 y0 y1).map V.int)) ∧ Sm ([] : List (Addr × Str)) H9 H'') ⟨upd_same, (Sm.refl H9).new hD⟩ (fun i H' _ q => SqL.of (q.2.at hpp')) ?_ ?_⟩
      · rintro j y HJ hj ⟨hd, sj⟩
        obtain ⟨r, hr, rfl⟩ := map_get hj
        obtain ⟨hrt, rb1, rb2, rb3⟩ := rsb r (List.mem_of_getElem? hr)
        have hrt := sj.at hrt
        have jl : j < rs.length := (List.getElem?_eq_some_iff.mp hr).1
        walk_at "rd"
        refine ⟨rfl, ?_⟩
        walk_at "rd"
        refine iteT ?_
        walk_at "rd"
        refine ⟨kx, o, r.1, qr, wd, s, r.2.1, r.2.2, y0, y1, rfl, hk9.sm sj, ho, hrt, sj.at hqr, ⟨by omega, by omega, by omega⟩, ⟨by omega, by omega, by omega⟩, fun HC sc => ?_⟩
        have hd' := sc _ _ hd
        refine ⟨_, hd', by rw [List.length_map, List.length_map, List.length_take]; exact small1000 (by omega), ?_, (sj.trans (Sm.of sc)).mut hD hd'⟩
        rw [upd_same, tk_more hr, List.map_append, List.map_append]
        rfl
      rintro H10 ⟨hD1, e10⟩
      rw [List.length_map, List.take_length] at hD1
      walk_at "rd"
      refine w_sum hD1 ?_
      rw [rsum (fun u v => prO wd s o u v y0 y1) (prS_left _ (by omega) (by omega)), ← hPO]
      walk_at "rd"
      refine w_ndecT rfl ?_
      have hk10 := hk9.sm e10
      have hqr10 := e10.at hqr
      have hpp' := e10.at hpp'
      have rsb : ∀ r ∈ rs, H10 r.1 = some (.tup [.int r.2.1, .int r.2.2]) ∧ x0 ≤ r.2.1 ∧ r.2.1 ≤ r.2.2 ∧ r.2.2 ≤ x1 := fun r hr => ⟨e10.at (rsb r hr).1, (rsb r hr).2⟩
      walk_at "rd"
      refine ⟨⟨_, SqL.of hpp'⟩, fun D2 hD => lc_list (K := K) (a := pp) (xs := rs.map fun r => V.ref r.1) (fun j H'' => H'' D2 = some (.lst (((rs.take j).map fun r : Addr × Int × Int => prW wd s o bo to r.2.1 r.2.2 y0 y1).map V.int)) ∧ Sm ([] : List (Addr × Str)) H10 H'') ⟨upd_same, (Sm.refl H10).new hD⟩ (fun i H' _ q => SqL.of (q.2.at hpp')) ?_ ?_⟩
      · rintro j y HJ hj ⟨hd, sj⟩
        obtain ⟨r, hr, rfl⟩ := map_get hj
        obtain ⟨hrt, rb1, rb2, rb3⟩ := rsb r (List.mem_of_getElem? hr)
        have hrt := sj.at hrt
        have jl : j < rs.length := (List.getElem?_eq_some_iff.mp hr).1
        walk_at "rd"
        refine ⟨rfl, ?_⟩
        walk_at "rd"
        refine iteT ?_
        walk_at "rd"
        refine ⟨kx, o, r.1, qr, bo, to, wd, s, r.2.1, r.2.2, y0, y1, rfl, hk10.sm sj, ho, hrt, sj.at hqr10, ⟨by omega, by omega, by omega⟩, ⟨by omega, by omega, by omega⟩, ⟨by omega, by omega⟩, ⟨by omega, by omega⟩, fun HC sc => ?_⟩
        have hd' := sc _ _ hd
        refine ⟨_, hd', by rw [List.length_map, List.length_map, List.length_take]; exact small1000 (by omega), ?_, (sj.trans (Sm.of sc)).mut hD hd'⟩
        rw [upd_same, tk_more hr, List.map_append, List.map_append]
        rfl
      rintro H11 ⟨hD2, e11⟩
      rw [List.length_map, List.take_length] at hD2
      walk_at "rd"
      refine w_sum hD2 ?_
      rw [rsum (fun u v => prW wd s o bo to u v y0 y1) (prS_left _ (by omega) (by omega)), ← hPW]
      walk_at "rd"
      refine w_ndecT rfl ?_
      have e11' := e10.trans e11
      have s11 := s9.sm e11'
      have hk11 := hk9.sm e11'
      have hs11 := hs9.sm e11'
      have hql := e11'.at hql
      have hqr := e11'.at hqr
      have ht' := e11'.at ht'
      clear s9 hk9 hs9 hk10 hqr10 hpp' rsb rsum
      walk_at "rd"
      refine ⟨by show 2 ≤ sizeLine; decide, fun r1 hr1 => ?_⟩
      have e12 := (Sm.refl (T := ([] : List (Addr × Str))) H11).new (o := (.tup [.int (loK wd s), .int (bo - 1)])) hr1
      have hql := e12.at hql
      have hqr := e12.at hqr
      have ht' := e12.at ht'
      have hr1 : (L2.upd H11 r1 (.tup [.int (loK wd s), .int (bo - 1)])) r1 = some (.tup [.int (loK wd s), .int (bo - 1)]) := upd_same
      have s12 := s11.sm e12
      have hk12 := hk11.sm e12
      have hs12 := hs11.sm e12
      generalize L2.upd H11 r1 _ = H12 at e12 hr1 s12 hk12 hs12 hql hqr ht' ⊢
      clear e12 s11 hk11 hs11
      walk_at "rd"
      rw [show loK wd s + 2 ^ wd - 1 = hiK wd s from rfl]
      refine ⟨by show 2 ≤ sizeLine; decide, fun r2 hr2 => ?_⟩
      have e13 := (Sm.refl (T := ([] : List (Addr × Str))) H12).new (o := (.tup [.int (to + 1), .int (hiK wd s)])) hr2
      have hql := e13.at hql
      have hqr := e13.at hqr
      have ht' := e13.at ht'
      have hr1 := e13.at hr1
      have hr2 : (L2.upd H12 r2 (.tup [.int (to + 1), .int (hiK wd s)])) r2 = some (.tup [.int (to + 1), .int (hiK wd s)]) := upd_same
      have s13 := s12.sm e13
      have hk13 := hk12.sm e13
      have hs13 := hs12.sm e13
      generalize L2.upd H12 r2 _ = H13 at e13 hr2 s13 hk13 hs13 hql hqr ht' hr1 ⊢
      clear e13 s12 hk12 hs12
      walk_at "rd"
      refine ⟨by show 2 ≤ sizeLine; decide, fun q5 hq5 => ?_⟩
      have e14 := (Sm.refl (T := ([] : List (Addr × Str))) H13).new (o := .lst [.ref r1, .ref r2]) hq5
      have hq5' : (L2.upd H13 q5 (.lst [.ref r1, .ref r2])) q5 = some (.lst [.ref r1, .ref r2]) := upd_same
      have hr1 := e14.at hr1
      have hr2 := e14.at hr2
      have hql := e14.at hql
      have hqr := e14.at hqr
      have ht' := e14.at ht'
      have s14 := s13.sm e14
      have hk14 := hk13.sm e14
      have hs14 := hs13.sm e14
      generalize L2.upd H13 q5 _ = H14 at e14 hq5' hr1 hr2 hql hqr ht' s14 hk14 hs14 ⊢
      clear e14 s13 hk13 hs13
      obtain ⟨A1, hA1⟩ : ∃ A1, A1 = prW wd s o (loK wd s) (bo - 1) x0 x1 y0 y1 := ⟨_, rfl⟩
      obtain ⟨B1, hB1⟩ : ∃ B1, B1 = prW wd s o (to + 1) (hiK wd s) x0 x1 y0 y1 := ⟨_, rfl⟩
      walk_at "rd"
      refine ⟨⟨_, SqL.of hq5'⟩, fun D3 hD3 => lc_list (K := K) (a := q5) (xs := [.ref r1, .ref r2]) (fun i H' => ∃ ns : List Int, H' D3 = some (.lst (ns.map V.int)) ∧ ns.length ≤ i ∧ ns.sum = (if 1 ≤ i then A1 else 0) + (if 2 ≤ i then B1 else 0) ∧ Sm ([] : List (Addr × Str)) H14 H') ⟨[], upd_same, Nat.le_refl _, rfl, (Sm.refl H14).new hD3⟩ (fun i H' _ q => by obtain ⟨ns, _, _, _, q⟩ := q; exact SqL.of (q.at hq5')) ?_ ?_⟩
      · rintro i y HJ hiy ⟨ns, hd, nl, hns, sj⟩
        have hr1 := sj.at hr1
        have hr2 := sj.at hr2
        rcases i with _ | _ | i
        · cases hiy
          walk_at "rd"
          refine ⟨rfl, ?_⟩
          walk_at "rd"
          refine w_dec (fun c => ?_) (fun c => ?_)
          · walk_at "rd"
            refine ⟨kx, o, ql, qr, _, _, wd, s, x0, x1, y0, y1, rfl, hk14.sm sj, ho, sj.at hql, sj.at hqr, ⟨by omega, by omega, by omega⟩, ⟨by omega, by omega, by omega⟩, ⟨by omega, by omega⟩, ⟨by omega, by omega⟩, fun HC sc => ?_⟩
            rw [← hA1]
            exact ⟨_, sc _ _ hd, by rw [List.length_map]; exact small1000 (by omega), ⟨ns ++ [A1], by rw [upd_same, List.map_append]; rfl, by rw [List.length_append]; show ns.length + 1 ≤ _; omega, by rw [List.sum_append, hns]; simp, (sj.trans (Sm.of sc)).mut hD3 (sc _ _ hd)⟩⟩
          · have : A1 = 0 := by
              rw [hA1]
              exact prW_none (by omega)
            exact ⟨ns, hd, by omega, by rw [hns]; simp; omega, sj⟩
        · cases hiy
          walk_at "rd"
          refine ⟨rfl, ?_⟩
          walk_at "rd"
          refine w_dec (fun c => ?_) (fun c => ?_)
          · walk_at "rd"
            refine ⟨kx, o, ql, qr, _, _, wd, s, x0, x1, y0, y1, rfl, hk14.sm sj, ho, sj.at hql, sj.at hqr, ⟨by omega, by omega, by omega⟩, ⟨by omega, by omega, by omega⟩, ⟨by omega, by omega⟩, ⟨by omega, by omega⟩, fun HC sc => ?_⟩
            rw [← hB1]
            exact ⟨_, sc _ _ hd, by rw [List.length_map]; exact small1000 (by omega), ⟨ns ++ [B1], by rw [upd_same, List.map_append]; rfl, by rw [List.length_append]; show ns.length + 1 ≤ _; omega, by rw [List.sum_append, hns]; simp, (sj.trans (Sm.of sc)).mut hD3 (sc _ _ hd)⟩⟩
          · have : B1 = 0 := by
              rw [hB1]
              exact prW_none (by omega)
            exact ⟨ns, hd, by omega, by rw [hns]; simp; omega, sj⟩
        · cases hiy
      rintro H15 ⟨ns, hd, nl, hns, e15⟩
      have hns : ns.sum = A1 + B1 := hns
      have whole := prW_whole (s := s) (o := o) (bo := bo) (to := to) (x0 := x0) (x1 := x1) (y0 := y0) (y1 := y1) (by omega) (by omega) (by omega) (by omega) (by omega)
      rw [← hPW, ← hA1, ← hB1, ← hWH] at whole
      have s15 := s14.sm e15
      have hk15 := hk14.sm e15
      have hs15 := hs14.sm e15
      have hql := e15.at hql
      have hqr := e15.at hqr
      have ht' := e15.at ht'
      clear e15 s14 hk14 hs14
      walk_at "rd"
      refine w_sum hd ?_
      rw [hns]
      walk_at "rd"
      refine w_ndecT whole ?_
      walk_at "rd"
      refine w_chain ?_
      walk_at "rd"
      refine w_decT (by rw [hPO]; exact prS_nonneg _ _ _ _ _) ?_
      walk_at "rd"
      have pole := prS_le (fun u v => !fits wd s (exO o u v)) (x0 := x0) (x1 := x1) (y0 := y0) (y1 := y1) (by omega) (by omega)
      rw [show prS (fun u v => !fits wd s (exO o u v)) x0 x1 y0 y1 = PO from hPO.symm, ← hWH] at pole
      refine w_bF (by rw [decide_eq_true pole]; rfl) ?_
      walk_at "rd"
      refine ⟨by show 2 ≤ sizeLine; decide, fun u1 hu1 => ?_⟩
      have e16 := (Sm.refl (T := ([] : List (Addr × Str))) H15).new (o := (.tup [.int x0, .int x0])) hu1
      have hql := e16.at hql
      have hqr := e16.at hqr
      have ht' := e16.at ht'
      have hu1 : (L2.upd H15 u1 (.tup [.int x0, .int x0])) u1 = some (.tup [.int x0, .int x0]) := upd_same
      have s16 := s15.sm e16
      have hk16 := hk15.sm e16
      have hs16 := hs15.sm e16
      generalize L2.upd H15 u1 _ = H16 at e16 hu1 s16 hk16 hs16 hql hqr ht' ⊢
      clear e16 s15 hk15 hs15
      walk_at "rd"
      refine ⟨kx, o, u1, qr, wd, s, x0, x0, y0, y1, rfl, hk16, ho, hu1, hqr, ⟨by omega, by omega, by omega⟩, ⟨by omega, by omega, by omega⟩, fun H17 e17 => ?_⟩
      have s17 := s16.same e17
      have hk17 := hk16.same e17
      have hs17 := hs16.same e17
      have hql := e17 _ _ hql
      have hqr := e17 _ _ hqr
      have ht' := e17 _ _ ht'
      clear e17 s16 hk16 hs16
      walk_at "rd"
      refine w_decJ (fun H' => Same H17 H') (fun c Q hQ => ?_) (fun _ => Same.refl H17) (fun H18 e18 => ?_)
      · obtain rfl : o = .add := by
          rcases ho with rfl | rfl
          · rfl
          · exact absurd c (by decide +kernel)
        walk_at "rd"
        refine ⟨kx, .add, x0, y0, y1, wd, s, rfl, hk17, .inl rfl, ⟨by omega, by omega⟩, ⟨by omega, by omega⟩, ⟨by omega, by omega⟩, fun H18 e18 => ?_⟩
        walk_at "rd"
        rw [prO_addrow, decide_eq_true rfl]
        exact hQ _ e18
      refine iteF ?_
      have s18 := s17.same e18
      have hk18 := hk17.same e18
      have hs18 := hs17.same e18
      have hql := e18 _ _ hql
      have hqr := e18 _ _ hqr
      have ht' := e18 _ _ ht'
      clear e18 s17 hk17 hs17
      walk_at "rd"
      refine ⟨by show 2 ≤ sizeLine; decide, fun u2 hu2 => ?_⟩
      have e19 := (Sm.refl (T := ([] : List (Addr × Str))) H18).new (o := (.tup [.int y1, .int y1])) hu2
      have hql := e19.at hql
      have hqr := e19.at hqr
      have ht' := e19.at ht'
      have hu2 : (L2.upd H18 u2 (.tup [.int y1, .int y1])) u2 = some (.tup [.int y1, .int y1]) := upd_same
      have s19 := s18.sm e19
      have hk19 := hk18.sm e19
      have hs19 := hs18.sm e19
      generalize L2.upd H18 u2 _ = H19 at e19 hu2 s19 hk19 hs19 hql hqr ht' ⊢
      clear e19 s18 hk18 hs18
      walk_at "rd"
      refine ⟨kx, o, ql, u2, wd, s, x0, x1, y1, y1, rfl, hk19, ho, hql, hu2, ⟨by omega, by omega, by omega⟩, ⟨by omega, by omega, by omega⟩, fun H20 e20 => ?_⟩
      rw [prO_col]
      have s20 := s19.same e20
      have hk20 := hk19.same e20
      have hs20 := hs19.same e20
      have hql := e20 _ _ hql
      have hqr := e20 _ _ hqr
      have ht' := e20 _ _ ht'
      walk_at "rd"
      refine ⟨kx, o, y1, x0, x1, wd, s, rfl, hk20, ho.v, ⟨by omega, by omega⟩, ⟨by omega, by omega⟩, ⟨by omega, by omega⟩, fun H21 e21 => ?_⟩
      walk_at "rd"
      refine w_ndecT rfl ?_
      walk_at "rd"
      exact ⟨⟨_, _, _, _, _, _, _, _, _, rfl⟩, e21 _ _ ht', e21 _ _ hql, e21 _ _ hqr, hk20.same e21, s20.same e21, hs20.same e21⟩
    rintro σ H7 ⟨⟨v10, v11, v12, v13, v14, v15, v16, v17, v18, rfl⟩, -, hql, hqr, hk7, s7, hs7⟩
    walk_at "rd"
    rw [show loK wd s + 2 ^ wd - 1 = hiK wd s from rfl]
    refine ⟨by show 2 ≤ sizeLine; decide, fun u3 hu3 => ?_⟩
    have e8 := (Sm.refl (T := ([] : List (Addr × Str))) H7).new (o := (.tup [.int (loK wd s), .int (hiK wd s)])) hu3
    have hu3 : (L2.upd H7 u3 (.tup [.int (loK wd s), .int (hiK wd s)])) u3 = some (.tup [.int (loK wd s), .int (hiK wd s)]) := upd_same
    have s8 := s7.sm e8
    have hk8 := hk7.sm e8
    have hs8 := hs7.sm e8
    generalize L2.upd H7 u3 _ = H8 at e8 hu3 s8 hk8 hs8 ⊢
    clear e8 s7 hk7 hs7
    walk_at "rd"
    refine w_I (mulx_ok (show BB (2 ^ wd) from bb_pow w2) (show BB (to - bo + 1) from bb_ten (by omega) (by omega)) (by decide)) ?_
    obtain ⟨DU, hDU⟩ : ∃ DU, DU = 2 ^ wd * (to - bo + 1) := ⟨_, rfl⟩
    rw [← hDU]
    walk_at "rd"
    refine w_iTup ?_
    walk_at "rd"
    refine ⟨by show 2 ≤ sizeLine; decide, fun t9 ht9 => ?_⟩
    have e9 := (Sm.refl (T := ([] : List (Addr × Str))) H8).new (o := (.tup [.str "add", .str "subtract"])) ht9
    have hu3 := e9.at hu3
    have ht9 : (L2.upd H8 t9 (.tup [.str "add", .str "subtract"])) t9 = some (.tup [.str "add", .str "subtract"]) := upd_same
    have s9 := s8.sm e9
    have hk9 := hk8.sm e9
    have hs9 := hs8.sm e9
    generalize L2.upd H8 t9 _ = H9 at e9 ht9 s9 hk9 hs9 hu3 ⊢
    clear e9 s8 hk8 hs8
    walk_at "rd"
    have ht9' : H9 t9 = some (.tup ([("add" : Str), "subtract"].map V.str)) := ht9
    refine ⟨⟨_, SqT.of ht9'⟩, fun D hD => lc_tup (K := K) (a := t9) (xs := [("add" : Str), "subtract"].map V.str) (fun j H'' => H'' D = some (.lst ((List.replicate j DU).map V.int)) ∧ Sm ([] : List (Addr × Str)) H9 H'') ⟨upd_same, (Sm.refl H9).new hD⟩ (fun i H' _ q => SqT.of (q.2.at ht9')) ?_ ?_⟩
    · rintro j y HJ hj ⟨hd, sj⟩
      have jl : j < 2 := (List.getElem?_eq_some_iff.mp hj).1
      obtain ⟨o, rfl, ho⟩ := nm2 hj
      clear hj
      have hu3 := sj.at hu3
      walk_at "rd"
      refine ⟨rfl, ?_⟩
      walk_at "rd"
      refine iteT ?_
      walk_at "rd"
      refine ⟨kx, o, u3, u3, bo, to, wd, s, loK wd s, hiK wd s, loK wd s, hiK wd s, rfl, hk9.sm sj, ho, hu3, hu3, ⟨by omega, by omega, by omega⟩, ⟨by omega, by omega, by omega⟩, ⟨by omega, by omega⟩, ⟨by omega, by omega⟩, fun HC sc => ?_⟩
      rw [prW_every ho (by omega) (by omega) (by omega), ← hDU]
      have hd' := sc _ _ hd
      exact ⟨_, hd', by rw [List.length_map, List.length_replicate]; exact small1000 (by omega), by rw [upd_same, List.replicate_succ', List.map_append]; rfl, (sj.trans (Sm.of sc)).mut hD hd'⟩
    rintro H10 ⟨hd, e10⟩
    have hd : H10 D = some (.lst ([DU, DU].map V.int)) := hd
    walk_at "rd"
    refine ⟨by show 2 ≤ sizeLine; decide, fun q9 hq9 => ?_⟩
    have hd11 := gn (u := .lst [.int DU, .int DU]) hd hq9
    have hq9' : (L2.upd H10 q9 (.lst [.int DU, .int DU])) q9 = some (.lst ([DU, DU].map V.int)) := upd_same
    have e11 := e10.new (o := .lst [.int DU, .int DU]) hq9
    generalize L2.upd H10 q9 _ = H11 at hd11 hq9' e11 ⊢
    walk_at "rd"
    refine w_eqL hd11 hq9' ?_
    rw [decide_eq_true rfl]
    exact k _ (s9.sm e11) ((hs9.sm e11).le (by omega))
def sp_law (K : PySem.W.Frag) (C : Addr) (TS : List (Addr × Str)) : Sp := fun vs H Q _ => ∃ (a : Addr) (ns : List Int), vs = [.ref a] ∧ SqL K H a (ns.map V.int) ∧ ns.length ≤ 63 ∧ LamX.Tabs TS H ∧ ∀ H', Q (.bl true) H'
theorem ok_law {P : Program} {w : World} {K : PySem.W.Frag} {mg : Str → Option Value} {base : Heap} (T : Txt K mg) : FnOk P w K mg base CX0 9 T.f_law T.fd_law ["_law_script"] (sp_law K T.C_Kind []) := by
  have G_Kind___init__ := ok_Kind___init__ (P := P) (w := w) (base := base) T
  have G__law_deal := ok__law_deal (P := P) (w := w) (base := base) T
  have G__law_deck := ok__law_deck (P := P) (w := w) (base := base) T
  have G__law_great_pairs_right := ok__law_great_pairs_right (P := P) (w := w) (base := base) T
  have G__law_great_values_right := ok__law_great_values_right (P := P) (w := w) (base := base) T
  have G__law_pairs_right := ok__law_pairs_right (P := P) (w := w) (base := base) T
  have G__law_points_right := ok__law_points_right (P := P) (w := w) (base := base) T
  have G__law_values_right := ok__law_values_right (P := P) (w := w) (base := base) T
  have G_pair_overflows := ok_pair_overflows (P := P) (w := w) (base := base) T
  have G_pairs_within := ok_pairs_within (P := P) (w := w) (base := base) T
  refine T.F_law.ok sc_law (fun vs H Q E h => ?_) (fun cdv A outer s H vs Q E hr h => ?_)
  · obtain ⟨a, ns, rfl, _⟩ := h
    rfl
  · obtain ⟨a, ns, rfl, h⟩ := h
    have hr_Kind___init__ : Room 3 _ := hr.mono (by decide)
    have hr__law_deal : Room 1 _ := hr.mono (by decide)
    have hr__law_deck : Room 1 _ := hr.mono (by decide)
    have hr__law_great_pairs_right : Room 8 _ := hr.mono (by decide)
    have hr__law_great_values_right : Room 8 _ := hr.mono (by decide)
    have hr__law_pairs_right : Room 8 _ := hr.mono (by decide)
    have hr__law_points_right : Room 8 _ := hr.mono (by decide)
    have hr__law_values_right : Room 8 _ := hr.mono (by decide)
    have hr_pair_overflows : Room 7 _ := hr.mono (by decide)
    have hr_pairs_within : Room 7 _ := hr.mono (by decide)
    refine ⟨_, (pss_cons (ps_for PassesOwn.never rfl (pi_list (pe_op op_cat (pe_slice sl_list (pv 0 (hv := Or.inl rfl)) po_none (po_some pe_int)) (pe_lst (pa_cons pe_int pa_nil)))) (pg_name (i := 1) sc_law.nd rfl (Or.inl rfl))
        (pss_cons (ps_set (i := 2) sc_law.nd rfl (Or.inl rfl) (pe_call G__law_deck hr__law_deck rfl T.g__law_deck T.k__law_deck T.b__law_deck .nil pass0 (pa_cons (pv 1 (hv := Or.inl rfl)) pa_nil)))
      (pss_cons (ps_par rfl sc_law.nd (i := 3) (j := 4) rfl rfl (by decide) rfl rfl (pa_cons (pe_op op_add pe_int (pe_call G__law_deal hr__law_deal rfl T.g__law_deal T.k__law_deal T.b__law_deal .nil pass0 (pa_cons (pv 2 (hv := Or.inl rfl)) (pa_cons pe_int pa_nil)))) (pa_cons (pe_cmpR op_eq (pe_call G__law_deal hr__law_deal rfl T.g__law_deal T.k__law_deal T.b__law_deal .nil pass0 (pa_cons (pv 2 (hv := Or.inl rfl)) (pa_cons pe_int pa_nil))) pe_int (nomark _)) pa_nil)) (by rfl))
      (pss_cons (ps_set (i := 5) sc_law.nd rfl (Or.inl rfl) (pe_op op_shl pe_int (pv 3 (hv := Or.inl rfl))))
      (pss_cons (ps_par rfl sc_law.nd (i := 6) (j := 7) rfl rfl (by decide) rfl rfl (pa_cons (pe_make T.mk_Kind G_Kind___init__ hr_Kind___init__ rfl T.g_Kind T.b_Kind___init__ .nil pass0 (pa_cons (pv 3 (hv := Or.inl rfl)) (pa_cons (pv 4 (hv := Or.inl rfl)) pa_nil))) (pa_cons (pe_op op_sub pe_int (pe_op op_mul (pe_op op_fdiv (pv 5 (hv := Or.inl rfl)) pe_int) (pe_callTy (T := "int") (r := rIntC) call_int1 (by rfl) T.n_int (by decide +kernel) (pa_cons (pv 4 (hv := Or.inl rfl)) pa_nil)))) pa_nil)) (by rfl))
      (pss_cons (ps_if (pt_not (pt_val (pe_call G__law_values_right hr__law_values_right rfl T.g__law_values_right T.k__law_values_right T.b__law_values_right .nil pass0 (pa_cons (pv 6 (hv := Or.inl rfl)) (pa_cons (pv 7 (hv := Or.inl rfl)) (pa_cons (pv 5 (hv := Or.inl rfl)) (pa_cons (pe_op op_add (pv 7 (hv := Or.inl rfl)) (pe_call G__law_deal hr__law_deal rfl T.g__law_deal T.k__law_deal T.b__law_deal .nil pass0 (pa_cons (pv 2 (hv := Or.inl rfl)) (pa_cons (pv 5 (hv := Or.inl rfl)) pa_nil)))) pa_nil))))))) (pss_one (ps_ret pe_bl)) pss_nil)
      (pss_cons (ps_if (pt_not (pt_val (pe_call G__law_pairs_right hr__law_pairs_right rfl T.g__law_pairs_right T.k__law_pairs_right T.b__law_pairs_right .nil pass0 (pa_cons (pv 2 (hv := Or.inl rfl)) (pa_cons (pv 6 (hv := Or.inl rfl)) (pa_cons (pv 7 (hv := Or.inl rfl)) (pa_cons (pv 5 (hv := Or.inl rfl)) pa_nil))))))) (pss_one (ps_ret pe_bl)) pss_nil)
      (pss_cons (ps_par rfl sc_law.nd (i := 3) (j := 4) rfl rfl (by decide) rfl rfl (pa_cons (pe_op op_add pe_int (pe_call G__law_deal hr__law_deal rfl T.g__law_deal T.k__law_deal T.b__law_deal .nil pass0 (pa_cons (pv 2 (hv := Or.inl rfl)) (pa_cons pe_int pa_nil)))) (pa_cons (pe_cmpR op_eq (pe_call G__law_deal hr__law_deal rfl T.g__law_deal T.k__law_deal T.b__law_deal .nil pass0 (pa_cons (pv 2 (hv := Or.inl rfl)) (pa_cons pe_int pa_nil))) pe_int (nomark _)) pa_nil)) (by rfl))
      (pss_cons (ps_set (i := 5) sc_law.nd rfl (Or.inl rfl) (pe_op op_shl pe_int (pv 3 (hv := Or.inl rfl))))
      (pss_cons (ps_par rfl sc_law.nd (i := 6) (j := 7) rfl rfl (by decide) rfl rfl (pa_cons (pe_make T.mk_Kind G_Kind___init__ hr_Kind___init__ rfl T.g_Kind T.b_Kind___init__ .nil pass0 (pa_cons (pv 3 (hv := Or.inl rfl)) (pa_cons (pv 4 (hv := Or.inl rfl)) pa_nil))) (pa_cons (pe_op op_sub pe_int (pe_op op_mul (pe_op op_fdiv (pv 5 (hv := Or.inl rfl)) pe_int) (pe_callTy (T := "int") (r := rIntC) call_int1 (by rfl) T.n_int (by decide +kernel) (pa_cons (pv 4 (hv := Or.inl rfl)) pa_nil)))) pa_nil)) (by rfl))
      (pss_cons (ps_if (pt_not (pt_val (pe_call G__law_great_values_right hr__law_great_values_right rfl T.g__law_great_values_right T.k__law_great_values_right T.b__law_great_values_right .nil pass0 (pa_cons (pv 2 (hv := Or.inl rfl)) (pa_cons (pv 6 (hv := Or.inl rfl)) (pa_cons (pv 7 (hv := Or.inl rfl)) (pa_cons (pv 5 (hv := Or.inl rfl)) pa_nil))))))) (pss_one (ps_ret pe_bl)) pss_nil)
      (pss_cons (ps_if (pt_not (pt_val (pe_call G__law_great_pairs_right hr__law_great_pairs_right rfl T.g__law_great_pairs_right T.k__law_great_pairs_right T.b__law_great_pairs_right .nil pass0 (pa_cons (pv 2 (hv := Or.inl rfl)) (pa_cons (pv 6 (hv := Or.inl rfl)) (pa_cons (pv 7 (hv := Or.inl rfl)) (pa_cons (pv 5 (hv := Or.inl rfl)) pa_nil))))))) (pss_one (ps_ret pe_bl)) pss_nil)
      (pss_one (ps_if (pt_not (pt_val (pe_call G__law_points_right hr__law_points_right rfl T.g__law_points_right T.k__law_points_right T.b__law_points_right .nil pass0 (pa_cons (pv 2 (hv := Or.inl rfl)) (pa_cons (pv 6 (hv := Or.inl rfl)) (pa_cons (pv 7 (hv := Or.inl rfl)) (pa_cons (pv 5 (hv := Or.inl rfl)) pa_nil))))))) (pss_one (ps_ret pe_bl)) pss_nil))))))))))))))
      (pss_cons (ps_set (i := 8) sc_law.nd rfl (Or.inl rfl) (pe_make T.mk_Kind G_Kind___init__ hr_Kind___init__ rfl T.g_Kind T.b_Kind___init__ .nil pass0 (pa_cons pe_int (pa_cons pe_bl pa_nil))))
      (pss_cons (ps_if (pt_cmpR op_ne (pe_call G_pair_overflows hr_pair_overflows rfl T.g_pair_overflows T.k_pair_overflows T.b_pair_overflows .nil pass0 (pa_cons (pv 8 (hv := Or.inl rfl)) (pa_cons pe_str (pa_cons (pe_tup (pa_cons pe_int (pa_cons pe_int pa_nil))) (pa_cons (pe_tup (pa_cons pe_int (pa_cons pe_int pa_nil))) pa_nil))))) pe_int (nomark _)) (pss_one (ps_ret pe_bl)) pss_nil)
      (pss_one (ps_ret (pe_cmpR op_eq (pe_call G_pairs_within hr_pairs_within rfl T.g_pairs_within T.k_pairs_within T.b_pairs_within .nil pass0 (pa_cons (pv 8 (hv := Or.inl rfl)) (pa_cons pe_str (pa_cons (pe_tup (pa_cons pe_int (pa_cons pe_int pa_nil))) (pa_cons (pe_tup (pa_cons pe_int (pa_cons pe_int pa_nil))) (pa_cons pe_int (pa_cons pe_int pa_nil))))))) pe_int (nomark _))))))), ?_⟩
    try dsimp only [cxOf, Cx.nox, Cx.wish, Cx.blk]
    rw [show L2.start ["_law_script", "_law_cell", "_law_deck_here", "_law_bits", "_law_is_signed", "_law_size", "_law_own", "_law_least_one", "_law_byte"] [.ref a] = [some (.ref a), none, none, none, none, none, none, none, none] from rfl]
    obtain ⟨hS, n63, hT, k⟩ := h
    walk_at "rd"
    have e3 := cut_take V.int ns 3
    refine w_slL hS (fun q1 hq1 => ?_)
    rw [show (some (3 : Int)) = some ((3 : Nat) : Int) from rfl, e3]
    clear e3
    have lm : (ns.take 3).length ≤ 3 := by rw [List.length_take]; omega
    generalize ns.take 3 = ms at lm
    walk_at "rd"
    refine ⟨by show 1 ≤ sizeLine; decide, fun q2 hq2 => ?_⟩
    refine w_cat (gn upd_same hq2) upd_same (by rw [List.length_map]; exact Nat.le_trans (show ms.length + 1 ≤ 64 by omega) (by decide)) (fun q3 hq3 => ?_)
    have s0 : Sm ([] : List (Addr × Str)) H (L2.upd (L2.upd (L2.upd H q1 (.lst (ms.map V.int))) q2 (.lst [V.int 0])) q3 (.lst (ms.map V.int ++ [V.int 0]))) := (((Sm.refl H).new hq1).new hq2).new hq3
    have hx0 : (L2.upd (L2.upd (L2.upd H q1 (.lst (ms.map V.int))) q2 (.lst [V.int 0])) q3 (.lst (ms.map V.int ++ [V.int 0]))) q3 = some (.lst ((ms ++ [0]).map V.int)) := by
      rw [upd_same, List.map_append]; rfl
    generalize L2.upd (L2.upd (L2.upd H q1 _) q2 _) q3 _ = H0 at s0 hx0 ⊢
    walk_at "rd"
    refine ⟨⟨_, SqL.of hx0⟩, for_list (K := K) (a := q3) (xs := (ms ++ [0]).map V.int) (fun i σ H' => (∃ v1 v2 v3 v4 v5 v6 v7 v8 : Option V, σ = [some (.ref a), v1, v2, v3, v4, v5, v6, v7, v8]) ∧ Sm ([] : List (Addr × Str)) H0 H')
      ⟨⟨_, _, _, _, _, _, _, _, rfl⟩, Sm.refl H0⟩ (fun i σ H' _ p => SqL.of (p.2.at hx0)) ?_ ?_⟩
    · rintro i x σ H' hi ⟨⟨v1, v2, v3, v4, v5, v6, v7, v8, rfl⟩, s1⟩
      obtain ⟨c, _, rfl⟩ := map_get hi
      walk_at "rd"
      refine ⟨c, rfl, fun p H2 hp s2 hs2 => ?_⟩
      have hT2 := (s1.trans (Sm.of s2)).2 (s0.2 hT)
      walk_at "rd"
      have s2' : Kq ([] : List (Addr × Str)) p H2 H2 := Kq.refl H2
      have hs2' := hs2
      refine ⟨p, _, _, rfl, hs2', by omega, by decide, b89 (bb_sm (by decide) (by decide)), fun g1 H3 g10 g11 kp3 hs3 => ?_⟩
      have s3 : Kq ([] : List (Addr × Str)) p H2 H3 := s2'.trans (kp3.toQ hs2'.lst)
      walk_at "rd"
      refine ⟨p, _, _, rfl, hs3, by omega, by decide, b89 (bb_sm (by decide) (by decide)), fun g2 H4 g20 g21 kp4 hs4 => ?_⟩
      have s4 : Kq ([] : List (Addr × Str)) p H2 H4 := s3.trans (kp4.toQ hs3.lst)
      obtain ⟨wd, hwwd⟩ : ∃ w : Nat, 1 + g1 = (w : Int) := ⟨(1 + g1).toNat, by omega⟩
      obtain ⟨sg, hssg⟩ : ∃ s : Bool, s = decide (g2 = 1) := ⟨_, rfl⟩
      walk_at "rd"
      rw [hwwd, ← hssg]
      refine w_I (cpow (n := 1) (by omega) (by decide)) ?_
      rw [Int.toNat_natCast, Int.one_mul]
      walk_at "rd"
      intro kx dkx nkx ndkx nekx
      refine ⟨kx, wd, sg, rfl, ⟨dkx, upd_same⟩, by omega, by omega, fun H5 hkkx kp5 => ⟨rfl, ?_⟩⟩
      have e5 := mk_same nkx ndkx kp5
      have s5 := s4.same e5
      have hs5 := hs4.same e5
      walk_at "rd"
      refine w_I (CC := CMul) (Or.inr ⟨by split <;> decide, by split <;> decide⟩) ?_
      walk_at "rd"
      rw [lo_val (by omega) sg]
      have hpwd := p2 wd
      have hhwd : hiK wd sg = loK wd sg + 2 ^ wd - 1 := rfl
      walk_at "rd"
      refine ⟨p, _, _, rfl, hs5, by omega, by omega, b89 (bb_pow (by omega)), fun g3 H6 g30 g31 kp6 hs6 => ?_⟩
      have e6 : Kq ([] : List (Addr × Str)) p H5 H6 := kp6.toQ hs5.lst
      have s6 := s5.trans e6
      have hkkx := hkkx.kq (hs5.ne_of hkkx.ex.choose_spec) e6
      walk_at "rd"
      refine ⟨kx, _, wd, sg, rfl, hkkx, by omega, ⟨by omega, by omega⟩, fun H7 e7 => ?_⟩
      have s7 := s6.same e7
      have hs7 := hs6.same e7
      have hkkx := hkkx.same e7
      walk_at "rd"
      refine iteF ?_
      walk_at "rd"
      refine ⟨p, kx, _, wd, sg, rfl, hs7, by omega, hkkx, by omega, fun H8 e8 hs8 => ?_⟩
      have s8 := s7.trans e8
      have hkkx := hkkx.kq (hs7.ne_of hkkx.ex.choose_spec) e8
      walk_at "rd"
      refine iteF ?_
      walk_at "rd"
      refine ⟨p, _, _, rfl, hs8, by omega, by decide, b89 (bb_sm (by decide) (by decide)), fun g4 H9 g40 g41 kp9 hs9 => ?_⟩
      have s9 : Kq ([] : List (Addr × Str)) p H2 H9 := s8.trans (kp9.toQ hs8.lst)
      walk_at "rd"
      refine ⟨p, _, _, rfl, hs9, by omega, by decide, b89 (bb_sm (by decide) (by decide)), fun g5 H10 g50 g51 kp10 hs10 => ?_⟩
      have s10 : Kq ([] : List (Addr × Str)) p H2 H10 := s9.trans (kp10.toQ hs9.lst)
      obtain ⟨we, hwwe⟩ : ∃ w : Nat, 1 + g4 = (w : Int) := ⟨(1 + g4).toNat, by omega⟩
      obtain ⟨sh, hssh⟩ : ∃ s : Bool, s = decide (g5 = 1) := ⟨_, rfl⟩
      walk_at "rd"
      rw [hwwe, ← hssh]
      refine w_I (cpow (n := 1) (by omega) (by decide)) ?_
      rw [Int.toNat_natCast, Int.one_mul]
      walk_at "rd"
      intro ky dky nky ndky neky
      refine ⟨ky, we, sh, rfl, ⟨dky, upd_same⟩, by omega, by omega, fun H11 hkky kp11 => ⟨rfl, ?_⟩⟩
      have e11 := mk_same nky ndky kp11
      have s11 := s10.same e11
      have hs11 := hs10.same e11
      walk_at "rd"
      refine w_I (CC := CMul) (Or.inr ⟨by split <;> decide, by split <;> decide⟩) ?_
      walk_at "rd"
      rw [lo_val (by omega) sh]
      have hpwe := p2 we
      have hhwe : hiK we sh = loK we sh + 2 ^ we - 1 := rfl
      walk_at "rd"
      refine ⟨p, ky, _, we, sh, rfl, hs11, by omega, hkky, fun H12 e12 hs12 => ?_⟩
      have s12 := s11.trans e12
      have hkky := hkky.kq (hs11.ne_of hkky.ex.choose_spec) e12
      walk_at "rd"
      refine iteF ?_
      walk_at "rd"
      refine ⟨p, ky, _, we, sh, rfl, hs12, by omega, hkky, fun H13 e13 hs13 => ?_⟩
      have s13 := s12.trans e13
      have hkky := hkky.kq (hs12.ne_of hkky.ex.choose_spec) e13
      walk_at "rd"
      refine iteF ?_
      walk_at "rd"
      refine ⟨p, ky, _, we, sh, rfl, hs13, by omega, hkky, fun H14 e14 hs14 => ?_⟩
      have s14 := s13.trans e14
      have hkky := hkky.kq (hs13.ne_of hkky.ex.choose_spec) e14
      walk_at "rd"
      refine iteF ?_
      walk_at "rd"
      exact ⟨⟨_, _, _, _, _, _, _, _, rfl⟩, Kq.out s1 hp (Sm.of s2) s14⟩
    · rintro σ H' ⟨⟨v1, v2, v3, v4, v5, v6, v7, v8, rfl⟩, s1⟩
      walk_at "rd"
      intro kb db nkb ndb neb
      refine ⟨kb, 8, false, rfl, ⟨db, upd_same⟩, by decide, by decide, fun Hb hkb kpb => ⟨rfl, ?_⟩⟩
      walk_at "rd"
      refine ⟨by show 2 ≤ sizeLine; decide, fun x1 hx1 => ?_⟩
      have e1 := sm_new (o := .tup [.int 100, .int 200]) (Same.refl Hb) hx1
      have hx1' : (L2.upd Hb x1 (.tup [.int 100, .int 200])) x1 = some (.tup [.int 100, .int 200]) := upd_same
      generalize L2.upd Hb x1 _ = Hc at e1 hx1' ⊢
      walk_at "rd"
      refine ⟨by show 2 ≤ sizeLine; decide, fun x2 hx2 => ?_⟩
      have e2 := sm_new (o := .tup [.int 100, .int 200]) e1 hx2
      have hx1' := gn (u := .tup [.int 100, .int 200]) hx1' hx2
      have hx2' : (L2.upd Hc x2 (.tup [.int 100, .int 200])) x2 = some (.tup [.int 100, .int 200]) := upd_same
      generalize L2.upd Hc x2 _ = Hd at e2 hx1' hx2' ⊢
      walk_at "rd"
      refine ⟨kb, .add, x1, x2, 8, false, 100, 200, 100, 200, rfl, hkb.same e2, .inl rfl, hx1', hx2', ⟨by decide +kernel, by decide, by decide +kernel⟩, ⟨by decide +kernel, by decide, by decide +kernel⟩, fun He e3 => ?_⟩
      walk_at "rd"
      refine w_ndecT (by rw [← prO_is, ← prB_add, sm_corn (by decide) (by decide), sm_corn (by decide) (by decide)]; decide +kernel) ?_
      have e3 := e2.trans e3
      walk_at "rd"
      refine ⟨by show 2 ≤ sizeLine; decide, fun x3 hx3 => ?_⟩
      have e4 := sm_new (o := .tup [.int 100, .int 200]) e3 hx3
      have hx3' : (L2.upd He x3 (.tup [.int 100, .int 200])) x3 = some (.tup [.int 100, .int 200]) := upd_same
      generalize L2.upd He x3 _ = Hf at e4 hx3' ⊢
      walk_at "rd"
      refine ⟨by show 2 ≤ sizeLine; decide, fun x4 hx4 => ?_⟩
      have e5 := sm_new (o := .tup [.int 100, .int 200]) e4 hx4
      have hx3' := gn (u := .tup [.int 100, .int 200]) hx3' hx4
      have hx4' : (L2.upd Hf x4 (.tup [.int 100, .int 200])) x4 = some (.tup [.int 100, .int 200]) := upd_same
      generalize L2.upd Hf x4 _ = Hg at e5 hx3' hx4' ⊢
      walk_at "rd"
      refine ⟨kb, .add, x3, x4, 0, 9, 8, false, 100, 200, 100, 200, rfl, hkb.same e5, .inl rfl, hx3', hx4', ⟨by decide +kernel, by decide, by decide +kernel⟩, ⟨by decide +kernel, by decide, by decide +kernel⟩, ⟨by decide +kernel, by decide +kernel⟩, ⟨by decide +kernel, by decide +kernel⟩, fun Hh e6 => ?_⟩
      walk_at "rd"
      rw [show prW 8 false .add 0 9 100 200 100 200 = 615 from by
        rw [← prW_is (by decide) (.inl rfl) (by decide +kernel) (by decide +kernel) (by decide +kernel) (by decide +kernel) (by decide +kernel) (by decide +kernel), ← prB_add, ← prB_add, ← prB_add, sm_corn (by decide) (by decide), sm_corn (by decide) (by decide), sm_corn (by decide) (by decide), sm_corn (by decide) (by decide), sm_corn (by decide) (by decide), sm_corn (by decide) (by decide)]
        decide +kernel]
      exact k _
theorem mk_txt {K : PySem.W.Frag} {h : Heap} {mg : Str → Option Value} {C_Kind f_is_integer f_check_integer f_is_sixty_digits f_check_sixty_digits f_toward_zero f_exact_result f__bitwise f_is_word f_check_word f_Kind___init__ f_check_kind f_check_value f_least f_greatest f_is_value f_wrapped f__check_operation f_operate f_overflows f_quotient_total f_total_between f_check_line f_check_range f__check f__check_within f__total f_total_within f__count f__factors_between f__safe_values f__check_constant f_overflow_total f_safe_values f__check_span f__check_pairs f__corner f__sums_up_to f__pairs_between f_pair_overflows f_pairs_within f__law_deck f__law_deal f__law_choice f__law_great f__law_values_right f__law_span f__law_pairs_right f__law_great_values_right f__law_points_right f__law_great_pairs_right f_law a_OPERATIONS a_OVERFLOWING a_DIVISIONS a_SHIFTS a_VALUE_OPERATIONS a_PAIR_OPERATIONS : Addr} (X : K.In h) (G : h.Ns mainGlobals mg)
    {od_is_integer an_is_integer od_check_integer an_check_integer od_is_sixty_digits an_is_sixty_digits od_check_sixty_digits an_check_sixty_digits od_toward_zero an_toward_zero od_exact_result an_exact_result od__bitwise an__bitwise od_is_word an_is_word od_check_word an_check_word od_Kind___init__ an_Kind___init__ od_check_kind an_check_kind od_check_value an_check_value od_least an_least od_greatest an_greatest od_is_value an_is_value od_wrapped an_wrapped od__check_operation an__check_operation od_operate an_operate od_overflows an_overflows od_quotient_total an_quotient_total od_total_between an_total_between od_check_line an_check_line od_check_range an_check_range od__check an__check od__check_within an__check_within od__total an__total od_total_within an_total_within od__count an__count od__factors_between an__factors_between od__safe_values an__safe_values od__check_constant an__check_constant od_overflow_total an_overflow_total od_safe_values an_safe_values od__check_span an__check_span od__check_pairs an__check_pairs od__corner an__corner od__sums_up_to an__sums_up_to od__pairs_between an__pairs_between od_pair_overflows an_pair_overflows od_pairs_within an_pairs_within od__law_deck an__law_deck od__law_deal an__law_deal od__law_choice an__law_choice od__law_great an__law_great od__law_values_right an__law_values_right od__law_span an__law_span od__law_pairs_right an__law_pairs_right od__law_great_values_right an__law_great_values_right od__law_points_right an__law_points_right od__law_great_pairs_right an__law_great_pairs_right od_law an_law dd_OPERATIONS dd_OVERFLOWING dd_DIVISIONS dd_SHIFTS dd_VALUE_OPERATIONS dd_PAIR_OPERATIONS : Option Addr} {sl_is_integer sl_check_integer sl_is_sixty_digits sl_check_sixty_digits sl_toward_zero sl_exact_result sl__bitwise sl_is_word sl_check_word sl_Kind___init__ sl_check_kind sl_check_value sl_least sl_greatest sl_is_value sl_wrapped sl__check_operation sl_operate sl_overflows sl_quotient_total sl_total_between sl_check_line sl_check_range sl__check sl__check_within sl__total sl_total_within sl__count sl__factors_between sl__safe_values sl__check_constant sl_overflow_total sl_safe_values sl__check_span sl__check_pairs sl__corner sl__sums_up_to sl__pairs_between sl_pair_overflows sl_pairs_within sl__law_deck sl__law_deal sl__law_choice sl__law_great sl__law_values_right sl__law_span sl__law_pairs_right sl__law_great_values_right sl__law_points_right sl__law_great_pairs_right sl_law sl_OPERATIONS sl_OVERFLOWING sl_DIVISIONS sl_SHIFTS sl_VALUE_OPERATIONS sl_PAIR_OPERATIONS : Array (Option Value)} {oc_is_integer kV_is_integer dc_is_integer pm_is_integer cd_is_integer ct_is_integer oc_check_integer kV_check_integer dc_check_integer pm_check_integer cd_check_integer ct_check_integer oc_is_sixty_digits kV_is_sixty_digits dc_is_sixty_digits pm_is_sixty_digits cd_is_sixty_digits ct_is_sixty_digits oc_check_sixty_digits kV_check_sixty_digits dc_check_sixty_digits pm_check_sixty_digits cd_check_sixty_digits ct_check_sixty_digits oc_toward_zero kV_toward_zero dc_toward_zero pm_toward_zero cd_toward_zero ct_toward_zero oc_exact_result kV_exact_result dc_exact_result pm_exact_result cd_exact_result ct_exact_result oc__bitwise kV__bitwise dc__bitwise pm__bitwise cd__bitwise ct__bitwise oc_is_word kV_is_word dc_is_word pm_is_word cd_is_word ct_is_word oc_check_word kV_check_word dc_check_word pm_check_word cd_check_word ct_check_word oc_Kind___init__ kV_Kind___init__ dc_Kind___init__ pm_Kind___init__ cd_Kind___init__ ct_Kind___init__ oc_check_kind kV_check_kind dc_check_kind pm_check_kind cd_check_kind ct_check_kind oc_check_value kV_check_value dc_check_value pm_check_value cd_check_value ct_check_value oc_least kV_least dc_least pm_least cd_least ct_least oc_greatest kV_greatest dc_greatest pm_greatest cd_greatest ct_greatest oc_is_value kV_is_value dc_is_value pm_is_value cd_is_value ct_is_value oc_wrapped kV_wrapped dc_wrapped pm_wrapped cd_wrapped ct_wrapped oc__check_operation kV__check_operation dc__check_operation pm__check_operation cd__check_operation ct__check_operation oc_operate kV_operate dc_operate pm_operate cd_operate ct_operate oc_overflows kV_overflows dc_overflows pm_overflows cd_overflows ct_overflows oc_quotient_total kV_quotient_total dc_quotient_total pm_quotient_total cd_quotient_total ct_quotient_total oc_total_between kV_total_between dc_total_between pm_total_between cd_total_between ct_total_between oc_check_line kV_check_line dc_check_line pm_check_line cd_check_line ct_check_line oc_check_range kV_check_range dc_check_range pm_check_range cd_check_range ct_check_range oc__check kV__check dc__check pm__check cd__check ct__check oc__check_within kV__check_within dc__check_within pm__check_within cd__check_within ct__check_within oc__total kV__total dc__total pm__total cd__total ct__total oc_total_within kV_total_within dc_total_within pm_total_within cd_total_within ct_total_within oc__count kV__count dc__count pm__count cd__count ct__count oc__factors_between kV__factors_between dc__factors_between pm__factors_between cd__factors_between ct__factors_between oc__safe_values kV__safe_values dc__safe_values pm__safe_values cd__safe_values ct__safe_values oc__check_constant kV__check_constant dc__check_constant pm__check_constant cd__check_constant ct__check_constant oc_overflow_total kV_overflow_total dc_overflow_total pm_overflow_total cd_overflow_total ct_overflow_total oc_safe_values kV_safe_values dc_safe_values pm_safe_values cd_safe_values ct_safe_values oc__check_span kV__check_span dc__check_span pm__check_span cd__check_span ct__check_span oc__check_pairs kV__check_pairs dc__check_pairs pm__check_pairs cd__check_pairs ct__check_pairs oc__corner kV__corner dc__corner pm__corner cd__corner ct__corner oc__sums_up_to kV__sums_up_to dc__sums_up_to pm__sums_up_to cd__sums_up_to ct__sums_up_to oc__pairs_between kV__pairs_between dc__pairs_between pm__pairs_between cd__pairs_between ct__pairs_between oc_pair_overflows kV_pair_overflows dc_pair_overflows pm_pair_overflows cd_pair_overflows ct_pair_overflows oc_pairs_within kV_pairs_within dc_pairs_within pm_pairs_within cd_pairs_within ct_pairs_within oc__law_deck kV__law_deck dc__law_deck pm__law_deck cd__law_deck ct__law_deck oc__law_deal kV__law_deal dc__law_deal pm__law_deal cd__law_deal ct__law_deal oc__law_choice kV__law_choice dc__law_choice pm__law_choice cd__law_choice ct__law_choice oc__law_great kV__law_great dc__law_great pm__law_great cd__law_great ct__law_great oc__law_values_right kV__law_values_right dc__law_values_right pm__law_values_right cd__law_values_right ct__law_values_right oc__law_span kV__law_span dc__law_span pm__law_span cd__law_span ct__law_span oc__law_pairs_right kV__law_pairs_right dc__law_pairs_right pm__law_pairs_right cd__law_pairs_right ct__law_pairs_right oc__law_great_values_right kV__law_great_values_right dc__law_great_values_right pm__law_great_values_right cd__law_great_values_right ct__law_great_values_right oc__law_points_right kV__law_points_right dc__law_points_right pm__law_points_right cd__law_points_right ct__law_points_right oc__law_great_pairs_right kV__law_great_pairs_right dc__law_great_pairs_right pm__law_great_pairs_right cd__law_great_pairs_right ct__law_great_pairs_right oc_law kV_law dc_law pm_law cd_law ct_law : Value} {t_BEYOND_SIXTY_DIGITS t_MOST_BITS : Tok} {its_OPERATIONS its_OVERFLOWING its_DIVISIONS its_SHIFTS its_VALUE_OPERATIONS its_PAIR_OPERATIONS : Array Value} {n_OPERATIONS n_OVERFLOWING n_DIVISIONS n_SHIFTS n_VALUE_OPERATIONS n_PAIR_OPERATIONS : Nat}
    (aC_Kind : PySem.W.nsIn K mainGlobals "Kind" = some (some (.ref C_Kind)))
    (a_Kind___init__ : PySem.W.findIn K (.ref C_Kind) "__init__" = some (some (.ref f_Kind___init__)))
    (i_Kind___init__ : PySem.W.isFn K (.ref f_Kind___init__) = true)
    (pg_Kind : PySem.W.plainGet K C_Kind Str.empty = true)
    (hd_Kind : PySem.W.hasDictIn K C_Kind = true)
    (po_Kind : PySem.W.plainOver K C_Kind = true)
    (sa_Kind : PySem.W.findIn K (.ref C_Kind) "__setattr__" = some (some (.builtin "object.__setattr__")))
    (mkk_Kind : PySem.W.makesIn K C_Kind = true)
    (kc_Kind : PySem.W.keepIn K (.ref C_Kind) = true)
    (na_Kind_bits : PySem.W.findIn K (.ref C_Kind) "bits" = some none)
    (na_Kind_is_signed : PySem.W.findIn K (.ref C_Kind) "is_signed" = some none)
    (ia_Kind : PySem.W.findIn K (.ref C_Kind) "__class__" = some (some (.builtin "object.__class__")))
    (ib_Kind : PySem.W.specialIn K (.builtin "object.__class__") "__get__" = some (some (.builtin "getset_descriptor.__get__")))
    (ic_Kind : PySem.W.takesIn K (.builtin "object.__class__") = some true)
    (id_Kind : PySem.W.mroIn K C_Kind (.type "object") = some true)
    (a_is_integer : PySem.W.nsIn K mainGlobals "is_integer" = some (some (.ref f_is_integer)))
    (l_is_integer : K.lookup f_is_integer = some ⟨oc_is_integer, od_is_integer, .func (PySem.W.fnOf "is_integer" "is_integer" (defArgs s_is_integer) (defBody s_is_integer) (defScope s_is_integer) .none kV_is_integer dc_is_integer pm_is_integer an_is_integer cd_is_integer ct_is_integer), sl_is_integer⟩)
    (c_is_integer : PySem.W.codeIn K cd_is_integer "is_integer" = true)
    (k_is_integer : PySem.W.keepIn K (.ref f_is_integer) = true)
    (a_check_integer : PySem.W.nsIn K mainGlobals "check_integer" = some (some (.ref f_check_integer)))
    (l_check_integer : K.lookup f_check_integer = some ⟨oc_check_integer, od_check_integer, .func (PySem.W.fnOf "check_integer" "check_integer" (defArgs s_check_integer) (defBody s_check_integer) (defScope s_check_integer) .none kV_check_integer dc_check_integer pm_check_integer an_check_integer cd_check_integer ct_check_integer), sl_check_integer⟩)
    (c_check_integer : PySem.W.codeIn K cd_check_integer "check_integer" = true)
    (k_check_integer : PySem.W.keepIn K (.ref f_check_integer) = true)
    (a_is_sixty_digits : PySem.W.nsIn K mainGlobals "is_sixty_digits" = some (some (.ref f_is_sixty_digits)))
    (l_is_sixty_digits : K.lookup f_is_sixty_digits = some ⟨oc_is_sixty_digits, od_is_sixty_digits, .func (PySem.W.fnOf "is_sixty_digits" "is_sixty_digits" (defArgs s_is_sixty_digits) (defBody s_is_sixty_digits) (defScope s_is_sixty_digits) .none kV_is_sixty_digits dc_is_sixty_digits pm_is_sixty_digits an_is_sixty_digits cd_is_sixty_digits ct_is_sixty_digits), sl_is_sixty_digits⟩)
    (c_is_sixty_digits : PySem.W.codeIn K cd_is_sixty_digits "is_sixty_digits" = true)
    (k_is_sixty_digits : PySem.W.keepIn K (.ref f_is_sixty_digits) = true)
    (a_check_sixty_digits : PySem.W.nsIn K mainGlobals "check_sixty_digits" = some (some (.ref f_check_sixty_digits)))
    (l_check_sixty_digits : K.lookup f_check_sixty_digits = some ⟨oc_check_sixty_digits, od_check_sixty_digits, .func (PySem.W.fnOf "check_sixty_digits" "check_sixty_digits" (defArgs s_check_sixty_digits) (defBody s_check_sixty_digits) (defScope s_check_sixty_digits) .none kV_check_sixty_digits dc_check_sixty_digits pm_check_sixty_digits an_check_sixty_digits cd_check_sixty_digits ct_check_sixty_digits), sl_check_sixty_digits⟩)
    (c_check_sixty_digits : PySem.W.codeIn K cd_check_sixty_digits "check_sixty_digits" = true)
    (k_check_sixty_digits : PySem.W.keepIn K (.ref f_check_sixty_digits) = true)
    (a_toward_zero : PySem.W.nsIn K mainGlobals "toward_zero" = some (some (.ref f_toward_zero)))
    (l_toward_zero : K.lookup f_toward_zero = some ⟨oc_toward_zero, od_toward_zero, .func (PySem.W.fnOf "toward_zero" "toward_zero" (defArgs s_toward_zero) (defBody s_toward_zero) (defScope s_toward_zero) .none kV_toward_zero dc_toward_zero pm_toward_zero an_toward_zero cd_toward_zero ct_toward_zero), sl_toward_zero⟩)
    (c_toward_zero : PySem.W.codeIn K cd_toward_zero "toward_zero" = true)
    (k_toward_zero : PySem.W.keepIn K (.ref f_toward_zero) = true)
    (a_exact_result : PySem.W.nsIn K mainGlobals "exact_result" = some (some (.ref f_exact_result)))
    (l_exact_result : K.lookup f_exact_result = some ⟨oc_exact_result, od_exact_result, .func (PySem.W.fnOf "exact_result" "exact_result" (defArgs s_exact_result) (defBody s_exact_result) (defScope s_exact_result) .none kV_exact_result dc_exact_result pm_exact_result an_exact_result cd_exact_result ct_exact_result), sl_exact_result⟩)
    (c_exact_result : PySem.W.codeIn K cd_exact_result "exact_result" = true)
    (k_exact_result : PySem.W.keepIn K (.ref f_exact_result) = true)
    (a__bitwise : PySem.W.nsIn K mainGlobals "_bitwise" = some (some (.ref f__bitwise)))
    (l__bitwise : K.lookup f__bitwise = some ⟨oc__bitwise, od__bitwise, .func (PySem.W.fnOf "_bitwise" "_bitwise" (defArgs s__bitwise) (defBody s__bitwise) (defScope s__bitwise) .none kV__bitwise dc__bitwise pm__bitwise an__bitwise cd__bitwise ct__bitwise), sl__bitwise⟩)
    (c__bitwise : PySem.W.codeIn K cd__bitwise "_bitwise" = true)
    (k__bitwise : PySem.W.keepIn K (.ref f__bitwise) = true)
    (a_is_word : PySem.W.nsIn K mainGlobals "is_word" = some (some (.ref f_is_word)))
    (l_is_word : K.lookup f_is_word = some ⟨oc_is_word, od_is_word, .func (PySem.W.fnOf "is_word" "is_word" (defArgs s_is_word) (defBody s_is_word) (defScope s_is_word) .none kV_is_word dc_is_word pm_is_word an_is_word cd_is_word ct_is_word), sl_is_word⟩)
    (c_is_word : PySem.W.codeIn K cd_is_word "is_word" = true)
    (k_is_word : PySem.W.keepIn K (.ref f_is_word) = true)
    (a_check_word : PySem.W.nsIn K mainGlobals "check_word" = some (some (.ref f_check_word)))
    (l_check_word : K.lookup f_check_word = some ⟨oc_check_word, od_check_word, .func (PySem.W.fnOf "check_word" "check_word" (defArgs s_check_word) (defBody s_check_word) (defScope s_check_word) .none kV_check_word dc_check_word pm_check_word an_check_word cd_check_word ct_check_word), sl_check_word⟩)
    (c_check_word : PySem.W.codeIn K cd_check_word "check_word" = true)
    (k_check_word : PySem.W.keepIn K (.ref f_check_word) = true)
    (l_Kind___init__ : K.lookup f_Kind___init__ = some ⟨oc_Kind___init__, od_Kind___init__, .func (PySem.W.fnOf "__init__" "Kind.__init__" (defArgs s_Kind___init__) (defBody s_Kind___init__) (defScope s_Kind___init__) .none kV_Kind___init__ dc_Kind___init__ pm_Kind___init__ an_Kind___init__ cd_Kind___init__ ct_Kind___init__), sl_Kind___init__⟩)
    (c_Kind___init__ : PySem.W.codeIn K cd_Kind___init__ "Kind.__init__" = true)
    (k_Kind___init__ : PySem.W.keepIn K (.ref f_Kind___init__) = true)
    (a_check_kind : PySem.W.nsIn K mainGlobals "check_kind" = some (some (.ref f_check_kind)))
    (l_check_kind : K.lookup f_check_kind = some ⟨oc_check_kind, od_check_kind, .func (PySem.W.fnOf "check_kind" "check_kind" (defArgs s_check_kind) (defBody s_check_kind) (defScope s_check_kind) .none kV_check_kind dc_check_kind pm_check_kind an_check_kind cd_check_kind ct_check_kind), sl_check_kind⟩)
    (c_check_kind : PySem.W.codeIn K cd_check_kind "check_kind" = true)
    (k_check_kind : PySem.W.keepIn K (.ref f_check_kind) = true)
    (a_check_value : PySem.W.nsIn K mainGlobals "check_value" = some (some (.ref f_check_value)))
    (l_check_value : K.lookup f_check_value = some ⟨oc_check_value, od_check_value, .func (PySem.W.fnOf "check_value" "check_value" (defArgs s_check_value) (defBody s_check_value) (defScope s_check_value) .none kV_check_value dc_check_value pm_check_value an_check_value cd_check_value ct_check_value), sl_check_value⟩)
    (c_check_value : PySem.W.codeIn K cd_check_value "check_value" = true)
    (k_check_value : PySem.W.keepIn K (.ref f_check_value) = true)
    (a_least : PySem.W.nsIn K mainGlobals "least" = some (some (.ref f_least)))
    (l_least : K.lookup f_least = some ⟨oc_least, od_least, .func (PySem.W.fnOf "least" "least" (defArgs s_least) (defBody s_least) (defScope s_least) .none kV_least dc_least pm_least an_least cd_least ct_least), sl_least⟩)
    (c_least : PySem.W.codeIn K cd_least "least" = true)
    (k_least : PySem.W.keepIn K (.ref f_least) = true)
    (a_greatest : PySem.W.nsIn K mainGlobals "greatest" = some (some (.ref f_greatest)))
    (l_greatest : K.lookup f_greatest = some ⟨oc_greatest, od_greatest, .func (PySem.W.fnOf "greatest" "greatest" (defArgs s_greatest) (defBody s_greatest) (defScope s_greatest) .none kV_greatest dc_greatest pm_greatest an_greatest cd_greatest ct_greatest), sl_greatest⟩)
    (c_greatest : PySem.W.codeIn K cd_greatest "greatest" = true)
    (k_greatest : PySem.W.keepIn K (.ref f_greatest) = true)
    (a_is_value : PySem.W.nsIn K mainGlobals "is_value" = some (some (.ref f_is_value)))
    (l_is_value : K.lookup f_is_value = some ⟨oc_is_value, od_is_value, .func (PySem.W.fnOf "is_value" "is_value" (defArgs s_is_value) (defBody s_is_value) (defScope s_is_value) .none kV_is_value dc_is_value pm_is_value an_is_value cd_is_value ct_is_value), sl_is_value⟩)
    (c_is_value : PySem.W.codeIn K cd_is_value "is_value" = true)
    (k_is_value : PySem.W.keepIn K (.ref f_is_value) = true)
    (a_wrapped : PySem.W.nsIn K mainGlobals "wrapped" = some (some (.ref f_wrapped)))
    (l_wrapped : K.lookup f_wrapped = some ⟨oc_wrapped, od_wrapped, .func (PySem.W.fnOf "wrapped" "wrapped" (defArgs s_wrapped) (defBody s_wrapped) (defScope s_wrapped) .none kV_wrapped dc_wrapped pm_wrapped an_wrapped cd_wrapped ct_wrapped), sl_wrapped⟩)
    (c_wrapped : PySem.W.codeIn K cd_wrapped "wrapped" = true)
    (k_wrapped : PySem.W.keepIn K (.ref f_wrapped) = true)
    (a__check_operation : PySem.W.nsIn K mainGlobals "_check_operation" = some (some (.ref f__check_operation)))
    (l__check_operation : K.lookup f__check_operation = some ⟨oc__check_operation, od__check_operation, .func (PySem.W.fnOf "_check_operation" "_check_operation" (defArgs s__check_operation) (defBody s__check_operation) (defScope s__check_operation) .none kV__check_operation dc__check_operation pm__check_operation an__check_operation cd__check_operation ct__check_operation), sl__check_operation⟩)
    (c__check_operation : PySem.W.codeIn K cd__check_operation "_check_operation" = true)
    (k__check_operation : PySem.W.keepIn K (.ref f__check_operation) = true)
    (a_operate : PySem.W.nsIn K mainGlobals "operate" = some (some (.ref f_operate)))
    (l_operate : K.lookup f_operate = some ⟨oc_operate, od_operate, .func (PySem.W.fnOf "operate" "operate" (defArgs s_operate) (defBody s_operate) (defScope s_operate) .none kV_operate dc_operate pm_operate an_operate cd_operate ct_operate), sl_operate⟩)
    (c_operate : PySem.W.codeIn K cd_operate "operate" = true)
    (k_operate : PySem.W.keepIn K (.ref f_operate) = true)
    (a_overflows : PySem.W.nsIn K mainGlobals "overflows" = some (some (.ref f_overflows)))
    (l_overflows : K.lookup f_overflows = some ⟨oc_overflows, od_overflows, .func (PySem.W.fnOf "overflows" "overflows" (defArgs s_overflows) (defBody s_overflows) (defScope s_overflows) .none kV_overflows dc_overflows pm_overflows an_overflows cd_overflows ct_overflows), sl_overflows⟩)
    (c_overflows : PySem.W.codeIn K cd_overflows "overflows" = true)
    (k_overflows : PySem.W.keepIn K (.ref f_overflows) = true)
    (a_quotient_total : PySem.W.nsIn K mainGlobals "quotient_total" = some (some (.ref f_quotient_total)))
    (l_quotient_total : K.lookup f_quotient_total = some ⟨oc_quotient_total, od_quotient_total, .func (PySem.W.fnOf "quotient_total" "quotient_total" (defArgs s_quotient_total) (defBody s_quotient_total) (defScope s_quotient_total) .none kV_quotient_total dc_quotient_total pm_quotient_total an_quotient_total cd_quotient_total ct_quotient_total), sl_quotient_total⟩)
    (c_quotient_total : PySem.W.codeIn K cd_quotient_total "quotient_total" = true)
    (k_quotient_total : PySem.W.keepIn K (.ref f_quotient_total) = true)
    (a_total_between : PySem.W.nsIn K mainGlobals "total_between" = some (some (.ref f_total_between)))
    (l_total_between : K.lookup f_total_between = some ⟨oc_total_between, od_total_between, .func (PySem.W.fnOf "total_between" "total_between" (defArgs s_total_between) (defBody s_total_between) (defScope s_total_between) .none kV_total_between dc_total_between pm_total_between an_total_between cd_total_between ct_total_between), sl_total_between⟩)
    (c_total_between : PySem.W.codeIn K cd_total_between "total_between" = true)
    (k_total_between : PySem.W.keepIn K (.ref f_total_between) = true)
    (a_check_line : PySem.W.nsIn K mainGlobals "check_line" = some (some (.ref f_check_line)))
    (l_check_line : K.lookup f_check_line = some ⟨oc_check_line, od_check_line, .func (PySem.W.fnOf "check_line" "check_line" (defArgs s_check_line) (defBody s_check_line) (defScope s_check_line) .none kV_check_line dc_check_line pm_check_line an_check_line cd_check_line ct_check_line), sl_check_line⟩)
    (c_check_line : PySem.W.codeIn K cd_check_line "check_line" = true)
    (k_check_line : PySem.W.keepIn K (.ref f_check_line) = true)
    (a_check_range : PySem.W.nsIn K mainGlobals "check_range" = some (some (.ref f_check_range)))
    (l_check_range : K.lookup f_check_range = some ⟨oc_check_range, od_check_range, .func (PySem.W.fnOf "check_range" "check_range" (defArgs s_check_range) (defBody s_check_range) (defScope s_check_range) .none kV_check_range dc_check_range pm_check_range an_check_range cd_check_range ct_check_range), sl_check_range⟩)
    (c_check_range : PySem.W.codeIn K cd_check_range "check_range" = true)
    (k_check_range : PySem.W.keepIn K (.ref f_check_range) = true)
    (a__check : PySem.W.nsIn K mainGlobals "_check" = some (some (.ref f__check)))
    (l__check : K.lookup f__check = some ⟨oc__check, od__check, .func (PySem.W.fnOf "_check" "_check" (defArgs s__check) (defBody s__check) (defScope s__check) .none kV__check dc__check pm__check an__check cd__check ct__check), sl__check⟩)
    (c__check : PySem.W.codeIn K cd__check "_check" = true)
    (k__check : PySem.W.keepIn K (.ref f__check) = true)
    (a__check_within : PySem.W.nsIn K mainGlobals "_check_within" = some (some (.ref f__check_within)))
    (l__check_within : K.lookup f__check_within = some ⟨oc__check_within, od__check_within, .func (PySem.W.fnOf "_check_within" "_check_within" (defArgs s__check_within) (defBody s__check_within) (defScope s__check_within) .none kV__check_within dc__check_within pm__check_within an__check_within cd__check_within ct__check_within), sl__check_within⟩)
    (c__check_within : PySem.W.codeIn K cd__check_within "_check_within" = true)
    (k__check_within : PySem.W.keepIn K (.ref f__check_within) = true)
    (a__total : PySem.W.nsIn K mainGlobals "_total" = some (some (.ref f__total)))
    (l__total : K.lookup f__total = some ⟨oc__total, od__total, .func (PySem.W.fnOf "_total" "_total" (defArgs s__total) (defBody s__total) (defScope s__total) .none kV__total dc__total pm__total an__total cd__total ct__total), sl__total⟩)
    (c__total : PySem.W.codeIn K cd__total "_total" = true)
    (k__total : PySem.W.keepIn K (.ref f__total) = true)
    (a_total_within : PySem.W.nsIn K mainGlobals "total_within" = some (some (.ref f_total_within)))
    (l_total_within : K.lookup f_total_within = some ⟨oc_total_within, od_total_within, .func (PySem.W.fnOf "total_within" "total_within" (defArgs s_total_within) (defBody s_total_within) (defScope s_total_within) .none kV_total_within dc_total_within pm_total_within an_total_within cd_total_within ct_total_within), sl_total_within⟩)
    (c_total_within : PySem.W.codeIn K cd_total_within "total_within" = true)
    (k_total_within : PySem.W.keepIn K (.ref f_total_within) = true)
    (a__count : PySem.W.nsIn K mainGlobals "_count" = some (some (.ref f__count)))
    (l__count : K.lookup f__count = some ⟨oc__count, od__count, .func (PySem.W.fnOf "_count" "_count" (defArgs s__count) (defBody s__count) (defScope s__count) .none kV__count dc__count pm__count an__count cd__count ct__count), sl__count⟩)
    (c__count : PySem.W.codeIn K cd__count "_count" = true)
    (k__count : PySem.W.keepIn K (.ref f__count) = true)
    (a__factors_between : PySem.W.nsIn K mainGlobals "_factors_between" = some (some (.ref f__factors_between)))
    (l__factors_between : K.lookup f__factors_between = some ⟨oc__factors_between, od__factors_between, .func (PySem.W.fnOf "_factors_between" "_factors_between" (defArgs s__factors_between) (defBody s__factors_between) (defScope s__factors_between) .none kV__factors_between dc__factors_between pm__factors_between an__factors_between cd__factors_between ct__factors_between), sl__factors_between⟩)
    (c__factors_between : PySem.W.codeIn K cd__factors_between "_factors_between" = true)
    (k__factors_between : PySem.W.keepIn K (.ref f__factors_between) = true)
    (a__safe_values : PySem.W.nsIn K mainGlobals "_safe_values" = some (some (.ref f__safe_values)))
    (l__safe_values : K.lookup f__safe_values = some ⟨oc__safe_values, od__safe_values, .func (PySem.W.fnOf "_safe_values" "_safe_values" (defArgs s__safe_values) (defBody s__safe_values) (defScope s__safe_values) .none kV__safe_values dc__safe_values pm__safe_values an__safe_values cd__safe_values ct__safe_values), sl__safe_values⟩)
    (c__safe_values : PySem.W.codeIn K cd__safe_values "_safe_values" = true)
    (k__safe_values : PySem.W.keepIn K (.ref f__safe_values) = true)
    (a__check_constant : PySem.W.nsIn K mainGlobals "_check_constant" = some (some (.ref f__check_constant)))
    (l__check_constant : K.lookup f__check_constant = some ⟨oc__check_constant, od__check_constant, .func (PySem.W.fnOf "_check_constant" "_check_constant" (defArgs s__check_constant) (defBody s__check_constant) (defScope s__check_constant) .none kV__check_constant dc__check_constant pm__check_constant an__check_constant cd__check_constant ct__check_constant), sl__check_constant⟩)
    (c__check_constant : PySem.W.codeIn K cd__check_constant "_check_constant" = true)
    (k__check_constant : PySem.W.keepIn K (.ref f__check_constant) = true)
    (a_overflow_total : PySem.W.nsIn K mainGlobals "overflow_total" = some (some (.ref f_overflow_total)))
    (l_overflow_total : K.lookup f_overflow_total = some ⟨oc_overflow_total, od_overflow_total, .func (PySem.W.fnOf "overflow_total" "overflow_total" (defArgs s_overflow_total) (defBody s_overflow_total) (defScope s_overflow_total) .none kV_overflow_total dc_overflow_total pm_overflow_total an_overflow_total cd_overflow_total ct_overflow_total), sl_overflow_total⟩)
    (c_overflow_total : PySem.W.codeIn K cd_overflow_total "overflow_total" = true)
    (k_overflow_total : PySem.W.keepIn K (.ref f_overflow_total) = true)
    (a_safe_values : PySem.W.nsIn K mainGlobals "safe_values" = some (some (.ref f_safe_values)))
    (l_safe_values : K.lookup f_safe_values = some ⟨oc_safe_values, od_safe_values, .func (PySem.W.fnOf "safe_values" "safe_values" (defArgs s_safe_values) (defBody s_safe_values) (defScope s_safe_values) .none kV_safe_values dc_safe_values pm_safe_values an_safe_values cd_safe_values ct_safe_values), sl_safe_values⟩)
    (c_safe_values : PySem.W.codeIn K cd_safe_values "safe_values" = true)
    (k_safe_values : PySem.W.keepIn K (.ref f_safe_values) = true)
    (a__check_span : PySem.W.nsIn K mainGlobals "_check_span" = some (some (.ref f__check_span)))
    (l__check_span : K.lookup f__check_span = some ⟨oc__check_span, od__check_span, .func (PySem.W.fnOf "_check_span" "_check_span" (defArgs s__check_span) (defBody s__check_span) (defScope s__check_span) .none kV__check_span dc__check_span pm__check_span an__check_span cd__check_span ct__check_span), sl__check_span⟩)
    (c__check_span : PySem.W.codeIn K cd__check_span "_check_span" = true)
    (k__check_span : PySem.W.keepIn K (.ref f__check_span) = true)
    (a__check_pairs : PySem.W.nsIn K mainGlobals "_check_pairs" = some (some (.ref f__check_pairs)))
    (l__check_pairs : K.lookup f__check_pairs = some ⟨oc__check_pairs, od__check_pairs, .func (PySem.W.fnOf "_check_pairs" "_check_pairs" (defArgs s__check_pairs) (defBody s__check_pairs) (defScope s__check_pairs) .none kV__check_pairs dc__check_pairs pm__check_pairs an__check_pairs cd__check_pairs ct__check_pairs), sl__check_pairs⟩)
    (c__check_pairs : PySem.W.codeIn K cd__check_pairs "_check_pairs" = true)
    (k__check_pairs : PySem.W.keepIn K (.ref f__check_pairs) = true)
    (a__corner : PySem.W.nsIn K mainGlobals "_corner" = some (some (.ref f__corner)))
    (l__corner : K.lookup f__corner = some ⟨oc__corner, od__corner, .func (PySem.W.fnOf "_corner" "_corner" (defArgs s__corner) (defBody s__corner) (defScope s__corner) .none kV__corner dc__corner pm__corner an__corner cd__corner ct__corner), sl__corner⟩)
    (c__corner : PySem.W.codeIn K cd__corner "_corner" = true)
    (k__corner : PySem.W.keepIn K (.ref f__corner) = true)
    (a__sums_up_to : PySem.W.nsIn K mainGlobals "_sums_up_to" = some (some (.ref f__sums_up_to)))
    (l__sums_up_to : K.lookup f__sums_up_to = some ⟨oc__sums_up_to, od__sums_up_to, .func (PySem.W.fnOf "_sums_up_to" "_sums_up_to" (defArgs s__sums_up_to) (defBody s__sums_up_to) (defScope s__sums_up_to) .none kV__sums_up_to dc__sums_up_to pm__sums_up_to an__sums_up_to cd__sums_up_to ct__sums_up_to), sl__sums_up_to⟩)
    (c__sums_up_to : PySem.W.codeIn K cd__sums_up_to "_sums_up_to" = true)
    (k__sums_up_to : PySem.W.keepIn K (.ref f__sums_up_to) = true)
    (a__pairs_between : PySem.W.nsIn K mainGlobals "_pairs_between" = some (some (.ref f__pairs_between)))
    (l__pairs_between : K.lookup f__pairs_between = some ⟨oc__pairs_between, od__pairs_between, .func (PySem.W.fnOf "_pairs_between" "_pairs_between" (defArgs s__pairs_between) (defBody s__pairs_between) (defScope s__pairs_between) .none kV__pairs_between dc__pairs_between pm__pairs_between an__pairs_between cd__pairs_between ct__pairs_between), sl__pairs_between⟩)
    (c__pairs_between : PySem.W.codeIn K cd__pairs_between "_pairs_between" = true)
    (k__pairs_between : PySem.W.keepIn K (.ref f__pairs_between) = true)
    (a_pair_overflows : PySem.W.nsIn K mainGlobals "pair_overflows" = some (some (.ref f_pair_overflows)))
    (l_pair_overflows : K.lookup f_pair_overflows = some ⟨oc_pair_overflows, od_pair_overflows, .func (PySem.W.fnOf "pair_overflows" "pair_overflows" (defArgs s_pair_overflows) (defBody s_pair_overflows) (defScope s_pair_overflows) .none kV_pair_overflows dc_pair_overflows pm_pair_overflows an_pair_overflows cd_pair_overflows ct_pair_overflows), sl_pair_overflows⟩)
    (c_pair_overflows : PySem.W.codeIn K cd_pair_overflows "pair_overflows" = true)
    (k_pair_overflows : PySem.W.keepIn K (.ref f_pair_overflows) = true)
    (a_pairs_within : PySem.W.nsIn K mainGlobals "pairs_within" = some (some (.ref f_pairs_within)))
    (l_pairs_within : K.lookup f_pairs_within = some ⟨oc_pairs_within, od_pairs_within, .func (PySem.W.fnOf "pairs_within" "pairs_within" (defArgs s_pairs_within) (defBody s_pairs_within) (defScope s_pairs_within) .none kV_pairs_within dc_pairs_within pm_pairs_within an_pairs_within cd_pairs_within ct_pairs_within), sl_pairs_within⟩)
    (c_pairs_within : PySem.W.codeIn K cd_pairs_within "pairs_within" = true)
    (k_pairs_within : PySem.W.keepIn K (.ref f_pairs_within) = true)
    (a__law_deck : PySem.W.nsIn K mainGlobals "_law_deck" = some (some (.ref f__law_deck)))
    (l__law_deck : K.lookup f__law_deck = some ⟨oc__law_deck, od__law_deck, .func (PySem.W.fnOf "_law_deck" "_law_deck" (defArgs s__law_deck) (defBody s__law_deck) (defScope s__law_deck) .none kV__law_deck dc__law_deck pm__law_deck an__law_deck cd__law_deck ct__law_deck), sl__law_deck⟩)
    (c__law_deck : PySem.W.codeIn K cd__law_deck "_law_deck" = true)
    (k__law_deck : PySem.W.keepIn K (.ref f__law_deck) = true)
    (a__law_deal : PySem.W.nsIn K mainGlobals "_law_deal" = some (some (.ref f__law_deal)))
    (l__law_deal : K.lookup f__law_deal = some ⟨oc__law_deal, od__law_deal, .func (PySem.W.fnOf "_law_deal" "_law_deal" (defArgs s__law_deal) (defBody s__law_deal) (defScope s__law_deal) .none kV__law_deal dc__law_deal pm__law_deal an__law_deal cd__law_deal ct__law_deal), sl__law_deal⟩)
    (c__law_deal : PySem.W.codeIn K cd__law_deal "_law_deal" = true)
    (k__law_deal : PySem.W.keepIn K (.ref f__law_deal) = true)
    (a__law_choice : PySem.W.nsIn K mainGlobals "_law_choice" = some (some (.ref f__law_choice)))
    (l__law_choice : K.lookup f__law_choice = some ⟨oc__law_choice, od__law_choice, .func (PySem.W.fnOf "_law_choice" "_law_choice" (defArgs s__law_choice) (defBody s__law_choice) (defScope s__law_choice) .none kV__law_choice dc__law_choice pm__law_choice an__law_choice cd__law_choice ct__law_choice), sl__law_choice⟩)
    (c__law_choice : PySem.W.codeIn K cd__law_choice "_law_choice" = true)
    (k__law_choice : PySem.W.keepIn K (.ref f__law_choice) = true)
    (a__law_great : PySem.W.nsIn K mainGlobals "_law_great" = some (some (.ref f__law_great)))
    (l__law_great : K.lookup f__law_great = some ⟨oc__law_great, od__law_great, .func (PySem.W.fnOf "_law_great" "_law_great" (defArgs s__law_great) (defBody s__law_great) (defScope s__law_great) .none kV__law_great dc__law_great pm__law_great an__law_great cd__law_great ct__law_great), sl__law_great⟩)
    (c__law_great : PySem.W.codeIn K cd__law_great "_law_great" = true)
    (k__law_great : PySem.W.keepIn K (.ref f__law_great) = true)
    (a__law_values_right : PySem.W.nsIn K mainGlobals "_law_values_right" = some (some (.ref f__law_values_right)))
    (l__law_values_right : K.lookup f__law_values_right = some ⟨oc__law_values_right, od__law_values_right, .func (PySem.W.fnOf "_law_values_right" "_law_values_right" (defArgs s__law_values_right) (defBody s__law_values_right) (defScope s__law_values_right) .none kV__law_values_right dc__law_values_right pm__law_values_right an__law_values_right cd__law_values_right ct__law_values_right), sl__law_values_right⟩)
    (c__law_values_right : PySem.W.codeIn K cd__law_values_right "_law_values_right" = true)
    (k__law_values_right : PySem.W.keepIn K (.ref f__law_values_right) = true)
    (a__law_span : PySem.W.nsIn K mainGlobals "_law_span" = some (some (.ref f__law_span)))
    (l__law_span : K.lookup f__law_span = some ⟨oc__law_span, od__law_span, .func (PySem.W.fnOf "_law_span" "_law_span" (defArgs s__law_span) (defBody s__law_span) (defScope s__law_span) .none kV__law_span dc__law_span pm__law_span an__law_span cd__law_span ct__law_span), sl__law_span⟩)
    (c__law_span : PySem.W.codeIn K cd__law_span "_law_span" = true)
    (k__law_span : PySem.W.keepIn K (.ref f__law_span) = true)
    (a__law_pairs_right : PySem.W.nsIn K mainGlobals "_law_pairs_right" = some (some (.ref f__law_pairs_right)))
    (l__law_pairs_right : K.lookup f__law_pairs_right = some ⟨oc__law_pairs_right, od__law_pairs_right, .func (PySem.W.fnOf "_law_pairs_right" "_law_pairs_right" (defArgs s__law_pairs_right) (defBody s__law_pairs_right) (defScope s__law_pairs_right) .none kV__law_pairs_right dc__law_pairs_right pm__law_pairs_right an__law_pairs_right cd__law_pairs_right ct__law_pairs_right), sl__law_pairs_right⟩)
    (c__law_pairs_right : PySem.W.codeIn K cd__law_pairs_right "_law_pairs_right" = true)
    (k__law_pairs_right : PySem.W.keepIn K (.ref f__law_pairs_right) = true)
    (a__law_great_values_right : PySem.W.nsIn K mainGlobals "_law_great_values_right" = some (some (.ref f__law_great_values_right)))
    (l__law_great_values_right : K.lookup f__law_great_values_right = some ⟨oc__law_great_values_right, od__law_great_values_right, .func (PySem.W.fnOf "_law_great_values_right" "_law_great_values_right" (defArgs s__law_great_values_right) (defBody s__law_great_values_right) (defScope s__law_great_values_right) .none kV__law_great_values_right dc__law_great_values_right pm__law_great_values_right an__law_great_values_right cd__law_great_values_right ct__law_great_values_right), sl__law_great_values_right⟩)
    (c__law_great_values_right : PySem.W.codeIn K cd__law_great_values_right "_law_great_values_right" = true)
    (k__law_great_values_right : PySem.W.keepIn K (.ref f__law_great_values_right) = true)
    (a__law_points_right : PySem.W.nsIn K mainGlobals "_law_points_right" = some (some (.ref f__law_points_right)))
    (l__law_points_right : K.lookup f__law_points_right = some ⟨oc__law_points_right, od__law_points_right, .func (PySem.W.fnOf "_law_points_right" "_law_points_right" (defArgs s__law_points_right) (defBody s__law_points_right) (defScope s__law_points_right) .none kV__law_points_right dc__law_points_right pm__law_points_right an__law_points_right cd__law_points_right ct__law_points_right), sl__law_points_right⟩)
    (c__law_points_right : PySem.W.codeIn K cd__law_points_right "_law_points_right" = true)
    (k__law_points_right : PySem.W.keepIn K (.ref f__law_points_right) = true)
    (a__law_great_pairs_right : PySem.W.nsIn K mainGlobals "_law_great_pairs_right" = some (some (.ref f__law_great_pairs_right)))
    (l__law_great_pairs_right : K.lookup f__law_great_pairs_right = some ⟨oc__law_great_pairs_right, od__law_great_pairs_right, .func (PySem.W.fnOf "_law_great_pairs_right" "_law_great_pairs_right" (defArgs s__law_great_pairs_right) (defBody s__law_great_pairs_right) (defScope s__law_great_pairs_right) .none kV__law_great_pairs_right dc__law_great_pairs_right pm__law_great_pairs_right an__law_great_pairs_right cd__law_great_pairs_right ct__law_great_pairs_right), sl__law_great_pairs_right⟩)
    (c__law_great_pairs_right : PySem.W.codeIn K cd__law_great_pairs_right "_law_great_pairs_right" = true)
    (k__law_great_pairs_right : PySem.W.keepIn K (.ref f__law_great_pairs_right) = true)
    (a_law : PySem.W.nsIn K mainGlobals "law" = some (some (.ref f_law)))
    (l_law : K.lookup f_law = some ⟨oc_law, od_law, .func (PySem.W.fnOf "law" "law" (defArgs s_law) (defBody s_law) (defScope s_law) .none kV_law dc_law pm_law an_law cd_law ct_law), sl_law⟩)
    (c_law : PySem.W.codeIn K cd_law "law" = true)
    (k_law : PySem.W.keepIn K (.ref f_law) = true)
    (v_BEYOND_SIXTY_DIGITS : PySem.W.nsIn K mainGlobals "BEYOND_SIXTY_DIGITS" = some (some (.int 1000000000000000000000000000000000000000000000000000000000000 t_BEYOND_SIXTY_DIGITS)))
    (v_OPERATIONS : PySem.W.nsIn K mainGlobals "OPERATIONS" = some (some (.ref a_OPERATIONS)))
    (lt_OPERATIONS : K.lookup a_OPERATIONS = some ⟨.type "tuple", dd_OPERATIONS, .seq its_OPERATIONS n_OPERATIONS, sl_OPERATIONS⟩)
    (sz_OPERATIONS : its_OPERATIONS.size ≤ sizeLine)
    (vt_OPERATIONS : Vals [.str "add", .str "subtract", .str "multiply", .str "divide", .str "remainder", .str "and", .str "or", .str "xor", .str "left", .str "right"] its_OPERATIONS.toList)
    (v_OVERFLOWING : PySem.W.nsIn K mainGlobals "OVERFLOWING" = some (some (.ref a_OVERFLOWING)))
    (lt_OVERFLOWING : K.lookup a_OVERFLOWING = some ⟨.type "tuple", dd_OVERFLOWING, .seq its_OVERFLOWING n_OVERFLOWING, sl_OVERFLOWING⟩)
    (sz_OVERFLOWING : its_OVERFLOWING.size ≤ sizeLine)
    (vt_OVERFLOWING : Vals [.str "add", .str "subtract", .str "multiply", .str "divide", .str "left"] its_OVERFLOWING.toList)
    (v_DIVISIONS : PySem.W.nsIn K mainGlobals "DIVISIONS" = some (some (.ref a_DIVISIONS)))
    (lt_DIVISIONS : K.lookup a_DIVISIONS = some ⟨.type "tuple", dd_DIVISIONS, .seq its_DIVISIONS n_DIVISIONS, sl_DIVISIONS⟩)
    (sz_DIVISIONS : its_DIVISIONS.size ≤ sizeLine)
    (vt_DIVISIONS : Vals [.str "divide", .str "remainder"] its_DIVISIONS.toList)
    (v_SHIFTS : PySem.W.nsIn K mainGlobals "SHIFTS" = some (some (.ref a_SHIFTS)))
    (lt_SHIFTS : K.lookup a_SHIFTS = some ⟨.type "tuple", dd_SHIFTS, .seq its_SHIFTS n_SHIFTS, sl_SHIFTS⟩)
    (sz_SHIFTS : its_SHIFTS.size ≤ sizeLine)
    (vt_SHIFTS : Vals [.str "left", .str "right"] its_SHIFTS.toList)
    (v_MOST_BITS : PySem.W.nsIn K mainGlobals "MOST_BITS" = some (some (.int 128 t_MOST_BITS)))
    (v_VALUE_OPERATIONS : PySem.W.nsIn K mainGlobals "VALUE_OPERATIONS" = some (some (.ref a_VALUE_OPERATIONS)))
    (lt_VALUE_OPERATIONS : K.lookup a_VALUE_OPERATIONS = some ⟨.type "tuple", dd_VALUE_OPERATIONS, .seq its_VALUE_OPERATIONS n_VALUE_OPERATIONS, sl_VALUE_OPERATIONS⟩)
    (sz_VALUE_OPERATIONS : its_VALUE_OPERATIONS.size ≤ sizeLine)
    (vt_VALUE_OPERATIONS : Vals [.str "add", .str "subtract", .str "multiply"] its_VALUE_OPERATIONS.toList)
    (v_PAIR_OPERATIONS : PySem.W.nsIn K mainGlobals "PAIR_OPERATIONS" = some (some (.ref a_PAIR_OPERATIONS)))
    (lt_PAIR_OPERATIONS : K.lookup a_PAIR_OPERATIONS = some ⟨.type "tuple", dd_PAIR_OPERATIONS, .seq its_PAIR_OPERATIONS n_PAIR_OPERATIONS, sl_PAIR_OPERATIONS⟩)
    (sz_PAIR_OPERATIONS : its_PAIR_OPERATIONS.size ≤ sizeLine)
    (vt_PAIR_OPERATIONS : Vals [.str "add", .str "subtract"] its_PAIR_OPERATIONS.toList)
    (z_abs : PySem.W.nsIn K mainGlobals "abs" = some none)
    (z_bool : PySem.W.nsIn K mainGlobals "bool" = some none)
    (z_divmod : PySem.W.nsIn K mainGlobals "divmod" = some none)
    (z_int : PySem.W.nsIn K mainGlobals "int" = some none)
    (z_isinstance : PySem.W.nsIn K mainGlobals "isinstance" = some none)
    (z_len : PySem.W.nsIn K mainGlobals "len" = some none)
    (z_list : PySem.W.nsIn K mainGlobals "list" = some none)
    (z_max : PySem.W.nsIn K mainGlobals "max" = some none)
    (z_min : PySem.W.nsIn K mainGlobals "min" = some none)
    (z_range : PySem.W.nsIn K mainGlobals "range" = some none)
    (z_sorted : PySem.W.nsIn K mainGlobals "sorted" = some none)
    (z_str : PySem.W.nsIn K mainGlobals "str" = some none)
    (z_sum : PySem.W.nsIn K mainGlobals "sum" = some none)
    (z_tuple : PySem.W.nsIn K mainGlobals "tuple" = some none)
    : Nonempty (Txt K mg) := by
  have F_is_integer := fun_mk (st := s_is_integer) l_is_integer c_is_integer k_is_integer
  have b_is_integer := F_is_integer.binds (ps := ["value"]) fun _ _ _ _ _ _ us hl => match us, hl with | [_], _ => rfl
  have F_check_integer := fun_mk (st := s_check_integer) l_check_integer c_check_integer k_check_integer
  have b_check_integer := F_check_integer.binds (ps := ["value", "argument"]) fun _ _ _ _ _ _ us hl => match us, hl with | [_, _], _ => rfl
  have F_is_sixty_digits := fun_mk (st := s_is_sixty_digits) l_is_sixty_digits c_is_sixty_digits k_is_sixty_digits
  have b_is_sixty_digits := F_is_sixty_digits.binds (ps := ["value"]) fun _ _ _ _ _ _ us hl => match us, hl with | [_], _ => rfl
  have F_check_sixty_digits := fun_mk (st := s_check_sixty_digits) l_check_sixty_digits c_check_sixty_digits k_check_sixty_digits
  have b_check_sixty_digits := F_check_sixty_digits.binds (ps := ["value", "argument"]) fun _ _ _ _ _ _ us hl => match us, hl with | [_, _], _ => rfl
  have F_toward_zero := fun_mk (st := s_toward_zero) l_toward_zero c_toward_zero k_toward_zero
  have b_toward_zero := F_toward_zero.binds (ps := ["x", "y"]) fun _ _ _ _ _ _ us hl => match us, hl with | [_, _], _ => rfl
  have F_exact_result := fun_mk (st := s_exact_result) l_exact_result c_exact_result k_exact_result
  have b_exact_result := F_exact_result.binds (ps := ["name", "x", "y"]) fun _ _ _ _ _ _ us hl => match us, hl with | [_, _, _], _ => rfl
  have F__bitwise := fun_mk (st := s__bitwise) l__bitwise c__bitwise k__bitwise
  have b__bitwise := F__bitwise.binds (ps := ["name", "x", "y"]) fun _ _ _ _ _ _ us hl => match us, hl with | [_, _, _], _ => rfl
  have F_is_word := fun_mk (st := s_is_word) l_is_word c_is_word k_is_word
  have b_is_word := F_is_word.binds (ps := ["value", "words"]) fun _ _ _ _ _ _ us hl => match us, hl with | [_, _], _ => rfl
  have F_check_word := fun_mk (st := s_check_word) l_check_word c_check_word k_check_word
  have b_check_word := F_check_word.binds (ps := ["word", "words", "argument"]) fun _ _ _ _ _ _ us hl => match us, hl with | [_, _, _], _ => rfl
  have F_Kind___init__ := fun_mk (st := s_Kind___init__) l_Kind___init__ c_Kind___init__ k_Kind___init__
  have b_Kind___init__ := F_Kind___init__.binds (ps := ["self", "bits", "is_signed"]) fun _ _ _ _ _ _ us hl => match us, hl with | [_, _, _], _ => rfl
  have F_check_kind := fun_mk (st := s_check_kind) l_check_kind c_check_kind k_check_kind
  have b_check_kind := F_check_kind.binds (ps := ["kind"]) fun _ _ _ _ _ _ us hl => match us, hl with | [_], _ => rfl
  have F_check_value := fun_mk (st := s_check_value) l_check_value c_check_value k_check_value
  have b_check_value := F_check_value.binds (ps := ["kind", "x", "argument"]) fun _ _ _ _ _ _ us hl => match us, hl with | [_, _, _], _ => rfl
  have F_least := fun_mk (st := s_least) l_least c_least k_least
  have b_least := F_least.binds (ps := ["kind"]) fun _ _ _ _ _ _ us hl => match us, hl with | [_], _ => rfl
  have F_greatest := fun_mk (st := s_greatest) l_greatest c_greatest k_greatest
  have b_greatest := F_greatest.binds (ps := ["kind"]) fun _ _ _ _ _ _ us hl => match us, hl with | [_], _ => rfl
  have F_is_value := fun_mk (st := s_is_value) l_is_value c_is_value k_is_value
  have b_is_value := F_is_value.binds (ps := ["kind", "x"]) fun _ _ _ _ _ _ us hl => match us, hl with | [_, _], _ => rfl
  have F_wrapped := fun_mk (st := s_wrapped) l_wrapped c_wrapped k_wrapped
  have b_wrapped := F_wrapped.binds (ps := ["kind", "n"]) fun _ _ _ _ _ _ us hl => match us, hl with | [_, _], _ => rfl
  have F__check_operation := fun_mk (st := s__check_operation) l__check_operation c__check_operation k__check_operation
  have b__check_operation := F__check_operation.binds (ps := ["kind", "names", "name", "x", "y"]) fun _ _ _ _ _ _ us hl => match us, hl with | [_, _, _, _, _], _ => rfl
  have F_operate := fun_mk (st := s_operate) l_operate c_operate k_operate
  have b_operate := F_operate.binds (ps := ["kind", "name", "x", "y"]) fun _ _ _ _ _ _ us hl => match us, hl with | [_, _, _, _], _ => rfl
  have F_overflows := fun_mk (st := s_overflows) l_overflows c_overflows k_overflows
  have b_overflows := F_overflows.binds (ps := ["kind", "name", "x", "y"]) fun _ _ _ _ _ _ us hl => match us, hl with | [_, _, _, _], _ => rfl
  have F_quotient_total := fun_mk (st := s_quotient_total) l_quotient_total c_quotient_total k_quotient_total
  have b_quotient_total := F_quotient_total.binds (ps := ["line", "size", "first", "last"]) fun _ _ _ _ _ _ us hl => match us, hl with | [_, _, _, _], _ => rfl
  have F_total_between := fun_mk (st := s_total_between) l_total_between c_total_between k_total_between
  have b_total_between := F_total_between.binds (ps := ["line", "size", "first", "last", "low", "high"]) fun _ _ _ _ _ _ us hl => match us, hl with | [_, _, _, _, _, _], _ => rfl
  have F_check_line := fun_mk (st := s_check_line) l_check_line c_check_line k_check_line
  have b_check_line := F_check_line.binds (ps := ["line", "argument"]) fun _ _ _ _ _ _ us hl => match us, hl with | [_, _], _ => rfl
  have F_check_range := fun_mk (st := s_check_range) l_check_range c_check_range k_check_range
  have b_check_range := F_check_range.binds (ps := ["first", "last"]) fun _ _ _ _ _ _ us hl => match us, hl with | [_, _], _ => rfl
  have F__check := fun_mk (st := s__check) l__check c__check k__check
  have b__check := F__check.binds (ps := ["kind", "line", "first", "last"]) fun _ _ _ _ _ _ us hl => match us, hl with | [_, _, _, _], _ => rfl
  have F__check_within := fun_mk (st := s__check_within) l__check_within c__check_within k__check_within
  have b__check_within := F__check_within.binds (ps := ["kind", "line", "first", "last", "low", "high"]) fun _ _ _ _ _ _ us hl => match us, hl with | [_, _, _, _, _, _], _ => rfl
  have F__total := fun_mk (st := s__total) l__total c__total k__total
  have b__total := F__total.binds (ps := ["kind", "line", "first", "last", "low", "high"]) fun _ _ _ _ _ _ us hl => match us, hl with | [_, _, _, _, _, _], _ => rfl
  have F_total_within := fun_mk (st := s_total_within) l_total_within c_total_within k_total_within
  have b_total_within := F_total_within.binds (ps := ["kind", "line", "first", "last", "low", "high"]) fun _ _ _ _ _ _ us hl => match us, hl with | [_, _, _, _, _, _], _ => rfl
  have F__count := fun_mk (st := s__count) l__count c__count k__count
  have b__count := F__count.binds (ps := ["first", "last"]) fun _ _ _ _ _ _ us hl => match us, hl with | [_, _], _ => rfl
  have F__factors_between := fun_mk (st := s__factors_between) l__factors_between c__factors_between k__factors_between
  have b__factors_between := F__factors_between.binds (ps := ["c", "low", "high"]) fun _ _ _ _ _ _ us hl => match us, hl with | [_, _, _], _ => rfl
  have F__safe_values := fun_mk (st := s__safe_values) l__safe_values c__safe_values k__safe_values
  have b__safe_values := F__safe_values.binds (ps := ["kind", "name", "c"]) fun _ _ _ _ _ _ us hl => match us, hl with | [_, _, _], _ => rfl
  have F__check_constant := fun_mk (st := s__check_constant) l__check_constant c__check_constant k__check_constant
  have b__check_constant := F__check_constant.binds (ps := ["kind", "name", "c"]) fun _ _ _ _ _ _ us hl => match us, hl with | [_, _, _], _ => rfl
  have F_overflow_total := fun_mk (st := s_overflow_total) l_overflow_total c_overflow_total k_overflow_total
  have b_overflow_total := F_overflow_total.binds (ps := ["kind", "name", "c", "first", "last"]) fun _ _ _ _ _ _ us hl => match us, hl with | [_, _, _, _, _], _ => rfl
  have F_safe_values := fun_mk (st := s_safe_values) l_safe_values c_safe_values k_safe_values
  have b_safe_values := F_safe_values.binds (ps := ["kind", "name", "c"]) fun _ _ _ _ _ _ us hl => match us, hl with | [_, _, _], _ => rfl
  have F__check_span := fun_mk (st := s__check_span) l__check_span c__check_span k__check_span
  have b__check_span := F__check_span.binds (ps := ["kind", "span", "argument"]) fun _ _ _ _ _ _ us hl => match us, hl with | [_, _, _], _ => rfl
  have F__check_pairs := fun_mk (st := s__check_pairs) l__check_pairs c__check_pairs k__check_pairs
  have b__check_pairs := F__check_pairs.binds (ps := ["kind", "name", "xs", "ys"]) fun _ _ _ _ _ _ us hl => match us, hl with | [_, _, _, _], _ => rfl
  have F__corner := fun_mk (st := s__corner) l__corner c__corner k__corner
  have b__corner := F__corner.binds (ps := ["height"]) fun _ _ _ _ _ _ us hl => match us, hl with | [_], _ => rfl
  have F__sums_up_to := fun_mk (st := s__sums_up_to) l__sums_up_to c__sums_up_to k__sums_up_to
  have b__sums_up_to := F__sums_up_to.binds (ps := ["xs", "ys", "most"]) fun _ _ _ _ _ _ us hl => match us, hl with | [_, _, _], _ => rfl
  have F__pairs_between := fun_mk (st := s__pairs_between) l__pairs_between c__pairs_between k__pairs_between
  have b__pairs_between := F__pairs_between.binds (ps := ["name", "xs", "ys", "low", "high"]) fun _ _ _ _ _ _ us hl => match us, hl with | [_, _, _, _, _], _ => rfl
  have F_pair_overflows := fun_mk (st := s_pair_overflows) l_pair_overflows c_pair_overflows k_pair_overflows
  have b_pair_overflows := F_pair_overflows.binds (ps := ["kind", "name", "xs", "ys"]) fun _ _ _ _ _ _ us hl => match us, hl with | [_, _, _, _], _ => rfl
  have F_pairs_within := fun_mk (st := s_pairs_within) l_pairs_within c_pairs_within k_pairs_within
  have b_pairs_within := F_pairs_within.binds (ps := ["kind", "name", "xs", "ys", "low", "high"]) fun _ _ _ _ _ _ us hl => match us, hl with | [_, _, _, _, _, _], _ => rfl
  have F__law_deck := fun_mk (st := s__law_deck) l__law_deck c__law_deck k__law_deck
  have b__law_deck := F__law_deck.binds (ps := ["_law_cell"]) fun _ _ _ _ _ _ us hl => match us, hl with | [_], _ => rfl
  have F__law_deal := fun_mk (st := s__law_deal) l__law_deal c__law_deal k__law_deal
  have b__law_deal := F__law_deal.binds (ps := ["_law_deck_here", "_law_many"]) fun _ _ _ _ _ _ us hl => match us, hl with | [_, _], _ => rfl
  have F__law_choice := fun_mk (st := s__law_choice) l__law_choice c__law_choice k__law_choice
  have b__law_choice := F__law_choice.binds (ps := ["_law_deck_here", "_law_some"]) fun _ _ _ _ _ _ us hl => match us, hl with | [_, _], _ => rfl
  have F__law_great := fun_mk (st := s__law_great) l__law_great c__law_great k__law_great
  have b__law_great := F__law_great.binds (ps := ["_law_deck_here", "_law_most"]) fun _ _ _ _ _ _ us hl => match us, hl with | [_, _], _ => rfl
  have F__law_values_right := fun_mk (st := s__law_values_right) l__law_values_right c__law_values_right k__law_values_right
  have b__law_values_right := F__law_values_right.binds (ps := ["_law_own", "_law_least_one", "_law_size", "_law_one"]) fun _ _ _ _ _ _ us hl => match us, hl with | [_, _, _, _], _ => rfl
  have F__law_span := fun_mk (st := s__law_span) l__law_span c__law_span k__law_span
  have b__law_span := F__law_span.binds (ps := ["_law_deck_here", "_law_least_one", "_law_size"]) fun _ _ _ _ _ _ us hl => match us, hl with | [_, _, _], _ => rfl
  have F__law_pairs_right := fun_mk (st := s__law_pairs_right) l__law_pairs_right c__law_pairs_right k__law_pairs_right
  have b__law_pairs_right := F__law_pairs_right.binds (ps := ["_law_deck_here", "_law_own", "_law_least_one", "_law_size"]) fun _ _ _ _ _ _ us hl => match us, hl with | [_, _, _, _], _ => rfl
  have F__law_great_values_right := fun_mk (st := s__law_great_values_right) l__law_great_values_right c__law_great_values_right k__law_great_values_right
  have b__law_great_values_right := F__law_great_values_right.binds (ps := ["_law_deck_here", "_law_own", "_law_least_one", "_law_size"]) fun _ _ _ _ _ _ us hl => match us, hl with | [_, _, _, _], _ => rfl
  have F__law_points_right := fun_mk (st := s__law_points_right) l__law_points_right c__law_points_right k__law_points_right
  have b__law_points_right := F__law_points_right.binds (ps := ["_law_deck_here", "_law_own", "_law_least_one", "_law_size"]) fun _ _ _ _ _ _ us hl => match us, hl with | [_, _, _, _], _ => rfl
  have F__law_great_pairs_right := fun_mk (st := s__law_great_pairs_right) l__law_great_pairs_right c__law_great_pairs_right k__law_great_pairs_right
  have b__law_great_pairs_right := F__law_great_pairs_right.binds (ps := ["_law_deck_here", "_law_own", "_law_least_one", "_law_size"]) fun _ _ _ _ _ _ us hl => match us, hl with | [_, _, _, _], _ => rfl
  have F_law := fun_mk (st := s_law) l_law c_law k_law
  have b_law := F_law.binds (ps := ["_law_script"]) fun _ _ _ _ _ _ us hl => match us, hl with | [_], _ => rfl
  exact ⟨{
    C_Kind := C_Kind
    cl_Kind := ⟨pg_Kind, hd_Kind, po_Kind, sa_Kind⟩
    g_Kind := PySem.W.mg_of X G aC_Kind
    na_Kind_bits := na_Kind_bits
    na_Kind_is_signed := na_Kind_is_signed
    ia_Kind := ia_Kind
    ib_Kind := ib_Kind
    ic_Kind := ic_Kind
    id_Kind := id_Kind
    mk_Kind := ⟨mkk_Kind, a_Kind___init__, i_Kind___init__, kc_Kind⟩
    f_is_integer := f_is_integer
    fd_is_integer := _
    F_is_integer := F_is_integer
    b_is_integer := b_is_integer
    g_is_integer := PySem.W.mg_of X G a_is_integer
    k_is_integer := k_is_integer
    f_check_integer := f_check_integer
    fd_check_integer := _
    F_check_integer := F_check_integer
    b_check_integer := b_check_integer
    g_check_integer := PySem.W.mg_of X G a_check_integer
    k_check_integer := k_check_integer
    f_is_sixty_digits := f_is_sixty_digits
    fd_is_sixty_digits := _
    F_is_sixty_digits := F_is_sixty_digits
    b_is_sixty_digits := b_is_sixty_digits
    g_is_sixty_digits := PySem.W.mg_of X G a_is_sixty_digits
    k_is_sixty_digits := k_is_sixty_digits
    f_check_sixty_digits := f_check_sixty_digits
    fd_check_sixty_digits := _
    F_check_sixty_digits := F_check_sixty_digits
    b_check_sixty_digits := b_check_sixty_digits
    g_check_sixty_digits := PySem.W.mg_of X G a_check_sixty_digits
    k_check_sixty_digits := k_check_sixty_digits
    f_toward_zero := f_toward_zero
    fd_toward_zero := _
    F_toward_zero := F_toward_zero
    b_toward_zero := b_toward_zero
    g_toward_zero := PySem.W.mg_of X G a_toward_zero
    k_toward_zero := k_toward_zero
    f_exact_result := f_exact_result
    fd_exact_result := _
    F_exact_result := F_exact_result
    b_exact_result := b_exact_result
    g_exact_result := PySem.W.mg_of X G a_exact_result
    k_exact_result := k_exact_result
    f__bitwise := f__bitwise
    fd__bitwise := _
    F__bitwise := F__bitwise
    b__bitwise := b__bitwise
    g__bitwise := PySem.W.mg_of X G a__bitwise
    k__bitwise := k__bitwise
    f_is_word := f_is_word
    fd_is_word := _
    F_is_word := F_is_word
    b_is_word := b_is_word
    g_is_word := PySem.W.mg_of X G a_is_word
    k_is_word := k_is_word
    f_check_word := f_check_word
    fd_check_word := _
    F_check_word := F_check_word
    b_check_word := b_check_word
    g_check_word := PySem.W.mg_of X G a_check_word
    k_check_word := k_check_word
    f_Kind___init__ := f_Kind___init__
    fd_Kind___init__ := _
    F_Kind___init__ := F_Kind___init__
    b_Kind___init__ := b_Kind___init__
    f_check_kind := f_check_kind
    fd_check_kind := _
    F_check_kind := F_check_kind
    b_check_kind := b_check_kind
    g_check_kind := PySem.W.mg_of X G a_check_kind
    k_check_kind := k_check_kind
    f_check_value := f_check_value
    fd_check_value := _
    F_check_value := F_check_value
    b_check_value := b_check_value
    g_check_value := PySem.W.mg_of X G a_check_value
    k_check_value := k_check_value
    f_least := f_least
    fd_least := _
    F_least := F_least
    b_least := b_least
    g_least := PySem.W.mg_of X G a_least
    k_least := k_least
    f_greatest := f_greatest
    fd_greatest := _
    F_greatest := F_greatest
    b_greatest := b_greatest
    g_greatest := PySem.W.mg_of X G a_greatest
    k_greatest := k_greatest
    f_is_value := f_is_value
    fd_is_value := _
    F_is_value := F_is_value
    b_is_value := b_is_value
    g_is_value := PySem.W.mg_of X G a_is_value
    k_is_value := k_is_value
    f_wrapped := f_wrapped
    fd_wrapped := _
    F_wrapped := F_wrapped
    b_wrapped := b_wrapped
    g_wrapped := PySem.W.mg_of X G a_wrapped
    k_wrapped := k_wrapped
    f__check_operation := f__check_operation
    fd__check_operation := _
    F__check_operation := F__check_operation
    b__check_operation := b__check_operation
    g__check_operation := PySem.W.mg_of X G a__check_operation
    k__check_operation := k__check_operation
    f_operate := f_operate
    fd_operate := _
    F_operate := F_operate
    b_operate := b_operate
    g_operate := PySem.W.mg_of X G a_operate
    k_operate := k_operate
    f_overflows := f_overflows
    fd_overflows := _
    F_overflows := F_overflows
    b_overflows := b_overflows
    g_overflows := PySem.W.mg_of X G a_overflows
    k_overflows := k_overflows
    f_quotient_total := f_quotient_total
    fd_quotient_total := _
    F_quotient_total := F_quotient_total
    b_quotient_total := b_quotient_total
    g_quotient_total := PySem.W.mg_of X G a_quotient_total
    k_quotient_total := k_quotient_total
    f_total_between := f_total_between
    fd_total_between := _
    F_total_between := F_total_between
    b_total_between := b_total_between
    g_total_between := PySem.W.mg_of X G a_total_between
    k_total_between := k_total_between
    f_check_line := f_check_line
    fd_check_line := _
    F_check_line := F_check_line
    b_check_line := b_check_line
    g_check_line := PySem.W.mg_of X G a_check_line
    k_check_line := k_check_line
    f_check_range := f_check_range
    fd_check_range := _
    F_check_range := F_check_range
    b_check_range := b_check_range
    g_check_range := PySem.W.mg_of X G a_check_range
    k_check_range := k_check_range
    f__check := f__check
    fd__check := _
    F__check := F__check
    b__check := b__check
    g__check := PySem.W.mg_of X G a__check
    k__check := k__check
    f__check_within := f__check_within
    fd__check_within := _
    F__check_within := F__check_within
    b__check_within := b__check_within
    g__check_within := PySem.W.mg_of X G a__check_within
    k__check_within := k__check_within
    f__total := f__total
    fd__total := _
    F__total := F__total
    b__total := b__total
    g__total := PySem.W.mg_of X G a__total
    k__total := k__total
    f_total_within := f_total_within
    fd_total_within := _
    F_total_within := F_total_within
    b_total_within := b_total_within
    g_total_within := PySem.W.mg_of X G a_total_within
    k_total_within := k_total_within
    f__count := f__count
    fd__count := _
    F__count := F__count
    b__count := b__count
    g__count := PySem.W.mg_of X G a__count
    k__count := k__count
    f__factors_between := f__factors_between
    fd__factors_between := _
    F__factors_between := F__factors_between
    b__factors_between := b__factors_between
    g__factors_between := PySem.W.mg_of X G a__factors_between
    k__factors_between := k__factors_between
    f__safe_values := f__safe_values
    fd__safe_values := _
    F__safe_values := F__safe_values
    b__safe_values := b__safe_values
    g__safe_values := PySem.W.mg_of X G a__safe_values
    k__safe_values := k__safe_values
    f__check_constant := f__check_constant
    fd__check_constant := _
    F__check_constant := F__check_constant
    b__check_constant := b__check_constant
    g__check_constant := PySem.W.mg_of X G a__check_constant
    k__check_constant := k__check_constant
    f_overflow_total := f_overflow_total
    fd_overflow_total := _
    F_overflow_total := F_overflow_total
    b_overflow_total := b_overflow_total
    g_overflow_total := PySem.W.mg_of X G a_overflow_total
    k_overflow_total := k_overflow_total
    f_safe_values := f_safe_values
    fd_safe_values := _
    F_safe_values := F_safe_values
    b_safe_values := b_safe_values
    g_safe_values := PySem.W.mg_of X G a_safe_values
    k_safe_values := k_safe_values
    f__check_span := f__check_span
    fd__check_span := _
    F__check_span := F__check_span
    b__check_span := b__check_span
    g__check_span := PySem.W.mg_of X G a__check_span
    k__check_span := k__check_span
    f__check_pairs := f__check_pairs
    fd__check_pairs := _
    F__check_pairs := F__check_pairs
    b__check_pairs := b__check_pairs
    g__check_pairs := PySem.W.mg_of X G a__check_pairs
    k__check_pairs := k__check_pairs
    f__corner := f__corner
    fd__corner := _
    F__corner := F__corner
    b__corner := b__corner
    g__corner := PySem.W.mg_of X G a__corner
    k__corner := k__corner
    f__sums_up_to := f__sums_up_to
    fd__sums_up_to := _
    F__sums_up_to := F__sums_up_to
    b__sums_up_to := b__sums_up_to
    g__sums_up_to := PySem.W.mg_of X G a__sums_up_to
    k__sums_up_to := k__sums_up_to
    f__pairs_between := f__pairs_between
    fd__pairs_between := _
    F__pairs_between := F__pairs_between
    b__pairs_between := b__pairs_between
    g__pairs_between := PySem.W.mg_of X G a__pairs_between
    k__pairs_between := k__pairs_between
    f_pair_overflows := f_pair_overflows
    fd_pair_overflows := _
    F_pair_overflows := F_pair_overflows
    b_pair_overflows := b_pair_overflows
    g_pair_overflows := PySem.W.mg_of X G a_pair_overflows
    k_pair_overflows := k_pair_overflows
    f_pairs_within := f_pairs_within
    fd_pairs_within := _
    F_pairs_within := F_pairs_within
    b_pairs_within := b_pairs_within
    g_pairs_within := PySem.W.mg_of X G a_pairs_within
    k_pairs_within := k_pairs_within
    f__law_deck := f__law_deck
    fd__law_deck := _
    F__law_deck := F__law_deck
    b__law_deck := b__law_deck
    g__law_deck := PySem.W.mg_of X G a__law_deck
    k__law_deck := k__law_deck
    f__law_deal := f__law_deal
    fd__law_deal := _
    F__law_deal := F__law_deal
    b__law_deal := b__law_deal
    g__law_deal := PySem.W.mg_of X G a__law_deal
    k__law_deal := k__law_deal
    f__law_choice := f__law_choice
    fd__law_choice := _
    F__law_choice := F__law_choice
    b__law_choice := b__law_choice
    g__law_choice := PySem.W.mg_of X G a__law_choice
    k__law_choice := k__law_choice
    f__law_great := f__law_great
    fd__law_great := _
    F__law_great := F__law_great
    b__law_great := b__law_great
    g__law_great := PySem.W.mg_of X G a__law_great
    k__law_great := k__law_great
    f__law_values_right := f__law_values_right
    fd__law_values_right := _
    F__law_values_right := F__law_values_right
    b__law_values_right := b__law_values_right
    g__law_values_right := PySem.W.mg_of X G a__law_values_right
    k__law_values_right := k__law_values_right
    f__law_span := f__law_span
    fd__law_span := _
    F__law_span := F__law_span
    b__law_span := b__law_span
    g__law_span := PySem.W.mg_of X G a__law_span
    k__law_span := k__law_span
    f__law_pairs_right := f__law_pairs_right
    fd__law_pairs_right := _
    F__law_pairs_right := F__law_pairs_right
    b__law_pairs_right := b__law_pairs_right
    g__law_pairs_right := PySem.W.mg_of X G a__law_pairs_right
    k__law_pairs_right := k__law_pairs_right
    f__law_great_values_right := f__law_great_values_right
    fd__law_great_values_right := _
    F__law_great_values_right := F__law_great_values_right
    b__law_great_values_right := b__law_great_values_right
    g__law_great_values_right := PySem.W.mg_of X G a__law_great_values_right
    k__law_great_values_right := k__law_great_values_right
    f__law_points_right := f__law_points_right
    fd__law_points_right := _
    F__law_points_right := F__law_points_right
    b__law_points_right := b__law_points_right
    g__law_points_right := PySem.W.mg_of X G a__law_points_right
    k__law_points_right := k__law_points_right
    f__law_great_pairs_right := f__law_great_pairs_right
    fd__law_great_pairs_right := _
    F__law_great_pairs_right := F__law_great_pairs_right
    b__law_great_pairs_right := b__law_great_pairs_right
    g__law_great_pairs_right := PySem.W.mg_of X G a__law_great_pairs_right
    k__law_great_pairs_right := k__law_great_pairs_right
    f_law := f_law
    fd_law := _
    F_law := F_law
    b_law := b_law
    g_law := PySem.W.mg_of X G a_law
    k_law := k_law
    t_BEYOND_SIXTY_DIGITS := t_BEYOND_SIXTY_DIGITS
    g_BEYOND_SIXTY_DIGITS := PySem.W.mg_of X G v_BEYOND_SIXTY_DIGITS
    a_OPERATIONS := a_OPERATIONS
    g_OPERATIONS := PySem.W.mg_of X G v_OPERATIONS
    q_OPERATIONS := fun H => .inr ⟨_, _, _, lt_OPERATIONS, rfl, rfl, sz_OPERATIONS, vt_OPERATIONS⟩
    a_OVERFLOWING := a_OVERFLOWING
    g_OVERFLOWING := PySem.W.mg_of X G v_OVERFLOWING
    q_OVERFLOWING := fun H => .inr ⟨_, _, _, lt_OVERFLOWING, rfl, rfl, sz_OVERFLOWING, vt_OVERFLOWING⟩
    a_DIVISIONS := a_DIVISIONS
    g_DIVISIONS := PySem.W.mg_of X G v_DIVISIONS
    q_DIVISIONS := fun H => .inr ⟨_, _, _, lt_DIVISIONS, rfl, rfl, sz_DIVISIONS, vt_DIVISIONS⟩
    a_SHIFTS := a_SHIFTS
    g_SHIFTS := PySem.W.mg_of X G v_SHIFTS
    q_SHIFTS := fun H => .inr ⟨_, _, _, lt_SHIFTS, rfl, rfl, sz_SHIFTS, vt_SHIFTS⟩
    t_MOST_BITS := t_MOST_BITS
    g_MOST_BITS := PySem.W.mg_of X G v_MOST_BITS
    a_VALUE_OPERATIONS := a_VALUE_OPERATIONS
    g_VALUE_OPERATIONS := PySem.W.mg_of X G v_VALUE_OPERATIONS
    q_VALUE_OPERATIONS := fun H => .inr ⟨_, _, _, lt_VALUE_OPERATIONS, rfl, rfl, sz_VALUE_OPERATIONS, vt_VALUE_OPERATIONS⟩
    a_PAIR_OPERATIONS := a_PAIR_OPERATIONS
    g_PAIR_OPERATIONS := PySem.W.mg_of X G v_PAIR_OPERATIONS
    q_PAIR_OPERATIONS := fun H => .inr ⟨_, _, _, lt_PAIR_OPERATIONS, rfl, rfl, sz_PAIR_OPERATIONS, vt_PAIR_OPERATIONS⟩
    n_abs := PySem.W.mg_none_of X G z_abs
    n_bool := PySem.W.mg_none_of X G z_bool
    n_divmod := PySem.W.mg_none_of X G z_divmod
    n_int := PySem.W.mg_none_of X G z_int
    n_isinstance := PySem.W.mg_none_of X G z_isinstance
    n_len := PySem.W.mg_none_of X G z_len
    n_list := PySem.W.mg_none_of X G z_list
    n_max := PySem.W.mg_none_of X G z_max
    n_min := PySem.W.mg_none_of X G z_min
    n_range := PySem.W.mg_none_of X G z_range
    n_sorted := PySem.W.mg_none_of X G z_sorted
    n_str := PySem.W.mg_none_of X G z_str
    n_sum := PySem.W.mg_none_of X G z_sum
    n_tuple := PySem.W.mg_none_of X G z_tuple
    kb_pair_overflows_0_ys_xs_name_kind := kbinds_of F_pair_overflows (fun _ _ _ _ _ _ us ws hl => match us, ws, hl with | [], [_, _, _, _], _ => rfl) rel_kb_pair_overflows_0_ys_xs_name_kind
    kb_pairs_within_0_high_low_ys_xs_name_kind := kbinds_of F_pairs_within (fun _ _ _ _ _ _ us ws hl => match us, ws, hl with | [], [_, _, _, _, _, _], _ => rfl) rel_kb_pairs_within_0_high_low_ys_xs_name_kind
    kb_overflow_total_0_last_first_c_name_kind := kbinds_of F_overflow_total (fun _ _ _ _ _ _ us ws hl => match us, ws, hl with | [], [_, _, _, _, _], _ => rfl) rel_kb_overflow_total_0_last_first_c_name_kind
    kb_safe_values_0_c_name_kind := kbinds_of F_safe_values (fun _ _ _ _ _ _ us ws hl => match us, ws, hl with | [], [_, _, _], _ => rfl) rel_kb_safe_values_0_c_name_kind
    bl_law := fun s v => .of_eq rfl }⟩
theorem walk {l : PySem.W.OpenLaw} {q : Program} {loose : List Str} {XP : (Str → Option Value) → Heap → Prop} {YP : World → Heap → Prop} {d : DefRec} {K : Params → PySem.W.Frag} (hn : l.most = some 63) (hdf : d.params.defaults = []) (hnm : d.name = "law")
    (hY : ∀ (w : World) (h : Heap), YP w h → (K w.params).In h)
    (F : ∀ (w : World) (mg : Str → Option Value) (h : Heap), (K w.params).In h → h.Ns mainGlobals mg → Nonempty (Txt (K w.params) mg)) :
    PySem.W.WalkO q loose XP YP l.row.toRowW d [] (fun f vs => PySem.call f vs) :=
  L2.walk_of (n := 63) (k := 9) (x := "_law_script") (CX := fun _ => CX0) (sp := fun w => sp_law (K w.params) 0 []) hn (by decide) hdf ⟨rfl, by decide, by decide⟩ hY
    (fun w mg fa h KX G hm => by
      obtain ⟨T⟩ := F w mg h KX G
      have e : T.f_law = fa := by
        have q := T.g_law.symm.trans (hnm ▸ hm)
        cases q; rfl
      subst e
      exact ⟨T.fd_law, T.bl_law, fun base _ _ => ok_law T⟩)
    (fun _ _ a ns hl _ hS => ⟨a, ns, rfl, hS, hl, (fun b hb => by cases hb), fun _ => rfl⟩) fun _ _ _ _ _ z => z
end Fw
open PySem PySem.W PyProof.Rows
set_option maxRecDepth 100000 in
set_option maxHeartbeats 0 in
theorem PySem.Challenge.cw_farwrap_k19_overflow_of_values_and_pairs_holds : PySem.Challenge.rw_farwrap_k19_overflow_of_values_and_pairs.Holds := by
  w_on; o_law; k_head; (case hw => w_witness2)
  k_fill
  refine Fw.walk (l := PySem.Challenge.rw_farwrap_k19_overflow_of_values_and_pairs) rfl rfl rfl (fun w h Y => PySem.W.kIn_of Y) ?F
  case F =>
    intro w mg h KX G
    refine' Fw.mk_txt KX G ?aC_Kind ?a_Kind___init__ ?i_Kind___init__ ?pg_Kind ?hd_Kind ?po_Kind ?sa_Kind ?mkk_Kind ?kc_Kind ?na_Kind_bits ?na_Kind_is_signed ?ia_Kind ?ib_Kind ?ic_Kind ?id_Kind ?a_is_integer ?l_is_integer ?c_is_integer ?k_is_integer ?a_check_integer ?l_check_integer ?c_check_integer ?k_check_integer ?a_is_sixty_digits ?l_is_sixty_digits ?c_is_sixty_digits ?k_is_sixty_digits ?a_check_sixty_digits ?l_check_sixty_digits ?c_check_sixty_digits ?k_check_sixty_digits ?a_toward_zero ?l_toward_zero ?c_toward_zero ?k_toward_zero ?a_exact_result ?l_exact_result ?c_exact_result ?k_exact_result ?a__bitwise ?l__bitwise ?c__bitwise ?k__bitwise ?a_is_word ?l_is_word ?c_is_word ?k_is_word ?a_check_word ?l_check_word ?c_check_word ?k_check_word ?l_Kind___init__ ?c_Kind___init__ ?k_Kind___init__ ?a_check_kind ?l_check_kind ?c_check_kind ?k_check_kind ?a_check_value ?l_check_value ?c_check_value ?k_check_value ?a_least ?l_least ?c_least ?k_least ?a_greatest ?l_greatest ?c_greatest ?k_greatest ?a_is_value ?l_is_value ?c_is_value ?k_is_value ?a_wrapped ?l_wrapped ?c_wrapped ?k_wrapped ?a__check_operation ?l__check_operation ?c__check_operation ?k__check_operation ?a_operate ?l_operate ?c_operate ?k_operate ?a_overflows ?l_overflows ?c_overflows ?k_overflows ?a_quotient_total ?l_quotient_total ?c_quotient_total ?k_quotient_total ?a_total_between ?l_total_between ?c_total_between ?k_total_between ?a_check_line ?l_check_line ?c_check_line ?k_check_line ?a_check_range ?l_check_range ?c_check_range ?k_check_range ?a__check ?l__check ?c__check ?k__check ?a__check_within ?l__check_within ?c__check_within ?k__check_within ?a__total ?l__total ?c__total ?k__total ?a_total_within ?l_total_within ?c_total_within ?k_total_within ?a__count ?l__count ?c__count ?k__count ?a__factors_between ?l__factors_between ?c__factors_between ?k__factors_between ?a__safe_values ?l__safe_values ?c__safe_values ?k__safe_values ?a__check_constant ?l__check_constant ?c__check_constant ?k__check_constant ?a_overflow_total ?l_overflow_total ?c_overflow_total ?k_overflow_total ?a_safe_values ?l_safe_values ?c_safe_values ?k_safe_values ?a__check_span ?l__check_span ?c__check_span ?k__check_span ?a__check_pairs ?l__check_pairs ?c__check_pairs ?k__check_pairs ?a__corner ?l__corner ?c__corner ?k__corner ?a__sums_up_to ?l__sums_up_to ?c__sums_up_to ?k__sums_up_to ?a__pairs_between ?l__pairs_between ?c__pairs_between ?k__pairs_between ?a_pair_overflows ?l_pair_overflows ?c_pair_overflows ?k_pair_overflows ?a_pairs_within ?l_pairs_within ?c_pairs_within ?k_pairs_within ?a__law_deck ?l__law_deck ?c__law_deck ?k__law_deck ?a__law_deal ?l__law_deal ?c__law_deal ?k__law_deal ?a__law_choice ?l__law_choice ?c__law_choice ?k__law_choice ?a__law_great ?l__law_great ?c__law_great ?k__law_great ?a__law_values_right ?l__law_values_right ?c__law_values_right ?k__law_values_right ?a__law_span ?l__law_span ?c__law_span ?k__law_span ?a__law_pairs_right ?l__law_pairs_right ?c__law_pairs_right ?k__law_pairs_right ?a__law_great_values_right ?l__law_great_values_right ?c__law_great_values_right ?k__law_great_values_right ?a__law_points_right ?l__law_points_right ?c__law_points_right ?k__law_points_right ?a__law_great_pairs_right ?l__law_great_pairs_right ?c__law_great_pairs_right ?k__law_great_pairs_right ?a_law ?l_law ?c_law ?k_law ?v_BEYOND_SIXTY_DIGITS ?v_OPERATIONS ?lt_OPERATIONS ?sz_OPERATIONS ?vt_OPERATIONS ?v_OVERFLOWING ?lt_OVERFLOWING ?sz_OVERFLOWING ?vt_OVERFLOWING ?v_DIVISIONS ?lt_DIVISIONS ?sz_DIVISIONS ?vt_DIVISIONS ?v_SHIFTS ?lt_SHIFTS ?sz_SHIFTS ?vt_SHIFTS ?v_MOST_BITS ?v_VALUE_OPERATIONS ?lt_VALUE_OPERATIONS ?sz_VALUE_OPERATIONS ?vt_VALUE_OPERATIONS ?v_PAIR_OPERATIONS ?lt_PAIR_OPERATIONS ?sz_PAIR_OPERATIONS ?vt_PAIR_OPERATIONS ?z_abs ?z_bool ?z_divmod ?z_int ?z_isinstance ?z_len ?z_list ?z_max ?z_min ?z_range ?z_sorted ?z_str ?z_sum ?z_tuple
    (case aC_Kind => k_is)
    (case a_Kind___init__ => k_is)
    (case i_Kind___init__ => k_is)
    (case pg_Kind => k_is)
    (case hd_Kind => k_is)
    (case po_Kind => k_is)
    (case sa_Kind => k_is)
    (case mkk_Kind => k_is)
    (case kc_Kind => k_is)
    (case na_Kind_bits => k_is)
    (case na_Kind_is_signed => k_is)
    (case ia_Kind => k_is)
    (case ib_Kind => k_is)
    (case ic_Kind => k_is)
    (case id_Kind => k_is)
    (case a_is_integer => k_is)
    (case l_is_integer => k_is)
    (case c_is_integer => k_is)
    (case k_is_integer => k_is)
    (case a_check_integer => k_is)
    (case l_check_integer => k_is)
    (case c_check_integer => k_is)
    (case k_check_integer => k_is)
    (case a_is_sixty_digits => k_is)
    (case l_is_sixty_digits => k_is)
    (case c_is_sixty_digits => k_is)
    (case k_is_sixty_digits => k_is)
    (case a_check_sixty_digits => k_is)
    (case l_check_sixty_digits => k_is)
    (case c_check_sixty_digits => k_is)
    (case k_check_sixty_digits => k_is)
    (case a_toward_zero => k_is)
    (case l_toward_zero => k_is)
    (case c_toward_zero => k_is)
    (case k_toward_zero => k_is)
    (case a_exact_result => k_is)
    (case l_exact_result => k_is)
    (case c_exact_result => k_is)
    (case k_exact_result => k_is)
    (case a__bitwise => k_is)
    (case l__bitwise => k_is)
    (case c__bitwise => k_is)
    (case k__bitwise => k_is)
    (case a_is_word => k_is)
    (case l_is_word => k_is)
    (case c_is_word => k_is)
    (case k_is_word => k_is)
    (case a_check_word => k_is)
    (case l_check_word => k_is)
    (case c_check_word => k_is)
    (case k_check_word => k_is)
    (case l_Kind___init__ => k_is)
    (case c_Kind___init__ => k_is)
    (case k_Kind___init__ => k_is)
    (case a_check_kind => k_is)
    (case l_check_kind => k_is)
    (case c_check_kind => k_is)
    (case k_check_kind => k_is)
    (case a_check_value => k_is)
    (case l_check_value => k_is)
    (case c_check_value => k_is)
    (case k_check_value => k_is)
    (case a_least => k_is)
    (case l_least => k_is)
    (case c_least => k_is)
    (case k_least => k_is)
    (case a_greatest => k_is)
    (case l_greatest => k_is)
    (case c_greatest => k_is)
    (case k_greatest => k_is)
    (case a_is_value => k_is)
    (case l_is_value => k_is)
    (case c_is_value => k_is)
    (case k_is_value => k_is)
    (case a_wrapped => k_is)
    (case l_wrapped => k_is)
    (case c_wrapped => k_is)
    (case k_wrapped => k_is)
    (case a__check_operation => k_is)
    (case l__check_operation => k_is)
    (case c__check_operation => k_is)
    (case k__check_operation => k_is)
    (case a_operate => k_is)
    (case l_operate => k_is)
    (case c_operate => k_is)
    (case k_operate => k_is)
    (case a_overflows => k_is)
    (case l_overflows => k_is)
    (case c_overflows => k_is)
    (case k_overflows => k_is)
    (case a_quotient_total => k_is)
    (case l_quotient_total => k_is)
    (case c_quotient_total => k_is)
    (case k_quotient_total => k_is)
    (case a_total_between => k_is)
    (case l_total_between => k_is)
    (case c_total_between => k_is)
    (case k_total_between => k_is)
    (case a_check_line => k_is)
    (case l_check_line => k_is)
    (case c_check_line => k_is)
    (case k_check_line => k_is)
    (case a_check_range => k_is)
    (case l_check_range => k_is)
    (case c_check_range => k_is)
    (case k_check_range => k_is)
    (case a__check => k_is)
    (case l__check => k_is)
    (case c__check => k_is)
    (case k__check => k_is)
    (case a__check_within => k_is)
    (case l__check_within => k_is)
    (case c__check_within => k_is)
    (case k__check_within => k_is)
    (case a__total => k_is)
    (case l__total => k_is)
    (case c__total => k_is)
    (case k__total => k_is)
    (case a_total_within => k_is)
    (case l_total_within => k_is)
    (case c_total_within => k_is)
    (case k_total_within => k_is)
    (case a__count => k_is)
    (case l__count => k_is)
    (case c__count => k_is)
    (case k__count => k_is)
    (case a__factors_between => k_is)
    (case l__factors_between => k_is)
    (case c__factors_between => k_is)
    (case k__factors_between => k_is)
    (case a__safe_values => k_is)
    (case l__safe_values => k_is)
    (case c__safe_values => k_is)
    (case k__safe_values => k_is)
    (case a__check_constant => k_is)
    (case l__check_constant => k_is)
    (case c__check_constant => k_is)
    (case k__check_constant => k_is)
    (case a_overflow_total => k_is)
    (case l_overflow_total => k_is)
    (case c_overflow_total => k_is)
    (case k_overflow_total => k_is)
    (case a_safe_values => k_is)
    (case l_safe_values => k_is)
    (case c_safe_values => k_is)
    (case k_safe_values => k_is)
    (case a__check_span => k_is)
    (case l__check_span => k_is)
    (case c__check_span => k_is)
    (case k__check_span => k_is)
    (case a__check_pairs => k_is)
    (case l__check_pairs => k_is)
    (case c__check_pairs => k_is)
    (case k__check_pairs => k_is)
    (case a__corner => k_is)
    (case l__corner => k_is)
    (case c__corner => k_is)
    (case k__corner => k_is)
    (case a__sums_up_to => k_is)
    (case l__sums_up_to => k_is)
    (case c__sums_up_to => k_is)
    (case k__sums_up_to => k_is)
    (case a__pairs_between => k_is)
    (case l__pairs_between => k_is)
    (case c__pairs_between => k_is)
    (case k__pairs_between => k_is)
    (case a_pair_overflows => k_is)
    (case l_pair_overflows => k_is)
    (case c_pair_overflows => k_is)
    (case k_pair_overflows => k_is)
    (case a_pairs_within => k_is)
    (case l_pairs_within => k_is)
    (case c_pairs_within => k_is)
    (case k_pairs_within => k_is)
    (case a__law_deck => k_is)
    (case l__law_deck => k_is)
    (case c__law_deck => k_is)
    (case k__law_deck => k_is)
    (case a__law_deal => k_is)
    (case l__law_deal => k_is)
    (case c__law_deal => k_is)
    (case k__law_deal => k_is)
    (case a__law_choice => k_is)
    (case l__law_choice => k_is)
    (case c__law_choice => k_is)
    (case k__law_choice => k_is)
    (case a__law_great => k_is)
    (case l__law_great => k_is)
    (case c__law_great => k_is)
    (case k__law_great => k_is)
    (case a__law_values_right => k_is)
    (case l__law_values_right => k_is)
    (case c__law_values_right => k_is)
    (case k__law_values_right => k_is)
    (case a__law_span => k_is)
    (case l__law_span => k_is)
    (case c__law_span => k_is)
    (case k__law_span => k_is)
    (case a__law_pairs_right => k_is)
    (case l__law_pairs_right => k_is)
    (case c__law_pairs_right => k_is)
    (case k__law_pairs_right => k_is)
    (case a__law_great_values_right => k_is)
    (case l__law_great_values_right => k_is)
    (case c__law_great_values_right => k_is)
    (case k__law_great_values_right => k_is)
    (case a__law_points_right => k_is)
    (case l__law_points_right => k_is)
    (case c__law_points_right => k_is)
    (case k__law_points_right => k_is)
    (case a__law_great_pairs_right => k_is)
    (case l__law_great_pairs_right => k_is)
    (case c__law_great_pairs_right => k_is)
    (case k__law_great_pairs_right => k_is)
    (case a_law => k_is)
    (case l_law => k_is)
    (case c_law => k_is)
    (case k_law => k_is)
    (case v_BEYOND_SIXTY_DIGITS => k_is)
    (case v_OPERATIONS => k_is)
    (case lt_OPERATIONS => k_is)
    (case sz_OPERATIONS => exact (by decide))
    (case vt_OPERATIONS => exact (.cons ⟨_, rfl⟩ (.cons ⟨_, rfl⟩ (.cons ⟨_, rfl⟩ (.cons ⟨_, rfl⟩ (.cons ⟨_, rfl⟩ (.cons ⟨_, rfl⟩ (.cons ⟨_, rfl⟩ (.cons ⟨_, rfl⟩ (.cons ⟨_, rfl⟩ (.cons ⟨_, rfl⟩ .nil)))))))))))
    (case v_OVERFLOWING => k_is)
    (case lt_OVERFLOWING => k_is)
    (case sz_OVERFLOWING => exact (by decide))
    (case vt_OVERFLOWING => exact (.cons ⟨_, rfl⟩ (.cons ⟨_, rfl⟩ (.cons ⟨_, rfl⟩ (.cons ⟨_, rfl⟩ (.cons ⟨_, rfl⟩ .nil))))))
    (case v_DIVISIONS => k_is)
    (case lt_DIVISIONS => k_is)
    (case sz_DIVISIONS => exact (by decide))
    (case vt_DIVISIONS => exact (.cons ⟨_, rfl⟩ (.cons ⟨_, rfl⟩ .nil)))
    (case v_SHIFTS => k_is)
    (case lt_SHIFTS => k_is)
    (case sz_SHIFTS => exact (by decide))
    (case vt_SHIFTS => exact (.cons ⟨_, rfl⟩ (.cons ⟨_, rfl⟩ .nil)))
    (case v_MOST_BITS => k_is)
    (case v_VALUE_OPERATIONS => k_is)
    (case lt_VALUE_OPERATIONS => k_is)
    (case sz_VALUE_OPERATIONS => exact (by decide))
    (case vt_VALUE_OPERATIONS => exact (.cons ⟨_, rfl⟩ (.cons ⟨_, rfl⟩ (.cons ⟨_, rfl⟩ .nil))))
    (case v_PAIR_OPERATIONS => k_is)
    (case lt_PAIR_OPERATIONS => k_is)
    (case sz_PAIR_OPERATIONS => exact (by decide))
    (case vt_PAIR_OPERATIONS => exact (.cons ⟨_, rfl⟩ (.cons ⟨_, rfl⟩ .nil)))
    (case z_abs => k_is)
    (case z_bool => k_is)
    (case z_divmod => k_is)
    (case z_int => k_is)
    (case z_isinstance => k_is)
    (case z_len => k_is)
    (case z_list => k_is)
    (case z_max => k_is)
    (case z_min => k_is)
    (case z_range => k_is)
    (case z_sorted => k_is)
    (case z_str => k_is)
    (case z_sum => k_is)
    (case z_tuple => k_is)
