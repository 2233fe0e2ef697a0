import PyProof.Rows.All
import Wide.All
import OpenK.AllK
import Wide.FinOn
import HandS.ForMost
import HandS.IsInst
import HandS.WideBits
import HandS.Style
import HandS.SortInts
import HandS.EndTab
import HandS.NoneIn
import HandS.Walk
import PyProof.LongRange
import HandS.Gcd
import HandS.Conv
import HandS.More
import HandS.SetFor
import HandS.SortRule
import HandS.Zip
import HandS.Flow
import KE.DatumOrd
import KE.DatumMore
import HandS.DictTup
import HandS.DictComp
import KE.KDictSum
import PyProof.DictMoreH
import PyProof.DictFindH
import HandS.TupSets
import KE.GoesSet
import KE.KSetDisp
import HandS.SetIn
import KE.KDictItemsList
import HandS.Iter
import PySem.Challenge.RW_farwrap_k41_rings_by_formulas
set_option Elab.async false
set_option linter.all false
set_option maxRecDepth 100000
set_option maxHeartbeats 4000000
namespace Fw
open PySem L2
def rIntC : List V → Hp → VK → Prop := fun xs H Q => (∃ i, xs = [.int i] ∧ Q (.int i) H) ∨ ∃ k, xs = [.bl k] ∧ Q (.int (if k then 1 else 0)) H
def ab (x : Int) : Int := if x < 0 then -x else x
def rIsNn : R2 := fun x y H Q => y = .non ∧ Q (.bl (decide (x = .non))) H
def rAbsC : List V → Hp → VK → Prop := fun xs H Q => ∃ i, xs = [.int i] ∧ Q (.int (if i < 0 then -i else i)) H
def rLenS (K : PySem.W.Frag) : List V → Hp → VK → Prop := fun xs H Q => ∃ p ys, xs = [.ref p] ∧ (SqL K H p ys ∨ SqT K H p ys) ∧ Q (.int ys.length) H
section
variable {X : Cx} {CX : CXT} {k : Nat} {f : Addr} {fd : FuncData} {ps ks : List Str} {sp : Sp} {E : XK} {x : Str} {p pos : Pos} {kws : List Keyword} {tk : TA} {g : List Value → List Value → List Value} {gV : List V → List V → List V}
/-- f(k = v, ..), no positional argument -/
theorem pe_callK0 (F : FnOk X.prog X.w X.K X.mg X.base CX k f fd ps sp) (hr : Room k X.A) (hg : Gl X x) (hm : X.mg x = some (.ref f)) (hk : PySem.W.keepIn X.K (.ref f) = true) (hb : KBinds X.K fd ps ks g gV) (hx : Passes CX X E)
    (hkw : PK X kws tk) (hall : (backToKw pos (keywordEach kws X.env)).all (·.1.isSome) = true := by rfl) (hks : (backToKw pos (keywordEach kws X.env)).filterMap (·.1) = ks := by rfl)
    (hdb : (x == ("__debug__" : Str)) = false := by decide)
    (hpl : ((backTo pos (starEach [] X.env)).any (·.1) || (backToKw pos (keywordEach kws X.env)).any (·.1.isNone)) = false := by rfl) :
    PE X (.Call (.Name x p) [] kws pos) (tCallK sp gV E tNil tk) := by
  refine ⟨fun pins s σ H Q I h => ?_⟩
  refine wpAny_Call_Name_kw (ld_glob I hg hm ?_ hdb)
  refine PySem.W.callWith_KW0 (h₀ := X.base) I.ok.mod.kin hk hall ?_ hpl
  have q : tk σ H fun zs H2 => sp (gV [] zs) H2 Q E := h
  refine thn (hkw.run pos pins s σ H _ I q) fun ws s2 ⟨zs, H2, I2, rz, q2⟩ => ⟨I2.kIn, ?_⟩
  rw [hks]
  exact run_fnk F hr hb hx I2 .nil rz q2
end

section
variable {K : PySem.W.Frag} {C : Addr} {σ : L2.St} {H : Hp} {Q : VK} {D : Ends} {ta tb tc te : TE} {tt tu : TT} {r : R2}
theorem w_c {v : V} (q : Q v H) : tC v σ H Q := q
theorem w_var {i : Nat} {v : V} (h : σ[i]? = some (some v)) (q : Q v H) : tVar i σ H Q := ⟨v, h, q⟩
theorem w_v0 {v : V} {r : L2.St} (q : Q v H) : tVar 0 (some v :: r) H Q := ⟨v, rfl, q⟩
theorem w_n0 {y : Option V} {v : V} {r : L2.St} {Q : L2.St → Hp → Prop} (q : Q (some v :: r) H) : gName 0 v (y :: r) H Q := q
theorem w_v1 {x0 : Option V} {v : V} {r : L2.St} (q : Q v H) : tVar 1 (x0 :: some v :: r) H Q := ⟨v, rfl, q⟩
theorem w_n1 {x0 : Option V} {y : Option V} {v : V} {r : L2.St} {Q : L2.St → Hp → Prop} (q : Q (x0 :: some v :: r) H) : gName 1 v (x0 :: y :: r) H Q := q
theorem w_v2 {x0 x1 : Option V} {v : V} {r : L2.St} (q : Q v H) : tVar 2 (x0 :: x1 :: some v :: r) H Q := ⟨v, rfl, q⟩
theorem w_n2 {x0 x1 : Option V} {y : Option V} {v : V} {r : L2.St} {Q : L2.St → Hp → Prop} (q : Q (x0 :: x1 :: some v :: r) H) : gName 2 v (x0 :: x1 :: y :: r) H Q := q
theorem w_v3 {x0 x1 x2 : Option V} {v : V} {r : L2.St} (q : Q v H) : tVar 3 (x0 :: x1 :: x2 :: some v :: r) H Q := ⟨v, rfl, q⟩
theorem w_n3 {x0 x1 x2 : Option V} {y : Option V} {v : V} {r : L2.St} {Q : L2.St → Hp → Prop} (q : Q (x0 :: x1 :: x2 :: some v :: r) H) : gName 3 v (x0 :: x1 :: x2 :: y :: r) H Q := q
theorem w_v4 {x0 x1 x2 x3 : Option V} {v : V} {r : L2.St} (q : Q v H) : tVar 4 (x0 :: x1 :: x2 :: x3 :: some v :: r) H Q := ⟨v, rfl, q⟩
theorem w_n4 {x0 x1 x2 x3 : Option V} {y : Option V} {v : V} {r : L2.St} {Q : L2.St → Hp → Prop} (q : Q (x0 :: x1 :: x2 :: x3 :: some v :: r) H) : gName 4 v (x0 :: x1 :: x2 :: x3 :: y :: r) H Q := q
theorem w_v5 {x0 x1 x2 x3 x4 : Option V} {v : V} {r : L2.St} (q : Q v H) : tVar 5 (x0 :: x1 :: x2 :: x3 :: x4 :: some v :: r) H Q := ⟨v, rfl, q⟩
theorem w_n5 {x0 x1 x2 x3 x4 : Option V} {y : Option V} {v : V} {r : L2.St} {Q : L2.St → Hp → Prop} (q : Q (x0 :: x1 :: x2 :: x3 :: x4 :: some v :: r) H) : gName 5 v (x0 :: x1 :: x2 :: x3 :: x4 :: y :: r) H Q := q
theorem w_v6 {x0 x1 x2 x3 x4 x5 : Option V} {v : V} {r : L2.St} (q : Q v H) : tVar 6 (x0 :: x1 :: x2 :: x3 :: x4 :: x5 :: some v :: r) H Q := ⟨v, rfl, q⟩
theorem w_n6 {x0 x1 x2 x3 x4 x5 : Option V} {y : Option V} {v : V} {r : L2.St} {Q : L2.St → Hp → Prop} (q : Q (x0 :: x1 :: x2 :: x3 :: x4 :: x5 :: some v :: r) H) : gName 6 v (x0 :: x1 :: x2 :: x3 :: x4 :: x5 :: y :: r) H Q := q
theorem w_v7 {x0 x1 x2 x3 x4 x5 x6 : Option V} {v : V} {r : L2.St} (q : Q v H) : tVar 7 (x0 :: x1 :: x2 :: x3 :: x4 :: x5 :: x6 :: some v :: r) H Q := ⟨v, rfl, q⟩
theorem w_n7 {x0 x1 x2 x3 x4 x5 x6 : Option V} {y : Option V} {v : V} {r : L2.St} {Q : L2.St → Hp → Prop} (q : Q (x0 :: x1 :: x2 :: x3 :: x4 :: x5 :: x6 :: some v :: r) H) : gName 7 v (x0 :: x1 :: x2 :: x3 :: x4 :: x5 :: x6 :: y :: r) H Q := q
theorem w_v8 {x0 x1 x2 x3 x4 x5 x6 x7 : Option V} {v : V} {r : L2.St} (q : Q v H) : tVar 8 (x0 :: x1 :: x2 :: x3 :: x4 :: x5 :: x6 :: x7 :: some v :: r) H Q := ⟨v, rfl, q⟩
theorem w_n8 {x0 x1 x2 x3 x4 x5 x6 x7 : Option V} {y : Option V} {v : V} {r : L2.St} {Q : L2.St → Hp → Prop} (q : Q (x0 :: x1 :: x2 :: x3 :: x4 :: x5 :: x6 :: x7 :: some v :: r) H) : gName 8 v (x0 :: x1 :: x2 :: x3 :: x4 :: x5 :: x6 :: x7 :: y :: r) H Q := q
theorem w_v9 {x0 x1 x2 x3 x4 x5 x6 x7 x8 : Option V} {v : V} {r : L2.St} (q : Q v H) : tVar 9 (x0 :: x1 :: x2 :: x3 :: x4 :: x5 :: x6 :: x7 :: x8 :: some v :: r) H Q := ⟨v, rfl, q⟩
theorem w_n9 {x0 x1 x2 x3 x4 x5 x6 x7 x8 : Option V} {y : Option V} {v : V} {r : L2.St} {Q : L2.St → Hp → Prop} (q : Q (x0 :: x1 :: x2 :: x3 :: x4 :: x5 :: x6 :: x7 :: x8 :: some v :: r) H) : gName 9 v (x0 :: x1 :: x2 :: x3 :: x4 :: x5 :: x6 :: x7 :: x8 :: y :: r) H Q := q
theorem w_v10 {x0 x1 x2 x3 x4 x5 x6 x7 x8 x9 : Option V} {v : V} {r : L2.St} (q : Q v H) : tVar 10 (x0 :: x1 :: x2 :: x3 :: x4 :: x5 :: x6 :: x7 :: x8 :: x9 :: some v :: r) H Q := ⟨v, rfl, q⟩
theorem w_n10 {x0 x1 x2 x3 x4 x5 x6 x7 x8 x9 : Option V} {y : Option V} {v : V} {r : L2.St} {Q : L2.St → Hp → Prop} (q : Q (x0 :: x1 :: x2 :: x3 :: x4 :: x5 :: x6 :: x7 :: x8 :: x9 :: some v :: r) H) : gName 10 v (x0 :: x1 :: x2 :: x3 :: x4 :: x5 :: x6 :: x7 :: x8 :: x9 :: y :: r) H Q := q
theorem w_v11 {x0 x1 x2 x3 x4 x5 x6 x7 x8 x9 x10 : Option V} {v : V} {r : L2.St} (q : Q v H) : tVar 11 (x0 :: x1 :: x2 :: x3 :: x4 :: x5 :: x6 :: x7 :: x8 :: x9 :: x10 :: some v :: r) H Q := ⟨v, rfl, q⟩
theorem w_n11 {x0 x1 x2 x3 x4 x5 x6 x7 x8 x9 x10 : Option V} {y : Option V} {v : V} {r : L2.St} {Q : L2.St → Hp → Prop} (q : Q (x0 :: x1 :: x2 :: x3 :: x4 :: x5 :: x6 :: x7 :: x8 :: x9 :: x10 :: some v :: r) H) : gName 11 v (x0 :: x1 :: x2 :: x3 :: x4 :: x5 :: x6 :: x7 :: x8 :: x9 :: x10 :: y :: r) H Q := q
theorem w_v12 {x0 x1 x2 x3 x4 x5 x6 x7 x8 x9 x10 x11 : Option V} {v : V} {r : L2.St} (q : Q v H) : tVar 12 (x0 :: x1 :: x2 :: x3 :: x4 :: x5 :: x6 :: x7 :: x8 :: x9 :: x10 :: x11 :: some v :: r) H Q := ⟨v, rfl, q⟩
theorem w_n12 {x0 x1 x2 x3 x4 x5 x6 x7 x8 x9 x10 x11 : Option V} {y : Option V} {v : V} {r : L2.St} {Q : L2.St → Hp → Prop} (q : Q (x0 :: x1 :: x2 :: x3 :: x4 :: x5 :: x6 :: x7 :: x8 :: x9 :: x10 :: x11 :: some v :: r) H) : gName 12 v (x0 :: x1 :: x2 :: x3 :: x4 :: x5 :: x6 :: x7 :: x8 :: x9 :: x10 :: x11 :: y :: r) H Q := q
theorem w_v13 {x0 x1 x2 x3 x4 x5 x6 x7 x8 x9 x10 x11 x12 : Option V} {v : V} {r : L2.St} (q : Q v H) : tVar 13 (x0 :: x1 :: x2 :: x3 :: x4 :: x5 :: x6 :: x7 :: x8 :: x9 :: x10 :: x11 :: x12 :: some v :: r) H Q := ⟨v, rfl, q⟩
theorem w_n13 {x0 x1 x2 x3 x4 x5 x6 x7 x8 x9 x10 x11 x12 : Option V} {y : Option V} {v : V} {r : L2.St} {Q : L2.St → Hp → Prop} (q : Q (x0 :: x1 :: x2 :: x3 :: x4 :: x5 :: x6 :: x7 :: x8 :: x9 :: x10 :: x11 :: x12 :: some v :: r) H) : gName 13 v (x0 :: x1 :: x2 :: x3 :: x4 :: x5 :: x6 :: x7 :: x8 :: x9 :: x10 :: x11 :: x12 :: y :: r) H Q := q
theorem w_v14 {x0 x1 x2 x3 x4 x5 x6 x7 x8 x9 x10 x11 x12 x13 : Option V} {v : V} {r : L2.St} (q : Q v H) : tVar 14 (x0 :: x1 :: x2 :: x3 :: x4 :: x5 :: x6 :: x7 :: x8 :: x9 :: x10 :: x11 :: x12 :: x13 :: some v :: r) H Q := ⟨v, rfl, q⟩
theorem w_n14 {x0 x1 x2 x3 x4 x5 x6 x7 x8 x9 x10 x11 x12 x13 : Option V} {y : Option V} {v : V} {r : L2.St} {Q : L2.St → Hp → Prop} (q : Q (x0 :: x1 :: x2 :: x3 :: x4 :: x5 :: x6 :: x7 :: x8 :: x9 :: x10 :: x11 :: x12 :: x13 :: some v :: r) H) : gName 14 v (x0 :: x1 :: x2 :: x3 :: x4 :: x5 :: x6 :: x7 :: x8 :: x9 :: x10 :: x11 :: x12 :: x13 :: y :: r) H Q := q
theorem w_v15 {x0 x1 x2 x3 x4 x5 x6 x7 x8 x9 x10 x11 x12 x13 x14 : Option V} {v : V} {r : L2.St} (q : Q v H) : tVar 15 (x0 :: x1 :: x2 :: x3 :: x4 :: x5 :: x6 :: x7 :: x8 :: x9 :: x10 :: x11 :: x12 :: x13 :: x14 :: some v :: r) H Q := ⟨v, rfl, q⟩
theorem w_n15 {x0 x1 x2 x3 x4 x5 x6 x7 x8 x9 x10 x11 x12 x13 x14 : Option V} {y : Option V} {v : V} {r : L2.St} {Q : L2.St → Hp → Prop} (q : Q (x0 :: x1 :: x2 :: x3 :: x4 :: x5 :: x6 :: x7 :: x8 :: x9 :: x10 :: x11 :: x12 :: x13 :: x14 :: some v :: r) H) : gName 15 v (x0 :: x1 :: x2 :: x3 :: x4 :: x5 :: x6 :: x7 :: x8 :: x9 :: x10 :: x11 :: x12 :: x13 :: x14 :: y :: r) H Q := q
theorem w_v16 {x0 x1 x2 x3 x4 x5 x6 x7 x8 x9 x10 x11 x12 x13 x14 x15 : Option V} {v : V} {r : L2.St} (q : Q v H) : tVar 16 (x0 :: x1 :: x2 :: x3 :: x4 :: x5 :: x6 :: x7 :: x8 :: x9 :: x10 :: x11 :: x12 :: x13 :: x14 :: x15 :: some v :: r) H Q := ⟨v, rfl, q⟩
theorem w_n16 {x0 x1 x2 x3 x4 x5 x6 x7 x8 x9 x10 x11 x12 x13 x14 x15 : Option V} {y : Option V} {v : V} {r : L2.St} {Q : L2.St → Hp → Prop} (q : Q (x0 :: x1 :: x2 :: x3 :: x4 :: x5 :: x6 :: x7 :: x8 :: x9 :: x10 :: x11 :: x12 :: x13 :: x14 :: x15 :: some v :: r) H) : gName 16 v (x0 :: x1 :: x2 :: x3 :: x4 :: x5 :: x6 :: x7 :: x8 :: x9 :: x10 :: x11 :: x12 :: x13 :: x14 :: x15 :: y :: r) H Q := q
theorem w_v17 {x0 x1 x2 x3 x4 x5 x6 x7 x8 x9 x10 x11 x12 x13 x14 x15 x16 : Option V} {v : V} {r : L2.St} (q : Q v H) : tVar 17 (x0 :: x1 :: x2 :: x3 :: x4 :: x5 :: x6 :: x7 :: x8 :: x9 :: x10 :: x11 :: x12 :: x13 :: x14 :: x15 :: x16 :: some v :: r) H Q := ⟨v, rfl, q⟩
theorem w_n17 {x0 x1 x2 x3 x4 x5 x6 x7 x8 x9 x10 x11 x12 x13 x14 x15 x16 : Option V} {y : Option V} {v : V} {r : L2.St} {Q : L2.St → Hp → Prop} (q : Q (x0 :: x1 :: x2 :: x3 :: x4 :: x5 :: x6 :: x7 :: x8 :: x9 :: x10 :: x11 :: x12 :: x13 :: x14 :: x15 :: x16 :: some v :: r) H) : gName 17 v (x0 :: x1 :: x2 :: x3 :: x4 :: x5 :: x6 :: x7 :: x8 :: x9 :: x10 :: x11 :: x12 :: x13 :: x14 :: x15 :: x16 :: y :: r) H Q := q
theorem w_v18 {x0 x1 x2 x3 x4 x5 x6 x7 x8 x9 x10 x11 x12 x13 x14 x15 x16 x17 : Option V} {v : V} {r : L2.St} (q : Q v H) : tVar 18 (x0 :: x1 :: x2 :: x3 :: x4 :: x5 :: x6 :: x7 :: x8 :: x9 :: x10 :: x11 :: x12 :: x13 :: x14 :: x15 :: x16 :: x17 :: some v :: r) H Q := ⟨v, rfl, q⟩
theorem w_n18 {x0 x1 x2 x3 x4 x5 x6 x7 x8 x9 x10 x11 x12 x13 x14 x15 x16 x17 : Option V} {y : Option V} {v : V} {r : L2.St} {Q : L2.St → Hp → Prop} (q : Q (x0 :: x1 :: x2 :: x3 :: x4 :: x5 :: x6 :: x7 :: x8 :: x9 :: x10 :: x11 :: x12 :: x13 :: x14 :: x15 :: x16 :: x17 :: some v :: r) H) : gName 18 v (x0 :: x1 :: x2 :: x3 :: x4 :: x5 :: x6 :: x7 :: x8 :: x9 :: x10 :: x11 :: x12 :: x13 :: x14 :: x15 :: x16 :: x17 :: y :: r) H Q := q
theorem w_v19 {x0 x1 x2 x3 x4 x5 x6 x7 x8 x9 x10 x11 x12 x13 x14 x15 x16 x17 x18 : Option V} {v : V} {r : L2.St} (q : Q v H) : tVar 19 (x0 :: x1 :: x2 :: x3 :: x4 :: x5 :: x6 :: x7 :: x8 :: x9 :: x10 :: x11 :: x12 :: x13 :: x14 :: x15 :: x16 :: x17 :: x18 :: some v :: r) H Q := ⟨v, rfl, q⟩
theorem w_n19 {x0 x1 x2 x3 x4 x5 x6 x7 x8 x9 x10 x11 x12 x13 x14 x15 x16 x17 x18 : Option V} {y : Option V} {v : V} {r : L2.St} {Q : L2.St → Hp → Prop} (q : Q (x0 :: x1 :: x2 :: x3 :: x4 :: x5 :: x6 :: x7 :: x8 :: x9 :: x10 :: x11 :: x12 :: x13 :: x14 :: x15 :: x16 :: x17 :: x18 :: some v :: r) H) : gName 19 v (x0 :: x1 :: x2 :: x3 :: x4 :: x5 :: x6 :: x7 :: x8 :: x9 :: x10 :: x11 :: x12 :: x13 :: x14 :: x15 :: x16 :: x17 :: x18 :: y :: r) H Q := q
theorem w_v20 {x0 x1 x2 x3 x4 x5 x6 x7 x8 x9 x10 x11 x12 x13 x14 x15 x16 x17 x18 x19 : Option V} {v : V} {r : L2.St} (q : Q v H) : tVar 20 (x0 :: x1 :: x2 :: x3 :: x4 :: x5 :: x6 :: x7 :: x8 :: x9 :: x10 :: x11 :: x12 :: x13 :: x14 :: x15 :: x16 :: x17 :: x18 :: x19 :: some v :: r) H Q := ⟨v, rfl, q⟩
theorem w_n20 {x0 x1 x2 x3 x4 x5 x6 x7 x8 x9 x10 x11 x12 x13 x14 x15 x16 x17 x18 x19 : Option V} {y : Option V} {v : V} {r : L2.St} {Q : L2.St → Hp → Prop} (q : Q (x0 :: x1 :: x2 :: x3 :: x4 :: x5 :: x6 :: x7 :: x8 :: x9 :: x10 :: x11 :: x12 :: x13 :: x14 :: x15 :: x16 :: x17 :: x18 :: x19 :: some v :: r) H) : gName 20 v (x0 :: x1 :: x2 :: x3 :: x4 :: x5 :: x6 :: x7 :: x8 :: x9 :: x10 :: x11 :: x12 :: x13 :: x14 :: x15 :: x16 :: x17 :: x18 :: x19 :: y :: r) H Q := q
theorem w_v21 {x0 x1 x2 x3 x4 x5 x6 x7 x8 x9 x10 x11 x12 x13 x14 x15 x16 x17 x18 x19 x20 : Option V} {v : V} {r : L2.St} (q : Q v H) : tVar 21 (x0 :: x1 :: x2 :: x3 :: x4 :: x5 :: x6 :: x7 :: x8 :: x9 :: x10 :: x11 :: x12 :: x13 :: x14 :: x15 :: x16 :: x17 :: x18 :: x19 :: x20 :: some v :: r) H Q := ⟨v, rfl, q⟩
theorem w_n21 {x0 x1 x2 x3 x4 x5 x6 x7 x8 x9 x10 x11 x12 x13 x14 x15 x16 x17 x18 x19 x20 : Option V} {y : Option V} {v : V} {r : L2.St} {Q : L2.St → Hp → Prop} (q : Q (x0 :: x1 :: x2 :: x3 :: x4 :: x5 :: x6 :: x7 :: x8 :: x9 :: x10 :: x11 :: x12 :: x13 :: x14 :: x15 :: x16 :: x17 :: x18 :: x19 :: x20 :: some v :: r) H) : gName 21 v (x0 :: x1 :: x2 :: x3 :: x4 :: x5 :: x6 :: x7 :: x8 :: x9 :: x10 :: x11 :: x12 :: x13 :: x14 :: x15 :: x16 :: x17 :: x18 :: x19 :: x20 :: y :: r) H Q := q
theorem w_v22 {x0 x1 x2 x3 x4 x5 x6 x7 x8 x9 x10 x11 x12 x13 x14 x15 x16 x17 x18 x19 x20 x21 : Option V} {v : V} {r : L2.St} (q : Q v H) : tVar 22 (x0 :: x1 :: x2 :: x3 :: x4 :: x5 :: x6 :: x7 :: x8 :: x9 :: x10 :: x11 :: x12 :: x13 :: x14 :: x15 :: x16 :: x17 :: x18 :: x19 :: x20 :: x21 :: some v :: r) H Q := ⟨v, rfl, q⟩
theorem w_n22 {x0 x1 x2 x3 x4 x5 x6 x7 x8 x9 x10 x11 x12 x13 x14 x15 x16 x17 x18 x19 x20 x21 : Option V} {y : Option V} {v : V} {r : L2.St} {Q : L2.St → Hp → Prop} (q : Q (x0 :: x1 :: x2 :: x3 :: x4 :: x5 :: x6 :: x7 :: x8 :: x9 :: x10 :: x11 :: x12 :: x13 :: x14 :: x15 :: x16 :: x17 :: x18 :: x19 :: x20 :: x21 :: some v :: r) H) : gName 22 v (x0 :: x1 :: x2 :: x3 :: x4 :: x5 :: x6 :: x7 :: x8 :: x9 :: x10 :: x11 :: x12 :: x13 :: x14 :: x15 :: x16 :: x17 :: x18 :: x19 :: x20 :: x21 :: y :: r) H Q := q
theorem w_v23 {x0 x1 x2 x3 x4 x5 x6 x7 x8 x9 x10 x11 x12 x13 x14 x15 x16 x17 x18 x19 x20 x21 x22 : Option V} {v : V} {r : L2.St} (q : Q v H) : tVar 23 (x0 :: x1 :: x2 :: x3 :: x4 :: x5 :: x6 :: x7 :: x8 :: x9 :: x10 :: x11 :: x12 :: x13 :: x14 :: x15 :: x16 :: x17 :: x18 :: x19 :: x20 :: x21 :: x22 :: some v :: r) H Q := ⟨v, rfl, q⟩
theorem w_n23 {x0 x1 x2 x3 x4 x5 x6 x7 x8 x9 x10 x11 x12 x13 x14 x15 x16 x17 x18 x19 x20 x21 x22 : Option V} {y : Option V} {v : V} {r : L2.St} {Q : L2.St → Hp → Prop} (q : Q (x0 :: x1 :: x2 :: x3 :: x4 :: x5 :: x6 :: x7 :: x8 :: x9 :: x10 :: x11 :: x12 :: x13 :: x14 :: x15 :: x16 :: x17 :: x18 :: x19 :: x20 :: x21 :: x22 :: some v :: r) H) : gName 23 v (x0 :: x1 :: x2 :: x3 :: x4 :: x5 :: x6 :: x7 :: x8 :: x9 :: x10 :: x11 :: x12 :: x13 :: x14 :: x15 :: x16 :: x17 :: x18 :: x19 :: x20 :: x21 :: x22 :: y :: r) H Q := q
theorem w_v24 {x0 x1 x2 x3 x4 x5 x6 x7 x8 x9 x10 x11 x12 x13 x14 x15 x16 x17 x18 x19 x20 x21 x22 x23 : Option V} {v : V} {r : L2.St} (q : Q v H) : tVar 24 (x0 :: x1 :: x2 :: x3 :: x4 :: x5 :: x6 :: x7 :: x8 :: x9 :: x10 :: x11 :: x12 :: x13 :: x14 :: x15 :: x16 :: x17 :: x18 :: x19 :: x20 :: x21 :: x22 :: x23 :: some v :: r) H Q := ⟨v, rfl, q⟩
theorem w_n24 {x0 x1 x2 x3 x4 x5 x6 x7 x8 x9 x10 x11 x12 x13 x14 x15 x16 x17 x18 x19 x20 x21 x22 x23 : Option V} {y : Option V} {v : V} {r : L2.St} {Q : L2.St → Hp → Prop} (q : Q (x0 :: x1 :: x2 :: x3 :: x4 :: x5 :: x6 :: x7 :: x8 :: x9 :: x10 :: x11 :: x12 :: x13 :: x14 :: x15 :: x16 :: x17 :: x18 :: x19 :: x20 :: x21 :: x22 :: x23 :: some v :: r) H) : gName 24 v (x0 :: x1 :: x2 :: x3 :: x4 :: x5 :: x6 :: x7 :: x8 :: x9 :: x10 :: x11 :: x12 :: x13 :: x14 :: x15 :: x16 :: x17 :: x18 :: x19 :: x20 :: x21 :: x22 :: x23 :: y :: r) H Q := q
theorem w_v25 {x0 x1 x2 x3 x4 x5 x6 x7 x8 x9 x10 x11 x12 x13 x14 x15 x16 x17 x18 x19 x20 x21 x22 x23 x24 : Option V} {v : V} {r : L2.St} (q : Q v H) : tVar 25 (x0 :: x1 :: x2 :: x3 :: x4 :: x5 :: x6 :: x7 :: x8 :: x9 :: x10 :: x11 :: x12 :: x13 :: x14 :: x15 :: x16 :: x17 :: x18 :: x19 :: x20 :: x21 :: x22 :: x23 :: x24 :: some v :: r) H Q := ⟨v, rfl, q⟩
theorem w_n25 {x0 x1 x2 x3 x4 x5 x6 x7 x8 x9 x10 x11 x12 x13 x14 x15 x16 x17 x18 x19 x20 x21 x22 x23 x24 : Option V} {y : Option V} {v : V} {r : L2.St} {Q : L2.St → Hp → Prop} (q : Q (x0 :: x1 :: x2 :: x3 :: x4 :: x5 :: x6 :: x7 :: x8 :: x9 :: x10 :: x11 :: x12 :: x13 :: x14 :: x15 :: x16 :: x17 :: x18 :: x19 :: x20 :: x21 :: x22 :: x23 :: x24 :: some v :: r) H) : gName 25 v (x0 :: x1 :: x2 :: x3 :: x4 :: x5 :: x6 :: x7 :: x8 :: x9 :: x10 :: x11 :: x12 :: x13 :: x14 :: x15 :: x16 :: x17 :: x18 :: x19 :: x20 :: x21 :: x22 :: x23 :: x24 :: y :: r) H Q := q
theorem w_v26 {x0 x1 x2 x3 x4 x5 x6 x7 x8 x9 x10 x11 x12 x13 x14 x15 x16 x17 x18 x19 x20 x21 x22 x23 x24 x25 : Option V} {v : V} {r : L2.St} (q : Q v H) : tVar 26 (x0 :: x1 :: x2 :: x3 :: x4 :: x5 :: x6 :: x7 :: x8 :: x9 :: x10 :: x11 :: x12 :: x13 :: x14 :: x15 :: x16 :: x17 :: x18 :: x19 :: x20 :: x21 :: x22 :: x23 :: x24 :: x25 :: some v :: r) H Q := ⟨v, rfl, q⟩
theorem w_n26 {x0 x1 x2 x3 x4 x5 x6 x7 x8 x9 x10 x11 x12 x13 x14 x15 x16 x17 x18 x19 x20 x21 x22 x23 x24 x25 : Option V} {y : Option V} {v : V} {r : L2.St} {Q : L2.St → Hp → Prop} (q : Q (x0 :: x1 :: x2 :: x3 :: x4 :: x5 :: x6 :: x7 :: x8 :: x9 :: x10 :: x11 :: x12 :: x13 :: x14 :: x15 :: x16 :: x17 :: x18 :: x19 :: x20 :: x21 :: x22 :: x23 :: x24 :: x25 :: some v :: r) H) : gName 26 v (x0 :: x1 :: x2 :: x3 :: x4 :: x5 :: x6 :: x7 :: x8 :: x9 :: x10 :: x11 :: x12 :: x13 :: x14 :: x15 :: x16 :: x17 :: x18 :: x19 :: x20 :: x21 :: x22 :: x23 :: x24 :: x25 :: y :: r) H Q := q
theorem w_v27 {x0 x1 x2 x3 x4 x5 x6 x7 x8 x9 x10 x11 x12 x13 x14 x15 x16 x17 x18 x19 x20 x21 x22 x23 x24 x25 x26 : Option V} {v : V} {r : L2.St} (q : Q v H) : tVar 27 (x0 :: x1 :: x2 :: x3 :: x4 :: x5 :: x6 :: x7 :: x8 :: x9 :: x10 :: x11 :: x12 :: x13 :: x14 :: x15 :: x16 :: x17 :: x18 :: x19 :: x20 :: x21 :: x22 :: x23 :: x24 :: x25 :: x26 :: some v :: r) H Q := ⟨v, rfl, q⟩
theorem w_n27 {x0 x1 x2 x3 x4 x5 x6 x7 x8 x9 x10 x11 x12 x13 x14 x15 x16 x17 x18 x19 x20 x21 x22 x23 x24 x25 x26 : Option V} {y : Option V} {v : V} {r : L2.St} {Q : L2.St → Hp → Prop} (q : Q (x0 :: x1 :: x2 :: x3 :: x4 :: x5 :: x6 :: x7 :: x8 :: x9 :: x10 :: x11 :: x12 :: x13 :: x14 :: x15 :: x16 :: x17 :: x18 :: x19 :: x20 :: x21 :: x22 :: x23 :: x24 :: x25 :: x26 :: some v :: r) H) : gName 27 v (x0 :: x1 :: x2 :: x3 :: x4 :: x5 :: x6 :: x7 :: x8 :: x9 :: x10 :: x11 :: x12 :: x13 :: x14 :: x15 :: x16 :: x17 :: x18 :: x19 :: x20 :: x21 :: x22 :: x23 :: x24 :: x25 :: x26 :: y :: r) H Q := q
theorem w_v28 {x0 x1 x2 x3 x4 x5 x6 x7 x8 x9 x10 x11 x12 x13 x14 x15 x16 x17 x18 x19 x20 x21 x22 x23 x24 x25 x26 x27 : Option V} {v : V} {r : L2.St} (q : Q v H) : tVar 28 (x0 :: x1 :: x2 :: x3 :: x4 :: x5 :: x6 :: x7 :: x8 :: x9 :: x10 :: x11 :: x12 :: x13 :: x14 :: x15 :: x16 :: x17 :: x18 :: x19 :: x20 :: x21 :: x22 :: x23 :: x24 :: x25 :: x26 :: x27 :: some v :: r) H Q := ⟨v, rfl, q⟩
theorem w_n28 {x0 x1 x2 x3 x4 x5 x6 x7 x8 x9 x10 x11 x12 x13 x14 x15 x16 x17 x18 x19 x20 x21 x22 x23 x24 x25 x26 x27 : Option V} {y : Option V} {v : V} {r : L2.St} {Q : L2.St → Hp → Prop} (q : Q (x0 :: x1 :: x2 :: x3 :: x4 :: x5 :: x6 :: x7 :: x8 :: x9 :: x10 :: x11 :: x12 :: x13 :: x14 :: x15 :: x16 :: x17 :: x18 :: x19 :: x20 :: x21 :: x22 :: x23 :: x24 :: x25 :: x26 :: x27 :: some v :: r) H) : gName 28 v (x0 :: x1 :: x2 :: x3 :: x4 :: x5 :: x6 :: x7 :: x8 :: x9 :: x10 :: x11 :: x12 :: x13 :: x14 :: x15 :: x16 :: x17 :: x18 :: x19 :: x20 :: x21 :: x22 :: x23 :: x24 :: x25 :: x26 :: x27 :: y :: r) H Q := q
theorem w_v29 {x0 x1 x2 x3 x4 x5 x6 x7 x8 x9 x10 x11 x12 x13 x14 x15 x16 x17 x18 x19 x20 x21 x22 x23 x24 x25 x26 x27 x28 : Option V} {v : V} {r : L2.St} (q : Q v H) : tVar 29 (x0 :: x1 :: x2 :: x3 :: x4 :: x5 :: x6 :: x7 :: x8 :: x9 :: x10 :: x11 :: x12 :: x13 :: x14 :: x15 :: x16 :: x17 :: x18 :: x19 :: x20 :: x21 :: x22 :: x23 :: x24 :: x25 :: x26 :: x27 :: x28 :: some v :: r) H Q := ⟨v, rfl, q⟩
theorem w_n29 {x0 x1 x2 x3 x4 x5 x6 x7 x8 x9 x10 x11 x12 x13 x14 x15 x16 x17 x18 x19 x20 x21 x22 x23 x24 x25 x26 x27 x28 : Option V} {y : Option V} {v : V} {r : L2.St} {Q : L2.St → Hp → Prop} (q : Q (x0 :: x1 :: x2 :: x3 :: x4 :: x5 :: x6 :: x7 :: x8 :: x9 :: x10 :: x11 :: x12 :: x13 :: x14 :: x15 :: x16 :: x17 :: x18 :: x19 :: x20 :: x21 :: x22 :: x23 :: x24 :: x25 :: x26 :: x27 :: x28 :: some v :: r) H) : gName 29 v (x0 :: x1 :: x2 :: x3 :: x4 :: x5 :: x6 :: x7 :: x8 :: x9 :: x10 :: x11 :: x12 :: x13 :: x14 :: x15 :: x16 :: x17 :: x18 :: x19 :: x20 :: x21 :: x22 :: x23 :: x24 :: x25 :: x26 :: x27 :: x28 :: y :: r) H Q := q
theorem w_v30 {x0 x1 x2 x3 x4 x5 x6 x7 x8 x9 x10 x11 x12 x13 x14 x15 x16 x17 x18 x19 x20 x21 x22 x23 x24 x25 x26 x27 x28 x29 : Option V} {v : V} {r : L2.St} (q : Q v H) : tVar 30 (x0 :: x1 :: x2 :: x3 :: x4 :: x5 :: x6 :: x7 :: x8 :: x9 :: x10 :: x11 :: x12 :: x13 :: x14 :: x15 :: x16 :: x17 :: x18 :: x19 :: x20 :: x21 :: x22 :: x23 :: x24 :: x25 :: x26 :: x27 :: x28 :: x29 :: some v :: r) H Q := ⟨v, rfl, q⟩
theorem w_n30 {x0 x1 x2 x3 x4 x5 x6 x7 x8 x9 x10 x11 x12 x13 x14 x15 x16 x17 x18 x19 x20 x21 x22 x23 x24 x25 x26 x27 x28 x29 : Option V} {y : Option V} {v : V} {r : L2.St} {Q : L2.St → Hp → Prop} (q : Q (x0 :: x1 :: x2 :: x3 :: x4 :: x5 :: x6 :: x7 :: x8 :: x9 :: x10 :: x11 :: x12 :: x13 :: x14 :: x15 :: x16 :: x17 :: x18 :: x19 :: x20 :: x21 :: x22 :: x23 :: x24 :: x25 :: x26 :: x27 :: x28 :: x29 :: some v :: r) H) : gName 30 v (x0 :: x1 :: x2 :: x3 :: x4 :: x5 :: x6 :: x7 :: x8 :: x9 :: x10 :: x11 :: x12 :: x13 :: x14 :: x15 :: x16 :: x17 :: x18 :: x19 :: x20 :: x21 :: x22 :: x23 :: x24 :: x25 :: x26 :: x27 :: x28 :: x29 :: y :: r) H Q := q
theorem w_v31 {x0 x1 x2 x3 x4 x5 x6 x7 x8 x9 x10 x11 x12 x13 x14 x15 x16 x17 x18 x19 x20 x21 x22 x23 x24 x25 x26 x27 x28 x29 x30 : Option V} {v : V} {r : L2.St} (q : Q v H) : tVar 31 (x0 :: x1 :: x2 :: x3 :: x4 :: x5 :: x6 :: x7 :: x8 :: x9 :: x10 :: x11 :: x12 :: x13 :: x14 :: x15 :: x16 :: x17 :: x18 :: x19 :: x20 :: x21 :: x22 :: x23 :: x24 :: x25 :: x26 :: x27 :: x28 :: x29 :: x30 :: some v :: r) H Q := ⟨v, rfl, q⟩
theorem w_n31 {x0 x1 x2 x3 x4 x5 x6 x7 x8 x9 x10 x11 x12 x13 x14 x15 x16 x17 x18 x19 x20 x21 x22 x23 x24 x25 x26 x27 x28 x29 x30 : Option V} {y : Option V} {v : V} {r : L2.St} {Q : L2.St → Hp → Prop} (q : Q (x0 :: x1 :: x2 :: x3 :: x4 :: x5 :: x6 :: x7 :: x8 :: x9 :: x10 :: x11 :: x12 :: x13 :: x14 :: x15 :: x16 :: x17 :: x18 :: x19 :: x20 :: x21 :: x22 :: x23 :: x24 :: x25 :: x26 :: x27 :: x28 :: x29 :: x30 :: some v :: r) H) : gName 31 v (x0 :: x1 :: x2 :: x3 :: x4 :: x5 :: x6 :: x7 :: x8 :: x9 :: x10 :: x11 :: x12 :: x13 :: x14 :: x15 :: x16 :: x17 :: x18 :: x19 :: x20 :: x21 :: x22 :: x23 :: x24 :: x25 :: x26 :: x27 :: x28 :: x29 :: x30 :: y :: r) H Q := q
theorem w_op (q : ta σ H fun x H1 => tb σ H1 fun y H2 => r x y H2 Q) : tOp r ta tb σ H Q := q
theorem w_un {r : V → Hp → VK → Prop} (q : ta σ H fun x H1 => r x H1 Q) : tUn r ta σ H Q := q
theorem w_chain {r' : R2} (q : ta σ H fun x H1 => tb σ H1 fun y H2 => r x y H2 fun z H3 => ∃ k, z = .bl k ∧ (if k = true then tc σ H3 fun w' H4 => r' y w' H4 Q else Q (.bl false) H3)) : tChain r r' ta tb tc σ H Q := q
theorem w_I {CC : Int → Int → Prop} {g : Int → Int → V} {i j : Int} (c : CC i j) (q : Q (g i j) H) : rI CC g (.int i) (.int j) H Q := ⟨i, j, rfl, rfl, c, q⟩
theorem w_I0 {g : Int → Int → V} {i j : Int} (q : Q (g i j) H) : rI0 g (.int i) (.int j) H Q := ⟨i, j, rfl, rfl, q⟩
theorem w_U {g : Int → V} {i : Int} (q : Q (g i) H) : rU g (.int i) H Q := ⟨i, rfl, q⟩
theorem w_eqI {i j : Int} (q : Q (.bl (decide (i = j))) H) : rEq (.int i) (.int j) H Q := by
  refine ⟨rfl, ?_⟩
  have e : decide (V.int i = V.int j) = decide (i = j) := by
    by_cases h : i = j
    · rw [h]; simp
    · rw [decide_eq_false h, decide_eq_false (fun z => h (V.int.inj z))]
  rw [e]; exact q
theorem w_neI {i j : Int} (q : Q (.bl (!decide (i = j))) H) : rNe (.int i) (.int j) H Q := by
  refine ⟨rfl, ?_⟩
  have e : decide (V.int i = V.int j) = decide (i = j) := by
    by_cases h : i = j
    · rw [h]; simp
    · rw [decide_eq_false h, decide_eq_false (fun z => h (V.int.inj z))]
  rw [e]; exact q
theorem w_eqB {i j : Bool} (q : Q (.bl (decide (i = j))) H) : rEq (.bl i) (.bl j) H Q := by
  refine ⟨rfl, ?_⟩
  have e : decide (V.bl i = V.bl j) = decide (i = j) := by
    by_cases h : i = j
    · rw [h]; simp
    · rw [decide_eq_false h, decide_eq_false (fun z => h (V.bl.inj z))]
  rw [e]; exact q
theorem w_neB {i j : Bool} (q : Q (.bl (!decide (i = j))) H) : rNe (.bl i) (.bl j) H Q := by
  refine ⟨rfl, ?_⟩
  have e : decide (V.bl i = V.bl j) = decide (i = j) := by
    by_cases h : i = j
    · rw [h]; simp
    · rw [decide_eq_false h, decide_eq_false (fun z => h (V.bl.inj z))]
  rw [e]; exact q
theorem w_eqS {i j : Str} (q : Q (.bl (decide (i = j))) H) : rEq (.str i) (.str j) H Q := by
  refine ⟨rfl, ?_⟩
  have e : decide (V.str i = V.str j) = decide (i = j) := by
    by_cases h : i = j
    · rw [h]; simp
    · rw [decide_eq_false h, decide_eq_false (fun z => h (V.str.inj z))]
  rw [e]; exact q
theorem w_test {Q : Bool → Hp → Prop} (q : te σ H fun x H' => ∃ k, x = .bl k ∧ Q k H') : tTest te σ H Q := q
theorem w_B {Q : Bool → Hp → Prop} (q : te σ H fun x H' => ∃ k, x = .bl k ∧ Q k H') : tB te σ H Q := q
theorem w_exb {b : Bool} {P : Bool → Prop} (q : P b) : ∃ k, V.bl b = .bl k ∧ P k := ⟨b, rfl, q⟩
theorem w_exi {i : Int} {P : Int → Prop} (q : P i) : ∃ k, V.int i = .int k ∧ P k := ⟨i, rfl, q⟩
theorem w_exr {a : Addr} {P : Addr → Prop} (q : P a) : ∃ k, V.ref a = .ref k ∧ P k := ⟨a, rfl, q⟩
theorem w_and {Q : Bool → Hp → Prop} (q : tt σ H fun c H1 => if c = true then tu σ H1 Q else Q false H1) : tAnd tt tu σ H Q := q
theorem w_or {Q : Bool → Hp → Prop} (q : tt σ H fun c H1 => if c = true then Q true H1 else tu σ H1 Q) : tOr tt tu σ H Q := q
theorem w_not {Q : Bool → Hp → Prop} (q : tt σ H fun c H1 => Q (!c) H1) : tNot tt σ H Q := q
theorem w_andV (q : ta σ H fun x H1 => ∃ c, x = .bl c ∧ if c = true then tb σ H1 Q else Q (.bl false) H1) : tAndV ta tb σ H Q := q
theorem w_orV (q : ta σ H fun x H1 => ∃ c, x = .bl c ∧ if c = true then Q (.bl true) H1 else tb σ H1 Q) : tOrV ta tb σ H Q := q
theorem w_notV (q : ta σ H fun x H1 => ∃ c, x = .bl c ∧ Q (.bl (!c)) H1) : tNotV ta σ H Q := q
/-- what evaluates to one value, whatever follows -/
theorem w_val (v : V) (hE : ∀ Q : VK, Q v H → te σ H Q) (q : Q v H) : te σ H Q := hE Q q
theorem w_if (q : tt σ H fun c H1 => if c = true then ta σ H1 Q else tb σ H1 Q) : tIf tt ta tb σ H Q := q
theorem w_nil {Q : List V → Hp → Prop} (q : Q [] H) : tNil σ H Q := q
theorem w_cons {tr : TA} {Q : List V → Hp → Prop} (q : ta σ H fun x H1 => tr σ H1 fun xs H2 => Q (x :: xs) H2) : tCons ta tr σ H Q := q
theorem w_call {sp : Sp} {E : XK} {t : TA} (q : t σ H fun vs H1 => sp (vs ++ []) H1 Q E) : tCall sp [] E t σ H Q := q
theorem w_callK {sp : Sp} {gV : List V → List V → List V} {E : XK} {t tk : TA} (q : t σ H fun vs H1 => tk σ H1 fun zs H2 => sp (gV vs zs) H2 Q E) : tCallK sp gV E t tk σ H Q := q
theorem w_make {sp : Sp} {E : XK} {t : TA} (q : t σ H fun vs H1 => ∀ x dx, H1 x = none → H1 dx = none → dx ≠ x → sp (.ref x :: (vs ++ [])) (upd (upd H1 dx (.own x)) x (.ins C dx [])) (fun v H2 => v = .non ∧ Q (.ref x) H2) E) : tMake C sp [] E t σ H Q := q
theorem w_cb {r : List V → Hp → VK → Prop} {t : TA} (q : t σ H fun vs H1 => r vs H1 Q) : tCB r t σ H Q := q
theorem w_int {i : Int} (q : Q (.int i) H) : rIntC [.int i] H Q := .inl ⟨i, rfl, q⟩
theorem w_intB {i : Bool} (q : Q (.int (if i then 1 else 0)) H) : rIntC [.bl i] H Q := .inr ⟨i, rfl, q⟩
theorem w_isNn (q : Q (.bl true) H) : rIsNn .non .non H Q := ⟨rfl, q⟩
theorem w_isNi {i : Int} (q : Q (.bl false) H) : rIsNn (.int i) .non H Q := ⟨rfl, q⟩
theorem w_abs {i : Int} (q : Q (.int (ab i)) H) : rAbsC [.int i] H Q := ⟨i, rfl, q⟩
theorem w_bits {to : TE} (q : to σ H fun x H1 => ∃ i, x = .int i ∧ Q (.int (Builtin.Int.intBits i : Nat)) H1) : tBits to σ H Q := q
theorem w_ixL {p : Addr} {xs : List V} {i : Int} {v : V} (h : H p = some (.lst xs)) (e : atI xs i = some v) (q : Q v H) : rIxL K (.ref p) (.int i) H Q := ⟨p, xs, i, v, rfl, rfl, SqL.of h, e, q⟩
theorem w_ixT {p : Addr} {xs : List V} {i : Int} {v : V} (h : H p = some (.tup xs)) (e : atI xs i = some v) (q : Q v H) : rIxT K (.ref p) (.int i) H Q := ⟨p, xs, i, v, rfl, rfl, SqT.of h, e, q⟩
theorem w_setL {p : Addr} {xs : List V} {i : Int} {v : V} {j : Nat} {Q : Hp → Prop} (h : H p = some (.lst xs)) (e : ixN xs.length i = some j) (q : Q (upd H p (.lst (xs.set j v)))) : rSetL (.ref p) (.int i) v H Q := ⟨p, xs, i, j, rfl, rfl, h, e, q⟩
theorem w_sl {r : V → Option Int → Option Int → Hp → VK → Prop} {tl th : TO} (q : te σ H fun x H1 => tl σ H1 fun l H2 => th σ H2 fun u H3 => r x l u H3 Q) : L2.tSl r te tl th σ H Q := q
theorem w_part {Q : Option Int → Hp → Prop} (q : te σ H fun x H1 => ∃ i, x = .int i ∧ Q (some i) H1) : tPart te σ H Q := q
theorem w_nopart {Q : Option Int → Hp → Prop} (q : Q none H) : tNoPart σ H Q := q
theorem w_slL {a : Addr} {xs : List V} {lo hi : Option Int} (h : SqL K H a xs) (q : ∀ p, H p = none → Q (.ref p) (upd H p (.lst (cutV xs lo hi)))) : rSlL K (.ref a) lo hi H Q := ⟨a, xs, rfl, h, q⟩
theorem w_lst {t : TA} (q : t σ H fun xs H1 => xs.length ≤ sizeLine ∧ ∀ p, H1 p = none → Q (.ref p) (upd H1 p (.lst xs))) : tLst t σ H Q := q
theorem w_tup {t : TA} (q : t σ H fun xs H1 => xs.length ≤ sizeLine ∧ ∀ p, H1 p = none → Q (.ref p) (upd H1 p (.tup xs))) : tTup t σ H Q := q
theorem w_cat {l b : Addr} {xs zs : List V} (h1 : H l = some (.lst xs)) (h2 : H b = some (.lst zs)) (n : xs.length + zs.length ≤ sizeLine) (q : ∀ p, H p = none → Q (.ref p) (upd H p (.lst (xs ++ zs)))) : rCat (.ref l) (.ref b) H Q := ⟨l, b, xs, zs, rfl, rfl, h1, h2, n, q⟩
theorem w_dnewK (q : ∀ d, H d = none → Q (.ref d) (upd H d (.dK []))) : tDNewK σ H Q := q
theorem w_eqNil {p q : Addr} (hp : H p = some (.lst [])) (hq : H q = some (.lst [])) (k : Q (.bl true) H) : rEqD K (.ref p) (.ref q) H Q := ⟨.list [], .list [], .lst (SqL.of hp) .nil, .lst (SqL.of hq) .nil, by decide, by decide, k⟩
theorem w_wipe1 {g : TG} {v : V} {vs : List Nat} {σ' : L2.St} {Q : L2.St → Hp → Prop} (e : wipe σ vs = σ') (q : g v σ' H Q) : g v (wipe σ vs) H Q := by rw [e]; exact q
theorem w_inT {p : Addr} {x : V} {xs : List V} (h : SqT K H p xs) (f1 : flatV x = true) (f2 : xs.all flatV = true) (q : Q (.bl (inV x xs)) H) : rIn K false x (.ref p) H Q := ⟨p, xs, rfl, .inr h, f1, f2, q⟩
theorem w_meth0 {C : Addr} {m : Str} {sp : Sp} {E : XK} (q : ta σ H fun x H1 => ∃ a dx fs, x = .ref a ∧ H1 a = some (.ins C dx fs) ∧ fs.lookup m = none ∧ sp (x :: ([] ++ [])) H1 Q E) : tMeth C m sp [] E ta tNil σ H Q := q
theorem w_par {i j : Nat} {t : TA} (q : t σ H fun vs H1 => ∃ v w, vs = [v, w] ∧ D.nx ((σ.set i (some v)).set j (some w)) H1) : tPar i j t D σ H := q
theorem w_exvw {a c : V} {P : V → V → Prop} (q : P a c) : ∃ v w, [a, c] = [v, w] ∧ P v w := ⟨a, c, rfl, q⟩
theorem w_while {tc : TT} {tb : TS} (W : Nat → L2.St → Hp → Prop) (m0 : Nat) (h0 : W m0 σ H) (hs : ∀ m σ H, W m σ H → tc σ H fun b H1 => if b = true then ∃ N : L2.St → Hp → Prop, (∀ σ' H', N σ' H' → ∃ m', m' < m ∧ W m' σ' H') ∧ tb { D with nx := N, ct := N, bk := D.nx } σ H1 else D.nx σ H1) : tWhile tc tb D σ H := ⟨W, ⟨m0, h0⟩, hs⟩
theorem w_rep {l : Addr} {k : Int} {xs : List V} (h : H l = some (.lst xs)) (k0 : 0 ≤ k) (k1 : k ≤ 1000) (n : xs.length * k.toNat ≤ sizeLine) (q : ∀ p, H p = none → Q (.ref p) (upd H p (.lst (List.replicate k.toNat xs).flatten))) : rRep (.ref l) (.int k) H Q := ⟨l, k, xs, rfl, rfl, h, by omega, by omega, n, q⟩
theorem w_dget {td ty : TE} (q : td σ H fun x H1 => ty σ H1 fun y H2 => ∃ a v, x = .ref a ∧ DGet H2 a y (some v) ∧ Q v H2) : tDGet td ty σ H Q := q
-- statements
theorem w_next (q : D.nx σ H) : tNext D σ H := q
theorem w_seq {t u : TS} (q : t { D with nx := u D } σ H) : tSeq t u D σ H := q
theorem w_drop (q : te σ H fun _ H1 => D.nx σ H1) : tDrop te D σ H := q
theorem w_ret (q : te σ H D.rt) : tRet te D σ H := q
theorem w_retN (q : D.rt .non H) : tRetN D σ H := q
theorem w_ifS {t u : TS} (q : tt σ H fun b H1 => if b = true then t D σ H1 else u D σ H1) : tIfS tt t u D σ H := q
theorem w_asg {g : TG} (q : te σ H fun x H1 => g x σ H1 D.nx) : tAsg te g D σ H := q
theorem w_name {i : Nat} {v : V} {Q : L2.St → Hp → Prop} (q : Q (σ.set i (some v)) H) : gName i v σ H Q := q
theorem w_gnil {Q : L2.St → Hp → Prop} (q : Q σ H) : gNil [] σ H Q := ⟨rfl, q⟩
theorem w_gcons {t : TG} {u : TGs} {v : V} {r : List V} {Q : L2.St → Hp → Prop} (q : t v σ H fun σ' H' => u r σ' H' Q) : gCons t u (v :: r) σ H Q := ⟨v, r, rfl, q⟩
theorem w_gtup {n : Nat} {t : TGs} {a : Addr} {xs : List V} {Q : L2.St → Hp → Prop} (h : H a = some (.tup xs)) (l : xs.length = n) (q : t xs σ H Q) : gTup K n t (.ref a) σ H Q := ⟨a, xs, rfl, SqT.of h, l, q⟩
theorem w_gsub {to ti : TE} {t : TSet} {v : V} {Q : L2.St → Hp → Prop} (q : to σ H fun o H1 => ti σ H1 fun i H2 => t o i v H2 fun H3 => Q σ H3) : gSub to ti t v σ H Q := q
/-- what a for asks of the thing walked -/
def ForW (g : TG) (tb : TS) (D : Ends) (σ : L2.St) (H1 : Hp) (J : It) : Prop := ∃ W : Nat → Nat → L2.St → Hp → Prop, (∃ m, W 0 m σ H1) ∧ ∀ i m σ H, W i m σ H →
    (J.stop i H ∧ D.nx σ H) ∨ (J.go i H ∧ ∃ N : L2.St → Hp → Prop, (∀ σ' H', N σ' H' → ∃ m', m' < m ∧ W (i + 1) m' σ' H') ∧ ∀ x H', J.yld i H x H' → g x σ H' fun σ2 H2 => tb { D with nx := N, ct := N, bk := D.nx } σ2 H2)
theorem w_for {wi : TI} {g : TG} {tb : TS} (q : wi σ H fun J H1 => ForW g tb D σ H1 J) : tFor wi g tb D σ H := q
def LcW (g : TG) (tt : TT) (te : TE) (vs : List Nat) (σ : L2.St) (Q : VK) (H1 : Hp) (J : It) : Prop := ∀ D, H1 D = none → ∃ W : Nat → Nat → Hp → Prop, (∃ m, W 0 m (upd H1 D (.lst []))) ∧ ∀ i m H, W i m H →
  (J.stop i H ∧ Q (.ref D) H) ∨ (J.go i H ∧ ∃ Nx : Hp → Prop, (∀ H', Nx H' → ∃ m', m' < m ∧ W (i + 1) m' H') ∧ ∀ x H', J.yld i H x H' → g x (wipe σ vs) H' fun σ2 H2 => wipe σ2 vs = wipe σ vs ∧ tt σ2 H2 fun b H3 =>
    if b = true then te σ2 H3 fun y H4 => ∃ acc, H4 D = some (.lst acc) ∧ acc.length < sizeLine ∧ Nx (upd H4 D (.lst (acc ++ [y]))) else Nx H3)
theorem w_lc {wi : TI} {g : TG} {vs : List Nat} (q : wi σ H fun J H1 => LcW g tt te vs σ Q H1 J) : tLc wi g tt te vs σ H Q := q
theorem w_yes {Q : Bool → Hp → Prop} (q : Q true H) : tYes σ H Q := q
theorem w_iList {tl : TE} {R : It → Hp → Prop} (q : tl σ H fun x H1 => ∃ a, x = .ref a ∧ (∃ xs, SqL K H1 a xs) ∧ R (Itl K a) H1) : iList K tl σ H R := q
theorem w_fld {f : Str} (q : ta σ H fun x H1 => ∃ a C dx fs v, x = .ref a ∧ H1 a = some (.ins C dx fs) ∧ Cls K C ∧ NoAttr K C f ∧ fs.lookup f = some v ∧ Q v H1) : tFld K ta f σ H Q := q
theorem w_sfld {tv : TE} {f : Str} (q : tv σ H fun y H1 => ta σ H1 fun x H2 => ∃ a C dx fs, x = .ref a ∧ H2 a = some (.ins C dx fs) ∧ Cls K C ∧ NoAttr K C f ∧ fs.length < 1000 ∧ D.nx σ (upd H2 a (.ins C dx (putF f y fs)))) : sFld K ta tv f D σ H := q
theorem w_len {p : Addr} {ys : List V} (h : H p = some (.lst ys)) (q : Q (.int (ys.length : Int)) H) : rLenS K [.ref p] H Q := ⟨p, ys, rfl, .inl (SqL.of h), q⟩
theorem w_all {p : Addr} {bs : List Bool} (h : H p = some (.lst (bs.map V.bl))) (q : Q (.bl (bs.all id)) H) : rAll K [.ref p] H Q := ⟨p, bs, rfl, SqL.of h, q⟩
theorem w_iRng1 {ta : TA} {R : It → Hp → Prop} (q : ta σ H fun vs H1 => ∃ j : Int, vs = [.int j] ∧ -(2 ^ 62) ≤ j ∧ j < 2 ^ 62 ∧ R (Itr 0 j.toNat) H1) : iRng1 ta σ H R := q
-- tests
theorem w_dec {P A B : Prop} [Decidable P] (h1 : P → A) (h2 : ¬ P → B) : if decide P = true then A else B := by
  by_cases h : P
  · rw [decide_eq_true h, if_pos rfl]; exact h1 h
  · rw [decide_eq_false h, if_neg Bool.false_ne_true]; exact h2 h
theorem w_ndec {P A B : Prop} [Decidable P] (h1 : ¬ P → A) (h2 : P → B) : if (!decide P) = true then A else B := by
  by_cases h : P
  · rw [decide_eq_true h]; exact iteF (h2 h)
  · rw [decide_eq_false h]; exact iteT (h1 h)
theorem w_decT {P A B : Prop} [Decidable P] (h : P) (q : A) : if decide P = true then A else B := by rw [decide_eq_true h, if_pos rfl]; exact q
theorem w_decF {P A B : Prop} [Decidable P] (h : ¬ P) (q : B) : if decide P = true then A else B := by rw [decide_eq_false h, if_neg Bool.false_ne_true]; exact q
theorem w_ndecT {P A B : Prop} [Decidable P] (h : P) (q : B) : if (!decide P) = true then A else B := by rw [decide_eq_true h]; exact iteF q
theorem w_ndecF {P A B : Prop} [Decidable P] (h : ¬ P) (q : A) : if (!decide P) = true then A else B := by rw [decide_eq_false h]; exact iteT q
theorem w_bT {b : Bool} {A B : Prop} (h : b = true) (q : A) : if b = true then A else B := by rw [if_pos h]; exact q
theorem w_bF {b : Bool} {A B : Prop} (h : b = false) (q : B) : if b = true then A else B := by rw [h]; exact iteF q
end

theorem map_get {α : Type} {f : α → V} {l : List α} {i : Nat} {x : V} (h : (l.map f)[i]? = some x) : ∃ z, l[i]? = some z ∧ x = f z := by
  rw [List.getElem?_map] at h
  cases e : l[i]? with
  | none => rw [e] at h; cases h
  | some z => rw [e] at h; exact ⟨z, rfl, (Option.some.inj h).symm⟩
theorem get_lt {α : Type} {l : List α} {i : Nat} {x : α} (h : l[i]? = some x) : i < l.length := (List.getElem?_eq_some_iff.mp h).1
theorem tk_more {α : Type} {l : List α} {i : Nat} {x : α} (h : l[i]? = some x) : l.take (i + 1) = l.take i ++ [x] := by
  rw [List.take_add_one, h]; rfl
/-- a new object leaves the others -/
theorem gn {H : Hp} {l q : Addr} {o u : HO} (h : H l = some o) (hn : H q = none) : (L2.upd H q u) l = some o := by
  rw [upd_ne (ne_of_none h hn)]; exact h
theorem cut_map {α : Type} (f : α → V) (ns : List α) (lo hi : Option Int) : ∃ ms : List α, cutV (ns.map f) lo hi = ms.map f ∧ ms.length ≤ ns.length ∧ ∀ m ∈ ms, m ∈ ns := by
  refine ⟨(ns.drop (HT.sIx (ns.map f).length 0 lo)).take (HT.sIx (ns.map f).length (ns.map f).length hi - HT.sIx (ns.map f).length 0 lo), ?_, ?_, fun m hm => List.mem_of_mem_drop (List.mem_of_mem_take hm)⟩
  · unfold cutV; rw [← List.map_drop, ← List.map_take]
  · rw [List.length_take, List.length_drop]; omega
theorem cut_take {α : Type} (f : α → V) (ns : List α) (n : Nat) : cutV (ns.map f) none (some (n : Int)) = (ns.take n).map f := by
  unfold cutV
  rw [HT.sIx_none, HT.sIx_nat, List.drop_zero, Nat.sub_zero, List.length_map, ← List.map_take]
  congr 1
  by_cases h : n ≤ ns.length
  · rw [Nat.min_eq_left h]
  · rw [Nat.min_eq_right (by omega), List.take_length, List.take_of_length_le (by omega)]
theorem sm_mut {H H' : Hp} {D : Addr} {o : HO} (a : Same H H') (h : H D = none) : Same H (L2.upd H' D o) := fun q u e => by
  rw [upd_ne (ne_of_none e h)]; exact a q u e
theorem cpow {j n : Nat} (h : j ≤ 1000000) (e : (n : Int).natAbs < 2 ^ 64) : CPow (n : Int) (j : Int) := ⟨Int.natCast_nonneg _, by omega, e⟩

/-! match over texts -/
structure PMs (X : Cx) (cs : List MatchCase) (t : V → TS) : Prop where
  run : ∀ (pins : List (Addr × Obj)) (s : Shared) (σ : L2.St) (H : Hp) (D : Ends) (v : V) (u : Value) (first : Bool), Inv X pins σ H s → RelV v u → t v D σ H →
    wpAny (model X.prog X.w) X.A (matchCases cs X.env u first) (SP X pins D) X.xe s
def tCaseS (x : Str) (tb : TS) (tr : V → TS) : V → TS := fun v D σ H => ∃ z, v = .str z ∧ if decide (z = x) = true then tb D σ H else tr v D σ H
def tCaseA (tb : TS) : V → TS := fun _ => tb
def tMatch (te : TE) (t : V → TS) : TS := fun D σ H => te σ H fun v H1 => t v D σ H1
section
variable {X : Cx} {body : List Stmt} {rest : List MatchCase} {tb : TS} {tr : V → TS}
theorem pm_nil : PMs X [] (fun _ => tNext) := ⟨fun pins s σ H D v u first I r q => wpAny_matchCases_nil ⟨σ, H, I, q⟩⟩
theorem pm_any {p : Pos} (hb : PSs X body tb) : PMs X (⟨.MatchAs none none p, none, body⟩ :: rest) (tCaseA tb) := by
  refine ⟨fun pins s σ H D v u first I r q => ?_⟩
  refine wpAny_matchCases_cons (wpAny_matchPattern_Capture ?_)
  exact wpAny_assignInOrder_none (hb.run pins s σ H D I q)
theorem pm_str {x : Str} {j : Nat} {p p2 : Pos} (hb : PSs X body tb) (hr : PMs X rest tr) : PMs X (⟨.MatchValue (.Constant (.str x) j p) p2, none, body⟩ :: rest) (tCaseS x tb tr) := by
  refine ⟨fun pins s σ H D v u first I r q => ?_⟩
  obtain ⟨z, rfl, q⟩ := q
  refine wpAny_matchCases_cons (wpAny_matchPattern_Value ?_)
  refine thn ((pe_str (X := X) (x := x) (j := j) (pos := p)).run pins s σ H (fun y H1 => y = .str x ∧ H1 = H) I ⟨rfl, rfl⟩) fun w s1 ⟨y, H1, I1, r1, e1, e2⟩ => ?_
  subst e1 e2
  refine thn (op_eq (X := X) pins s1 σ H1 (.str z) (.str x) u w (fun y H2 => y = .bl (decide (V.str z = V.str x)) ∧ H2 = H1) I1 r r1 ⟨rfl, rfl, rfl⟩) fun c s2 ⟨y, H2, I2, r2, e1, e2⟩ => ?_
  subst e1 e2
  cases r2
  refine wpAny_truthy_bool ?_
  have e : decide (V.str z = V.str x) = decide (z = x) := by
    by_cases h : z = x
    · rw [h]; simp
    · rw [decide_eq_false h, decide_eq_false (fun k => h (V.str.inj k))]
  rw [e]
  by_cases h : z = x
  · rw [decide_eq_true h, if_pos rfl] at q
    rw [decide_eq_true h]
    exact wpAny_assignInOrder_none (hb.run pins s2 σ H2 D I2 q)
  · rw [decide_eq_false h, if_neg Bool.false_ne_true] at q
    rw [decide_eq_false h]
    exact hr.run pins s2 σ H2 D _ u false I2 r q
theorem ps_match {e : Expr} {te : TE} {cs : List MatchCase} {t : V → TS} {pos : Pos} (he : PE X e te) (hc : PMs X cs t) : PS X (.Match e cs pos) (tMatch te t) := by
  refine ⟨fun pins s σ H D I h => wpAny_Match (thn (he.run pins s σ H _ I h) fun u s1 ⟨v, H1, I1, r1, q1⟩ => ?_)⟩
  exact hc.run pins s1 σ H1 D v u true I1 r1 q1
end
section
variable {σ : L2.St} {H : Hp} {D : Ends} {te : TE} {tb : TS} {tr : V → TS}
theorem w_match {t : V → TS} (q : te σ H fun v H1 => t v D σ H1) : tMatch te t D σ H := q
theorem w_caseA {v : V} (q : tb D σ H) : tCaseA tb v D σ H := q
theorem w_caseS {x z : Str} (q : if decide (z = x) = true then tb D σ H else tr (.str z) D σ H) : tCaseS x tb tr (.str z) D σ H := ⟨z, rfl, q⟩
theorem w_caseT {x : Str} (q : tb D σ H) : tCaseS x tb tr (.str x) D σ H := ⟨x, rfl, by rw [decide_eq_true rfl, if_pos rfl]; exact q⟩
theorem w_caseF {x z : Str} (h : z ≠ x) (q : tr (.str z) D σ H) : tCaseS x tb tr (.str z) D σ H := ⟨z, rfl, by rw [decide_eq_false h, if_neg Bool.false_ne_true]; exact q⟩
end
end Fw
namespace Fw
/-! ### steps x -> a * x + c, modulo a power of two -/
theorem gpos (w : Nat) : (0 : Int) < 2 ^ w := Int.pow_pos (by decide)
theorem g2S (w : Nat) : (2 : Int) ^ (w + 1) = 2 * 2 ^ w := by rw [Int.pow_succ, Int.mul_comm]
theorem gmd {S x y : Int} : x % S = y % S ↔ S ∣ x - y := by
  constructor
  · intro h
    exact Int.dvd_of_emod_eq_zero (Int.emod_eq_emod_iff_emod_sub_eq_zero.mp h)
  · intro h
    exact Int.emod_eq_emod_iff_emod_sub_eq_zero.mpr (Int.emod_eq_zero_of_dvd h)
theorem gpp {a b : Nat} (h : a ≤ b) : (2 : Int) ^ a ∣ 2 ^ b := ⟨2 ^ (b - a), by rw [← Int.pow_add]; congr 1; omega⟩
theorem gdv0 {S x : Int} : S ∣ x - x := by rw [Int.sub_self]; exact Int.dvd_zero _
theorem gdvS {S x y : Int} (h : S ∣ x - y) : S ∣ y - x := by
  rw [show y - x = -(x - y) by omega]; exact Int.dvd_neg.mpr h
theorem gdvT {S x y z : Int} (h : S ∣ x - y) (g : S ∣ y - z) : S ∣ x - z := by
  rw [show x - z = (x - y) + (y - z) by omega]; exact Int.dvd_add h g
/-- n steps -/
def gIt (a c : Int) : Nat → Int → Int
  | 0, x => x
  | n + 1, x => a * gIt a c n x + c
theorem gIt_one {a c x : Int} : gIt a c 1 x = a * x + c := rfl
theorem gIt_add (a c : Int) (m : Nat) : ∀ (n : Nat) (x : Int), gIt a c (m + n) x = gIt a c n (gIt a c m x)
  | 0, x => rfl
  | n + 1, x => by
    show a * gIt a c (m + n) x + c = a * gIt a c n (gIt a c m x) + c
    rw [gIt_add a c m n x]
theorem gIt_sub (a c : Int) : ∀ (n : Nat) (x y : Int), gIt a c n x - gIt a c n y = a ^ n * (x - y)
  | 0, x, y => by rw [Int.pow_zero, Int.one_mul]; rfl
  | n + 1, x, y => by
    show a * gIt a c n x + c - (a * gIt a c n y + c) = _
    rw [Int.pow_succ, Int.mul_comm (a ^ n) a, Int.mul_assoc, ← gIt_sub a c n x y, Int.mul_sub]; omega
theorem gIt_cong {S a a' c c' : Int} (ha : S ∣ a - a') (hc : S ∣ c - c') : ∀ (n : Nat) {x y : Int}, S ∣ x - y → S ∣ gIt a c n x - gIt a' c' n y
  | 0, x, y, h => h
  | n + 1, x, y, h => by
    have ih := gIt_cong ha hc n h
    show S ∣ a * gIt a c n x + c - (a' * gIt a' c' n y + c')
    have e : a * gIt a c n x + c - (a' * gIt a' c' n y + c') = a * (gIt a c n x - gIt a' c' n y) + (a - a') * gIt a' c' n y + (c - c') := by
      rw [Int.mul_sub, Int.sub_mul]; omega
    rw [e]
    exact Int.dvd_add (Int.dvd_add (Int.dvd_mul_of_dvd_right ih) (Int.dvd_mul_of_dvd_left ha)) hc
theorem gIt_congx {S a c : Int} (n : Nat) {x y : Int} (h : S ∣ x - y) : S ∣ gIt a c n x - gIt a c n y := gIt_cong gdv0 gdv0 n h
/-- (p, q) leads where n steps do -/
def gRep (S a c p q : Int) (n : Nat) : Prop := ∀ x, S ∣ p * x + q - gIt a c n x
theorem gRep_zero (S a c : Int) : gRep S a c 1 0 0 := fun x => by
  show S ∣ 1 * x + 0 - x
  rw [Int.one_mul, Int.add_zero]; exact gdv0
theorem gRep_one (S a c : Int) : gRep S a c a c 1 := fun x => gdv0
theorem gRep_onem (S a c : Int) : gRep S a c (a % S) (c % S) 1 := fun x => by
  have e1 : S ∣ a % S - a := Int.dvd_emod_sub_self
  have e2 : S ∣ c % S - c := Int.dvd_emod_sub_self
  show S ∣ a % S * x + c % S - (a * x + c)
  rw [show a % S * x + c % S - (a * x + c) = (a % S - a) * x + (c % S - c) by rw [Int.sub_mul]; omega]
  exact Int.dvd_add (Int.dvd_mul_of_dvd_left e1) e2
theorem gRep_comp {S a c p q p' q' : Int} {m n : Nat} (h1 : gRep S a c p q m) (h2 : gRep S a c p' q' n) : gRep S a c (p * p' % S) ((p' * q + q') % S) (m + n) := fun x => by
  have e1 : S ∣ p * p' % S - p * p' := Int.dvd_emod_sub_self
  have e2 : S ∣ (p' * q + q') % S - (p' * q + q') := Int.dvd_emod_sub_self
  have e3 := h2 (p * x + q)
  have e4 := gIt_congx (a := a) (c := c) n (h1 x)
  rw [gIt_add]
  have e : p * p' % S * x + (p' * q + q') % S - gIt a c n (gIt a c m x) = (p * p' % S - p * p') * x + ((p' * q + q') % S - (p' * q + q')) + (p' * (p * x + q) + q' - gIt a c n (p * x + q)) + (gIt a c n (p * x + q) - gIt a c n (gIt a c m x)) := by
    rw [Int.sub_mul, Int.mul_add, ← Int.mul_assoc, Int.mul_comm p' p]; omega
  rw [e]
  exact Int.dvd_add (Int.dvd_add (Int.dvd_add (Int.dvd_mul_of_dvd_left e1) e2) e3) e4
theorem gRep.mod {S a c p q : Int} {n : Nat} (h : gRep S a c p q n) (x : Int) : (p * x + q) % S = gIt a c n x % S := gmd.mpr (h x)
theorem gRep.it {S a c p q : Int} {n : Nat} (h : gRep S a c p q n) : ∀ (k : Nat) (x : Int), S ∣ gIt p q k x - gIt a c (n * k) x
  | 0, x => by rw [Nat.mul_zero]; exact gdv0
  | k + 1, x => by
    rw [Nat.mul_succ, gIt_add a c (n * k) n]
    show S ∣ p * gIt p q k x + q - _
    exact gdvT (h _) (gIt_congx n (h.it k x))
theorem god_pow {a : Int} (ha : a % 2 = 1) : ∀ n : Nat, a ^ n % 2 = 1
  | 0 => by rw [Int.pow_zero]; rfl
  | n + 1 => by rw [Int.pow_succ, Int.mul_emod, god_pow ha n, ha]; rfl
theorem gIt_full {a : Int} (ha : a % 2 = 1) (c : Int) : ∀ (w : Nat) (x : Int), (2 : Int) ^ w ∣ gIt a c (2 ^ w) x - x
  | 0, x => by rw [Int.pow_zero]; exact Int.one_dvd _
  | w + 1, x => by
    have ih := gIt_full ha c w x
    have e : gIt a c (2 ^ (w + 1)) x - x = (a ^ (2 ^ w) + 1) * (gIt a c (2 ^ w) x - x) := by
      rw [show 2 ^ (w + 1) = 2 ^ w + 2 ^ w by rw [Nat.pow_succ]; omega, gIt_add]
      have := gIt_sub a c (2 ^ w) (gIt a c (2 ^ w) x) x
      rw [Int.add_mul, Int.one_mul, ← this]; omega
    rw [e, g2S]
    have := god_pow ha (2 ^ w)
    exact Int.mul_dvd_mul (Int.dvd_of_emod_eq_zero (by omega)) ih
theorem gIt_fullm {a : Int} (ha : a % 2 = 1) (c : Int) (w : Nat) : ∀ (k : Nat) (x : Int), (2 : Int) ^ w ∣ gIt a c (2 ^ w * k) x - x
  | 0, x => gdv0
  | k + 1, x => by
    rw [Nat.mul_succ, gIt_add]
    exact gdvT (gIt_full ha c w _) (gIt_fullm ha c w k x)
theorem gIt_modn {a : Int} (ha : a % 2 = 1) (c : Int) (w : Nat) (m : Nat) (x : Int) : (2 : Int) ^ w ∣ gIt a c m x - gIt a c (m % 2 ^ w) x := by
  have e : m = 2 ^ w * (m / 2 ^ w) + m % 2 ^ w := (Nat.div_add_mod _ _).symm
  have h : gIt a c m x = gIt a c (m % 2 ^ w) (gIt a c (2 ^ w * (m / 2 ^ w)) x) := by
    rw [← gIt_add, ← e]
  rw [h]
  exact gIt_congx _ (gIt_fullm ha c w _ x)
theorem gnat_mod {w m n : Nat} (h : (2 : Int) ^ w ∣ (m : Int) - n) : m % 2 ^ w = n % 2 ^ w := by
  have e := gmd.mpr h
  have c : ((2 ^ w : Nat) : Int) = (2 : Int) ^ w := Int.natCast_pow 2 w
  rw [← c, ← Int.natCast_emod, ← Int.natCast_emod] at e
  exact Int.ofNat_inj.mp e
theorem gIt_modz {a : Int} (ha : a % 2 = 1) (c : Int) {w m n : Nat} (h : (2 : Int) ^ w ∣ (m : Int) - n) (x : Int) : (2 : Int) ^ w ∣ gIt a c m x - gIt a c n x := by
  have e := gnat_mod h
  have h1 := gIt_modn ha c w m x
  have h2 := gIt_modn ha c w n x
  rw [e] at h1
  exact gdvT h1 (gdvS h2)
theorem gpow_even {a : Int} (ha : a % 2 = 0) (w : Nat) : (2 : Int) ^ w ∣ a ^ w := by
  obtain ⟨b, rfl⟩ := Int.dvd_of_emod_eq_zero ha
  rw [Int.mul_pow]; exact Int.dvd_mul_right _ _
theorem gIt_even {a : Int} (ha : a % 2 = 0) (c : Int) {w n : Nat} (h : w ≤ n) (x : Int) : (2 : Int) ^ w ∣ gIt a c n x - gIt a c w x := by
  obtain ⟨k, rfl⟩ : ∃ k, n = k + w := ⟨n - w, by omega⟩
  rw [gIt_add, gIt_sub]
  exact Int.dvd_mul_of_dvd_left (gpow_even ha w)
/-- as many steps as are done for n -/
def gCnt (w : Nat) (a n : Int) : Nat := if a % 2 = 0 then (min n w).toNat else (n % 2 ^ w).toNat
def gAt (w : Nat) (a c x n : Int) : Int := gIt a c (gCnt w a n) x
theorem gAt_odd {w : Nat} {a c x n : Int} (ha : a % 2 = 1) {k : Nat} (h : (2 : Int) ^ w ∣ (k : Int) - n) : (2 : Int) ^ w ∣ gAt w a c x n - gIt a c k x := by
  unfold gAt gCnt
  rw [if_neg (by omega)]
  refine gIt_modz ha c ?_ x
  have h0 := Int.emod_nonneg n (Int.ne_of_gt (gpos w))
  rw [Int.toNat_of_nonneg h0]
  exact gdvT Int.dvd_emod_sub_self (gdvS h)
theorem gAt_nat (w : Nat) (a c x : Int) (n : Nat) : (2 : Int) ^ w ∣ gAt w a c x n - gIt a c n x := by
  rcases Int.emod_two_eq a with ha | ha
  · unfold gAt gCnt
    rw [if_pos ha]
    by_cases h : n ≤ w
    · rw [show (min (n : Int) w).toNat = n by omega]; exact gdv0
    · rw [show (min (n : Int) w).toNat = w by omega]
      exact gdvS (gIt_even ha c (by omega) x)
  · exact gAt_odd ha gdv0
/-- how often 2 divides, w at most -/
def gv : Nat → Int → Nat
  | 0, _ => 0
  | w + 1, n => if n % 2 = 0 then gv w (n / 2) + 1 else 0
theorem gv_le : ∀ (w : Nat) (n : Int), gv w n ≤ w
  | 0, _ => Nat.le_refl _
  | w + 1, n => by
    unfold gv
    have := gv_le w (n / 2)
    split <;> omega
theorem gv_iff : ∀ (w : Nat) (n : Int) (k : Nat), k ≤ gv w n ↔ k ≤ w ∧ (2 : Int) ^ k ∣ n
  | 0, n, k => by
    constructor
    · intro h
      have h : k ≤ 0 := h
      obtain rfl : k = 0 := by omega
      exact ⟨h, by rw [Int.pow_zero]; exact Int.one_dvd _⟩
    · intro h; exact h.1
  | w + 1, n, 0 => ⟨fun _ => ⟨by omega, by rw [Int.pow_zero]; exact Int.one_dvd _⟩, fun _ => by omega⟩
  | w + 1, n, k + 1 => by
    unfold gv
    by_cases h : n % 2 = 0
    · rw [if_pos h]
      have ih := gv_iff w (n / 2) k
      have e : n = 2 * (n / 2) := by omega
      constructor
      · intro hk
        obtain ⟨h1, t, ht⟩ := ih.mp (by omega)
        refine ⟨by omega, t, ?_⟩
        rw [g2S, Int.mul_assoc, ← ht]; exact e
      · rintro ⟨h1, t, ht⟩
        rw [g2S, Int.mul_assoc] at ht
        have := ih.mpr ⟨by omega, t, by omega⟩
        omega
    · rw [if_neg h]
      constructor
      · intro hk; omega
      · rintro ⟨h1, t, ht⟩
        rw [g2S, Int.mul_assoc] at ht
        omega
theorem gv_dvd (w : Nat) (n : Int) : (2 : Int) ^ gv w n ∣ n := ((gv_iff w n _).mp (Nat.le_refl _)).2
theorem gv_full {w : Nat} {n : Int} : (2 : Int) ^ w ∣ n ↔ gv w n = w := by
  have a := gv_le w n
  have b := gv_iff w n w
  constructor
  · intro h
    have := b.mpr ⟨Nat.le_refl _, h⟩
    omega
  · intro h
    exact (b.mp (by omega)).2
theorem gv_cong {w : Nat} {x y : Int} (h : (2 : Int) ^ w ∣ x - y) : gv w x = gv w y := by
  have key : ∀ {x y : Int}, (2 : Int) ^ w ∣ x - y → gv w x ≤ gv w y := fun {x y} h => by
    refine (gv_iff w y _).mpr ⟨gv_le w x, ?_⟩
    have h1 := Int.dvd_trans (gpp (gv_le w x)) h
    have h2 := gv_dvd w x
    rw [show y = x - (x - y) by omega]
    exact Int.dvd_sub h2 h1
  exact Nat.le_antisymm (key h) (key (gdvS h))
theorem gv_val {w j : Nat} {n a : Int} (h : n = 2 ^ j * (2 * a + 1)) (hj : j ≤ w) : gv w n = j := by
  have h1 := (gv_iff w n j).mpr ⟨hj, by rw [h]; exact Int.dvd_mul_right _ _⟩
  refine Nat.le_antisymm (Nat.le_of_not_lt fun c => ?_) h1
  obtain ⟨_, t, ht⟩ := (gv_iff w n (j + 1)).mp c
  have ht' : (2 : Int) ^ j * (2 * a + 1) = 2 ^ j * (2 * t) := by rw [← h, ht, g2S, Int.mul_assoc, Int.mul_left_comm]
  have := Int.eq_of_mul_eq_mul_left (Int.ne_of_gt (gpos j)) ht'
  omega
theorem gv_next (w : Nat) (z : Int) : gv w z = min w (gv (w + 1) z) := by
  have key : ∀ k, k ≤ gv w z ↔ k ≤ min w (gv (w + 1) z) := fun k => by
    rw [gv_iff, Nat.le_min, gv_iff]
    constructor
    · rintro ⟨a, b⟩; exact ⟨a, by omega, b⟩
    · rintro ⟨a, b, c⟩; exact ⟨a, c⟩
  exact Nat.le_antisymm ((key _).mp (Nat.le_refl _)) ((key _).mpr (Nat.le_refl _))
theorem gv_mul : ∀ (w : Nat) (y z : Int), gv w (y * z) = min w (gv w y + gv w z)
  | 0, y, z => by show 0 = min 0 _; omega
  | w + 1, y, z => by
    have nz := gv_next w z
    have ny := gv_next w y
    have lz := gv_le (w + 1) z
    have ly := gv_le (w + 1) y
    rcases Int.emod_two_eq y with hy | hy
    · have e : y * z = 2 * (y / 2 * z) := by rw [← Int.mul_assoc]; congr 1; omega
      have ih := gv_mul w (y / 2) z
      have g1 : gv (w + 1) (y * z) = gv w (y / 2 * z) + 1 := by
        show (if y * z % 2 = 0 then gv w (y * z / 2) + 1 else 0) = _
        rw [if_pos (by omega), show y * z / 2 = y / 2 * z by omega]
      have g2 : gv (w + 1) y = gv w (y / 2) + 1 := by
        show (if y % 2 = 0 then gv w (y / 2) + 1 else 0) = _
        rw [if_pos hy]
      rw [g1, ih, g2]; omega
    · have g0 : gv (w + 1) y = 0 := by
        show (if y % 2 = 0 then gv w (y / 2) + 1 else 0) = _
        rw [if_neg (by omega)]
      rcases Int.emod_two_eq z with hz | hz
      · have e : y * z = 2 * (y * (z / 2)) := by rw [Int.mul_left_comm]; congr 1; omega
        have ih := gv_mul w y (z / 2)
        have g1 : gv (w + 1) (y * z) = gv w (y * (z / 2)) + 1 := by
          show (if y * z % 2 = 0 then gv w (y * z / 2) + 1 else 0) = _
          rw [if_pos (by omega), show y * z / 2 = y * (z / 2) by omega]
        have g2 : gv (w + 1) z = gv w (z / 2) + 1 := by
          show (if z % 2 = 0 then gv w (z / 2) + 1 else 0) = _
          rw [if_pos hz]
        rw [g1, ih, g2]; omega
      · have g1 : gv (w + 1) (y * z) = 0 := by
          show (if y * z % 2 = 0 then gv w (y * z / 2) + 1 else 0) = _
          rw [if_neg (by rw [Int.mul_emod, hy, hz]; decide)]
        have g2 : gv (w + 1) z = 0 := by
          show (if z % 2 = 0 then gv w (z / 2) + 1 else 0) = _
          rw [if_neg (by omega)]
        rw [g1, g0, g2]; omega
theorem gv_pow (w : Nat) (a y : Int) : ∀ k : Nat, gv w (a ^ k * y) = min w (k * gv w a + gv w y)
  | 0 => by
    have := gv_le w y
    rw [Int.pow_zero, Int.one_mul]; omega
  | k + 1 => by
    rw [Int.pow_succ, Int.mul_comm (a ^ k) a, Int.mul_assoc, gv_mul, gv_pow w a y k, Nat.add_mul]; omega
theorem gLead {a : Int} (ha : a % 2 = 0) (c : Int) (w k : Nat) (x : Int) : (2 : Int) ^ w ∣ gIt a c k x - gIt a c w x ↔ w ≤ k * gv w a + gv w (x - gIt a c w x) := by
  have e1 : (2 : Int) ^ w ∣ gIt a c k (gIt a c w x) - gIt a c w x := by
    rw [← gIt_add]; exact gIt_even ha c (by omega) x
  have e2 := gIt_sub a c k x (gIt a c w x)
  have e3 : (2 : Int) ^ w ∣ gIt a c k x - gIt a c w x ↔ (2 : Int) ^ w ∣ a ^ k * (x - gIt a c w x) := by
    rw [← e2]
    exact ⟨fun h => gdvT h (gdvS e1), fun h => gdvT h e1⟩
  rw [e3, gv_full, gv_pow]; omega
/-- the quotient rounded up -/
theorem gceil {l t : Int} (ht : 0 < t) (hl : 0 ≤ l) : ∃ L : Nat, -((-l) / t) = (L : Int) ∧ l ≤ (L : Int) * t ∧ (∀ k : Nat, k < L → (k : Int) * t < l) ∧ (L : Int) ≤ l := by
  have e := Int.mul_ediv_add_emod (-l) t
  have r0 := Int.emod_nonneg (-l) (Int.ne_of_gt ht)
  have r1 := Int.emod_lt_of_pos (-l) ht
  have q0 : (-l) / t ≤ 0 := by
    refine Int.le_of_not_gt fun c => ?_
    have := Int.mul_le_mul_of_nonneg_left (show (1 : Int) ≤ (-l) / t by omega) (Int.le_of_lt ht)
    omega
  obtain ⟨L, hL⟩ := Int.eq_ofNat_of_zero_le (show 0 ≤ -((-l) / t) by omega)
  have eL : (L : Int) * t = l + (-l) % t := by
    have : (-l) / t = -(L : Int) := by omega
    rw [this, Int.mul_neg, Int.mul_comm] at e
    omega
  refine ⟨L, hL, by omega, fun k hk => ?_, ?_⟩
  · have h1 := Int.mul_le_mul_of_nonneg_right (show (k : Int) + 1 ≤ L by omega) (Int.le_of_lt ht)
    rw [Int.add_mul, Int.one_mul] at h1
    omega
  · by_cases c : L = 0
    · omega
    · have h1 := Int.mul_le_mul_of_nonneg_right (show (L : Int) - 1 + 1 ≤ L by omega) (Int.le_of_lt ht)
      have h2 := Int.mul_le_mul_of_nonneg_left (show (1 : Int) ≤ t by omega) (show 0 ≤ (L : Int) - 1 by omega)
      rw [Int.mul_one, Int.sub_mul, Int.one_mul] at h2
      omega
end Fw
namespace Fw
/-! ### numbers of steps between two values -/
theorem god_mul {a b : Int} (ha : a % 2 = 1) (hb : b % 2 = 1) : a * b % 2 = 1 := by rw [Int.mul_emod, ha, hb]; rfl
theorem gsq8 {a : Int} (ha : a % 2 = 1) : ∃ k, a * a = 8 * k + 1 := by
  obtain ⟨b, rfl⟩ : ∃ b, a = 2 * b + 1 := ⟨a / 2, by omega⟩
  have e : (2 * b + 1) * (2 * b + 1) = 4 * (b * b + b) + 1 := by
    rw [Int.add_mul, Int.mul_add, Int.mul_one, Int.one_mul, show 2 * b * (2 * b) = 4 * (b * b) by rw [Int.mul_assoc, Int.mul_left_comm b 2 b]; omega]
    omega
  have ev : (b * b + b) % 2 = 0 := by
    have h := Int.mul_emod b b 2
    rcases Int.emod_two_eq b with h' | h'
    · rw [h'] at h; omega
    · rw [h'] at h; omega
  exact ⟨(b * b + b) / 2, by rw [e]; omega⟩
theorem gv_odd {w : Nat} {n : Int} (h : n % 2 = 1) : gv w n = 0 := by
  cases w with
  | zero => rfl
  | succ w =>
    show (if n % 2 = 0 then gv w (n / 2) + 1 else 0) = 0
    rw [if_neg (by omega)]
theorem gv_2odd {w : Nat} {n k : Int} (h : n = 2 * (2 * k + 1)) : gv w n = min w 1 := by
  cases w with
  | zero => rfl
  | succ w =>
    show (if n % 2 = 0 then gv w (n / 2) + 1 else 0) = _
    rw [if_pos (by omega), show n / 2 = 2 * k + 1 by omega, gv_odd (by omega)]; omega
theorem gd_succ (a c : Int) (i : Nat) (z : Int) : gIt a c (2 ^ (i + 2)) z - z = (a ^ (2 ^ (i + 1)) + 1) * (gIt a c (2 ^ (i + 1)) z - z) := by
  rw [show 2 ^ (i + 2) = 2 ^ (i + 1) + 2 ^ (i + 1) by rw [Nat.pow_succ]; omega, gIt_add]
  have := gIt_sub a c (2 ^ (i + 1)) (gIt a c (2 ^ (i + 1)) z) z
  rw [Int.add_mul, Int.one_mul, ← this]; omega
theorem gvd {a : Int} (ha : a % 2 = 1) (c : Int) (w : Nat) : ∀ (i : Nat) (z : Int), gv w (gIt a c (2 ^ (i + 1)) z - z) = min w (i + gv w (gIt a c 2 z - z))
  | 0, z => by
    have := gv_le w (gIt a c 2 z - z)
    show gv w (gIt a c 2 z - z) = _
    omega
  | i + 1, z => by
    have e1 : a ^ (2 ^ (i + 1)) = a ^ (2 ^ i) * a ^ (2 ^ i) := by rw [← Int.pow_add]; congr 1; rw [Nat.pow_succ]; omega
    obtain ⟨k, hk⟩ := gsq8 (god_pow ha (2 ^ i))
    rw [gd_succ, gv_mul, gvd ha c w i z, gv_2odd (k := 2 * k) (by rw [e1, hk]; omega)]; omega
theorem gv0 {a c x z : Int} (ha : a % 2 = 1) {w v : Nat} (hv : gv w (gIt a c 2 x - x) = v) (h : (2 : Int) ^ v ∣ z - x) : gv w (gIt a c 2 z - z) = v := by
  obtain ⟨k, hk⟩ := gsq8 ha
  have e : gIt a c 2 z - z - (gIt a c 2 x - x) = 8 * k * (z - x) := by
    have h1 := gIt_sub a c 2 z x
    have e2 : a ^ 2 = 8 * k + 1 := by rw [← hk, Int.pow_succ, Int.pow_succ, Int.pow_zero, Int.one_mul]
    rw [e2, Int.add_mul, Int.one_mul] at h1
    omega
  have d1 : (2 : Int) ^ (v + 1) ∣ gIt a c 2 z - z - (gIt a c 2 x - x) := by
    obtain ⟨t, ht⟩ := h
    rw [e, ht, g2S]
    exact ⟨4 * k * t, by rw [show 8 * k = 2 * (4 * k) by omega, Int.mul_assoc, Int.mul_left_comm (4 * k), Int.mul_assoc 2, Int.mul_assoc]⟩
  have vw := gv_le w (gIt a c 2 x - x)
  have g1 : v ≤ gv w (gIt a c 2 z - z) := (gv_iff _ _ _).mpr ⟨by omega, by
    have h2 : (2 : Int) ^ v ∣ gIt a c 2 x - x := by rw [← hv]; exact gv_dvd _ _
    have h3 := Int.dvd_trans (gpp (Nat.le_succ v)) d1
    rw [show gIt a c 2 z - z = (gIt a c 2 z - z - (gIt a c 2 x - x)) + (gIt a c 2 x - x) by omega]
    exact Int.dvd_add h3 h2⟩
  refine Nat.le_antisymm (Nat.le_of_not_lt fun lt => ?_) g1
  obtain ⟨h4, h5⟩ := (gv_iff _ _ _).mp (show v + 1 ≤ gv w (gIt a c 2 z - z) from lt)
  have h6 : v + 1 ≤ gv w (gIt a c 2 x - x) := (gv_iff _ _ _).mpr ⟨h4, by
    rw [show gIt a c 2 x - x = (gIt a c 2 z - z) - (gIt a c 2 z - z - (gIt a c 2 x - x)) by omega]
    exact Int.dvd_sub h5 d1⟩
  omega
theorem gorb {a c x : Int} (ha : a % 2 = 1) {w v : Nat} (hv : gv w (gIt a c 2 x - x) = v) : ∀ n : Nat, (2 : Int) ^ v ∣ gIt a c (2 * n) x - x
  | 0 => gdv0
  | n + 1 => by
    have ih := gorb ha hv n
    have h := gv0 ha hv ih
    rw [Nat.mul_succ, gIt_add]
    refine gdvT ?_ ih
    have := gv_dvd w (gIt a c 2 (gIt a c (2 * n) x) - gIt a c (2 * n) x)
    rw [h] at this; exact this
theorem gblock {a c x : Int} (ha : a % 2 = 1) {w v i : Nat} (hv : gv w (gIt a c 2 x - x) = v) : ∀ t : Nat, (2 : Int) ^ min w (i + v) ∣ gIt a c (2 ^ (i + 1) * t) x - x
  | 0 => gdv0
  | t + 1 => by
    have ih := gblock (i := i) ha hv t
    have h0 : (2 : Int) ^ v ∣ gIt a c (2 ^ (i + 1) * t) x - x := by
      rw [show 2 ^ (i + 1) * t = 2 * (2 ^ i * t) by rw [Nat.pow_succ, Nat.mul_comm (2 ^ i) 2, Nat.mul_assoc]]
      exact gorb ha hv _
    have h := gvd ha c w i (gIt a c (2 ^ (i + 1) * t) x)
    rw [gv0 ha hv h0] at h
    rw [Nat.mul_succ, gIt_add]
    refine gdvT ?_ ih
    rw [← h]; exact gv_dvd _ _
theorem gno {a c x : Int} (ha : a % 2 = 1) {w v j t : Nat} (hv : gv w (gIt a c 2 x - x) = v) (hj : v + j < w) : ¬ (2 : Int) ^ w ∣ gIt a c (2 * (2 ^ j * (2 * t + 1))) x - x := by
  intro h
  have e : 2 * (2 ^ j * (2 * t + 1)) = 2 ^ (j + 1 + 1) * t + 2 ^ (j + 1) := by
    rw [Nat.mul_add, Nat.mul_one, Nat.mul_add, Nat.pow_succ, Nat.pow_succ, Nat.mul_left_comm (2 ^ j) 2 t, Nat.mul_comm (2 ^ j) 2, Nat.mul_comm (2 * 2 ^ j) 2, Nat.mul_assoc, Nat.mul_assoc]
  rw [e, gIt_add] at h
  have b := gblock (i := j + 1) ha hv t
  rw [show min w (j + 1 + v) = v + j + 1 by omega] at b
  have h0 : (2 : Int) ^ v ∣ gIt a c (2 ^ (j + 1 + 1) * t) x - x := Int.dvd_trans (gpp (by omega)) b
  have g := gvd ha c w j (gIt a c (2 ^ (j + 1 + 1) * t) x)
  rw [gv0 ha hv h0] at g
  have h1 := Int.dvd_trans (gpp (show v + j + 1 ≤ w by omega)) h
  have h2 : (2 : Int) ^ (v + j + 1) ∣ gIt a c (2 ^ (j + 1)) (gIt a c (2 ^ (j + 1 + 1) * t) x) - gIt a c (2 ^ (j + 1 + 1) * t) x := gdvT h1 (gdvS b)
  have h3 := (gv_iff w _ (v + j + 1)).mpr ⟨by omega, h2⟩
  omega
theorem gnat2 : ∀ n : Nat, 0 < n → ∃ j t, n = 2 ^ j * (2 * t + 1) := by
  intro n
  induction n using Nat.strongRecOn with
  | _ n ih =>
    intro hn
    by_cases h : n % 2 = 0
    · obtain ⟨j, t, e⟩ := ih (n / 2) (by omega) (by omega)
      exact ⟨j + 1, t, by rw [Nat.pow_succ, Nat.mul_comm (2 ^ j) 2, Nat.mul_assoc, ← e]; omega⟩
    · exact ⟨0, n / 2, by rw [Nat.pow_zero]; omega⟩
theorem gcancel {a c : Int} (ha : a % 2 = 1) {w : Nat} : ∀ (n : Nat) {x y : Int}, (2 : Int) ^ w ∣ gIt a c n x - gIt a c n y → (2 : Int) ^ w ∣ x - y := by
  intro n x y h
  rw [gIt_sub] at h
  have h1 := gv_full.mp h
  rw [gv_mul, gv_odd (god_pow ha n)] at h1
  have := gv_le w (x - y)
  exact gv_full.mpr (by omega)
/-- fewer double steps lead elsewhere -/
theorem gleast {a c x y : Int} (ha : a % 2 = 1) {w v : Nat} (hv : gv w (gIt a c 2 x - x) = v) {m n : Nat} (hn : n < 2 ^ (w - v)) (h : (2 : Int) ^ w ∣ gIt a c (2 * n) x - y) (hm : m < n) : ¬ (2 : Int) ^ w ∣ gIt a c (2 * m) x - y := by
  intro g
  have e : 2 * n = 2 * (n - m) + 2 * m := by omega
  have d := gdvT h (gdvS g)
  rw [e, gIt_add] at d
  have d2 := gcancel ha _ d
  obtain ⟨j, t, ht⟩ := gnat2 (n - m) (by omega)
  rw [ht] at d2
  have hj : 2 ^ j < 2 ^ (w - v) := by
    have : 2 ^ j * 1 ≤ 2 ^ j * (2 * t + 1) := Nat.mul_le_mul_left _ (by omega)
    omega
  have := (Nat.pow_lt_pow_iff_right (show 1 < 2 by decide)).mp hj
  exact gno ha hv (by omega) d2
/-- one bit -/
theorem gbit1 {k : Nat} {D E : Int} (hD : (2 : Int) ^ k ∣ D) (h1 : D / 2 ^ k % 2 = 1) (hE : (2 : Int) ^ k ∣ E) (hn : ¬ (2 : Int) ^ (k + 1) ∣ E) : (2 : Int) ^ (k + 1) ∣ D - E := by
  obtain ⟨d, rfl⟩ := hD
  obtain ⟨e, rfl⟩ := hE
  rw [Int.mul_ediv_cancel_left _ (Int.ne_of_gt (gpos k))] at h1
  have he : e % 2 = 1 := by
    rcases Int.emod_two_eq e with z | z
    · refine absurd ⟨e / 2, ?_⟩ hn
      rw [g2S, Int.mul_comm 2, Int.mul_assoc]; congr 1; omega
    · exact z
  refine ⟨(d - e) / 2, ?_⟩
  rw [g2S, Int.mul_comm 2, Int.mul_assoc, ← Int.mul_sub]; congr 1; omega
theorem gbit0 {k : Nat} {D : Int} (hD : (2 : Int) ^ k ∣ D) (h1 : D / 2 ^ k % 2 ≠ 1) : (2 : Int) ^ (k + 1) ∣ D := by
  obtain ⟨d, rfl⟩ := hD
  rw [Int.mul_ediv_cancel_left _ (Int.ne_of_gt (gpos k))] at h1
  refine ⟨d / 2, ?_⟩
  rw [g2S, Int.mul_comm 2, Int.mul_assoc]; congr 1; omega
/-- the least number of double steps, or none -/
def SqR (w : Nat) (a c x y : Int) (o : Option Nat) : Prop := (o = none ∧ ∀ n : Nat, ¬ (2 : Int) ^ w ∣ gIt a c (2 * n) x - y) ∨ ∃ n : Nat, o = some n ∧ (2 : Int) ^ w ∣ gIt a c (2 * n) x - y ∧ ∀ m, m < n → ¬ (2 : Int) ^ w ∣ gIt a c (2 * m) x - y
/-- the least number of steps, or none -/
def LsR (w : Nat) (a c x y : Int) (o : Option Nat) : Prop := (o = none ∧ ∀ n : Nat, ¬ (2 : Int) ^ w ∣ gIt a c n x - y) ∨ ∃ n : Nat, o = some n ∧ (2 : Int) ^ w ∣ gIt a c n x - y ∧ ∀ m, m < n → ¬ (2 : Int) ^ w ∣ gIt a c m x - y
theorem LsR.uniq {w : Nat} {a c x y : Int} {o o' : Option Nat} (h : LsR w a c x y o) (g : LsR w a c x y o') : o = o' := by
  rcases h with ⟨rfl, h⟩ | ⟨n, rfl, h1, h2⟩ <;> rcases g with ⟨rfl, g⟩ | ⟨m, rfl, g1, g2⟩
  · rfl
  · exact absurd g1 (h m)
  · exact absurd h1 (g n)
  · rcases Nat.lt_trichotomy n m with z | z | z
    · exact absurd h1 (g2 n z)
    · rw [z]
    · exact absurd g1 (h2 m z)
theorem god_inv {a : Int} (ha : a % 2 = 1) (m : Nat) : (2 : Int) ^ m ∣ a ^ (2 ^ m) - 1 := by
  have h := gIt_full ha 0 m 1
  have e : ∀ n : Nat, gIt a 0 n 1 = a ^ n := fun n => by
    induction n with
    | zero => rw [Int.pow_zero]; rfl
    | succ n ih =>
      show a * gIt a 0 n 1 + 0 = _
      rw [ih, Int.pow_succ, Int.mul_comm]; omega
  rw [e] at h; exact h
theorem gper_mul {a c x : Int} {S : Int} {k : Nat} (h : S ∣ gIt a c k x - x) : ∀ n : Nat, S ∣ gIt a c (k * n) x - x
  | 0 => gdv0
  | n + 1 => by
    rw [Nat.mul_succ, Nat.add_comm, gIt_add]
    exact gdvT (gIt_congx (k * n) h) (gper_mul h n)
/-- all periods are multiples of the least one that is a power of two -/
theorem gper_dvd {a c x : Int} (ha : a % 2 = 1) {w i : Nat} (h1 : (2 : Int) ^ w ∣ gIt a c (2 ^ i) x - x) (h2 : ∀ j, j < i → ¬ (2 : Int) ^ w ∣ gIt a c (2 ^ j) x - x) {k : Nat} : (2 : Int) ^ w ∣ gIt a c k x - x ↔ 2 ^ i ∣ k := by
  constructor
  · intro hk
    by_cases k0 : k = 0
    · rw [k0]; exact Nat.dvd_zero _
    obtain ⟨j, t, rfl⟩ := gnat2 k (by omega)
    by_cases hj : i ≤ j
    · obtain ⟨u, rfl⟩ : ∃ u, j = i + u := ⟨j - i, by omega⟩
      rw [Nat.pow_add, Nat.mul_assoc]; exact Nat.dvd_mul_right _ _
    · exfalso
      obtain ⟨m, rfl⟩ : ∃ m, i = j + m := ⟨i - j, by omega⟩
      obtain ⟨q, hq⟩ := god_inv (a := ((2 * t + 1 : Nat) : Int)) (by omega) m
      have hp := gper_mul hk ((2 * t + 1) ^ (2 ^ m - 1))
      have e1 : 2 ^ j * (2 * t + 1) * (2 * t + 1) ^ (2 ^ m - 1) = 2 ^ j * (2 * t + 1) ^ (2 ^ m) := by
        have : 2 ^ m = (2 ^ m - 1) + 1 := by have := Nat.one_le_two_pow (n := m); omega
        conv => rhs; rw [this, Nat.pow_succ]
        rw [Nat.mul_assoc, Nat.mul_comm (2 * t + 1)]
      have q0 : 0 ≤ q := by
        have hb : (1 : Int) ≤ ((2 * t + 1 : Nat) : Int) ^ (2 ^ m) := by
          have := Nat.one_le_pow (2 ^ m) (2 * t + 1) (by omega)
          rw [← Int.natCast_pow]; omega
        refine Int.not_lt.mp fun c => ?_
        have := Int.mul_le_mul_of_nonneg_left (show q ≤ -1 by omega) (Int.le_of_lt (gpos m))
        have := gpos m
        omega
      obtain ⟨qn, rfl⟩ := Int.eq_ofNat_of_zero_le q0
      have e2 : (2 * t + 1) ^ (2 ^ m) = 1 + 2 ^ m * qn := by
        have : (((2 * t + 1) ^ (2 ^ m) : Nat) : Int) = ((1 + 2 ^ m * qn : Nat) : Int) := by
          have c1 : (((2 * t + 1) ^ (2 ^ m) : Nat) : Int) = ((2 * t + 1 : Nat) : Int) ^ (2 ^ m) := Int.natCast_pow _ _
          have c2 : ((1 + 2 ^ m * qn : Nat) : Int) = 1 + (2 : Int) ^ m * qn := by rw [Int.natCast_add, Int.natCast_mul, Int.natCast_pow]; rfl
          rw [c1, c2]; omega
        exact Int.ofNat_inj.mp this
      rw [e1, e2, Nat.mul_add, Nat.mul_one, ← Nat.mul_assoc, ← Nat.pow_add, Nat.add_comm, gIt_add] at hp
      exact h2 j (by
        have : 0 < m := by omega
        omega) (gdvT (gIt_congx _ (gdvS (gper_mul h1 qn))) hp)
  · rintro ⟨t, rfl⟩
    exact gper_mul h1 t
theorem gsame {a c x : Int} (ha : a % 2 = 1) {w : Nat} {m n : Nat} (hmn : m ≤ n) : (2 : Int) ^ w ∣ gIt a c n x - gIt a c m x ↔ (2 : Int) ^ w ∣ gIt a c (n - m) x - x := by
  have e : n = (n - m) + m := by omega
  constructor
  · intro h
    rw [e, gIt_add] at h
    exact gcancel ha _ h
  · intro h
    rw [e, gIt_add]
    exact gIt_congx m h
def gpart (i : Nat) : Option Nat → List Int
  | none => []
  | some n => [2 * (n : Int) + (i : Int)]
theorem gmerge {w : Nat} {a c x x1 y : Int} {o0 o1 : Option Nat} (hx : (2 : Int) ^ w ∣ x1 - gIt a c 1 x) (h0 : SqR w a c x y o0) (h1 : SqR w a c x1 y o1) :
    (gpart 0 o0 ++ gpart 1 o1 = [] → LsR w a c x y none) ∧ ∀ m, m ∈ gpart 0 o0 ++ gpart 1 o1 → (∀ z, z ∈ gpart 0 o0 ++ gpart 1 o1 → m ≤ z) → ∃ n : Nat, m = (n : Int) ∧ LsR w a c x y (some n) := by
  have odd : ∀ h : Nat, (2 : Int) ^ w ∣ gIt a c (2 * h + 1) x - y ↔ (2 : Int) ^ w ∣ gIt a c (2 * h) x1 - y := fun h => by
    have e : gIt a c (2 * h + 1) x = gIt a c (2 * h) (gIt a c 1 x) := by rw [← gIt_add, Nat.add_comm]
    have d := gIt_congx (a := a) (c := c) (2 * h) hx
    rw [e]
    exact ⟨fun z => gdvT d z, fun z => gdvT (gdvS d) z⟩
  have low : ∀ m : Nat, (2 : Int) ^ w ∣ gIt a c m x - y → ∃ z : Nat, z ≤ m ∧ (z : Int) ∈ gpart 0 o0 ++ gpart 1 o1 := fun m hm => by
    rcases Nat.mod_two_eq_zero_or_one m with e | e
    · obtain ⟨h, rfl⟩ : ∃ h, m = 2 * h := ⟨m / 2, by omega⟩
      rcases h0 with ⟨rfl, g⟩ | ⟨n, rfl, g1, g2⟩
      · exact absurd hm (g h)
      · have : ¬ h < n := fun z => g2 h z hm
        exact ⟨2 * n, by omega, List.mem_append.mpr (.inl (by simp [gpart]))⟩
    · obtain ⟨h, rfl⟩ : ∃ h, m = 2 * h + 1 := ⟨m / 2, by omega⟩
      have hm' := (odd h).mp hm
      rcases h1 with ⟨rfl, g⟩ | ⟨n, rfl, g1, g2⟩
      · exact absurd hm' (g h)
      · have : ¬ h < n := fun z => g2 h z hm'
        exact ⟨2 * n + 1, by omega, List.mem_append.mpr (.inr (by simp [gpart]))⟩
  refine ⟨fun e => .inl ⟨rfl, fun n hn => ?_⟩, fun m hm hl => ?_⟩
  · obtain ⟨z, _, hz⟩ := low n hn
    rw [e] at hz; cases hz
  · have hit : ∃ n : Nat, m = (n : Int) ∧ (2 : Int) ^ w ∣ gIt a c n x - y := by
      rcases List.mem_append.mp hm with h | h
      · rcases h0 with ⟨rfl, g⟩ | ⟨n, rfl, g1, g2⟩
        · cases h
        · have e : m = 2 * (n : Int) + ((0 : Nat) : Int) := List.mem_singleton.mp h
          exact ⟨2 * n, by omega, g1⟩
      · rcases h1 with ⟨rfl, g⟩ | ⟨n, rfl, g1, g2⟩
        · cases h
        · have e : m = 2 * (n : Int) + ((1 : Nat) : Int) := List.mem_singleton.mp h
          exact ⟨2 * n + 1, by omega, (odd n).mpr g1⟩
    obtain ⟨n, rfl, hn⟩ := hit
    refine ⟨n, rfl, .inr ⟨n, rfl, hn, fun k hk g => ?_⟩⟩
    obtain ⟨z, hz, hz2⟩ := low k g
    have := hl _ hz2
    omega
/-- how many steps come between two numbers that lead to y -/
def PerR (w : Nat) (a c x y : Int) (l : Nat) : Prop := (a % 2 = 1 → ∃ i, l = 2 ^ i ∧ i ≤ w ∧ (2 : Int) ^ w ∣ gIt a c (2 ^ i) x - x ∧ ∀ j, j < i → ¬ (2 : Int) ^ w ∣ gIt a c (2 ^ j) x - x) ∧ (a % 2 = 0 → ((2 : Int) ^ w ∣ gIt a c 1 y - y → l = 1) ∧ (¬ (2 : Int) ^ w ∣ gIt a c 1 y - y → l = 0))
/-- the values that are met, until one comes again -/
structure Way (w : Nat) (a c x : Int) (L t : Nat) : Prop where
  dis : ∀ i j, i < j → j < L → ¬ (2 : Int) ^ w ∣ gIt a c j x - gIt a c i x
  lt : t < L
  eq : (2 : Int) ^ w ∣ gIt a c L x - gIt a c t x
section
variable {w : Nat} {a c x y : Int} {L t : Nat}
theorem Way.on (h : Way w a c x L t) (k : Nat) : (2 : Int) ^ w ∣ gIt a c (L + k) x - gIt a c (t + k) x := by
  rw [gIt_add, gIt_add]
  exact gIt_congx k h.eq
theorem Way.all (h : Way w a c x L t) : ∀ n : Nat, ∃ m, m < L ∧ (2 : Int) ^ w ∣ gIt a c n x - gIt a c m x := by
  intro n
  induction n using Nat.strongRecOn with
  | _ n ih =>
    by_cases hn : n < L
    · exact ⟨n, hn, gdv0⟩
    · have lt := h.lt
      obtain ⟨m, hm, e⟩ := ih (t + (n - L)) (by omega)
      have o := h.on (n - L)
      rw [show L + (n - L) = n by omega] at o
      exact ⟨m, hm, gdvT o e⟩
theorem Way.hit (h : Way w a c x L t) {n : Nat} (hn : n < L) (e : (2 : Int) ^ w ∣ gIt a c n x - y) : LsR w a c x y (some n) :=
  .inr ⟨n, rfl, e, fun m hm g => h.dis m n hm hn (gdvT e (gdvS g))⟩
theorem Way.miss (h : Way w a c x L t) (e : ∀ n, n < L → ¬ (2 : Int) ^ w ∣ gIt a c n x - y) : LsR w a c x y none :=
  .inl ⟨rfl, fun n g => by
    obtain ⟨m, hm, d⟩ := h.all n
    exact e m hm (gdvT (gdvS d) g)⟩
theorem Way.odd (h : Way w a c x L t) (ao : a % 2 = 1) : t = 0 := by
  refine Nat.eq_zero_of_not_pos fun z => ?_
  have lt := h.lt
  have e := h.eq
  rw [show L = (L - 1) + 1 by omega, show t = (t - 1) + 1 by omega, gIt_add, gIt_add] at e
  exact h.dis (t - 1) (L - 1) (by omega) (by omega) (gcancel ao 1 e)
theorem Way.even (h : Way w a c x L t) (ae : a % 2 = 0) : t + 1 = L := by
  have lt := h.lt
  refine Nat.le_antisymm lt (Nat.le_of_not_lt fun z => ?_)
  have many : ∀ (k j : Nat), (2 : Int) ^ w ∣ gIt a c (t + (L - t) * k + j) x - gIt a c (t + j) x := fun k j => by
    induction k with
    | zero => exact gdv0
    | succ k ih =>
      have o := h.on ((L - t) * k + j)
      rw [show L + ((L - t) * k + j) = t + (L - t) * (k + 1) + j by rw [Nat.mul_succ]; omega, show t + ((L - t) * k + j) = t + (L - t) * k + j by omega] at o
      exact gdvT o ih
  have big : w ≤ t + (L - t) * w + 0 := by
    have := Nat.mul_le_mul_right w (show 1 ≤ L - t by omega)
    omega
  have e0 := gdvT (gdvS (gIt_even ae c big x)) (many w 0)
  have e1 := gdvT (gdvS (gIt_even ae c (show w ≤ t + (L - t) * w + 1 by omega) x)) (many w 1)
  exact h.dis t (t + 1) (by omega) (by omega) (gdvT (gdvS e1) e0)
theorem Way.per (h : Way w a c x L t) {n l : Nat} (hn : n < L) (e : (2 : Int) ^ w ∣ gIt a c n x - y) (p : PerR w a c x y l) : (t ≤ n → l = L - t) ∧ (n < t → l = 0) := by
  have lt := h.lt
  rcases Int.emod_two_eq a with ha | ha
  · have te := h.even ha
    obtain ⟨p1, p2⟩ := p.2 ha
    refine ⟨fun z => ?_, fun z => p2 fun f => ?_⟩
    · rw [p1 ?_]; omega
      have o := h.eq
      rw [← te, gIt_add] at o
      have en : t = n := by omega
      rw [en] at o
      exact gdvT (gIt_congx 1 (gdvS e)) (gdvT o e)
    · have := gdvT (gIt_congx (a := a) (c := c) 1 e) (gdvT f (gdvS e))
      rw [← gIt_add] at this
      exact h.dis n (n + 1) (by omega) (by omega) this
  · have t0 := h.odd ha
    obtain ⟨i, rfl, iw, h1, h2⟩ := p.1 ha
    refine ⟨fun _ => ?_, fun z => by omega⟩
    have o := h.eq
    rw [t0] at o
    have d := (gper_dvd ha h1 h2).mp o
    have le := Nat.le_of_dvd (by omega) d
    refine Nat.le_antisymm (by omega) (Nat.le_of_not_lt fun z => ?_)
    exact h.dis 0 (2 ^ i) (Nat.pow_pos (by decide)) (by omega) h1
end
theorem PerR.uniq {w : Nat} {a c x y : Int} {l l' : Nat} (h : PerR w a c x y l) (g : PerR w a c x y l') : l = l' := by
  rcases Int.emod_two_eq a with e | e
  · obtain ⟨h1, h2⟩ := h.2 e
    obtain ⟨g1, g2⟩ := g.2 e
    by_cases z : (2 : Int) ^ w ∣ gIt a c 1 y - y
    · rw [h1 z, g1 z]
    · rw [h2 z, g2 z]
  · obtain ⟨i, rfl, _, h1, h2⟩ := h.1 e
    obtain ⟨j, rfl, _, g1, g2⟩ := g.1 e
    rcases Nat.lt_trichotomy i j with z | z | z
    · exact absurd h1 (g2 i z)
    · rw [z]
    · exact absurd g1 (h2 j z)
theorem PerR.zero {a c x y : Int} {l : Nat} (h : PerR 0 a c x y l) : l = 1 := by
  have d : ∀ z : Int, (2 : Int) ^ 0 ∣ z := fun z => by rw [Int.pow_zero]; exact Int.one_dvd _
  rcases Int.emod_two_eq a with e | e
  · exact (h.2 e).1 (d _)
  · obtain ⟨i, rfl, iw, _, _⟩ := h.1 e
    rw [show i = 0 by omega]
theorem LsR.zero {a c x y : Int} {o : Option Nat} (h : LsR 0 a c x y o) : o = some 0 := h.uniq (.inr ⟨0, rfl, by rw [Int.pow_zero]; exact Int.one_dvd _, fun m hm => by omega⟩)
/-- f 0, f 1, .. -/
def gL (f : Nat → Int) (L : Nat) : List Int := (List.range L).map f
section
variable {f : Nat → Int} {L i : Nat} {y : Int}
theorem gL_mem : y ∈ gL f L ↔ ∃ i, i < L ∧ f i = y := by
  unfold gL
  rw [List.mem_map]
  constructor
  · rintro ⟨i, hi, e⟩; exact ⟨i, List.mem_range.mp hi, e⟩
  · rintro ⟨i, hi, e⟩; exact ⟨i, List.mem_range.mpr hi, e⟩
theorem gL_len : (gL f L).length = L := by unfold gL; rw [List.length_map, List.length_range]
theorem gL_succ : gL f (L + 1) = gL f L ++ [f L] := by unfold gL; rw [List.range_succ, List.map_append]; rfl
theorem gL_get (h : i < L) : (gL f L)[i]? = some (f i) := by unfold gL; rw [List.getElem?_map, List.getElem?_range h]; rfl
end
theorem least_ex {P : Nat → Prop} : ∀ {n : Nat}, P n → ∃ m, m ≤ n ∧ P m ∧ ∀ k, k < m → ¬ P k := by
  intro n
  induction n using Nat.strongRecOn with
  | _ n ih =>
    intro h
    by_cases e : ∃ k, k < n ∧ P k
    · obtain ⟨k, hk, pk⟩ := e
      obtain ⟨m, h1, h2, h3⟩ := ih k hk pk
      exact ⟨m, by omega, h2, h3⟩
    · exact ⟨n, Nat.le_refl _, h, fun k hk pk => e ⟨k, hk, pk⟩⟩
section
variable {w : Nat} {a c x y a' c' x' y' : Int}
theorem hit_conv (ha : (2 : Int) ^ w ∣ a - a') (hc : (2 : Int) ^ w ∣ c - c') (hx : (2 : Int) ^ w ∣ x - x') (hy : (2 : Int) ^ w ∣ y - y') (n : Nat) : (2 : Int) ^ w ∣ gIt a c n x - y ↔ (2 : Int) ^ w ∣ gIt a' c' n x' - y' := by
  have e := gIt_cong ha hc n hx
  exact ⟨fun h => gdvT (gdvS e) (gdvT h hy), fun h => gdvT e (gdvT h (gdvS hy))⟩
theorem LsR.conv (ha : (2 : Int) ^ w ∣ a - a') (hc : (2 : Int) ^ w ∣ c - c') (hx : (2 : Int) ^ w ∣ x - x') (hy : (2 : Int) ^ w ∣ y - y') {o : Option Nat} (h : LsR w a c x y o) : LsR w a' c' x' y' o := by
  have q := hit_conv ha hc hx hy
  rcases h with ⟨e, h⟩ | ⟨n, e, h1, h2⟩
  · exact .inl ⟨e, fun n g => h n ((q n).mpr g)⟩
  · exact .inr ⟨n, e, (q n).mp h1, fun m hm g => h2 m hm ((q m).mpr g)⟩
theorem PerR.conv (hp : a % 2 = a' % 2) (ha : (2 : Int) ^ w ∣ a - a') (hc : (2 : Int) ^ w ∣ c - c') (hx : (2 : Int) ^ w ∣ x - x') (hy : (2 : Int) ^ w ∣ y - y') {l : Nat} (h : PerR w a c x y l) : PerR w a' c' x' y' l := by
  have q := hit_conv ha hc hx hx
  have q1 := hit_conv ha hc hy hy 1
  refine ⟨fun e => ?_, fun e => ?_⟩
  · obtain ⟨i, e1, iw, h1, h2⟩ := h.1 (by omega)
    exact ⟨i, e1, iw, (q _).mp h1, fun j hj g => h2 j hj ((q _).mpr g)⟩
  · obtain ⟨h1, h2⟩ := h.2 (by omega)
    exact ⟨fun g => h1 (q1.mpr g), fun g => h2 fun z => g (q1.mp z)⟩
theorem per_hit {n l : Nat} (h : (2 : Int) ^ w ∣ gIt a c n x - y) (p : PerR w a c x y l) (k : Nat) : (2 : Int) ^ w ∣ gIt a c (n + l * k) x - y := by
  rcases Int.emod_two_eq a with e | e
  · obtain ⟨p1, p2⟩ := p.2 e
    by_cases f : (2 : Int) ^ w ∣ gIt a c 1 y - y
    · rw [p1 f, gIt_add]
      exact gdvT (gIt_congx _ h) (gper_mul f k)
    · rw [p2 f, Nat.zero_mul]; exact h
  · obtain ⟨i, rfl, _, h1, _⟩ := p.1 e
    rw [Nat.add_comm, gIt_add]
    exact gdvT (gIt_congx n (gper_mul h1 k)) h
end
section
variable {w v : Nat} {a c x y : Int}
theorem LsR.get {n : Nat} (h : LsR w a c x y (some n)) : (2 : Int) ^ w ∣ gIt a c n x - y ∧ ∀ m, m < n → ¬ (2 : Int) ^ w ∣ gIt a c m x - y := by
  rcases h with ⟨z, _⟩ | ⟨n', e, h⟩
  · cases z
  · obtain rfl := Option.some.inj e
    exact h
theorem LsR.low_none (h : v ≤ w) (l : LsR v a c x y none) : LsR w a c x y none := by
  rcases l with ⟨_, g⟩ | ⟨n, e, _⟩
  · exact .inl ⟨rfl, fun n z => g n (Int.dvd_trans (gpp h) z)⟩
  · cases e
/-- with an even factor what comes again stays -/
theorem even_stay (ae : a % 2 = 0) {k : Nat} (k0 : 0 < k) (h : (2 : Int) ^ w ∣ gIt a c k y - y) : (2 : Int) ^ w ∣ gIt a c 1 y - y := by
  have m := gper_mul h w
  have kw : w ≤ k * w := Nat.le_mul_of_pos_left w k0
  have e1 := gIt_even ae c kw y
  have e2 := gIt_even ae c (show w ≤ k * w + 1 by omega) y
  rw [gIt_add] at e2
  exact gdvT (gIt_congx 1 (gdvS m)) (gdvT e2 (gdvT (gdvS e1) m))
theorem low_more (h : v ≤ w) {n m l k : Nat} (h1 : LsR v a c x y (some n)) (h2 : LsR w a c x y (some m)) (p1 : PerR v a c x y l) (p2 : PerR w a c x y k) : n ≤ m ∧ (l = 0 → n = m ∧ k = 0) ∧ (l ≠ 0 → l ∣ m - n ∧ l ∣ k) := by
  obtain ⟨a1, a2⟩ := h1.get
  obtain ⟨b1, b2⟩ := h2.get
  have b1' := Int.dvd_trans (gpp h) b1
  have nm : n ≤ m := Nat.le_of_not_lt fun z => a2 m z b1'
  refine ⟨nm, fun l0 => ?_, fun l0 => ?_⟩
  · subst l0
    rcases Int.emod_two_eq a with ae | ao
    · obtain ⟨q1, q2⟩ := p1.2 ae
      have nf : ¬ (2 : Int) ^ v ∣ gIt a c 1 y - y := fun f => by cases q1 f
      obtain ⟨r1, r2⟩ := p2.2 ae
      refine ⟨?_, r2 fun f => nf (Int.dvd_trans (gpp h) f)⟩
      refine Nat.le_antisymm nm (Nat.le_of_not_lt fun z => nf (even_stay ae (show 0 < m - n by omega) ?_))
      rw [show m = n + (m - n) by omega, gIt_add] at b1'
      exact gdvT (gIt_congx _ (gdvS a1)) b1'
    · obtain ⟨i, e, _⟩ := p1.1 ao
      have := Nat.pow_pos (n := i) (show 0 < 2 by decide)
      omega
  · rcases Int.emod_two_eq a with ae | ao
    · obtain ⟨q1, q2⟩ := p1.2 ae
      have l1 : l = 1 := by
        by_cases f : (2 : Int) ^ v ∣ gIt a c 1 y - y
        · exact q1 f
        · exact absurd (q2 f) l0
      rw [l1]
      exact ⟨Nat.one_dvd _, Nat.one_dvd _⟩
    · obtain ⟨i, rfl, _, i1, i2⟩ := p1.1 ao
      obtain ⟨j, rfl, _, j1, j2⟩ := p2.1 ao
      refine ⟨(gper_dvd ao i1 i2).mp ((gsame ao nm).mp (gdvT b1' (gdvS a1))), (gper_dvd ao i1 i2).mp (Int.dvd_trans (gpp h) j1)⟩
end
end Fw
namespace Fw
open PySem L2
def rDivC : List V → Hp → VK → Prop := fun xs H Q => ∃ i j, xs = [.int i, .int j] ∧ CDivP i j ∧ ∀ p, H p = none → Q (.ref p) (upd H p (.tup [.int (i / j), .int (i % j)]))
def rmax2C : List V → Hp → VK → Prop := fun xs H Q => ∃ i j : Int, xs = [.int i, .int j] ∧ Q (.int (if j > i then j else i)) H
def rmin2C : List V → Hp → VK → Prop := fun xs H Q => ∃ i j : Int, xs = [.int i, .int j] ∧ Q (.int (if j < i then j else i)) H
section
variable {σ : L2.St} {H : Hp} {Q : VK} {D : Ends} {te : TE}
theorem w_aug {i : Nat} {x : V} {g : Int → Int → Int} (hx : σ[i]? = some (some x)) (q : te σ H fun y H1 => ∃ u v : Int, x = .int u ∧ y = .int v ∧ D.nx (σ.set i (some (.int (g u v)))) H1) : tAug i te (ipI g) D σ H := ⟨x, hx, q⟩
theorem w_augR {i : Nat} {x : V} {r : R2} (hx : σ[i]? = some (some x)) (q : te σ H fun y H1 => r x y H1 fun z H2 => D.nx (σ.set i (some z)) H2) : tAug i te r D σ H := ⟨x, hx, q⟩
theorem w_ipi {u v : Int} {P : Int → Int → Prop} (q : P u v) : ∃ a b : Int, V.int u = .int a ∧ V.int v = .int b ∧ P a b := ⟨u, v, rfl, rfl, q⟩
theorem w_max2 {i j : Int} (q : Q (.int (max i j)) H) : rmax2C [.int i, .int j] H Q := ⟨i, j, rfl, by
  have e : (if j > i then j else i) = max i j := by split <;> omega
  rw [e]; exact q⟩
theorem w_min2 {i j : Int} (q : Q (.int (min i j)) H) : rmin2C [.int i, .int j] H Q := ⟨i, j, rfl, by
  have e : (if j < i then j else i) = min i j := by split <;> omega
  rw [e]; exact q⟩
theorem w_lenT {K : PySem.W.Frag} {p : Addr} {ys : List V} (h : H p = some (.tup ys)) (q : Q (.int (ys.length : Int)) H) : rLenS K [.ref p] H Q := ⟨p, ys, rfl, .inr (SqT.of h), q⟩
theorem w_stJ {c : Prop} [Decidable c] {ta tb : TS} (R : L2.St → Hp → Prop) (h1 : c → ∀ D' : Ends, (∀ σ' H', R σ' H' → D'.nx σ' H') → ta D' σ H) (h2 : ¬ c → ∀ D' : Ends, (∀ σ' H', R σ' H' → D'.nx σ' H') → tb D' σ H) (q : ∀ σ' H', R σ' H' → D.nx σ' H') : if decide c = true then ta D σ H else tb D σ H := w_dec (fun z => h1 z D q) (fun z => h2 z D q)
theorem w_bm {K : PySem.W.Frag} {T : String} {r : V → List V → Hp → VK → Prop} {to : TE} {t : TA} (q : to σ H fun x H1 => tyV K T x H1 ∧ t σ H1 fun xs H2 => r x xs H2 Q) : tBM K T r to t σ H Q := q
theorem w_ifJ {tt : TT} {ta tb : TE} (R : V → Hp → Prop) (h1 : ∀ Q : VK, (∀ x H', R x H' → Q x H') → tIf tt ta tb σ H Q) (q : ∀ x H', R x H' → Q x H') : tIf tt ta tb σ H Q := h1 Q q
/-- whatever an expression's value is, as far as R tells of it -/
theorem w_any (R : V → Hp → Prop) (h1 : ∀ Q : VK, (∀ x H', R x H' → Q x H') → te σ H Q) (q : ∀ x H', R x H' → Q x H') : te σ H Q := h1 Q q
theorem w_tst {tt : TT} {Q : Bool → Hp → Prop} (R : Bool → Hp → Prop) (h : ∀ Q : Bool → Hp → Prop, (∀ b H', R b H' → Q b H') → tt σ H Q) (q : ∀ b H', R b H' → Q b H') : tt σ H Q := h Q q
/-- c and tt, as a test that comes out false -/
theorem w_decJ {c : Prop} [Decidable c] {tt : TT} {Q : Bool → Hp → Prop} (R : Hp → Prop) (h1 : c → ∀ Q : Bool → Hp → Prop, (∀ H', R H' → Q false H') → tt σ H Q) (h2 : ¬ c → R H) (q : ∀ H', R H' → Q false H') : if decide c = true then tt σ H Q else Q false H := w_dec (fun z => h1 z Q q) (fun z => q H (h2 z))
end
section
variable {K : PySem.W.Frag} {σ : L2.St} {H : Hp} {Q : VK} {D : Ends} {te : TE}
theorem w_itT {tl : TE} {R : It → Hp → Prop} (q : tl σ H fun x H1 => ∃ a, x = .ref a ∧ (∃ xs, SqT K H1 a xs) ∧ R (Itt K a) H1) : iTup K tl σ H R := q
theorem w_itE {ta : TA} {R : It → Hp → Prop} (q : ta σ H fun vs H1 => ∃ a xs, vs = [.ref a] ∧ SqL K H1 a xs ∧ R (Ite K a) H1) : iEnum K ta σ H R := q
theorem w_minL {a : Addr} {ns : List Int} (h : SqL K H a (ns.map V.int)) (n : 0 < ns.length) (q : ∀ m, m ∈ ns → (∀ y, y ∈ ns → m ≤ y) → Q (.int m) H) : rMin K [.ref a] H Q := ⟨a, ns, rfl, h, n, q⟩
theorem w_truL {p : Addr} {xs : List V} {P : Bool → Prop} (h : SqL K H p xs) (q : P (!xs.isEmpty)) : ∃ k, TruV K (.ref p) H k ∧ P k := ⟨_, .inl ⟨xs, h, rfl⟩, q⟩
theorem w_notinL {p : Addr} {x : V} {xs : List V} (h : SqL K H p xs) (f1 : flatV x = true) (f2 : xs.all flatV = true) (q : Q (.bl (!inV x xs)) H) : rIn K true x (.ref p) H Q := ⟨p, xs, rfl, .inl h, f1, f2, q⟩
theorem w_inL {p : Addr} {x : V} {xs : List V} (h : SqL K H p xs) (f1 : flatV x = true) (f2 : xs.all flatV = true) (q : Q (.bl (inV x xs)) H) : rIn K false x (.ref p) H Q := ⟨p, xs, rfl, .inl h, f1, f2, q⟩
theorem w_eqDg {x y : V} {d e : PyData} (hx : Dp K H x d) (hy : Dp K H y e) (sd : SeqAt.shaped d = true) (se : SeqAt.shaped e = true) (q : Q (.bl (PyData.eqv d e)) H) : rEqD K x y H Q := ⟨d, e, hx, hy, sd, se, q⟩
theorem w_neDg {x y : V} {d e : PyData} (hx : Dp K H x d) (hy : Dp K H y e) (sd : SeqAt.shaped d = true) (se : SeqAt.shaped e = true) (q : Q (.bl (!PyData.eqv d e)) H) : rNeD K x y H Q := ⟨d, e, hx, hy, sd, se, q⟩
end
theorem flat_ints (is : List Int) : (is.map V.int).all flatV = true := by
  induction is with
  | nil => rfl
  | cons x r ih => rw [List.map_cons, List.all_cons, ih]; rfl
theorem inV_ints (i : Int) (is : List Int) : inV (.int i) (is.map V.int) = decide (i ∈ is) := by
  unfold inV
  induction is with
  | nil => simp
  | cons x r ih =>
    rw [List.map_cons, List.any_cons, ih]
    by_cases h : i = x
    · subst h
      rw [show eqV (V.int i) (V.int i) = true by simp [eqV]]; simp
    · have e1 : eqV (V.int x) (V.int i) = false := by simp [eqV]; exact fun z => h z.symm
      have e2 : eqV (V.int i) (V.int x) = false := by simp [eqV]; exact h
      first | rw [e1] | rw [e2]
      simp [h]
theorem w_rng2 {σ : L2.St} {H : Hp} {ta : TA} {R : It → Hp → Prop} (q : ta σ H fun vs H1 => ∃ i j : Int, vs = [.int i, .int j] ∧ (-(2 ^ 62) ≤ i ∧ i < 2 ^ 62 ∧ -(2 ^ 62) ≤ j ∧ j < 2 ^ 62) ∧ R (Itr i (j - i).toNat) H1) : iRng2 ta σ H R := q
theorem w_neOg {H : Hp} {Q : VK} {x y : V} (hx : x = .non ∨ ∃ i, x = .int i) (hy : y = .non ∨ ∃ i, y = .int i) (q : Q (.bl (!decide (x = y))) H) : rNe x y H Q := ⟨by
  rcases hx with rfl | ⟨i, rfl⟩ <;> rcases hy with rfl | ⟨j, rfl⟩ <;> rfl, q⟩
theorem w_itZ {K : PySem.W.Frag} {σ : L2.St} {H : Hp} {ta : TA} {R : It → Hp → Prop} (q : ta σ H fun vs H1 => ∃ a b xs ys, vs = [.ref a, .ref b] ∧ SqL K H1 a xs ∧ SqL K H1 b ys ∧ R (Itz K a b) H1) : iZip K ta σ H R := q
theorem w_srt {K : PySem.W.Frag} {H : Hp} {Q : VK} {a : Addr} {ns : List Int} (h : SqL K H a (ns.map V.int)) (q : ∀ (ns' : List Int) (p : Addr), ns'.Perm ns → ns'.Pairwise (· ≤ ·) → H p = none → Q (.ref p) (upd H p (.lst (ns'.map V.int)))) : rSortedI K [.ref a] H Q := ⟨a, ns, rfl, h, q⟩
theorem w_isNr {H : Hp} {Q : VK} {r : Addr} (q : Q (.bl false) H) : rIsNn (.ref r) .non H Q := ⟨rfl, q⟩
theorem w_boolJ {b : Bool} {tt : TT} {σ : L2.St} {H : Hp} {Q : Bool → Hp → Prop} (R : Hp → Prop) (h1 : b = true → ∀ Q : Bool → Hp → Prop, (∀ H', R H' → Q false H') → tt σ H Q) (h2 : b = false → R H) (q : ∀ H', R H' → Q false H') : if b = true then tt σ H Q else Q false H := by
  cases b with
  | true => exact iteT (h1 rfl Q q)
  | false => exact iteF (q H (h2 rfl))
theorem w_par3 {i j l : Nat} {t : TA} {D : Ends} {σ : L2.St} {H : Hp} (q : t σ H fun vs H1 => ∃ u v w, vs = [u, v, w] ∧ D.nx (((σ.set i (some u)).set j (some v)).set l (some w)) H1) : tPar3 i j l t D σ H := q
theorem w_itR {K : PySem.W.Frag} {σ : L2.St} {H : Hp} {ta : TA} {R : It → Hp → Prop} (q : ta σ H fun vs H1 => ∃ a xs, vs = [.ref a] ∧ SqL K H1 a xs ∧ R (Itv K a xs.length) H1) : iRev K ta σ H R := q
theorem w_methA {C : Addr} {m : Str} {sp : Sp} {E : XK} {ta : TE} {t : TA} {σ : L2.St} {H : Hp} {Q : VK} (q : ta σ H fun x H1 => ∃ a dx fs, x = .ref a ∧ H1 a = some (.ins C dx fs) ∧ fs.lookup m = none ∧ t σ H1 fun vs H2 => sp (x :: (vs ++ [])) H2 Q E) : tMeth C m sp [] E ta t σ H Q := q
end Fw
namespace Fw
open L2
open PySem PySem.Spec PyProof.Rows PySem.W
theorem minOf_le (p : Int × Int) (ps : List (Int × Int)) : ∀ y ∈ p :: ps, SrtO.lexB y (minOf p ps) = false := by
  unfold minOf
  induction ps generalizing p with
  | nil =>
    intro y hy
    rw [List.mem_singleton.mp hy]
    refine SrtO.lexB_no.mpr ?_
    show ¬(p.1 < p.1 ∨ (p.1 = p.1 ∧ p.2 < p.2))
    omega
  | cons q ps ih =>
    intro y hy
    rw [List.foldl_cons]
    have i := ih (if DatumOrd.lt q p = true then q else p)
    have l1 : SrtO.lexB p (if DatumOrd.lt q p = true then q else p) = false ∧ SrtO.lexB q (if DatumOrd.lt q p = true then q else p) = false := by
      by_cases h : DatumOrd.lt q p = true
      · have h' : SrtO.lexB q p = true := h
        have := SrtO.lexB_iff.mp h'
        rw [if_pos h]
        refine ⟨SrtO.lexB_no.mpr ?_, SrtO.lexB_no.mpr ?_⟩ <;> omega
      · have h' : SrtO.lexB q p = false := by
          cases e : SrtO.lexB q p
          · rfl
          · exact absurd e h
        rw [if_neg h]
        exact ⟨SrtO.lexB_no.mpr (by omega), h'⟩
    generalize (if DatumOrd.lt q p = true then q else p) = c at i l1 ⊢
    have i0 := SrtO.lexB_no.mp (i c List.mem_cons_self)
    rcases List.mem_cons.mp hy with e | hy
    · rw [e]
      have a := SrtO.lexB_no.mp l1.1
      have b := SrtO.lexB_no.mp (i c List.mem_cons_self)
      refine SrtO.lexB_no.mpr ?_
      omega
    rcases List.mem_cons.mp hy with e | hy
    · rw [e]
      have a := SrtO.lexB_no.mp l1.2
      refine SrtO.lexB_no.mpr ?_
      omega
    · exact i y (List.mem_cons_of_mem _ hy)
section
variable {X : Cx}
/-- min(xs), xs a list of pairs of ints (k says which): one of them, none before it -/
def rMinP (K : PySem.W.Frag) : List V → Hp → VK → Prop := fun vs H Q => ∃ (a : Addr) (xs : List V) (k : V → Int × Int), vs = [V.ref a] ∧ SqL K H a xs ∧ xs ≠ [] ∧ (∀ x ∈ xs, ∃ t, x = V.ref t ∧ H t = some (.tup [.int (k x).1, .int (k x).2])) ∧
  ∀ m, m ∈ xs → (∀ y ∈ xs, ltP k y m = false) → Q m H
abbrev dP (p : Int × Int) : PyData := .tuple [.int p.1, .int p.2]
theorem dp_pairs {K : PySem.W.Frag} {H : Hp} (k : V → Int × Int) : ∀ (xs : List V), (∀ x ∈ xs, ∃ t, x = V.ref t ∧ H t = some (.tup [.int (k x).1, .int (k x).2])) → DpAll K H xs (xs.map fun x => dP (k x))
  | [], _ => .nil
  | x :: xs, h => by
    obtain ⟨t, e, ht⟩ := h x List.mem_cons_self
    have go : ∀ z : Int × Int, H t = some (.tup [.int z.1, .int z.2]) → Dp K H (V.ref t) (dP z) := fun z ht => ?_
    · refine .cons ?_ (dp_pairs k xs fun y hy => h y (List.mem_cons_of_mem _ hy))
      have := go _ ht
      rw [← e] at this
      exact this
    exact .tup (SqT.of ht) (.cons (.int _) (.cons (.int _) .nil))
theorem dp_one {K : PySem.W.Frag} {H : Hp} (k : V → Int × Int) {xs : List V} (h : ∀ x ∈ xs, ∃ t, x = V.ref t ∧ H t = some (.tup [.int (k x).1, .int (k x).2])) {x : V} (m : x ∈ xs) : Dp K H x (dP (k x)) := by
  obtain ⟨t, e, ht⟩ := h x m
  have go : ∀ z : Int × Int, H t = some (.tup [.int z.1, .int z.2]) → Dp K H (V.ref t) (dP z) := fun z ht => .tup (SqT.of ht) (.cons (.int _) (.cons (.int _) .nil))
  have := go _ ht
  rw [← e] at this
  exact this
theorem vals_at : ∀ {vs : List V} {us : List Value}, Vals vs us → ∀ {i : Nat} {u : Value}, us.toArray[i]? = some u → ∃ v, vs[i]? = some v ∧ RelV v u := fun {vs us} r {i u} h => by
  have h' : us[i]? = some u := by simpa using h
  clear h
  induction r generalizing i with
  | nil => simp at h'
  | cons r1 _ ih =>
    cases i with
    | zero =>
      obtain rfl := Option.some.inj h'
      exact ⟨_, rfl, r1⟩
    | succ i => exact ih h'
theorem cr_minP (hu : X.A.units + 64 < cLine) (hc : X.calm = true) : CallR X (.builtin "min") (rMinP X.K) := by
  intro pins s σ H vs us Q I r h
  obtain ⟨a, xs, k, rfl, hs, hne, hx, q⟩ := h
  obtain ⟨its, rv, hl, _⟩ := I.list hs
  rw [Vals.ref1 r]
  have hd := dp_pairs (K := X.K) k xs hx
  obtain ⟨as, hr⟩ := Dp.readsAll I _ _ its hd rv
  obtain ⟨x0, xt, rfl⟩ : ∃ x0 xt, xs = x0 :: xt := by
    cases xs with
    | nil => exact absurd rfl hne
    | cons x0 xt => exact ⟨x0, xt, rfl⟩
  have hh : HoldAll s.heap its.toArray.toList (k x0 :: xt.map k) := ⟨as, by
    rw [List.map_cons, List.map_map]
    exact hr⟩
  refine min_list_datum (α := Int × Int) (I.ok.hd hc) hl.isList hh (by show X.A.units + 1 + (max 0 0 + 1) < cLine; omega) fun i v h' tk hi hm hk => ?_
  obtain ⟨v', hv', rv'⟩ := vals_at rv hi
  have hmem : v' ∈ x0 :: xt := List.mem_of_getElem? hv'
  obtain ⟨as1, r1⟩ := hm
  obtain ⟨as2, r2⟩ := Dp.reads I _ v' v (dp_one k hx hmem) rv'
  have e := alike_unique _ _ v as1 as2 (DatumOrd.alike (α := Int × Int) _ (k v')) r1 (reads_keeps hk r2)
  have e' : minOf (k x0) (xt.map k) = k v' := by
    injection e with e
    injection e with a b
    injection b with b _
    injection a with a
    injection b with b
    exact Prod.ext a b
  refine ⟨v', H, I.kept hk, rv', q v' hmem fun y hy => ?_⟩
  have := minOf_le (k x0) (xt.map k) (k y) (by
    rw [← List.map_cons]
    exact List.mem_map.mpr ⟨y, hy, rfl⟩)
  rw [e'] at this
  exact this
end
theorem pe_fldK {X : Cx} {e : Expr} {f : Str} {pos : Pos} {ta : TE} {K : PySem.W.Frag} (hK : X.K = K) (he : PE X e ta) (hb : attributeBase e f X.env (eval e X.env) = eval e X.env) : PE X (.Attribute e f pos) (tFld K ta f) := by
  subst hK
  exact pe_fld he hb
def rLstOf (K : PySem.W.Frag) : List V → Hp → VK → Prop := fun xs H Q => ∃ p ys, xs = [.ref p] ∧ (SqL K H p ys ∨ SqT K H p ys) ∧ ∀ l, H l = none → Q (.ref l) (upd H l (.lst ys))
theorem w_lstOf {K : PySem.W.Frag} {H : Hp} {Q : VK} {a : Addr} {xs : List V} (h : H a = some (.lst xs)) (q : ∀ l, H l = none → Q (.ref l) (upd H l (.lst xs))) : rLstOf K [.ref a] H Q := ⟨a, xs, rfl, .inl (SqL.of h), q⟩
theorem w_revL {H : Hp} {Q : VK} {l : Addr} {xs : List V} (h : H l = some (.lst xs)) (q : Q .non (upd H l (.lst xs.reverse))) : rReverse (.ref l) [] H Q := ⟨l, xs, rfl, rfl, h, q⟩
/-- the pair of ints that a value points at -/
def kOf (H : Hp) : V → Int × Int
  | .ref q => match H q with
    | some (.tup [.int i, .int j]) => (i, j)
    | _ => (0, 0)
  | _ => (0, 0)
theorem kOf_at {H : Hp} {q : Addr} {i j : Int} (h : H q = some (.tup [.int i, .int j])) : kOf H (.ref q) = (i, j) := by
  unfold kOf
  simp only [h]
/-- rs holds just the pairs of which P speaks -/
def PairsOf (H : Hp) (rs : List V) (P : Nat → Int → Prop) : Prop :=
  (∀ r ∈ rs, ∃ (q : Addr) (n : Nat) (y : Int), r = .ref q ∧ H q = some (.tup [.int (n : Int), .int y]) ∧ P n y) ∧ (∀ n y, P n y → ∃ q : Addr, V.ref q ∈ rs ∧ H q = some (.tup [.int (n : Int), .int y]))
/-- v is the first pair of which P speaks, None if it speaks of none -/
def BestOf (H : Hp) (P : Nat → Int → Prop) (v : V) : Prop :=
  (v = .non ∧ ∀ n y, ¬ P n y) ∨ ∃ (q : Addr) (n : Nat) (y : Int), v = .ref q ∧ H q = some (.tup [.int (n : Int), .int y]) ∧ P n y ∧ ∀ m z, P m z → n < m ∨ (n = m ∧ y ≤ z)
theorem BestOf.keep {H H' : Hp} {P : Nat → Int → Prop} {v : V} (h : BestOf H P v) (s : ∀ q n y, H q = some (.tup [.int n, .int y]) → H' q = some (.tup [.int n, .int y])) : BestOf H' P v := by
  rcases h with h | ⟨q, n, y, e, hq, p, m⟩
  · exact .inl h
  · exact .inr ⟨q, n, y, e, s _ _ _ hq, p, m⟩
theorem PairsOf.k {H : Hp} {rs : List V} {P : Nat → Int → Prop} (h : PairsOf H rs P) : ∀ x ∈ rs, ∃ t, x = V.ref t ∧ H t = some (.tup [.int (kOf H x).1, .int (kOf H x).2]) := fun x hx => by
  obtain ⟨q, n, y, rfl, hq, _⟩ := h.1 x hx
  refine ⟨q, rfl, ?_⟩
  rw [kOf_at hq]
  exact hq
theorem PairsOf.best {H : Hp} {rs : List V} {P : Nat → Int → Prop} (h : PairsOf H rs P) {m : V} (hm : m ∈ rs) (hl : ∀ y ∈ rs, ltP (kOf H) y m = false) : BestOf H P m := by
  obtain ⟨q, n, y, rfl, hq, p⟩ := h.1 m hm
  refine .inr ⟨q, n, y, rfl, hq, p, fun i z hz => ?_⟩
  obtain ⟨q2, hr, hq2⟩ := h.2 i z hz
  have a := hl _ hr
  unfold ltP at a
  rw [kOf_at hq, kOf_at hq2] at a
  have := SrtO.lexB_no.mp a
  simp only at this
  omega
theorem PairsOf.none {H : Hp} {P : Nat → Int → Prop} (h : PairsOf H [] P) : BestOf H P .non := .inl ⟨rfl, fun n y p => by
  obtain ⟨q, hr, _⟩ := h.2 n y p
  cases hr⟩
theorem PairsOf.perm {H : Hp} {rs rs' : List V} {P : Nat → Int → Prop} (h : PairsOf H rs P) (p : rs'.Perm rs) : PairsOf H rs' P := ⟨fun r hr => h.1 r (p.mem_iff.mp hr), fun n y z => by
  obtain ⟨q, hr, hq⟩ := h.2 n y z
  exact ⟨q, p.mem_iff.mpr hr, hq⟩⟩
theorem PairsOf.keep {H H' : Hp} {rs : List V} {P : Nat → Int → Prop} (h : PairsOf H rs P) (s : ∀ q n y, H q = some (.tup [.int n, .int y]) → H' q = some (.tup [.int n, .int y])) : PairsOf H' rs P := ⟨fun r hr => by
  obtain ⟨q, n, y, e, hq, p⟩ := h.1 r hr
  exact ⟨q, n, y, e, s _ _ _ hq, p⟩, fun n y z => by
  obtain ⟨q, hr, hq⟩ := h.2 n y z
  exact ⟨q, hr, s _ _ _ hq⟩⟩
theorem PairsOf.head {H : Hp} {rs ys : List V} {P : Nat → Int → Prop} (h : PairsOf H rs P) (s : SrtO.Srtd (ltP (kOf H)) ys) (p : ys.Perm rs) : ∃ v, (ys ++ [V.non])[0]? = some v ∧ BestOf H P v := by
  have h' := h.perm p
  cases ys with
  | nil => exact ⟨.non, rfl, h'.none⟩
  | cons y ys =>
    refine ⟨y, rfl, h'.best List.mem_cons_self fun z hz => ?_⟩
    rcases List.mem_cons.mp hz with e | hz
    · rw [e]
      exact (ltP_swo _).refl _
    · exact SrtO.srtd_head s z hz
theorem w_minP {K : PySem.W.Frag} {H : Hp} {Q : VK} {a : Addr} {rs : List V} {P : Nat → Int → Prop} (h : H a = some (.lst rs)) (p : PairsOf H rs P) (ne : rs ≠ []) (q : ∀ v, BestOf H P v → Q v H) : rMinP K [.ref a] H Q :=
  ⟨a, rs, kOf H, rfl, SqL.of h, ne, p.k, fun m hm hl => q m (p.best hm hl)⟩
theorem w_sortPO {K : PySem.W.Frag} {H : Hp} {Q : VK} {a : Addr} {rs : List V} {P : Nat → Int → Prop} (h : H a = some (.lst rs)) (p : PairsOf H rs P) (q : ∀ ys l, ys.length = rs.length → (∃ v, (ys ++ [V.non])[0]? = some v ∧ BestOf H P v) → H l = none → Q (.ref l) (upd H l (.lst ys))) : rSortedPO K [.ref a] H Q :=
  ⟨a, rs, kOf H, rfl, SqL.of h, p.k, fun ys l s b hl => q ys l b.perm.length_eq (p.head s b.perm) hl⟩
theorem PairsOf.iff {H : Hp} {rs : List V} {P P' : Nat → Int → Prop} (h : PairsOf H rs P) (e : ∀ n y, P n y ↔ P' n y) : PairsOf H rs P' := ⟨fun r hr => by
  obtain ⟨q, n, y, e1, hq, p⟩ := h.1 r hr
  exact ⟨q, n, y, e1, hq, (e _ _).mp p⟩, fun n y z => h.2 n y ((e _ _).mpr z)⟩
theorem PairsOf.add {H : Hp} {rs : List V} {P : Nat → Int → Prop} {q : Addr} {n : Nat} {y : Int} (h : PairsOf H rs P) (hq : H q = some (.tup [.int (n : Int), .int y])) : PairsOf H (rs ++ [.ref q]) (fun m z => P m z ∨ (m = n ∧ z = y)) := ⟨fun r hr => by
  rcases List.mem_append.mp hr with hr | hr
  · obtain ⟨q, n, y, e1, hq, p⟩ := h.1 r hr
    exact ⟨q, n, y, e1, hq, .inl p⟩
  · exact ⟨q, n, y, List.mem_singleton.mp hr, hq, .inr ⟨rfl, rfl⟩⟩, fun m z hz => by
  rcases hz with hz | ⟨e1, e2⟩
  · obtain ⟨q, hr, hq⟩ := h.2 m z hz
    exact ⟨q, List.mem_append.mpr (.inl hr), hq⟩
  · subst e1 e2
    exact ⟨q, List.mem_append.mpr (.inr List.mem_cons_self), hq⟩⟩
theorem get_app {α : Type} {rs : List α} {r0 r : α} {i : Nat} (h : (rs ++ [r0])[i]? = some r) : rs[i]? = some r ∨ (i = rs.length ∧ r = r0) := by
  by_cases lt : i < rs.length
  · rw [List.getElem?_append_left lt] at h
    exact .inl h
  · have l := (List.getElem?_eq_some_iff.mp h).1
    rw [List.length_append, List.length_singleton] at l
    obtain rfl : i = rs.length := by omega
    rw [List.getElem?_append_right (Nat.le_refl _), Nat.sub_self] at h
    exact .inr ⟨rfl, (Option.some.inj h).symm⟩
end Fw
namespace Fw
open L2
open PySem PySem.Spec PyProof.Rows
section
variable {X : Cx} {pins : List (Addr × Obj)} {σ : L2.St} {H : Hp} {s : Shared} {a b : Addr} {kvs : List (List Key × V)} {k : List Key} {A : Around} {E : Value → Shared → Prop}
/-- a key with tuples for keys is taken out -/
theorem d_delT {Q : Unit → Shared → Prop} (hu : A.units + 1 < cLine) (I : Inv X pins σ H s) (e : H a = some (.dT kvs)) (eb : H b = some (.tup (k.map kV))) (l : (valV kvs k).isSome = true)
    (h : ∀ s', Inv X pins σ (upd H a (.dT (dropK kvs k))) s' → Q () s') : wpAny (model X.prog X.w) A (delItem (.ref a) (.ref b)) Q E s := by
  obtain ⟨z, hd, xs, rel, dd⟩ := dt_of I.hok e
  have hz : xs.length ≤ sizeLine := by rw [← Paired.length rel]; exact z
  have rv := rel.val k
  obtain ⟨p, hp⟩ : ∃ p, atKey xs k = some p := by
    cases ea : atKey xs k with
    | some p => exact ⟨p, rfl⟩
    | none =>
      rw [ea] at rv
      obtain ⟨v, ev⟩ := Option.isSome_iff_exists.mp l
      rw [ev] at rv
      exact (show False from rv).elim
  refine wpAny_delItem_heap (knd := tupleKind (mixKind X.prog X.w)) (k := k) (hsz := hz) (tupleKind_room_in1 hu) (key_of I.hok eb) hd dd hp fun h' dd' hs => h _ ?_
  obtain ⟨o, es, ep, hq, h2, h3, h4, _, h5⟩ := dd'
  exact d_write I (by rw [e]; exact True.intro) hs ⟨o, hq⟩ ⟨Nat.le_trans (dropK_le kvs k) z, hd, _, (DX.KT_drop k rel).keeps (fun c ys ec => (by rw [upd_ne (ne_of ec e (fun z => nomatch z))]; exact ec)), o, es, ep, hq, h2, h3, h4, h5⟩
end
section
variable {X : Cx} {o i : Expr} {pos tpos : Pos} {td ty : TE}
/-- del d[t] -/
def sDelT (td ty : TE) : TS := fun D σ H => td σ H fun x H1 => ty σ H1 fun y H2 => ∃ a b kvs k, x = .ref a ∧ H2 a = some (.dT kvs) ∧ y = .ref b ∧ H2 b = some (.tup (k.map kV)) ∧ (valV kvs k).isSome = true ∧ D.nx σ (upd H2 a (.dT (dropK kvs k)))
theorem ps_delT (hu : X.A.units + 1 < cLine) (ho : PE X o td) (hi : PE X i ty) : PS X (.Delete [.Subscript o i tpos] pos) (sDelT td ty) := by
  refine ⟨fun pins s σ H D I h => ?_⟩
  refine wpAny_Delete (wpAny_deleteEach_cons (wpAny_delete_Subscript (thn (ho.run pins s σ H _ I h) fun u s1 ⟨x, H1, I1, rx, q1⟩ => thn (hi.run pins s1 σ H1 _ I1 q1) fun iv s2 ⟨y, H2, I2, ry, a, b, kvs, k, ex, e, ey, eb, l, q2⟩ => ?_)))
  subst ex ey
  cases (show u = Value.ref a from rx)
  cases (show iv = Value.ref b from ry)
  exact d_delT hu I2 e eb l fun s3 I3 => wpAny_deleteEach_nil ⟨σ, _, I3, q2⟩
end
section
variable {X : Cx} {pins : List (Addr × Obj)} {σ : L2.St} {H : Hp} {s : Shared} {a b : Addr} {kvs : List (List Key × V)} {k : List Key} {E : Value → Shared → Prop}
/-- an entry laid by a comprehension, the key a tuple -/
theorem d_layT {v : V} {r : Value} {Q : Unit → Shared → Prop} (hu : X.A.units < cLine) (I : Inv X pins σ H s) (e : H a = some (.dT kvs)) (eb : H b = some (.tup (k.map kV))) (rv : RelV v r) (l : kvs.length < sizeLine)
    (h : ∀ s', Inv X pins σ (upd H a (.dT (putK kvs k v))) s' → Q () s') : wpAny (model X.prog X.w) X.A (dictSet a (.ref b) r) Q E s := by
  obtain ⟨z, hd, xs, rel, dd⟩ := dt_of I.hok e
  have hz : xs.length ≤ sizeLine := by rw [← Paired.length rel]; exact z
  have hl : (putK kvs k v).length ≤ sizeLine := by have := length_putK kvs k v; omega
  refine wpAny_dictSet_heap (knd := tupleKind (mixKind X.prog X.w)) (k := k) (hsz := hz) ?_ (key_of I.hok eb) dd fun h' dd' hs => h _ ?_
  · exact hu
  obtain ⟨q, es, ep, hq, h2, h3, h4, _, h5⟩ := dd'
  refine d_write I (by rw [e]; exact True.intro) hs ⟨q, hq⟩ ⟨hl, hd, _, (rel.put k eb rv).keeps fun c ys ec => ?_, q, es, ep, hq, h2, h3, h4, h5⟩
  rw [upd_ne (ne_of ec e (fun z => nomatch z))]
  exact ec
end
/-! ### {k: v for target in iter}, keys of either sort: the entry is told by DPut -/
section
variable {X : Cx}
/-- an entry of a comprehension's dict, by DPut -/
theorem d_lay {pins : List (Addr × Obj)} {σ : L2.St} {H H' : Hp} {s : Shared} {E : Value → Shared → Prop} {a : Addr} {y v : V} {u r : Value} {Q : Unit → Shared → Prop} (hu : X.A.units < cLine) (I : Inv X pins σ H s) (g : DPut H a y v H') (ry : RelV y u) (rv : RelV v r)
    (h : ∀ s', Inv X pins σ H' s' → Q () s') : wpAny (model X.prog X.w) X.A (dictSet a u r) Q E s := by
  rcases g with ⟨kvs, k, e, ey, l, eH⟩ | ⟨kvs, k, b, e, ey, eb, l, eH⟩
  · subst ey eH
    exact d_dictSet I e l ry rv h
  · subst ey eH
    cases (show u = Value.ref b from ry)
    exact d_layT hu I e eb rv l h
/-- what a turn asks -/
abbrev DcTurn (g : TG) (tt : TT) (tk tv : TE) (vs : List Nat) (σ : L2.St) (D : Addr) (Nx : Hp → Prop) (x : V) (H : Hp) : Prop :=
  g x (wipe σ vs) H fun σ2 H2 => wipe σ2 vs = wipe σ vs ∧ tt σ2 H2 fun b H3 => if b = true then tk σ2 H3 fun y H4 => tv σ2 H4 fun z H5 => ∃ H6, DPut H5 D y z H6 ∧ Nx H6 else Nx H3
def tDcG (o : HO) (wi : TI) (g : TG) (tt : TT) (tk tv : TE) (vs : List Nat) : TE := fun σ H Q => wi σ H fun J H1 => ∀ D, H1 D = none → ∃ W : Nat → Nat → Hp → Prop, (∃ m, W 0 m (upd H1 D o)) ∧ ∀ i m H, W i m H →
  (J.stop i H ∧ Q (.ref D) H) ∨ (J.go i H ∧ ∃ Nx : Hp → Prop, (∀ H', Nx H' → ∃ m', m' < m ∧ W (i + 1) m' H') ∧ ∀ x H', J.yld i H x H' → DcTurn g tt tk tv vs σ D Nx x H')
/-- an object that a new, empty dict may stand for -/
def NewD (o : HO) : Prop := o = .dK [] ∨ o = .dT []
theorem NewD.ok {o : HO} (n : NewD o) {P : Program} {w : World} {H : Hp} (h : Heap) (hb : sysModules < h.objs.size) : ObjOk P w H (h.push { cls := .type "dict", data := .dict #[] }) h.objs.size o := by
  rcases n with rfl | rfl
  · exact dk_empty h hb
  · exact dt_empty h hb
theorem dcG_core {pins : List (Addr × Obj)} {s : Shared} {σ : L2.St} {H : Hp} {Q : VK} {o : HO} {kx vx tg iter : Expr} {ifs : List Expr} {scope : Scope} {own : List (Str × Nat)} {pos pos' : Pos} {wi : TI} {g : TG} {tt : TT} {tk tv : TE} {use : Option (Value → Sem Unit)} {Qf : Value → Shared → Prop}
    (no : NewD o) (hu : X.A.units < cLine) (hc : X.calm = true) (hN : X.N.Nodup) (I : Inv X pins σ H s) (hi : PI X tg iter wi) (ok : BlkOk X.N X.env.scope scope own)
    (hg : ∀ (s : Shared) (H : Hp) (C : Addr) (cl : List (Str × Addr)) (fp : List Addr), PG (X.blk s H scope (compEnvC scope cl C X.env) fp) tg g) (ht : ∀ (s : Shared) (H : Hp) (C : Addr) (cl : List (Str × Addr)) (fp : List Addr), PTs (X.blk s H scope (compEnvC scope cl C X.env) fp) ifs tt)
    (hk : ∀ (s : Shared) (H : Hp) (C : Addr) (cl : List (Str × Addr)) (fp : List Addr), PE (X.blk s H scope (compEnvC scope cl C X.env) fp) kx tk)
    (hv : ∀ (s : Shared) (H : Hp) (C : Addr) (cl : List (Str × Addr)) (fp : List Addr), PE (X.blk s H scope (compEnvC scope cl C X.env) fp) vx tv) (hs : ∀ x, foldedSetIterable iter X.env x = pure x)
    (h : tDcG o wi g tt tk tv (own.map (·.2)) σ H Q) (hR : ∀ D C s' m H', Inv X pins σ H' s' → Q (.ref D) H' → s'.heap.Ns C m → FpOk X pins H' C → compPost (model X.prog X.w) X.A X.xe use Qf (.ref D) C (.ok .next) s') :
    wpAny (model X.prog X.w) X.A (comprehension (.DictComp kx vx [⟨tg, iter, ifs, 0⟩] scope pos) scope X.env pos' newDict false (eval iter X.env) use) Qf X.xe s := by
  have free : ∀ y ∈ scope.names, y.2 = .free → ∃ c, X.env.cells.lookup y.1 = some c := fun y hy e => (ok.free y hy e).elim (fun z => I.ok.has _ (.inl z)) (fun z => I.ok.has _ (.inr z))
  refine wpAny_comprehension_free (use := use) rfl hs (closure_ok free) ok.kind (fun y hy e => by rw [ok.uniq y hy, e]) (thn (hi.run pins s σ H _ I h) fun xv s1 hx => thn hx fun itv s2 h2 => ?_)
  obtain ⟨it, fp, tn, J, H2, rfl, I2, T, st2, f2, q⟩ := h2
  refine wpAny_newObj_type (newEnv_comp ?_)
  obtain ⟨D, hD⟩ : ∃ D, D = s2.heap.objs.size := ⟨_, rfl⟩
  rw [← hD]
  obtain ⟨W, ⟨m0, w0⟩, turn⟩ := q D (I2.hok.fresh (Nat.le_of_eq hD.symm))
  -- behind the empty dict
  have low : ∀ b ∈ fp, b < s2.heap.objs.size := fun b hb => let ⟨_, e, _⟩ := T.obj _ _ st2 b hb; Heap.lt_size e
  obtain ⟨s3, hs3⟩ : ∃ s3 : Shared, s3 = { s2 with heap := s2.heap.push { cls := .type "dict", data := .dict #[] } } := ⟨_, rfl⟩
  obtain ⟨H3, hH3⟩ : ∃ H3, H3 = upd H2 D o := ⟨_, rfl⟩
  have I3 : Inv X pins σ H3 s3 := by
    rw [hs3, hH3]
    exact I2.laid (t' := s2.toks) (fun b o e => Heap.get?_push_of_some _ e) (Nat.le_of_eq hD.symm) (by rw [hD]; exact no.ok s2.heap I2.big)
  have kept3 : ∀ b o, s2.heap.get? b = some o → s3.heap.get? b = some o := fun b o e => by rw [hs3]; exact Heap.get?_push_of_some _ e
  have f3 : ∀ b ∈ fp, FpOk X pins H3 b ∧ b < s3.heap.objs.size := fun b hb => by
    have lt := low b hb
    refine ⟨⟨?_, (f2 b hb).2⟩, by rw [hs3]; show b < (s2.heap.push _).objs.size; rw [Heap.size_push]; exact Nat.lt_succ_of_lt lt⟩
    rw [hH3, upd_ne (by rw [hD]; exact Nat.ne_of_lt lt)]
    exact (f2 b hb).1
  have st3 : tn 0 s3.heap := T.keep _ _ _ st2 fun b _ o e => kept3 b o e
  rw [← hH3] at w0
  -- the block's own context
  have IB := block_start I3 ok hN f3
  rw [show ({ s2 with heap := s2.heap.push { cls := .type "dict", data := .dict #[] } } : Shared) = s3 from hs3.symm]
  generalize hcl : cellsFrom (s3.heap.objs.size + 1) scope.names (cloFrom X.env.cells scope.names []) = cl at IB
  have rg := hg s3 H3 s3.heap.objs.size cl fp
  have rt := ht s3 H3 s3.heap.objs.size cl fp
  have rk := hk s3 H3 s3.heap.objs.size cl fp
  have rv := hv s3 H3 s3.heap.objs.size cl fp
  show codeAny _ _ (.compStart (.DictComp kx vx [⟨tg, iter, ifs, 0⟩] scope pos) 0 (.ref it) (.ref D) (compEnvC scope cl s3.heap.objs.size X.env)) (compPost (model X.prog X.w) X.A X.xe use Qf (.ref D) s3.heap.objs.size) { s3 with heap := pushCells (s3.heap.push { cls := .type "dict", data := .dict #[] }) scope.names }
  generalize hce : compEnvC scope cl s3.heap.objs.size X.env = ce at IB rg rt rk rv ⊢
  have hloc : ce.locals = s3.heap.objs.size := by rw [← hce]; rfl
  obtain ⟨s4, hs4⟩ : ∃ s4 : Shared, s4 = { s3 with heap := pushCells (s3.heap.push { cls := .type "dict", data := .dict #[] }) scope.names } := ⟨_, rfl⟩
  rw [← hs4] at IB ⊢
  have st4 : tn 0 s4.heap := T.keep _ _ _ st3 fun b _ o e => by rw [hs4]; exact pushCells_keeps _ _ _ _ (Heap.get?_push_of_some _ e)
  -- what the turns keep
  let Bl := X.blk s3 H3 scope ce fp
  let Kept : Nat → Shared → Prop := fun n s' => ∃ i H', Inv Bl [] (wipe σ (own.map (·.2))) H' s' ∧ tn i s'.heap ∧ (∀ b ∈ fp, H' b = none) ∧ W i n H'
  have k0 : Kept m0 s4 := ⟨0, H3, IB, st4, fun b hb => (f3 b hb).1.1, w0⟩
  have src : ∀ {σ' : L2.St} {H' : Hp} {s' : Shared}, Inv Bl [] σ' H' s' → (∀ b ∈ fp, H' b = none) → ∀ b ∈ fp, FpOk Bl [] H' b := fun {σ' H' s'} I' hn b hb =>
    ⟨hn b hb, (I'.ok.exf b hb).1, I'.ok.exfs b hb, .inl hb, fun x c e => (I'.ok.exf b hb).2 x c e, fun p hp => by cases hp⟩
  have loop : codeAny (model X.prog X.w) X.A (.compLoop (.DictComp kx vx [⟨tg, iter, ifs, 0⟩] scope pos) 0 (.ref it) (.ref D) ce) (compPost (model X.prog X.w) X.A X.xe use Qf (.ref D) s3.heap.objs.size) s4 := by
    refine compLoop_anyD Kept ?_ m0 k0
    rintro n s5 ⟨i, H5, I5, st5, n5, w5⟩
    rcases turn i n H5 w5 with ⟨stop, qq⟩ | ⟨go, Nx, hNx, step⟩
    · -- the end: back in the def's context
      refine thnF (T.done Bl rfl rfl rfl hc i [] s5 _ H5 (fun _ _ => False) I5 (src I5 n5) st5 stop) fun r s6 ⟨hr, I6⟩ => ?_
      subst hr
      have I7 : Inv X pins σ H5 s6 := I3.call' (ch := fp) I6.os I6.base I6.hok I6.bare fun b hb =>
        let f := (f3 b hb).1
        ⟨f.2.2.2.1, f.2.1, f.2.2.2.2.1, f.2.2.2.2.2⟩
      have z : H5 ce.locals = none := I6.free
      obtain ⟨m, hn, _⟩ := I6.loc
      have hn : s6.heap.Ns ce.locals m := hn
      rw [hloc] at hn z
      exact hR D s3.heap.objs.size s6 m H5 I7 qq hn (I3.fpOk (Nat.le_refl _) z)
    · refine thnF (T.item Bl rfl rfl rfl hc i [] s5 _ H5 (fun _ _ => False) I5 (src I5 n5) st5 go) fun r s6 ⟨u, hr, h6⟩ => ?_
      subst hr
      refine thnF h6 fun _ s7 ⟨x, H7, I7, r7, y7, st7, n7⟩ => ?_
      refine thnF (rg.run _ s7 _ H7 x u _ (I7.pinned (src I7 n7) (T.obj _ _ st7)) r7 (step x H7 y7)) fun _ s8 ⟨σ8, H8, I8, w8, q8⟩ => ?_
      refine thnF (rt.run _ s8 σ8 H8 _ I8 q8) fun b s9 ⟨H9, I9, q9⟩ => ?_
      have len : (wipe σ (own.map (·.2))).length = σ8.length := by rw [← w8, wipe_length]
      have back : ∀ {s' : Shared} {H' : Hp}, Inv Bl ([] ++ pinsAt fp s7.heap) σ8 H' s' → Nx H' → ∃ m, m < n ∧ Kept m s' := fun {s' H'} I' nx => by
        have pin : ∀ b ∈ fp, ∀ o, s7.heap.get? b = some o → s'.heap.get? b = some o ∧ H' b = none := fun b hb o e =>
          let z := I'.pin (b, o) (List.mem_append_right _ (List.mem_append_right _ (mem_pinsAt hb e)))
          ⟨z.1, z.2.1⟩
        obtain ⟨m', lt, w'⟩ := hNx H' nx
        refine ⟨m', lt, i + 1, H', (I'.unpinned (pins := [])).weak len (fun j v e => ?_), T.keep _ _ _ st7 fun b hb o e => (pin b hb o e).1, fun b hb => ?_, w'⟩
        · rw [← w8] at e
          exact (wipe_some e).1
        · obtain ⟨_, e, _⟩ := T.obj _ _ st7 b hb
          exact (pin b hb _ e).2
      cases b with
      | false => exact back I9 q9
      | true =>
        refine thnF (rk.run _ s9 σ8 H9 _ I9 q9) fun z s10 ⟨yk, H10, I10, r10, q10⟩ => ?_
        refine thnF (rv.run _ s10 σ8 H10 _ I10 q10) fun z2 s11 ⟨yv, H11, I11, r11, H12, g, nx⟩ => ?_
        exact d_lay (X := Bl) hu I11 g r10 r11 fun s12 I12 => back I12 nx
  exact codeAny_compStart_dict loop (T.self X.A 0 _ _ _ st4 loop)
theorem pe_dcG {o : HO} {kx vx tg iter : Expr} {ifs : List Expr} {scope : Scope} {own : List (Str × Nat)} {pos : Pos} {wi : TI} {g : TG} {tt : TT} {tk tv : TE} (no : NewD o) (hu : X.A.units < cLine) (hc : X.calm = true) (hN : X.N.Nodup) (hi : PI X tg iter wi) (ok : BlkOk X.N X.env.scope scope own)
    (hg : ∀ (s : Shared) (H : Hp) (C : Addr) (cl : List (Str × Addr)) (fp : List Addr), PG (X.blk s H scope (compEnvC scope cl C X.env) fp) tg g) (ht : ∀ (s : Shared) (H : Hp) (C : Addr) (cl : List (Str × Addr)) (fp : List Addr), PTs (X.blk s H scope (compEnvC scope cl C X.env) fp) ifs tt)
    (hk : ∀ (s : Shared) (H : Hp) (C : Addr) (cl : List (Str × Addr)) (fp : List Addr), PE (X.blk s H scope (compEnvC scope cl C X.env) fp) kx tk)
    (hv : ∀ (s : Shared) (H : Hp) (C : Addr) (cl : List (Str × Addr)) (fp : List Addr), PE (X.blk s H scope (compEnvC scope cl C X.env) fp) vx tv) (hs : ∀ x, foldedSetIterable iter X.env x = pure x := by intro _; rfl) :
    PE X (.DictComp kx vx [⟨tg, iter, ifs, 0⟩] scope pos) (tDcG o wi g tt tk tv (own.map (·.2))) := by
  refine ⟨fun pins s σ H Q I h => ?_⟩
  rw [arm_eval_DictComp]
  refine dcG_core no hu hc hN I hi ok hg ht hk hv hs h fun D C s' m H' I' q hn f => ⟨m, hn, fun h'' sb => ?_⟩
  obtain ⟨f0, f1, _, f3, f4, f5⟩ := f
  exact ⟨.ref D, H', I'.turned (t' := s'.toks) (fun b o hb e => (sb.2 b hb).trans e) f0 f1 f3 f4 f5, rfl, q⟩
theorem sw_trueD {kx vx : Expr} {gs : List Comprehension} {scope : Scope} {pos py : Pos} {y : Str} {l : Nat} {env : Env} (hk : env.scope.kind = .function) (hy : env.scope.names.lookup y = some .local) (hl : (py.line == pos.line) = true)
    (ha : (scope.names.any fun (n, k) => n == y && (k == .local || k == .cell)) = false) : swapsWith (.DictComp kx vx gs scope pos) (some (.Name y py)) l env = pure true := by
  have ky : env.kindOf y = some .local := hy
  have hb : env.blockKind = .function := by unfold Env.blockKind; rw [hk]; rfl
  unfold swapsWith
  simp only [hb, ky, ha, Expr.pos, hl]
  rfl
/-- name = {..} on one line, the name a local -/
theorem ps_setDc {o : HO} {i : Nat} {y : Str} {py : Pos} {kx vx tg iter : Expr} {ifs : List Expr} {scope : Scope} {own : List (Str × Nat)} {pos spos : Pos} {wi : TI} {g : TG} {tt : TT} {tk tv : TE} (no : NewD o) (hu : X.A.units < cLine) (hc : X.calm = true) (hN : X.N.Nodup) (hy : X.N[i]? = some y) (hyl : X.env.scope.names.lookup y = some .local)
    (hsw : swapsWith (.DictComp kx vx [⟨tg, iter, ifs, 0⟩] scope pos) (some (.Name y py)) spos.line X.env = pure true) (hi : PI X tg iter wi) (ok : BlkOk X.N X.env.scope scope own)
    (hg : ∀ (s : Shared) (H : Hp) (C : Addr) (cl : List (Str × Addr)) (fp : List Addr), PG (X.blk s H scope (compEnvC scope cl C X.env) fp) tg g) (ht : ∀ (s : Shared) (H : Hp) (C : Addr) (cl : List (Str × Addr)) (fp : List Addr), PTs (X.blk s H scope (compEnvC scope cl C X.env) fp) ifs tt)
    (hk : ∀ (s : Shared) (H : Hp) (C : Addr) (cl : List (Str × Addr)) (fp : List Addr), PE (X.blk s H scope (compEnvC scope cl C X.env) fp) kx tk)
    (hv : ∀ (s : Shared) (H : Hp) (C : Addr) (cl : List (Str × Addr)) (fp : List Addr), PE (X.blk s H scope (compEnvC scope cl C X.env) fp) vx tv) (hs : ∀ x, foldedSetIterable iter X.env x = pure x := by intro _; rfl) :
    PS X (.Assign [.Name y py] (.DictComp kx vx [⟨tg, iter, ifs, 0⟩] scope pos) spos) (tAsg (tDcG o wi g tt tk tv (own.map (·.2))) (gName i)) := by
  refine ⟨fun pins s σ H D I h => ?_⟩
  rw [exec_Assign_Name_used _ _ _ _ hsw]
  have h : tDcG o wi g tt tk tv (own.map (·.2)) σ H (fun x H1 => gName i x σ H1 D.nx) := h
  refine wpAny_bind (wpAny_standAt (wpAny_bind ?_))
  show wpAny _ X.A (do let _ ← comprehension (.DictComp kx vx [⟨tg, iter, ifs, 0⟩] scope pos) scope X.env (firstIterPos [⟨tg, iter, ifs, 0⟩] pos) newDict false (eval iter X.env) (some (assign (.Name y py) X.env))) _ _ s
  refine wpAny_bind (thn (dcG_core (Qf := fun _ s' => SP X pins D .next s') no hu hc hN I hi ok hg ht hk hv hs h fun L C s' m H' I' q hn f => ?_) fun _ s' hq => wpAny_pure (wpAny_pure hq))
  obtain ⟨a0, a1, _, a3, a4, a5⟩ := f
  show wpAny _ _ (assign (.Name y py) X.env (.ref L)) _ _ _
  refine wpAny_assign_Name (store_ok2 (v := V.ref L) I' hN hy (.inl hyl) rfl (fun s2 I2 ⟨a, sb, ha⟩ => ?_) (.inr hyl))
  have off : C ≠ a := ha.elim (fun z => by rw [z]; exact a1) fun z e => a4 y a z e.symm
  exact ⟨m, hn.sameBut sb off, fun h3 sb3 => ⟨_, H', I2.turned (t' := s2.toks) (fun b o hb e => (sb3.2 b hb).trans e) a0 a1 a3 a4 a5, q⟩⟩
end
/-! ### sorted(d), the keys of d pairs of ints, any number of them -/
section
variable {X : Cx}
theorem row_of {acc : Array Value} {ks : List (List Key × Addr × Value)} (hl : acc.size = ks.length) (h : ∀ (j : Nat) (v : Value), acc[j]? = some v → ∃ x, ks[j]? = some x ∧ v = Value.ref x.2.1) : acc.toList = (ks.map fun x => x.2.1).map Value.ref := by
  refine List.ext_getElem? fun j => ?_
  rw [List.map_map, List.getElem?_map]
  rcases Nat.lt_or_ge j ks.length with lt | ge
  · have e : acc.toList[j]? = some (acc.toList[j]'(by rw [Array.length_toList]; omega)) := List.getElem?_eq_getElem _
    obtain ⟨x, hx, hv⟩ := h j _ (by rw [← Array.getElem?_toList]; exact e)
    rw [e, hx, hv]
    rfl
  · rw [List.getElem?_eq_none (by rw [Array.length_toList]; omega), List.getElem?_eq_none ge]
    rfl
def rSortDT : List V → Hp → VK → Prop := fun vs H Q => ∃ (a : Addr) (kvs : List (List Key × V)), vs = [V.ref a] ∧ H a = some (.dT kvs) ∧ (∀ p ∈ kvs, ∃ i j : Int, p.1 = [Sum.inl i, Sum.inl j]) ∧
  ∀ bs out p, IsKeys H kvs bs → SrtO.Srtd (ltP (kOf H)) out → out.Perm (bs.map V.ref) → H p = none → Q (.ref p) (upd H p (.lst out))
theorem pair_at {H : Hp} {kvs : List (List Key × V)} {bs : List Addr} (h : IsKeys H kvs bs) (hp : ∀ p ∈ kvs, ∃ i j : Int, p.1 = [Sum.inl i, Sum.inl j]) : ∀ b ∈ bs, H b = some (.tup [.int (kOf H (.ref b)).1, .int (kOf H (.ref b)).2]) := by
  unfold IsKeys at h
  induction h with
  | nil => intro b hb; cases hb
  | cons h1 _ ih =>
    intro b hb
    rcases List.mem_cons.mp hb with rfl | hb
    · obtain ⟨i, j, e⟩ := hp _ List.mem_cons_self
      rw [e] at h1
      have h1 : H b = some (.tup [.int i, .int j]) := h1
      rw [kOf_at h1]
      exact h1
    · exact ih (fun p m => hp p (List.mem_cons_of_mem _ m)) b hb
theorem cr_sortedDT (hc : X.calm = true) : CallR X (.builtin "sorted") rSortDT := by
  intro pins s σ H xs us Q I r h
  obtain ⟨a, kvs, rfl, hd, hp, q⟩ := h
  obtain ⟨u, rfl, rx⟩ := r.one
  cases rx
  obtain ⟨z, hs, ks, pr, o, es, ep, ho, hx, hdt, he, hn⟩ := (show ObjOk X.prog X.w H s.heap a (.dT kvs) from I.hok a _ hd)
  have l1 : es.size = ks.length := size_of_entries he
  have l2 : kvs.length = ks.length := Paired.length pr
  have hk := isKeys_of pr
  refine Calls.call_function_entry PyProof.Rows.kind_sorted PyProof.Rows.plain_sorted PyProof.Rows.entry_sorted (PyProof.Rows.args_sorted1 _) ?_
  unfold Builtin.«sorted»
  refine wpAny_bind (m := checkCount "sorted" 1 1 _) (wpAny_pure ?_)
  refine wpAny_bind (PySem.W.kdu_collect (A := X.A.in1) (kdl_raw hs hx hdt) (I.ok.hd hc) ho (by omega) fun h' tk acc kp it => ?_)
  have ea := row_of (by rw [it.1]; exact l1) fun j v hj => by
    obtain ⟨en, hen, hv⟩ := it.2 j v hj
    have qe := entry_at he j
    rw [hen] at qe
    cases hb : ks[j]? with
    | none => rw [hb] at qe; cases qe
    | some x =>
      rw [hb] at qe
      refine ⟨x, rfl, ?_⟩
      rw [hv, show en = entryOfKey (tupleKind (mixKind X.prog X.w)) x from Option.some.inj qe]
      rfl
  generalize hbs : (ks.map fun x => x.2.1) = bs at ea hk
  have lb : bs.length = ks.length := by rw [← hbs, List.length_map]
  have I1 : Inv X pins σ H { s with heap := h', toks := tk } := I.kept kp
  have al : acc.toList.length ≤ sizeLine := by rw [ea, List.length_map]; omega
  refine wpAny_bind (wpAny_newList ?_ al)
  have hoL : (h'.push (seqObj "list" acc.toList.toArray 0)).get? h'.objs.size = some (seqObj "list" acc.toList.toArray 0) := Heap.get?_push_size _ rfl
  show wpAny _ _ _ _ _ { s with heap := h'.push (seqObj "list" acc.toList.toArray 0), toks := tk }
  have hpr : ∀ v ∈ acc.toList, Srt.IsPair (h'.push (seqObj "list" acc.toList.toArray 0)) v (kOf H (backV v)).1 (kOf H (backV v)).2 := fun v hv => by
    rw [ea] at hv
    obtain ⟨b, hb, rfl⟩ := List.mem_map.mp hv
    obtain ⟨_, its2, r2, o2, g1, g2, n2, g3⟩ := I1.hok _ _ (pair_at hk hp b hb)
    obtain ⟨u1, u2, rfl, ⟨t1, rfl⟩, ⟨t2, rfl⟩⟩ := vals2 r2
    exact ⟨b, o2, t1, t2, n2, rfl, Heap.get?_push_of_some _ g1, g2, g3⟩
  refine wpAny_bind (wpAny_holding (wpAny_call_entry PyProof.Rows.slot_list_sort ⟨_, hoL, rfl⟩ PyProof.Rows.entry_list_sort
    (SrtO.list_sort_ord (SrtO.swo_lex fun v => kOf H (backV v)) hoL al (fun h2 => SrtO.pairs_sortableO (s := { s with heap := h'.push (seqObj "list" acc.toList.toArray 0), toks := tk }) (by omega) hpr fun o e => ?_) fun out hso hst => ⟨_, rfl, ?_⟩) (PyProof.Rows.args_list_sort _)))
  · have e' : some o = some (seqObj "list" acc.toList.toArray 0) := e.symm.trans hoL
    cases e'
    intro c
    exact absurd (Value.type.inj c) (by decide)
  obtain ⟨e', he'⟩ := PyProof.Rows.sortedHeap_at (vs := acc.toList) (out := out.toArray) hoL
  have pm : out.Perm (bs.map Value.ref) := by rw [← ea]; exact hst.perm
  have ho3 : ∀ u ∈ out, ∃ a, u = Value.ref a := fun u hu => by
    obtain ⟨b, _, e⟩ := List.mem_map.mp (pm.mem_iff.mp hu)
    exact ⟨b, e.symm⟩
  have hlen : (out.map backV).length ≤ sizeLine := by rw [List.length_map, pm.length_eq, List.length_map]; omega
  refine wpAny_pure ⟨_, rfl, .ref h'.objs.size, upd H h'.objs.size (.lst (out.map backV)), I1.laid (t' := tk) (fun b u e => ?_) (Nat.le_refl _) ⟨hlen, out, _, vals_back ho3, he'⟩, rfl, q bs (out.map backV) _ hk (SrtO.srtd_map hso) ?_ (I1.hok.fresh (Nat.le_refl _))⟩
  · rw [PyProof.Rows.sortedHeap_old (Nat.ne_of_lt (Heap.lt_size e)) (by rw [Heap.size_push]; exact Nat.lt_succ_of_lt (Heap.lt_size e))]
    exact Heap.get?_push_of_some _ e
  · have := pm.map backV
    rw [List.map_map] at this
    exact this
end
def rListDT : List V → Hp → VK → Prop := fun xs H Q => ∃ d kvs, xs = [V.ref d] ∧ Rd H d (.dT kvs) ∧ ∀ p bs, H p = none → IsKeys H kvs bs → Q (.ref p) (upd H p (.lst (bs.map V.ref)))
theorem call_listDT {X : Cx} (hc : X.calm = true) : CallR X (.type "list") rListDT := call_list_dT hc
/-- a dict comprehension over what a Walk tells: Pv by the turn and the heap -/
theorem dg_it {J : It} {n : Nat} {G : Hp → Prop} {Y : Nat → Hp → V → Hp → Prop} (w : Walk J n G Y) {g : TG} {tt : TT} {tk tv : TE} {vs : List Nat} {σ : L2.St} {H1 : Hp} {D : Addr} {o : HO} {Qd : Hp → Prop} (Pv : Nat → Hp → Prop) (h0 : Pv 0 (upd H1 D o)) (hG : ∀ i H, i ≤ n → Pv i H → G H)
    (hs : ∀ i x H H', i < n → Pv i H → Y i H x H' → DcTurn g tt tk tv vs σ D (Pv (i + 1)) x H') (hd : ∀ H, Pv n H → Qd H) :
    ∃ W : Nat → Nat → Hp → Prop, (∃ m, W 0 m (upd H1 D o)) ∧ ∀ i m H, W i m H →
      (J.stop i H ∧ Qd H) ∨ (J.go i H ∧ ∃ Nx : Hp → Prop, (∀ H', Nx H' → ∃ m', m' < m ∧ W (i + 1) m' H') ∧ ∀ x H', J.yld i H x H' → DcTurn g tt tk tv vs σ D Nx x H') := by
  refine ⟨fun i m H => m + i = n ∧ Pv i H, ⟨n, rfl, h0⟩, fun i m H ⟨e, p⟩ => ?_⟩
  have q := hG i H (by omega) p
  rcases Nat.eq_zero_or_pos m with z | z
  · obtain rfl : i = n := by omega
    exact .inl ⟨w.stops H q, hd H p⟩
  · exact .inr ⟨w.goes i H (by omega) q, Pv (i + 1), fun H' p' => ⟨m - 1, by omega, by omega, p'⟩, fun x H' y => hs i x H H' (by omega) p (w.yields i H x H' (by omega) q y)⟩
end Fw
namespace Fw
open L2
open PySem PySem.Spec PyProof.Rows
section
variable {κ : Type} [DecidableEq κ]
def HasK (kvs : List (κ × V)) (k : κ) : Prop := k ∈ kvs.map (·.1)
theorem hasK_val {kvs : List (κ × V)} {k : κ} : (valV kvs k).isSome = true ↔ HasK kvs k := by
  rw [← valV_any]
  unfold HasK
  simp only [List.any_eq_true, decide_eq_true_eq, List.mem_map]
theorem hasK_drop {kvs : List (κ × V)} {k j : κ} : HasK (dropK kvs k) j ↔ j ≠ k ∧ HasK kvs j := by
  unfold HasK dropK
  simp only [List.mem_map, List.mem_filter, decide_eq_true_eq]
  constructor
  · rintro ⟨p, ⟨h1, h2⟩, rfl⟩
    exact ⟨h2, p, h1, rfl⟩
  · rintro ⟨h, p, h1, rfl⟩
    exact ⟨p, ⟨h1, h⟩, rfl⟩
theorem hasK_put {kvs : List (κ × V)} {k j : κ} {v : V} : HasK (putK kvs k v) j ↔ j = k ∨ HasK kvs j := by
  rw [← hasK_val, ← hasK_val, valV_put]
  by_cases h : j = k
  · simp [h]
  · simp [h]
theorem drop_lt {kvs : List (κ × V)} {k : κ} (h : HasK kvs k) : (dropK kvs k).length < kvs.length := by
  obtain ⟨p, hp, rfl⟩ := List.mem_map.mp h
  unfold dropK
  rw [List.length_filter_lt_length_iff_exists]
  exact ⟨p, hp, by simp⟩
theorem nodup_drop {kvs : List (κ × V)} {k : κ} (h : (kvs.map (·.1)).Nodup) : ((dropK kvs k).map (·.1)).Nodup := h.sublist ((List.filter_sublist (l := kvs)).map _)
theorem nodup_put {kvs : List (κ × V)} {k : κ} {v : V} (h : (kvs.map (·.1)).Nodup) : ((putK kvs k v).map (·.1)).Nodup := by
  by_cases e : HasK kvs k
  · have e' := hasK_val.mpr e
    rw [← valV_any] at e'
    unfold putK
    rw [if_pos e', List.map_map]
    rw [show (kvs.map ((fun x : κ × V => x.1) ∘ fun kv => if kv.1 = k then (kv.1, v) else kv)) = kvs.map (·.1) from List.map_congr_left fun p _ => by simp only [Function.comp]; split <;> rfl]
    exact h
  · have e' : valV kvs k = none := by
      cases z : valV kvs k with
      | none => rfl
      | some x => exact absurd (hasK_val.mp (by rw [z]; rfl)) e
    rw [putK_new v e', List.map_append]
    refine List.nodup_append.mpr ⟨h, by simp, fun a ha b hb => ?_⟩
    rw [show b = k by simpa using hb]
    exact fun z => e (by rw [← z]; exact ha)
end
/-- a family's key -/
abbrev fk (f : Int) (e : Nat) : List Key := [Sum.inl f, Sum.inl (e : Int)]
theorem fk_inj {f g : Int} {e d : Nat} (h : fk f e = fk g d) : f = g ∧ e = d := by
  injection h with a b
  injection b with b _
  injection a with a
  injection b with b
  exact ⟨a, by omega⟩
abbrev Fam := Int → Nat → Prop
/-- two halves of one family are put together -/
def mstep (S : Fam) (f : Int) (k : Nat) : Fam := fun g e => (g = f ∧ e + 1 = k) ∨ (S g e ∧ ¬ (e = k ∧ (g = f ∨ g = f + 2 ^ (k - 1))))
/-- T is S with halves put together, one pair after another -/
inductive Mg (bits : Nat) (S : Fam) : Fam → Prop
  | refl : Mg bits S S
  | step {T : Fam} {f : Int} {k : Nat} : Mg bits S T → 1 ≤ k → k ≤ bits → f < 2 ^ (k - 1) → T f k → T (f + 2 ^ (k - 1)) k → Mg bits S (mstep T f k)
/-- no two halves of level k are left -/
def Irr (S : Fam) (k : Nat) : Prop := ∀ f : Int, f < 2 ^ (k - 1) → ¬ (S f k ∧ S (f + 2 ^ (k - 1)) k)
/-- the families of a dict -/
def famD (kvs : List (List Key × V)) : Fam := fun f e => HasK kvs (fk f e)
theorem famD_step {kvs : List (List Key × V)} {f : Int} {k : Nat} {v : V} (hk : 1 ≤ k) : famD (putK (dropK (dropK kvs (fk f k)) (fk (f + 2 ^ (k - 1)) k)) (fk f (k - 1)) v) = mstep (famD kvs) f k := by
  funext g e
  refine propext ?_
  unfold famD mstep
  rw [hasK_put, hasK_drop, hasK_drop]
  constructor
  · rintro (h | ⟨h1, h2, h3⟩)
    · obtain ⟨rfl, rfl⟩ := fk_inj h
      exact .inl ⟨rfl, by omega⟩
    · refine .inr ⟨h3, ?_⟩
      rintro ⟨rfl, rfl | rfl⟩
      · exact h2 rfl
      · exact h1 rfl
  · rintro (⟨rfl, h⟩ | ⟨h1, h2⟩)
    · exact .inl (by rw [show e = k - 1 by omega])
    · refine .inr ⟨fun z => ?_, fun z => ?_, h1⟩
      · obtain ⟨a, b⟩ := fk_inj z
        exact h2 ⟨b, .inr a⟩
      · obtain ⟨a, b⟩ := fk_inj z
        exact h2 ⟨b, .inl a⟩
/-- a dict of families, at most so many -/
structure DictF (kvs : List (List Key × V)) (n : Nat) : Prop where
  len : kvs.length ≤ n
  nd : (kvs.map (·.1)).Nodup
  sh : ∀ x ∈ kvs, ∃ (f : Int) (e : Nat), x.1 = fk f e ∧ 0 ≤ f
theorem DictF.put {kvs : List (List Key × V)} {n : Nat} {f : Int} {e : Nat} {v : V} (d : DictF kvs n) (f0 : 0 ≤ f) : DictF (putK kvs (fk f e) v) (n + 1) where
  len := Nat.le_trans (length_putK _ _ _) (Nat.succ_le_succ d.len)
  nd := nodup_put d.nd
  sh := fun x hx => by
    have : HasK (putK kvs (fk f e) v) x.1 := List.mem_map.mpr ⟨x, hx, rfl⟩
    rcases hasK_put.mp this with h | h
    · exact ⟨f, e, h, f0⟩
    · obtain ⟨y, hy, e1⟩ := List.mem_map.mp h
      rw [← e1]
      exact d.sh y hy
theorem DictF.drop {kvs : List (List Key × V)} {n : Nat} {k : List Key} (d : DictF kvs n) (h : HasK kvs k) : DictF (dropK kvs k) (n - 1) where
  len := by
    have := drop_lt h
    have := d.len
    omega
  nd := nodup_drop d.nd
  sh := fun x hx => d.sh x (List.mem_filter.mp hx).1
theorem DictF.mono {kvs : List (List Key × V)} {n m : Nat} (d : DictF kvs n) (h : n ≤ m) : DictF kvs m := ⟨Nat.le_trans d.len h, d.nd, d.sh⟩
/-- level k, the first j keys of its row seen -/
structure Lev (S0 : Fam) (bits k : Nat) (kv0 kvs : List (List Key × V)) (n j : Nat) : Prop where
  df : DictF kvs n
  mg : Mg bits S0 (famD kvs)
  up : ∀ k', k < k' → k' ≤ bits → Irr (famD kvs) k'
  A : ∀ (j' : Nat) (f : Int) x, j ≤ j' → kv0[j']? = some x → x.1 = fk f k → f < 2 ^ (k - 1) → famD kvs f k
  B : ∀ (j' : Nat) (f : Int) x, j' < j → kv0[j']? = some x → x.1 = fk f k → f < 2 ^ (k - 1) → ¬ (famD kvs f k ∧ famD kvs (f + 2 ^ (k - 1)) k)
  C : ∀ g, famD kvs g k → HasK kv0 (fk g k)
section
variable {S0 : Fam} {bits k : Nat} {kv0 kvs : List (List Key × V)} {n j : Nat}
theorem Lev.start (df : DictF kvs n) (mg : Mg bits S0 (famD kvs)) (up : ∀ k', k < k' → k' ≤ bits → Irr (famD kvs) k') : Lev S0 bits k kvs kvs n 0 :=
  ⟨df, mg, up, fun j' f x _ h e _ => List.mem_map.mpr ⟨x, List.mem_of_getElem? h, e⟩, fun _ _ _ h => absurd h (Nat.not_lt_zero _), fun _ h => h⟩
theorem Lev.skip (l : Lev S0 bits k kv0 kvs n j) {x : List Key × V} {f : Int} {e : Nat} (hx : kv0[j]? = some x) (he : x.1 = fk f e) (no : ¬ (e = k ∧ f < 2 ^ (k - 1) ∧ famD kvs (f + 2 ^ (k - 1)) k)) : Lev S0 bits k kv0 kvs n (j + 1) :=
  ⟨l.df, l.mg, l.up, fun j' g y hj => l.A j' g y (by omega), fun j' g y hj hy ey lt both => by
    by_cases z : j' = j
    · subst z
      rw [hx] at hy
      obtain rfl := Option.some.inj hy
      obtain ⟨rfl, rfl⟩ := fk_inj (he.symm.trans ey)
      exact no ⟨rfl, lt, both.2⟩
    · exact l.B j' g y (by omega) hy ey lt both, l.C⟩
theorem Lev.finish (l : Lev S0 bits k kv0 kvs n kv0.length) : Irr (famD kvs) k := fun f lt both => by
  obtain ⟨x, hx, e⟩ := List.mem_map.mp (l.C f both.1)
  obtain ⟨j', hj⟩ := List.getElem?_of_mem hx
  exact l.B j' f x (List.getElem?_eq_some_iff.mp hj).1 hj e lt both
theorem Lev.merge (l : Lev S0 bits k kv0 kvs n j) (nd : (kv0.map (·.1)).Nodup) (pos : ∀ x ∈ kv0, ∃ (f : Int) (e : Nat), x.1 = fk f e ∧ 0 ≤ f) {x : List Key × V} {f : Int} (hx : kv0[j]? = some x) (he : x.1 = fk f k) (f0 : 0 ≤ f) (lt : f < 2 ^ (k - 1)) (hb : famD kvs (f + 2 ^ (k - 1)) k) (k1 : 1 ≤ k) (k2 : k ≤ bits) (v : V) :
    Lev S0 bits k kv0 (putK (dropK (dropK kvs (fk f k)) (fk (f + 2 ^ (k - 1)) k)) (fk f (k - 1)) v) n (j + 1) := by
  have ha : famD kvs f k := l.A j f x (Nat.le_refl _) hx he lt
  have p2 : (0 : Int) < 2 ^ (k - 1) := Int.pow_pos (by decide)
  have hb' : HasK (dropK kvs (fk f k)) (fk (f + 2 ^ (k - 1)) k) := hasK_drop.mpr ⟨fun z => by have := (fk_inj z).1; omega, hb⟩
  have lev : ∀ g e, k ≤ e → mstep (famD kvs) f k g e → famD kvs g e := fun g e h m => by
    rcases m with ⟨_, h1⟩ | ⟨h1, _⟩
    · omega
    · exact h1
  refine ⟨?_, ?_, ?_, ?_, ?_, ?_⟩
  · have d1 := (l.df.drop ha).drop hb'
    have n2 : 2 ≤ n := by
      have := l.df.len
      have := drop_lt ha
      have := drop_lt hb'
      omega
    exact (d1.put f0).mono (by omega)
  · rw [famD_step k1]
    exact .step l.mg k1 k2 lt ha hb
  · intro k' h1 h2 g lt' both
    rw [famD_step k1] at both
    exact l.up k' h1 h2 g lt' ⟨lev _ _ (by omega) both.1, lev _ _ (by omega) both.2⟩
  · intro j' g y hj hy ey lt'
    rw [famD_step k1]
    refine .inr ⟨l.A j' g y (by omega) hy ey lt', ?_⟩
    rintro ⟨_, rfl | rfl⟩
    · have e1 : (kv0.map (·.1))[j]? = (kv0.map (·.1))[j']? := by rw [List.getElem?_map, List.getElem?_map, hx, hy]; show some x.1 = some y.1; rw [he, ey]
      have := (List.getElem?_inj (by rw [List.length_map]; exact (List.getElem?_eq_some_iff.mp hx).1) nd).mp e1
      omega
    · omega
  · intro j' g y hj hy ey lt' both
    rw [famD_step k1] at both
    by_cases z : j' = j
    · subst z
      rw [hx] at hy
      obtain rfl := Option.some.inj hy
      obtain ⟨rfl, _⟩ := fk_inj (he.symm.trans ey)
      rcases both.1 with ⟨_, h⟩ | ⟨_, h⟩
      · omega
      · exact h ⟨rfl, .inl rfl⟩
    · exact l.B j' g y (by omega) hy ey lt' ⟨lev _ _ (Nat.le_refl _) both.1, lev _ _ (Nat.le_refl _) both.2⟩
  · intro g h
    rw [famD_step k1] at h
    exact l.C g (lev _ _ (Nat.le_refl _) h)
end
/-! ### what putting together keeps -/
/-- x is of one of the families -/
def Cover (S : Fam) (x : Int) : Prop := ∃ f e, S f e ∧ (2 : Int) ^ e ∣ x - f
theorem halves {k : Nat} (h : 1 ≤ k) (x f : Int) : (2 : Int) ^ (k - 1) ∣ x - f ↔ (2 : Int) ^ k ∣ x - f ∨ (2 : Int) ^ k ∣ x - (f + 2 ^ (k - 1)) := by
  have e : (2 : Int) ^ k = 2 ^ (k - 1) * 2 := by
    rw [← Int.pow_succ, show (k - 1).succ = k by omega]
  constructor
  · rintro ⟨c, hc⟩
    rcases Int.emod_two_eq c with z | z
    · refine .inl ⟨c / 2, ?_⟩
      rw [hc, e, Int.mul_assoc]
      congr 1
      omega
    · refine .inr ⟨c / 2, ?_⟩
      rw [show x - (f + 2 ^ (k - 1)) = (x - f) - 2 ^ (k - 1) by omega, hc, e, Int.mul_assoc]
      have : c = 2 * (c / 2) + 1 := by omega
      rw [show (2 : Int) ^ (k - 1) * c - 2 ^ (k - 1) = 2 ^ (k - 1) * (c - 1) by rw [Int.mul_sub, Int.mul_one]]
      congr 1
      omega
  · rintro (⟨c, hc⟩ | ⟨c, hc⟩)
    · exact ⟨2 * c, by rw [hc, e, Int.mul_assoc]⟩
    · refine ⟨2 * c + 1, ?_⟩
      rw [show x - f = (x - (f + 2 ^ (k - 1))) + 2 ^ (k - 1) by omega, hc, e, Int.mul_add, Int.mul_one, Int.mul_assoc]
theorem Mg.cover {bits : Nat} {S T : Fam} (m : Mg bits S T) (x : Int) : Cover T x ↔ Cover S x := by
  induction m with
  | refl => exact Iff.rfl
  | @step T f k _ k1 _ _ ha hb ih =>
    rw [← ih]
    constructor
    · rintro ⟨g, e, (⟨rfl, h⟩ | ⟨h, _⟩), d⟩
      · obtain rfl : e = k - 1 := by omega
        rcases (halves k1 x g).mp d with d | d
        · exact ⟨g, k, ha, d⟩
        · exact ⟨_, k, hb, d⟩
      · exact ⟨g, e, h, d⟩
    · rintro ⟨g, e, h, d⟩
      by_cases z : e = k ∧ (g = f ∨ g = f + 2 ^ (k - 1))
      · obtain ⟨rfl, z⟩ := z
        refine ⟨f, e - 1, .inl ⟨rfl, by omega⟩, (halves k1 x f).mpr ?_⟩
        rcases z with rfl | rfl
        · exact .inl d
        · exact .inr d
      · exact ⟨g, e, .inr ⟨h, z⟩, d⟩
/-- families that share no x -/
def Apart (S : Fam) : Prop := ∀ f e g d x, S f e → S g d → (2 : Int) ^ e ∣ x - f → (2 : Int) ^ d ∣ x - g → f = g ∧ e = d
theorem Mg.apart {bits : Nat} {S T : Fam} (m : Mg bits S T) (a : Apart S) : Apart T := by
  induction m with
  | refl => exact a
  | @step T f k _ k1 _ _ ha hb ih =>
    have one : ∀ g d x, T g d → ¬ (d = k ∧ (g = f ∨ g = f + 2 ^ (k - 1))) → (2 : Int) ^ (k - 1) ∣ x - f → (2 : Int) ^ d ∣ x - g → False := fun g d x h n d1 d2 => by
      rcases (halves k1 x f).mp d1 with z | z
      · obtain ⟨rfl, rfl⟩ := ih _ _ _ _ x ha h z d2
        exact n ⟨rfl, .inl rfl⟩
      · obtain ⟨rfl, rfl⟩ := ih _ _ _ _ x hb h z d2
        exact n ⟨rfl, .inr rfl⟩
    rintro g d h e x (⟨rfl, h1⟩ | ⟨h1, n1⟩) (⟨rfl, h2⟩ | ⟨h2, n2⟩) d1 d2
    · exact ⟨rfl, by omega⟩
    · obtain rfl : d = k - 1 := by omega
      exact (one h e x h2 n2 d1 d2).elim
    · obtain rfl : e = k - 1 := by omega
      exact (one g d x h1 n1 d2 d1).elim
    · exact ih _ _ _ _ x h1 h2 d1 d2
/-- each family's first value is below its step, its level at most bits -/
def WfF (bits : Nat) (S : Fam) : Prop := ∀ f e, S f e → 0 ≤ f ∧ f < 2 ^ e ∧ e ≤ bits
theorem Mg.wf {bits : Nat} {S T : Fam} (m : Mg bits S T) (a : WfF bits S) : WfF bits T := by
  induction m with
  | refl => exact a
  | @step T f k _ k1 k2 lt ha hb ih =>
    rintro g e (⟨rfl, h⟩ | ⟨h, _⟩)
    · obtain rfl : e = k - 1 := by omega
      exact ⟨(ih _ _ ha).1, lt, by omega⟩
    · exact ih _ _ h
end Fw
namespace Fw
open L2
open PySem PySem.Spec PyProof.Rows
section
variable {X : Cx} {pins : List (Addr × Obj)} {σ : L2.St} {H : Hp} {s : Shared} {D x : Addr} {L : List (Addr × List Int)} {k : List Int}
/-- one tuple of ints put into a set of such -/
theorem set_lay {E : Value → Shared → Prop} {Q : Bool → Shared → Prop} (hu : X.A.units < cLine) (I : Inv X pins σ H s) (hD : H D = some (SetTO X.prog X.w D L)) (hL : ∀ p ∈ L, SqT X.K H p.1 (p.2.map V.int)) (hx : SqT X.K H x (k.map V.int)) (few : L.length + 1 < 64)
    (h : ∀ b s' L', (k ∈ L.map (·.2) → L' = L) → (k ∉ L.map (·.2) → L'.Perm ((x, k) :: L)) → Inv X pins σ (upd H D (SetTO X.prog X.w D L')) s' → Q b s') : wpAny (model X.prog X.w) X.A (setAdd D (.ref x)) Q E s := by
  have R0 : SetT0 X.prog X.w s.heap D L := (I.hok D _ hD).1
  obtain ⟨es, ep, t, R⟩ := R0.full fun p hp => I.isT (hL p hp)
  unfold setAdd
  refine wpAny_holding ?_
  refine wpAny_bind (wpAny_pyHash_tuple hu (I.isT hx) ?_)
  have I1 := I.tok (s.toks + (k.length + 1))
  refine add_at (s := { s with toks := s.toks + (k.length + 1) }) R (I.isT hx) hu few fun b h' L' es' ep' t' sb R2 c1 c2 => ?_
  have he : ∃ u, h'.get? D = some u := by
    obtain ⟨o, ho, _⟩ := R2.ob
    exact ⟨o, ho⟩
  exact h b _ L' c1 c2 (I.write (e := D) (t' := s.toks + (k.length + 1)) (by rw [hD]; trivial) (.inl rfl) (fun b u hb hu => (sb.2 b hb).trans hu) he (setTO_new R2.t0))
end
section
variable {X : Cx} {a b : Expr} {ta tb : TE} {pos : Pos}
/-- {a, b}, a and b tuples of ints -/
def tSet2 (P : Program) (w : World) (ta tb : TE) : TE := fun σ H Q => ∀ D, H D = none → ta σ (upd H D (SetTO P w D [])) fun x H1 => tb σ H1 fun y H2 => ∃ (p q : Addr) (ks ls : List Int), x = .ref p ∧ y = .ref q ∧ H2 D = some (SetTO P w D []) ∧
  H2 p = some (.tup (ks.map V.int)) ∧ H2 q = some (.tup (ls.map V.int)) ∧ p ≠ D ∧ q ≠ D ∧ ∀ L, (ks = ls → L = [(p, ks)]) → (ks ≠ ls → L.Perm [(q, ls), (p, ks)]) → Q (.ref D) (upd H2 D (SetTO P w D L))
theorem pe_set2 (hu : X.A.units < cLine) (hcd : PySem.W.kdsCode X.K X.env.code = true) (ha : PE X a ta) (hb : PE X b tb) (hs : starEach [a, b] X.env = [(false, eval a X.env), (false, eval b X.env)] := by rfl) : PE X (.Set [a, b] 0 pos) (tSet2 X.prog X.w ta tb) := by
  refine ⟨fun pins s σ H Q I h => ?_⟩
  rw [arm_eval_Set, hs]
  refine wpAny_bind (wpAny_standAt ?_)
  refine wpAny_bind (PySem.W.kds_main I.kIn hcd fun fs => ?_)
  show wpAny _ _ (setDisplay .oneByOne fs [(false, do let v ← eval a X.env; standAt pos; pure v), (false, do let v ← eval b X.env; standAt pos; pure v)]) _ _ s
  unfold setDisplay
  try dsimp only
  rw [if_neg (by decide)]
  refine wpAny_bind (wpAny_newSet_raw fun led hl => ?_)
  dsimp only
  obtain ⟨D, hD⟩ : ∃ D, D = s.heap.objs.size := ⟨_, rfl⟩
  rw [← hD]
  have hn : H D = none := I.hok.fresh (Nat.le_of_eq hD.symm)
  have fresh : SetTR X.prog X.w (s.heap.push { cls := .type "set", dict := none, data := .set #[] 0 (.fresh 0 0 led) }) D [] #[] 0 (.fresh 0 0 led) := by
    subst hl
    exact setTR_fresh (by rw [hD]; exact Heap.get?_push_size _ rfl)
  have I1 : Inv X pins σ (upd H D (SetTO X.prog X.w D [])) { s with heap := s.heap.push { cls := .type "set", dict := none, data := .set #[] 0 (.fresh 0 0 led) } } :=
    I.laid (t' := s.toks) (fun b o e => Heap.get?_push_of_some _ e) (Nat.le_of_eq hD.symm) (setTO_new fresh.t0)
  generalize ({ s with heap := s.heap.push { cls := .type "set", dict := none, data := .set #[] 0 (.fresh 0 0 led) } } : Shared) = s1 at I1 ⊢
  have h := h D hn
  refine wpAny_bind (wpAny_holding ?_)
  refine wpAny_bind ?_
  show wpAny _ _ (evalAll [do let v ← eval a X.env; standAt pos; pure v, do let v ← eval b X.env; standAt pos; pure v]) _ _ _
  refine wpAny_evalAll_cons (wpAny_bind (thn (ha.run pins s1 σ _ _ I1 h) fun v s2 ⟨x, H1, I2, rx, q1⟩ => wpAny_bind (wpAny_standAt (wpAny_pure ?_))))
  refine wpAny_evalAll_cons (wpAny_bind (thn (hb.run pins s2 σ H1 _ I2 q1) fun u s3 ⟨y, H2, I3, ry, p, q, ks, ls, ex, ey, hd, hp, hq, pn, qn, k⟩ => wpAny_bind (wpAny_standAt (wpAny_pure ?_))))
  refine wpAny_evalAll_nil ?_
  subst ex ey
  cases (show v = Value.ref p from rx)
  cases (show u = Value.ref q from ry)
  refine wpAny_bind (wpAny_holding ?_)
  refine wpAny_bind ?_
  rw [List.forIn_cons]
  refine wpAny_bind (wpAny_bind (set_lay (k := ks) hu I3 hd (fun p hp => by cases hp) (SqT.of hp) (by decide) fun b1 s4 L1 c1 c2 I4 => wpAny_pure ?_))
  obtain rfl : L1 = [(p, ks)] := List.perm_singleton.mp (c2 (by simp))
  dsimp only
  rw [List.forIn_cons]
  refine wpAny_bind (wpAny_bind (set_lay (k := ls) hu I4 upd_same (fun r hr => by rw [List.mem_singleton.mp hr]; exact SqT.of (by rw [upd_ne pn]; exact hp)) (SqT.of (by rw [upd_ne qn]; exact hq)) (by simp) fun b2 s5 L2 c3 c4 I5 => wpAny_pure ?_))
  dsimp only
  rw [List.forIn_nil]
  refine wpAny_pure ?_
  rw [if_neg (by decide)]
  refine wpAny_pure ?_
  show wpAny _ _ (forIn ([] : List (Bool × Sem Value)) PUnit.unit _ >>= fun _ => pure ()) _ _ _
  rw [List.forIn_nil]
  refine wpAny_bind (wpAny_pure (wpAny_pure (wpAny_pure ⟨.ref D, _, I5, rfl, ?_⟩)))
  have e : upd (upd H2 D (SetTO X.prog X.w D [(p, ks)])) D (SetTO X.prog X.w D L2) = upd H2 D (SetTO X.prog X.w D L2) := by
    funext z
    by_cases hz : z = D
    · rw [hz, upd_same, upd_same]
    · rw [upd_ne hz, upd_ne hz, upd_ne hz]
  rw [e]
  refine k L2 (fun z => c3 ?_) fun z => c4 ?_
  · simp [z]
  · simpa using fun z' => z z'.symm
end
/-- a def by its body, its code the module's (a set display asks it) -/
theorem okK {P : Program} {w : World} {K : PySem.W.Frag} {mg : Str → Option Value} {base : Heap} {x qual : Str} {st : Stmt} {f : Addr} {fd : FuncData} {N ps : List Str} {k : Nat} {sp : Sp} (F : Fun K x qual st f fd) (S : FnScope N ps (defScope st)) (len : ∀ vs H Q E, sp vs H Q E → vs.length = ps.length)
    (hb : ∀ (cdv : Value), PySem.W.kdsCode K cdv = true → ∀ (A : Around) (outer : List Env) (s : Shared) (H : Hp) (vs : List V) (Q : VK) (E : XK), Room k (A.deeper (envOfC qual (defScope st) s.heap.objs.size f cdv)) → sp vs H Q E →
      ∃ t, PSs (cxOf CX0 P w K mg base N qual (defScope st) f cdv A outer s H E).nox (defBody st) t ∧ t { nx := fun _ H' => Q .non H', rt := Q } (start N vs) H) : FnOk P w K mg base CX0 (k + 1) f fd ps sp := by
  obtain ⟨oc, od, kV, doc, pm, an, cdv, ct, osl, rfl, lk, hcd⟩ := F.ex
  refine fn_of lk hcd S len fun A outer s H vs Q E hr hsp => ?_
  obtain ⟨t, h, q⟩ := hb cdv (kdsCode_of hcd) A outer s H vs Q E hr hsp
  exact ⟨t, h.nox, q⟩
end Fw
namespace Fw
open L2
open PySem PySem.Spec PyProof.Rows
theorem gposR (w : Nat) : (0 : Int) < 2 ^ w := Int.pow_pos (by decide)
theorem gppR {a b : Nat} (h : a ≤ b) : (2 : Int) ^ a ∣ 2 ^ b := ⟨2 ^ (b - a), by rw [← Int.pow_add]; congr 1; omega⟩
theorem dvT {S x y z : Int} (h : S ∣ x - y) (g : S ∣ y - z) : S ∣ x - z := by
  rw [show x - z = (x - y) + (y - z) by omega]; exact Int.dvd_add h g
theorem dvS {S x y : Int} (h : S ∣ x - y) : S ∣ y - x := by
  rw [show y - x = -(x - y) by omega]; exact (Int.dvd_neg).mpr h
theorem res_eq {S f g : Int} (f0 : 0 ≤ f) (f1 : f < S) (g0 : 0 ≤ g) (g1 : g < S) (h : S ∣ f - g) : f = g := by
  obtain ⟨c, hc⟩ := h
  have h1 : c < 1 := by
    refine Int.not_le.mp fun z => ?_
    have := Int.mul_le_mul_of_nonneg_left z (show 0 ≤ S by omega)
    omega
  have h2 : -1 < c := by
    refine Int.not_le.mp fun z => ?_
    have := Int.mul_le_mul_of_nonneg_left z (show 0 ≤ S by omega)
    omega
  have : c = 0 := by omega
  rw [this, Int.mul_zero] at hc
  omega
/-- families that stand apart, no two of which are halves -/
structure Nrm (w : Nat) (S : Fam) : Prop where
  wf : WfF w S
  ap : Apart S
  ir : ∀ k, 1 ≤ k → k ≤ w → Irr S k
section
variable {w : Nat} {S T : Fam}
theorem Nrm.inner (N : Nrm w S) {g : Int} {d : Nat} (full : ∀ x, (2 : Int) ^ d ∣ x - g → Cover S x) : ∀ (n : Nat) (k : Nat) (h : Int), w - k = n → d < k → S h k → (2 : Int) ^ d ∣ h - g → False := by
  intro n
  induction n using Nat.strongRecOn with
  | _ n ih =>
    intro k h hn dk hk hg
    obtain ⟨h0, h1, kw⟩ := N.wf h k hk
    have e : (2 : Int) ^ k = 2 ^ (k - 1) * 2 := by rw [← Int.pow_succ, show (k - 1).succ = k by omega]
    have hp := gposR (k - 1)
    -- the other half
    obtain ⟨y, hy⟩ : ∃ y, y = if h < 2 ^ (k - 1) then h + 2 ^ (k - 1) else h - 2 ^ (k - 1) := ⟨_, rfl⟩
    have hyb : 0 ≤ y ∧ y < 2 ^ k ∧ (y = h + 2 ^ (k - 1) ∨ y = h - 2 ^ (k - 1)) := by
      split at hy <;> omega
    have hyh : (2 : Int) ^ (k - 1) ∣ y - h := by
      rcases hyb.2.2 with z | z
      · exact ⟨1, by omega⟩
      · exact ⟨-1, by omega⟩
    have hyg : (2 : Int) ^ d ∣ y - g := dvT (Int.dvd_trans (gppR (by omega)) hyh) hg
    obtain ⟨m, j, hm, dm⟩ := full y hyg
    obtain ⟨m0, m1, jw⟩ := N.wf m j hm
    rcases Nat.lt_trichotomy j k with lt | eq | gt
    · have d2 : (2 : Int) ^ j ∣ h - m := dvT (dvS (Int.dvd_trans (gppR (by omega)) hyh)) dm
      have := (N.ap h k m j h hk hm (by rw [Int.sub_self]; exact Int.dvd_zero _) d2).2
      omega
    · subst eq
      have ym : y = m := res_eq hyb.1 hyb.2.1 m0 m1 dm
      subst ym
      split at hy
      · rename_i c
        exact N.ir j (by omega) jw h c ⟨hk, by rw [← hy]; exact hm⟩
      · rename_i c
        exact N.ir j (by omega) jw y (by omega) ⟨hm, by rw [show y + 2 ^ (j - 1) = h by omega]; exact hk⟩
    · exact ih (w - j) (by omega) j m rfl (by omega) hm (dvT (dvS (Int.dvd_trans (gppR (by omega)) dm)) hyg)
/-- a ball all of whose numbers are covered lies in one family -/
theorem Nrm.ball (N : Nrm w S) {g : Int} {d : Nat} (full : ∀ x, (2 : Int) ^ d ∣ x - g → Cover S x) : ∃ h k, S h k ∧ k ≤ d ∧ (2 : Int) ^ k ∣ g - h := by
  obtain ⟨h, k, hk, hd⟩ := full g (by rw [Int.sub_self]; exact Int.dvd_zero _)
  by_cases z : k ≤ d
  · exact ⟨h, k, hk, z, hd⟩
  · exact (N.inner full _ k h rfl (by omega) hk (dvS (Int.dvd_trans (gppR (by omega)) hd))).elim
theorem Nrm.sub (N : Nrm w S) (M : Nrm w T) (e : ∀ x, Cover S x ↔ Cover T x) {f : Int} {k : Nat} (h : S f k) : T f k := by
  obtain ⟨f0, f1, kw⟩ := N.wf f k h
  obtain ⟨g, d, hg, dk, dg⟩ := M.ball (g := f) (d := k) fun x hx => (e x).mp ⟨f, k, h, hx⟩
  obtain ⟨g0, g1, dw⟩ := M.wf g d hg
  obtain ⟨a, j, ha, jd, da⟩ := N.ball (g := g) (d := d) fun x hx => (e x).mpr ⟨g, d, hg, hx⟩
  obtain ⟨rfl, rfl⟩ := N.ap f k a j f h ha (by rw [Int.sub_self]; exact Int.dvd_zero _) (dvT (Int.dvd_trans (gppR jd) dg) da)
  obtain rfl : d = k := by omega
  rw [res_eq f0 f1 g0 g1 dg]
  exact hg
theorem Nrm.uniq (N : Nrm w S) (M : Nrm w T) (e : ∀ x, Cover S x ↔ Cover T x) (f : Int) (k : Nat) : S f k ↔ T f k := ⟨N.sub M e, M.sub N fun x => (e x).symm⟩
end
/-! ### rows of pairs, told by their numbers -/
abbrev FL := List (Int × Nat)
abbrev ltF (x y : Int × Nat) : Prop := x.1 < y.1 ∨ (x.1 = y.1 ∧ x.2 < y.2)
/-- a row of pairs -/
inductive PRow (H : Hp) : List V → FL → Prop
  | nil : PRow H [] []
  | cons {q : Addr} {f : Int} {e : Nat} {rs : List V} {fl : FL} : H q = some (.tup [.int f, .int (e : Int)]) → PRow H rs fl → PRow H (.ref q :: rs) ((f, e) :: fl)
section
variable {H H' : Hp} {rs : List V} {fl : FL}
theorem PRow.keep (h : PRow H rs fl) (s : ∀ q f e, H q = some (.tup [.int f, .int e]) → H' q = some (.tup [.int f, .int e])) : PRow H' rs fl := by
  induction h with
  | nil => exact .nil
  | cons h _ ih => exact .cons (s _ _ _ h) ih
theorem PRow.same (h : PRow H rs fl) (s : Same H H') : PRow H' rs fl := h.keep fun q _ _ e => s q _ e
theorem PRow.len (h : PRow H rs fl) : rs.length = fl.length := by
  induction h with
  | nil => rfl
  | cons _ _ ih => rw [List.length_cons, List.length_cons, ih]
theorem PRow.get (h : PRow H rs fl) : ∀ {i : Nat} {x : V}, rs[i]? = some x → ∃ (q : Addr) (f : Int) (e : Nat), x = .ref q ∧ H q = some (.tup [.int f, .int (e : Int)]) ∧ fl[i]? = some (f, e) := by
  induction h with
  | nil => intro i x h; cases h
  | @cons q f e _ _ h _ ih =>
    intro i x hx
    cases i with
    | zero => exact ⟨q, f, e, (Option.some.inj hx).symm, h, rfl⟩
    | succ i => exact ih hx
theorem PRow.hit (h : PRow H rs fl) : ∀ {i : Nat} {f : Int} {e : Nat}, fl[i]? = some (f, e) → ∃ q : Addr, rs[i]? = some (.ref q) ∧ H q = some (.tup [.int f, .int (e : Int)]) := by
  induction h with
  | nil => intro i f e h; cases h
  | @cons q f e _ _ h _ ih =>
    intro i f' e' hx
    cases i with
    | zero =>
      obtain ⟨rfl, rfl⟩ := Prod.mk.inj (Option.some.inj hx)
      exact ⟨q, rfl, h⟩
    | succ i => exact ih hx
theorem PRow.app {rs' : List V} {fl' : FL} (h : PRow H rs fl) (g : PRow H rs' fl') : PRow H (rs ++ rs') (fl ++ fl') := by
  induction h with
  | nil => exact g
  | cons h _ ih => exact .cons h ih
theorem PRow.add {q : Addr} {f : Int} {e : Nat} (h : PRow H rs fl) (hq : H q = some (.tup [.int f, .int (e : Int)])) : PRow H (rs ++ [.ref q]) (fl ++ [(f, e)]) := h.app (.cons hq .nil)
/-- a row from its values -/
theorem row_of_vals (h : ∀ r ∈ rs, ∃ (q : Addr) (f : Int) (e : Nat), r = .ref q ∧ H q = some (.tup [.int f, .int (e : Int)])) : PRow H rs (rs.map fun v => ((kOf H v).1, (kOf H v).2.toNat)) := by
  induction rs with
  | nil => exact .nil
  | cons r rs ih =>
    obtain ⟨q, f, e, rfl, hq⟩ := h r List.mem_cons_self
    rw [List.map_cons, kOf_at hq]
    exact .cons hq (ih fun r hr => h r (List.mem_cons_of_mem _ hr))
theorem PRow.dp {K : PySem.W.Frag} (h : PRow H rs fl) : DpAll K H rs (fl.map fun p => PyData.tuple [.int p.1, .int (p.2 : Int)]) := by
  induction h with
  | nil => exact .nil
  | cons h _ ih => exact .cons (.tup (SqT.of h) (.cons (.int _) (.cons (.int _) .nil))) ih
end
theorem srt_uniq : ∀ {l m : FL}, l.Pairwise ltF → m.Pairwise ltF → (∀ x, x ∈ l ↔ x ∈ m) → l = m := by
  intro l
  induction l with
  | nil =>
    intro m _ _ h
    cases m with
    | nil => rfl
    | cons x m => exact absurd ((h x).mpr List.mem_cons_self) List.not_mem_nil
  | cons x l ih =>
    intro m hl hm h
    cases m with
    | nil => exact absurd ((h x).mp List.mem_cons_self) List.not_mem_nil
    | cons y m =>
      obtain ⟨hx, hl'⟩ := List.pairwise_cons.mp hl
      obtain ⟨hy, hm'⟩ := List.pairwise_cons.mp hm
      have irr : ∀ z : Int × Nat, ¬ ltF z z := fun z c => by rcases c with c | c <;> omega
      have e : x = y := by
        rcases List.mem_cons.mp ((h x).mp List.mem_cons_self) with e | a
        · exact e
        rcases List.mem_cons.mp ((h y).mpr List.mem_cons_self) with e | b
        · exact e.symm
        have c1 := hy x a
        have c2 := hx y b
        exact absurd (show ltF x x by rcases c1 with c1 | c1 <;> rcases c2 with c2 | c2 <;> (unfold ltF; omega)) (irr x)
      subst e
      congr 1
      refine ih hl' hm' fun z => ⟨fun hz => ?_, fun hz => ?_⟩
      · rcases List.mem_cons.mp ((h z).mp (List.mem_cons_of_mem _ hz)) with e | a
        · subst e; exact absurd (hx z hz) (irr z)
        · exact a
      · rcases List.mem_cons.mp ((h z).mpr (List.mem_cons_of_mem _ hz)) with e | a
        · subst e; exact absurd (hy z hz) (irr z)
        · exact a
abbrev famL (fl : FL) : Fam := fun f e => (f, e) ∈ fl
/-- the ascending row of families that stand apart, no two of which are halves -/
structure NRow (w : Nat) (fl : FL) : Prop where
  srt : fl.Pairwise ltF
  nrm : Nrm w (famL fl)
theorem NRow.uniq {w : Nat} {fl gl : FL} (a : NRow w fl) (b : NRow w gl) (e : ∀ x, Cover (famL fl) x ↔ Cover (famL gl) x) : fl = gl := srt_uniq a.srt b.srt fun x => a.nrm.uniq b.nrm e x.1 x.2
theorem NRow.nil {w : Nat} : NRow w [] := ⟨.nil, ⟨fun _ _ h => (by cases h), fun _ _ _ _ _ h => (by cases h), fun _ _ _ _ _ h => (by cases h.1)⟩⟩
theorem NRow.one {w : Nat} {f : Int} {e : Nat} (f0 : 0 ≤ f) (f1 : f < 2 ^ e) (ew : e ≤ w) : NRow w [(f, e)] :=
  ⟨List.pairwise_singleton _ _, ⟨fun g d h => by obtain ⟨rfl, rfl⟩ := Prod.mk.inj (List.mem_singleton.mp h); exact ⟨f0, f1, ew⟩, fun g d g' d' x h h' _ _ => by
    obtain ⟨rfl, rfl⟩ := Prod.mk.inj (List.mem_singleton.mp h)
    obtain ⟨rfl, rfl⟩ := Prod.mk.inj (List.mem_singleton.mp h')
    exact ⟨rfl, rfl⟩, fun k k1 kw g hg h => by
    obtain ⟨rfl, rfl⟩ := Prod.mk.inj (List.mem_singleton.mp h.1)
    obtain ⟨z, _⟩ := Prod.mk.inj (List.mem_singleton.mp h.2)
    have := gposR (k - 1)
    omega⟩⟩
theorem cover_one {f x : Int} {e : Nat} : Cover (famL [(f, e)]) x ↔ (2 : Int) ^ e ∣ x - f := ⟨fun ⟨g, d, h, c⟩ => by
  obtain ⟨rfl, rfl⟩ := Prod.mk.inj (List.mem_singleton.mp h)
  exact c, fun h => ⟨f, e, List.mem_singleton.mpr rfl, h⟩⟩
/-- a list object that holds the families of just those of which P speaks -/
def FamRow (H : Hp) (q : Addr) (w : Nat) (P : Int → Prop) : Prop := ∃ out fl, H q = some (.lst out) ∧ PRow H out fl ∧ NRow w fl ∧ (∀ x, Cover (famL fl) x ↔ P x) ∧ fl.length ≤ 2000
theorem FamRow.same {H H' : Hp} {q : Addr} {w : Nat} {P : Int → Prop} (h : FamRow H q w P) (s : Same H H') : FamRow H' q w P := by
  obtain ⟨out, fl, a, b, c, d, e⟩ := h
  exact ⟨out, fl, s _ _ a, b.same s, c, d, e⟩
theorem cover_nil {x : Int} : ¬ Cover (famL []) x := fun ⟨_, _, h, _⟩ => by cases h
/-- the first pairs of an object's list are those of a row -/
theorem FamRow.list {H : Hp} {q : Addr} {w : Nat} {P : Int → Prop} {gl : FL} (h : FamRow H q w P) (n : NRow w gl) (e : ∀ x, Cover (famL gl) x ↔ P x) : ∃ out, H q = some (.lst out) ∧ PRow H out gl := by
  obtain ⟨out, fl, a, b, c, d, _⟩ := h
  rw [c.uniq n fun x => (d x).trans (e x).symm] at b
  exact ⟨out, a, b⟩
/-- what joined hands back, by its dict's keys -/
theorem joined_row {H : Hp} {kvs : List (List Key × V)} {bs : List Addr} {out : List V} (nd : (kvs.map (·.1)).Nodup) (sh : ∀ x ∈ kvs, ∃ (f : Int) (e : Nat), x.1 = fk f e ∧ 0 ≤ f) (hbs : IsKeys H kvs bs) (so : SrtO.Srtd (ltP (kOf H)) out) (pm : out.Perm (bs.map V.ref)) :
    ∃ fl : FL, PRow H out fl ∧ fl.Pairwise ltF ∧ (fun f e => (f, e) ∈ fl) = famD kvs := by
  have vals : ∀ r ∈ out, ∃ (q : Addr) (f : Int) (e : Nat), r = .ref q ∧ H q = some (.tup [.int f, .int (e : Int)]) ∧ famD kvs f e := fun r hr => by
    obtain ⟨b, hb, rfl⟩ := List.mem_map.mp (pm.mem_iff.mp hr)
    obtain ⟨j, hj⟩ := List.getElem?_of_mem hb
    obtain ⟨x, hx, hbx⟩ := L2.DX.pget hbs hj
    obtain ⟨f, e, ex, _⟩ := sh x (List.mem_of_getElem? hx)
    rw [ex] at hbx
    exact ⟨b, f, e, rfl, hbx, List.mem_map.mpr ⟨x, List.mem_of_getElem? hx, ex⟩⟩
  have back : ∀ f e, famD kvs f e → ∃ q : Addr, V.ref q ∈ out ∧ H q = some (.tup [.int f, .int (e : Int)]) := fun f e h => by
    obtain ⟨x, hx, ex⟩ := List.mem_map.mp h
    obtain ⟨j, hj⟩ := List.getElem?_of_mem hx
    have jl : j < bs.length := by rw [← Paired.length hbs]; exact (List.getElem?_eq_some_iff.mp hj).1
    have hb : bs[j]? = some bs[j] := List.getElem?_eq_getElem jl
    obtain ⟨y, hy, hbx⟩ := L2.DX.pget hbs hb
    rw [hj] at hy
    obtain rfl := Option.some.inj hy
    rw [ex] at hbx
    exact ⟨bs[j], pm.mem_iff.mpr (List.mem_map.mpr ⟨_, List.getElem_mem jl, rfl⟩), hbx⟩
  have ks : ((bs.map V.ref).map (kOf H)).Nodup := by
    have go : ∀ {kvs : List (List Key × V)} {bs : List Addr}, Paired (fun p b => H b = some (.tup (p.1.map kV))) kvs bs → (∀ x ∈ kvs, ∃ (f : Int) (e : Nat), x.1 = fk f e ∧ 0 ≤ f) → (kvs.map (·.1)).Nodup → ((bs.map V.ref).map (kOf H)).Nodup ∧ ∀ z ∈ (bs.map V.ref).map (kOf H), ∃ (f : Int) (e : Nat), z = (f, (e : Int)) ∧ fk f e ∈ kvs.map (·.1) := fun {kvs bs} h => by
      induction h with
      | nil => exact fun _ _ => ⟨.nil, fun z h => (by cases h)⟩
      | @cons x b kvs bs h1 _ ih =>
        intro sh nd
        obtain ⟨n1, n2⟩ := List.nodup_cons.mp (by rw [List.map_cons] at nd; exact nd)
        obtain ⟨i1, i2⟩ := ih (fun y hy => sh y (List.mem_cons_of_mem _ hy)) n2
        obtain ⟨f, e, ex, _⟩ := sh x List.mem_cons_self
        rw [ex] at h1 n1
        have h1 : H b = some (.tup [.int f, .int (e : Int)]) := h1
        rw [List.map_cons, List.map_cons, kOf_at h1]
        refine ⟨List.nodup_cons.mpr ⟨fun z => ?_, i1⟩, fun z hz => ?_⟩
        · obtain ⟨f', e', ez, m⟩ := i2 _ z
          obtain ⟨rfl, e2⟩ := Prod.mk.inj ez
          obtain rfl : e = e' := by omega
          exact n1 m
        · rcases List.mem_cons.mp hz with rfl | hz
          · exact ⟨f, e, rfl, by rw [List.map_cons, ex]; exact List.mem_cons_self⟩
          · obtain ⟨f', e', ez, m⟩ := i2 _ hz
            exact ⟨f', e', ez, by rw [List.map_cons]; exact List.mem_cons_of_mem _ m⟩
    exact (go hbs sh nd).1
  have ko : (out.map (kOf H)).Nodup := (pm.map (kOf H)).nodup_iff.mpr ks
  refine ⟨_, row_of_vals fun r hr => ?_, ?_, ?_⟩
  · obtain ⟨q, f, e, a, b, _⟩ := vals r hr
    exact ⟨q, f, e, a, b⟩
  · rw [List.pairwise_map]
    rw [List.Nodup, List.pairwise_map] at ko
    refine List.Pairwise.imp_of_mem (fun {a b} ha hb h => ?_) (List.Pairwise.and so ko)
    obtain ⟨q, f, e, rfl, hq, _⟩ := vals a ha
    obtain ⟨q', f', e', rfl, hq', _⟩ := vals b hb
    obtain ⟨h1, h2⟩ := h
    unfold ltP at h1
    rw [kOf_at hq, kOf_at hq'] at h1 h2 ⊢
    have h1 := SrtO.lexB_no.mp h1
    simp only at h1
    show f < f' ∨ (f = f' ∧ (e : Int).toNat < (e' : Int).toNat)
    rcases Int.lt_trichotomy f f' with z | z | z
    · exact .inl z
    · refine .inr ⟨z, ?_⟩
      subst z
      have : e ≠ e' := fun z => h2 (by rw [z])
      omega
    · omega
  · funext f e
    refine propext ⟨fun h => ?_, fun h => ?_⟩
    · obtain ⟨r, hr, er⟩ := List.mem_map.mp h
      obtain ⟨q, f', e', rfl, hq, hs⟩ := vals r hr
      rw [kOf_at hq] at er
      obtain ⟨rfl, rfl⟩ := Prod.mk.inj er
      exact hs
    · obtain ⟨q, hr, hq⟩ := back f e h
      refine List.mem_map.mpr ⟨_, hr, ?_⟩
      rw [kOf_at hq]; rfl

/-! ### rows compared -/
theorem sh_nilR : SeqAt.shaped (.list []) = true := by
  unfold SeqAt.shaped
  simp [PyData.canLay0, PyData.canLayAll0, PyData.depth, PyData.depthAll]
theorem w_neNil {K : PySem.W.Frag} {H : Hp} {Q : VK} {a b : Addr} (ha : H a = some (.lst [])) (hb : H b = some (.lst [])) (q : Q (.bl false) H) : rNeD K (.ref a) (.ref b) H Q := by
  refine w_neDg (.lst (SqL.of ha) .nil) (.lst (SqL.of hb) .nil) sh_nilR sh_nilR ?_
  rw [show PyData.eqv (.list []) (.list []) = true from PySem.SeqAt.eqv_refl _ (by simp [PyData.canLay0, PyData.canLayAll0])]; exact q
abbrev rowD (fl : FL) : PyData := .list (fl.map fun p => PyData.tuple [.int p.1, .int (p.2 : Int)])
theorem row_lay (fl : FL) : (rowD fl).canLay0 = true ∧ (rowD fl).depth ≤ 2 := by
  have h : ∀ fl : FL, PyData.canLayAll0 (fl.map fun p => PyData.tuple [.int p.1, .int (p.2 : Int)]) = true ∧ PyData.depthAll (fl.map fun p => PyData.tuple [.int p.1, .int (p.2 : Int)]) ≤ 1 := fun fl => by
    induction fl with
    | nil => simp [PyData.canLayAll0, PyData.depthAll]
    | cons p fl ih =>
      rw [List.map_cons]
      simp only [PyData.canLay0, PyData.canLayAll0, PyData.depth, PyData.depthAll]
      refine ⟨by simp [ih.1], by have := ih.2; omega⟩
  have g := h fl
  simp only [rowD, PyData.canLay0, PyData.depth]
  exact ⟨g.1, by have := g.2; omega⟩
theorem sh_row (fl : FL) : SeqAt.shaped (rowD fl) = true := by
  unfold SeqAt.shaped
  rw [(row_lay fl).1, Bool.true_and]
  exact decide_eq_true (Nat.le_trans (row_lay fl).2 (by decide))
theorem w_eqRow {K : PySem.W.Frag} {H : Hp} {Q : VK} {a b : Addr} {as bs : List V} {fl : FL} (ha : H a = some (.lst as)) (ra : PRow H as fl) (hb : H b = some (.lst bs)) (rb : PRow H bs fl) (q : Q (.bl true) H) : rEqD K (.ref a) (.ref b) H Q := by
  refine w_eqDg (.lst (SqL.of ha) ra.dp) (.lst (SqL.of hb) rb.dp) (sh_row fl) (sh_row fl) ?_
  rw [show PyData.eqv (.list (fl.map fun p => PyData.tuple [.int p.1, .int (p.2 : Int)])) (.list (fl.map fun p => PyData.tuple [.int p.1, .int (p.2 : Int)])) = true from PySem.SeqAt.eqv_refl _ (row_lay fl).1]; exact q
theorem w_neRow {K : PySem.W.Frag} {H : Hp} {Q : VK} {a b : Addr} {as bs : List V} {fl : FL} (ha : H a = some (.lst as)) (ra : PRow H as fl) (hb : H b = some (.lst bs)) (rb : PRow H bs fl) (q : Q (.bl false) H) : rNeD K (.ref a) (.ref b) H Q := by
  refine w_neDg (.lst (SqL.of ha) ra.dp) (.lst (SqL.of hb) rb.dp) (sh_row fl) (sh_row fl) ?_
  rw [show PyData.eqv (.list (fl.map fun p => PyData.tuple [.int p.1, .int (p.2 : Int)])) (.list (fl.map fun p => PyData.tuple [.int p.1, .int (p.2 : Int)])) = true from PySem.SeqAt.eqv_refl _ (row_lay fl).1]; exact q

theorem PRow.k {H : Hp} {rs : List V} {fl : FL} (r : PRow H rs fl) : ∀ x ∈ rs, ∃ t, x = V.ref t ∧ H t = some (.tup [.int (kOf H x).1, .int (kOf H x).2]) := fun x hx => by
  obtain ⟨i, hi⟩ := List.getElem?_of_mem hx
  obtain ⟨q, f, e, rfl, hq, _⟩ := r.get hi
  refine ⟨q, rfl, ?_⟩
  rw [kOf_at hq]; exact hq
theorem PRow.srtd {H : Hp} {rs : List V} {fl : FL} (r : PRow H rs fl) (s : fl.Pairwise ltF) : SrtO.Srtd (ltP (kOf H)) rs := by
  induction r with
  | nil => exact .nil
  | @cons q f e rs fl hq r ih =>
    obtain ⟨h1, h2⟩ := List.pairwise_cons.mp s
    refine List.pairwise_cons.mpr ⟨fun y hy => ?_, ih h2⟩
    obtain ⟨i, hi⟩ := List.getElem?_of_mem hy
    obtain ⟨q', f', e', rfl, hq', hf⟩ := r.get hi
    have := h1 _ (List.mem_of_getElem? hf)
    unfold ltP
    rw [kOf_at hq, kOf_at hq']
    refine SrtO.lexB_no.mpr ?_
    show ¬ (f' < f ∨ (f' = f ∧ (e' : Int) < (e : Int)))
    have h3 : f < f' ∨ (f = f' ∧ e < e') := this
    omega
theorem w_sortRow {K : PySem.W.Frag} {H : Hp} {Q : VK} {a : Addr} {out : List V} {fl : FL} (h : H a = some (.lst out)) (r : PRow H out fl) (s : fl.Pairwise ltF) (q : ∀ l, H l = none → Q (.ref l) (upd H l (.lst out))) : rSortedPO K [.ref a] H Q :=
  ⟨a, out, kOf H, rfl, SqL.of h, r.k, fun ys l so st hl => by
    rw [SrtO.stb_uniq (ltP_swo _) so (r.srtd s) st]
    exact q l hl⟩

theorem w_sumR {K : PySem.W.Frag} {H : Hp} {Q : VK} {a : Addr} {ns : List Int} (h : H a = some (.lst (ns.map V.int))) (q : Q (.int ns.sum) H) : rSum K [.ref a] H Q := ⟨a, ns, rfl, SqL.of h, q⟩

/-- how many families of a row a number is of -/
def cntF (y : Int) (fl : FL) : Nat := (fl.filter fun p => decide ((y - p.1) % 2 ^ p.2 = 0)).length
theorem cntF_app (y : Int) (fl : FL) (p : Int × Nat) : cntF y (fl ++ [p]) = cntF y fl + if (y - p.1) % 2 ^ p.2 = 0 then 1 else 0 := by
  unfold cntF
  rw [List.filter_append, List.length_append]
  congr 1
  by_cases h : (y - p.1) % 2 ^ p.2 = 0
  · rw [if_pos h]; simp [h]
  · rw [if_neg h]; simp [h]
theorem cntF_one {w : Nat} {fl : FL} (n : NRow w fl) {y : Int} (c : Cover (famL fl) y) : cntF y fl = 1 := by
  obtain ⟨f, e, hm, hd⟩ := c
  have mem : (f, e) ∈ fl.filter fun p => decide ((y - p.1) % 2 ^ p.2 = 0) := List.mem_filter.mpr ⟨hm, decide_eq_true (Int.emod_eq_zero_of_dvd hd)⟩
  have all : ∀ x ∈ fl.filter (fun p => decide ((y - p.1) % 2 ^ p.2 = 0)), x = (f, e) := fun x hx => by
    obtain ⟨h1, h2⟩ := List.mem_filter.mp hx
    obtain ⟨a, b⟩ := n.nrm.ap x.1 x.2 f e y h1 hm (Int.dvd_of_emod_eq_zero (of_decide_eq_true h2)) hd
    exact Prod.ext a b
  have srt := n.srt.sublist (List.filter_sublist (l := fl) (p := fun p => decide ((y - p.1) % 2 ^ p.2 = 0)))
  unfold cntF
  revert mem all srt
  generalize fl.filter (fun p => decide ((y - p.1) % 2 ^ p.2 = 0)) = gl
  intro mem all srt
  match gl with
  | [] => cases mem
  | [x] => rfl
  | x :: z :: gl =>
    have h := (List.pairwise_cons.mp srt).1 z List.mem_cons_self
    rw [all x List.mem_cons_self, all z (by simp)] at h
    rcases h with h | h <;> omega
end Fw
namespace Fw
/-! ### logarithms of powers -/
section
variable {w : Nat} {a c x y : Int}
theorem gex (ha : a % 2 = 1) {v : Nat} (hv : gv w (gIt a c 2 x - x) = v) (hy : (2 : Int) ^ v ∣ y - x) : ∀ i : Nat, i ≤ w - v → ∃ n : Nat, n < 2 ^ i ∧ (2 : Int) ^ (v + i) ∣ y - gIt a c (2 * n) x
  | 0, _ => ⟨0, by decide, hy⟩
  | i + 1, hi => by
    obtain ⟨n, hn, h⟩ := gex ha hv hy i (by omega)
    have vw : v ≤ w := by rw [← hv]; exact gv_le _ _
    by_cases b : (y - gIt a c (2 * n) x) / 2 ^ (v + i) % 2 = 1
    · have g := gvd ha c w i (gIt a c (2 * n) x)
      rw [gv0 ha hv (gorb ha hv n)] at g
      refine ⟨n + 2 ^ i, by rw [Nat.pow_succ]; omega, ?_⟩
      have h3 := gbit1 (E := gIt a c (2 ^ (i + 1)) (gIt a c (2 * n) x) - gIt a c (2 * n) x) h b (by
        have := gv_dvd w (gIt a c (2 ^ (i + 1)) (gIt a c (2 * n) x) - gIt a c (2 * n) x)
        rw [g, show min w (i + v) = v + i by omega] at this; exact this) (fun z => by
        have := (gv_iff w _ (v + i + 1)).mpr ⟨by omega, z⟩
        omega)
      rw [show 2 * (n + 2 ^ i) = 2 * n + 2 ^ (i + 1) by rw [Nat.pow_succ]; omega, gIt_add, show v + (i + 1) = v + i + 1 by omega]
      rw [show y - gIt a c (2 ^ (i + 1)) (gIt a c (2 * n) x) = y - gIt a c (2 * n) x - (gIt a c (2 ^ (i + 1)) (gIt a c (2 * n) x) - gIt a c (2 * n) x) by omega]
      exact h3
    · exact ⟨n, by rw [Nat.pow_succ]; omega, by rw [show v + (i + 1) = v + i + 1 by omega]; exact gbit0 h b⟩
theorem gex2 (ha : a % 2 = 1) {v : Nat} (hv : gv w (gIt a c 2 x - x) = v) (hy : (2 : Int) ^ v ∣ y - x) : ∃ n : Nat, n < 2 ^ (w - v) ∧ (2 : Int) ^ w ∣ gIt a c (2 * n) x - y := by
  obtain ⟨n, hn, h⟩ := gex ha hv hy (w - v) (Nat.le_refl _)
  have vw : v ≤ w := by rw [← hv]; exact gv_le _ _
  rw [show v + (w - v) = w by omega] at h
  exact ⟨n, hn, gdvS h⟩
theorem LsR.of_hit {n : Nat} (h : (2 : Int) ^ w ∣ gIt a c n x - y) {o : Option Nat} (l : LsR w a c x y o) : ∃ k, o = some k ∧ k ≤ n ∧ (2 : Int) ^ w ∣ gIt a c k x - y := by
  rcases l with ⟨_, g⟩ | ⟨k, e, g1, g2⟩
  · exact absurd h (g n)
  · exact ⟨k, e, Nat.le_of_not_lt fun z => g2 n z h, g1⟩
end
theorem gIt_pow (a : Int) : ∀ (n : Nat) (x : Int), gIt a 0 n x = a ^ n * x
  | 0, x => by rw [Int.pow_zero, Int.one_mul]; rfl
  | n + 1, x => by
    show a * gIt a 0 n x + 0 = _
    rw [gIt_pow a n x, Int.pow_succ, Int.add_zero, Int.mul_comm (a ^ n) a, Int.mul_assoc]
theorem gIt_lin (c x : Int) : ∀ n : Nat, gIt 1 c n x = x + n * c
  | 0 => by show x = x + 0 * c; omega
  | n + 1 => by
    show 1 * gIt 1 c n x + c = _
    rw [gIt_lin c x n, Int.natCast_succ, Int.add_mul]; omega
/-- powers of 5 and of 3 -/
theorem known {w : Nat} (hw : 4 ≤ w) {a n : Int} (ha : a = 5 ∨ a = 3) {o : Option Nat} (l : LsR w a 0 1 n o) : (o.isSome = true ↔ (n % 8 = 1 ∨ n % 8 = a)) ∧ ∀ k, o = some k → k < 2 ^ (w - 2) := by
  have ao : a % 2 = 1 := by rcases ha with rfl | rfl <;> rfl
  have g1 : gv w (gIt a 0 2 1 - 1) = 3 := by
    rcases ha with rfl | rfl
    · exact gv_val (j := 3) (a := 1) (by decide) (by omega)
    · exact gv_val (j := 3) (a := 0) (by decide) (by omega)
  have g2 : gv w (gIt a 0 2 a - a) = 3 := by
    rcases ha with rfl | rfl
    · exact gv_val (j := 3) (a := 7) (by decide) (by omega)
    · exact gv_val (j := 3) (a := 1) (by decide) (by omega)
  have p2w : 2 ^ (w - 2) = 2 * 2 ^ (w - 3) := by
    rw [show w - 2 = (w - 3) + 1 by omega, Nat.pow_succ]; omega
  have hit : (n % 8 = 1 ∨ n % 8 = a) → ∃ m, m < 2 ^ (w - 2) ∧ (2 : Int) ^ w ∣ gIt a 0 m 1 - n := fun h => by
    rcases h with h | h
    · obtain ⟨m, hm, e⟩ := gex2 ao g1 (y := n) ⟨(n - 1) / 8, by rw [show (2 : Int) ^ 3 = 8 from rfl]; omega⟩
      exact ⟨2 * m, by omega, e⟩
    · obtain ⟨m, hm, e⟩ := gex2 ao g2 (y := n) ⟨(n - a) / 8, by rw [show (2 : Int) ^ 3 = 8 from rfl]; rcases ha with rfl | rfl <;> omega⟩
      refine ⟨1 + 2 * m, by omega, ?_⟩
      rw [gIt_add, show gIt a 0 1 1 = a by rw [gIt_one]; omega]; exact e
  have back : ∀ m : Nat, (2 : Int) ^ w ∣ gIt a 0 m 1 - n → (n % 8 = 1 ∨ n % 8 = a) := fun m h => by
    have h8 : (8 : Int) ∣ gIt a 0 m 1 - n := Int.dvd_trans (gpp (show 3 ≤ w by omega)) h
    have key : ∀ m : Nat, gIt a 0 m 1 % 8 = 1 ∨ gIt a 0 m 1 % 8 = a := fun m => by
      induction m with
      | zero => exact .inl rfl
      | succ m ih =>
        show (a * gIt a 0 m 1 + 0) % 8 = 1 ∨ (a * gIt a 0 m 1 + 0) % 8 = a
        rcases ha with rfl | rfl <;> omega
    have := key m
    have := Int.emod_eq_zero_of_dvd h8
    omega
  constructor
  · constructor
    · intro h
      rcases l with ⟨rfl, _⟩ | ⟨k, rfl, g, _⟩
      · cases h
      · exact back k g
    · intro h
      obtain ⟨m, _, e⟩ := hit h
      obtain ⟨k, rfl, _⟩ := l.of_hit e
      rfl
  · rintro k rfl
    have h0 := l.get
    obtain ⟨m, hm, e⟩ := hit (back k h0.1)
    have := h0.2 m
    exact Nat.lt_of_not_le fun z => h0.2 m (by omega) e
/-- steps of an addend -/
theorem addend {w : Nat} {c d x y : Int} (hd : (2 : Int) ^ w ∣ c * d - 1) {o : Option Nat} {l : Nat} (h : LsR w 1 c x y o) : ∃ n : Nat, o = some n ∧ (n : Int) = d * (y - x) % 2 ^ w := by
  have hp := gpos w
  have r0 := Int.emod_nonneg (d * (y - x)) (Int.ne_of_gt hp)
  have r1 := Int.emod_lt_of_pos (d * (y - x)) hp
  obtain ⟨k, hk⟩ := Int.eq_ofNat_of_zero_le r0
  have hit : (2 : Int) ^ w ∣ gIt 1 c k x - y := by
    rw [gIt_lin, ← hk]
    have e1 : (2 : Int) ^ w ∣ d * (y - x) % 2 ^ w - d * (y - x) := Int.dvd_emod_sub_self
    have e2 := Int.dvd_mul_of_dvd_left (c := c) e1
    have e3 := Int.dvd_mul_of_dvd_left (c := y - x) hd
    rw [show x + d * (y - x) % 2 ^ w * c - y = (d * (y - x) % 2 ^ w - d * (y - x)) * c + (c * d - 1) * (y - x) by
      rw [Int.sub_mul, Int.sub_mul, Int.one_mul, Int.mul_comm (d * (y - x)) c, ← Int.mul_assoc]; omega]
    exact Int.dvd_add e2 e3
  obtain ⟨n, rfl, nk, hn⟩ := h.of_hit hit
  refine ⟨n, rfl, ?_⟩
  have u : (2 : Int) ^ w ∣ ((n : Int) - k) * c := by
    have := gdvT hn (gdvS hit)
    rw [gIt_lin, gIt_lin] at this
    rw [show x + (n : Int) * c - (x + (k : Int) * c) = ((n : Int) - k) * c by rw [Int.sub_mul]; omega] at this
    exact this
  have u2 : (2 : Int) ^ w ∣ (n : Int) - k := by
    have e1 := Int.dvd_mul_of_dvd_left (c := d) u
    have e2 := Int.dvd_mul_of_dvd_right (b := (n : Int) - k) hd
    rw [show (n : Int) - k = ((n : Int) - k) * c * d - ((n : Int) - k) * (c * d - 1) by rw [Int.mul_sub, Int.mul_one, Int.mul_assoc]; omega]
    exact Int.dvd_sub e1 e2
  have m := gmd.mpr u2
  rw [Int.emod_eq_of_lt (by omega) (by omega), Int.emod_eq_of_lt (by omega) (by omega)] at m
  omega
theorem addend_per {w : Nat} {c d x y : Int} (hd : (2 : Int) ^ w ∣ c * d - 1) {l : Nat} (h : PerR w 1 c x y l) : l = 2 ^ w := by
  obtain ⟨i, rfl, iw, h1, h2⟩ := h.1 rfl
  have e : (2 : Int) ^ w ∣ (2 : Int) ^ i := by
    rw [gIt_lin, Int.natCast_pow] at h1
    have h1 : (2 : Int) ^ w ∣ x + (2 : Int) ^ i * c - x := h1
    have e1 := Int.dvd_mul_of_dvd_left (c := d) h1
    have e2 := Int.dvd_mul_of_dvd_right (b := (2 : Int) ^ i) hd
    rw [show (2 : Int) ^ i = (x + 2 ^ i * c - x) * d - 2 ^ i * (c * d - 1) by
      rw [show x + (2 : Int) ^ i * c - x = 2 ^ i * c by omega, Int.mul_sub, Int.mul_one, Int.mul_assoc]; omega]
    exact Int.dvd_sub e1 e2
  have := gv_full.mp e
  have e3 : gv w ((2 : Int) ^ i) = i := gv_val (a := 0) (by omega) iw
  rw [show w = i by omega]
section
variable {w : Nat} {a c z x y x' y' : Int}
/-- about the value that stays -/
theorem about (hz : (2 : Int) ^ w ∣ a * z + c - z) : ∀ (n : Nat) (u : Int), (2 : Int) ^ w ∣ gIt a c n u - (gIt a 0 n (u - z) + z)
  | 0, u => by show (2 : Int) ^ w ∣ u - (u - z + z); rw [show u - (u - z + z) = 0 by omega]; exact Int.dvd_zero _
  | n + 1, u => by
    have ih := about hz n u
    show (2 : Int) ^ w ∣ a * gIt a c n u + c - (a * gIt a 0 n (u - z) + 0 + z)
    have e := Int.dvd_mul_of_dvd_right (b := a) ih
    rw [show a * gIt a c n u + c - (a * gIt a 0 n (u - z) + 0 + z) = a * (gIt a c n u - (gIt a 0 n (u - z) + z)) + (a * z + c - z) by
      rw [Int.mul_sub, Int.mul_add]; omega]
    exact Int.dvd_add e hz
theorem about_hit (hz : (2 : Int) ^ w ∣ a * z + c - z) (hx : (2 : Int) ^ w ∣ x' - (x - z)) (hy : (2 : Int) ^ w ∣ y' - (y - z)) (n : Nat) : (2 : Int) ^ w ∣ gIt a c n x - y ↔ (2 : Int) ^ w ∣ gIt a 0 n x' - y' := by
  have e1 := about hz n x
  have e2 := gIt_congx (a := a) (c := 0) n hx
  have key : (2 : Int) ^ w ∣ (gIt a c n x - y) - (gIt a 0 n x' - y') := by
    rw [show gIt a c n x - y - (gIt a 0 n x' - y') = (gIt a c n x - (gIt a 0 n (x - z) + z)) - (gIt a 0 n x' - gIt a 0 n (x - z)) + (y' - (y - z)) by omega]
    exact Int.dvd_add (Int.dvd_sub e1 e2) hy
  constructor
  · intro h
    rw [show gIt a 0 n x' - y' = (gIt a c n x - y) - ((gIt a c n x - y) - (gIt a 0 n x' - y')) by omega]
    exact Int.dvd_sub h key
  · intro h
    rw [show gIt a c n x - y = (gIt a 0 n x' - y') + ((gIt a c n x - y) - (gIt a 0 n x' - y')) by omega]
    exact Int.dvd_add h key
theorem LsR.about (hz : (2 : Int) ^ w ∣ a * z + c - z) (hx : (2 : Int) ^ w ∣ x' - (x - z)) (hy : (2 : Int) ^ w ∣ y' - (y - z)) {o : Option Nat} (h : LsR w a c x y o) : LsR w a 0 x' y' o := by
  have q := about_hit hz hx hy
  rcases h with ⟨e, h⟩ | ⟨n, e, h1, h2⟩
  · exact .inl ⟨e, fun n g => h n ((q n).mpr g)⟩
  · exact .inr ⟨n, e, (q n).mp h1, fun m hm g => h2 m hm ((q m).mpr g)⟩
theorem PerR.about (hz : (2 : Int) ^ w ∣ a * z + c - z) (hx : (2 : Int) ^ w ∣ x' - (x - z)) (hy : (2 : Int) ^ w ∣ y' - (y - z)) {l : Nat} (h : PerR w a c x y l) : PerR w a 0 x' y' l := by
  have q := about_hit hz hx hx
  have q1 := about_hit hz hy hy 1
  refine ⟨fun e => ?_, fun e => ?_⟩
  · obtain ⟨i, e1, iw, h1, h2⟩ := h.1 e
    exact ⟨i, e1, iw, (q _).mp h1, fun j hj g => h2 j hj ((q _).mpr g)⟩
  · obtain ⟨h1, h2⟩ := h.2 e
    exact ⟨fun g => h1 (q1.mpr g), fun g => h2 fun z => g (q1.mp z)⟩
end
/-- numbers of steps that lead to the same value -/
theorem same_mod {w : Nat} {g y : Int} (go : g % 2 = 1) {i n m : Nat} (h1 : (2 : Int) ^ w ∣ gIt g 0 (2 ^ i) 1 - 1) (h2 : ∀ j, j < i → ¬ (2 : Int) ^ w ∣ gIt g 0 (2 ^ j) 1 - 1) (hn : (2 : Int) ^ w ∣ g ^ n - y) (hm : (2 : Int) ^ w ∣ g ^ m - y) : (2 : Int) ^ i ∣ (n : Int) - m := by
  have key : ∀ {n m : Nat}, n ≤ m → (2 : Int) ^ w ∣ g ^ m - g ^ n → (2 : Int) ^ i ∣ (m : Int) - n := fun {n m} nm h => by
    have e : ∀ k, gIt g 0 k 1 = g ^ k := fun k => by rw [gIt_pow, Int.mul_one]
    rw [← e, ← e] at h
    have d := (gper_dvd go h1 h2).mp ((gsame go nm).mp h)
    have := Int.ofNat_dvd.mpr d
    rw [Int.natCast_pow] at this
    rw [show (m : Int) - n = ((m - n : Nat) : Int) by omega]; exact this
  have d := gdvT hn (gdvS hm)
  rcases Nat.le_total n m with z | z
  · exact gdvS (key z (gdvS d))
  · exact key z d
end Fw
namespace Fw
/-- z is on the ring on which s is -/
def OnR (w : Nat) (a c s z : Int) : Prop := ∃ n : Nat, (2 : Int) ^ w ∣ gIt a c n s - z
theorem gv_on {a c s : Int} (ha : a % 2 = 1) {w v : Nat} (hv : gv w (gIt a c 2 s - s) = v) : gv w (gIt a c 2 (gIt a c 1 s) - gIt a c 1 s) = v := by
  have e : gIt a c 2 (gIt a c 1 s) - gIt a c 1 s = a * (gIt a c 2 s - s) := by
    rw [← gIt_add a c 1 2 s, show 1 + 2 = 2 + 1 from rfl, gIt_add a c 2 1 s, gIt_sub, Int.pow_one]
  rw [e, gv_mul, gv_odd ha, hv]
  have := gv_le w (gIt a c 2 s - s)
  omega
theorem onR_odd {a c s : Int} (ha : a % 2 = 1) {w v : Nat} (hv : gv w (gIt a c 2 s - s) = v) (z : Int) : OnR w a c s z ↔ (2 : Int) ^ v ∣ z - s ∨ (2 : Int) ^ v ∣ z - gIt a c 1 s := by
  have vw : v ≤ w := by rw [← hv]; exact gv_le _ _
  constructor
  · rintro ⟨n, hn⟩
    have hn' := Int.dvd_trans (gpp vw) hn
    rcases Nat.mod_two_eq_zero_or_one n with e | e
    · obtain ⟨m, rfl⟩ : ∃ m, n = 2 * m := ⟨n / 2, by omega⟩
      exact .inl (gdvT (gdvS hn') (gorb ha hv m))
    · obtain ⟨m, rfl⟩ : ∃ m, n = 1 + 2 * m := ⟨n / 2, by omega⟩
      rw [gIt_add] at hn'
      exact .inr (gdvT (gdvS hn') (gorb ha (gv_on ha hv) m))
  · rintro (h | h)
    · obtain ⟨n, _, hn⟩ := gex2 ha hv h
      exact ⟨_, hn⟩
    · obtain ⟨n, _, hn⟩ := gex2 ha (gv_on ha hv) h
      exact ⟨1 + 2 * n, by rw [gIt_add]; exact hn⟩
theorem gIt_fix {w : Nat} {a c s : Int} (h : (2 : Int) ^ w ∣ gIt a c 1 s - s) : ∀ n : Nat, (2 : Int) ^ w ∣ gIt a c n s - s
  | 0 => gdv0
  | n + 1 => by
    have := gper_mul h (n + 1)
    rw [Nat.one_mul] at this; exact this
theorem onR_fix {w : Nat} {a c s : Int} (h : (2 : Int) ^ w ∣ gIt a c 1 s - s) (z : Int) : OnR w a c s z ↔ (2 : Int) ^ w ∣ z - s := by
  constructor
  · rintro ⟨n, hn⟩
    exact gdvT (gdvS hn) (gIt_fix h n)
  · exact fun h => ⟨0, gdvS h⟩
/-- the two families of a ring -/
theorem onR_iff {a c s : Int} {w v : Nat} (hv : gv w (gIt a c 2 s - s) = v) (h : a % 2 = 1 ∨ (2 : Int) ^ w ∣ gIt a c 1 s - s) (z : Int) : OnR w a c s z ↔ (2 : Int) ^ v ∣ z - s ∨ (2 : Int) ^ v ∣ z - gIt a c 1 s := by
  rcases h with h | h
  · exact onR_odd h hv z
  · have e : v = w := by rw [← hv]; exact gv_full.mp (gIt_fix h 2)
    subst e
    rw [onR_fix h]
    exact ⟨.inl, fun g => g.elim id fun g => gdvT g h⟩
theorem OnR.cong {w : Nat} {a c s s' z : Int} (h : (2 : Int) ^ w ∣ s - s') : OnR w a c s z ↔ OnR w a c s' z := ⟨fun ⟨n, g⟩ => ⟨n, gdvT (gIt_congx n (gdvS h)) g⟩, fun ⟨n, g⟩ => ⟨n, gdvT (gIt_congx n h) g⟩⟩
abbrev twoF (v : Nat) (f g : Int) : Fam := fun h e => e = v ∧ (h = f ∨ h = g)
theorem twoF_cover {v : Nat} {f g x : Int} : Cover (twoF v f g) x ↔ (2 : Int) ^ v ∣ x - f ∨ (2 : Int) ^ v ∣ x - g := by
  constructor
  · rintro ⟨h, e, ⟨rfl, rfl | rfl⟩, d⟩
    · exact .inl d
    · exact .inr d
  · rintro (d | d)
    · exact ⟨f, v, ⟨rfl, .inl rfl⟩, d⟩
    · exact ⟨g, v, ⟨rfl, .inr rfl⟩, d⟩
theorem twoF_wf {w v : Nat} {f g : Int} (h : v ≤ w) (f0 : 0 ≤ f) (f1 : f < 2 ^ v) (g0 : 0 ≤ g) (g1 : g < 2 ^ v) : WfF w (twoF v f g) := by
  rintro h e ⟨rfl, rfl | rfl⟩
  · exact ⟨f0, f1, h⟩
  · exact ⟨g0, g1, h⟩
theorem twoF_apart {v : Nat} {f g : Int} (f0 : 0 ≤ f) (f1 : f < 2 ^ v) (g0 : 0 ≤ g) (g1 : g < 2 ^ v) : Apart (twoF v f g) := by
  rintro a e b d x ⟨rfl, ha⟩ ⟨rfl, hb⟩ h1 h2
  have ab : (2 : Int) ^ d ∣ a - b := gdvT (gdvS h1) h2
  refine ⟨res_eq ?_ ?_ ?_ ?_ ab, rfl⟩ <;> rcases ha with rfl | rfl <;> rcases hb with rfl | rfl <;> assumption

/-! ### how many values stay after so many steps -/
theorem gcd_two : ∀ (w : Nat) (x : Int), Nat.gcd x.natAbs (2 ^ w) = 2 ^ gv w x
  | 0, x => by
    show Nat.gcd x.natAbs 1 = 1
    exact Nat.gcd_one_right _
  | w + 1, x => by
    show _ = 2 ^ (if x % 2 = 0 then gv w (x / 2) + 1 else 0)
    by_cases h : x % 2 = 0
    · rw [if_pos h, Nat.pow_succ, Nat.pow_succ, ← gcd_two w (x / 2), show x.natAbs = (x / 2).natAbs * 2 by omega, Nat.gcd_mul_right]
    · rw [if_neg h, Nat.pow_zero]
      have c2 : Nat.Coprime x.natAbs 2 := by
        show Nat.gcd x.natAbs 2 = 1
        rw [Nat.gcd_comm, Nat.gcd_rec, show x.natAbs % 2 = 1 by omega]
        decide
      exact Nat.Coprime.pow_right (w + 1) c2
/-- the values, of 2 ** w, that stay after 2 ** i steps -/
def Uc (w : Nat) (a c : Int) (i : Nat) : Nat := if (2 : Int) ^ gv w (a ^ (2 ^ i) - 1) ∣ gIt a c (2 ^ i) 0 then 2 ^ gv w (a ^ (2 ^ i) - 1) else 0
theorem gIt_aff (a c : Int) (n : Nat) (y : Int) : gIt a c n y = a ^ n * y + gIt a c n 0 := by
  have := gIt_sub a c n y 0
  rw [Int.sub_zero] at this
  omega
theorem gRep_coef {S a c p q : Int} {n : Nat} (h : gRep S a c p q n) : S ∣ p - a ^ n ∧ S ∣ q - gIt a c n 0 := by
  have h0 := h 0
  have h1 := h 1
  rw [Int.mul_zero, Int.zero_add] at h0
  rw [Int.mul_one, gIt_aff a c n 1, Int.mul_one] at h1
  refine ⟨?_, h0⟩
  have := Int.dvd_sub h1 h0
  rw [show p + q - (a ^ n + gIt a c n 0) - (q - gIt a c n 0) = p - a ^ n by omega] at this
  exact this
theorem Uc_rep {w i : Nat} {a c p q : Int} (h : gRep (2 ^ w) a c p q (2 ^ i)) : Uc w a c i = if (2 : Int) ^ gv w (p - 1) ∣ q then 2 ^ gv w (p - 1) else 0 := by
  obtain ⟨h1, h2⟩ := gRep_coef h
  have e : gv w (p - 1) = gv w (a ^ (2 ^ i) - 1) := gv_cong (by rw [show p - 1 - (a ^ (2 ^ i) - 1) = p - a ^ (2 ^ i) by omega]; exact h1)
  unfold Uc
  rw [e]
  have d := Int.dvd_trans (gpp (gv_le w (a ^ (2 ^ i) - 1))) h2
  by_cases z : (2 : Int) ^ gv w (a ^ (2 ^ i) - 1) ∣ q
  · rw [if_pos z, if_pos]
    rw [show gIt a c (2 ^ i) 0 = q - (q - gIt a c (2 ^ i) 0) by omega]
    exact Int.dvd_sub z d
  · rw [if_neg z, if_neg fun y => z ?_]
    rw [show q = (q - gIt a c (2 ^ i) 0) + gIt a c (2 ^ i) 0 by omega]
    exact Int.dvd_add d y
section
variable {w : Nat} {a c : Int}
theorem od_two (ha : a % 2 = 1) : ∀ i : Nat, (2 : Int) ^ (i + 1) ∣ a ^ (2 ^ i) - 1
  | 0 => by
    rw [Nat.pow_zero, Int.pow_one]
    exact ⟨(a - 1) / 2, by show a ^ 1 - 1 = 2 * ((a - 1) / 2); rw [Int.pow_succ, Int.pow_zero, Int.one_mul]; omega⟩
  | i + 1 => by
    obtain ⟨k, hk⟩ := od_two ha i
    have e : a ^ (2 ^ (i + 1)) - 1 = (a ^ (2 ^ i) - 1) * (a ^ (2 ^ i) + 1) := by
      rw [show 2 ^ (i + 1) = 2 ^ i + 2 ^ i by rw [Nat.pow_succ]; omega, Int.pow_add, Int.mul_add, Int.mul_one, Int.sub_mul, Int.one_mul]
      omega
    have o := god_pow ha (2 ^ i)
    refine ⟨k * ((a ^ (2 ^ i) + 1) / 2), ?_⟩
    rw [e, g2S (i + 1), hk, Int.mul_comm 2 (2 ^ (i + 1)), Int.mul_assoc, Int.mul_assoc]
    congr 1
    rw [Int.mul_left_comm]
    congr 1
    omega
theorem Uc_exp (ha : a % 2 = 1) (i : Nat) : min w (i + 1) ≤ gv w (a ^ (2 ^ i) - 1) := (gv_iff _ _ _).mpr ⟨by omega, Int.dvd_trans (gpp (by omega)) (od_two ha i)⟩
theorem Uc_dvd (ha : a % 2 = 1) {i j : Nat} (hj : j ≤ i + 1) (hw : j ≤ w) : 2 ^ j ∣ Uc w a c i := by
  unfold Uc
  split
  · exact Nat.pow_dvd_pow 2 (Nat.le_trans (by omega) (Uc_exp (w := w) ha i))
  · exact Nat.dvd_zero _
theorem pw_two (i : Nat) : a ^ (2 ^ (i + 1)) - 1 = (a ^ (2 ^ i) - 1) * (a ^ (2 ^ i) + 1) := by
  rw [show 2 ^ (i + 1) = 2 ^ i + 2 ^ i by rw [Nat.pow_succ]; omega, Int.pow_add, Int.mul_add, Int.mul_one, Int.sub_mul, Int.one_mul]
  omega
theorem it_two (i : Nat) (y : Int) : gIt a c (2 ^ (i + 1)) y - y = (a ^ (2 ^ i) + 1) * (gIt a c (2 ^ i) y - y) := by
  rw [show 2 ^ (i + 1) = 2 ^ i + 2 ^ i by rw [Nat.pow_succ]; omega, gIt_add]
  have := gIt_sub a c (2 ^ i) (gIt a c (2 ^ i) y) y
  rw [Int.add_mul, Int.one_mul, ← this]; omega
theorem Uc_le (i : Nat) : Uc w a c i ≤ Uc w a c (i + 1) := by
  by_cases h : (2 : Int) ^ gv w (a ^ (2 ^ i) - 1) ∣ gIt a c (2 ^ i) 0
  · have e1 : gv w (a ^ (2 ^ (i + 1)) - 1) = min w (gv w (a ^ (2 ^ i) - 1) + gv w (a ^ (2 ^ i) + 1)) := by rw [pw_two, gv_mul]
    have e2 : gIt a c (2 ^ (i + 1)) 0 = (a ^ (2 ^ i) + 1) * gIt a c (2 ^ i) 0 := by
      have := it_two (a := a) (c := c) i 0
      rw [Int.sub_zero, Int.sub_zero] at this; exact this
    have l0 := gv_le w (a ^ (2 ^ i) - 1)
    have l1 : gv w (a ^ (2 ^ i) - 1) ≤ gv w (gIt a c (2 ^ i) 0) := (gv_iff _ _ _).mpr ⟨l0, h⟩
    unfold Uc
    rw [if_pos h, if_pos]
    · exact Nat.pow_le_pow_right (by decide) (by rw [e1]; omega)
    · rw [e2, e1]
      refine ((gv_iff w _ _).mp ?_).2
      rw [gv_mul]; omega
  · unfold Uc
    rw [if_neg h]; exact Nat.zero_le _
theorem Uc_pos {i : Nat} {y : Int} (h : (2 : Int) ^ w ∣ gIt a c (2 ^ i) y - y) : Uc w a c i = 2 ^ gv w (a ^ (2 ^ i) - 1) := by
  unfold Uc
  rw [if_pos]
  have e : gIt a c (2 ^ i) 0 = (gIt a c (2 ^ i) y - y) - (a ^ (2 ^ i) - 1) * y := by
    have := gIt_aff a c (2 ^ i) y
    rw [Int.sub_mul, Int.one_mul]; omega
  rw [e]
  exact Int.dvd_sub (Int.dvd_trans (gpp (gv_le _ _)) h) (Int.dvd_trans (gv_dvd _ _) (Int.dvd_mul_right _ _))
theorem Uc_lt (ha : a % 2 = 1) {i : Nat} {y : Int} (h : (2 : Int) ^ w ∣ gIt a c (2 ^ (i + 1)) y - y) (n : ¬ (2 : Int) ^ w ∣ gIt a c (2 ^ i) y - y) : Uc w a c i < Uc w a c (i + 1) := by
  rw [Uc_pos h]
  by_cases z : (2 : Int) ^ gv w (a ^ (2 ^ i) - 1) ∣ gIt a c (2 ^ i) 0
  · have e1 : gv w (a ^ (2 ^ (i + 1)) - 1) = min w (gv w (a ^ (2 ^ i) - 1) + gv w (a ^ (2 ^ i) + 1)) := by rw [pw_two, gv_mul]
    have l0 := gv_le w (a ^ (2 ^ i) - 1)
    have w1 : 1 ≤ w := by
      refine Nat.pos_of_ne_zero fun z => n ?_
      rw [z, Int.pow_zero]; exact Int.one_dvd _
    have l2 : 1 ≤ gv w (a ^ (2 ^ i) + 1) := (gv_iff _ _ _).mpr ⟨w1, Int.dvd_of_emod_eq_zero (by have := god_pow ha (2 ^ i); rw [Int.pow_one]; omega)⟩
    have ne : gv w (a ^ (2 ^ i) - 1) ≠ w := fun e => n (by
      rw [gIt_aff, show a ^ (2 ^ i) * y + gIt a c (2 ^ i) 0 - y = (a ^ (2 ^ i) - 1) * y + gIt a c (2 ^ i) 0 by rw [Int.sub_mul, Int.one_mul]; omega]
      rw [e] at z
      exact Int.dvd_add (Int.dvd_trans (gv_full.mpr e) (Int.dvd_mul_right _ _)) z)
    rw [show Uc w a c i = 2 ^ gv w (a ^ (2 ^ i) - 1) by unfold Uc; rw [if_pos z]]
    exact Nat.pow_lt_pow_right (by decide) (by rw [e1]; omega)
  · rw [show Uc w a c i = 0 by unfold Uc; rw [if_neg z]]
    exact Nat.two_pow_pos _
theorem Uc_full (ha : a % 2 = 1) : Uc w a c w = 2 ^ w := by
  rw [Uc_pos (gIt_full ha c w 0)]
  have h1 := Uc_exp (w := w) ha w
  have h2 := gv_le w (a ^ (2 ^ w) - 1)
  congr 1; omega
theorem gpow_odd0 (ha : a % 2 = 0) : ∀ n : Nat, 1 ≤ n → a ^ n % 2 = 0 := fun n hn => by
  obtain ⟨m, rfl⟩ : ∃ m, n = m + 1 := ⟨n - 1, by omega⟩
  rw [Int.pow_succ, Int.mul_emod, ha, Int.mul_zero, Int.zero_emod]
theorem Uc_even (ha : a % 2 = 0) (i : Nat) : Uc w a c i = 1 := by
  have g : gv w (a ^ (2 ^ i) - 1) = 0 := gv_odd (by have := gpow_odd0 ha (2 ^ i) Nat.one_le_two_pow; omega)
  unfold Uc
  rw [g, Int.pow_zero, if_pos (Int.one_dvd _)]
/-! ### lengths of rings -/
def prevU (U : Nat → Nat) : Nat → Nat
  | 0 => 0
  | i + 1 => U i
/-- the lengths of rings, with the number of these, below 2 ** n -/
def rlR (U : Nat → Nat) : Nat → FL
  | 0 => []
  | n + 1 => rlR U n ++ (if prevU U n < U n then [((2 : Int) ^ n, (U n - prevU U n) / 2 ^ n)] else [])
theorem rlR_mem {U : Nat → Nat} {x : Int × Nat} : ∀ {n : Nat}, x ∈ rlR U n → ∃ i, i < n ∧ prevU U i < U i ∧ x = ((2 : Int) ^ i, (U i - prevU U i) / 2 ^ i)
  | n + 1, h => by
    rcases List.mem_append.mp h with h | h
    · obtain ⟨i, hi, e⟩ := rlR_mem h
      exact ⟨i, by omega, e⟩
    · split at h
      · rename_i z
        exact ⟨n, by omega, z, List.mem_singleton.mp h⟩
      · cases h
theorem rlR_has {U : Nat → Nat} {i : Nat} (h : prevU U i < U i) : ∀ {n : Nat}, i < n → ((2 : Int) ^ i, (U i - prevU U i) / 2 ^ i) ∈ rlR U n
  | n + 1, hn => by
    refine List.mem_append.mpr ?_
    by_cases z : i = n
    · subst z
      rw [if_pos h]; exact .inr (List.mem_singleton.mpr rfl)
    · exact .inl (rlR_has h (by omega))
theorem rlR_len {U : Nat → Nat} : ∀ n, (rlR U n).length ≤ n
  | 0 => Nat.le_refl _
  | n + 1 => by
    show (rlR U n ++ _).length ≤ n + 1
    have := rlR_len (U := U) n
    rw [List.length_append]
    split
    · rw [List.length_singleton]; omega
    · rw [List.length_nil]; omega
theorem rlR_srt {U : Nat → Nat} : ∀ n, (rlR U n).Pairwise (fun x y => x.1 < y.1)
  | 0 => .nil
  | n + 1 => by
    refine List.pairwise_append.mpr ⟨rlR_srt n, ?_, fun x hx y hy => ?_⟩
    · split
      · exact List.pairwise_singleton _ _
      · exact .nil
    · obtain ⟨i, hi, _, rfl⟩ := rlR_mem hx
      split at hy
      · rw [List.mem_singleton.mp hy]
        have := Nat.pow_lt_pow_right (a := 2) (by decide) hi
        show (2 : Int) ^ i < 2 ^ n
        exact_mod_cast this
      · cases hy
theorem rlR_sum {U : Nat → Nat} (mono : ∀ i, U i ≤ U (i + 1)) {w : Nat} (dv : ∀ i, i ≤ w → 2 ^ i ∣ U i ∧ 2 ^ i ∣ prevU U i) : ∀ n, n ≤ w + 1 → ((rlR U n).map fun x => x.1 * (x.2 : Int)).sum = (prevU U n : Nat)
  | 0, _ => rfl
  | n + 1, hn => by
    show ((rlR U n ++ _).map _).sum = ((U n : Nat) : Int)
    rw [List.map_append, List.sum_append, rlR_sum mono dv n (by omega)]
    have pm : prevU U n ≤ U n := by
      cases n with
      | zero => exact Nat.zero_le _
      | succ n => exact mono n
    obtain ⟨d1, d2⟩ := dv n (by omega)
    split
    · have e := Nat.mul_div_cancel' (Nat.dvd_sub d1 d2)
      have e' : (2 : Int) ^ n * (((U n - prevU U n) / 2 ^ n : Nat) : Int) = ((U n - prevU U n : Nat) : Int) := by
        conv => rhs; rw [← e]
        rw [Int.natCast_mul, Int.natCast_pow]; rfl
      simp only [List.map_cons, List.map_nil, List.sum_cons, List.sum_nil]
      rw [e']; omega
    · rename_i z
      simp only [List.map_nil, List.sum_nil]
      omega
/-- all lengths times their numbers -/
theorem rl_total (w : Nat) (a c : Int) (w1 : 1 ≤ w) : ((rlR (Uc w a c) (w + 1)).map fun x => x.1 * (x.2 : Int)).sum = if a % 2 = 1 then 2 ^ w else 1 := by
  rcases Int.emod_two_eq a with ha | ha
  · rw [if_neg (by omega)]
    have one : ∀ n, rlR (Uc w a c) (n + 1) = [(1, 1)] := fun n => by
      induction n with
      | zero =>
        show [] ++ (if prevU (Uc w a c) 0 < Uc w a c 0 then [((2 : Int) ^ 0, (Uc w a c 0 - prevU (Uc w a c) 0) / 2 ^ 0)] else []) = _
        rw [show prevU (Uc w a c) 0 = 0 from rfl, Uc_even ha]; decide
      | succ n ih =>
        show rlR (Uc w a c) (n + 1) ++ (if Uc w a c n < Uc w a c (n + 1) then _ else []) = _
        rw [ih, Uc_even ha, Uc_even ha]; rfl
    rw [one]; rfl
  · rw [if_pos ha, rlR_sum Uc_le (w := w) (fun i hi => ⟨Uc_dvd ha (by omega) hi, ?_⟩) (w + 1) (Nat.le_refl _)]
    · show ((Uc w a c w : Nat) : Int) = _
      rw [Uc_full ha, Int.natCast_pow]; rfl
    · cases i with
      | zero => exact Nat.dvd_zero _
      | succ i => exact Uc_dvd ha (by omega) hi
end

/-! ### the one or two families of a ring -/
abbrev flSize (w : Nat) (fl : FL) : List Int := fl.map fun p => (2 : Int) ^ (w - p.2)
theorem two_lt {w v : Nat} {f g : Int} (vw : v ≤ w) (f0 : 0 ≤ f) (g1 : g < 2 ^ v) (lt : f < g) : ∃ fl, NRow w fl ∧ (∀ x, Cover (famL fl) x ↔ (2 : Int) ^ v ∣ x - f ∨ (2 : Int) ^ v ∣ x - g) ∧ fl.length ≤ 2 ∧ (flSize w fl).sum = 2 * 2 ^ (w - v) := by
  have v1 : 1 ≤ v := by
    refine Nat.pos_of_ne_zero fun z => ?_
    rw [z, Int.pow_zero] at g1; omega
  have e : (2 : Int) ^ v = 2 ^ (v - 1) * 2 := by rw [← Int.pow_succ, show (v - 1).succ = v by omega]
  by_cases h : g = f + 2 ^ (v - 1)
  · refine ⟨[(f, v - 1)], NRow.one f0 (by omega) (by omega), fun x => ?_, by simp, ?_⟩
    · rw [cover_one, halves v1 x f, ← h]
    · show (2 : Int) ^ (w - (v - 1)) + 0 = _
      rw [show w - (v - 1) = (w - v) + 1 by omega, Int.pow_succ]; omega
  · have cv : ∀ x, Cover (famL [(f, v), (g, v)]) x ↔ (2 : Int) ^ v ∣ x - f ∨ (2 : Int) ^ v ∣ x - g := fun x => by
      constructor
      · rintro ⟨a, b, hm, d⟩
        rcases List.mem_cons.mp hm with z | z
        · obtain ⟨rfl, rfl⟩ := Prod.mk.inj z; exact .inl d
        · obtain ⟨rfl, rfl⟩ := Prod.mk.inj (List.mem_singleton.mp z); exact .inr d
      · rintro (d | d)
        · exact ⟨f, v, by simp, d⟩
        · exact ⟨g, v, by simp, d⟩
    have mem : ∀ a b, (a, b) ∈ [(f, v), (g, v)] → b = v ∧ (a = f ∨ a = g) := fun a b hm => by
      rcases List.mem_cons.mp hm with z | z
      · obtain ⟨rfl, rfl⟩ := Prod.mk.inj z; exact ⟨rfl, .inl rfl⟩
      · obtain ⟨rfl, rfl⟩ := Prod.mk.inj (List.mem_singleton.mp z); exact ⟨rfl, .inr rfl⟩
    refine ⟨[(f, v), (g, v)], ⟨?_, ⟨?_, ?_, ?_⟩⟩, cv, by simp, ?_⟩
    · refine List.pairwise_cons.mpr ⟨fun y hy => ?_, List.pairwise_singleton _ _⟩
      rw [List.mem_singleton.mp hy]; exact .inl lt
    · intro a b hm
      obtain ⟨rfl, rfl | rfl⟩ := mem a b hm <;> refine ⟨?_, ?_, vw⟩ <;> omega
    · intro a b a' b' x h1 h2
      exact twoF_apart (v := v) (f := f) (g := g) f0 (by omega) (by omega) g1 a b a' b' x (mem a b h1) (mem a' b' h2)
    · intro k k1 kw a lt' both
      obtain ⟨rfl, ha⟩ := mem _ _ both.1
      obtain ⟨_, hb⟩ := mem _ _ both.2
      have := gpos (k - 1)
      rcases ha with rfl | rfl <;> rcases hb with hb | hb <;> omega
    · show (2 : Int) ^ (w - v) + (2 ^ (w - v) + 0) = _
      omega
theorem two_row {w v : Nat} {f g : Int} (vw : v ≤ w) (f0 : 0 ≤ f) (f1 : f < 2 ^ v) (g0 : 0 ≤ g) (g1 : g < 2 ^ v) : ∃ fl, NRow w fl ∧ (∀ x, Cover (famL fl) x ↔ (2 : Int) ^ v ∣ x - f ∨ (2 : Int) ^ v ∣ x - g) ∧ fl.length ≤ 2 ∧ (flSize w fl).sum = if f = g then 2 ^ (w - v) else 2 * 2 ^ (w - v) := by
  rcases Int.lt_trichotomy f g with z | z | z
  · rw [if_neg (by omega)]
    exact two_lt vw f0 g1 z
  · subst z
    rw [if_pos rfl]
    refine ⟨[(f, v)], NRow.one f0 f1 vw, fun x => by rw [cover_one]; exact ⟨.inl, fun h => h.elim id id⟩, by simp, ?_⟩
    show (2 : Int) ^ (w - v) + 0 = _
    omega
  · rw [if_neg (by omega)]
    obtain ⟨fl, a, b, c, d⟩ := two_lt vw g0 f1 z
    exact ⟨fl, a, fun x => (b x).trans Or.comm, c, d⟩
section
variable {w : Nat} {a c s : Int}
theorem ring_len {i v : Nat} (h : a % 2 = 1 ∨ (2 : Int) ^ w ∣ gIt a c 1 s - s) (hv : gv w (gIt a c 2 s - s) = v) (h2 : (2 : Int) ^ w ∣ gIt a c (2 ^ i) s - s) (h3 : ∀ j, j < i → ¬ (2 : Int) ^ w ∣ gIt a c (2 ^ j) s - s) : ((2 : Int) ^ v ∣ gIt a c 1 s - s ∧ i = w - v) ∨ (¬ (2 : Int) ^ v ∣ gIt a c 1 s - s ∧ i = w - v + 1) := by
  have vl : v ≤ w := by rw [← hv]; exact gv_le _ _
  by_cases fx : (2 : Int) ^ w ∣ gIt a c 1 s - s
  · have e : v = w := by rw [← hv]; exact gv_full.mp (gIt_fix fx 2)
    have i0 : i = 0 := Nat.eq_zero_of_not_pos fun z => h3 0 z fx
    exact .inl ⟨by rw [e]; exact fx, by omega⟩
  · have ha : a % 2 = 1 := h.resolve_right fx
    have w1 : 1 ≤ w := by
      refine Nat.pos_of_ne_zero fun z => fx ?_
      rw [z, Int.pow_zero]; exact Int.one_dvd _
    refine .inr ⟨fun d => fx ?_, ?_⟩
    · have e : gIt a c 2 s - s = (a + 1) * (gIt a c 1 s - s) := by
        have := it_two (a := a) (c := c) 0 s
        rw [Nat.pow_zero, Int.pow_succ, Int.pow_zero, Int.one_mul] at this
        exact this
      have l1 : 1 ≤ gv w (a + 1) := (gv_iff _ _ _).mpr ⟨w1, by rw [Int.pow_one]; exact Int.dvd_of_emod_eq_zero (by omega)⟩
      have l2 : v ≤ gv w (gIt a c 1 s - s) := (gv_iff _ _ _).mpr ⟨vl, d⟩
      have l3 := gv_le w (gIt a c 1 s - s)
      rw [e, gv_mul] at hv
      exact gv_full.mpr (by omega)
    · obtain ⟨j, rfl⟩ : ∃ j, i = j + 1 := ⟨i - 1, by
        have : i ≠ 0 := fun z => fx (by rw [z] at h2; exact h2)
        omega⟩
      have g := gvd ha c w j s
      rw [gv_full.mp h2, hv] at g
      by_cases j0 : j = 0
      · omega
      · obtain ⟨j', rfl⟩ : ∃ j', j = j' + 1 := ⟨j - 1, by omega⟩
        have g' := gvd ha c w j' s
        rw [hv] at g'
        have : gv w (gIt a c (2 ^ (j' + 1)) s - s) ≠ w := fun z => h3 (j' + 1) (by omega) (gv_full.mpr z)
        omega
theorem onR_move (h : a % 2 = 1 ∨ (2 : Int) ^ w ∣ gIt a c 1 s - s) (n : Nat) (z : Int) : OnR w a c (gIt a c n s) z ↔ OnR w a c s z := by
  constructor
  · rintro ⟨m, hm⟩
    rw [← gIt_add] at hm
    exact ⟨n + m, hm⟩
  · rcases h with h | h
    · rintro ⟨m, hm⟩
      have p := Nat.two_pow_pos w
      have le : n ≤ 2 ^ w * n := Nat.le_mul_of_pos_left n p
      refine ⟨2 ^ w * n - n + m, ?_⟩
      rw [← gIt_add, show n + (2 ^ w * n - n + m) = 2 ^ w * n + m by omega, gIt_add]
      exact gdvT (gIt_congx m (gIt_fullm h c w n s)) hm
    · exact (OnR.cong (gIt_fix h n)).mpr
/-- the row of a ring -/
theorem ring_row {i : Nat} (h : a % 2 = 1 ∨ (2 : Int) ^ w ∣ gIt a c 1 s - s) (h2 : (2 : Int) ^ w ∣ gIt a c (2 ^ i) s - s) (h3 : ∀ j, j < i → ¬ (2 : Int) ^ w ∣ gIt a c (2 ^ j) s - s) {fl : FL} (n : NRow w fl) (cv : ∀ x, Cover (famL fl) x ↔ OnR w a c s x) : fl.length ≤ 2 ∧ (flSize w fl).sum = 2 ^ i := by
  obtain ⟨v, hv⟩ : ∃ v, gv w (gIt a c 2 s - s) = v := ⟨_, rfl⟩
  have vl : v ≤ w := by rw [← hv]; exact gv_le _ _
  have hp := gpos v
  obtain ⟨gl, gn, gc, gl2, gs⟩ := two_row (w := w) (v := v) (f := s % 2 ^ v) (g := gIt a c 1 s % 2 ^ v) vl (Int.emod_nonneg _ (Int.ne_of_gt hp)) (Int.emod_lt_of_pos _ hp) (Int.emod_nonneg _ (Int.ne_of_gt hp)) (Int.emod_lt_of_pos _ hp)
  have e : fl = gl := n.uniq gn fun x => by
    rw [cv, gc, onR_iff hv h]
    have q : ∀ u : Int, (2 : Int) ^ v ∣ x - u ↔ (2 : Int) ^ v ∣ x - u % 2 ^ v := fun u => ⟨fun z => gdvT z (gdvS Int.dvd_emod_sub_self), fun z => gdvT z Int.dvd_emod_sub_self⟩
    rw [q s, q (gIt a c 1 s)]
  subst e
  refine ⟨gl2, ?_⟩
  rw [gs]
  rcases ring_len h hv h2 h3 with ⟨d, rfl⟩ | ⟨d, rfl⟩
  · rw [if_pos (gmd.mpr (gdvS d))]
  · rw [if_neg fun z => d (gdvS (gmd.mp z)), Int.pow_succ, Int.mul_comm]
end
end Fw
namespace Fw
open L2
open PySem PySem.Spec PyProof.Rows PySem.W
/-! ### d.items() as a value, and sorted of it -/
def itv (v d : Addr) : HO := .ext fun h => h.IsItemsView v d
theorem itv_ok {P : Program} {w : World} {H : Hp} {h : Heap} {v d : Addr} (hv : h.IsItemsView v d) : ObjOk P w H h v (itv v d) :=
  ⟨hv, let ⟨o, ho, _⟩ := hv; ⟨o, ho⟩, fun h1 h2 z k => let ⟨o, ho, x⟩ := z; ⟨o, k _ ho, x⟩⟩
theorem itv_at {P : Program} {w : World} {H : Hp} {h : Heap} {v d : Addr} (hok : HOk P w H h) (e : H v = some (itv v d)) : h.IsItemsView v d := by
  have x : ObjOk P w H h v (.ext fun h => h.IsItemsView v d) := hok v _ e
  exact x.1
def tItemsV (td : TE) : TE := fun σ H Q => td σ H fun x H1 => ∃ d kvs, x = .ref d ∧ H1 d = some (.dK kvs) ∧ ∀ v, H1 v = none → Q (.ref v) (upd H1 v (itv v d))
section
variable {X : Cx} {e : Expr} {td : TE} {apos cpos : Pos}
theorem pe_items (he : PE X e td) (hbase : attributeBase e "items" X.env (eval e X.env) = eval e X.env := by rfl) (hline : (apos.endLine == cpos.line) = true := by rfl) : PE X (.Call (.Attribute e "items" apos) [] [] cpos) (tItemsV td) := by
  refine ⟨fun pins s σ H Q I h => ?_⟩
  refine wpAny_Call_method (T := "dict") (id := "dict.items") hbase rfl hline F.plainAttrs_dict F.slot_dict_items F.type_dict_items (thn (he.run pins s σ H _ I h) fun u s1 ⟨x, H1, I1, rx, d, kvs, ex, hd, q⟩ => ?_)
  subst ex
  obtain rfl : u = Value.ref d := rx
  obtain ⟨_, hs, vs, kv, dd⟩ := dk_of I1.hok hd
  refine ⟨dd.typeIs, dd.mapOf.noDict, ?_⟩
  have hq := q s1.heap.objs.size (I1.hok.fresh (Nat.le_refl _))
  have I2 : Inv X pins σ (upd H1 s1.heap.objs.size (itv s1.heap.objs.size d)) { s1 with heap := s1.heap.push { cls := .type "dict_items", data := .fields #[.ref d] } } :=
    I1.laid (t' := s1.toks) (fun _ _ q => Heap.get?_push_of_some _ q) (Nat.le_refl _) (itv_ok ⟨_, Heap.get?_push_size _ rfl, rfl, rfl⟩)
  show wpAny _ _ (callWith cpos (.builtin "dict.items") [.ref d] [] []) _ X.xe s1
  exact method_meetsIn F.slot_dict_items F.entry_dict_items rfl (PySem.evalArgs_none ⟨rfl, dd.typeIs, F.args_dict_items_1 _, _, meets_dict_items (mixKind X.prog X.w) d hs, ⟨vs, dd⟩, ⟨V.ref s1.heap.objs.size, _, I2, rfl, hq⟩⟩)
end
/-- what a dict of ints holds -/
abbrev kvF (fl : FL) : List (Key × V) := fl.map fun p => (Sum.inl p.1, V.int (p.2 : Int))
def rSortIt : List V → Hp → VK → Prop := fun vs H Q => ∃ (v d : Addr) (fl : FL), vs = [V.ref v] ∧ H v = some (itv v d) ∧ H d = some (.dK (kvF fl)) ∧ (fl.map (·.1)).Nodup ∧
  ∀ gl out l H', gl.Pairwise ltF → (∀ x, x ∈ gl ↔ x ∈ fl) → H' l = some (.lst out) → PRow H' out gl → Same H H' → H l = none → Q (.ref l) H'
section
theorem lk_none {α : Type} : ∀ {as : List Addr} {fl : List α} {b : Addr}, b ∉ as → (as.zip fl).lookup b = none
  | [], _, _, _ => rfl
  | _ :: _, [], _, _ => rfl
  | a :: as, p :: fl, b, h => by
    have h1 : b ≠ a := fun z => h (by rw [z]; exact List.mem_cons_self)
    rw [List.zip_cons_cons, List.lookup_cons, show (b == a) = false from beq_eq_false_iff_ne.mpr h1]
    exact lk_none fun z => h (List.mem_cons_of_mem _ z)
theorem lk_at {α : Type} : ∀ {as : List Addr} {fl : List α} {j : Nat} {b : Addr} {p : α}, as.Nodup → as[j]? = some b → fl[j]? = some p → (as.zip fl).lookup b = some p
  | [], _, _, _, _, _, h, _ => by cases h
  | _ :: _, [], _, _, _, _, _, h => by cases h
  | a :: as, q :: fl, 0, b, p, _, h1, h2 => by
    obtain rfl := Option.some.inj h1
    obtain rfl := Option.some.inj h2
    rw [List.zip_cons_cons, List.lookup_cons, show (a == a) = true from beq_self_eq_true a]
  | a :: as, q :: fl, j + 1, b, p, nd, h1, h2 => by
    have h1' : as[j]? = some b := h1
    have ne : b ≠ a := fun z => (List.nodup_cons.mp nd).1 (by rw [← z]; exact List.mem_of_getElem? h1')
    rw [List.zip_cons_cons, List.lookup_cons, show (b == a) = false from beq_eq_false_iff_ne.mpr ne]
    exact lk_at (List.nodup_cons.mp nd).2 h1' h2
/-- the heap with new pairs -/
def tupH (H : Hp) (as : List Addr) (fl : FL) : Hp := fun b => match (as.zip fl).lookup b with
  | some p => some (.tup [.int p.1, .int (p.2 : Int)])
  | none => H b
theorem tupH_old {H : Hp} {as : List Addr} {fl : FL} {b : Addr} (h : b ∉ as) : tupH H as fl b = H b := by
  unfold tupH; rw [lk_none h]
theorem tupH_at {H : Hp} {as : List Addr} {fl : FL} {j : Nat} {b : Addr} {p : Int × Nat} (nd : as.Nodup) (h1 : as[j]? = some b) (h2 : fl[j]? = some p) : tupH H as fl b = some (.tup [.int p.1, .int (p.2 : Int)]) := by
  unfold tupH; rw [lk_at nd h1 h2]
theorem lenF : ∀ {es : List DictEntry} {vs : List (Key × Value)} {P : Program} {w : World}, Pairs (mixKind P w) es vs → es.length = vs.length
  | _, _, _, _, .nil => rfl
  | _, _, _, _, .cons _ _ h => by rw [List.length_cons, List.length_cons, lenF h]
theorem ent_at {P : Program} {w : World} : ∀ {es : List DictEntry} {vs : List (Key × Value)} {fl : FL}, Pairs (mixKind P w) es vs → KV (kvF fl) vs → ∀ {j : Nat} {e : DictEntry}, es[j]? = some e → ∃ p, fl[j]? = some p ∧ (∃ t, e.key = .int p.1 t) ∧ ∃ t, e.val = .int p.2 t := by
  intro es vs fl hp
  induction hp generalizing fl with
  | nil => intro _ j e h; cases h
  | @cons e kv es vs h1 h2 hp ih =>
    intro kvr j e' hj
    match fl, kvr with
    | p :: fl, .cons hr kvr =>
      obtain ⟨r1, r2⟩ := hr
      cases j with
      | zero =>
        obtain rfl := Option.some.inj hj
        refine ⟨p, rfl, ?_, ?_⟩
        · have : kv.1 = Sum.inl p.1 := r1.symm
          rw [this] at h1
          exact Value.isInt_shape h1
        · rw [h2]; exact r2
      | succ j => exact ih kvr hj

end
section
variable {X : Cx}
theorem cr_sortedIt (hc : X.calm = true) : CallR X (.builtin "sorted") rSortIt := by
  intro pins s σ H xs us Q I r h
  obtain ⟨v, d, fl, rfl, hv, hd, nd, q⟩ := h
  obtain ⟨u, rfl, rx⟩ := r.one
  cases rx
  have hview := itv_at I.hok hv
  obtain ⟨hle, hs, vs, kv, o, es, ep, ho, hx, hdt, hko, hpr, hnd⟩ := dk_of I.hok hd
  have l1 : es.size = fl.length := by
    have e1 := lenF hpr
    have e2 := Paired.length kv
    rw [Array.length_toList] at e1
    rw [List.length_map] at e2
    omega
  rw [List.length_map] at hle
  refine Calls.call_function_entry PyProof.Rows.kind_sorted PyProof.Rows.plain_sorted PyProof.Rows.entry_sorted (PyProof.Rows.args_sorted1 _) ?_
  unfold Builtin.«sorted»
  refine wpAny_bind (m := checkCount "sorted" 1 1 _) (wpAny_pure ?_)
  refine wpAny_bind (PySem.W.dil_collect (A := X.A.in1) (es := es) (ep := ep) (d := d) (I.ok.hd hc) hview ⟨o, ho, hx, hdt⟩ (by omega) fun h' tk as kp la G => ?_)
  have lo : ∀ a ∈ as, s.heap.objs.size ≤ a := fun a ha => Nat.le_of_lt (G.above a ha)
  have ndA : as.Nodup := G.rise.imp fun h => Nat.ne_of_lt h
  have at_ : ∀ (j : Nat) (a : Addr), as[j]? = some a → ∃ p, fl[j]? = some p ∧ ∃ t1 t2, h'.get? a = some { cls := .type "tuple", data := .seq #[.int p.1 t1, .int p.2 t2] } := fun j a hj => by
    obtain ⟨hjs, hg⟩ := G.pairs j a hj
    obtain ⟨p, hp, ⟨t1, e1⟩, ⟨t2, e2⟩⟩ := ent_at hpr kv (j := j) (e := es[j]) (by rw [Array.getElem?_toList]; exact Array.getElem?_eq_getElem hjs)
    exact ⟨p, hp, t1, t2, by rw [hg, e1, e2]⟩
  have mem_ : ∀ a ∈ as, ∃ (j : Nat) (p : Int × Nat), as[j]? = some a ∧ fl[j]? = some p ∧ tupH H as fl a = some (.tup [.int p.1, .int (p.2 : Int)]) := fun a ha => by
    obtain ⟨j, hj⟩ := List.getElem?_of_mem ha
    obtain ⟨p, hp, _⟩ := at_ j a hj
    exact ⟨j, p, hj, hp, tupH_at ndA hj hp⟩
  have fresh : ∀ a ∈ as, H a = none := fun a ha => I.hok.fresh (lo a ha)
  have old : ∀ {b : Addr}, H b ≠ none → tupH H as fl b = H b := fun {b} hb => tupH_old fun z => hb (fresh b z)
  have oldS : ∀ {b : Addr} {o : Obj}, s.heap.get? b = some o → tupH H as fl b = H b := fun {b o} e => tupH_old fun z => absurd (Heap.lt_size e) (Nat.not_lt.mpr (lo b z))
  have smT : Same H (tupH H as fl) := fun b o e => by rw [old (by rw [e]; intro z; cases z)]; exact e
  have Un1 : Un X.fs [] H (tupH H as fl) s.heap h' := {
    keep := fun b o e _ _ _ => kp b o e
    slot := fun b o e _ _ _ => ⟨o.slots, kp b o e⟩
    free := fun b o e n _ => by rw [oldS e]; exact n
    there := fun b o e _ => ⟨o, kp b o e⟩
    tups := fun b xs e => by rw [old (by rw [e]; intro z; cases z)]; exact e
    frzs := fun b o u e => by rw [old (by rw [e]; intro z; cases z)]; exact e
    tbls := fun b ps e => ⟨#[], by rw [old (by rw [e]; intro z; cases z), e]; simp⟩ }
  have I1 : Inv X pins σ (tupH H as fl) { s with heap := h', toks := tk } := I.un (t' := tk) Un1 fun b ob e => by
    by_cases hb : b ∈ as
    · obtain ⟨j, p, hj, hp, e2⟩ := mem_ b hb
      obtain ⟨p', hp', t1, t2, hg⟩ := at_ j b hj
      obtain rfl : p' = p := Option.some.inj (hp'.symm.trans hp)
      rw [e2] at e
      cases e
      exact ⟨by show 2 ≤ sizeLine; decide, [.int p'.1 t1, .int p'.2 t2], .cons ⟨t1, rfl⟩ (.cons ⟨t2, rfl⟩ .nil), _, hg, rfl, _, rfl⟩
    · rw [tupH_old hb] at e
      exact (I.hok b ob e).stay (fun c v hc z => kp c v z) (fun c hc => smT _ _ hc) (fun c xs hc => smT _ _ hc)
  have al : (as.map Value.ref).length ≤ sizeLine := by rw [List.length_map]; omega
  refine wpAny_bind (wpAny_newList ?_ al)
  have hoL : (h'.push (seqObj "list" (as.map Value.ref).toArray 0)).get? h'.objs.size = some (seqObj "list" (as.map Value.ref).toArray 0) := Heap.get?_push_size _ rfl
  show wpAny _ _ _ _ _ { s with heap := h'.push (seqObj "list" (as.map Value.ref).toArray 0), toks := tk }
  have hprs : ∀ v ∈ as.map Value.ref, Srt.IsPair (h'.push (seqObj "list" (as.map Value.ref).toArray 0)) v (kOf (tupH H as fl) (backV v)).1 (kOf (tupH H as fl) (backV v)).2 := fun v hv => by
    obtain ⟨b, hb, rfl⟩ := List.mem_map.mp hv
    obtain ⟨j, p, hj, hp, e2⟩ := mem_ b hb
    obtain ⟨p', hp', t1, t2, hg⟩ := at_ j b hj
    obtain rfl : p' = p := Option.some.inj (hp'.symm.trans hp)
    have ek : kOf (tupH H as fl) (backV (Value.ref b)) = (p'.1, (p'.2 : Int)) := kOf_at e2
    rw [ek]
    exact ⟨b, _, t1, t2, _, rfl, Heap.get?_push_of_some _ hg, rfl, rfl⟩
  refine wpAny_bind (wpAny_holding (wpAny_call_entry PyProof.Rows.slot_list_sort ⟨_, hoL, rfl⟩ PyProof.Rows.entry_list_sort
    (SrtO.list_sort_ord (SrtO.swo_lex fun v => kOf (tupH H as fl) (backV v)) hoL al (fun h2 => SrtO.pairs_sortableO (s := { s with heap := h'.push (seqObj "list" (as.map Value.ref).toArray 0), toks := tk }) (by omega) hprs fun o e => ?_) fun out hso hst => ⟨_, rfl, ?_⟩) (PyProof.Rows.args_list_sort _)))
  · have e' : some o = some (seqObj "list" (as.map Value.ref).toArray 0) := e.symm.trans hoL
    cases e'
    intro c
    exact absurd (Value.type.inj c) (by decide)
  obtain ⟨e', he'⟩ := PyProof.Rows.sortedHeap_at (vs := as.map Value.ref) (out := out.toArray) hoL
  have pm : out.Perm (as.map Value.ref) := hst.perm
  have ho3 : ∀ u ∈ out, ∃ a, u = Value.ref a := fun u hu => by
    obtain ⟨b, _, e⟩ := List.mem_map.mp (pm.mem_iff.mp hu)
    exact ⟨b, e.symm⟩
  have hlen : (out.map backV).length ≤ sizeLine := by rw [List.length_map, pm.length_eq, List.length_map]; omega
  have pmV : (out.map backV).Perm (as.map V.ref) := by
    have := pm.map backV
    rw [List.map_map] at this
    exact this
  have srtV : SrtO.Srtd (ltP (kOf (tupH H as fl))) (out.map backV) := SrtO.srtd_map hso
  have rowV : PRow (tupH H as fl) (out.map backV) ((out.map backV).map fun v => ((kOf (tupH H as fl) v).1, (kOf (tupH H as fl) v).2.toNat)) := row_of_vals fun r hr => by
    obtain ⟨a, ha, rfl⟩ := List.mem_map.mp (pmV.mem_iff.mp hr)
    obtain ⟨j, p, _, _, e2⟩ := mem_ a ha
    exact ⟨a, p.1, p.2, rfl, e2⟩
  have e1 : (as.map V.ref).map (fun v => ((kOf (tupH H as fl) v).1, (kOf (tupH H as fl) v).2.toNat)) = fl := by
    refine List.ext_getElem? fun j => ?_
    rw [List.map_map, List.getElem?_map]
    rcases Nat.lt_or_ge j as.length with lt | ge
    · obtain ⟨a, ha⟩ : ∃ a, as[j]? = some a := ⟨_, List.getElem?_eq_getElem lt⟩
      obtain ⟨j', p, hj', hp, e2⟩ := mem_ a (List.mem_of_getElem? ha)
      obtain ⟨p', hp', _⟩ := at_ j a ha
      have e3 := tupH_at (H := H) ndA ha hp'
      rw [ha, hp']
      show some ((kOf (tupH H as fl) (V.ref a)).1, (kOf (tupH H as fl) (V.ref a)).2.toNat) = some p'
      rw [kOf_at e3]; rfl
    · rw [List.getElem?_eq_none ge, List.getElem?_eq_none (by omega)]; rfl
  have pg : ((out.map backV).map fun v => ((kOf (tupH H as fl) v).1, (kOf (tupH H as fl) v).2.toNat)).Perm fl := by
    have := pmV.map fun v => ((kOf (tupH H as fl) v).1, (kOf (tupH H as fl) v).2.toNat)
    rw [e1] at this; exact this
  have ndG := (pg.map (·.1)).symm.nodup nd
  have hlN : tupH H as fl h'.objs.size = none := I1.hok.fresh (Nat.le_refl _)
  have hlH : H h'.objs.size = none := by
    by_cases hb : h'.objs.size ∈ as
    · obtain ⟨_, _, _, _, e2⟩ := mem_ _ hb
      rw [e2] at hlN; cases hlN
    · rw [tupH_old hb] at hlN; exact hlN
  have smL : Same (tupH H as fl) (upd (tupH H as fl) h'.objs.size (.lst (out.map backV))) := fun b o e => by rw [upd_ne (ne_of_none e hlN)]; exact e
  refine wpAny_pure ⟨_, rfl, .ref h'.objs.size, upd (tupH H as fl) h'.objs.size (.lst (out.map backV)), I1.laid (t' := tk) (fun b u e => ?_) (Nat.le_refl _) ⟨hlen, out, _, vals_back ho3, he'⟩, rfl, q _ (out.map backV) _ _ ?_ (fun x => pg.mem_iff) upd_same (rowV.same smL) (smT.trans smL) hlH⟩
  · rw [PyProof.Rows.sortedHeap_old (Nat.ne_of_lt (Heap.lt_size e)) (by rw [Heap.size_push]; exact Nat.lt_succ_of_lt (Heap.lt_size e))]
    exact Heap.get?_push_of_some _ e
  · rw [List.pairwise_map]
    rw [List.Nodup, List.pairwise_map, List.pairwise_map] at ndG
    refine (List.Pairwise.and srtV ndG).imp fun {x y} h => .inl ?_
    have h1 := SrtO.lexB_no.mp h.1
    have h2 : (kOf (tupH H as fl) x).1 ≠ (kOf (tupH H as fl) y).1 := h.2
    show (kOf (tupH H as fl) x).1 < (kOf (tupH H as fl) y).1
    omega
end

/-! ### steps of a reading -/
section
variable {K : PySem.W.Frag} {σ : L2.St} {H : Hp} {Q : VK}
theorem w_dgetI {td ty tx : TE} (q : td σ H fun x H1 => ∃ a, x = .ref a ∧ IsD H1 a ∧ ty σ H1 fun y H2 => tx σ H2 fun z H3 => ∃ o, DGet H3 a y o ∧ Q (o.getD z) H3) : tDGet2 td ty tx σ H Q := q
theorem w_dputI {D : Ends} {td ty tv : TE} (q : tv σ H fun v H1 => td σ H1 fun x H2 => ty σ H2 fun y H3 => ∃ a H4, x = .ref a ∧ DPut H3 a y v H4 ∧ D.nx σ H4) : sDPut td ty tv D σ H := q
theorem isD_k {a : Addr} {kvs : List (Key × V)} (h : H a = some (.dK kvs)) : IsD H a := .inl ⟨kvs, .inl h⟩
theorem w_lock {t : TE} {d : Addr} {kvs : List (Key × V)} (h : H d = some (.dK kvs)) (q : ∀ od, t σ (upd H d (.frz od (.dK kvs))) fun v H' => H' d = some (.frz od (.dK kvs)) ∧ Q v (upd H' d (.dK kvs))) : tLockE t σ H Q := ⟨d, .dK kvs, h, trivial, q⟩
theorem w_iItems {td : TE} {R : It → Hp → Prop} (q : td σ H fun x H1 => ∃ d o kvs, x = .ref d ∧ H1 d = some (.frz o (.dK kvs)) ∧ R (Iti d o kvs) H1) : iItems td σ H R := q
theorem w_itemsV {td : TE} (q : td σ H fun x H1 => ∃ d kvs, x = .ref d ∧ H1 d = some (.dK kvs) ∧ ∀ v, H1 v = none → Q (.ref v) (upd H1 v (itv v d))) : tItemsV td σ H Q := q
/-- sorted of a row in any order -/
theorem w_sortAny {a : Addr} {out : List V} {fl : FL} (h : H a = some (.lst out)) (r : PRow H out fl) (nd : (fl.map (·.1)).Nodup) (q : ∀ l ys gl, gl.Pairwise ltF → (∀ x, x ∈ gl ↔ x ∈ fl) → PRow H ys gl → H l = none → Q (.ref l) (upd H l (.lst ys))) : rSortedPO K [.ref a] H Q :=
  ⟨a, out, kOf H, rfl, SqL.of h, r.k, fun ys l so st hl => by
    have rowY : PRow H ys (ys.map fun v => ((kOf H v).1, (kOf H v).2.toNat)) := row_of_vals fun y hy => by
      obtain ⟨i, hi⟩ := List.getElem?_of_mem (st.perm.mem_iff.mp hy)
      obtain ⟨t, f, e, rfl, ht, _⟩ := r.get hi
      exact ⟨t, f, e, rfl, ht⟩
    have e1 : ∀ {rs : List V} {gl : FL}, PRow H rs gl → rs.map (fun v => ((kOf H v).1, (kOf H v).2.toNat)) = gl := fun {rs gl} r => by
      induction r with
      | nil => rfl
      | cons hq _ ih => rw [List.map_cons, ih, kOf_at hq]; rfl
    have pg : (ys.map fun v => ((kOf H v).1, (kOf H v).2.toNat)).Perm fl := by
      have := st.perm.map fun v => ((kOf H v).1, (kOf H v).2.toNat)
      rw [e1 r] at this; exact this
    have ndG := (pg.map (·.1)).symm.nodup nd
    refine q l ys _ ?_ (fun x => pg.mem_iff) rowY hl
    rw [List.pairwise_map]
    rw [List.Nodup, List.pairwise_map, List.pairwise_map] at ndG
    refine (List.Pairwise.and so ndG).imp fun {x y} h => .inl ?_
    have h1 := SrtO.lexB_no.mp h.1
    have h2 : (kOf H x).1 ≠ (kOf H y).1 := h.2
    show (kOf H x).1 < (kOf H y).1
    omega⟩
end
end Fw
namespace Fw
open L2
open PySem PySem.Spec PyProof.Rows PySem.W
/-! ### how many values stay, by twos -/
section
variable {w : Nat} {a c : Int}
theorem gA0 : gv w (a ^ (2 ^ 0) - 1) = gv w (a - 1) := by rw [Nat.pow_zero, Int.pow_succ, Int.pow_zero, Int.one_mul]
theorem gAs (ao : a % 2 = 1) (j : Nat) : gv w (a ^ (2 ^ (j + 1)) - 1) = min w (gv w (a - 1) + gv w (a + 1) + j) := by
  have h := gvd ao 0 w j 1
  rw [gIt_pow, gIt_pow, Int.mul_one, Int.mul_one, show a ^ 2 - 1 = (a - 1) * (a + 1) by
    rw [Int.pow_succ, Int.pow_succ, Int.pow_zero, Int.one_mul, Int.sub_mul, Int.mul_add, Int.mul_one, Int.one_mul]; omega, gv_mul] at h
  rw [h]; omega
theorem gGs (ao : a % 2 = 1) (j : Nat) : gv w (gIt a c (2 ^ (j + 1)) 0) = min w (gv w (a + 1) + gv w c + j) := by
  have h := gvd ao c w j 0
  have e : gIt a c 2 0 = (a + 1) * c := by
    show a * (a * 0 + c) + c = _
    rw [Int.mul_zero, Int.zero_add, Int.add_mul, Int.one_mul]
  rw [Int.sub_zero, Int.sub_zero, e, gv_mul] at h
  rw [h]; omega
theorem gG0 : gv w (gIt a c (2 ^ 0) 0) = gv w c := by
  show gv w (a * 0 + c) = _
  rw [Int.mul_zero, Int.zero_add]
/-- the same by the twos of a - 1, a + 1, c -/
def Un (w x y z : Nat) : Nat → Nat
  | 0 => if x ≤ z then 2 ^ x else 0
  | j + 1 => if min w (x + y + j) ≤ min w (y + z + j) then 2 ^ min w (x + y + j) else 0
theorem Uc_un (ao : a % 2 = 1) : ∀ i, Uc w a c i = Un w (gv w (a - 1)) (gv w (a + 1)) (gv w c) i := fun i => by
  have q : ∀ k z, k ≤ w → ((2 : Int) ^ k ∣ z ↔ k ≤ gv w z) := fun k z hk => ⟨fun h => (gv_iff _ _ _).mpr ⟨hk, h⟩, fun h => ((gv_iff _ _ _).mp h).2⟩
  have l := gv_le w (a ^ (2 ^ i) - 1)
  have e : Uc w a c i = if gv w (a ^ (2 ^ i) - 1) ≤ gv w (gIt a c (2 ^ i) 0) then 2 ^ gv w (a ^ (2 ^ i) - 1) else 0 := by
    unfold Uc
    by_cases h : (2 : Int) ^ gv w (a ^ (2 ^ i) - 1) ∣ gIt a c (2 ^ i) 0
    · rw [if_pos h, if_pos ((q _ _ l).mp h)]
    · rw [if_neg h, if_neg fun z => h ((q _ _ l).mpr z)]
  rw [e]
  cases i with
  | zero => rw [gA0, gG0]; rfl
  | succ j => rw [gAs ao, gGs ao]; rfl
theorem rl_single {U : Nat → Nat} {m w : Nat} (mw : m ≤ w) (h0 : ∀ i, i < m → U i = 0) (h1 : ∀ i, m ≤ i → i ≤ w → U i = 2 ^ w) : rlR U (w + 1) = [((2 : Int) ^ m, 2 ^ (w - m))] := by
  have go : ∀ n, n ≤ w + 1 → rlR U n = if m < n then [((2 : Int) ^ m, 2 ^ (w - m))] else [] := by
    intro n
    induction n with
    | zero => intro _; rw [if_neg (by omega)]; rfl
    | succ n ih =>
      intro hn
      have pv : prevU U n = if m < n then 2 ^ w else 0 := by
        cases n with
        | zero => rw [if_neg (by omega)]; rfl
        | succ n =>
          show U n = _
          split
          · exact h1 n (by omega) (by omega)
          · exact h0 n (by omega)
      show rlR U n ++ (if prevU U n < U n then [((2 : Int) ^ n, (U n - prevU U n) / 2 ^ n)] else []) = _
      rw [ih (by omega), pv]
      have pw := Nat.two_pow_pos w
      rcases Nat.lt_trichotomy m n with z | z | z
      · rw [if_pos z, if_pos z, if_pos (show m < n + 1 by omega), h1 n (by omega) (by omega), if_neg (Nat.lt_irrefl _), List.append_nil]
      · subst z
        rw [if_neg (Nat.lt_irrefl _), if_neg (Nat.lt_irrefl _), h1 m (Nat.le_refl _) (by omega), if_pos pw, if_pos (show m < m + 1 by omega), List.nil_append, Nat.sub_zero, Nat.pow_div mw (by decide)]
      · rw [if_neg (show ¬ m < n by omega), if_neg (show ¬ m < n by omega), if_neg (show ¬ m < n + 1 by omega), h0 n z, if_neg (Nat.lt_irrefl _)]; rfl
  rw [go (w + 1) (Nat.le_refl _), if_pos (by omega)]
theorem rl_even (ha : a % 2 = 0) : rlR (Uc w a c) (w + 1) = [(1, 1)] := by
  have one : ∀ n, rlR (Uc w a c) (n + 1) = [(1, 1)] := fun n => by
    induction n with
    | zero =>
      show [] ++ (if prevU (Uc w a c) 0 < Uc w a c 0 then [((2 : Int) ^ 0, (Uc w a c 0 - prevU (Uc w a c) 0) / 2 ^ 0)] else []) = _
      rw [show prevU (Uc w a c) 0 = 0 from rfl, Uc_even ha]; decide
    | succ n ih =>
      show rlR (Uc w a c) (n + 1) ++ (if Uc w a c n < Uc w a c (n + 1) then _ else []) = _
      rw [ih, Uc_even ha, Uc_even ha]; rfl
  exact one w
end
/-! ### a dict of powers of two -/
theorem p2inj {i j : Nat} (h : (2 : Int) ^ i = 2 ^ j) : i = j := by
  have h' : (2 : Nat) ^ i = 2 ^ j := by exact_mod_cast h
  rcases Nat.lt_trichotomy i j with z | z | z
  · have := Nat.pow_lt_pow_right (a := 2) (by decide) z; omega
  · exact z
  · have := Nat.pow_lt_pow_right (a := 2) (by decide) z; omega
structure DictP (fl : FL) (D : Nat → Nat) : Prop where
  nd : (fl.map (·.1)).Nodup
  of : ∀ x ∈ fl, ∃ i, x = ((2 : Int) ^ i, D i) ∧ 0 < D i
  has : ∀ i, 0 < D i → ((2 : Int) ^ i, D i) ∈ fl
theorem DictP.nil : DictP [] (fun _ => 0) := ⟨List.nodup_nil, fun x h => (by cases h), fun i h => (by omega)⟩
theorem valF_mem : ∀ {fl : FL} {p : Int × Nat}, (fl.map (·.1)).Nodup → p ∈ fl → valV (kvF fl) (Sum.inl p.1) = some (.int (p.2 : Int))
  | q :: fl, p, nd, h => by
    rcases List.mem_cons.mp h with rfl | h
    · exact valV_pos rfl
    · have ne : ¬ (Sum.inl q.1 : Key) = Sum.inl p.1 := fun z => (List.nodup_cons.mp nd).1 (by show q.1 ∈ _; rw [Sum.inl.inj z]; exact List.mem_map.mpr ⟨p, h, rfl⟩)
      show valV ((Sum.inl q.1, V.int q.2) :: kvF fl) _ = _
      rw [valV_neg ne]
      exact valF_mem (List.nodup_cons.mp nd).2 h
theorem valF_none {k : Int} : ∀ {fl : FL}, (∀ p ∈ fl, p.1 ≠ k) → valV (kvF fl) (Sum.inl k) = none
  | [], _ => rfl
  | q :: fl, h => by
    have ne : ¬ (Sum.inl q.1 : Key) = Sum.inl k := fun z => h q List.mem_cons_self (Sum.inl.inj z)
    show valV ((Sum.inl q.1, V.int q.2) :: kvF fl) _ = _
    rw [valV_neg ne]
    exact valF_none fun p hp => h p (List.mem_cons_of_mem _ hp)
section
variable {fl : FL} {D : Nat → Nat}
theorem DictP.no (h : DictP fl D) {i : Nat} (z : D i = 0) : ∀ p ∈ fl, p.1 ≠ (2 : Int) ^ i := fun p hp e => by
  obtain ⟨j, rfl, d⟩ := h.of p hp
  rw [← p2inj e] at z; omega
theorem DictP.val (h : DictP fl D) (i : Nat) : (valV (kvF fl) (Sum.inl ((2 : Int) ^ i))).getD (.int 0) = .int (D i : Nat) := by
  rcases Nat.eq_zero_or_pos (D i) with z | z
  · rw [valF_none (h.no z), z]; rfl
  · rw [valF_mem h.nd (h.has i z)]; rfl
theorem DictP.put (h : DictP fl D) (i : Nat) {e : Nat} (e0 : 0 < e) : ∃ fl', putK (kvF fl) (Sum.inl ((2 : Int) ^ i)) (.int ((D i + e : Nat) : Int)) = kvF fl' ∧ DictP fl' (fun j => D j + if i = j then e else 0) ∧ fl'.length ≤ fl.length + 1 := by
  unfold putK
  rw [valV_any]
  rcases Nat.eq_zero_or_pos (D i) with z | z
  · rw [valF_none (h.no z), if_neg (by decide)]
    refine ⟨fl ++ [((2 : Int) ^ i, D i + e)], ?_, ⟨?_, ?_, ?_⟩, by rw [List.length_append]; exact Nat.le_refl _⟩
    · show _ = List.map _ (fl ++ _)
      rw [List.map_append]; rfl
    · rw [List.map_append, List.nodup_append]
      refine ⟨h.nd, List.pairwise_singleton _ _, fun x hx y hy => ?_⟩
      obtain ⟨p, hp, rfl⟩ := List.mem_map.mp hx
      rw [List.mem_singleton.mp hy]
      exact h.no z p hp
    · intro x hx
      rcases List.mem_append.mp hx with hx | hx
      · obtain ⟨j, rfl, d⟩ := h.of x hx
        have ne : i ≠ j := fun q => by rw [q] at z; omega
        exact ⟨j, by rw [if_neg ne]; rfl, by rw [if_neg ne]; exact d⟩
      · refine ⟨i, ?_, ?_⟩
        · rw [List.mem_singleton.mp hx, if_pos rfl]
        · rw [if_pos rfl]; omega
    · intro j hj
      by_cases q : i = j
      · subst q
        rw [if_pos rfl]
        exact List.mem_append_right _ (List.mem_singleton.mpr rfl)
      · rw [if_neg q] at hj ⊢
        exact List.mem_append_left _ (h.has j hj)
  · rw [valF_mem h.nd (h.has i z), if_pos (show (some (V.int (D i : Int))).isSome = true from rfl)]
    have kk : ∀ p : Int × Nat, ((Sum.inl p.1 : Key) = Sum.inl ((2 : Int) ^ i)) = (p.1 = 2 ^ i) := fun p => propext ⟨Sum.inl.inj, fun z => by rw [z]⟩
    refine ⟨fl.map fun p => if p.1 = (2 : Int) ^ i then (p.1, D i + e) else p, ?_, ⟨?_, ?_, ?_⟩, by rw [List.length_map]; omega⟩
    · unfold kvF
      rw [List.map_map, List.map_map]
      refine List.map_congr_left fun p _ => ?_
      show (if (Sum.inl p.1 : Key) = Sum.inl ((2 : Int) ^ i) then ((Sum.inl p.1 : Key), V.int ((D i + e : Nat) : Int)) else (Sum.inl p.1, V.int (p.2 : Int))) = (Sum.inl (if p.1 = (2 : Int) ^ i then (p.1, D i + e) else p).1, V.int ((if p.1 = (2 : Int) ^ i then (p.1, D i + e) else p).2 : Int))
      by_cases q : p.1 = (2 : Int) ^ i
      · rw [if_pos q, if_pos (by rw [q])]
      · rw [if_neg q, if_neg fun z => q (Sum.inl.inj z)]
    · rw [List.map_map]
      have e : ((fun x : Int × Nat => x.1) ∘ fun p : Int × Nat => if p.1 = (2 : Int) ^ i then (p.1, D i + e) else p) = fun x => x.1 := by
        funext p
        show (if p.1 = (2 : Int) ^ i then (p.1, D i + e) else p).1 = p.1
        split <;> rfl
      rw [e]; exact h.nd
    · intro x hx
      obtain ⟨p, hp, rfl⟩ := List.mem_map.mp hx
      obtain ⟨j, rfl, d⟩ := h.of p hp
      by_cases q : i = j
      · subst q
        exact ⟨i, by rw [if_pos rfl, if_pos rfl], by rw [if_pos rfl]; omega⟩
      · have q' : ¬ (2 : Int) ^ j = 2 ^ i := fun z => q (p2inj z).symm
        exact ⟨j, by rw [if_neg q, if_neg q']; rfl, by rw [if_neg q]; exact d⟩
    · intro j hj
      by_cases q : i = j
      · subst q
        rw [if_pos rfl]
        refine List.mem_map.mpr ⟨_, h.has i z, ?_⟩
        rw [if_pos rfl]
      · rw [if_neg q] at hj ⊢
        have q' : ¬ (2 : Int) ^ j = 2 ^ i := fun z => q (p2inj z).symm
        refine List.mem_map.mpr ⟨_, h.has j hj, ?_⟩
        rw [if_neg q']; rfl
/-- the sums that a loop makes -/
def Dfun (f : Nat → Nat × Nat) : Nat → Nat → Nat
  | 0, _ => 0
  | t + 1, i => Dfun f t i + if (f t).1 = i then (f t).2 else 0
theorem Dfun_congr {f g : Nat → Nat × Nat} (i : Nat) : ∀ t, (∀ j, j < t → f j = g j) → Dfun f t i = Dfun g t i
  | 0, _ => rfl
  | t + 1, h => by
    show Dfun f t i + _ = Dfun g t i + _
    rw [Dfun_congr i t fun j hj => h j (by omega), h t (by omega)]
theorem rl_uniq {U : Nat → Nat} {w : Nat} {gl : FL} {P : Nat → Prop} {W : Nat → Nat} (s : gl.Pairwise ltF) (m : ∀ x, x ∈ gl ↔ ∃ i, x = ((2 : Int) ^ i, W i) ∧ P i) (h1 : ∀ i, P i → i ≤ w) (h2 : ∀ i, i ≤ w → (P i ↔ prevU U i < U i)) (h3 : ∀ i, i ≤ w → P i → W i = (U i - prevU U i) / 2 ^ i) : gl = rlR U (w + 1) := by
  refine srt_uniq s ((rlR_srt (w + 1)).imp fun h => .inl h) fun x => ?_
  rw [m]
  constructor
  · rintro ⟨i, rfl, p⟩
    have hi := h1 i p
    rw [h3 i hi p]
    exact rlR_has ((h2 i hi).mp p) (by omega)
  · intro h
    obtain ⟨i, hi, lt, rfl⟩ := rlR_mem h
    have p := (h2 i (by omega)).mpr lt
    exact ⟨i, by rw [h3 i (by omega) p], p⟩
/-- the dict's own pairs -/
theorem DictP.fin {U : Nat → Nat} {w : Nat} {gl : FL} (h : DictP fl D) (s : gl.Pairwise ltF) (m : ∀ x, x ∈ gl ↔ x ∈ fl) (h1 : ∀ i, w < i → D i = 0) (h2 : ∀ i, i ≤ w → D i * 2 ^ i + prevU U i = U i) : gl = rlR U (w + 1) := by
  refine rl_uniq (P := fun i => 0 < D i) (W := D) s (fun x => (m x).trans ⟨h.of x, fun ⟨i, e, p⟩ => by rw [e]; exact h.has i p⟩) (fun i p => Nat.le_of_not_lt fun z => by have := h1 i z; omega) (fun i hi => ?_) (fun i hi p => ?_)
  · have e := h2 i hi
    have q := Nat.two_pow_pos i
    constructor
    · intro p
      have := Nat.mul_pos p q
      omega
    · intro lt
      refine Nat.pos_of_ne_zero fun z => ?_
      rw [z, Nat.zero_mul] at e; omega
  · have e := h2 i hi
    rw [show U i - prevU U i = D i * 2 ^ i by omega, Nat.mul_div_cancel _ (Nat.two_pow_pos i)]
/-- .. divided by their keys -/
theorem DictP.fin2 {U : Nat → Nat} {w : Nat} {gl : FL} (h : DictP fl D) (s : gl.Pairwise ltF) (m : ∀ x, x ∈ gl ↔ x ∈ fl.map fun p => (p.1, p.2 / p.1.toNat)) (h1 : ∀ i, w < i → D i = 0) (h2 : ∀ i, i ≤ w → D i + prevU U i = U i) : gl = rlR U (w + 1) := by
  have tn : ∀ i, ((2 : Int) ^ i).toNat = 2 ^ i := fun i => by
    rw [show (2 : Int) ^ i = ((2 ^ i : Nat) : Int) by rw [Int.natCast_pow]; rfl, Int.toNat_natCast]
  refine rl_uniq (P := fun i => 0 < D i) (W := fun i => D i / 2 ^ i) s (fun x => (m x).trans ⟨fun hx => ?_, fun ⟨i, e, p⟩ => ?_⟩) (fun i p => Nat.le_of_not_lt fun z => by have := h1 i z; omega) (fun i hi => ?_) (fun i hi p => ?_)
  · obtain ⟨p, hp, rfl⟩ := List.mem_map.mp hx
    obtain ⟨i, rfl, d⟩ := h.of p hp
    exact ⟨i, by rw [tn], d⟩
  · exact List.mem_map.mpr ⟨_, h.has i p, by rw [e, tn]⟩
  · have e := h2 i hi
    constructor <;> intro p <;> omega
  · have e := h2 i hi
    show D i / 2 ^ i = _
    rw [show U i - prevU U i = D i by omega]
end
/-! ### the sums of the law -/
theorem p2half {n : Nat} (h : 1 ≤ n) : (2 : Nat) ^ n = 2 * 2 ^ (n - 1) := by
  obtain ⟨m, rfl⟩ : ∃ m, n = m + 1 := ⟨n - 1, by omega⟩
  rw [Nat.pow_succ, Nat.mul_comm]; rfl
/-- multipliers 2 ** k + 1: what is added at depth t -/
abbrev fTw (w k : Nat) : Nat → Nat × Nat := fun t => (w - min w (k + t), if t = w then 1 else 2 ^ (w - (t + 1)))
theorem dTw {w k : Nat} (k2 : 2 ≤ k) (kw : k < w) (i : Nat) : ∀ t, t ≤ w → Dfun (fTw w k) t i = if i = 0 then (if t ≤ w - k then 0 else 2 ^ k - 2 ^ (w - t)) else if i ≤ w - k ∧ w - k - i < t then 2 ^ (k + i - 1) else 0
  | 0, _ => by
    show 0 = _
    split
    · rw [if_pos (by omega)]
    · rw [if_neg (by omega)]
  | t + 1, ht => by
    show Dfun (fTw w k) t i + (if w - min w (k + t) = i then (if t = w then 1 else 2 ^ (w - (t + 1))) else 0) = _
    rw [dTw k2 kw i t (by omega), if_neg (show ¬ t = w by omega)]
    by_cases i0 : i = 0
    · subst i0
      rw [if_pos rfl, if_pos rfl]
      by_cases c : t + 1 ≤ w - k
      · rw [if_pos (by omega), if_pos c, if_neg (by omega)]
      · rw [if_neg c, if_pos (show w - min w (k + t) = 0 by omega)]
        by_cases c2 : t ≤ w - k
        · have e1 := p2half (n := k) (by omega)
          rw [if_pos c2, show w - (t + 1) = k - 1 by omega]; omega
        · have e1 := p2half (n := w - t) (by omega)
          have e2 := Nat.pow_le_pow_right (n := 2) (by decide) (show w - t ≤ k by omega)
          rw [if_neg c2, show w - (t + 1) = w - t - 1 by omega]; omega
    · rw [if_neg i0, if_neg i0]
      by_cases c : w - min w (k + t) = i
      · rw [if_pos c, if_neg (by omega), if_pos (by omega), Nat.zero_add, show w - (t + 1) = k + i - 1 by omega]
      · rw [if_neg c, Nat.add_zero]
        by_cases c2 : i ≤ w - k ∧ w - k - i < t
        · rw [if_pos c2, if_pos (by omega)]
        · rw [if_neg c2, if_neg (by omega)]
theorem uTw {w k : Nat} (k2 : 2 ≤ k) (kw : k < w) (i : Nat) (hi : i ≤ w) : Un w k 1 w i = 2 ^ min w (k + i) := by
  cases i with
  | zero =>
    show (if k ≤ w then 2 ^ k else 0) = _
    rw [if_pos (by omega), show min w (k + 0) = k by omega]
  | succ j =>
    show (if min w (k + 1 + j) ≤ min w (1 + w + j) then 2 ^ min w (k + 1 + j) else 0) = _
    rw [if_pos (by omega), show min w (k + 1 + j) = min w (k + (j + 1)) by omega]
theorem twFin {w k : Nat} (k2 : 2 ≤ k) (kw : k < w) : (∀ i, w < i → Dfun (fTw w k) (w + 1) i = 0) ∧ ∀ i, i ≤ w → Dfun (fTw w k) (w + 1) i + prevU (Un w k 1 w) i = Un w k 1 w i := by
  have e : ∀ i, Dfun (fTw w k) (w + 1) i = (if i = 0 then 2 ^ k - 1 else if i ≤ w - k then 2 ^ (k + i - 1) else 0) + if i = 0 then 1 else 0 := fun i => by
    show Dfun (fTw w k) w i + (if w - min w (k + w) = i then (if w = w then 1 else 2 ^ (w - (w + 1))) else 0) = _
    rw [dTw k2 kw i w (Nat.le_refl _), if_pos (rfl : w = w), show w - min w (k + w) = 0 by omega]
    by_cases i0 : i = 0
    · subst i0
      rw [if_pos rfl, if_pos rfl, if_pos rfl, if_neg (by omega), Nat.sub_self, Nat.pow_zero]
    · rw [if_neg i0, if_neg i0, if_neg i0, if_neg (show ¬ 0 = i by omega)]
      by_cases c : i ≤ w - k
      · rw [if_pos (by omega), if_pos c]
      · rw [if_neg (by omega), if_neg c]
  refine ⟨fun i hi => ?_, fun i hi => ?_⟩
  · rw [e, if_neg (by omega), if_neg (by omega), if_neg (by omega)]
  · rw [e, uTw k2 kw i hi]
    cases i with
    | zero =>
      rw [if_pos rfl, if_pos rfl, show min w (k + 0) = k by omega]
      have := Nat.two_pow_pos k
      show 2 ^ k - 1 + 1 + 0 = _
      omega
    | succ j =>
      show _ + Un w k 1 w j = _
      rw [uTw k2 kw j (by omega), if_neg (show ¬ j + 1 = 0 by omega), if_neg (show ¬ j + 1 = 0 by omega), Nat.add_zero]
      by_cases c : j + 1 ≤ w - k
      · have e1 := p2half (n := k + j + 1) (by omega)
        rw [if_pos c, show min w (k + j) = k + j by omega, show min w (k + (j + 1)) = k + j + 1 by omega, show k + (j + 1) - 1 = k + j by omega, e1, show k + j + 1 - 1 = k + j by omega]; omega
      · rw [if_neg c, show min w (k + j) = w by omega, show min w (k + (j + 1)) = w by omega, Nat.zero_add]
/-- any odd multiplier, 1 more than a multiple of 2 ** k -/
abbrev fPl (w k : Nat) : Nat → Nat × Nat := fun j => if j < w - k then (w - k - j, 2 ^ (k - 1)) else (0, 2 ^ k)
theorem dPl {w k : Nat} (i : Nat) : ∀ t, t ≤ w - k → Dfun (fPl w k) t i = if 1 ≤ i ∧ i ≤ w - k ∧ w - k - i < t then 2 ^ (k - 1) else 0
  | 0, _ => by rw [if_neg (by omega)]; rfl
  | t + 1, ht => by
    show Dfun (fPl w k) t i + (if (if t < w - k then (w - k - t, 2 ^ (k - 1)) else (0, 2 ^ k)).1 = i then (if t < w - k then (w - k - t, 2 ^ (k - 1)) else (0, 2 ^ k)).2 else 0) = _
    rw [dPl i t (by omega), if_pos (show t < w - k by omega)]
    dsimp only
    by_cases c : w - k - t = i
    · rw [if_pos c, if_neg (by omega), if_pos (by omega), Nat.zero_add]
    · rw [if_neg c, Nat.add_zero]
      by_cases c2 : 1 ≤ i ∧ i ≤ w - k ∧ w - k - i < t
      · rw [if_pos c2, if_pos (by omega)]
      · rw [if_neg c2, if_neg (by omega)]
theorem plFin {w k h : Nat} (k1 : 1 ≤ k) (kw : k ≤ w) (hk : k ≤ h) : (∀ i, w < i → Dfun (fPl w k) (w - k + 1) i = 0) ∧ ∀ i, i ≤ w → Dfun (fPl w k) (w - k + 1) i * 2 ^ i + prevU (Un w k 1 h) i = Un w k 1 h i := by
  have u : ∀ i, Un w k 1 h i = 2 ^ min w (k + i) := fun i => by
    cases i with
    | zero =>
      show (if k ≤ h then 2 ^ k else 0) = _
      rw [if_pos hk, show min w (k + 0) = k by omega]
    | succ j =>
      show (if min w (k + 1 + j) ≤ min w (1 + h + j) then 2 ^ min w (k + 1 + j) else 0) = _
      rw [if_pos (by omega), show min w (k + 1 + j) = min w (k + (j + 1)) by omega]
  have e : ∀ i, Dfun (fPl w k) (w - k + 1) i = if i = 0 then 2 ^ k else if i ≤ w - k then 2 ^ (k - 1) else 0 := fun i => by
    show Dfun (fPl w k) (w - k) i + (if (if w - k < w - k then (w - k - (w - k), 2 ^ (k - 1)) else (0, 2 ^ k)).1 = i then (if w - k < w - k then (w - k - (w - k), 2 ^ (k - 1)) else (0, 2 ^ k)).2 else 0) = _
    rw [dPl i _ (Nat.le_refl _), if_neg (Nat.lt_irrefl _)]
    dsimp only
    by_cases i0 : i = 0
    · subst i0
      rw [if_neg (by omega), if_pos rfl, if_pos rfl, Nat.zero_add]
    · rw [if_neg (show ¬ 0 = i by omega), if_neg i0, Nat.add_zero]
      by_cases c : i ≤ w - k
      · rw [if_pos (by omega), if_pos c]
      · rw [if_neg (by omega), if_neg c]
  refine ⟨fun i hi => by rw [e, if_neg (by omega), if_neg (by omega)], fun i hi => ?_⟩
  rw [e, u]
  cases i with
  | zero =>
    rw [if_pos rfl, show min w (k + 0) = k by omega, Nat.pow_zero, Nat.mul_one]; rfl
  | succ j =>
    show _ + Un w k 1 h j = _
    rw [u, if_neg (by omega)]
    by_cases c : j + 1 ≤ w - k
    · have e1 := p2half (n := k + j + 1) (by omega)
      rw [if_pos c, ← Nat.pow_add, show min w (k + j) = k + j by omega, show min w (k + (j + 1)) = k + j + 1 by omega, show k - 1 + (j + 1) = k + j by omega, e1, show k + j + 1 - 1 = k + j by omega]; omega
    · rw [if_neg c, Nat.zero_mul, Nat.zero_add, show min w (k + j) = w by omega, show min w (k + (j + 1)) = w by omega]
/-- 1 less than a multiple of 2 ** k -/
abbrev fMi (w k : Nat) : Nat → Nat × Nat := fun j => if j < w - 1 then (max 1 (w - 1 - j + 1 - k), 2 ^ (w - 1 - j - max 1 (w - 1 - j + 1 - k))) else (0, 2)
theorem dMi {w k : Nat} (k2 : 2 ≤ k) (kw : k ≤ w) (i : Nat) : ∀ t, t ≤ w - 1 → Dfun (fMi w k) t i = if i = 0 then 0 else if i = 1 then (if w - t ≤ min k (w - 1) then 2 ^ min k (w - 1) - 2 ^ (w - t - 1) else 0) else if i ≤ w - k ∧ w - k - i < t then 2 ^ (k - 1) else 0
  | 0, _ => by
    show 0 = _
    split
    · rfl
    · split
      · rw [if_neg (by omega)]
      · rw [if_neg (by omega)]
  | t + 1, ht => by
    show Dfun (fMi w k) t i + (if (if t < w - 1 then (max 1 (w - 1 - t + 1 - k), 2 ^ (w - 1 - t - max 1 (w - 1 - t + 1 - k))) else (0, 2)).1 = i then (if t < w - 1 then (max 1 (w - 1 - t + 1 - k), 2 ^ (w - 1 - t - max 1 (w - 1 - t + 1 - k))) else (0, 2)).2 else 0) = _
    rw [dMi k2 kw i t (by omega), if_pos (show t < w - 1 by omega)]
    dsimp only
    by_cases i0 : i = 0
    · subst i0
      rw [if_pos rfl, if_pos rfl, if_neg (by omega)]
    · rw [if_neg i0, if_neg i0]
      by_cases i1 : i = 1
      · subst i1
        rw [if_pos rfl, if_pos rfl]
        by_cases c : w - 1 - t ≤ k
        · rw [if_pos (show max 1 (w - 1 - t + 1 - k) = 1 by omega), show max 1 (w - 1 - t + 1 - k) = 1 by omega, if_pos (show w - (t + 1) ≤ min k (w - 1) by omega)]
          have e1 := p2half (n := w - t - 1) (by omega)
          have e3 : w - 1 - t - 1 = w - t - 1 - 1 := by omega
          have e4 : w - (t + 1) - 1 = w - t - 1 - 1 := by omega
          rw [e3, e4]
          by_cases c2 : w - t ≤ min k (w - 1)
          · have e2 := Nat.pow_le_pow_right (n := 2) (by decide) (show w - t - 1 ≤ min k (w - 1) by omega)
            rw [if_pos c2]; omega
          · rw [if_neg c2, show min k (w - 1) = w - t - 1 by omega]; omega
        · rw [if_neg (show ¬ max 1 (w - 1 - t + 1 - k) = 1 by omega), if_neg (by omega), if_neg (by omega)]
      · rw [if_neg i1, if_neg i1]
        by_cases c : max 1 (w - 1 - t + 1 - k) = i
        · rw [if_pos c, c, if_neg (by omega), if_pos (by omega), Nat.zero_add, show w - 1 - t - i = k - 1 by omega]
        · rw [if_neg c, Nat.add_zero]
          by_cases c2 : i ≤ w - k ∧ w - k - i < t
          · rw [if_pos c2, if_pos (by omega)]
          · rw [if_neg c2, if_neg (by omega)]
theorem miFin {w k h : Nat} (k2 : 2 ≤ k) (kw : k ≤ w) (w2 : 2 ≤ w) (h1 : 1 ≤ h) : (∀ i, w < i → Dfun (fMi w k) w i = 0) ∧ ∀ i, i ≤ w → Dfun (fMi w k) w i * 2 ^ i + prevU (Un w 1 k h) i = Un w 1 k h i := by
  have u0 : Un w 1 k h 0 = 2 := by
    show (if 1 ≤ h then 2 ^ 1 else 0) = _
    rw [if_pos h1]
  have u : ∀ j, Un w 1 k h (j + 1) = 2 ^ min w (k + 1 + j) := fun j => by
    show (if min w (1 + k + j) ≤ min w (k + h + j) then 2 ^ min w (1 + k + j) else 0) = _
    rw [if_pos (by omega), show min w (1 + k + j) = min w (k + 1 + j) by omega]
  have e : ∀ i, Dfun (fMi w k) w i = if i = 0 then 2 else if i = 1 then 2 ^ min k (w - 1) - 1 else if i ≤ w - k then 2 ^ (k - 1) else 0 := fun i => by
    obtain ⟨v, hv⟩ : ∃ v, w = v + 1 := ⟨w - 1, by omega⟩
    have e0 : Dfun (fMi w k) w i = Dfun (fMi w k) (w - 1) i + if 0 = i then 2 else 0 := by
      conv => lhs; rw [show (Dfun (fMi w k) w i) = Dfun (fMi w k) (w - 1 + 1) i by rw [show w - 1 + 1 = w by omega]]
      show Dfun (fMi w k) (w - 1) i + (if (if w - 1 < w - 1 then (max 1 (w - 1 - (w - 1) + 1 - k), 2 ^ (w - 1 - (w - 1) - max 1 (w - 1 - (w - 1) + 1 - k))) else (0, 2)).1 = i then (if w - 1 < w - 1 then (max 1 (w - 1 - (w - 1) + 1 - k), 2 ^ (w - 1 - (w - 1) - max 1 (w - 1 - (w - 1) + 1 - k))) else (0, 2)).2 else 0) = _
      rw [if_neg (Nat.lt_irrefl _)]
    rw [e0, dMi k2 kw i _ (Nat.le_refl _)]
    by_cases i0 : i = 0
    · subst i0
      rw [if_pos rfl, if_pos rfl, if_pos rfl, Nat.zero_add]
    · rw [if_neg i0, if_neg (show ¬ 0 = i by omega), if_neg i0, Nat.add_zero]
      by_cases i1 : i = 1
      · subst i1
        rw [if_pos rfl, if_pos rfl, if_pos (by omega), show w - (w - 1) - 1 = 0 by omega, Nat.pow_zero]
      · rw [if_neg i1, if_neg i1]
        by_cases c : i ≤ w - k
        · rw [if_pos (by omega), if_pos c]
        · rw [if_neg (by omega), if_neg c]
  refine ⟨fun i hi => by rw [e, if_neg (by omega), if_neg (by omega), if_neg (by omega)], fun i hi => ?_⟩
  rw [e]
  match i, hi with
  | 0, _ =>
    rw [if_pos rfl, u0, Nat.pow_zero]; rfl
  | 1, _ =>
    show _ + Un w 1 k h 0 = Un w 1 k h (0 + 1)
    rw [u0, u 0, if_neg (by omega), if_pos rfl, Nat.pow_one, Nat.add_zero]
    have e1 := p2half (n := min w (k + 1)) (by omega)
    have e2 := Nat.two_pow_pos (min k (w - 1))
    rw [e1, show min w (k + 1) - 1 = min k (w - 1) by omega]; omega
  | j + 2, hj =>
    show _ + Un w 1 k h (j + 1) = Un w 1 k h (j + 1 + 1)
    rw [u, u, if_neg (by omega), if_neg (by omega)]
    by_cases c : j + 2 ≤ w - k
    · have e1 := p2half (n := k + j + 2) (by omega)
      rw [if_pos c, ← Nat.pow_add, show min w (k + 1 + j) = k + j + 1 by omega, show min w (k + 1 + (j + 1)) = k + j + 2 by omega, show k - 1 + (j + 2) = k + j + 1 by omega, e1, show k + j + 2 - 1 = k + j + 1 by omega]; omega
    · rw [if_neg c, Nat.zero_mul, Nat.zero_add, show min w (k + 1 + j) = w by omega, show min w (k + 1 + (j + 1)) = w by omega]
/-- one row alone -/
theorem oneFin {w m : Nat} {U : Nat → Nat} {f : Nat → Nat × Nat} (hf : f 0 = (m, 2 ^ (w - m))) (mw : m ≤ w) (h0 : ∀ i, i < m → U i = 0) (h1 : ∀ i, m ≤ i → i ≤ w → U i = 2 ^ w) : (∀ i, w < i → Dfun f 1 i = 0) ∧ ∀ i, i ≤ w → Dfun f 1 i * 2 ^ i + prevU U i = U i := by
  have e : ∀ i, Dfun f 1 i = if m = i then 2 ^ (w - m) else 0 := fun i => by
    show 0 + (if (f 0).1 = i then (f 0).2 else 0) = _
    rw [hf, Nat.zero_add]
  refine ⟨fun i hi => by rw [e, if_neg (by omega)], fun i hi => ?_⟩
  have pv : prevU U i = if m < i then 2 ^ w else 0 := by
    cases i with
    | zero => rw [if_neg (by omega)]; rfl
    | succ i =>
      show U i = _
      split
      · exact h1 i (by omega) (by omega)
      · exact h0 i (by omega)
  rw [e, pv]
  rcases Nat.lt_trichotomy m i with z | z | z
  · rw [if_neg (by omega), if_pos z, Nat.zero_mul, Nat.zero_add, h1 i (by omega) hi]
  · subst z
    rw [if_pos rfl, if_neg (Nat.lt_irrefl _), h1 m (Nat.le_refl _) hi, ← Nat.pow_add, Nat.add_zero, show w - m + m = w by omega]
  · rw [if_neg (by omega), if_neg (by omega), h0 i z, Nat.zero_mul]
end Fw
local macro_rules | `(tactic| walk_at "rd") => `(tactic| repeat (first
  | (with_reducible show L2.tVar _ _ _ _; first | with_reducible refine Fw.w_v0 ?_ | with_reducible refine Fw.w_v1 ?_ | with_reducible refine Fw.w_v2 ?_ | with_reducible refine Fw.w_v3 ?_ | with_reducible refine Fw.w_v4 ?_ | with_reducible refine Fw.w_v5 ?_ | with_reducible refine Fw.w_v6 ?_ | with_reducible refine Fw.w_v7 ?_ | with_reducible refine Fw.w_v8 ?_ | with_reducible refine Fw.w_v9 ?_ | with_reducible refine Fw.w_v10 ?_ | with_reducible refine Fw.w_v11 ?_ | with_reducible refine Fw.w_v12 ?_ | with_reducible refine Fw.w_v13 ?_ | with_reducible refine Fw.w_v14 ?_ | with_reducible refine Fw.w_v15 ?_ | with_reducible refine Fw.w_v16 ?_ | with_reducible refine Fw.w_v17 ?_ | with_reducible refine Fw.w_v18 ?_ | with_reducible refine Fw.w_v19 ?_ | with_reducible refine Fw.w_v20 ?_ | with_reducible refine Fw.w_v21 ?_ | with_reducible refine Fw.w_v22 ?_ | with_reducible refine Fw.w_v23 ?_ | with_reducible refine Fw.w_v24 ?_ | with_reducible refine Fw.w_v25 ?_ | with_reducible refine Fw.w_v26 ?_ | with_reducible refine Fw.w_v27 ?_ | with_reducible refine Fw.w_v28 ?_ | with_reducible refine Fw.w_v29 ?_ | with_reducible refine Fw.w_v30 ?_ | with_reducible refine Fw.w_v31 ?_ | with_reducible refine Fw.w_var (by with_unfolding_all exact rfl) ?_)
  | with_reducible refine Fw.w_cons ?_
  | with_reducible refine Fw.w_c ?_
  | with_reducible refine Fw.w_op ?_
  | with_reducible refine Fw.w_nil ?_
  | with_reducible refine Fw.w_I0 ?_
  | with_reducible refine Fw.w_seq ?_
  | with_reducible refine Fw.w_asg ?_
  | (with_reducible show L2.gName _ _ (L2.wipe _ _) _ _; dsimp only [L2.wipe, List.set, List.map])
  | (with_reducible show L2.gTup _ _ _ _ (L2.wipe _ _) _ _; dsimp only [L2.wipe, List.set, List.map])
  | (with_reducible show L2.gName _ _ _ _ _; first | with_reducible refine Fw.w_n0 ?_ | with_reducible refine Fw.w_n1 ?_ | with_reducible refine Fw.w_n2 ?_ | with_reducible refine Fw.w_n3 ?_ | with_reducible refine Fw.w_n4 ?_ | with_reducible refine Fw.w_n5 ?_ | with_reducible refine Fw.w_n6 ?_ | with_reducible refine Fw.w_n7 ?_ | with_reducible refine Fw.w_n8 ?_ | with_reducible refine Fw.w_n9 ?_ | with_reducible refine Fw.w_n10 ?_ | with_reducible refine Fw.w_n11 ?_ | with_reducible refine Fw.w_n12 ?_ | with_reducible refine Fw.w_n13 ?_ | with_reducible refine Fw.w_n14 ?_ | with_reducible refine Fw.w_n15 ?_ | with_reducible refine Fw.w_n16 ?_ | with_reducible refine Fw.w_n17 ?_ | with_reducible refine Fw.w_n18 ?_ | with_reducible refine Fw.w_n19 ?_ | with_reducible refine Fw.w_n20 ?_ | with_reducible refine Fw.w_n21 ?_ | with_reducible refine Fw.w_n22 ?_ | with_reducible refine Fw.w_n23 ?_ | with_reducible refine Fw.w_n24 ?_ | with_reducible refine Fw.w_n25 ?_ | with_reducible refine Fw.w_n26 ?_ | with_reducible refine Fw.w_n27 ?_ | with_reducible refine Fw.w_n28 ?_ | with_reducible refine Fw.w_n29 ?_ | with_reducible refine Fw.w_n30 ?_ | with_reducible refine Fw.w_n31 ?_ | with_reducible refine Fw.w_name ?_)
  | with_reducible refine Fw.w_call ?_
  | with_reducible refine Fw.w_exb ?_
  | with_reducible refine Fw.w_test ?_
  | (with_reducible show L2.rI _ _ _ _ _ _; with_reducible refine Fw.w_I (by with_unfolding_all first | exact Or.inl ⟨by decide, by decide⟩ | exact Or.inr ⟨by decide, by decide⟩ | exact ⟨by decide, by decide⟩ | exact ⟨by decide, by decide, by decide⟩ | (show (0 : Int) < _; decide)) ?_)
  | with_reducible refine Fw.w_neI ?_
  | with_reducible refine Fw.w_ifS ?_
  | with_reducible refine Fw.w_next ?_
  | with_reducible refine Fw.w_callK ?_
  | with_reducible refine Fw.w_ret ?_
  | with_reducible refine Fw.w_cb ?_
  | with_reducible refine Fw.w_int ?_
  | (with_reducible show L2.rIxL _ _ _ _ _; with_reducible refine Fw.w_ixL (by first | assumption | exact L2.upd_same) (by with_unfolding_all rfl) ?_)
  | (with_reducible show L2.rIxT _ _ _ _ _; with_reducible refine Fw.w_ixT (by first | assumption | exact L2.upd_same) (by with_unfolding_all rfl) ?_)
  | (with_reducible show L2.rSetL _ _ _ _ _; with_reducible refine Fw.w_setL (by first | assumption | exact L2.upd_same) (by with_unfolding_all rfl) ?_)
  | (with_reducible show L2.gTup _ _ _ _ _ _ _; with_reducible refine Fw.w_gtup (by first | assumption | exact L2.upd_same) rfl ?_)
  | with_reducible refine Fw.w_U ?_
  | with_reducible refine Fw.w_un ?_
  | with_reducible refine Fw.w_eqI ?_
  | with_reducible refine Fw.w_eqB ?_
  | with_reducible refine Fw.w_neB ?_
  | with_reducible refine Fw.w_eqS ?_
  | with_reducible refine Fw.w_exi ?_
  | with_reducible refine Fw.w_exr ?_
  | with_reducible refine Fw.w_B ?_
  | with_reducible refine Fw.w_and ?_
  | with_reducible refine Fw.w_or ?_
  | with_reducible refine Fw.w_not ?_
  | with_reducible refine Fw.w_andV ?_
  | with_reducible refine Fw.w_notV ?_
  | with_reducible refine Fw.w_make ?_
  | with_reducible refine Fw.w_intB ?_
  | with_reducible refine Fw.w_abs ?_
  | with_reducible refine Fw.w_bits ?_
  | with_reducible refine Fw.w_sl ?_
  | with_reducible refine Fw.w_part ?_
  | with_reducible refine Fw.w_nopart ?_
  | with_reducible refine Fw.w_lst ?_
  | with_reducible refine Fw.w_tup ?_
  | with_reducible refine Fw.w_dnewK ?_
  | with_reducible refine Fw.w_dget ?_
  | with_reducible refine Fw.w_isNn ?_
  | with_reducible refine Fw.w_isNi ?_
  | with_reducible refine Fw.w_meth0 ?_
  | with_reducible refine Fw.w_match ?_
  | with_reducible refine Fw.w_caseA ?_
  | with_reducible refine Fw.w_caseT ?_
  | with_reducible refine Fw.w_par ?_
  | (with_reducible refine Fw.w_exvw ?_; try dsimp only [List.set])
  | with_reducible refine Fw.w_drop ?_
  | with_reducible refine Fw.w_retN ?_
  | with_reducible refine Fw.w_gnil ?_
  | with_reducible refine Fw.w_gcons ?_
  | with_reducible refine Fw.w_gsub ?_
  | with_reducible refine Fw.w_for ?_
  | with_reducible refine Fw.w_lc ?_
  | with_reducible refine Fw.w_yes ?_
  | with_reducible refine Fw.w_iList ?_
  | with_reducible refine Fw.w_iRng1 ?_
  | with_reducible refine Fw.w_sfld ?_))
namespace Fw
open PySem L2
def top (i : Nat) : Stmt := PySem.Challenge.pw_farwrap_k41_rings_by_formulas.main.body.getD i (.Pass ⟨0, 0, 0, 0⟩)
abbrev s_joined : Stmt := top 6
abbrev s_is_integer : Stmt := top 8
abbrev s_check_integer : Stmt := top 9
abbrev s_factors_of_two : Stmt := top 10
abbrev s_twos_in : Stmt := top 11
abbrev s_odd_inverse : Stmt := top 12
abbrev s_Kind___init__ : Stmt := inClass (top 15) 0
abbrev s_Kind_parts : Stmt := inClass (top 15) 2
abbrev s_check_kind : Stmt := top 16
abbrev s_check_value : Stmt := top 17
abbrev s_least : Stmt := top 18
abbrev s_greatest : Stmt := top 19
abbrev s_is_value : Stmt := top 20
abbrev s_wrapped : Stmt := top 21
abbrev s_inverse : Stmt := top 22
abbrev s_is_generator : Stmt := top 24
abbrev s_check_generator : Stmt := top 25
abbrev s_moved : Stmt := top 26
abbrev s_after : Stmt := top 27
abbrev s_repeated : Stmt := top 28
abbrev s_after_many : Stmt := top 29
abbrev s_steps_to_ring : Stmt := top 30
abbrev s_ring_length : Stmt := top 31
abbrev s__check : Stmt := top 33
abbrev s__check_start : Stmt := top 34
abbrev s_stepped : Stmt := top 35
abbrev s_ring_of : Stmt := top 36
abbrev s__unmoved_total : Stmt := top 37
abbrev s_ring_lengths : Stmt := top 38
abbrev s_ring_values : Stmt := top 39
abbrev s__law_source_of : Stmt := top 41
abbrev s__law_next : Stmt := top 42
abbrev s__law_one : Stmt := top 43
abbrev s__law_cell_at : Stmt := top 44
abbrev s__law_wide : Stmt := top 45
abbrev s__law_draw_kind : Stmt := top 46
abbrev s__law_value : Stmt := top 47
abbrev s__law_put : Stmt := top 48
abbrev s__law_whole_right : Stmt := top 49
abbrev s__law_twos_right : Stmt := top 50
abbrev s__law_any_right : Stmt := top 51
abbrev s__law_turning_right : Stmt := top 52
abbrev s_law : Stmt := top 53
theorem sc_joined : FnScope ["families", "bits", "found", "family", "k", "half", "first", "depth"] ["families", "bits"] (defScope s_joined) := ⟨rfl, rfl, rfl, by decide +kernel, rfl, by decide +kernel, by decide +kernel⟩
theorem sc_is_integer : FnScope ["value"] ["value"] (defScope s_is_integer) := ⟨rfl, rfl, rfl, by decide +kernel, rfl, by decide +kernel, by decide +kernel⟩
theorem sc_check_integer : FnScope ["value", "argument"] ["value", "argument"] (defScope s_check_integer) := ⟨rfl, rfl, rfl, by decide +kernel, rfl, by decide +kernel, by decide +kernel⟩
theorem sc_factors_of_two : FnScope ["n"] ["n"] (defScope s_factors_of_two) := ⟨rfl, rfl, rfl, by decide +kernel, rfl, by decide +kernel, by decide +kernel⟩
theorem sc_twos_in : FnScope ["n", "most"] ["n", "most"] (defScope s_twos_in) := ⟨rfl, rfl, rfl, by decide +kernel, rfl, by decide +kernel, by decide +kernel⟩
theorem sc_odd_inverse : FnScope ["x", "bits", "size", "y", "_"] ["x", "bits"] (defScope s_odd_inverse) := ⟨rfl, rfl, rfl, by decide +kernel, rfl, by decide +kernel, by decide +kernel⟩
theorem sc_Kind___init__ : FnScope ["self", "bits", "is_signed"] ["self", "bits", "is_signed"] (defScope s_Kind___init__) := ⟨rfl, rfl, rfl, by decide +kernel, rfl, by decide +kernel, by decide +kernel⟩
theorem sc_Kind_parts : FnScope ["self"] ["self"] (defScope s_Kind_parts) := ⟨rfl, rfl, rfl, by decide +kernel, rfl, by decide +kernel, by decide +kernel⟩
theorem sc_check_kind : FnScope ["kind"] ["kind"] (defScope s_check_kind) := ⟨rfl, rfl, rfl, by decide +kernel, rfl, by decide +kernel, by decide +kernel⟩
theorem sc_check_value : FnScope ["kind", "x", "argument"] ["kind", "x", "argument"] (defScope s_check_value) := ⟨rfl, rfl, rfl, by decide +kernel, rfl, by decide +kernel, by decide +kernel⟩
theorem sc_least : FnScope ["kind"] ["kind"] (defScope s_least) := ⟨rfl, rfl, rfl, by decide +kernel, rfl, by decide +kernel, by decide +kernel⟩
theorem sc_greatest : FnScope ["kind"] ["kind"] (defScope s_greatest) := ⟨rfl, rfl, rfl, by decide +kernel, rfl, by decide +kernel, by decide +kernel⟩
theorem sc_is_value : FnScope ["kind", "x"] ["kind", "x"] (defScope s_is_value) := ⟨rfl, rfl, rfl, by decide +kernel, rfl, by decide +kernel, by decide +kernel⟩
theorem sc_wrapped : FnScope ["kind", "n", "low"] ["kind", "n"] (defScope s_wrapped) := ⟨rfl, rfl, rfl, by decide +kernel, rfl, by decide +kernel, by decide +kernel⟩
theorem sc_inverse : FnScope ["kind", "x"] ["kind", "x"] (defScope s_inverse) := ⟨rfl, rfl, rfl, by decide +kernel, rfl, by decide +kernel, by decide +kernel⟩
theorem sc_is_generator : FnScope ["kind", "value"] ["kind", "value"] (defScope s_is_generator) := ⟨rfl, rfl, rfl, by decide +kernel, rfl, by decide +kernel, by decide +kernel⟩
theorem sc_check_generator : FnScope ["kind", "value", "argument"] ["kind", "value", "argument"] (defScope s_check_generator) := ⟨rfl, rfl, rfl, by decide +kernel, rfl, by decide +kernel, by decide +kernel⟩
theorem sc_moved : FnScope ["step", "x", "size", "a", "c"] ["step", "x", "size"] (defScope s_moved) := ⟨rfl, rfl, rfl, by decide +kernel, rfl, by decide +kernel, by decide +kernel⟩
theorem sc_after : FnScope ["one", "other", "size"] ["one", "other", "size"] (defScope s_after) := ⟨rfl, rfl, rfl, by decide +kernel, rfl, by decide +kernel, by decide +kernel⟩
theorem sc_repeated : FnScope ["step", "n", "size", "total"] ["step", "n", "size"] (defScope s_repeated) := ⟨rfl, rfl, rfl, by decide +kernel, rfl, by decide +kernel, by decide +kernel⟩
theorem sc_after_many : FnScope ["step", "x", "n", "bits", "many"] ["step", "x", "n", "bits"] (defScope s_after_many) := ⟨rfl, rfl, rfl, by decide +kernel, rfl, by decide +kernel, by decide +kernel⟩
theorem sc_steps_to_ring : FnScope ["step", "x", "bits", "left"] ["step", "x", "bits"] (defScope s_steps_to_ring) := ⟨rfl, rfl, rfl, by decide +kernel, rfl, by decide +kernel, by decide +kernel⟩
theorem sc_ring_length : FnScope ["step", "x", "bits", "size", "length"] ["step", "x", "bits"] (defScope s_ring_length) := ⟨rfl, rfl, rfl, by decide +kernel, rfl, by decide +kernel, by decide +kernel⟩
theorem sc__check : FnScope ["kind", "generator"] ["kind", "generator"] (defScope s__check) := ⟨rfl, rfl, rfl, by decide +kernel, rfl, by decide +kernel, by decide +kernel⟩
theorem sc__check_start : FnScope ["kind", "generator", "x"] ["kind", "generator", "x"] (defScope s__check_start) := ⟨rfl, rfl, rfl, by decide +kernel, rfl, by decide +kernel, by decide +kernel⟩
theorem sc_stepped : FnScope ["kind", "generator", "x", "n"] ["kind", "generator", "x", "n"] (defScope s_stepped) := ⟨rfl, rfl, rfl, by decide +kernel, rfl, by decide +kernel, by decide +kernel⟩
theorem sc_ring_of : FnScope ["kind", "generator", "x", "lead"] ["kind", "generator", "x"] (defScope s_ring_of) := ⟨rfl, rfl, rfl, by decide +kernel, rfl, by decide +kernel, by decide +kernel⟩
theorem sc__unmoved_total : FnScope ["step", "size", "a", "c", "shared"] ["step", "size"] (defScope s__unmoved_total) := ⟨rfl, rfl, rfl, by decide +kernel, rfl, by decide +kernel, by decide +kernel⟩
theorem sc_ring_lengths : FnScope ["kind", "generator", "size", "step", "length", "before", "found", "_", "unmoved"] ["kind", "generator"] (defScope s_ring_lengths) := ⟨rfl, rfl, rfl, by decide +kernel, rfl, by decide +kernel, by decide +kernel⟩
theorem sc_ring_values : FnScope ["kind", "generator", "x", "bits", "size", "start", "other", "power", "apart"] ["kind", "generator", "x"] (defScope s_ring_values) := ⟨rfl, rfl, rfl, by decide +kernel, rfl, by decide +kernel, by decide +kernel⟩
theorem sc__law_source_of : FnScope ["_law_cell"] ["_law_cell"] (defScope s__law_source_of) := ⟨rfl, rfl, rfl, by decide +kernel, rfl, by decide +kernel, by decide +kernel⟩
theorem sc__law_next : FnScope ["_law_source", "_law_many", "_law_found", "_law_prime", "_law_number_here"] ["_law_source", "_law_many"] (defScope s__law_next) := ⟨rfl, rfl, rfl, by decide +kernel, rfl, by decide +kernel, by decide +kernel⟩
theorem sc__law_one : FnScope ["_law_source", "_law_some"] ["_law_source", "_law_some"] (defScope s__law_one) := ⟨rfl, rfl, rfl, by decide +kernel, rfl, by decide +kernel, by decide +kernel⟩
theorem sc__law_cell_at : FnScope ["_law_script", "_law_index"] ["_law_script", "_law_index"] (defScope s__law_cell_at) := ⟨rfl, rfl, rfl, by decide +kernel, rfl, by decide +kernel, by decide +kernel⟩
theorem sc__law_wide : FnScope ["_law_source", "_law_m", "_law_found", "_law_k"] ["_law_source", "_law_m"] (defScope s__law_wide) := ⟨rfl, rfl, rfl, by decide +kernel, rfl, by decide +kernel, by decide +kernel⟩
theorem sc__law_draw_kind : FnScope ["_law_source", "_law_most", "_law_bits", "_law_is_signed", "_law_size"] ["_law_source", "_law_most"] (defScope s__law_draw_kind) := ⟨rfl, rfl, rfl, by decide +kernel, rfl, by decide +kernel, by decide +kernel⟩
theorem sc__law_value : FnScope ["_law_source", "_law_low", "_law_size", "_law_near", "_law_far"] ["_law_source", "_law_low", "_law_size"] (defScope s__law_value) := ⟨rfl, rfl, rfl, by decide +kernel, rfl, by decide +kernel, by decide +kernel⟩
theorem sc__law_put : FnScope ["_law_n", "_law_low", "_law_size"] ["_law_n", "_law_low", "_law_size"] (defScope s__law_put) := ⟨rfl, rfl, rfl, by decide +kernel, rfl, by decide +kernel, by decide +kernel⟩
theorem sc__law_whole_right : FnScope ["_law_source", "_law_kind", "_law_low", "_law_size", "_law_a", "_law_c", "_law_x", "_law_bits", "_law_k", "_law_one_here", "_law_add"] ["_law_source", "_law_kind", "_law_low", "_law_size"] (defScope s__law_whole_right) := ⟨rfl, rfl, rfl, by decide +kernel, rfl, by decide +kernel, by decide +kernel⟩
theorem sc__law_twos_right : FnScope ["_law_source", "_law_kind", "_law_low", "_law_size", "_law_bits", "_law_k", "_law_j", "_law_a", "_law_x", "_law_deep", "_law_due", "_law_deep_here", "_law_length", "_law_many"] ["_law_source", "_law_kind", "_law_low", "_law_size"] (defScope s__law_twos_right) := ⟨rfl, rfl, rfl, by decide +kernel, rfl, by decide +kernel, by decide +kernel⟩
theorem sc__law_any_right : FnScope ["_law_source", "_law_kind", "_law_low", "_law_size", "_law_bits", "_law_sign", "_law_k", "_law_shift", "_law_a", "_law_c", "_law_first", "_law_further", "_law_due", "_law_rows", "_law_some", "_law_deep_here", "_law_many", "_law_power"] ["_law_source", "_law_kind", "_law_low", "_law_size"] (defScope s__law_any_right) := ⟨rfl, rfl, rfl, by decide +kernel, rfl, by decide +kernel, by decide +kernel⟩
theorem sc__law_turning_right : FnScope ["_law_source", "_law_kind", "_law_low", "_law_size", "_law_c", "_law_x", "_law_bits", "_law_back", "_law_turn", "_law_due", "_law_three", "_law_odd", "_law_firsts", "_law_k", "_law_a", "_law_still"] ["_law_source", "_law_kind", "_law_low", "_law_size"] (defScope s__law_turning_right) := ⟨rfl, rfl, rfl, by decide +kernel, rfl, by decide +kernel, by decide +kernel⟩
theorem sc_law : FnScope ["_law_script", "_law_cell", "_law_source", "_law_kind", "_law_low", "_law_size", "_law_turn"] ["_law_script"] (defScope s_law) := ⟨rfl, rfl, rfl, by decide +kernel, rfl, by decide +kernel, by decide +kernel⟩

/-- a kind's object -/
def kf (w : Nat) (s : Bool) : List (Str × V) := [("bits", .int (w : Int)), ("is_signed", .bl s)]
structure Kd (C : Addr) (H : Hp) (p : Addr) (w : Nat) (s : Bool) : Prop where
  ex : ∃ dx, H p = some (.ins C dx (kf w s))
  w1 : 1 ≤ w
  w2 : w ≤ 128
theorem kf_bits (w : Nat) (s : Bool) : (kf w s).lookup ("bits" : Str) = some (.int (w : Int)) := by unfold kf; simp [List.lookup]
theorem kf_sign (w : Nat) (s : Bool) : (kf w s).lookup ("is_signed" : Str) = some (.bl s) := by
  have e : (("is_signed" : Str) == ("bits" : Str)) = false := by decide +kernel
  unfold kf; simp [List.lookup, e]
/-- the values of a kind, wrapping -/
def loK (w : Nat) (s : Bool) : Int := if s = true then -(2 ^ (w - 1)) else 0
def hiK (w : Nat) (s : Bool) : Int := loK w s + 2 ^ w - 1
def wr (w : Nat) (s : Bool) (n : Int) : Int := loK w s + (n - loK w s) % 2 ^ w
theorem p2 (w : Nat) : (0 : Int) < 2 ^ w := Int.pow_pos (by decide)
theorem p2s {w : Nat} (h : 1 ≤ w) : (2 : Int) ^ w = 2 * 2 ^ (w - 1) := by
  obtain ⟨k, rfl⟩ : ∃ k, w = k + 1 := ⟨w - 1, by omega⟩
  rw [Nat.add_sub_cancel, Int.pow_succ, Int.mul_comm]
theorem wr_lo (w : Nat) (s : Bool) (n : Int) : loK w s ≤ wr w s n := by
  have := Int.emod_nonneg (n - loK w s) (show (2 : Int) ^ w ≠ 0 from Int.ne_of_gt (p2 w))
  unfold wr; omega
theorem wr_hi (w : Nat) (s : Bool) (n : Int) : wr w s n ≤ hiK w s := by
  have := Int.emod_lt_of_pos (n - loK w s) (p2 w)
  unfold wr hiK; omega
theorem wr_id {w : Nat} {s : Bool} {n : Int} (h1 : loK w s ≤ n) (h2 : n ≤ hiK w s) : wr w s n = n := by
  unfold wr
  rw [Int.emod_eq_of_lt (by omega) (by unfold hiK at h2; omega)]
  omega
/-- what the law takes for the same -/
def pl (w : Nat) (s : Bool) (n : Int) : Int := if s = true ∧ 2 ^ (w - 1) ≤ n % 2 ^ w then n % 2 ^ w - 2 ^ w else n % 2 ^ w
theorem pl_wr {w : Nat} (hw : 1 ≤ w) (s : Bool) (n : Int) : pl w s n = wr w s n := by
  have hp := p2 (w - 1)
  have e := p2s hw
  have h0 := Int.emod_nonneg n (show (2 : Int) ^ w ≠ 0 from Int.ne_of_gt (p2 w))
  have h1 := Int.emod_lt_of_pos n (p2 w)
  cases s with
  | false =>
    have hl : loK w false = 0 := by unfold loK; rw [if_neg Bool.false_ne_true]
    unfold pl wr
    rw [if_neg (by intro z; exact Bool.false_ne_true z.1), hl, Int.sub_zero, Int.zero_add]
  | true =>
    have hl : loK w true = -(2 ^ (w - 1)) := by unfold loK; rw [if_pos rfl]
    unfold pl wr
    rw [hl]
    have ed : n % 2 ^ w = n - 2 ^ w * (n / 2 ^ w) := Int.emod_def n _
    by_cases c : 2 ^ (w - 1) ≤ n % 2 ^ w
    · rw [if_pos ⟨rfl, c⟩]
      have q : (n - -(2 ^ (w - 1))) % 2 ^ w = n % 2 ^ w - 2 ^ (w - 1) := by
        have z : n - -(2 ^ (w - 1)) = (n % 2 ^ w - 2 ^ (w - 1)) + 2 ^ w * (n / 2 ^ w + 1) := by
          rw [Int.mul_add, Int.mul_one]; omega
        rw [z, Int.add_mul_emod_self_left, Int.emod_eq_of_lt (by omega) (by omega)]
      rw [q]; omega
    · rw [if_neg (fun z => c z.2)]
      have q : (n - -(2 ^ (w - 1))) % 2 ^ w = n % 2 ^ w + 2 ^ (w - 1) := by
        have z : n - -(2 ^ (w - 1)) = (n % 2 ^ w + 2 ^ (w - 1)) + 2 ^ w * (n / 2 ^ w) := by omega
        rw [z, Int.add_mul_emod_self_left, Int.emod_eq_of_lt (by omega) (by omega)]
      rw [q]; omega
/-- all but p as it was -/
def Kp (p : Addr) (H H' : Hp) : Prop := ∀ q o, q ≠ p → H q = some o → H' q = some o
theorem Kp.refl (p : Addr) (H : Hp) : Kp p H H := fun _ _ _ h => h
theorem Kp.trans {p : Addr} {H H1 H2 : Hp} (a : Kp p H H1) (b : Kp p H1 H2) : Kp p H H2 := fun q o n h => b q o n (a q o n h)
theorem Kp.upd {p : Addr} {H H1 : Hp} {o : HO} (a : Kp p H H1) : Kp p H (upd H1 p o) := fun q u n h => by rw [upd_ne n]; exact a q u n h
theorem Kp.new {p r : Addr} {H H1 : Hp} {o : HO} (a : Kp p H H1) (h : H1 r = none) : Kp p H (L2.upd H1 r o) := fun q u n e => by
  have z := a q u n e
  rw [upd_ne (ne_of_none z h)]; exact z
theorem Kp.of_same {p : Addr} {H H' : Hp} (a : Same H H') : Kp p H H' := fun q o _ h => a q o h
theorem sm_new {H H1 : Hp} {r : Addr} {o : HO} (a : Same H H1) (h : H1 r = none) : Same H (L2.upd H1 r o) := fun q u e => by
  have z := a q u e
  rw [upd_ne (ne_of_none z h)]; exact z
theorem Kp.free {p r : Addr} {H H' : Hp} (a : Kp p H H') (hr : r ≠ p) (h : H' r = none) : H r = none := by
  cases q : H r with
  | none => rfl
  | some o => rw [a r o hr q] at h; cases h
theorem same_free {H H' : Hp} {r : Addr} (a : Same H H') (h : H' r = none) : H r = none := a.free h
/-- a source of draws -/
def SrcAt (H : Hp) (p : Addr) : Prop := ∃ a b c : Int, H p = some (.lst [.int a, .int b, .int c])
theorem SrcAt.same {H H' : Hp} {p : Addr} (h : SrcAt H p) (s : Same H H') : SrcAt H' p := by
  obtain ⟨a, b, c, e⟩ := h
  exact ⟨a, b, c, s _ _ e⟩
theorem kp_mut {p D : Addr} {H H' : Hp} {o : HO} (a : Kp p H H') (h : H D = none) : Kp p H (L2.upd H' D o) := fun q u n e => by
  rw [upd_ne (ne_of_none e h)]; exact a q u n e
theorem SrcAt.mut {H : Hp} {p D : Addr} {o : HO} (h : SrcAt H p) (n : D ≠ p) : SrcAt (L2.upd H D o) p := by
  obtain ⟨a, b, c, e⟩ := h
  exact ⟨a, b, c, by rw [upd_ne (Ne.symm n)]; exact e⟩
theorem SrcAt.ne {H : Hp} {p q : Addr} (h : SrcAt H p) (n : H q = none) : q ≠ p := by
  obtain ⟨a, b, c, e⟩ := h
  exact (ne_of_none e n).symm
theorem b9 {m : Int} (h : m.natAbs < 2 ^ 200) : m.natAbs < 2 ^ 8999 := Nat.lt_trans h (Nat.pow_lt_pow_right (by decide) (by decide))
theorem SrcAt.new {H : Hp} {p r : Addr} {o : HO} (h : SrcAt H p) (n : H r = none) : SrcAt (L2.upd H r o) p := h.same (sm_new (Same.refl H) n)
theorem Kd.same {C : Addr} {H H' : Hp} {p : Addr} {w : Nat} {s : Bool} (h : Kd C H p w s) (e : Same H H') : Kd C H' p w s := by
  obtain ⟨⟨dx, q⟩, a, b⟩ := h
  exact ⟨⟨dx, e _ _ q⟩, a, b⟩
theorem Kd.kp {C : Addr} {H H' : Hp} {p r : Addr} {w : Nat} {s : Bool} (h : Kd C H p w s) (hr : SrcAt H r) (e : Kp r H H') : Kd C H' p w s := by
  obtain ⟨⟨dx, q⟩, a, b⟩ := h
  obtain ⟨_, _, _, z⟩ := hr
  exact ⟨⟨dx, e _ _ (ne_of q z (by intro y; cases y)) q⟩, a, b⟩
/-- how a value that is asked for whether it is an integer looks -/
def IntQ (K : PySem.W.Frag) (H : Hp) (v : V) (b : Bool) : Prop := ∃ t : String, TyX K H v (.type t) ∧ kitB t "int" = some (b || t == "bool") ∧ (b = true ∨ t = "bool" → True) ∧ (∃ c, kitB t "bool" = some c ∧ ((b || t == "bool") && !c) = b)
theorem IntQ.int {K : PySem.W.Frag} {H : Hp} (i : Int) : IntQ K H (.int i) true := ⟨"int", .base (.int i), by decide +kernel, fun _ => trivial, false, by decide +kernel, rfl⟩
theorem IntQ.bl {K : PySem.W.Frag} {H : Hp} (i : Bool) : IntQ K H (.bl i) false := ⟨"bool", .base (.bl i), by decide +kernel, fun _ => trivial, true, by decide +kernel, rfl⟩
theorem IntQ.non {K : PySem.W.Frag} {H : Hp} : IntQ K H .non false := ⟨"NoneType", .base .non, by decide +kernel, fun _ => trivial, false, by decide +kernel, rfl⟩
theorem IntQ.str {K : PySem.W.Frag} {H : Hp} (z : Str) : IntQ K H (.str z) false := ⟨"str", .base (.str z), by decide +kernel, fun _ => trivial, false, by decide +kernel, rfl⟩
theorem IntQ.lst {K : PySem.W.Frag} {H : Hp} {a : Addr} {xs : List V} (h : H a = some (.lst xs)) : IntQ K H (.ref a) false := ⟨"list", .base (.lst h), by decide +kernel, fun _ => trivial, false, by decide +kernel, rfl⟩
theorem IntQ.tup {K : PySem.W.Frag} {H : Hp} {a : Addr} {xs : List V} (h : H a = some (.tup xs)) : IntQ K H (.ref a) false := ⟨"tuple", .base (.tup h), by decide +kernel, fun _ => trivial, false, by decide +kernel, rfl⟩
theorem IntQ.dK {K : PySem.W.Frag} {H : Hp} {a : Addr} {xs : List (Key × V)} (h : H a = some (.dK xs)) : IntQ K H (.ref a) false := ⟨"dict", .base (.dK h), by decide +kernel, fun _ => trivial, false, by decide +kernel, rfl⟩
/-- a row of kinds' parts: a list at D of tuples -/
structure RowAt (H : Hp) (p D : Addr) (rs : List (Addr × Nat × Bool)) : Prop where
  lst : H D = some (.lst (rs.map fun r => V.ref r.1))
  nD : D ≠ p
  tup : ∀ r ∈ rs, H r.1 = some (.tup [.int (r.2.1 : Int), .bl r.2.2]) ∧ r.1 ≠ p ∧ 1 ≤ r.2.1 ∧ r.2.1 ≤ 128
theorem RowAt.kp {H H' : Hp} {p D : Addr} {rs : List (Addr × Nat × Bool)} (h : RowAt H p D rs) (e : Kp p H H') : RowAt H' p D rs :=
  ⟨e _ _ h.nD h.lst, h.nD, fun r hr => ⟨e _ _ (h.tup r hr).2.1 (h.tup r hr).1, (h.tup r hr).2⟩⟩
/-- a list at E of kinds -/
structure KdsAt (C : Addr) (H : Hp) (p E : Addr) (ks : List (Addr × Nat × Bool)) : Prop where
  lst : H E = some (.lst (ks.map fun r => V.ref r.1))
  nE : E ≠ p
  kd : ∀ r ∈ ks, Kd C H r.1 r.2.1 r.2.2 ∧ r.1 ≠ p
theorem KdsAt.kp {C : Addr} {H H' : Hp} {p E : Addr} {ks : List (Addr × Nat × Bool)} (h : KdsAt C H p E ks) (e : Kp p H H') : KdsAt C H' p E ks :=
  ⟨e _ _ h.nE h.lst, h.nE, fun r hr => by
    obtain ⟨⟨⟨dx, q⟩, a, b⟩, n⟩ := h.kd r hr
    exact ⟨⟨⟨dx, e _ _ n q⟩, a, b⟩, n⟩⟩
def wrs (ks : List (Addr × Nat × Bool)) (n : Int) : Int := ks.foldl (fun n k => wr k.2.1 k.2.2 n) n
theorem wrs_eq : ∀ {ks rs : List (Addr × Nat × Bool)} (_ : ks.map (·.2) = rs.map (·.2)) (n : Int), wrs ks n = wrs rs n
  | [], [], _, _ => rfl
  | [], _ :: _, h, _ => by simp at h
  | _ :: _, [], h, _ => by simp at h
  | k :: ks, r :: rs, h, n => by
    rw [List.map_cons, List.map_cons, List.cons.injEq] at h
    show wrs ks (wr k.2.1 k.2.2 n) = wrs rs (wr r.2.1 r.2.2 n)
    rw [h.1]
    exact wrs_eq h.2 _
theorem wrs_more (ks : List (Addr × Nat × Bool)) (r : Addr × Nat × Bool) (n : Int) : wrs (ks ++ [r]) n = wr r.2.1 r.2.2 (wrs ks n) := by
  unfold wrs; rw [List.foldl_append]; rfl
/-! operations -/
inductive Op where
  | add | sub | mul | div | rem | band | bor | bxor | left | right
deriving DecidableEq
def Op.nm : Op → Str
  | .add => "add" | .sub => "subtract" | .mul => "multiply" | .div => "divide" | .rem => "remainder" | .band => "and" | .bor => "or" | .bxor => "xor" | .left => "left" | .right => "right"
def tz (x y : Int) : Int := if decide (x < 0) = decide (y < 0) then ab x / ab y else -(ab x / ab y)
def exO : Op → Int → Int → Int
  | .add, x, y => x + y
  | .sub, x, y => x - y
  | .mul, x, y => x * y
  | .div, x, y => tz x y
  | .rem, x, y => x - y * tz x y
  | .band, x, y => PySem.Builtin.bitAnd x y
  | .bor, x, y => PySem.Builtin.bitOr x y
  | .bxor, x, y => PySem.Builtin.bitXor x y
  | .left, x, y => x * 2 ^ y.toNat
  | .right, x, y => x / 2 ^ y.toNat
theorem ab_abs (x : Int) : ab x = (x.natAbs : Int) := by unfold ab; split <;> omega
theorem ab_nat (x : Int) : (ab x).natAbs = x.natAbs := by unfold ab; split <;> omega
/-- values are small -/
theorem val_bits {w : Nat} {s : Bool} {x : Int} (h1 : loK w s ≤ x) (h2 : x ≤ hiK w s) : x.natAbs < 2 ^ (w + 1) := by
  have hp := p2 w
  have hw : (2 : Int) ^ (w + 1) = 2 * 2 ^ w := by rw [Int.pow_succ, Int.mul_comm]
  have c : ((2 ^ (w + 1) : Nat) : Int) = (2 : Int) ^ (w + 1) := by exact Int.natCast_pow 2 (w + 1)
  have hl : -(2 ^ w) ≤ loK w s ∧ loK w s ≤ 0 := by
    unfold loK
    split
    · have a := p2 (w - 1)
      have b : (2 : Int) ^ (w - 1) ≤ 2 ^ w := by
        rcases w with _ | w
        · exact Int.le_refl _
        · rw [Nat.add_sub_cancel, Int.pow_succ]; have := p2 w; omega
      omega
    · omega
  unfold hiK at h2
  have : (x.natAbs : Int) < ((2 ^ (w + 1) : Nat) : Int) := by rw [c, hw]; omega
  exact Int.ofNat_lt.mp this
theorem lt_130 {x : Int} {w : Nat} (hw : w ≤ 128) (h : x.natAbs < 2 ^ (w + 1)) : x.natAbs < 2 ^ 129 := Nat.lt_of_lt_of_le h (Nat.pow_le_pow_right (by decide) (by omega))
/-! wrapping modulo -/
theorem wr_mod (w : Nat) (s : Bool) (n : Int) : wr w s n % 2 ^ w = n % 2 ^ w := by
  unfold wr
  rw [Int.add_emod, Int.emod_emod_of_dvd _ (Int.dvd_refl _), ← Int.add_emod]
  congr 1; omega
theorem wr_cong {w : Nat} {s : Bool} {a b : Int} (h : a % 2 ^ w = b % 2 ^ w) : wr w s a = wr w s b := by
  unfold wr
  have e : (a - loK w s) % 2 ^ w = (b - loK w s) % 2 ^ w := by rw [Int.sub_emod, h, ← Int.sub_emod]
  rw [e]
theorem wr_val {w : Nat} {s : Bool} {a x : Int} (h1 : loK w s ≤ x) (h2 : x ≤ hiK w s) (h : a % 2 ^ w = x % 2 ^ w) : wr w s a = x := (wr_cong h).trans (wr_id h1 h2)
theorem mod_add {m a b c d : Int} (h : a % m = b % m) (g : c % m = d % m) : (a + c) % m = (b + d) % m := by rw [Int.add_emod, h, g, ← Int.add_emod]
theorem mod_sub {m a b c d : Int} (h : a % m = b % m) (g : c % m = d % m) : (a - c) % m = (b - d) % m := by rw [Int.sub_emod, h, g, ← Int.sub_emod]
theorem mod_mul {m a b c d : Int} (h : a % m = b % m) (g : c % m = d % m) : (a * c) % m = (b * d) % m := by rw [Int.mul_emod, h, g, ← Int.mul_emod]
theorem cong_ex {m a b : Int} (h : a % m = b % m) : ∃ t, a = b + m * t := ⟨a / m - b / m, by
  have e1 := Int.emod_def a m
  have e2 := Int.emod_def b m
  rw [Int.mul_sub]; omega⟩
theorem cong_of {m a b t : Int} (h : a = b + m * t) : a % m = b % m := by rw [h, Int.add_mul_emod_self_left]
theorem p2S (w : Nat) : (2 : Int) ^ (w + 1) = 2 * 2 ^ w := by rw [Int.pow_succ, Int.mul_comm]
theorem cong_half {w : Nat} {a b : Int} (h : a % 2 ^ (w + 1) = b % 2 ^ (w + 1)) : a % 2 = b % 2 ∧ a / 2 % 2 ^ w = b / 2 % 2 ^ w := by
  obtain ⟨t, ht⟩ := cong_ex h
  rw [p2S, Int.mul_assoc] at ht
  have e : a / 2 = b / 2 + 2 ^ w * t := by rw [ht, Int.add_mul_ediv_left _ _ (by decide)]
  exact ⟨by rw [ht, Int.add_mul_emod_self_left], cong_of e⟩
theorem cong_dbl {w : Nat} {a b c : Int} (h : a % 2 ^ w = b % 2 ^ w) : (2 * a + c) % 2 ^ (w + 1) = (2 * b + c) % 2 ^ (w + 1) := by
  obtain ⟨t, ht⟩ := cong_ex h
  refine cong_of (t := t) ?_
  rw [p2S, ht, Int.mul_add, Int.mul_assoc]; omega
/-! bits -/
open PySem.Builtin in
theorem and_cong : ∀ (w : Nat) {a a' : Int} (b : Int), a % 2 ^ w = a' % 2 ^ w → bitAnd a b % 2 ^ w = bitAnd a' b % 2 ^ w
  | 0, a, a', b, _ => by rw [Int.pow_zero, Int.emod_one, Int.emod_one]
  | w + 1, a, a', b, h => by
    obtain ⟨h2, hd⟩ := cong_half h
    rw [PySem.W.kbt_halves a b, PySem.W.kbt_halves a' b, h2]
    exact cong_dbl (and_cong w (b / 2) hd)
open PySem.Builtin in
theorem xor_cong (w : Nat) {a a' : Int} (b : Int) (h : a % 2 ^ w = a' % 2 ^ w) : bitXor a b % 2 ^ w = bitXor a' b % 2 ^ w := by
  rw [PyProof.Rows.bitXor_and, PyProof.Rows.bitXor_and]
  exact mod_sub (mod_add h rfl) (mod_mul rfl (and_cong w b h))
open PySem.Builtin in
theorem xor_halves (x y : Int) : bitXor x y = 2 * bitXor (x / 2) (y / 2) + (x + y) % 2 := by
  rw [PyProof.Rows.bitXor_and, PyProof.Rows.bitXor_and, PySem.W.kbt_halves x y]
  have e1 := Int.emod_def x 2
  have e2 := Int.emod_def y 2
  have := Int.emod_two_eq x
  have := Int.emod_two_eq y
  split <;> omega
open PySem.Builtin in
theorem xor_back : ∀ (w : Nat) (x y : Int), bitXor (bitXor x y) y % 2 ^ w = x % 2 ^ w
  | 0, x, y => by rw [Int.pow_zero, Int.emod_one, Int.emod_one]
  | w + 1, x, y => by
    have e := xor_halves x y
    have h2 : bitXor x y / 2 = bitXor (x / 2) (y / 2) := by omega
    have e3 := xor_halves (bitXor x y) y
    rw [h2] at e3
    have e4 : x = 2 * (x / 2) + x % 2 := by omega
    have e5 : (bitXor x y + y) % 2 = x % 2 := by omega
    rw [e3, e5]
    exact (cong_dbl (xor_back w (x / 2) (y / 2))).trans (congrArg (· % 2 ^ (w + 1)) e4.symm)
/-! division -/
theorem tz_eq {x y : Int} (hy : y ≠ 0) : x - y * tz x y = if x < 0 then -(ab x % ab y) else ab x % ab y := by
  have e := Int.emod_def (ab x) (ab y)
  by_cases hx : x < 0 <;> by_cases hy : y < 0
  · have t : tz x y = ab x / ab y := by unfold tz; rw [decide_eq_true hx, decide_eq_true hy, if_pos rfl]
    have ex : x = -(ab x) := by unfold ab; rw [if_pos hx]; omega
    have ey : y = -(ab y) := by unfold ab; rw [if_pos hy]; omega
    rw [if_pos hx, t, e]
    generalize ab x / ab y = q
    generalize ab x = A at ex
    generalize ab y = B at ey
    rw [ex, ey, Int.neg_mul]; omega
  · have t : tz x y = -(ab x / ab y) := by unfold tz; rw [decide_eq_true hx, decide_eq_false hy, if_neg (by decide)]
    have ex : x = -(ab x) := by unfold ab; rw [if_pos hx]; omega
    have ey : y = ab y := by unfold ab; rw [if_neg hy]
    rw [if_pos hx, t, e]
    generalize ab x / ab y = q
    generalize ab x = A at ex
    generalize ab y = B at ey
    rw [ex, ey, Int.mul_neg]; omega
  · have t : tz x y = -(ab x / ab y) := by unfold tz; rw [decide_eq_false hx, decide_eq_true hy, if_neg (by decide)]
    have ex : x = ab x := by unfold ab; rw [if_neg hx]
    have ey : y = -(ab y) := by unfold ab; rw [if_pos hy]; omega
    rw [if_neg hx, t, e]
    generalize ab x / ab y = q
    generalize ab x = A at ex
    generalize ab y = B at ey
    rw [ex, ey, Int.neg_mul_neg]
  · have t : tz x y = ab x / ab y := by unfold tz; rw [decide_eq_false hx, decide_eq_false hy, if_pos rfl]
    have ex : x = ab x := by unfold ab; rw [if_neg hx]
    have ey : y = ab y := by unfold ab; rw [if_neg hy]
    rw [if_neg hx, t, e]
    generalize ab x / ab y = q
    generalize ab x = A at ex
    generalize ab y = B at ey
    rw [ex, ey]
theorem tz_spec {x y : Int} (hy : y ≠ 0) : (x - y * tz x y).natAbs < y.natAbs ∧ (x - y * tz x y = 0 ∨ (x - y * tz x y < 0 ↔ x < 0)) ∧ (x - y * tz x y).natAbs ≤ x.natAbs := by
  have ea := ab_abs x
  have eb := ab_abs y
  have hb : 0 < ab y := by omega
  have h0 := Int.emod_nonneg (ab x) (Int.ne_of_gt hb)
  have h1 := Int.emod_lt_of_pos (ab x) hb
  have hq : ab x % ab y ≤ ab x := by
    have e := Int.emod_def (ab x) (ab y)
    have a0 : 0 ≤ ab x := by omega
    have := Int.mul_nonneg (Int.le_of_lt hb) (Int.ediv_nonneg a0 (Int.le_of_lt hb))
    omega
  rw [tz_eq hy]
  generalize ab x % ab y = r at *
  split <;> omega
theorem tz_abs {x y : Int} : (tz x y).natAbs ≤ x.natAbs := by
  have ea := ab_abs x
  have eb := ab_abs y
  have a0 : 0 ≤ ab x := by omega
  have q0 := Int.ediv_nonneg a0 (show 0 ≤ ab y by omega)
  have q1 : ab x / ab y ≤ ab x := by
    by_cases h : ab y = 0
    · rw [h, Int.ediv_zero]; exact a0
    · exact Int.ediv_le_self _ a0
  unfold tz
  split <;> omega
/-- the remainder is a value -/
theorem rem_val {w : Nat} {s : Bool} {x y : Int} (hw : 1 ≤ w) (h1 : loK w s ≤ x) (h2 : x ≤ hiK w s) (hy : y ≠ 0) : loK w s ≤ x - y * tz x y ∧ x - y * tz x y ≤ hiK w s := by
  obtain ⟨a, b, c⟩ := tz_spec (x := x) hy
  have hp := p2 (w - 1)
  have e := p2s hw
  have l : loK w s ≤ 0 ∧ 0 ≤ hiK w s := by unfold hiK loK; split <;> omega
  rcases b with b | b
  · rw [b]; exact l
  · omega
/-! inverses -/
theorem inv_uniq {m a b c : Int} (h1 : a * b % m = 1 % m) (h2 : b * c % m = 1 % m) : c % m = a % m := by
  have e1 : a * b * c % m = 1 * c % m := mod_mul h1 rfl
  have e2 : a * (b * c) % m = a * 1 % m := mod_mul rfl h2
  rw [Int.one_mul, Int.mul_assoc] at e1
  rw [Int.mul_one] at e2
  exact e1.symm.trans e2
theorem pdp {a b : Nat} (h : a ≤ b) : (2 : Int) ^ a ∣ 2 ^ b := ⟨2 ^ (b - a), by rw [← Int.pow_add]; congr 1; omega⟩
/-- one step of Newton's -/
theorem newton {w d : Nat} {x y z : Int} (h : (2 : Int) ^ min w d ∣ x * y - 1) (hz : z % 2 ^ w = y * (2 - x * y) % 2 ^ w) : (2 : Int) ^ min w (2 * d) ∣ x * z - 1 := by
  obtain ⟨t, ht⟩ := cong_ex hz
  obtain ⟨u, hu⟩ := h
  have e : x * z - 1 = -((x * y - 1) * (x * y - 1)) + 2 ^ w * (x * t) := by
    rw [ht]
    have q1 : x * (y * (2 - x * y) + 2 ^ w * t) = x * y * (2 - x * y) + 2 ^ w * (x * t) := by
      rw [Int.mul_add, ← Int.mul_assoc x y, Int.mul_left_comm x]
    rw [q1]
    generalize x * y = k
    have q2 : k * (2 - k) = 2 * k - k * k := by rw [Int.mul_sub, Int.mul_comm k 2]
    have q3 : (k - 1) * (k - 1) = k * k - 2 * k + 1 := by rw [Int.sub_mul, Int.mul_sub, Int.mul_one, Int.one_mul]; omega
    rw [q2, q3]; omega
  rw [e]
  refine Int.dvd_add (Int.dvd_neg.mpr ?_) ?_
  · rw [hu]
    have q : (2 : Int) ^ min w d * u * (2 ^ min w d * u) = 2 ^ (min w d + min w d) * (u * u) := by
      rw [Int.pow_add]
      rw [Int.mul_assoc, Int.mul_assoc, Int.mul_left_comm u]
    rw [q]
    exact Int.dvd_trans (pdp (by omega)) (Int.dvd_mul_right _ _)
  · exact Int.dvd_trans (pdp (Nat.min_le_left _ _)) (Int.dvd_mul_right _ _)
/-! how often 2 divides -/
theorem two_ex : ∀ (n : Nat) (x : Int), x.natAbs ≤ n → x ≠ 0 → ∃ (k : Nat) (a : Int), x = 2 ^ k * (2 * a + 1)
  | 0, x, h, hx => absurd (by omega) hx
  | n + 1, x, h, hx => by
    by_cases e : x % 2 = 0
    · obtain ⟨k, a, q⟩ := two_ex n (x / 2) (by omega) (by omega)
      refine ⟨k + 1, a, ?_⟩
      rw [p2S, Int.mul_assoc, ← q]; omega
    · exact ⟨0, x / 2, by rw [Int.pow_zero]; omega⟩
theorem bits_pow (k : Nat) : PySem.Builtin.Int.intBits (2 ^ k) = k + 1 := by
  unfold PySem.Builtin.Int.intBits
  have e : ((2 : Int) ^ k).natAbs = 2 ^ k := by rw [Int.natAbs_pow]; rfl
  have n : ¬ (((2 : Int) ^ k == 0) = true) := by
    have := p2 k
    simp only [beq_iff_eq]; omega
  rw [if_neg n, e, Nat.log2_two_pow]
/-- a value with k twos has fewer than w -/
theorem twos_lt {w k : Nat} {s : Bool} {x a : Int} (h1 : loK w s ≤ x) (h2 : x ≤ hiK w s) (hw : 1 ≤ w) (h : x = 2 ^ k * (2 * a + 1)) : k < w := by
  refine Nat.lt_of_not_le fun hk => ?_
  obtain ⟨j, rfl⟩ : ∃ j, k = w + j := ⟨k - w, by omega⟩
  have e := p2s hw
  have hp := p2 (w - 1)
  have hj := p2 j
  rw [Int.pow_add, Int.mul_assoc] at h
  have hl : -(2 ^ (w - 1)) ≤ loK w s ∧ hiK w s < 2 ^ w := by unfold hiK loK; split <;> omega
  generalize hc : 2 ^ j * (2 * a + 1) = c at h
  have c0 : c ≠ 0 := by
    rw [← hc]
    exact Int.mul_ne_zero (Int.ne_of_gt hj) (by omega)
  have : c ≤ -1 ∨ 1 ≤ c := by omega
  rcases this with q | q
  · have := Int.mul_le_mul_of_nonneg_left q (Int.le_of_lt (p2 w)); omega
  · have := Int.mul_le_mul_of_nonneg_left q (Int.le_of_lt (p2 w)); omega

theorem lo_half {wd : Nat} (h : 1 ≤ wd) : 0 - (2 : Int) ^ wd / 2 = loK wd true := by
  have e := p2s h
  have hp := p2 (wd - 1)
  unfold loK
  rw [if_pos rfl]; omega
theorem b129' {w : Nat} {s : Bool} {x : Int} (hw : w ≤ 128) (h1 : loK w s ≤ x) (h2 : x ≤ hiK w s) : x.natAbs < 2 ^ 129 := lt_130 hw (val_bits h1 h2)
theorem b129m {w : Nat} (hw : w ≤ 128) (x : Int) : (x % 2 ^ w).natAbs < 2 ^ 129 := by
  have h0 := Int.emod_nonneg x (Int.ne_of_gt (p2 w))
  have h1 := Int.emod_lt_of_pos x (p2 w)
  have c : ((2 ^ w : Nat) : Int) = (2 : Int) ^ w := Int.natCast_pow 2 w
  have q : (x % 2 ^ w).natAbs < 2 ^ w := Int.ofNat_lt.mp (by rw [c]; omega)
  exact Nat.lt_of_lt_of_le q (Nat.pow_le_pow_right (by decide) (by omega))
theorem b129p {w : Nat} (hw : w ≤ 128) : ((2 : Int) ^ w).natAbs < 2 ^ 8999 := by
  rw [Int.natAbs_pow]; exact Nat.pow_lt_pow_right (by decide) (by omega)
theorem wr_dvd {w : Nat} {s : Bool} {a b : Int} (h : (2 : Int) ^ w ∣ a - b) : wr w s a = wr w s b := wr_cong (gmd.mpr h)
theorem dvd_wr (w : Nat) (s : Bool) (a : Int) : (2 : Int) ^ w ∣ wr w s a - a := gmd.mp (wr_mod w s a)
theorem wr_dvd_iff {w : Nat} {s : Bool} {a b : Int} : wr w s a = wr w s b ↔ (2 : Int) ^ w ∣ a - b := by
  refine ⟨fun h => ?_, wr_dvd⟩
  have h1 := dvd_wr w s a
  rw [h] at h1
  exact gdvT (gdvS h1) (dvd_wr w s b)
/-- a value of a kind -/
def Iv (w : Nat) (s : Bool) (x : Int) : Prop := loK w s ≤ x ∧ x ≤ hiK w s
theorem Iv.b {w : Nat} {s : Bool} {x : Int} (h : Iv w s x) (hw : w ≤ 128) : x.natAbs < 2 ^ 129 := b129' hw h.1 h.2
theorem Iv.wr {w : Nat} {s : Bool} {x : Int} : Iv w s (wr w s x) := ⟨wr_lo _ _ _, wr_hi _ _ _⟩
theorem Iv.id {w : Nat} {s : Bool} {x : Int} (h : Iv w s x) : Fw.wr w s x = x := wr_id h.1 h.2
theorem dvd_val {w : Nat} {s : Bool} {x y : Int} (hx : Iv w s x) (hy : Iv w s y) : x = y ↔ (2 : Int) ^ w ∣ x - y := by
  rw [← wr_dvd_iff (s := s), hx.id, hy.id]
/-- how the length of a ring is told -/
def RingL (w : Nat) (a c y : Int) (i : Nat) : Prop := i ≤ w ∧ (2 : Int) ^ w ∣ gIt a c (2 ^ i) y - y ∧ ∀ j, j < i → ¬ (2 : Int) ^ w ∣ gIt a c (2 ^ j) y - y
theorem gper_cong {S a c y y' : Int} (n : Nat) (h : S ∣ y - y') : S ∣ gIt a c n y - y ↔ S ∣ gIt a c n y' - y' := by
  have e := gIt_congx (a := a) (c := c) n h
  exact ⟨fun g => gdvT (gdvS e) (gdvT g h), fun g => gdvT e (gdvT g (gdvS h))⟩
theorem RingL.cong {w : Nat} {a c y y' : Int} {i : Nat} (h : (2 : Int) ^ w ∣ y - y') (r : RingL w a c y i) : RingL w a c y' i :=
  ⟨r.1, (gper_cong _ h).mp r.2.1, fun j hj z => r.2.2 j hj ((gper_cong _ h).mpr z)⟩
def LeadN (w : Nat) (a c x : Int) (l : Nat) : Prop := (a % 2 = 1 → l = 0) ∧ (a % 2 = 0 → l ≤ w ∧ (2 : Int) ^ w ∣ gIt a c l x - gIt a c w x ∧ ∀ k, k < l → ¬ (2 : Int) ^ w ∣ gIt a c k x - gIt a c w x)
theorem ring_even {w : Nat} {a c x : Int} {l : Nat} (ha : a % 2 = 0) (h : LeadN w a c x l) : (2 : Int) ^ w ∣ gIt a c (2 ^ 0) (gIt a c l x) - gIt a c l x := by
  obtain ⟨_, h1, _⟩ := h.2 ha
  have e : (2 : Int) ^ w ∣ gIt a c 1 (gIt a c w x) - gIt a c w x := by
    rw [← gIt_add]; exact gIt_even ha c (by omega) x
  exact (gper_cong 1 h1).mpr e

theorem lohi (wd : Nat) (s : Bool) : hiK wd s = loK wd s + 2 ^ wd - 1 := rfl

def optV : Option Nat → V
  | none => .non
  | some n => .int (n : Int)
/-- what all_steps tells: None, or a new pair -/
def AllV (H : Hp) (w : Nat) (a c x y : Int) (v : V) : Prop := (v = .non ∧ LsR w a c x y none) ∨ ∃ (q : Addr) (n l : Nat), v = .ref q ∧ H q = some (.tup [.int (n : Int), .int (l : Int)]) ∧ LsR w a c x y (some n) ∧ PerR w a c x y l
theorem isnot_opt {H : Hp} {Q : VK} {o : Option Nat} (q : Q (.bl o.isSome) H) : (V.non = .non ∧ Q (.bl (!decide (optV o = V.non))) H) := by
  refine ⟨rfl, ?_⟩
  cases o <;> exact q
theorem is_opt {H : Hp} {Q : VK} {o : Option Nat} (q : Q (.bl (!o.isSome)) H) : rIsNn (optV o) .non H Q := by
  refine ⟨rfl, ?_⟩
  cases o <;> exact q
theorem AllV.same {H H' : Hp} {w : Nat} {a c x y : Int} {v : V} (h : AllV H w a c x y v) (s : Same H H') : AllV H' w a c x y v := by
  rcases h with h | ⟨q, n, l, e, h, r⟩
  · exact .inl h
  · exact .inr ⟨q, n, l, e, s _ _ h, r⟩

theorem eq_ints {i j : Int} : eqV (.int i) (.int j) = decide (i = j) := by
  show (i == j) = _
  rfl
theorem sh_non : SeqAt.shaped .none = true := by decide +kernel
theorem sh_pair (n l : Int) : SeqAt.shaped (.tuple [.int n, .int l]) = true := by
  unfold SeqAt.shaped
  simp [PyData.canLay0, PyData.canLayAll0, PyData.depth, PyData.depthAll]
theorem eqv_pair (n l : Int) : PyData.eqv (.tuple [.int n, .int l]) (.tuple [.int n, .int l]) = true := PySem.SeqAt.eqv_refl _ (by simp [PyData.canLay0, PyData.canLayAll0])
theorem dp_pair {K : PySem.W.Frag} {H : Hp} {q : Addr} {n l : Int} (h : H q = some (.tup [.int n, .int l])) : Dp K H (.ref q) (.tuple [.int n, .int l]) := .tup (SqT.of h) (.cons (.int n) (.cons (.int l) .nil))
theorem use_two {K : PySem.W.Frag} {H : Hp} {Q : VK} {w : Nat} {a c x y : Int} {v u : V} (h : AllV H w a c x y v) (g : AllV H w a c x y u) (q : Q (.bl false) H) : rNeD K v u H Q := by
  rcases h with ⟨rfl, l1⟩ | ⟨q1, n1, ll, rfl, h1, l1, p1⟩ <;> rcases g with ⟨rfl, l2⟩ | ⟨q2, n2, l', rfl, h2, l2, p2⟩
  · refine w_neDg .non .non sh_non sh_non ?_
    rw [show PyData.eqv .none .none = true by simp [PyData.eqv]]; exact q
  · cases l1.uniq l2
  · cases l1.uniq l2
  · obtain rfl : n1 = n2 := Option.some.inj (l1.uniq l2)
    obtain rfl := p1.uniq p2
    refine w_neDg (dp_pair h1) (dp_pair h2) (sh_pair _ _) (sh_pair _ _) ?_
    rw [eqv_pair]; exact q

theorem w_iRng3j {σ : L2.St} {H : Hp} {ta : TA} {R : It → Hp → Prop} (q : ta σ H fun vs H1 => ∃ (i j c : Int) (n : Nat), vs = [.int i, .int j, .int c] ∧ RgC i j c n ∧ R (Itc i c n) H1) : iRng3 ta σ H R := q
/-- the families of a row of pairs -/
def SetOf (H : Hp) (rs : List V) : Fam := fun f e => ∃ q : Addr, V.ref q ∈ rs ∧ H q = some (.tup [.int f, .int (e : Int)])
/-- a row holds just these families -/
def FamOf (H : Hp) (rs : List V) (S : Fam) : Prop :=
  (∀ r ∈ rs, ∃ (q : Addr) (f : Int) (e : Nat), r = .ref q ∧ H q = some (.tup [.int f, .int (e : Int)]) ∧ S f e) ∧ ∀ f e, S f e → ∃ q : Addr, V.ref q ∈ rs ∧ H q = some (.tup [.int f, .int (e : Int)])

section
variable {w : Nat} {a c x y : Int} {l i : Nat}
theorem rg_more (hr : RingL w a c (gIt a c l x) i) {n : Nat} (hn : l ≤ n) (k : Nat) : (2 : Int) ^ w ∣ gIt a c (n + 2 ^ i * k) x - gIt a c n x := by
  obtain ⟨r, rfl⟩ : ∃ r, n = l + r := ⟨n - l, by omega⟩
  have h := gper_mul hr.2.1 k
  rw [show l + r + 2 ^ i * k = l + (2 ^ i * k + r) by omega, gIt_add a c l (2 ^ i * k + r) x, gIt_add a c l r x, gIt_add a c (2 ^ i * k) r]
  exact gIt_congx r h
def dueN (N l i : Nat) : Nat := if N < l then N else l + (N - l) % 2 ^ i
theorem due_hit (hr : RingL w a c (gIt a c l x) i) (N : Nat) : (2 : Int) ^ w ∣ gIt a c (dueN N l i) x - gIt a c N x := by
  unfold dueN
  split
  · exact gdv0
  · have h := rg_more hr (n := l + (N - l) % 2 ^ i) (by omega) ((N - l) / 2 ^ i)
    have e := Nat.mod_add_div (N - l) (2 ^ i)
    rw [show l + (N - l) % 2 ^ i + 2 ^ i * ((N - l) / 2 ^ i) = N by omega] at h
    exact gdvS h
theorem rg_dvd (ha : a % 2 = 1) (hl : LeadN w a c x l) (hr : RingL w a c (gIt a c l x) i) {p : Nat} (h : (2 : Int) ^ w ∣ gIt a c p x - x) : 2 ^ i ∣ p := by
  obtain rfl := hl.1 ha
  exact (gper_dvd ha hr.2.1 hr.2.2).mp h
theorem due_min (hl : LeadN w a c x l) (hr : RingL w a c (gIt a c l x) i) (he : a % 2 = 0 → i = 0) {N m : Nat} (hm : m < dueN N l i) : ¬ (2 : Int) ^ w ∣ gIt a c m x - gIt a c N x := by
  intro h
  have h := gdvT h (gdvS (due_hit hr N))
  obtain ⟨p, hp⟩ : ∃ p, dueN N l i = p + m := ⟨dueN N l i - m, by omega⟩
  rcases Int.emod_two_eq a with ae | ao
  · obtain rfl := he ae
    have ml : m < l := by unfold dueN at hm; split at hm <;> omega
    rw [hp, show p + m = m + p by omega, gIt_add a c m p x] at h
    have g := gper_mul (gdvS h) w
    rw [← gIt_add a c m (p * w) x] at g
    have p1 : w ≤ m + p * w := by
      have : 1 * w ≤ p * w := Nat.mul_le_mul_right w (by omega)
      omega
    exact (hl.2 ae).2.2 m ml (gdvT (gdvS g) (gIt_even ae c p1 x))
  · rw [hp, gIt_add a c p m x] at h
    have d := rg_dvd ao hl hr (gdvS (gcancel ao m h))
    obtain rfl := hl.1 ao
    have lt : dueN N 0 i < 2 ^ i := by
      unfold dueN
      rw [if_neg (by omega)]
      have := Nat.mod_lt (N - 0) (Nat.two_pow_pos i)
      omega
    have := Nat.le_of_dvd (by omega) d
    omega
theorem LsR.due (hl : LeadN w a c x l) (hr : RingL w a c (gIt a c l x) i) (he : a % 2 = 0 → i = 0) {N : Nat} (hy : (2 : Int) ^ w ∣ y - gIt a c N x) {o : Option Nat} (h : LsR w a c x y o) : o = some (dueN N l i) :=
  h.uniq (.inr ⟨_, rfl, gdvT (due_hit hr N) (gdvS hy), fun m hm z => due_min hl hr he hm (gdvT z hy)⟩)
theorem PerR.due (hl : LeadN w a c x l) (hr : RingL w a c (gIt a c l x) i) (he : a % 2 = 0 → i = 0) {N : Nat} (hy : (2 : Int) ^ w ∣ y - gIt a c N x) {ll : Nat} (h : PerR w a c x y ll) : ll = if N < l then 0 else 2 ^ i := by
  rcases Int.emod_two_eq a with ae | ao
  · obtain rfl := he ae
    obtain ⟨h1, h2⟩ := h.2 ae
    split
    · rename_i lt
      refine h2 fun z => ?_
      have z := gIt_fix ((gper_cong 1 hy).mp z) w
      rw [← gIt_add] at z
      exact (hl.2 ae).2.2 N lt (gdvT (gdvS z) (gIt_even ae c (by omega) x))
    · rename_i ge
      refine h1 ((gper_cong 1 (gdvT hy ?_)).mpr (ring_even ae hl))
      have := rg_more hr (Nat.le_refl l) (N - l)
      rw [show l + 2 ^ 0 * (N - l) = N by rw [Nat.pow_zero]; omega] at this
      exact this
  · obtain ⟨j, rfl, _, h1, h2⟩ := h.1 ao
    obtain rfl := hl.1 ao
    rw [if_neg (by omega)]
    rcases Nat.lt_trichotomy i j with z | z | z
    · exact absurd hr.2.1 (h2 i z)
    · rw [z]
    · exact absurd h1 (hr.2.2 j z)
/-- two numbers of steps that lead from y to one value -/
theorem rg_two (hl : LeadN w a c x l) (hr : RingL w a c (gIt a c l x) i) (he : a % 2 = 0 → i = 0) {N k m : Nat} (hy : (2 : Int) ^ w ∣ y - gIt a c N x) (km : k ≤ m) (h : (2 : Int) ^ w ∣ gIt a c k y - gIt a c m y) : 2 ^ i ∣ m - k := by
  rcases Int.emod_two_eq a with ae | ao
  · rw [he ae]; exact Nat.one_dvd _
  · obtain ⟨p, rfl⟩ : ∃ p, m = p + k := ⟨m - k, by omega⟩
    rw [gIt_add a c p k y] at h
    have h1 := gcancel ao k h
    have h2 := (gper_cong p hy).mp (gdvS h1)
    rw [← gIt_add a c N p x, Nat.add_comm N p, gIt_add a c p N x] at h2
    rw [Nat.add_sub_cancel]
    exact rg_dvd ao hl hr (gcancel ao N h2)
/-- back again, where there is no lead -/
theorem rg_back (hl : LeadN w a c x 0) (hr : RingL w a c (gIt a c 0 x) i) (he : a % 2 = 0 → i = 0) {N : Nat} (hy : (2 : Int) ^ w ∣ y - gIt a c N x) {o : Option Nat} (h : LsR w a c y x o) : ∃ k, o = some k ∧ 2 ^ i ∣ dueN N 0 i + k := by
  rcases Int.emod_two_eq a with ae | ao
  · have fx := ring_even ae hl
    obtain ⟨k, e, _, _⟩ := h.of_hit (n := 0) (gdvT hy (gIt_fix fx N))
    exact ⟨k, e, by rw [he ae]; exact Nat.one_dvd _⟩
  · have p := Nat.one_le_two_pow (n := w)
    have le : N ≤ 2 ^ w * N := Nat.le_mul_of_pos_left N (Nat.two_pow_pos w)
    obtain ⟨k, e, _, hk⟩ := h.of_hit (n := 2 ^ w * N - N) (by
      refine gdvT (gIt_congx _ hy) ?_
      rw [← gIt_add, show N + (2 ^ w * N - N) = 2 ^ w * N by omega]
      exact gIt_fullm ao c w N x)
    refine ⟨k, e, rg_dvd ao hl hr ?_⟩
    rw [gIt_add]
    exact gdvT (gIt_congx k (gdvT (due_hit hr N) (gdvS hy))) hk
theorem LsR.short (hr : RingL w a c (gIt a c l x) i) {k : Nat} (h : LsR w a c x y (some k)) : k < l + 2 ^ i := by
  obtain ⟨h1, h2⟩ := h.get
  refine Nat.lt_of_not_le fun z => ?_
  have p := Nat.two_pow_pos i
  have g := rg_more hr (n := k - 2 ^ i) (by omega) 1
  rw [Nat.mul_one, show k - 2 ^ i + 2 ^ i = k by omega] at g
  exact h2 (k - 2 ^ i) (by omega) (gdvT (gdvS g) h1)
end

theorem nop_kf (wd : Nat) (s : Bool) : (kf wd s).lookup ("parts" : Str) = none := by
  have q1 : (("parts" : Str) == ("bits" : Str)) = false := by decide +kernel
  have q2 : (("parts" : Str) == ("is_signed" : Str)) = false := by decide +kernel
  unfold kf; simp [List.lookup, q1, q2]
theorem lead_fix {w : Nat} {a c x : Int} {l : Nat} (hl : LeadN w a c x l) : a % 2 = 1 ∨ (2 : Int) ^ w ∣ gIt a c 1 (gIt a c l x) - gIt a c l x := by
  rcases Int.emod_two_eq a with e | e
  · exact .inr (ring_even e hl)
  · exact .inl e
/-- on the ring there is no lead -/
theorem lead_zero {w : Nat} {a c s y : Int} {m l : Nat} (h : a % 2 = 1 ∨ (2 : Int) ^ w ∣ gIt a c 1 s - s) (hy : (2 : Int) ^ w ∣ y - gIt a c m s) (hl : LeadN w a c y l) : l = 0 := by
  rcases Int.emod_two_eq a with e | e
  · refine Nat.eq_zero_of_not_pos fun z => (hl.2 e).2.2 0 z ?_
    have fx : (2 : Int) ^ w ∣ gIt a c 1 s - s := h.resolve_left (by omega)
    have f2 := gIt_fix fx m
    have f3 : (2 : Int) ^ w ∣ gIt a c w y - y := (gper_cong w (gdvT hy f2)).mpr (gIt_fix fx w)
    exact gdvS f3
  · exact hl.1 e
theorem ring_same {w : Nat} {a c s y : Int} {m i i' : Nat} (ho : a % 2 = 1) (hy : (2 : Int) ^ w ∣ y - gIt a c m s) (hr : RingL w a c s i) (hr' : RingL w a c y i') : i' = i := by
  have q : ∀ p, (2 : Int) ^ w ∣ gIt a c p y - y ↔ (2 : Int) ^ w ∣ gIt a c p s - s := fun p => by
    rw [gper_cong p hy, ← gIt_add, Nat.add_comm, gIt_add]
    exact ⟨gcancel ho m, gIt_congx m⟩
  rcases Nat.lt_trichotomy i' i with z | z | z
  · exact absurd ((q _).mp hr'.2.1) (hr.2.2 i' z)
  · exact z
  · exact absurd ((q _).mpr hr.2.1) (hr'.2.2 i z)

theorem g_split {w e : Nat} {n : Int} (h : gv w n = e) (lt : e < w) : ∃ m, n = 2 ^ e * (2 * m + 1) := by
  obtain ⟨q, hq⟩ := gv_dvd w n
  rw [h] at hq
  rcases Int.emod_two_eq q with z | z
  · exfalso
    have : e + 1 ≤ gv w n := (gv_iff _ _ _).mpr ⟨by omega, ⟨q / 2, by rw [hq, Int.pow_succ, Int.mul_assoc]; congr 1; omega⟩⟩
    omega
  · exact ⟨q / 2, by rw [hq]; congr 1; omega⟩
theorem it_1 {a c s : Int} : gIt a c 2 s - s = (a + 1) * (gIt a c 1 s - s) := by
  have := it_two (a := a) (c := c) 0 s
  rw [Nat.pow_zero, Int.pow_succ, Int.pow_zero, Int.one_mul] at this
  exact this
section
variable {w : Nat} {a c s : Int}
theorem gv_1 (hb : gv w (a + 1) = 1) : gv w (gIt a c 2 s - s) = min w (gv w (gIt a c 1 s - s) + 1) := by rw [it_1, gv_mul, hb]; omega
theorem ring_i1 (ao : a % 2 = 1) (hb : gv w (a + 1) = 1) {i : Nat} (hr : RingL w a c s i) : i = w - gv w (gIt a c 1 s - s) := by
  have l := gv_le w (gIt a c 1 s - s)
  rcases ring_len (.inl ao) (gv_1 hb) hr.2.1 hr.2.2 with ⟨d, e⟩ | ⟨d, e⟩
  · have := (gv_iff _ _ _).mpr ⟨Nat.min_le_left _ _, d⟩
    omega
  · have : gv w (gIt a c 1 s - s) ≠ w := fun z => d (by rw [z, Nat.min_eq_left (by omega)]; exact gv_full.mpr z)
    omega
theorem onR_1 (ao : a % 2 = 1) (hb : gv w (a + 1) = 1) (z : Int) : OnR w a c s z ↔ (2 : Int) ^ gv w (gIt a c 1 s - s) ∣ z - s := by
  obtain ⟨e, he⟩ : ∃ e, gv w (gIt a c 1 s - s) = e := ⟨_, rfl⟩
  have l : e ≤ w := by rw [← he]; exact gv_le _ _
  rw [he]
  by_cases ew : e = w
  · rw [ew] at he ⊢
    exact onR_fix (gv_full.mpr he) z
  · have hv : gv w (gIt a c 2 s - s) = e + 1 := by rw [gv_1 hb, he]; omega
    rw [onR_odd ao hv]
    obtain ⟨m, hm⟩ := g_split he (by omega)
    have cg : (2 : Int) ^ (e + 1) ∣ gIt a c 1 s - (s + 2 ^ e) := ⟨m, by rw [show gIt a c 1 s - (s + 2 ^ e) = (gIt a c 1 s - s) - 2 ^ e by omega, hm, Int.pow_succ, Int.mul_add, Int.mul_one, Int.mul_assoc]; omega⟩
    constructor
    · rintro (h | h)
      · exact (halves (k := e + 1) (by omega) z s).mpr (.inl h)
      · exact (halves (k := e + 1) (by omega) z s).mpr (.inr (gdvT h cg))
    · intro h
      rcases (halves (k := e + 1) (by omega) z s).mp h with h | h
      · exact .inl h
      · exact .inr (gdvT h (gdvS cg))
theorem res_row {e : Nat} (l : e ≤ w) : NRow w [(s % 2 ^ e, e)] ∧ ∀ z, Cover (famL [(s % 2 ^ e, e)]) z ↔ (2 : Int) ^ e ∣ z - s :=
  ⟨NRow.one (Int.emod_nonneg _ (Int.ne_of_gt (gpos e))) (Int.emod_lt_of_pos _ (gpos e)) l, fun z => by
    rw [cover_one]
    exact ⟨fun h => gdvT h Int.dvd_emod_sub_self, fun h => gdvT h (gdvS Int.dvd_emod_sub_self)⟩⟩
theorem two_list {v : Nat} {f g : Int} (v1 : 1 ≤ v) (vw : v ≤ w) (f0 : 0 ≤ f) (g1 : g < 2 ^ v) (lt : f < g) (ne : g ≠ f + 2 ^ (v - 1)) : NRow w [(f, v), (g, v)] ∧ ∀ x, Cover (famL [(f, v), (g, v)]) x ↔ (2 : Int) ^ v ∣ x - f ∨ (2 : Int) ^ v ∣ x - g := by
  have e : (2 : Int) ^ v = 2 ^ (v - 1) * 2 := by rw [← Int.pow_succ, show (v - 1).succ = v by omega]
  have mem : ∀ a b, (a, b) ∈ [(f, v), (g, v)] → b = v ∧ (a = f ∨ a = g) := fun a b hm => by
    rcases List.mem_cons.mp hm with z | z
    · obtain ⟨rfl, rfl⟩ := Prod.mk.inj z; exact ⟨rfl, .inl rfl⟩
    · obtain ⟨rfl, rfl⟩ := Prod.mk.inj (List.mem_singleton.mp z); exact ⟨rfl, .inr rfl⟩
  refine ⟨⟨?_, ⟨?_, ?_, ?_⟩⟩, fun x => ?_⟩
  · refine List.pairwise_cons.mpr ⟨fun y hy => ?_, List.pairwise_singleton _ _⟩
    rw [List.mem_singleton.mp hy]; exact .inl lt
  · intro a b hm
    obtain ⟨rfl, rfl | rfl⟩ := mem a b hm <;> refine ⟨?_, ?_, vw⟩ <;> omega
  · intro a b a' b' x h1 h2
    exact twoF_apart (v := v) (f := f) (g := g) f0 (by omega) (by omega) g1 a b a' b' x (mem a b h1) (mem a' b' h2)
  · intro k k1 kw a lt' both
    obtain ⟨rfl, ha⟩ := mem _ _ both.1
    obtain ⟨_, hb⟩ := mem _ _ both.2
    have := gpos (k - 1)
    rcases ha with rfl | rfl <;> rcases hb with hb | hb <;> omega
  · constructor
    · rintro ⟨a, b, hm, d⟩
      obtain ⟨rfl, rfl | rfl⟩ := mem a b hm
      · exact .inl d
      · exact .inr d
    · rintro (d | d)
      · exact ⟨f, v, by simp, d⟩
      · exact ⟨g, v, by simp, d⟩
end

theorem whole_ac {w : Nat} {s : Bool} {a c v1 v2 : Int} (w2 : 2 ≤ w) (ha : a = wr w s (4 * v1 + 1)) (hc : c = wr w s (2 * v2 + 1)) : a % 4 = 1 ∧ c % 2 = 1 := by
  have h1 := dvd_wr w s (4 * v1 + 1)
  have h2 := dvd_wr w s (2 * v2 + 1)
  rw [← ha] at h1
  rw [← hc] at h2
  have g1 := Int.dvd_trans (gpp w2) h1
  have g2 := Int.dvd_trans (gpp w2) h2
  have e4 : (2 : Int) ^ 2 = 4 := rfl
  rw [e4] at g1 g2
  omega
theorem whole_rl {w : Nat} {a c : Int} (w2 : 2 ≤ w) (a4 : a % 4 = 1) (c2 : c % 2 = 1) : rlR (Uc w a c) (w + 1) = [((2 : Int) ^ w, 1)] := by
  have ao : a % 2 = 1 := by omega
  have hb : gv w (a + 1) = 1 := by rw [gv_2odd (k := a / 4) (by omega)]; omega
  have hc : gv w c = 0 := gv_odd c2
  have hA : 2 ≤ gv w (a - 1) := (gv_iff _ _ _).mpr ⟨w2, ⟨a / 4, by show a - 1 = 4 * (a / 4); omega⟩⟩
  have := rl_single (U := Uc w a c) (m := w) (w := w) (Nat.le_refl _) (fun i hi => ?_) (fun i hi hi' => ?_)
  · rw [this, Nat.sub_self, Nat.pow_zero]
  · rw [Uc_un ao, hb, hc]
    cases i with
    | zero => show (if _ then _ else _) = _; rw [if_neg (by omega)]
    | succ j => show (if _ then _ else _) = _; rw [if_neg (by omega)]
  · obtain rfl : i = w := by omega
    exact Uc_full ao
structure Txt (K : PySem.W.Frag) (mg : Str → Option Value) where
  C_Kind : Addr
  cl_Kind : Cls K C_Kind
  g_Kind : mg "Kind" = some (.ref C_Kind)
  na_Kind_bits : NoAttr K C_Kind "bits"
  na_Kind_is_signed : NoAttr K C_Kind "is_signed"
  ia_Kind : PySem.W.findIn K (.ref C_Kind) "__class__" = some (some (.builtin "object.__class__"))
  ib_Kind : PySem.W.specialIn K (.builtin "object.__class__") "__get__" = some (some (.builtin "getset_descriptor.__get__"))
  ic_Kind : PySem.W.takesIn K (.builtin "object.__class__") = some true
  id_Kind : PySem.W.mroIn K C_Kind (.type "object") = some true
  f_joined : Addr
  fd_joined : FuncData
  F_joined : Fun K "joined" "joined" s_joined f_joined fd_joined
  b_joined : Binds K fd_joined ["families", "bits"] []
  g_joined : mg "joined" = some (.ref f_joined)
  k_joined : PySem.W.keepIn K (.ref f_joined) = true
  f_is_integer : Addr
  fd_is_integer : FuncData
  F_is_integer : Fun K "is_integer" "is_integer" s_is_integer f_is_integer fd_is_integer
  b_is_integer : Binds K fd_is_integer ["value"] []
  g_is_integer : mg "is_integer" = some (.ref f_is_integer)
  k_is_integer : PySem.W.keepIn K (.ref f_is_integer) = true
  f_check_integer : Addr
  fd_check_integer : FuncData
  F_check_integer : Fun K "check_integer" "check_integer" s_check_integer f_check_integer fd_check_integer
  b_check_integer : Binds K fd_check_integer ["value", "argument"] []
  g_check_integer : mg "check_integer" = some (.ref f_check_integer)
  k_check_integer : PySem.W.keepIn K (.ref f_check_integer) = true
  f_factors_of_two : Addr
  fd_factors_of_two : FuncData
  F_factors_of_two : Fun K "factors_of_two" "factors_of_two" s_factors_of_two f_factors_of_two fd_factors_of_two
  b_factors_of_two : Binds K fd_factors_of_two ["n"] []
  g_factors_of_two : mg "factors_of_two" = some (.ref f_factors_of_two)
  k_factors_of_two : PySem.W.keepIn K (.ref f_factors_of_two) = true
  f_twos_in : Addr
  fd_twos_in : FuncData
  F_twos_in : Fun K "twos_in" "twos_in" s_twos_in f_twos_in fd_twos_in
  b_twos_in : Binds K fd_twos_in ["n", "most"] []
  g_twos_in : mg "twos_in" = some (.ref f_twos_in)
  k_twos_in : PySem.W.keepIn K (.ref f_twos_in) = true
  f_odd_inverse : Addr
  fd_odd_inverse : FuncData
  F_odd_inverse : Fun K "odd_inverse" "odd_inverse" s_odd_inverse f_odd_inverse fd_odd_inverse
  b_odd_inverse : Binds K fd_odd_inverse ["x", "bits"] []
  g_odd_inverse : mg "odd_inverse" = some (.ref f_odd_inverse)
  k_odd_inverse : PySem.W.keepIn K (.ref f_odd_inverse) = true
  f_Kind___init__ : Addr
  fd_Kind___init__ : FuncData
  F_Kind___init__ : Fun K "__init__" "Kind.__init__" s_Kind___init__ f_Kind___init__ fd_Kind___init__
  b_Kind___init__ : Binds K fd_Kind___init__ ["self", "bits", "is_signed"] []
  f_Kind_parts : Addr
  fd_Kind_parts : FuncData
  F_Kind_parts : Fun K "parts" "Kind.parts" s_Kind_parts f_Kind_parts fd_Kind_parts
  b_Kind_parts : Binds K fd_Kind_parts ["self"] []
  f_check_kind : Addr
  fd_check_kind : FuncData
  F_check_kind : Fun K "check_kind" "check_kind" s_check_kind f_check_kind fd_check_kind
  b_check_kind : Binds K fd_check_kind ["kind"] []
  g_check_kind : mg "check_kind" = some (.ref f_check_kind)
  k_check_kind : PySem.W.keepIn K (.ref f_check_kind) = true
  f_check_value : Addr
  fd_check_value : FuncData
  F_check_value : Fun K "check_value" "check_value" s_check_value f_check_value fd_check_value
  b_check_value : Binds K fd_check_value ["kind", "x", "argument"] []
  g_check_value : mg "check_value" = some (.ref f_check_value)
  k_check_value : PySem.W.keepIn K (.ref f_check_value) = true
  f_least : Addr
  fd_least : FuncData
  F_least : Fun K "least" "least" s_least f_least fd_least
  b_least : Binds K fd_least ["kind"] []
  g_least : mg "least" = some (.ref f_least)
  k_least : PySem.W.keepIn K (.ref f_least) = true
  f_greatest : Addr
  fd_greatest : FuncData
  F_greatest : Fun K "greatest" "greatest" s_greatest f_greatest fd_greatest
  b_greatest : Binds K fd_greatest ["kind"] []
  g_greatest : mg "greatest" = some (.ref f_greatest)
  k_greatest : PySem.W.keepIn K (.ref f_greatest) = true
  f_is_value : Addr
  fd_is_value : FuncData
  F_is_value : Fun K "is_value" "is_value" s_is_value f_is_value fd_is_value
  b_is_value : Binds K fd_is_value ["kind", "x"] []
  g_is_value : mg "is_value" = some (.ref f_is_value)
  k_is_value : PySem.W.keepIn K (.ref f_is_value) = true
  f_wrapped : Addr
  fd_wrapped : FuncData
  F_wrapped : Fun K "wrapped" "wrapped" s_wrapped f_wrapped fd_wrapped
  b_wrapped : Binds K fd_wrapped ["kind", "n"] []
  g_wrapped : mg "wrapped" = some (.ref f_wrapped)
  k_wrapped : PySem.W.keepIn K (.ref f_wrapped) = true
  f_inverse : Addr
  fd_inverse : FuncData
  F_inverse : Fun K "inverse" "inverse" s_inverse f_inverse fd_inverse
  b_inverse : Binds K fd_inverse ["kind", "x"] []
  g_inverse : mg "inverse" = some (.ref f_inverse)
  k_inverse : PySem.W.keepIn K (.ref f_inverse) = true
  f_is_generator : Addr
  fd_is_generator : FuncData
  F_is_generator : Fun K "is_generator" "is_generator" s_is_generator f_is_generator fd_is_generator
  b_is_generator : Binds K fd_is_generator ["kind", "value"] []
  g_is_generator : mg "is_generator" = some (.ref f_is_generator)
  k_is_generator : PySem.W.keepIn K (.ref f_is_generator) = true
  f_check_generator : Addr
  fd_check_generator : FuncData
  F_check_generator : Fun K "check_generator" "check_generator" s_check_generator f_check_generator fd_check_generator
  b_check_generator : Binds K fd_check_generator ["kind", "value", "argument"] []
  g_check_generator : mg "check_generator" = some (.ref f_check_generator)
  k_check_generator : PySem.W.keepIn K (.ref f_check_generator) = true
  f_moved : Addr
  fd_moved : FuncData
  F_moved : Fun K "moved" "moved" s_moved f_moved fd_moved
  b_moved : Binds K fd_moved ["step", "x", "size"] []
  g_moved : mg "moved" = some (.ref f_moved)
  k_moved : PySem.W.keepIn K (.ref f_moved) = true
  f_after : Addr
  fd_after : FuncData
  F_after : Fun K "after" "after" s_after f_after fd_after
  b_after : Binds K fd_after ["one", "other", "size"] []
  g_after : mg "after" = some (.ref f_after)
  k_after : PySem.W.keepIn K (.ref f_after) = true
  f_repeated : Addr
  fd_repeated : FuncData
  F_repeated : Fun K "repeated" "repeated" s_repeated f_repeated fd_repeated
  b_repeated : Binds K fd_repeated ["step", "n", "size"] []
  g_repeated : mg "repeated" = some (.ref f_repeated)
  k_repeated : PySem.W.keepIn K (.ref f_repeated) = true
  f_after_many : Addr
  fd_after_many : FuncData
  F_after_many : Fun K "after_many" "after_many" s_after_many f_after_many fd_after_many
  b_after_many : Binds K fd_after_many ["step", "x", "n", "bits"] []
  g_after_many : mg "after_many" = some (.ref f_after_many)
  k_after_many : PySem.W.keepIn K (.ref f_after_many) = true
  f_steps_to_ring : Addr
  fd_steps_to_ring : FuncData
  F_steps_to_ring : Fun K "steps_to_ring" "steps_to_ring" s_steps_to_ring f_steps_to_ring fd_steps_to_ring
  b_steps_to_ring : Binds K fd_steps_to_ring ["step", "x", "bits"] []
  g_steps_to_ring : mg "steps_to_ring" = some (.ref f_steps_to_ring)
  k_steps_to_ring : PySem.W.keepIn K (.ref f_steps_to_ring) = true
  f_ring_length : Addr
  fd_ring_length : FuncData
  F_ring_length : Fun K "ring_length" "ring_length" s_ring_length f_ring_length fd_ring_length
  b_ring_length : Binds K fd_ring_length ["step", "x", "bits"] []
  g_ring_length : mg "ring_length" = some (.ref f_ring_length)
  k_ring_length : PySem.W.keepIn K (.ref f_ring_length) = true
  f__check : Addr
  fd__check : FuncData
  F__check : Fun K "_check" "_check" s__check f__check fd__check
  b__check : Binds K fd__check ["kind", "generator"] []
  g__check : mg "_check" = some (.ref f__check)
  k__check : PySem.W.keepIn K (.ref f__check) = true
  f__check_start : Addr
  fd__check_start : FuncData
  F__check_start : Fun K "_check_start" "_check_start" s__check_start f__check_start fd__check_start
  b__check_start : Binds K fd__check_start ["kind", "generator", "x"] []
  g__check_start : mg "_check_start" = some (.ref f__check_start)
  k__check_start : PySem.W.keepIn K (.ref f__check_start) = true
  f_stepped : Addr
  fd_stepped : FuncData
  F_stepped : Fun K "stepped" "stepped" s_stepped f_stepped fd_stepped
  b_stepped : Binds K fd_stepped ["kind", "generator", "x", "n"] []
  g_stepped : mg "stepped" = some (.ref f_stepped)
  k_stepped : PySem.W.keepIn K (.ref f_stepped) = true
  f_ring_of : Addr
  fd_ring_of : FuncData
  F_ring_of : Fun K "ring_of" "ring_of" s_ring_of f_ring_of fd_ring_of
  b_ring_of : Binds K fd_ring_of ["kind", "generator", "x"] []
  g_ring_of : mg "ring_of" = some (.ref f_ring_of)
  k_ring_of : PySem.W.keepIn K (.ref f_ring_of) = true
  f__unmoved_total : Addr
  fd__unmoved_total : FuncData
  F__unmoved_total : Fun K "_unmoved_total" "_unmoved_total" s__unmoved_total f__unmoved_total fd__unmoved_total
  b__unmoved_total : Binds K fd__unmoved_total ["step", "size"] []
  g__unmoved_total : mg "_unmoved_total" = some (.ref f__unmoved_total)
  k__unmoved_total : PySem.W.keepIn K (.ref f__unmoved_total) = true
  f_ring_lengths : Addr
  fd_ring_lengths : FuncData
  F_ring_lengths : Fun K "ring_lengths" "ring_lengths" s_ring_lengths f_ring_lengths fd_ring_lengths
  b_ring_lengths : Binds K fd_ring_lengths ["kind", "generator"] []
  g_ring_lengths : mg "ring_lengths" = some (.ref f_ring_lengths)
  k_ring_lengths : PySem.W.keepIn K (.ref f_ring_lengths) = true
  f_ring_values : Addr
  fd_ring_values : FuncData
  F_ring_values : Fun K "ring_values" "ring_values" s_ring_values f_ring_values fd_ring_values
  b_ring_values : Binds K fd_ring_values ["kind", "generator", "x"] []
  g_ring_values : mg "ring_values" = some (.ref f_ring_values)
  k_ring_values : PySem.W.keepIn K (.ref f_ring_values) = true
  f__law_source_of : Addr
  fd__law_source_of : FuncData
  F__law_source_of : Fun K "_law_source_of" "_law_source_of" s__law_source_of f__law_source_of fd__law_source_of
  b__law_source_of : Binds K fd__law_source_of ["_law_cell"] []
  g__law_source_of : mg "_law_source_of" = some (.ref f__law_source_of)
  k__law_source_of : PySem.W.keepIn K (.ref f__law_source_of) = true
  f__law_next : Addr
  fd__law_next : FuncData
  F__law_next : Fun K "_law_next" "_law_next" s__law_next f__law_next fd__law_next
  b__law_next : Binds K fd__law_next ["_law_source", "_law_many"] []
  g__law_next : mg "_law_next" = some (.ref f__law_next)
  k__law_next : PySem.W.keepIn K (.ref f__law_next) = true
  f__law_one : Addr
  fd__law_one : FuncData
  F__law_one : Fun K "_law_one" "_law_one" s__law_one f__law_one fd__law_one
  b__law_one : Binds K fd__law_one ["_law_source", "_law_some"] []
  g__law_one : mg "_law_one" = some (.ref f__law_one)
  k__law_one : PySem.W.keepIn K (.ref f__law_one) = true
  f__law_cell_at : Addr
  fd__law_cell_at : FuncData
  F__law_cell_at : Fun K "_law_cell_at" "_law_cell_at" s__law_cell_at f__law_cell_at fd__law_cell_at
  b__law_cell_at : Binds K fd__law_cell_at ["_law_script", "_law_index"] []
  g__law_cell_at : mg "_law_cell_at" = some (.ref f__law_cell_at)
  k__law_cell_at : PySem.W.keepIn K (.ref f__law_cell_at) = true
  f__law_wide : Addr
  fd__law_wide : FuncData
  F__law_wide : Fun K "_law_wide" "_law_wide" s__law_wide f__law_wide fd__law_wide
  b__law_wide : Binds K fd__law_wide ["_law_source", "_law_m"] []
  g__law_wide : mg "_law_wide" = some (.ref f__law_wide)
  k__law_wide : PySem.W.keepIn K (.ref f__law_wide) = true
  f__law_draw_kind : Addr
  fd__law_draw_kind : FuncData
  F__law_draw_kind : Fun K "_law_draw_kind" "_law_draw_kind" s__law_draw_kind f__law_draw_kind fd__law_draw_kind
  b__law_draw_kind : Binds K fd__law_draw_kind ["_law_source", "_law_most"] []
  g__law_draw_kind : mg "_law_draw_kind" = some (.ref f__law_draw_kind)
  k__law_draw_kind : PySem.W.keepIn K (.ref f__law_draw_kind) = true
  f__law_value : Addr
  fd__law_value : FuncData
  F__law_value : Fun K "_law_value" "_law_value" s__law_value f__law_value fd__law_value
  b__law_value : Binds K fd__law_value ["_law_source", "_law_low", "_law_size"] []
  g__law_value : mg "_law_value" = some (.ref f__law_value)
  k__law_value : PySem.W.keepIn K (.ref f__law_value) = true
  f__law_put : Addr
  fd__law_put : FuncData
  F__law_put : Fun K "_law_put" "_law_put" s__law_put f__law_put fd__law_put
  b__law_put : Binds K fd__law_put ["_law_n", "_law_low", "_law_size"] []
  g__law_put : mg "_law_put" = some (.ref f__law_put)
  k__law_put : PySem.W.keepIn K (.ref f__law_put) = true
  f__law_whole_right : Addr
  fd__law_whole_right : FuncData
  F__law_whole_right : Fun K "_law_whole_right" "_law_whole_right" s__law_whole_right f__law_whole_right fd__law_whole_right
  b__law_whole_right : Binds K fd__law_whole_right ["_law_source", "_law_kind", "_law_low", "_law_size"] []
  g__law_whole_right : mg "_law_whole_right" = some (.ref f__law_whole_right)
  k__law_whole_right : PySem.W.keepIn K (.ref f__law_whole_right) = true
  f__law_twos_right : Addr
  fd__law_twos_right : FuncData
  F__law_twos_right : Fun K "_law_twos_right" "_law_twos_right" s__law_twos_right f__law_twos_right fd__law_twos_right
  b__law_twos_right : Binds K fd__law_twos_right ["_law_source", "_law_kind", "_law_low", "_law_size"] []
  g__law_twos_right : mg "_law_twos_right" = some (.ref f__law_twos_right)
  k__law_twos_right : PySem.W.keepIn K (.ref f__law_twos_right) = true
  f__law_any_right : Addr
  fd__law_any_right : FuncData
  F__law_any_right : Fun K "_law_any_right" "_law_any_right" s__law_any_right f__law_any_right fd__law_any_right
  b__law_any_right : Binds K fd__law_any_right ["_law_source", "_law_kind", "_law_low", "_law_size"] []
  g__law_any_right : mg "_law_any_right" = some (.ref f__law_any_right)
  k__law_any_right : PySem.W.keepIn K (.ref f__law_any_right) = true
  f__law_turning_right : Addr
  fd__law_turning_right : FuncData
  F__law_turning_right : Fun K "_law_turning_right" "_law_turning_right" s__law_turning_right f__law_turning_right fd__law_turning_right
  b__law_turning_right : Binds K fd__law_turning_right ["_law_source", "_law_kind", "_law_low", "_law_size"] []
  g__law_turning_right : mg "_law_turning_right" = some (.ref f__law_turning_right)
  k__law_turning_right : PySem.W.keepIn K (.ref f__law_turning_right) = true
  f_law : Addr
  fd_law : FuncData
  F_law : Fun K "law" "law" s_law f_law fd_law
  b_law : Binds K fd_law ["_law_script"] []
  g_law : mg "law" = some (.ref f_law)
  k_law : PySem.W.keepIn K (.ref f_law) = true
  mk_Kind : Mk K C_Kind f_Kind___init__
  m_Kind_parts : Meth K C_Kind "parts" f_Kind_parts
  t_MOST_BITS : Tok
  g_MOST_BITS : mg "MOST_BITS" = some (.int 128 t_MOST_BITS)
  n_bool : mg "bool" = none
  n_int : mg "int" = none
  n_isinstance : mg "isinstance" = none
  n_len : mg "len" = none
  n_list : mg "list" = none
  n_max : mg "max" = none
  n_min : mg "min" = none
  n_range : mg "range" = none
  n_sorted : mg "sorted" = none
  n_tuple : mg "tuple" = none
  g_gcd : mg "gcd" = some (.builtin "math.gcd")
  bl_law : ∀ (s : Shared) (v : Value), BindsTo s fd_law ⟨[v], []⟩ [("_law_script", v)]

section
variable {K : PySem.W.Frag} {mg : Str → Option Value} {H : Hp} {Q : VK} {C p : Addr} {wd : Nat} {s : Bool}
theorem w_isi {v : V} {t c : String} {b : Bool} (ty : TyX K H v (.type t)) (e : kitB t c = some b) (q : Q (.bl b) H) : rIsi K [v, .ty c] H Q := ⟨_, _, _, _, b, rfl, .ty c, ty, kit_ty e, q⟩
theorem w_isK (T : Txt K mg) (k : Kd T.C_Kind H p wd s) (q : Q (.bl true) H) : rIsi K [.ref p, .ref T.C_Kind] H Q := by
  obtain ⟨⟨dx, e⟩, _, _⟩ := k
  exact ⟨_, _, _, _, true, rfl, .own _, .base (.ins e T.cl_Kind T.ia_Kind T.ib_Kind T.ic_Kind T.id_Kind), (by unfold PySem.W.kitOne; rw [if_pos (by simp)]), q⟩
theorem w_fb {i : Nat} {σ : L2.St} (T : Txt K mg) (hs : σ[i]? = some (some (.ref p))) (k : Kd T.C_Kind H p wd s) (q : Q (.int (wd : Int)) H) : tFld K (tVar i) "bits" σ H Q := by
  obtain ⟨⟨dx, e⟩, _, _⟩ := k
  exact ⟨_, hs, p, _, dx, _, _, rfl, e, T.cl_Kind, T.na_Kind_bits, kf_bits _ _, q⟩
theorem w_fs {i : Nat} {σ : L2.St} (T : Txt K mg) (hs : σ[i]? = some (some (.ref p))) (k : Kd T.C_Kind H p wd s) (q : Q (.bl s) H) : tFld K (tVar i) "is_signed" σ H Q := by
  obtain ⟨⟨dx, e⟩, _, _⟩ := k
  exact ⟨_, hs, p, _, dx, _, _, rfl, e, T.cl_Kind, T.na_Kind_is_signed, kf_sign _ _, q⟩
end

theorem in_div (o : Op) : inV (.str o.nm) [.str "divide", .str "remainder"] = decide (o = .div ∨ o = .rem) := by cases o <;> decide +kernel
theorem in_shift (o : Op) : inV (.str o.nm) [.str "left", .str "right"] = decide (o = .left ∨ o = .right) := by cases o <;> decide +kernel
theorem in_ops (o : Op) : inV (.str o.nm) [.str "add", .str "subtract", .str "multiply", .str "divide", .str "remainder", .str "and", .str "or", .str "xor", .str "left", .str "right"] = true := by cases o <;> decide +kernel
theorem in_over {o : Op} (h : o = .add ∨ o = .sub ∨ o = .mul ∨ o = .div ∨ o = .left) : inV (.str o.nm) [.str "add", .str "subtract", .str "multiply", .str "divide", .str "left"] = true := by
  rcases h with rfl | rfl | rfl | rfl | rfl <;> decide +kernel
theorem b129 {w : Nat} {s : Bool} {x : Int} (hw : w ≤ 128) (h1 : loK w s ≤ x) (h2 : x ≤ hiK w s) : x.natAbs < 2 ^ 129 := lt_130 hw (val_bits h1 h2)
theorem kbinds_of {K : PySem.W.Frag} {x qual : Str} {st : Stmt} {f : Addr} {fd : FuncData} {ps ks : List Str} {g : List Value → List Value → List Value} {gV : List V → List V → List V} (F : Fun K x qual st f fd)
    (h : ∀ (kV doc pm : Value) (an : Option Addr) (cdv ct : Value) (us ws : List Value), (g us ws).length = ps.length → bindArgs (PySem.W.fnOf x qual (defArgs st) (defBody st) (defScope st) .none kV doc pm an cdv ct) ⟨us, ks.zip ws⟩ = pure (ps.zip (g us ws)))
    (hrel : ∀ {vs : List V} {us : List Value} {zs : List V} {ws : List Value}, Vals vs us → Vals zs ws → Vals (gV vs zs) (g us ws)) : KBinds K fd ps ks g gV := by
  obtain ⟨oc, od, kV, doc, pm, an, cdv, ct, osl, rfl, lk, hcd⟩ := F.ex
  exact ⟨fun s us ws _ hl => .of_eq (h kV doc pm an cdv ct us ws hl), hrel⟩
def sp_joined (K : PySem.W.Frag) (C : Addr) : Sp := fun vs H Q _ => ∃ (p : Addr) (bits : Nat) (rs : List V), vs = [.ref p, .int (bits : Int)] ∧ bits ≤ 128 ∧ H p = some (.lst rs) ∧ rs.length ≤ 100000 ∧ (∀ r ∈ rs, ∃ (q : Addr) (f : Int) (e : Nat), r = .ref q ∧ H q = some (.tup [.int f, .int (e : Int)]) ∧ 0 ≤ f) ∧ ∀ (fl : FL) out q H', Mg bits (SetOf H rs) (famL fl) → (∀ k, 1 ≤ k → k ≤ bits → Irr (famL fl) k) → H' q = some (.lst out) → PRow H' out fl → fl.Pairwise ltF → fl.length ≤ rs.length → Same H H' → Q (.ref q) H'
theorem ok_joined {P : Program} {w : World} {K : PySem.W.Frag} {mg : Str → Option Value} {base : Heap} (T : Txt K mg) : FnOk P w K mg base CX0 1 T.f_joined T.fd_joined ["families", "bits"] (sp_joined K T.C_Kind) := by
  refine T.F_joined.ok sc_joined (fun vs H Q E h => ?_) (fun cdv A outer s H vs Q E hr h => ?_)
  · obtain ⟨p, bits, rs, rfl, _⟩ := h
    rfl
  · obtain ⟨p, bits, rs, rfl, h⟩ := h
    have hu := hu_of hr
    refine ⟨_, (pss_cons (ps_setDc (o := .dT []) (i := 2) (own := [("family", 3)]) (g := gName 3) (tt := tYes) (.inr rfl) (Nat.lt_of_le_of_lt (Nat.le_add_right _ 64) hr.units) rfl sc_joined.nd rfl rfl (sw_trueD rfl rfl rfl (by decide +kernel)) (pi_list (pv 0 (hv := Or.inl rfl))) (blkOk_by (own := [("family", 3)]) (N := ["families", "bits", "found", "family", "k", "half", "first", "depth"]) (sc := defScope s_joined) (by decide +kernel)) (fun _ _ _ _ _ => (pg_name (i := 3) sc_joined.nd rfl (Or.inl rfl))) (fun _ _ _ _ _ => pts_nil) (fun _ _ _ _ _ => (pv 3 (hv := Or.inl rfl))) (fun _ _ _ _ _ => pe_bl))
      (pss_cons (ps_for PassesOwn.never rfl (pi_range3 (by rfl) T.n_range (pa_cons (pv 1 (hv := Or.inl rfl)) (pa_cons pe_int (pa_cons (pe_un un_neg pe_int) pa_nil)))) (pg_name (i := 4) sc_joined.nd rfl (Or.inl rfl))
        (pss_cons (ps_set (i := 5) sc_joined.nd rfl (Or.inl rfl) (pe_op op_shl pe_int (pe_op op_sub (pv 4 (hv := Or.inl rfl)) pe_int)))
      (pss_one (ps_for PassesOwn.never rfl (pi_list (pe_callTy (T := "list") (r := rListDT) (call_listDT (by rfl)) (by rfl) T.n_list (by decide +kernel) (pa_cons (pv 2 (hv := Or.inl rfl)) pa_nil))) (pg_tup rfl (pgs_cons (pg_name (i := 6) sc_joined.nd rfl (Or.inl rfl)) (pgs_cons (pg_name (i := 7) sc_joined.nd rfl (Or.inl rfl)) pgs_nil)))
        (pss_one (ps_if (PW.pt (pw_and (pt_cmpR op_eq (pv 7 (hv := Or.inl rfl)) (pv 4 (hv := Or.inl rfl)) (nomark _)) (pw_and (pt_cmpR op_lt (pv 6 (hv := Or.inl rfl)) (pv 5 (hv := Or.inl rfl)) (nomark _)) (pw_and1 (pt_cmp (pc_din hu (pe_tup (pa_cons (pe_op op_add (pv 6 (hv := Or.inl rfl)) (pv 5 (hv := Or.inl rfl))) (pa_cons (pv 4 (hv := Or.inl rfl)) pa_nil))) (pv 2 (hv := Or.inl rfl))) (by rfl)))))) (pss_cons (ps_delT hu (pv 2 (hv := Or.inl rfl)) (pe_tup (pa_cons (pv 6 (hv := Or.inl rfl)) (pa_cons (pv 4 (hv := Or.inl rfl)) pa_nil))))
      (pss_cons (ps_delT hu (pv 2 (hv := Or.inl rfl)) (pe_tup (pa_cons (pe_op op_add (pv 6 (hv := Or.inl rfl)) (pv 5 (hv := Or.inl rfl))) (pa_cons (pv 4 (hv := Or.inl rfl)) pa_nil))))
      (pss_one (ps_dput hu (pv 2 (hv := Or.inl rfl)) (pe_tup (pa_cons (pv 6 (hv := Or.inl rfl)) (pa_cons (pe_op op_sub (pv 4 (hv := Or.inl rfl)) pe_int) pa_nil))) pe_bl rfl)))) pss_nil))))))
      (pss_one (ps_ret (pe_callB (id := "sorted") (r := rSortDT) (cr_sortedDT (by rfl)) (by rfl) T.n_sorted (by decide +kernel) (pa_cons (pv 2 (hv := Or.inl rfl)) pa_nil)))))), ?_⟩
    try dsimp only [cxOf, Cx.nox, Cx.wish, Cx.blk]
    rw [show L2.start ["families", "bits", "found", "family", "k", "half", "first", "depth"] [.ref p, .int (bits : Int)] = [some (.ref p), some (.int (bits : Int)), none, none, none, none, none, none] from rfl]
    obtain ⟨b2, hp, hl, sh, k⟩ := h
    walk_at "rd"
    unfold tDcG
    walk_at "rd"
    refine ⟨⟨_, SqL.of hp⟩, fun D hD => dg_it (walk_list (K := K) (a := p) (xs := rs)) (fun j H' => ∃ kvs, H' D = some (.dT kvs) ∧ DictF kvs j ∧ (∀ f e, HasK kvs (fk f e) ↔ ∃ i, i < j ∧ ∃ q : Addr, rs[i]? = some (V.ref q) ∧ H q = some (.tup [.int f, .int (e : Int)])) ∧ Same H H') ⟨[], upd_same, ⟨Nat.le_refl _, List.nodup_nil, fun x hx => (by cases hx)⟩, fun f e => ⟨fun h => (by cases h), fun ⟨i, hi, _⟩ => (by omega)⟩, sm_new (Same.refl H) hD⟩ (fun i H' _ q => SqL.of (q.choose_spec.2.2.2 _ _ hp)) ?_ ?_⟩
    · rintro j z H' _ hj ⟨kvs, hd, df, hk, sm⟩ ⟨rfl, hz⟩
      obtain ⟨q, f, e, rfl, hq, f0⟩ := sh z (List.mem_of_getElem? hz)
      unfold DcTurn
      walk_at "rd"
      refine ⟨rfl, ?_⟩
      walk_at "rd"
      refine iteT ?_
      walk_at "rd"
      refine ⟨_, DPut.t (k := fk f e) hd (sm _ _ hq) (Nat.lt_of_le_of_lt df.len (Nat.lt_of_lt_of_le hj (Nat.le_trans hl (by decide)))), putK kvs (fk f e) (.bl true), upd_same, df.put f0, fun g d => ⟨fun h => ?_, fun ⟨i, hi, q1, h1, h2⟩ => ?_⟩, sm_mut sm hD⟩
      · rcases hasK_put.mp h with h | h
        · obtain ⟨rfl, rfl⟩ := fk_inj h
          exact ⟨j, by omega, q, hz, hq⟩
        · obtain ⟨i, hi, r⟩ := (hk g d).mp h
          exact ⟨i, by omega, r⟩
      · by_cases z : i = j
        · subst z
          rw [hz] at h1
          obtain rfl : q = q1 := V.ref.inj (Option.some.inj h1)
          rw [hq] at h2
          have e1 := HO.tup.inj (Option.some.inj h2)
          have e2 : f = g := V.int.inj (List.cons.inj e1).1
          have e3 : (e : Int) = d := V.int.inj (List.cons.inj (List.cons.inj e1).2).1
          obtain rfl : e = d := by omega
          exact hasK_put.mpr (.inl (by rw [e2]))
        · exact hasK_put.mpr (.inr ((hk g d).mpr ⟨i, by omega, q1, h1, h2⟩))
    rintro H1 ⟨kvs, hd, df, hk, sm⟩
    have e0 : famD kvs = SetOf H rs := by
      funext f e
      refine propext ⟨fun h => ?_, fun ⟨q, h1, h2⟩ => ?_⟩
      · obtain ⟨i, _, q, h1, h2⟩ := (hk f e).mp h
        exact ⟨q, List.mem_of_getElem? h1, h2⟩
      · obtain ⟨i, hi⟩ := List.getElem?_of_mem h1
        exact (hk f e).mpr ⟨i, (List.getElem?_eq_some_iff.mp hi).1, q, hi, h2⟩
    clear hk
    walk_at "rd"
    refine w_iRng3j ?_
    walk_at "rd"
    refine ⟨_, _, _, bits, rfl, by have := RgC.neg (i := (bits : Int)) (j := 0) (by omega) (by omega) (by omega) (by omega); rw [show ((bits : Int) - 0).toNat = bits by omega] at this; exact this, for_rangeC (lo := (bits : Int)) (c := -1) (n := bits) (fun i σ H' => (∃ v4 v5 v6 v7 : Option V, σ = [some (.ref p), some (.int (bits : Int)), some (.ref D), none, v4, v5, v6, v7]) ∧ ∃ kvs, H' D = some (.dT kvs) ∧ DictF kvs rs.length ∧ Mg bits (SetOf H rs) (famD kvs) ∧ (∀ k, bits - i < k → k ≤ bits → Irr (famD kvs) k) ∧ Same H H') ⟨⟨_, _, _, _, rfl⟩, kvs, hd, df, by rw [e0]; exact .refl, fun k _ _ => (by omega), sm⟩ ?_ ?_⟩
    · rintro i σ H2 hi ⟨⟨v4, v5, v6, v7, rfl⟩, kv0, hd0, df0, mg0, up0, sm0⟩
      obtain ⟨kk, hkk⟩ : ∃ kk, kk = bits - i := ⟨_, rfl⟩
      have k1 : 1 ≤ kk := by omega
      have k2 : kk ≤ bits := by omega
      rw [show (bits : Int) + (i : Int) * -1 = (kk : Int) by omega]
      walk_at "rd"
      rw [show (kk : Int) - 1 = ((kk - 1 : Nat) : Int) by omega]
      refine w_I (cpow (n := 1) (by omega) (by decide)) ?_
      rw [Int.toNat_natCast, Int.one_mul]
      walk_at "rd"
      refine ⟨D, kv0, rfl, .inl hd0, fun L bs hL hbs => ?_⟩
      walk_at "rd"
      have sL := sm_new (o := .lst (bs.map V.ref)) (Same.refl H2) hL
      have hL' : (L2.upd H2 L (.lst (bs.map V.ref))) L = some (.lst (bs.map V.ref)) := upd_same
      generalize L2.upd H2 L _ = H3 at sL hL' ⊢
      have hd3 := sL _ _ hd0
      have bl : bs.length = kv0.length := (Paired.length hbs).symm
      have nL : L ≠ D := fun z => by rw [z, hd3] at hL'; cases hL'
      refine ⟨⟨_, SqL.of hL'⟩, for_list (K := K) (a := L) (xs := bs.map V.ref) (fun j σ H' => (∃ v6 v7 : Option V, σ = [some (.ref p), some (.int (bits : Int)), some (.ref D), none, some (.int (kk : Int)), some (.int (2 ^ (kk - 1))), v6, v7]) ∧ ∃ kvs, H' D = some (.dT kvs) ∧ Lev (SetOf H rs) bits kk kv0 kvs rs.length j ∧ Kp D H3 H') ⟨⟨_, _, rfl⟩, kv0, hd3, Lev.start df0 mg0 (fun k h1 h2 => up0 k (by omega) h2), Kp.refl D H3⟩ (fun j σ H' _ q => SqL.of (q.2.choose_spec.2.2 _ _ nL hL')) ?_ ?_⟩
      · rintro j z σ H4 hj ⟨⟨v6, v7, rfl⟩, kvs, hd, lv, kp⟩
        obtain ⟨b, hb, rfl⟩ := map_get hj
        obtain ⟨x, hx, hbx⟩ := L2.DX.pget hbs hb
        obtain ⟨f, e, ex, f0⟩ := df0.sh x (List.mem_of_getElem? hx)
        rw [ex] at hbx
        have hb3 : H3 b = some (.tup [.int f, .int (e : Int)]) := sL _ _ hbx
        have hb4 := kp _ _ (ne_of hb3 hd3 (by intro z; cases z)) hb3
        walk_at "rd"
        refine w_dec (fun ek => ?_) (fun ek => ?_)
        rotate_left
        · walk_at "rd"
          refine iteF ?_
          walk_at "rd"
          exact ⟨⟨_, _, rfl⟩, kvs, hd, lv.skip hx ex (fun z => ek (by rw [z.1])), kp⟩
        obtain rfl : e = kk := by omega
        walk_at "rd"
        refine w_dec (fun lt => ?_) (fun lt => ?_)
        rotate_left
        · walk_at "rd"
          refine iteF ?_
          walk_at "rd"
          exact ⟨⟨_, _, rfl⟩, kvs, hd, lv.skip hx ex (fun z => lt z.2.1), kp⟩
        walk_at "rd"
        unfold tDIn
        walk_at "rd"
        refine ⟨by show 2 ≤ sizeLine; decide, fun q1 hq1 => ?_⟩
        walk_at "rd"
        have n1 : D ≠ q1 := fun z => by rw [← z, hd] at hq1; cases hq1
        have hd5 : (L2.upd H4 q1 (.tup [.int (f + 2 ^ (e - 1)), .int (e : Int)])) D = some (.dT kvs) := by rw [upd_ne n1]; exact hd
        have kp5 := kp.new (o := .tup [.int (f + 2 ^ (e - 1)), .int (e : Int)]) hq1
        have hq1' : (L2.upd H4 q1 (.tup [.int (f + 2 ^ (e - 1)), .int (e : Int)])) q1 = some (.tup [.int (f + 2 ^ (e - 1)), .int (e : Int)]) := upd_same
        generalize L2.upd H4 q1 _ = H5 at hd5 kp5 hq1' ⊢
        refine ⟨D, _, rfl, DGet.t (k := fk (f + 2 ^ (e - 1)) e) hd5 hq1', ?_⟩
        by_cases hh : famD kvs (f + 2 ^ (e - 1)) e
        rotate_left
        · rw [show (valV kvs (fk (f + 2 ^ (e - 1)) e)).isSome = false by
            cases z : (valV kvs (fk (f + 2 ^ (e - 1)) e)).isSome
            · rfl
            · exact absurd (hasK_val.mp z) hh]
          refine ⟨_, rfl, ?_⟩
          refine iteF ?_
          walk_at "rd"
          exact ⟨⟨_, _, rfl⟩, kvs, hd5, lv.skip hx ex (fun z => hh z.2.2), kp5⟩
        rw [hasK_val.mpr hh]
        refine ⟨_, rfl, ?_⟩
        refine iteT ?_
        unfold sDelT sDPut
        walk_at "rd"
        refine ⟨by show 2 ≤ sizeLine; decide, fun q2 hq2 => ?_⟩
        walk_at "rd"
        have p2' : (0 : Int) < 2 ^ (e - 1) := p2 (e - 1)
        have n2 : D ≠ q2 := fun z => by rw [← z, hd5] at hq2; cases hq2
        have ha : famD kvs f e := lv.A j f x (Nat.le_refl _) hx ex lt
        refine ⟨D, q2, kvs, fk f e, rfl, by rw [upd_ne n2]; exact hd5, rfl, upd_same, hasK_val.mpr ha, ?_⟩
        have kp6 := (kp5.new (o := .tup [.int f, .int (e : Int)]) hq2).upd (o := .dT (dropK kvs (fk f e)))
        have hd7 : (L2.upd (L2.upd H5 q2 (.tup [.int f, .int (e : Int)])) D (.dT (dropK kvs (fk f e)))) D = some (.dT (dropK kvs (fk f e))) := upd_same
        generalize L2.upd (L2.upd H5 q2 _) D _ = H7 at kp6 hd7 ⊢
        walk_at "rd"
        refine ⟨by show 2 ≤ sizeLine; decide, fun q3 hq3 => ?_⟩
        walk_at "rd"
        have n3 : D ≠ q3 := fun z => by rw [← z, hd7] at hq3; cases hq3
        refine ⟨D, q3, dropK kvs (fk f e), fk (f + 2 ^ (e - 1)) e, rfl, by rw [upd_ne n3]; exact hd7, rfl, upd_same, hasK_val.mpr (hasK_drop.mpr ⟨fun z => by have := (fk_inj z).1; omega, hh⟩), ?_⟩
        have kp8 := (kp6.new (o := .tup [.int (f + 2 ^ (e - 1)), .int (e : Int)]) hq3).upd (o := .dT (dropK (dropK kvs (fk f e)) (fk (f + 2 ^ (e - 1)) e)))
        have hd9 : (L2.upd (L2.upd H7 q3 (.tup [.int (f + 2 ^ (e - 1)), .int (e : Int)])) D (.dT (dropK (dropK kvs (fk f e)) (fk (f + 2 ^ (e - 1)) e)))) D = some (.dT (dropK (dropK kvs (fk f e)) (fk (f + 2 ^ (e - 1)) e))) := upd_same
        generalize L2.upd (L2.upd H7 q3 _) D _ = H9 at kp8 hd9 ⊢
        walk_at "rd"
        rw [show (e : Int) - 1 = ((e - 1 : Nat) : Int) by omega]
        refine ⟨by show 2 ≤ sizeLine; decide, fun q4 hq4 => ?_⟩
        walk_at "rd"
        have n4 : D ≠ q4 := fun z => by rw [← z, hd9] at hq4; cases hq4
        refine ⟨D, _, rfl, DPut.t (k := fk f (e - 1)) (by rw [upd_ne n4]; exact hd9) upd_same (Nat.lt_of_le_of_lt (Nat.le_trans (dropK_le _ _) (Nat.le_trans (dropK_le _ _) (Nat.le_trans lv.df.len hl))) (by decide)), ?_⟩
        exact ⟨⟨_, _, rfl⟩, _, upd_same, lv.merge df0.nd df0.sh hx ex f0 lt hh k1 k2 _, (kp8.new hq4).upd⟩
      rintro σ H4 ⟨⟨v6, v7, rfl⟩, kvs, hd, lv, kp⟩
      rw [List.length_map, bl] at lv
      refine ⟨⟨_, _, _, _, rfl⟩, kvs, hd, lv.df, lv.mg, fun k h1 h2 => ?_, fun b o e1 => kp b o (ne_of_none e1 hD) (sL _ _ (sm0 _ _ e1))⟩
      by_cases z : k = kk
      · rw [z]; exact lv.finish
      · exact lv.up k (by omega) h2
    rintro σ H2 ⟨⟨v4, v5, v6, v7, rfl⟩, kvs, hd, df, mg, up, sm⟩
    walk_at "rd"
    refine ⟨D, kvs, rfl, hd, fun x hx => ?_, fun bs out q hbs hso hpm hq => ?_⟩
    · obtain ⟨f, e, h, _⟩ := df.sh x hx
      exact ⟨f, e, h⟩
    obtain ⟨fl, hrow, hpw, hfl⟩ := joined_row df.nd df.sh hbs hso hpm
    refine k fl out q _ (by show Mg bits _ (fun f e => (f, e) ∈ fl); rw [hfl]; exact mg) (fun k h1 h2 => by show Irr (fun f e => (f, e) ∈ fl) k; rw [hfl]; exact up k (by omega) h2) upd_same (hrow.keep fun q1 f e h => gn h hq) hpw (by rw [← hrow.len, hpm.length_eq, List.length_map, ← Paired.length hbs]; exact df.len) (sm_new sm hq)
def sp_is_integer (K : PySem.W.Frag) (C : Addr) : Sp := fun vs H Q _ => ∃ (v : V) (b : Bool), vs = [v] ∧ IntQ K H v b ∧ Q (.bl b) H
theorem ok_is_integer {P : Program} {w : World} {K : PySem.W.Frag} {mg : Str → Option Value} {base : Heap} (T : Txt K mg) : FnOk P w K mg base CX0 1 T.f_is_integer T.fd_is_integer ["value"] (sp_is_integer K T.C_Kind) := by
  refine T.F_is_integer.ok sc_is_integer (fun vs H Q E h => ?_) (fun cdv A outer s H vs Q E hr h => ?_)
  · obtain ⟨v, b, rfl, _⟩ := h
    rfl
  · obtain ⟨v, b, rfl, h⟩ := h
    refine ⟨_, (pss_one (ps_ret (pe_and (pe_callB (id := "isinstance") (r := rIsi K) call_isi (by rfl) T.n_isinstance (by decide +kernel) (pa_cons (pv 0 (hv := Or.inl rfl)) (pa_cons (pe_bltn (v := .ty "int") (by rfl) T.n_int (by decide +kernel) rfl) pa_nil))) (pe_one (pe_not (pe_callB (id := "isinstance") (r := rIsi K) call_isi (by rfl) T.n_isinstance (by decide +kernel) (pa_cons (pv 0 (hv := Or.inl rfl)) (pa_cons (pe_bltn (v := .ty "bool") (by rfl) T.n_bool (by decide +kernel) rfl) pa_nil)))))))), ?_⟩
    try dsimp only [cxOf, Cx.nox, Cx.wish, Cx.blk]
    rw [show L2.start ["value"] [v] = [some (v)] from rfl]
    obtain ⟨⟨t, ty, e1, -, c, e2, e3⟩, k⟩ := h
    walk_at "rd"
    refine w_isi ty e1 ?_
    walk_at "rd"
    cases hb : (b || t == "bool") with
    | false =>
      rw [hb] at e3
      have e3 : false = b := e3
      refine iteF ?_
      rw [e3]; exact k
    | true =>
      rw [hb] at e3
      refine iteT ?_
      walk_at "rd"
      refine w_isi ty e2 ?_
      walk_at "rd"
      have e4 : (!c) = b := e3
      rw [e4]; exact k
def sp_check_integer (K : PySem.W.Frag) (C : Addr) : Sp := fun vs H Q _ => ∃ (i : Int) (z : Str), vs = [.int i, .str z] ∧ Q .non H
theorem ok_check_integer {P : Program} {w : World} {K : PySem.W.Frag} {mg : Str → Option Value} {base : Heap} (T : Txt K mg) : FnOk P w K mg base CX0 2 T.f_check_integer T.fd_check_integer ["value", "argument"] (sp_check_integer K T.C_Kind) := by
  have G_is_integer := ok_is_integer (P := P) (w := w) (base := base) T
  refine T.F_check_integer.ok sc_check_integer (fun vs H Q E h => ?_) (fun cdv A outer s H vs Q E hr h => ?_)
  · obtain ⟨i, z, rfl, _⟩ := h
    rfl
  · obtain ⟨i, z, rfl, h⟩ := h
    have hr_is_integer : Room 1 _ := hr.mono (by decide)
    refine ⟨_, (pss_one (ps_if (pt_not (pt_val (pe_call G_is_integer hr_is_integer rfl T.g_is_integer T.k_is_integer T.b_is_integer .nil pass0 (pa_cons (pv 0 (hv := Or.inl rfl)) pa_nil)))) (pss_one ps_never) pss_nil)), ?_⟩
    try dsimp only [cxOf, Cx.nox, Cx.wish, Cx.blk]
    rw [show L2.start ["value", "argument"] [.int i, .str z] = [some (.int i), some (.str z)] from rfl]
    walk_at "rd"
    refine ⟨.int i, true, rfl, IntQ.int i, ?_⟩
    walk_at "rd"
    refine iteF ?_
    walk_at "rd"
    exact h
def sp_factors_of_two (K : PySem.W.Frag) (C : Addr) : Sp := fun vs H Q _ => ∃ (n a : Int) (j : Nat), vs = [.int n] ∧ n = 2 ^ j * (2 * a + 1) ∧ Q (.int (j : Int)) H
theorem ok_factors_of_two {P : Program} {w : World} {K : PySem.W.Frag} {mg : Str → Option Value} {base : Heap} (T : Txt K mg) : FnOk P w K mg base CX0 1 T.f_factors_of_two T.fd_factors_of_two ["n"] (sp_factors_of_two K T.C_Kind) := by
  refine T.F_factors_of_two.ok sc_factors_of_two (fun vs H Q E h => ?_) (fun cdv A outer s H vs Q E hr h => ?_)
  · obtain ⟨n, a, j, rfl, _⟩ := h
    rfl
  · obtain ⟨n, a, j, rfl, h⟩ := h
    refine ⟨_, (pss_one (ps_ret (pe_op op_sub (pe_bits (pe_op op_and (pv 0 (hv := Or.inl rfl)) (pe_un un_neg (pv 0 (hv := Or.inl rfl))))) pe_int))), ?_⟩
    try dsimp only [cxOf, Cx.nox, Cx.wish, Cx.blk]
    rw [show L2.start ["n"] [.int n] = [some (.int n)] from rfl]
    obtain ⟨c, k⟩ := h
    walk_at "rd"
    rw [c, PySem.W.kbt_low, bits_pow, show (((j + 1 : Nat) : Int) - 1) = (j : Int) by omega]
    exact k
def sp_twos_in (K : PySem.W.Frag) (C : Addr) : Sp := fun vs H Q _ => ∃ (n : Int) (m : Nat), vs = [.int n, .int (m : Int)] ∧ m ≤ 1000 ∧ Q (.int (gv m n : Nat)) H
theorem ok_twos_in {P : Program} {w : World} {K : PySem.W.Frag} {mg : Str → Option Value} {base : Heap} (T : Txt K mg) : FnOk P w K mg base CX0 2 T.f_twos_in T.fd_twos_in ["n", "most"] (sp_twos_in K T.C_Kind) := by
  have G_factors_of_two := ok_factors_of_two (P := P) (w := w) (base := base) T
  refine T.F_twos_in.ok sc_twos_in (fun vs H Q E h => ?_) (fun cdv A outer s H vs Q E hr h => ?_)
  · obtain ⟨n, m, rfl, _⟩ := h
    rfl
  · obtain ⟨n, m, rfl, h⟩ := h
    have hr_factors_of_two : Room 1 _ := hr.mono (by decide)
    refine ⟨_, (pss_one (ps_ret (pe_ifExp (pt_cmpR op_eq (pe_op op_mod (pv 0 (hv := Or.inl rfl)) (pe_op op_shl pe_int (pv 1 (hv := Or.inl rfl)))) pe_int (nomark _)) (pv 1 (hv := Or.inl rfl)) (pe_call G_factors_of_two hr_factors_of_two rfl T.g_factors_of_two T.k_factors_of_two T.b_factors_of_two .nil pass0 (pa_cons (pv 0 (hv := Or.inl rfl)) pa_nil))))), ?_⟩
    try dsimp only [cxOf, Cx.nox, Cx.wish, Cx.blk]
    rw [show L2.start ["n", "most"] [.int n, .int (m : Int)] = [some (.int n), some (.int (m : Int))] from rfl]
    obtain ⟨m1, k⟩ := h
    walk_at "rd"
    refine w_if ?_
    walk_at "rd"
    refine w_I (cpow (n := 1) (by omega) (by decide)) ?_
    rw [Int.toNat_natCast, Int.one_mul]
    refine w_I (p2 m) ?_
    walk_at "rd"
    refine w_dec (fun c => ?_) (fun c => ?_)
    · walk_at "rd"
      rw [gv_full.mp (Int.dvd_of_emod_eq_zero c)] at k
      exact k
    · have nz : n ≠ 0 := fun z => c (by rw [z, Int.zero_emod])
      obtain ⟨j, a, e⟩ := two_ex _ n (Nat.le_refl _) nz
      have jm : j ≤ m := Nat.le_of_not_lt fun z => c (Int.emod_eq_zero_of_dvd (by rw [e]; exact Int.dvd_trans (gpp (Nat.le_of_lt z)) (Int.dvd_mul_right _ _)))
      walk_at "rd"
      refine ⟨n, a, j, rfl, e, ?_⟩
      rw [gv_val e jm] at k
      exact k
def sp_odd_inverse (K : PySem.W.Frag) (C : Addr) : Sp := fun vs H Q _ => ∃ (x : Int) (wd : Nat), vs = [.int x, .int (wd : Int)] ∧ x % 2 = 1 ∧ x.natAbs < 2 ^ 129 ∧ 1 ≤ wd ∧ wd ≤ 128 ∧ ∀ y, x * y % 2 ^ wd = 1 % 2 ^ wd → Q (.int y) H
theorem ok_odd_inverse {P : Program} {w : World} {K : PySem.W.Frag} {mg : Str → Option Value} {base : Heap} (T : Txt K mg) : FnOk P w K mg base CX0 1 T.f_odd_inverse T.fd_odd_inverse ["x", "bits"] (sp_odd_inverse K T.C_Kind) := by
  refine T.F_odd_inverse.ok sc_odd_inverse (fun vs H Q E h => ?_) (fun cdv A outer s H vs Q E hr h => ?_)
  · obtain ⟨x, wd, rfl, _⟩ := h
    rfl
  · obtain ⟨x, wd, rfl, h⟩ := h
    refine ⟨_, (pss_cons (ps_set (i := 2) sc_odd_inverse.nd rfl (Or.inl rfl) (pe_op op_shl pe_int (pv 1 (hv := Or.inl rfl))))
      (pss_cons (ps_set (i := 3) sc_odd_inverse.nd rfl (Or.inl rfl) (pe_op op_mod (pv 0 (hv := Or.inl rfl)) (pv 2 (hv := Or.inl rfl))))
      (pss_cons (ps_for PassesOwn.never rfl (pi_range1 (by rfl) T.n_range (pa_cons (pe_bits (pv 1 (hv := Or.inl rfl))) pa_nil)) (pg_name (i := 4) sc_odd_inverse.nd rfl (Or.inl rfl))
        (pss_one (ps_set (i := 3) sc_odd_inverse.nd rfl (Or.inl rfl) (pe_op op_mod (pe_op op_mulX (pv 3 (hv := Or.inl rfl)) (pe_op op_sub pe_int (pe_op op_mulX (pv 0 (hv := Or.inl rfl)) (pv 3 (hv := Or.inl rfl))))) (pv 2 (hv := Or.inl rfl))))))
      (pss_one (ps_ret (pv 3 (hv := Or.inl rfl))))))), ?_⟩
    try dsimp only [cxOf, Cx.nox, Cx.wish, Cx.blk]
    rw [show L2.start ["x", "bits", "size", "y", "_"] [.int x, .int (wd : Int)] = [some (.int x), some (.int (wd : Int)), none, none, none] from rfl]
    obtain ⟨hx, hb, w1, w2, k⟩ := h
    walk_at "rd"
    refine w_I (cpow (n := 1) (by omega) (by decide)) ?_
    rw [Int.toNat_natCast, Int.one_mul]
    walk_at "rd"
    refine w_I (p2 wd) ?_
    walk_at "rd"
    have hp := p2 wd
    have bw : (wd : Int).natAbs < 2 ^ 8 := by omega
    have bb := PyProof.Rows.intBits_le bw
    have small : ∀ z : Int, 0 ≤ z → z < 2 ^ wd → z.natAbs < 2 ^ 128 := fun z z0 z1 => by
      have c : ((2 ^ wd : Nat) : Int) = (2 : Int) ^ wd := Int.natCast_pow 2 wd
      have q : z.natAbs < 2 ^ wd := Int.ofNat_lt.mp (by rw [c]; omega)
      exact Nat.lt_of_lt_of_le q (Nat.pow_le_pow_right (by decide) w2)
    refine ⟨_, rfl, by omega, by omega, for_range (lo := 0) (n := PySem.Builtin.Int.intBits (wd : Int)) (fun i σ H' => ∃ (y : Int) (v : Option V), σ = [some (.int x), some (.int (wd : Int)), some (.int (2 ^ wd)), some (.int y), v] ∧ H' = H ∧ 0 ≤ y ∧ y < 2 ^ wd ∧ (2 : Int) ^ min wd (2 ^ i) ∣ x * y - 1)
      ⟨_, none, rfl, rfl, Int.emod_nonneg _ (Int.ne_of_gt hp), Int.emod_lt_of_pos _ hp, ?_⟩ ?_ ?_⟩
    · have e1 : min wd (2 ^ 0) = 1 := by omega
      rw [e1, Int.pow_one]
      obtain ⟨t, ht⟩ := cong_ex (Int.emod_emod_of_dvd x (Int.dvd_refl (2 ^ wd)))
      have e2 := p2s w1
      rw [ht, e2, Int.mul_assoc]
      generalize 2 ^ (wd - 1) * t = u
      refine ⟨x / 2 * (2 * (x / 2) + 1 + 2 * u) + (x / 2) + u, ?_⟩
      have e3 : x = 2 * (x / 2) + 1 := by omega
      generalize x / 2 = a at *
      rw [e3]
      have q1 : (2 * a + 1) * (2 * a + 1 + 2 * u) = 2 * (a * (2 * a + 1 + 2 * u)) + (2 * a + 1 + 2 * u) := by rw [Int.add_mul, Int.one_mul, Int.mul_assoc]
      rw [q1]; omega
    · rintro i σ H' hi ⟨y, v, rfl, rfl, y0, y1, hd⟩
      have by1 := small y y0 y1
      have b1 : (x * y).natAbs < 2 ^ 257 := Nat.lt_of_lt_of_eq (wide_lt hb by1) rfl
      have b2 : (2 - x * y).natAbs < 2 ^ 258 := by
        have : (2 : Nat) ^ 258 = 2 * 2 ^ 257 := by decide
        have : (4 : Nat) ≤ 2 ^ 257 := by decide
        omega
      walk_at "rd"
      refine w_I (mulx_ok hb by1 (by decide)) ?_
      walk_at "rd"
      refine w_I (mulx_ok by1 b2 (by decide)) ?_
      walk_at "rd"
      refine w_I hp ?_
      walk_at "rd"
      refine ⟨_, _, rfl, rfl, Int.emod_nonneg _ (Int.ne_of_gt hp), Int.emod_lt_of_pos _ hp, ?_⟩
      have e : 2 ^ (i + 1) = 2 * 2 ^ i := by rw [Nat.pow_succ, Nat.mul_comm]
      rw [e]
      exact newton hd (Int.emod_emod_of_dvd _ (Int.dvd_refl _))
    · rintro σ H' ⟨y, v, rfl, rfl, y0, y1, hd⟩
      walk_at "rd"
      refine k _ ?_
      have lw : wd < 2 ^ PySem.Builtin.Int.intBits (wd : Int) := by
        unfold PySem.Builtin.Int.intBits
        rw [if_neg (by simp only [beq_iff_eq]; omega)]
        exact Nat.lt_log2_self
      rw [Nat.min_eq_left (Nat.le_of_lt lw)] at hd
      obtain ⟨t, ht⟩ := hd
      exact cong_of (t := t) (by omega)
def sp_Kind___init__ (K : PySem.W.Frag) (C : Addr) : Sp := fun vs H Q _ => ∃ (p : Addr) (wd : Nat) (s : Bool), vs = [.ref p, .int (wd : Int), .bl s] ∧ (∃ dx, H p = some (.ins C dx [])) ∧ 1 ≤ wd ∧ wd ≤ 128 ∧ ∀ H', Kd C H' p wd s → Kp p H H' → Q .non H'
theorem ok_Kind___init__ {P : Program} {w : World} {K : PySem.W.Frag} {mg : Str → Option Value} {base : Heap} (T : Txt K mg) : FnOk P w K mg base CX0 2 T.f_Kind___init__ T.fd_Kind___init__ ["self", "bits", "is_signed"] (sp_Kind___init__ K T.C_Kind) := by
  have G_is_integer := ok_is_integer (P := P) (w := w) (base := base) T
  refine T.F_Kind___init__.ok sc_Kind___init__ (fun vs H Q E h => ?_) (fun cdv A outer s H vs Q E hr h => ?_)
  · obtain ⟨p, wd, s, rfl, _⟩ := h
    rfl
  · obtain ⟨p, wd, s, rfl, h⟩ := h
    have hr_is_integer : Room 1 _ := hr.mono (by decide)
    refine ⟨_, (pss_cons (ps_if (pt_not (PW.pt (pw_and (pt_val (pe_call G_is_integer hr_is_integer rfl T.g_is_integer T.k_is_integer T.b_is_integer .nil pass0 (pa_cons (pv 1 (hv := Or.inl rfl)) pa_nil))) (pw_and1 (pt_chain op_le op_le pe_int (pv 1 (hv := Or.inl rfl)) (pe_glob (v := .int 128) rfl T.g_MOST_BITS ⟨_, rfl⟩)))))) (pss_one ps_never) pss_nil)
      (pss_cons (ps_if (pt_not (pt_val (pe_callB (id := "isinstance") (r := rIsi K) call_isi (by rfl) T.n_isinstance (by decide +kernel) (pa_cons (pv 2 (hv := Or.inl rfl)) (pa_cons (pe_bltn (v := .ty "bool") (by rfl) T.n_bool (by decide +kernel) rfl) pa_nil))))) (pss_one ps_never) pss_nil)
      (pss_cons (ps_fld (pv 0 (hv := Or.inl rfl)) (pv 1 (hv := Or.inl rfl)) rfl)
      (pss_one (ps_fld (pv 0 (hv := Or.inl rfl)) (pv 2 (hv := Or.inl rfl)) rfl))))), ?_⟩
    try dsimp only [cxOf, Cx.nox, Cx.wish, Cx.blk]
    rw [show L2.start ["self", "bits", "is_signed"] [.ref p, .int (wd : Int), .bl s] = [some (.ref p), some (.int (wd : Int)), some (.bl s)] from rfl]
    obtain ⟨⟨dx, hp⟩, h1, h2, k⟩ := h
    walk_at "rd"
    refine ⟨_, true, rfl, IntQ.int _, ?_⟩
    walk_at "rd"
    refine iteT ?_
    walk_at "rd"
    refine w_chain ?_
    walk_at "rd"
    refine w_decT (by omega) ?_
    walk_at "rd"
    refine w_bF (by rw [decide_eq_true (show ((wd : Int) ≤ 128) by omega)]; rfl) ?_
    walk_at "rd"
    refine w_isi (b := true) (.base (.bl s)) (by decide +kernel) ?_
    walk_at "rd"
    refine iteF ?_
    walk_at "rd"
    refine ⟨p, _, dx, _, rfl, hp, T.cl_Kind, T.na_Kind_bits, (by show 0 < 1000; decide), ?_⟩
    walk_at "rd"
    refine ⟨p, _, dx, _, rfl, upd_same, T.cl_Kind, T.na_Kind_is_signed, (by show 1 < 1000; decide), ?_⟩
    refine k _ ⟨⟨dx, ?_⟩, h1, h2⟩ ((Kp.refl p H).upd.upd)
    rw [upd_same]
    show some (HO.ins _ _ (if ("bits" : Str) = "is_signed" then [(("bits" : Str), V.bl s)] else (("bits" : Str), V.int (wd : Int)) :: putF "is_signed" (V.bl s) [])) = _
    rw [if_neg (by decide +kernel)]
    rfl
def sp_Kind_parts (K : PySem.W.Frag) (C : Addr) : Sp := fun vs H Q _ => ∃ (p : Addr) (wd : Nat) (s : Bool), vs = [.ref p] ∧ Kd C H p wd s ∧ ∀ q, H q = none → Q (.ref q) (upd H q (.tup [.int (wd : Int), .bl s]))
theorem ok_Kind_parts {P : Program} {w : World} {K : PySem.W.Frag} {mg : Str → Option Value} {base : Heap} (T : Txt K mg) : FnOk P w K mg base CX0 1 T.f_Kind_parts T.fd_Kind_parts ["self"] (sp_Kind_parts K T.C_Kind) := by
  refine T.F_Kind_parts.ok sc_Kind_parts (fun vs H Q E h => ?_) (fun cdv A outer s H vs Q E hr h => ?_)
  · obtain ⟨p, wd, s, rfl, _⟩ := h
    rfl
  · obtain ⟨p, wd, s, rfl, h⟩ := h
    refine ⟨_, (pss_one (ps_ret (pe_tup (pa_cons (pe_fld (pv 0 (hv := Or.inl rfl)) rfl) (pa_cons (pe_fld (pv 0 (hv := Or.inl rfl)) rfl) pa_nil))))), ?_⟩
    try dsimp only [cxOf, Cx.nox, Cx.wish, Cx.blk]
    rw [show L2.start ["self"] [.ref p] = [some (.ref p)] from rfl]
    obtain ⟨hk, k⟩ := h
    walk_at "rd"
    refine w_fb T rfl hk ?_
    walk_at "rd"
    refine w_fs T rfl hk ?_
    walk_at "rd"
    refine ⟨by show 2 ≤ sizeLine; decide, fun q hq => ?_⟩
    exact k q hq
def sp_check_kind (K : PySem.W.Frag) (C : Addr) : Sp := fun vs H Q _ => ∃ (p : Addr), vs = [.ref p] ∧ (∃ wd s, Kd C H p wd s) ∧ Q .non H
theorem ok_check_kind {P : Program} {w : World} {K : PySem.W.Frag} {mg : Str → Option Value} {base : Heap} (T : Txt K mg) : FnOk P w K mg base CX0 1 T.f_check_kind T.fd_check_kind ["kind"] (sp_check_kind K T.C_Kind) := by
  refine T.F_check_kind.ok sc_check_kind (fun vs H Q E h => ?_) (fun cdv A outer s H vs Q E hr h => ?_)
  · obtain ⟨p, rfl, _⟩ := h
    rfl
  · obtain ⟨p, rfl, h⟩ := h
    refine ⟨_, (pss_one (ps_if (pt_not (pt_val (pe_callB (id := "isinstance") (r := rIsi K) call_isi (by rfl) T.n_isinstance (by decide +kernel) (pa_cons (pv 0 (hv := Or.inl rfl)) (pa_cons (pe_glob (v := .ref T.C_Kind) rfl T.g_Kind rfl) pa_nil))))) (pss_one ps_never) pss_nil)), ?_⟩
    try dsimp only [cxOf, Cx.nox, Cx.wish, Cx.blk]
    rw [show L2.start ["kind"] [.ref p] = [some (.ref p)] from rfl]
    obtain ⟨⟨wd, s, hk⟩, k⟩ := h
    walk_at "rd"
    refine w_isK T hk ?_
    walk_at "rd"
    refine iteF ?_
    walk_at "rd"
    exact k
def sp_least (K : PySem.W.Frag) (C : Addr) : Sp := fun vs H Q _ => ∃ (p : Addr) (wd : Nat) (s : Bool), vs = [.ref p] ∧ Kd C H p wd s ∧ Q (.int (loK wd s)) H
theorem ok_least {P : Program} {w : World} {K : PySem.W.Frag} {mg : Str → Option Value} {base : Heap} (T : Txt K mg) : FnOk P w K mg base CX0 2 T.f_least T.fd_least ["kind"] (sp_least K T.C_Kind) := by
  have G_check_kind := ok_check_kind (P := P) (w := w) (base := base) T
  refine T.F_least.ok sc_least (fun vs H Q E h => ?_) (fun cdv A outer s H vs Q E hr h => ?_)
  · obtain ⟨p, wd, s, rfl, _⟩ := h
    rfl
  · obtain ⟨p, wd, s, rfl, h⟩ := h
    have hr_check_kind : Room 1 _ := hr.mono (by decide)
    refine ⟨_, (pss_cons (ps_expr (pe_call G_check_kind hr_check_kind rfl T.g_check_kind T.k_check_kind T.b_check_kind .nil pass0 (pa_cons (pv 0 (hv := Or.inl rfl)) pa_nil)))
      (pss_one (ps_ret (pe_ifExp (pt_val (pe_fld (pv 0 (hv := Or.inl rfl)) rfl)) (pe_un un_neg (pe_op op_shl pe_int (pe_op op_sub (pe_fld (pv 0 (hv := Or.inl rfl)) rfl) pe_int))) pe_int)))), ?_⟩
    try dsimp only [cxOf, Cx.nox, Cx.wish, Cx.blk]
    rw [show L2.start ["kind"] [.ref p] = [some (.ref p)] from rfl]
    obtain ⟨hk, k⟩ := h
    walk_at "rd"
    refine ⟨p, rfl, ⟨wd, s, hk⟩, ?_⟩
    walk_at "rd"
    refine w_if ?_
    walk_at "rd"
    refine w_fs T rfl hk ?_
    walk_at "rd"
    cases s with
    | false =>
      refine iteF ?_
      walk_at "rd"
      have e : loK wd false = 0 := by unfold loK; rw [if_neg Bool.false_ne_true]
      rw [e] at k
      exact k
    | true =>
      refine iteT ?_
      walk_at "rd"
      refine w_fb T rfl hk ?_
      walk_at "rd"
      have h1 := hk.w1
      have h2 := hk.w2
      have e : (wd : Int) - 1 = ((wd - 1 : Nat) : Int) := by omega
      rw [e]
      refine w_I (cpow (n := 1) (by omega) (by decide)) ?_
      walk_at "rd"
      rw [Int.toNat_natCast, Int.one_mul]
      have e : loK wd true = -(2 ^ (wd - 1)) := by unfold loK; rw [if_pos rfl]
      rw [e] at k
      exact k
def sp_greatest (K : PySem.W.Frag) (C : Addr) : Sp := fun vs H Q _ => ∃ (p : Addr) (wd : Nat) (s : Bool), vs = [.ref p] ∧ Kd C H p wd s ∧ Q (.int (hiK wd s)) H
theorem ok_greatest {P : Program} {w : World} {K : PySem.W.Frag} {mg : Str → Option Value} {base : Heap} (T : Txt K mg) : FnOk P w K mg base CX0 3 T.f_greatest T.fd_greatest ["kind"] (sp_greatest K T.C_Kind) := by
  have G_least := ok_least (P := P) (w := w) (base := base) T
  refine T.F_greatest.ok sc_greatest (fun vs H Q E h => ?_) (fun cdv A outer s H vs Q E hr h => ?_)
  · obtain ⟨p, wd, s, rfl, _⟩ := h
    rfl
  · obtain ⟨p, wd, s, rfl, h⟩ := h
    have hr_least : Room 2 _ := hr.mono (by decide)
    refine ⟨_, (pss_one (ps_ret (pe_op op_sub (pe_op op_add (pe_call G_least hr_least rfl T.g_least T.k_least T.b_least .nil pass0 (pa_cons (pv 0 (hv := Or.inl rfl)) pa_nil)) (pe_op op_shl pe_int (pe_fld (pv 0 (hv := Or.inl rfl)) rfl))) pe_int))), ?_⟩
    try dsimp only [cxOf, Cx.nox, Cx.wish, Cx.blk]
    rw [show L2.start ["kind"] [.ref p] = [some (.ref p)] from rfl]
    obtain ⟨hk, k⟩ := h
    have h2 := hk.w2
    walk_at "rd"
    refine ⟨p, wd, s, rfl, hk, ?_⟩
    walk_at "rd"
    refine w_fb T rfl hk ?_
    walk_at "rd"
    refine w_I (cpow (n := 1) (by omega) (by decide)) ?_
    walk_at "rd"
    rw [Int.toNat_natCast, Int.one_mul]
    exact k
def sp_is_value (K : PySem.W.Frag) (C : Addr) : Sp := fun vs H Q _ => ∃ (p : Addr) (v : V) (wd : Nat) (s : Bool), vs = [.ref p, v] ∧ Kd C H p wd s ∧ ((∃ i : Int, v = .int i ∧ Q (.bl (decide (loK wd s ≤ i ∧ i ≤ hiK wd s))) H) ∨ (IntQ K H v false ∧ Q (.bl false) H))
theorem ok_is_value {P : Program} {w : World} {K : PySem.W.Frag} {mg : Str → Option Value} {base : Heap} (T : Txt K mg) : FnOk P w K mg base CX0 4 T.f_is_value T.fd_is_value ["kind", "x"] (sp_is_value K T.C_Kind) := by
  have G_check_kind := ok_check_kind (P := P) (w := w) (base := base) T
  have G_greatest := ok_greatest (P := P) (w := w) (base := base) T
  have G_is_integer := ok_is_integer (P := P) (w := w) (base := base) T
  have G_least := ok_least (P := P) (w := w) (base := base) T
  refine T.F_is_value.ok sc_is_value (fun vs H Q E h => ?_) (fun cdv A outer s H vs Q E hr h => ?_)
  · obtain ⟨p, v, wd, s, rfl, _⟩ := h
    rfl
  · obtain ⟨p, v, wd, s, rfl, h⟩ := h
    have hr_check_kind : Room 1 _ := hr.mono (by decide)
    have hr_greatest : Room 3 _ := hr.mono (by decide)
    have hr_is_integer : Room 1 _ := hr.mono (by decide)
    have hr_least : Room 2 _ := hr.mono (by decide)
    refine ⟨_, (pss_cons (ps_expr (pe_call G_check_kind hr_check_kind rfl T.g_check_kind T.k_check_kind T.b_check_kind .nil pass0 (pa_cons (pv 0 (hv := Or.inl rfl)) pa_nil)))
      (pss_one (ps_ret (pe_and (pe_call G_is_integer hr_is_integer rfl T.g_is_integer T.k_is_integer T.b_is_integer .nil pass0 (pa_cons (pv 1 (hv := Or.inl rfl)) pa_nil)) (pe_one (pe_chain op_le op_le (pe_call G_least hr_least rfl T.g_least T.k_least T.b_least .nil pass0 (pa_cons (pv 0 (hv := Or.inl rfl)) pa_nil)) (pv 1 (hv := Or.inl rfl)) (pe_call G_greatest hr_greatest rfl T.g_greatest T.k_greatest T.b_greatest .nil pass0 (pa_cons (pv 0 (hv := Or.inl rfl)) pa_nil)))))))), ?_⟩
    try dsimp only [cxOf, Cx.nox, Cx.wish, Cx.blk]
    rw [show L2.start ["kind", "x"] [.ref p, v] = [some (.ref p), some (v)] from rfl]
    obtain ⟨hk, k⟩ := h
    walk_at "rd"
    refine ⟨p, rfl, ⟨wd, s, hk⟩, ?_⟩
    walk_at "rd"
    rcases k with ⟨i, rfl, k⟩ | ⟨hi, k⟩
    · refine ⟨_, true, rfl, IntQ.int _, ?_⟩
      walk_at "rd"
      refine iteT ?_
      refine w_chain ?_
      walk_at "rd"
      refine ⟨p, wd, s, rfl, hk, ?_⟩
      walk_at "rd"
      refine w_dec (fun h1 => ?_) (fun h1 => ?_)
      · walk_at "rd"
        refine ⟨p, wd, s, rfl, hk, ?_⟩
        walk_at "rd"
        have e : decide (loK wd s ≤ i ∧ i ≤ hiK wd s) = decide (i ≤ hiK wd s) := by simp [h1]
        rw [e] at k
        exact k
      · have e : decide (loK wd s ≤ i ∧ i ≤ hiK wd s) = false := by simp [h1]
        rw [e] at k
        exact k
    · refine ⟨_, false, rfl, hi, ?_⟩
      walk_at "rd"
      refine iteF ?_
      exact k
def sp_check_value (K : PySem.W.Frag) (C : Addr) : Sp := fun vs H Q _ => ∃ (p : Addr) (i : Int) (z : Str), vs = [.ref p, .int i, .str z] ∧ (∃ wd s, Kd C H p wd s ∧ loK wd s ≤ i ∧ i ≤ hiK wd s) ∧ Q .non H
theorem ok_check_value {P : Program} {w : World} {K : PySem.W.Frag} {mg : Str → Option Value} {base : Heap} (T : Txt K mg) : FnOk P w K mg base CX0 5 T.f_check_value T.fd_check_value ["kind", "x", "argument"] (sp_check_value K T.C_Kind) := by
  have G_is_value := ok_is_value (P := P) (w := w) (base := base) T
  refine T.F_check_value.ok sc_check_value (fun vs H Q E h => ?_) (fun cdv A outer s H vs Q E hr h => ?_)
  · obtain ⟨p, i, z, rfl, _⟩ := h
    rfl
  · obtain ⟨p, i, z, rfl, h⟩ := h
    have hr_is_value : Room 4 _ := hr.mono (by decide)
    refine ⟨_, (pss_one (ps_if (pt_not (pt_val (pe_call G_is_value hr_is_value rfl T.g_is_value T.k_is_value T.b_is_value .nil pass0 (pa_cons (pv 0 (hv := Or.inl rfl)) (pa_cons (pv 1 (hv := Or.inl rfl)) pa_nil))))) (pss_one ps_never) pss_nil)), ?_⟩
    try dsimp only [cxOf, Cx.nox, Cx.wish, Cx.blk]
    rw [show L2.start ["kind", "x", "argument"] [.ref p, .int i, .str z] = [some (.ref p), some (.int i), some (.str z)] from rfl]
    obtain ⟨⟨wd, s, hk, h1, h2⟩, k⟩ := h
    walk_at "rd"
    refine ⟨p, _, wd, s, rfl, hk, .inl ⟨i, rfl, ?_⟩⟩
    walk_at "rd"
    refine w_ndecT ⟨h1, h2⟩ ?_
    walk_at "rd"
    exact k
def sp_wrapped (K : PySem.W.Frag) (C : Addr) : Sp := fun vs H Q _ => ∃ (p : Addr) (i : Int) (wd : Nat) (s : Bool), vs = [.ref p, .int i] ∧ Kd C H p wd s ∧ Q (.int (wr wd s i)) H
theorem ok_wrapped {P : Program} {w : World} {K : PySem.W.Frag} {mg : Str → Option Value} {base : Heap} (T : Txt K mg) : FnOk P w K mg base CX0 3 T.f_wrapped T.fd_wrapped ["kind", "n"] (sp_wrapped K T.C_Kind) := by
  have G_check_integer := ok_check_integer (P := P) (w := w) (base := base) T
  have G_check_kind := ok_check_kind (P := P) (w := w) (base := base) T
  have G_least := ok_least (P := P) (w := w) (base := base) T
  refine T.F_wrapped.ok sc_wrapped (fun vs H Q E h => ?_) (fun cdv A outer s H vs Q E hr h => ?_)
  · obtain ⟨p, i, wd, s, rfl, _⟩ := h
    rfl
  · obtain ⟨p, i, wd, s, rfl, h⟩ := h
    have hr_check_integer : Room 2 _ := hr.mono (by decide)
    have hr_check_kind : Room 1 _ := hr.mono (by decide)
    have hr_least : Room 2 _ := hr.mono (by decide)
    refine ⟨_, (pss_cons (ps_expr (pe_call G_check_kind hr_check_kind rfl T.g_check_kind T.k_check_kind T.b_check_kind .nil pass0 (pa_cons (pv 0 (hv := Or.inl rfl)) pa_nil)))
      (pss_cons (ps_expr (pe_call G_check_integer hr_check_integer rfl T.g_check_integer T.k_check_integer T.b_check_integer .nil pass0 (pa_cons (pv 1 (hv := Or.inl rfl)) (pa_cons pe_str pa_nil))))
      (pss_cons (ps_set (i := 2) sc_wrapped.nd rfl (Or.inl rfl) (pe_call G_least hr_least rfl T.g_least T.k_least T.b_least .nil pass0 (pa_cons (pv 0 (hv := Or.inl rfl)) pa_nil)))
      (pss_one (ps_ret (pe_op op_add (pv 2 (hv := Or.inl rfl)) (pe_op op_mod (pe_op op_sub (pv 1 (hv := Or.inl rfl)) (pv 2 (hv := Or.inl rfl))) (pe_op op_shl pe_int (pe_fld (pv 0 (hv := Or.inl rfl)) rfl))))))))), ?_⟩
    try dsimp only [cxOf, Cx.nox, Cx.wish, Cx.blk]
    rw [show L2.start ["kind", "n", "low"] [.ref p, .int i] = [some (.ref p), some (.int i), none] from rfl]
    obtain ⟨hk, k⟩ := h
    have h2 := hk.w2
    walk_at "rd"
    refine ⟨p, rfl, ⟨wd, s, hk⟩, ?_⟩
    walk_at "rd"
    refine ⟨_, _, rfl, ?_⟩
    walk_at "rd"
    refine ⟨p, wd, s, rfl, hk, ?_⟩
    walk_at "rd"
    refine w_fb T rfl hk ?_
    walk_at "rd"
    refine w_I (cpow (n := 1) (by omega) (by decide)) ?_
    rw [Int.toNat_natCast, Int.one_mul]
    refine w_I (p2 wd) ?_
    walk_at "rd"
    exact k
def sp_inverse (K : PySem.W.Frag) (C : Addr) : Sp := fun vs H Q _ => ∃ (p : Addr) (x : Int) (wd : Nat) (s : Bool), vs = [.ref p, .int x] ∧ Kd C H p wd s ∧ (loK wd s ≤ x ∧ x ≤ hiK wd s) ∧ ((x % 2 = 0 ∧ Q .non H) ∨ (x % 2 = 1 ∧ ∀ y, x * y % 2 ^ wd = 1 % 2 ^ wd → Q (.int (wr wd s y)) H))
theorem ok_inverse {P : Program} {w : World} {K : PySem.W.Frag} {mg : Str → Option Value} {base : Heap} (T : Txt K mg) : FnOk P w K mg base CX0 6 T.f_inverse T.fd_inverse ["kind", "x"] (sp_inverse K T.C_Kind) := by
  have G_check_kind := ok_check_kind (P := P) (w := w) (base := base) T
  have G_check_value := ok_check_value (P := P) (w := w) (base := base) T
  have G_odd_inverse := ok_odd_inverse (P := P) (w := w) (base := base) T
  have G_wrapped := ok_wrapped (P := P) (w := w) (base := base) T
  refine T.F_inverse.ok sc_inverse (fun vs H Q E h => ?_) (fun cdv A outer s H vs Q E hr h => ?_)
  · obtain ⟨p, x, wd, s, rfl, _⟩ := h
    rfl
  · obtain ⟨p, x, wd, s, rfl, h⟩ := h
    have hr_check_kind : Room 1 _ := hr.mono (by decide)
    have hr_check_value : Room 5 _ := hr.mono (by decide)
    have hr_odd_inverse : Room 1 _ := hr.mono (by decide)
    have hr_wrapped : Room 3 _ := hr.mono (by decide)
    refine ⟨_, (pss_cons (ps_expr (pe_call G_check_kind hr_check_kind rfl T.g_check_kind T.k_check_kind T.b_check_kind .nil pass0 (pa_cons (pv 0 (hv := Or.inl rfl)) pa_nil)))
      (pss_cons (ps_expr (pe_call G_check_value hr_check_value rfl T.g_check_value T.k_check_value T.b_check_value .nil pass0 (pa_cons (pv 0 (hv := Or.inl rfl)) (pa_cons (pv 1 (hv := Or.inl rfl)) (pa_cons pe_str pa_nil)))))
      (pss_cons (ps_if (pt_cmpR op_eq (pe_op op_mod (pv 1 (hv := Or.inl rfl)) pe_int) pe_int (nomark _)) (pss_one (ps_ret pe_non)) pss_nil)
      (pss_one (ps_ret (pe_call G_wrapped hr_wrapped rfl T.g_wrapped T.k_wrapped T.b_wrapped .nil pass0 (pa_cons (pv 0 (hv := Or.inl rfl)) (pa_cons (pe_call G_odd_inverse hr_odd_inverse rfl T.g_odd_inverse T.k_odd_inverse T.b_odd_inverse .nil pass0 (pa_cons (pv 1 (hv := Or.inl rfl)) (pa_cons (pe_fld (pv 0 (hv := Or.inl rfl)) rfl) pa_nil))) pa_nil)))))))), ?_⟩
    try dsimp only [cxOf, Cx.nox, Cx.wish, Cx.blk]
    rw [show L2.start ["kind", "x"] [.ref p, .int x] = [some (.ref p), some (.int x)] from rfl]
    obtain ⟨hk, hx, k⟩ := h
    walk_at "rd"
    refine ⟨p, rfl, ⟨wd, s, hk⟩, ?_⟩
    walk_at "rd"
    refine ⟨p, x, _, rfl, ⟨wd, s, hk, hx⟩, ?_⟩
    walk_at "rd"
    rcases k with ⟨c, k⟩ | ⟨c, k⟩
    · refine w_decT c ?_
      walk_at "rd"
      exact k
    · refine w_decF (by omega) ?_
      walk_at "rd"
      refine w_fb T rfl hk ?_
      walk_at "rd"
      refine ⟨x, wd, rfl, c, b129 hk.w2 hx.1 hx.2, hk.w1, hk.w2, fun y hy => ?_⟩
      walk_at "rd"
      exact ⟨p, y, wd, s, rfl, hk, k y hy⟩
def sp_is_generator (K : PySem.W.Frag) (C : Addr) : Sp := fun vs H Q _ => ∃ (p t : Addr) (a c : Int) (wd : Nat) (s : Bool), vs = [.ref p, .ref t] ∧ Kd C H p wd s ∧ H t = some (.tup [.int a, .int c]) ∧ Iv wd s a ∧ Iv wd s c ∧ Q (.bl true) H
theorem ok_is_generator {P : Program} {w : World} {K : PySem.W.Frag} {mg : Str → Option Value} {base : Heap} (T : Txt K mg) : FnOk P w K mg base CX0 5 T.f_is_generator T.fd_is_generator ["kind", "value"] (sp_is_generator K T.C_Kind) := by
  have G_is_value := ok_is_value (P := P) (w := w) (base := base) T
  refine T.F_is_generator.ok sc_is_generator (fun vs H Q E h => ?_) (fun cdv A outer s H vs Q E hr h => ?_)
  · obtain ⟨p, t, a, c, wd, s, rfl, _⟩ := h
    rfl
  · obtain ⟨p, t, a, c, wd, s, rfl, h⟩ := h
    have hr_is_value : Room 4 _ := hr.mono (by decide)
    refine ⟨_, (pss_one (ps_ret (pe_and (pe_callB (id := "isinstance") (r := rIsi K) call_isi (by rfl) T.n_isinstance (by decide +kernel) (pa_cons (pv 1 (hv := Or.inl rfl)) (pa_cons (pe_bltn (v := .ty "tuple") (by rfl) T.n_tuple (by decide +kernel) rfl) pa_nil))) (pe_and (pe_cmpR op_eq (pe_callB (id := "len") (r := rLenS K) call_len_seq (by rfl) T.n_len (by decide +kernel) (pa_cons (pv 1 (hv := Or.inl rfl)) pa_nil)) pe_int (nomark _)) (pe_and (pe_call G_is_value hr_is_value rfl T.g_is_value T.k_is_value T.b_is_value .nil pass0 (pa_cons (pv 0 (hv := Or.inl rfl)) (pa_cons (pe_ix (r := rIxT K) ix_tup (pv 1 (hv := Or.inl rfl)) pe_int (fun _ _ => rfl)) pa_nil))) (pe_one (pe_call G_is_value hr_is_value rfl T.g_is_value T.k_is_value T.b_is_value .nil pass0 (pa_cons (pv 0 (hv := Or.inl rfl)) (pa_cons (pe_ix (r := rIxT K) ix_tup (pv 1 (hv := Or.inl rfl)) pe_int (fun _ _ => rfl)) pa_nil))))))))), ?_⟩
    try dsimp only [cxOf, Cx.nox, Cx.wish, Cx.blk]
    rw [show L2.start ["kind", "value"] [.ref p, .ref t] = [some (.ref p), some (.ref t)] from rfl]
    obtain ⟨hk, ht, ha, hc, k⟩ := h
    walk_at "rd"
    refine w_isi (b := true) (.base (.tup ht)) (by decide +kernel) ?_
    walk_at "rd"
    refine iteT ?_
    walk_at "rd"
    refine w_lenT ht ?_
    walk_at "rd"
    refine iteT ?_
    walk_at "rd"
    refine ⟨p, _, wd, s, rfl, hk, .inl ⟨a, rfl, ?_⟩⟩
    rw [decide_eq_true (show loK wd s ≤ a ∧ a ≤ hiK wd s from ha)]
    walk_at "rd"
    refine iteT ?_
    walk_at "rd"
    refine ⟨p, _, wd, s, rfl, hk, .inl ⟨c, rfl, ?_⟩⟩
    rw [decide_eq_true (show loK wd s ≤ c ∧ c ≤ hiK wd s from hc)]
    exact k
def sp_check_generator (K : PySem.W.Frag) (C : Addr) : Sp := fun vs H Q _ => ∃ (p t : Addr) (z : Str), vs = [.ref p, .ref t, .str z] ∧ (∃ a c wd s, Kd C H p wd s ∧ H t = some (.tup [.int a, .int c]) ∧ Iv wd s a ∧ Iv wd s c) ∧ Q .non H
theorem ok_check_generator {P : Program} {w : World} {K : PySem.W.Frag} {mg : Str → Option Value} {base : Heap} (T : Txt K mg) : FnOk P w K mg base CX0 6 T.f_check_generator T.fd_check_generator ["kind", "value", "argument"] (sp_check_generator K T.C_Kind) := by
  have G_is_generator := ok_is_generator (P := P) (w := w) (base := base) T
  refine T.F_check_generator.ok sc_check_generator (fun vs H Q E h => ?_) (fun cdv A outer s H vs Q E hr h => ?_)
  · obtain ⟨p, t, z, rfl, _⟩ := h
    rfl
  · obtain ⟨p, t, z, rfl, h⟩ := h
    have hr_is_generator : Room 5 _ := hr.mono (by decide)
    refine ⟨_, (pss_one (ps_if (pt_not (pt_val (pe_call G_is_generator hr_is_generator rfl T.g_is_generator T.k_is_generator T.b_is_generator .nil pass0 (pa_cons (pv 0 (hv := Or.inl rfl)) (pa_cons (pv 1 (hv := Or.inl rfl)) pa_nil))))) (pss_one ps_never) pss_nil)), ?_⟩
    try dsimp only [cxOf, Cx.nox, Cx.wish, Cx.blk]
    rw [show L2.start ["kind", "value", "argument"] [.ref p, .ref t, .str z] = [some (.ref p), some (.ref t), some (.str z)] from rfl]
    obtain ⟨⟨a, c, wd, s, hk, ht, ha, hc⟩, k⟩ := h
    walk_at "rd"
    refine ⟨p, t, a, c, wd, s, rfl, hk, ht, ha, hc, ?_⟩
    walk_at "rd"
    refine iteF ?_
    walk_at "rd"
    exact k
def sp_moved (K : PySem.W.Frag) (C : Addr) : Sp := fun vs H Q _ => ∃ (t : Addr) (a c x S : Int), vs = [.ref t, .int x, .int S] ∧ H t = some (.tup [.int a, .int c]) ∧ a.natAbs < 2 ^ 129 ∧ x.natAbs < 2 ^ 200 ∧ 0 < S ∧ Q (.int ((a * x + c) % S)) H
theorem ok_moved {P : Program} {w : World} {K : PySem.W.Frag} {mg : Str → Option Value} {base : Heap} (T : Txt K mg) : FnOk P w K mg base CX0 1 T.f_moved T.fd_moved ["step", "x", "size"] (sp_moved K T.C_Kind) := by
  refine T.F_moved.ok sc_moved (fun vs H Q E h => ?_) (fun cdv A outer s H vs Q E hr h => ?_)
  · obtain ⟨t, a, c, x, S, rfl, _⟩ := h
    rfl
  · obtain ⟨t, a, c, x, S, rfl, h⟩ := h
    refine ⟨_, (pss_cons (ps_asg (pv 0 (hv := Or.inl rfl)) (pg_tup rfl (pgs_cons (pg_name (i := 3) sc_moved.nd rfl (Or.inl rfl)) (pgs_cons (pg_name (i := 4) sc_moved.nd rfl (Or.inl rfl)) pgs_nil))))
      (pss_one (ps_ret (pe_op op_mod (pe_op op_add (pe_op op_mulX (pv 3 (hv := Or.inl rfl)) (pv 1 (hv := Or.inl rfl))) (pv 4 (hv := Or.inl rfl))) (pv 2 (hv := Or.inl rfl)))))), ?_⟩
    try dsimp only [cxOf, Cx.nox, Cx.wish, Cx.blk]
    rw [show L2.start ["step", "x", "size", "a", "c"] [.ref t, .int x, .int S] = [some (.ref t), some (.int x), some (.int S), none, none] from rfl]
    obtain ⟨ht, ha, hx, hS, k⟩ := h
    walk_at "rd"
    refine w_I (mulx_ok ha hx (by decide)) ?_
    walk_at "rd"
    refine w_I hS ?_
    exact k
def sp_after (K : PySem.W.Frag) (C : Addr) : Sp := fun vs H Q _ => ∃ (t u : Addr) (a c b d S : Int), vs = [.ref t, .ref u, .int S] ∧ H t = some (.tup [.int a, .int c]) ∧ H u = some (.tup [.int b, .int d]) ∧ a.natAbs < 2 ^ 129 ∧ b.natAbs < 2 ^ 129 ∧ c.natAbs < 2 ^ 129 ∧ 0 < S ∧ ∀ q, H q = none → Q (.ref q) (L2.upd H q (.tup [.int (a * b % S), .int ((b * c + d) % S)]))
theorem ok_after {P : Program} {w : World} {K : PySem.W.Frag} {mg : Str → Option Value} {base : Heap} (T : Txt K mg) : FnOk P w K mg base CX0 2 T.f_after T.fd_after ["one", "other", "size"] (sp_after K T.C_Kind) := by
  have G_moved := ok_moved (P := P) (w := w) (base := base) T
  refine T.F_after.ok sc_after (fun vs H Q E h => ?_) (fun cdv A outer s H vs Q E hr h => ?_)
  · obtain ⟨t, u, a, c, b, d, S, rfl, _⟩ := h
    rfl
  · obtain ⟨t, u, a, c, b, d, S, rfl, h⟩ := h
    have hr_moved : Room 1 _ := hr.mono (by decide)
    refine ⟨_, (pss_one (ps_ret (pe_tup (pa_cons (pe_op op_mod (pe_op op_mulX (pe_ix (r := rIxT K) ix_tup (pv 0 (hv := Or.inl rfl)) pe_int (fun _ _ => rfl)) (pe_ix (r := rIxT K) ix_tup (pv 1 (hv := Or.inl rfl)) pe_int (fun _ _ => rfl))) (pv 2 (hv := Or.inl rfl))) (pa_cons (pe_call G_moved hr_moved rfl T.g_moved T.k_moved T.b_moved .nil pass0 (pa_cons (pv 1 (hv := Or.inl rfl)) (pa_cons (pe_ix (r := rIxT K) ix_tup (pv 0 (hv := Or.inl rfl)) pe_int (fun _ _ => rfl)) (pa_cons (pv 2 (hv := Or.inl rfl)) pa_nil)))) pa_nil))))), ?_⟩
    try dsimp only [cxOf, Cx.nox, Cx.wish, Cx.blk]
    rw [show L2.start ["one", "other", "size"] [.ref t, .ref u, .int S] = [some (.ref t), some (.ref u), some (.int S)] from rfl]
    obtain ⟨ht, hu, ha, hb, hc, hS, k⟩ := h
    walk_at "rd"
    refine w_I (mulx_ok ha hb (by decide)) ?_
    walk_at "rd"
    refine w_I hS ?_
    walk_at "rd"
    refine ⟨u, b, d, c, S, rfl, hu, hb, Nat.lt_of_lt_of_le hc (Nat.pow_le_pow_right (by decide) (by decide)), hS, ?_⟩
    walk_at "rd"
    refine ⟨by show 2 ≤ sizeLine; decide, fun q hq => ?_⟩
    exact k q hq
def sp_repeated (K : PySem.W.Frag) (C : Addr) : Sp := fun vs H Q _ => ∃ (t : Addr) (a c : Int) (n wd : Nat), vs = [.ref t, .int (n : Int), .int (2 ^ wd)] ∧ wd ≤ 128 ∧ H t = some (.tup [.int a, .int c]) ∧ a.natAbs < 2 ^ 129 ∧ c.natAbs < 2 ^ 129 ∧ ∀ q H' p' q', Same H H' → H' q = some (.tup [.int p', .int q']) → p'.natAbs < 2 ^ 129 → q'.natAbs < 2 ^ 129 → gRep (2 ^ wd) a c p' q' n → Q (.ref q) H'
theorem ok_repeated {P : Program} {w : World} {K : PySem.W.Frag} {mg : Str → Option Value} {base : Heap} (T : Txt K mg) : FnOk P w K mg base CX0 3 T.f_repeated T.fd_repeated ["step", "n", "size"] (sp_repeated K T.C_Kind) := by
  have G_after := ok_after (P := P) (w := w) (base := base) T
  refine T.F_repeated.ok sc_repeated (fun vs H Q E h => ?_) (fun cdv A outer s H vs Q E hr h => ?_)
  · obtain ⟨t, a, c, n, wd, rfl, _⟩ := h
    rfl
  · obtain ⟨t, a, c, n, wd, rfl, h⟩ := h
    have hr_after : Room 2 _ := hr.mono (by decide)
    refine ⟨_, (pss_cons (ps_set (i := 3) sc_repeated.nd rfl (Or.inl rfl) (pe_tup (pa_cons pe_int (pa_cons pe_int pa_nil))))
      (pss_cons (ps_while PassesOwn.never (pt_cmpR op_gt (pv 1 (hv := Or.inl rfl)) pe_int (nomark _))
        (pss_cons (ps_if (pt_cmpR op_eq (pe_op op_mod (pv 1 (hv := Or.inl rfl)) pe_int) pe_int (nomark _)) (pss_one (ps_set (i := 3) sc_repeated.nd rfl (Or.inl rfl) (pe_call G_after hr_after rfl T.g_after T.k_after T.b_after .nil pass0 (pa_cons (pv 3 (hv := Or.inl rfl)) (pa_cons (pv 0 (hv := Or.inl rfl)) (pa_cons (pv 2 (hv := Or.inl rfl)) pa_nil)))))) pss_nil)
      (pss_cons (ps_set (i := 0) sc_repeated.nd rfl (Or.inl rfl) (pe_call G_after hr_after rfl T.g_after T.k_after T.b_after .nil pass0 (pa_cons (pv 0 (hv := Or.inl rfl)) (pa_cons (pv 0 (hv := Or.inl rfl)) (pa_cons (pv 2 (hv := Or.inl rfl)) pa_nil)))))
      (pss_one (ps_aug (i := 1) sc_repeated.nd rfl (Or.inl rfl) pe_int iop_fdiv)))))
      (pss_one (ps_ret (pv 3 (hv := Or.inl rfl)))))), ?_⟩
    try dsimp only [cxOf, Cx.nox, Cx.wish, Cx.blk]
    rw [show L2.start ["step", "n", "size", "total"] [.ref t, .int (n : Int), .int (2 ^ wd)] = [some (.ref t), some (.int (n : Int)), some (.int (2 ^ wd)), none] from rfl]
    obtain ⟨w2, ht, ha, hc, k⟩ := h
    walk_at "rd"
    refine ⟨by show 2 ≤ sizeLine; decide, fun q0 hq0 => ?_⟩
    walk_at "rd"
    refine w_while (fun m σ H' => ∃ (t1 t2 : Addr) (a1 c1 a2 c2 : Int) (r i j : Nat), σ = [some (.ref t1), some (.int (r : Int)), some (.int (2 ^ wd)), some (.ref t2)] ∧ m = r ∧ H' t1 = some (.tup [.int a1, .int c1]) ∧ H' t2 = some (.tup [.int a2, .int c2]) ∧ a1.natAbs < 2 ^ 129 ∧ c1.natAbs < 2 ^ 129 ∧ a2.natAbs < 2 ^ 129 ∧ c2.natAbs < 2 ^ 129 ∧ gRep (2 ^ wd) a c a1 c1 (2 ^ i) ∧ gRep (2 ^ wd) a c a2 c2 j ∧ n = j + 2 ^ i * r ∧ Same H H') n
      ⟨t, q0, a, c, 1, 0, n, 0, 0, rfl, rfl, gn ht hq0, upd_same, ha, hc, by decide, by decide, gRep_one _ _ _, gRep_zero _ _ _, by omega, sm_new (Same.refl H) hq0⟩ ?_
    rintro m σ H' ⟨t1, t2, a1, c1, a2, c2, r, i, j, rfl, hmr, h1, h2, ba1, bc1, ba2, bc2, r1, r2, hn, sm⟩
    subst hmr
    have er : (m : Int) / 2 = ((m / 2 : Nat) : Int) := by omega
    have dbl : gRep (2 ^ wd) a c (a1 * a1 % 2 ^ wd) ((a1 * c1 + c1) % 2 ^ wd) (2 ^ (i + 1)) := by
      rw [show 2 ^ (i + 1) = 2 ^ i + 2 ^ i by rw [Nat.pow_succ]; omega]
      exact gRep_comp r1 r1
    walk_at "rd"
    refine w_dec (fun c0 => ?_) (fun c0 => ?_)
    · refine ⟨_, fun _ _ h => h, ?_⟩
      walk_at "rd"
      refine w_dec (fun c1' => ?_) (fun c1' => ?_)
      · walk_at "rd"
        refine ⟨t2, t1, a2, c2, a1, c1, _, rfl, h2, h1, ba2, ba1, bc2, p2 wd, fun q1 hq1 => ?_⟩
        walk_at "rd"
        refine ⟨t1, t1, a1, c1, a1, c1, _, rfl, gn h1 hq1, gn h1 hq1, ba1, ba1, bc1, p2 wd, fun q3 hq3 => ?_⟩
        walk_at "rd"
        refine w_augR rfl ?_
        walk_at "rd"
        rw [er]
        refine ⟨m / 2, by omega, q3, q1, _, _, _, _, m / 2, i + 1, j + 2 ^ i, rfl, rfl, upd_same, gn upd_same hq3, b129m w2 _, b129m w2 _, b129m w2 _, b129m w2 _, dbl, gRep_comp r2 r1, ?_, sm_new (sm_new sm hq1) hq3⟩
        rw [Nat.pow_succ, Nat.mul_assoc]
        have : m = 2 * (m / 2) + 1 := by omega
        have e2 : 2 ^ i * m = 2 ^ i * (2 * (m / 2)) + 2 ^ i := by
          conv => lhs; rw [this]
          rw [Nat.mul_add, Nat.mul_one]
        omega
      · walk_at "rd"
        refine ⟨t1, t1, a1, c1, a1, c1, _, rfl, h1, h1, ba1, ba1, bc1, p2 wd, fun q3 hq3 => ?_⟩
        walk_at "rd"
        refine w_augR rfl ?_
        walk_at "rd"
        rw [er]
        refine ⟨m / 2, by omega, q3, t2, _, _, a2, c2, m / 2, i + 1, j, rfl, rfl, upd_same, gn h2 hq3, b129m w2 _, b129m w2 _, ba2, bc2, dbl, r2, ?_, sm_new sm hq3⟩
        rw [Nat.pow_succ, Nat.mul_assoc]
        have : m = 2 * (m / 2) := by omega
        rw [← this]; exact hn
    · walk_at "rd"
      have e : n = j := by
        have : m = 0 := by omega
        rw [this, Nat.mul_zero] at hn; omega
      rw [← e] at r2
      exact k _ _ _ _ sm h2 ba2 bc2 r2
def sp_after_many (K : PySem.W.Frag) (C : Addr) : Sp := fun vs H Q _ => ∃ (t : Addr) (a c x n : Int) (wd : Nat), vs = [.ref t, .int x, .int n, .int (wd : Int)] ∧ wd ≤ 128 ∧ H t = some (.tup [.int a, .int c]) ∧ a.natAbs < 2 ^ 129 ∧ c.natAbs < 2 ^ 129 ∧ x.natAbs < 2 ^ 200 ∧ (a % 2 = 0 → 0 ≤ n) ∧ ∀ H', Same H H' → Q (.int (gAt wd a c x n % 2 ^ wd)) H'
theorem ok_after_many {P : Program} {w : World} {K : PySem.W.Frag} {mg : Str → Option Value} {base : Heap} (T : Txt K mg) : FnOk P w K mg base CX0 4 T.f_after_many T.fd_after_many ["step", "x", "n", "bits"] (sp_after_many K T.C_Kind) := by
  have G_moved := ok_moved (P := P) (w := w) (base := base) T
  have G_repeated := ok_repeated (P := P) (w := w) (base := base) T
  refine T.F_after_many.ok sc_after_many (fun vs H Q E h => ?_) (fun cdv A outer s H vs Q E hr h => ?_)
  · obtain ⟨t, a, c, x, n, wd, rfl, _⟩ := h
    rfl
  · obtain ⟨t, a, c, x, n, wd, rfl, h⟩ := h
    have hr_moved : Room 1 _ := hr.mono (by decide)
    have hr_repeated : Room 3 _ := hr.mono (by decide)
    refine ⟨_, (pss_cons (ps_set (i := 4) sc_after_many.nd rfl (Or.inl rfl) (pe_ifExp (pt_cmpR op_eq (pe_op op_mod (pe_ix (r := rIxT K) ix_tup (pv 0 (hv := Or.inl rfl)) pe_int (fun _ _ => rfl)) pe_int) pe_int (nomark _)) (pe_callB (id := "min") (r := rmin2C) (call_min2 rfl) (by rfl) T.n_min (by decide +kernel) (pa_cons (pv 2 (hv := Or.inl rfl)) (pa_cons (pv 3 (hv := Or.inl rfl)) pa_nil))) (pe_op op_mod (pv 2 (hv := Or.inl rfl)) (pe_op op_shl pe_int (pv 3 (hv := Or.inl rfl))))))
      (pss_one (ps_ret (pe_call G_moved hr_moved rfl T.g_moved T.k_moved T.b_moved .nil pass0 (pa_cons (pe_call G_repeated hr_repeated rfl T.g_repeated T.k_repeated T.b_repeated .nil pass0 (pa_cons (pv 0 (hv := Or.inl rfl)) (pa_cons (pv 4 (hv := Or.inl rfl)) (pa_cons (pe_op op_shl pe_int (pv 3 (hv := Or.inl rfl))) pa_nil)))) (pa_cons (pv 1 (hv := Or.inl rfl)) (pa_cons (pe_op op_shl pe_int (pv 3 (hv := Or.inl rfl))) pa_nil))))))), ?_⟩
    try dsimp only [cxOf, Cx.nox, Cx.wish, Cx.blk]
    rw [show L2.start ["step", "x", "n", "bits", "many"] [.ref t, .int x, .int n, .int (wd : Int)] = [some (.ref t), some (.int x), some (.int n), some (.int (wd : Int)), none] from rfl]
    obtain ⟨w2, ht, ha, hc, hx, hn, k⟩ := h
    walk_at "rd"
    refine w_ifJ (fun v H' => v = .int (gCnt wd a n : Nat) ∧ H = H') (fun Q hQ => ?_) ?_
    · refine w_if ?_
      walk_at "rd"
      refine w_dec (fun c0 => ?_) (fun c0 => ?_)
      · walk_at "rd"
        refine w_min2 ?_
        refine hQ _ _ ⟨?_, rfl⟩
        unfold gCnt
        rw [if_pos c0]
        have := hn c0
        rw [Int.toNat_of_nonneg (by omega)]
      · walk_at "rd"
        refine w_I (cpow (n := 1) (by omega) (by decide)) ?_
        rw [Int.toNat_natCast, Int.one_mul]
        refine w_I (p2 wd) ?_
        refine hQ _ _ ⟨?_, rfl⟩
        unfold gCnt
        rw [if_neg c0, Int.toNat_of_nonneg (Int.emod_nonneg n (Int.ne_of_gt (p2 wd)))]
    rintro v _ ⟨rfl, rfl⟩
    walk_at "rd"
    refine w_I (cpow (n := 1) (by omega) (by decide)) ?_
    rw [Int.toNat_natCast, Int.one_mul]
    refine ⟨t, a, c, gCnt wd a n, wd, rfl, w2, ht, ha, hc, fun q H' p' q' sm hq b1 b2 r => ?_⟩
    walk_at "rd"
    refine w_I (cpow (n := 1) (by omega) (by decide)) ?_
    rw [Int.toNat_natCast, Int.one_mul]
    refine ⟨q, p', q', x, _, rfl, hq, b1, hx, p2 wd, ?_⟩
    rw [r.mod x]
    exact k _ sm
def sp_steps_to_ring (K : PySem.W.Frag) (C : Addr) : Sp := fun vs H Q _ => ∃ (t : Addr) (a c x : Int) (wd : Nat), vs = [.ref t, .int x, .int (wd : Int)] ∧ 1 ≤ wd ∧ wd ≤ 128 ∧ H t = some (.tup [.int a, .int c]) ∧ a.natAbs < 2 ^ 129 ∧ c.natAbs < 2 ^ 129 ∧ x.natAbs < 2 ^ 200 ∧ ∀ (l : Nat) H', Same H H' → LeadN wd a c x l → Q (.int (l : Int)) H'
theorem ok_steps_to_ring {P : Program} {w : World} {K : PySem.W.Frag} {mg : Str → Option Value} {base : Heap} (T : Txt K mg) : FnOk P w K mg base CX0 5 T.f_steps_to_ring T.fd_steps_to_ring ["step", "x", "bits"] (sp_steps_to_ring K T.C_Kind) := by
  have G_after_many := ok_after_many (P := P) (w := w) (base := base) T
  have G_twos_in := ok_twos_in (P := P) (w := w) (base := base) T
  refine T.F_steps_to_ring.ok sc_steps_to_ring (fun vs H Q E h => ?_) (fun cdv A outer s H vs Q E hr h => ?_)
  · obtain ⟨t, a, c, x, wd, rfl, _⟩ := h
    rfl
  · obtain ⟨t, a, c, x, wd, rfl, h⟩ := h
    have hr_after_many : Room 4 _ := hr.mono (by decide)
    have hr_twos_in : Room 2 _ := hr.mono (by decide)
    refine ⟨_, (pss_cons (ps_if (pt_cmpR op_eq (pe_op op_mod (pe_ix (r := rIxT K) ix_tup (pv 0 (hv := Or.inl rfl)) pe_int (fun _ _ => rfl)) pe_int) pe_int (nomark _)) (pss_one (ps_ret pe_int)) pss_nil)
      (pss_cons (ps_set (i := 3) sc_steps_to_ring.nd rfl (Or.inl rfl) (pe_op op_sub (pv 2 (hv := Or.inl rfl)) (pe_call G_twos_in hr_twos_in rfl T.g_twos_in T.k_twos_in T.b_twos_in .nil pass0 (pa_cons (pe_op op_sub (pv 1 (hv := Or.inl rfl)) (pe_call G_after_many hr_after_many rfl T.g_after_many T.k_after_many T.b_after_many .nil pass0 (pa_cons (pv 0 (hv := Or.inl rfl)) (pa_cons (pv 1 (hv := Or.inl rfl)) (pa_cons (pv 2 (hv := Or.inl rfl)) (pa_cons (pv 2 (hv := Or.inl rfl)) pa_nil)))))) (pa_cons (pv 2 (hv := Or.inl rfl)) pa_nil)))))
      (pss_one (ps_ret (pe_un un_neg (pe_op op_fdiv (pe_un un_neg (pv 3 (hv := Or.inl rfl))) (pe_call G_twos_in hr_twos_in rfl T.g_twos_in T.k_twos_in T.b_twos_in .nil pass0 (pa_cons (pe_ix (r := rIxT K) ix_tup (pv 0 (hv := Or.inl rfl)) pe_int (fun _ _ => rfl)) (pa_cons (pv 2 (hv := Or.inl rfl)) pa_nil))))))))), ?_⟩
    try dsimp only [cxOf, Cx.nox, Cx.wish, Cx.blk]
    rw [show L2.start ["step", "x", "bits", "left"] [.ref t, .int x, .int (wd : Int)] = [some (.ref t), some (.int x), some (.int (wd : Int)), none] from rfl]
    obtain ⟨w1, w2, ht, ha, hc, hx, k⟩ := h
    walk_at "rd"
    refine w_dec (fun c0 => ?_) (fun c0 => ?_)
    · walk_at "rd"
      exact k 0 H (Same.refl H) ⟨fun _ => rfl, fun z => by omega⟩
    · have a0 : a % 2 = 0 := by omega
      walk_at "rd"
      refine ⟨t, a, c, x, _, wd, rfl, w2, ht, ha, hc, hx, fun _ => by omega, fun H1 s1 => ?_⟩
      have eg : gAt wd a c x (wd : Int) = gIt a c wd x := by
        unfold gAt gCnt
        rw [if_pos a0]; congr 1; omega
      rw [eg]
      have ht1 := s1 _ _ ht
      walk_at "rd"
      refine ⟨_, wd, rfl, by omega, ?_⟩
      walk_at "rd"
      refine ⟨a, wd, rfl, by omega, ?_⟩
      have va : 1 ≤ gv wd a := (gv_iff wd a 1).mpr ⟨w1, Int.dvd_of_emod_eq_zero (by rw [Int.pow_one]; exact a0)⟩
      have vl := gv_le wd a
      refine w_I (CC := CDiv) ⟨by omega, by omega⟩ ?_
      walk_at "rd"
      have cv : gv wd (x - gIt a c wd x % 2 ^ wd) = gv wd (x - gIt a c wd x) := gv_cong (by
        rw [show x - gIt a c wd x % 2 ^ wd - (x - gIt a c wd x) = gIt a c wd x - gIt a c wd x % 2 ^ wd by omega]
        exact Int.dvd_self_sub_emod)
      rw [cv]
      have yl := gv_le wd (x - gIt a c wd x)
      obtain ⟨l, e, l1, l2, l3⟩ := gceil (l := (wd : Int) - (gv wd (x - gIt a c wd x) : Nat)) (t := (gv wd a : Nat)) (by omega) (by omega)
      rw [e]
      refine k l H1 s1 ⟨fun z => by omega, fun _ => ⟨by omega, (gLead a0 c wd l x).mpr (by exact_mod_cast (show (wd : Int) ≤ (l : Int) * (gv wd a : Nat) + (gv wd (x - gIt a c wd x) : Nat) by omega)), fun j hj z => ?_⟩⟩
      have h1 := (gLead a0 c wd j x).mp z
      have h2 := l2 j hj
      have h3 : (wd : Int) ≤ (j : Int) * (gv wd a : Nat) + (gv wd (x - gIt a c wd x) : Nat) := by exact_mod_cast h1
      omega
def sp_ring_length (K : PySem.W.Frag) (C : Addr) : Sp := fun vs H Q _ => ∃ (t : Addr) (a c x : Int) (wd : Nat), vs = [.ref t, .int x, .int (wd : Int)] ∧ wd ≤ 128 ∧ H t = some (.tup [.int a, .int c]) ∧ a.natAbs < 2 ^ 129 ∧ c.natAbs < 2 ^ 129 ∧ x.natAbs < 2 ^ 200 ∧ (∃ i, i ≤ wd ∧ (2 : Int) ^ wd ∣ gIt a c (2 ^ i) x - x) ∧ ∀ (i : Nat) H', Same H H' → RingL wd a c x i → Q (.int (2 ^ i)) H'
theorem ok_ring_length {P : Program} {w : World} {K : PySem.W.Frag} {mg : Str → Option Value} {base : Heap} (T : Txt K mg) : FnOk P w K mg base CX0 3 T.f_ring_length T.fd_ring_length ["step", "x", "bits"] (sp_ring_length K T.C_Kind) := by
  have G_after := ok_after (P := P) (w := w) (base := base) T
  have G_moved := ok_moved (P := P) (w := w) (base := base) T
  refine T.F_ring_length.ok sc_ring_length (fun vs H Q E h => ?_) (fun cdv A outer s H vs Q E hr h => ?_)
  · obtain ⟨t, a, c, x, wd, rfl, _⟩ := h
    rfl
  · obtain ⟨t, a, c, x, wd, rfl, h⟩ := h
    have hr_after : Room 2 _ := hr.mono (by decide)
    have hr_moved : Room 1 _ := hr.mono (by decide)
    refine ⟨_, (pss_cons (ps_set (i := 3) sc_ring_length.nd rfl (Or.inl rfl) (pe_op op_shl pe_int (pv 2 (hv := Or.inl rfl))))
      (pss_cons (ps_set (i := 4) sc_ring_length.nd rfl (Or.inl rfl) pe_int)
      (pss_cons (ps_while PassesOwn.never (pt_cmpR op_ne (pe_call G_moved hr_moved rfl T.g_moved T.k_moved T.b_moved .nil pass0 (pa_cons (pv 0 (hv := Or.inl rfl)) (pa_cons (pv 1 (hv := Or.inl rfl)) (pa_cons (pv 3 (hv := Or.inl rfl)) pa_nil)))) (pe_op op_mod (pv 1 (hv := Or.inl rfl)) (pv 3 (hv := Or.inl rfl))) (nomark _))
        (pss_cons (ps_set (i := 0) sc_ring_length.nd rfl (Or.inl rfl) (pe_call G_after hr_after rfl T.g_after T.k_after T.b_after .nil pass0 (pa_cons (pv 0 (hv := Or.inl rfl)) (pa_cons (pv 0 (hv := Or.inl rfl)) (pa_cons (pv 3 (hv := Or.inl rfl)) pa_nil)))))
      (pss_one (ps_aug (i := 4) sc_ring_length.nd rfl (Or.inl rfl) pe_int iop_mul))))
      (pss_one (ps_ret (pv 4 (hv := Or.inl rfl))))))), ?_⟩
    try dsimp only [cxOf, Cx.nox, Cx.wish, Cx.blk]
    rw [show L2.start ["step", "x", "bits", "size", "length"] [.ref t, .int x, .int (wd : Int)] = [some (.ref t), some (.int x), some (.int (wd : Int)), none, none] from rfl]
    obtain ⟨w2, ht, ha, hc, hx, ⟨i0, i0w, hi0⟩, k⟩ := h
    walk_at "rd"
    refine w_I (cpow (n := 1) (by omega) (by decide)) ?_
    rw [Int.toNat_natCast, Int.one_mul]
    walk_at "rd"
    refine w_while (fun m σ H' => ∃ (t1 : Addr) (a1 c1 : Int) (i : Nat), σ = [some (.ref t1), some (.int x), some (.int (wd : Int)), some (.int (2 ^ wd)), some (.int (2 ^ i))] ∧ m = wd + 1 - i ∧ i ≤ i0 ∧ H' t1 = some (.tup [.int a1, .int c1]) ∧ a1.natAbs < 2 ^ 129 ∧ c1.natAbs < 2 ^ 129 ∧ gRep (2 ^ wd) a c a1 c1 (2 ^ i) ∧ (∀ j, j < i → ¬ (2 : Int) ^ wd ∣ gIt a c (2 ^ j) x - x) ∧ Same H H') (wd + 1)
      ⟨t, a, c, 0, rfl, rfl, by omega, ht, ha, hc, gRep_one _ _ _, fun j hj => by omega, Same.refl H⟩ ?_
    rintro m σ H' ⟨t1, a1, c1, i, rfl, rfl, ii, h1, b1, b2, r1, hmin, sm⟩
    walk_at "rd"
    refine ⟨t1, a1, c1, x, _, rfl, h1, b1, hx, p2 wd, ?_⟩
    rw [r1.mod x]
    walk_at "rd"
    refine w_I (p2 wd) ?_
    walk_at "rd"
    refine w_ndec (fun cn => ?_) (fun cn => ?_)
    · refine ⟨_, fun _ _ h => h, ?_⟩
      have np : ¬ (2 : Int) ^ wd ∣ gIt a c (2 ^ i) x - x := fun z => cn (gmd.mpr z)
      have ine : i ≠ i0 := fun z => np (by rw [z]; exact hi0)
      walk_at "rd"
      refine ⟨t1, t1, a1, c1, a1, c1, _, rfl, h1, h1, b1, b1, b2, p2 wd, fun q hq => ?_⟩
      walk_at "rd"
      refine w_augR rfl ?_
      walk_at "rd"
      rw [show (2 : Int) ^ i * 2 = 2 ^ (i + 1) by rw [Int.pow_succ]]
      refine ⟨wd + 1 - (i + 1), by omega, q, _, _, i + 1, rfl, rfl, by omega, upd_same, b129m w2 _, b129m w2 _, ?_, fun j hj => ?_, sm_new sm hq⟩
      · rw [show 2 ^ (i + 1) = 2 ^ i + 2 ^ i by rw [Nat.pow_succ]; omega]
        exact gRep_comp r1 r1
      · by_cases e : j = i
        · rw [e]; exact np
        · exact hmin j (by omega)
    · walk_at "rd"
      exact k i _ sm ⟨by omega, gmd.mp cn, hmin⟩
def sp__check (K : PySem.W.Frag) (C : Addr) : Sp := fun vs H Q _ => ∃ (p t : Addr), vs = [.ref p, .ref t] ∧ (∃ a c wd s, Kd C H p wd s ∧ H t = some (.tup [.int a, .int c]) ∧ Iv wd s a ∧ Iv wd s c) ∧ Q .non H
theorem ok__check {P : Program} {w : World} {K : PySem.W.Frag} {mg : Str → Option Value} {base : Heap} (T : Txt K mg) : FnOk P w K mg base CX0 7 T.f__check T.fd__check ["kind", "generator"] (sp__check K T.C_Kind) := by
  have G_check_generator := ok_check_generator (P := P) (w := w) (base := base) T
  have G_check_kind := ok_check_kind (P := P) (w := w) (base := base) T
  refine T.F__check.ok sc__check (fun vs H Q E h => ?_) (fun cdv A outer s H vs Q E hr h => ?_)
  · obtain ⟨p, t, rfl, _⟩ := h
    rfl
  · obtain ⟨p, t, rfl, h⟩ := h
    have hr_check_generator : Room 6 _ := hr.mono (by decide)
    have hr_check_kind : Room 1 _ := hr.mono (by decide)
    refine ⟨_, (pss_cons (ps_expr (pe_call G_check_kind hr_check_kind rfl T.g_check_kind T.k_check_kind T.b_check_kind .nil pass0 (pa_cons (pv 0 (hv := Or.inl rfl)) pa_nil)))
      (pss_one (ps_expr (pe_call G_check_generator hr_check_generator rfl T.g_check_generator T.k_check_generator T.b_check_generator .nil pass0 (pa_cons (pv 0 (hv := Or.inl rfl)) (pa_cons (pv 1 (hv := Or.inl rfl)) (pa_cons pe_str pa_nil))))))), ?_⟩
    try dsimp only [cxOf, Cx.nox, Cx.wish, Cx.blk]
    rw [show L2.start ["kind", "generator"] [.ref p, .ref t] = [some (.ref p), some (.ref t)] from rfl]
    obtain ⟨⟨a, c, wd, s, hk, ht, ha, hc⟩, k⟩ := h
    walk_at "rd"
    refine ⟨p, rfl, ⟨wd, s, hk⟩, ?_⟩
    walk_at "rd"
    refine ⟨p, t, _, rfl, ⟨a, c, wd, s, hk, ht, ha, hc⟩, ?_⟩
    walk_at "rd"
    exact k
def sp__check_start (K : PySem.W.Frag) (C : Addr) : Sp := fun vs H Q _ => ∃ (p t : Addr) (x : Int), vs = [.ref p, .ref t, .int x] ∧ (∃ a c wd s, Kd C H p wd s ∧ H t = some (.tup [.int a, .int c]) ∧ Iv wd s a ∧ Iv wd s c ∧ Iv wd s x) ∧ Q .non H
theorem ok__check_start {P : Program} {w : World} {K : PySem.W.Frag} {mg : Str → Option Value} {base : Heap} (T : Txt K mg) : FnOk P w K mg base CX0 8 T.f__check_start T.fd__check_start ["kind", "generator", "x"] (sp__check_start K T.C_Kind) := by
  have G__check := ok__check (P := P) (w := w) (base := base) T
  have G_check_value := ok_check_value (P := P) (w := w) (base := base) T
  refine T.F__check_start.ok sc__check_start (fun vs H Q E h => ?_) (fun cdv A outer s H vs Q E hr h => ?_)
  · obtain ⟨p, t, x, rfl, _⟩ := h
    rfl
  · obtain ⟨p, t, x, rfl, h⟩ := h
    have hr__check : Room 7 _ := hr.mono (by decide)
    have hr_check_value : Room 5 _ := hr.mono (by decide)
    refine ⟨_, (pss_cons (ps_expr (pe_call G__check hr__check rfl T.g__check T.k__check T.b__check .nil pass0 (pa_cons (pv 0 (hv := Or.inl rfl)) (pa_cons (pv 1 (hv := Or.inl rfl)) pa_nil))))
      (pss_one (ps_expr (pe_call G_check_value hr_check_value rfl T.g_check_value T.k_check_value T.b_check_value .nil pass0 (pa_cons (pv 0 (hv := Or.inl rfl)) (pa_cons (pv 2 (hv := Or.inl rfl)) (pa_cons pe_str pa_nil))))))), ?_⟩
    try dsimp only [cxOf, Cx.nox, Cx.wish, Cx.blk]
    rw [show L2.start ["kind", "generator", "x"] [.ref p, .ref t, .int x] = [some (.ref p), some (.ref t), some (.int x)] from rfl]
    obtain ⟨⟨a, c, wd, s, hk, ht, ha, hc, hx⟩, k⟩ := h
    walk_at "rd"
    refine ⟨p, t, rfl, ⟨a, c, wd, s, hk, ht, ha, hc⟩, ?_⟩
    walk_at "rd"
    refine ⟨p, x, _, rfl, ⟨wd, s, hk, hx⟩, ?_⟩
    walk_at "rd"
    exact k
def sp_stepped (K : PySem.W.Frag) (C : Addr) : Sp := fun vs H Q _ => ∃ (p t : Addr) (a c x n : Int) (wd : Nat) (s : Bool), vs = [.ref p, .ref t, .int x, .int n] ∧ Kd C H p wd s ∧ H t = some (.tup [.int a, .int c]) ∧ Iv wd s a ∧ Iv wd s c ∧ Iv wd s x ∧ (a % 2 = 0 → 0 ≤ n) ∧ ∀ H', Same H H' → Q (.int (wr wd s (gAt wd a c x n))) H'
theorem ok_stepped {P : Program} {w : World} {K : PySem.W.Frag} {mg : Str → Option Value} {base : Heap} (T : Txt K mg) : FnOk P w K mg base CX0 9 T.f_stepped T.fd_stepped ["kind", "generator", "x", "n"] (sp_stepped K T.C_Kind) := by
  have G__check_start := ok__check_start (P := P) (w := w) (base := base) T
  have G_after_many := ok_after_many (P := P) (w := w) (base := base) T
  have G_check_integer := ok_check_integer (P := P) (w := w) (base := base) T
  have G_wrapped := ok_wrapped (P := P) (w := w) (base := base) T
  refine T.F_stepped.ok sc_stepped (fun vs H Q E h => ?_) (fun cdv A outer s H vs Q E hr h => ?_)
  · obtain ⟨p, t, a, c, x, n, wd, s, rfl, _⟩ := h
    rfl
  · obtain ⟨p, t, a, c, x, n, wd, s, rfl, h⟩ := h
    have hr__check_start : Room 8 _ := hr.mono (by decide)
    have hr_after_many : Room 4 _ := hr.mono (by decide)
    have hr_check_integer : Room 2 _ := hr.mono (by decide)
    have hr_wrapped : Room 3 _ := hr.mono (by decide)
    refine ⟨_, (pss_cons (ps_expr (pe_call G__check_start hr__check_start rfl T.g__check_start T.k__check_start T.b__check_start .nil pass0 (pa_cons (pv 0 (hv := Or.inl rfl)) (pa_cons (pv 1 (hv := Or.inl rfl)) (pa_cons (pv 2 (hv := Or.inl rfl)) pa_nil)))))
      (pss_cons (ps_expr (pe_call G_check_integer hr_check_integer rfl T.g_check_integer T.k_check_integer T.b_check_integer .nil pass0 (pa_cons (pv 3 (hv := Or.inl rfl)) (pa_cons pe_str pa_nil))))
      (pss_cons (ps_if (PW.pt (pw_and (pt_cmpR op_lt (pv 3 (hv := Or.inl rfl)) pe_int (nomark _)) (pw_and1 (pt_cmpR op_eq (pe_op op_mod (pe_ix (r := rIxT K) ix_tup (pv 1 (hv := Or.inl rfl)) pe_int (fun _ _ => rfl)) pe_int) pe_int (nomark _))))) (pss_one ps_never) pss_nil)
      (pss_one (ps_ret (pe_call G_wrapped hr_wrapped rfl T.g_wrapped T.k_wrapped T.b_wrapped .nil pass0 (pa_cons (pv 0 (hv := Or.inl rfl)) (pa_cons (pe_call G_after_many hr_after_many rfl T.g_after_many T.k_after_many T.b_after_many .nil pass0 (pa_cons (pv 1 (hv := Or.inl rfl)) (pa_cons (pv 2 (hv := Or.inl rfl)) (pa_cons (pv 3 (hv := Or.inl rfl)) (pa_cons (pe_fld (pv 0 (hv := Or.inl rfl)) rfl) pa_nil))))) pa_nil)))))))), ?_⟩
    try dsimp only [cxOf, Cx.nox, Cx.wish, Cx.blk]
    rw [show L2.start ["kind", "generator", "x", "n"] [.ref p, .ref t, .int x, .int n] = [some (.ref p), some (.ref t), some (.int x), some (.int n)] from rfl]
    obtain ⟨hk, ht, ha, hc, hx, hn, k⟩ := h
    have w2 := hk.w2
    walk_at "rd"
    refine ⟨p, t, x, rfl, ⟨a, c, wd, s, hk, ht, ha, hc, hx⟩, ?_⟩
    walk_at "rd"
    refine ⟨_, _, rfl, ?_⟩
    walk_at "rd"
    have go : ∀ D : Ends, D.nx = D.nx → True := fun _ _ => trivial
    refine w_dec (fun c0 => ?_) (fun c0 => ?_)
    all_goals
      walk_at "rd"
      try refine w_decF (fun z => by have := hn z; omega) ?_
      try refine iteF ?_
      walk_at "rd"
      refine w_fb T rfl hk ?_
      refine ⟨t, a, c, x, n, wd, rfl, w2, ht, ha.b w2, hc.b w2, Nat.lt_of_lt_of_le (hx.b w2) (Nat.pow_le_pow_right (by decide) (by decide)), hn, fun H1 s1 => ?_⟩
      walk_at "rd"
      refine ⟨p, _, wd, s, rfl, hk.same s1, ?_⟩
      have e : wr wd s (gAt wd a c x n % 2 ^ wd) = wr wd s (gAt wd a c x n) := wr_dvd Int.dvd_emod_sub_self
      rw [e]
      exact k _ s1
def sp_ring_of (K : PySem.W.Frag) (C : Addr) : Sp := fun vs H Q _ => ∃ (p t : Addr) (a c x : Int) (wd : Nat) (s : Bool), vs = [.ref p, .ref t, .int x] ∧ Kd C H p wd s ∧ H t = some (.tup [.int a, .int c]) ∧ Iv wd s a ∧ Iv wd s c ∧ Iv wd s x ∧ ∀ q (l i : Nat) H', Same H H' → H' q = some (.tup [.int (l : Int), .int (2 ^ i)]) → LeadN wd a c x l → RingL wd a c (gIt a c l x) i → (a % 2 = 0 → i = 0) → Q (.ref q) H'
theorem ok_ring_of {P : Program} {w : World} {K : PySem.W.Frag} {mg : Str → Option Value} {base : Heap} (T : Txt K mg) : FnOk P w K mg base CX0 9 T.f_ring_of T.fd_ring_of ["kind", "generator", "x"] (sp_ring_of K T.C_Kind) := by
  have G__check_start := ok__check_start (P := P) (w := w) (base := base) T
  have G_after_many := ok_after_many (P := P) (w := w) (base := base) T
  have G_ring_length := ok_ring_length (P := P) (w := w) (base := base) T
  have G_steps_to_ring := ok_steps_to_ring (P := P) (w := w) (base := base) T
  refine T.F_ring_of.ok sc_ring_of (fun vs H Q E h => ?_) (fun cdv A outer s H vs Q E hr h => ?_)
  · obtain ⟨p, t, a, c, x, wd, s, rfl, _⟩ := h
    rfl
  · obtain ⟨p, t, a, c, x, wd, s, rfl, h⟩ := h
    have hr__check_start : Room 8 _ := hr.mono (by decide)
    have hr_after_many : Room 4 _ := hr.mono (by decide)
    have hr_ring_length : Room 3 _ := hr.mono (by decide)
    have hr_steps_to_ring : Room 5 _ := hr.mono (by decide)
    refine ⟨_, (pss_cons (ps_expr (pe_call G__check_start hr__check_start rfl T.g__check_start T.k__check_start T.b__check_start .nil pass0 (pa_cons (pv 0 (hv := Or.inl rfl)) (pa_cons (pv 1 (hv := Or.inl rfl)) (pa_cons (pv 2 (hv := Or.inl rfl)) pa_nil)))))
      (pss_cons (ps_set (i := 3) sc_ring_of.nd rfl (Or.inl rfl) (pe_call G_steps_to_ring hr_steps_to_ring rfl T.g_steps_to_ring T.k_steps_to_ring T.b_steps_to_ring .nil pass0 (pa_cons (pv 1 (hv := Or.inl rfl)) (pa_cons (pv 2 (hv := Or.inl rfl)) (pa_cons (pe_fld (pv 0 (hv := Or.inl rfl)) rfl) pa_nil)))))
      (pss_one (ps_ret (pe_tup (pa_cons (pv 3 (hv := Or.inl rfl)) (pa_cons (pe_call G_ring_length hr_ring_length rfl T.g_ring_length T.k_ring_length T.b_ring_length .nil pass0 (pa_cons (pv 1 (hv := Or.inl rfl)) (pa_cons (pe_call G_after_many hr_after_many rfl T.g_after_many T.k_after_many T.b_after_many .nil pass0 (pa_cons (pv 1 (hv := Or.inl rfl)) (pa_cons (pv 2 (hv := Or.inl rfl)) (pa_cons (pv 3 (hv := Or.inl rfl)) (pa_cons (pe_fld (pv 0 (hv := Or.inl rfl)) rfl) pa_nil))))) (pa_cons (pe_fld (pv 0 (hv := Or.inl rfl)) rfl) pa_nil)))) pa_nil))))))), ?_⟩
    try dsimp only [cxOf, Cx.nox, Cx.wish, Cx.blk]
    rw [show L2.start ["kind", "generator", "x", "lead"] [.ref p, .ref t, .int x] = [some (.ref p), some (.ref t), some (.int x), none] from rfl]
    obtain ⟨hk, ht, ha, hc, hx, k⟩ := h
    have w2 := hk.w2
    have w1 := hk.w1
    have bx : x.natAbs < 2 ^ 200 := Nat.lt_of_lt_of_le (hx.b w2) (Nat.pow_le_pow_right (by decide) (by decide))
    walk_at "rd"
    refine ⟨p, t, x, rfl, ⟨a, c, wd, s, hk, ht, ha, hc, hx⟩, ?_⟩
    walk_at "rd"
    refine w_fb T rfl hk ?_
    refine ⟨t, a, c, x, wd, rfl, w1, w2, ht, ha.b w2, hc.b w2, bx, fun l H1 s1 hl => ?_⟩
    have hk1 := hk.same s1
    have ht1 := s1 _ _ ht
    walk_at "rd"
    refine w_fb T rfl hk1 ?_
    refine ⟨t, a, c, x, _, wd, rfl, w2, ht1, ha.b w2, hc.b w2, bx, fun _ => by omega, fun H2 s2 => ?_⟩
    have hk2 := hk1.same s2
    have ht2 := s2 _ _ ht1
    walk_at "rd"
    refine w_fb T rfl hk2 ?_
    have cg : (2 : Int) ^ wd ∣ gAt wd a c x (l : Int) % 2 ^ wd - gIt a c l x := gdvT Int.dvd_emod_sub_self (gAt_nat wd a c x l)
    refine ⟨t, a, c, _, wd, rfl, w2, ht2, ha.b w2, hc.b w2, Nat.lt_of_lt_of_le (b129m w2 _) (Nat.pow_le_pow_right (by decide) (by decide)), ?_, fun i H3 s3 hi => ?_⟩
    · rcases Int.emod_two_eq a with e | e
      · exact ⟨0, by omega, (gper_cong _ cg).mpr (ring_even e hl)⟩
      · exact ⟨wd, Nat.le_refl _, gIt_full e c wd _⟩
    have hi' := hi.cong cg
    walk_at "rd"
    refine ⟨by show 2 ≤ sizeLine; decide, fun q hq => ?_⟩
    refine k q l i _ (sm_new ((s1.trans s2).trans s3) hq) upd_same hl hi' fun e => ?_
    by_cases z : i = 0
    · exact z
    · exact absurd (ring_even e hl) (hi'.2.2 0 (by omega))
def sp__unmoved_total (K : PySem.W.Frag) (C : Addr) : Sp := fun vs H Q _ => ∃ (t : Addr) (p q a c : Int) (i wd : Nat), vs = [.ref t, .int (2 ^ wd)] ∧ H t = some (.tup [.int p, .int q]) ∧ gRep (2 ^ wd) a c p q (2 ^ i) ∧ Q (.int (Uc wd a c i : Nat)) H
theorem ok__unmoved_total {P : Program} {w : World} {K : PySem.W.Frag} {mg : Str → Option Value} {base : Heap} (T : Txt K mg) : FnOk P w K mg base CX0 1 T.f__unmoved_total T.fd__unmoved_total ["step", "size"] (sp__unmoved_total K T.C_Kind) := by
  refine T.F__unmoved_total.ok sc__unmoved_total (fun vs H Q E h => ?_) (fun cdv A outer s H vs Q E hr h => ?_)
  · obtain ⟨t, p, q, a, c, i, wd, rfl, _⟩ := h
    rfl
  · obtain ⟨t, p, q, a, c, i, wd, rfl, h⟩ := h
    refine ⟨_, (pss_cons (ps_asg (pv 0 (hv := Or.inl rfl)) (pg_tup rfl (pgs_cons (pg_name (i := 2) sc__unmoved_total.nd rfl (Or.inl rfl)) (pgs_cons (pg_name (i := 3) sc__unmoved_total.nd rfl (Or.inl rfl)) pgs_nil))))
      (pss_cons (ps_set (i := 4) sc__unmoved_total.nd rfl (Or.inl rfl) (pe_callBfun (id := "math.gcd") (r := rGcd) cr_gcd (by rfl) T.g_gcd (pa_cons (pe_op op_sub (pv 2 (hv := Or.inl rfl)) pe_int) (pa_cons (pv 1 (hv := Or.inl rfl)) pa_nil))))
      (pss_one (ps_ret (pe_ifExp (pt_cmpR op_eq (pe_op op_mod (pv 3 (hv := Or.inl rfl)) (pv 4 (hv := Or.inl rfl))) pe_int (nomark _)) (pv 4 (hv := Or.inl rfl)) pe_int))))), ?_⟩
    try dsimp only [cxOf, Cx.nox, Cx.wish, Cx.blk]
    rw [show L2.start ["step", "size", "a", "c", "shared"] [.ref t, .int (2 ^ wd)] = [some (.ref t), some (.int (2 ^ wd)), none, none, none] from rfl]
    obtain ⟨ht, r, k⟩ := h
    walk_at "rd"
    refine ⟨_, _, rfl, ?_⟩
    rw [show ((2 : Int) ^ wd).natAbs = 2 ^ wd by rw [Int.natAbs_pow]; rfl, gcd_two]
    walk_at "rd"
    rw [Uc_rep r] at k
    have gp : (0 : Int) < ((2 ^ gv wd (p - 1) : Nat) : Int) := by have := Nat.two_pow_pos (gv wd (p - 1)); omega
    have gc : ((2 ^ gv wd (p - 1) : Nat) : Int) = (2 : Int) ^ gv wd (p - 1) := Int.natCast_pow 2 _
    refine w_if ?_
    walk_at "rd"
    refine w_I gp ?_
    walk_at "rd"
    refine w_dec (fun z => ?_) (fun z => ?_)
    · walk_at "rd"
      rw [if_pos (by rw [gc] at z; exact Int.dvd_of_emod_eq_zero z)] at k
      exact k
    · walk_at "rd"
      rw [if_neg (fun y => z (by rw [gc]; exact Int.emod_eq_zero_of_dvd y))] at k
      exact k
def sp_ring_lengths (K : PySem.W.Frag) (C : Addr) : Sp := fun vs H Q _ => ∃ (p t : Addr) (a c : Int) (wd : Nat) (s : Bool), vs = [.ref p, .ref t] ∧ Kd C H p wd s ∧ H t = some (.tup [.int a, .int c]) ∧ Iv wd s a ∧ Iv wd s c ∧ ∀ q out H', H' q = some (.lst out) → PRow H' out (rlR (Uc wd a c) (wd + 1)) → Same H H' → Q (.ref q) H'
theorem ok_ring_lengths {P : Program} {w : World} {K : PySem.W.Frag} {mg : Str → Option Value} {base : Heap} (T : Txt K mg) : FnOk P w K mg base CX0 8 T.f_ring_lengths T.fd_ring_lengths ["kind", "generator"] (sp_ring_lengths K T.C_Kind) := by
  have G__check := ok__check (P := P) (w := w) (base := base) T
  have G__unmoved_total := ok__unmoved_total (P := P) (w := w) (base := base) T
  have G_after := ok_after (P := P) (w := w) (base := base) T
  refine T.F_ring_lengths.ok sc_ring_lengths (fun vs H Q E h => ?_) (fun cdv A outer s H vs Q E hr h => ?_)
  · obtain ⟨p, t, a, c, wd, s, rfl, _⟩ := h
    rfl
  · obtain ⟨p, t, a, c, wd, s, rfl, h⟩ := h
    have hr__check : Room 7 _ := hr.mono (by decide)
    have hr__unmoved_total : Room 1 _ := hr.mono (by decide)
    have hr_after : Room 2 _ := hr.mono (by decide)
    refine ⟨_, (pss_cons (ps_expr (pe_call G__check hr__check rfl T.g__check T.k__check T.b__check .nil pass0 (pa_cons (pv 0 (hv := Or.inl rfl)) (pa_cons (pv 1 (hv := Or.inl rfl)) pa_nil))))
      (pss_cons (ps_set (i := 2) sc_ring_lengths.nd rfl (Or.inl rfl) (pe_op op_shl pe_int (pe_fld (pv 0 (hv := Or.inl rfl)) rfl)))
      (pss_cons (ps_par3 rfl sc_ring_lengths.nd (i := 3) (j := 4) (l := 5) rfl rfl rfl (by decide) (by decide) (by decide) rfl rfl rfl (pa_cons (pv 1 (hv := Or.inl rfl)) (pa_cons pe_int (pa_cons pe_int pa_nil))) (by rfl))
      (pss_cons (ps_set (i := 6) sc_ring_lengths.nd rfl (Or.inl rfl) (pe_lst pa_nil))
      (pss_cons (ps_for PassesOwn.never rfl (pi_range1 (by rfl) T.n_range (pa_cons (pe_op op_add (pe_fld (pv 0 (hv := Or.inl rfl)) rfl) pe_int) pa_nil)) (pg_name (i := 7) sc_ring_lengths.nd rfl (Or.inl rfl))
        (pss_cons (ps_set (i := 8) sc_ring_lengths.nd rfl (Or.inl rfl) (pe_call G__unmoved_total hr__unmoved_total rfl T.g__unmoved_total T.k__unmoved_total T.b__unmoved_total .nil pass0 (pa_cons (pv 3 (hv := Or.inl rfl)) (pa_cons (pv 2 (hv := Or.inl rfl)) pa_nil))))
      (pss_cons (ps_if (pt_cmpR op_gt (pv 8 (hv := Or.inl rfl)) (pv 5 (hv := Or.inl rfl)) (nomark _)) (pss_one (ps_expr (pe_bm PySem.F.plainAttrs_list PySem.F.slot_list_append PySem.F.type_list_append mt_append (pv 6 (hv := Or.inl rfl)) (pa_cons (pe_tup (pa_cons (pv 4 (hv := Or.inl rfl)) (pa_cons (pe_op op_fdivW (pe_op op_sub (pv 8 (hv := Or.inl rfl)) (pv 5 (hv := Or.inl rfl))) (pv 4 (hv := Or.inl rfl))) pa_nil))) pa_nil)))) pss_nil)
      (pss_one (ps_par3 rfl sc_ring_lengths.nd (i := 3) (j := 4) (l := 5) rfl rfl rfl (by decide) (by decide) (by decide) rfl rfl rfl (pa_cons (pe_call G_after hr_after rfl T.g_after T.k_after T.b_after .nil pass0 (pa_cons (pv 3 (hv := Or.inl rfl)) (pa_cons (pv 3 (hv := Or.inl rfl)) (pa_cons (pv 2 (hv := Or.inl rfl)) pa_nil)))) (pa_cons (pe_op op_mulX pe_int (pv 4 (hv := Or.inl rfl))) (pa_cons (pv 8 (hv := Or.inl rfl)) pa_nil))) (by rfl))))))
      (pss_one (ps_ret (pv 6 (hv := Or.inl rfl))))))))), ?_⟩
    try dsimp only [cxOf, Cx.nox, Cx.wish, Cx.blk]
    rw [show L2.start ["kind", "generator", "size", "step", "length", "before", "found", "_", "unmoved"] [.ref p, .ref t] = [some (.ref p), some (.ref t), none, none, none, none, none, none, none] from rfl]
    obtain ⟨hk, ht, ia, ic, k⟩ := h
    have w2 := hk.w2
    have hp := p2 wd
    walk_at "rd"
    refine ⟨p, t, rfl, ⟨a, c, wd, s, hk, ht, ia, ic⟩, ?_⟩
    walk_at "rd"
    refine w_fb T rfl hk ?_
    walk_at "rd"
    refine w_I (cpow (n := 1) (by omega) (by decide)) ?_
    rw [Int.toNat_natCast, Int.one_mul]
    walk_at "rd"
    refine w_par3 ?_
    walk_at "rd"
    refine ⟨_, _, _, rfl, ?_⟩
    walk_at "rd"
    refine ⟨by show 0 ≤ sizeLine; decide, fun D hD => ?_⟩
    walk_at "rd"
    have sD := sm_new (o := .lst []) (Same.refl H) hD
    refine w_fb T rfl (hk.same sD) ?_
    walk_at "rd"
    refine ⟨_, rfl, by omega, by omega, ?_⟩
    rw [show ((wd : Int) + 1).toNat = wd + 1 by omega]
    refine for_range (lo := 0) (n := wd + 1) (fun n σ H' => ∃ (t1 : Addr) (a1 c1 : Int) (os : List V) (v7 v8 : Option V), σ = [some (.ref p), some (.ref t), some (.int (2 ^ wd)), some (.ref t1), some (.int (2 ^ n)), some (.int (prevU (Uc wd a c) n : Nat)), some (.ref D), v7, v8] ∧ H' t1 = some (.tup [.int a1, .int c1]) ∧ a1.natAbs < 2 ^ 129 ∧ c1.natAbs < 2 ^ 129 ∧ gRep (2 ^ wd) a c a1 c1 (2 ^ n) ∧ H' D = some (.lst os) ∧ PRow H' os (rlR (Uc wd a c) n) ∧ Same H H')
      ⟨t, a, c, [], none, none, rfl, gn ht hD, ia.b w2, ic.b w2, gRep_one _ _ _, upd_same, .nil, sD⟩ ?_ ?_
    rotate_left
    · rintro σ H' ⟨t1, a1, c1, os, v7, v8, rfl, h1, b1, b2, r, hd, row, sm⟩
      walk_at "rd"
      exact k D os H' hd row sm
    rintro n σ H' hn ⟨t1, a1, c1, os, v7, v8, rfl, h1, b1, b2, r, hd, row, sm⟩
    have dbl : gRep (2 ^ wd) a c (a1 * a1 % 2 ^ wd) ((a1 * c1 + c1) % 2 ^ wd) (2 ^ (n + 1)) := by
      rw [show 2 ^ (n + 1) = 2 ^ n + 2 ^ n by rw [Nat.pow_succ]; omega]
      exact gRep_comp r r
    have lo : os.length < 200 := by rw [row.len]; have := rlR_len (U := Uc wd a c) n; omega
    walk_at "rd"
    refine ⟨t1, a1, c1, a, c, n, wd, rfl, h1, r, ?_⟩
    walk_at "rd"
    refine w_stJ (fun σ' H'' => σ' = [some (.ref p), some (.ref t), some (.int (2 ^ wd)), some (.ref t1), some (.int (2 ^ n)), some (.int (prevU (Uc wd a c) n : Nat)), some (.ref D), some (.int (0 + (n : Int))), some (.int (Uc wd a c n : Nat))] ∧ H'' t1 = some (.tup [.int a1, .int c1]) ∧ (∃ os, H'' D = some (.lst os) ∧ PRow H'' os (rlR (Uc wd a c) (n + 1))) ∧ Same H H'') (fun lt D' q => ?_) (fun ge D' q => ?_) ?_
    · walk_at "rd"
      refine w_bm ?_
      walk_at "rd"
      refine ⟨.inl ⟨rfl, _, SqL.of hd⟩, ?_⟩
      walk_at "rd"
      have nb : ((2 : Int) ^ n).natAbs < 2 ^ 200 := by
        rw [Int.natAbs_pow]; exact Nat.pow_lt_pow_right (by decide) (by omega)
      refine w_I (wide_div (b := 200) (p2 n) nb (by decide) (by decide)) ?_
      walk_at "rd"
      refine ⟨by show 2 ≤ sizeLine; decide, fun q1 hq1 => ?_⟩
      have ev : ((Uc wd a c n : Nat) - (prevU (Uc wd a c) n : Nat) : Int) / 2 ^ n = (((Uc wd a c n - prevU (Uc wd a c) n) / 2 ^ n : Nat) : Int) := by
        rw [Int.natCast_ediv, Int.natCast_pow, show ((Uc wd a c n - prevU (Uc wd a c) n : Nat) : Int) = (Uc wd a c n : Int) - (prevU (Uc wd a c) n : Int) by omega]
        rfl
      rw [ev]
      walk_at "rd"
      refine ⟨D, _, _, rfl, rfl, gn hd hq1, Nat.lt_of_lt_of_le lo (by decide), ?_⟩
      have nt : t1 ≠ D := ne_of h1 hd (by intro z; cases z)
      have nq : q1 ≠ D := ne_of_none hd hq1 |>.symm
      refine q _ _ ⟨rfl, by rw [upd_ne nt]; exact gn h1 hq1, ⟨os ++ [.ref q1], upd_same, ?_⟩, sm_mut (sm_new sm hq1) hD⟩
      show PRow _ (os ++ [.ref q1]) (rlR (Uc wd a c) n ++ (if prevU (Uc wd a c) n < Uc wd a c n then [((2 : Int) ^ n, (Uc wd a c n - prevU (Uc wd a c) n) / 2 ^ n)] else []))
      rw [if_pos (by omega)]
      refine PRow.add (row.keep fun q2 f e h => ?_) (by rw [upd_ne nq]; exact upd_same)
      rw [upd_ne (ne_of h hd (by intro z; cases z))]
      exact gn h hq1
    · have ge' : ¬ prevU (Uc wd a c) n < Uc wd a c n := by omega
      walk_at "rd"
      refine q _ _ ⟨rfl, h1, ⟨os, hd, ?_⟩, sm⟩
      show PRow H' os (rlR (Uc wd a c) n ++ (if prevU (Uc wd a c) n < Uc wd a c n then _ else []))
      rw [if_neg ge', List.append_nil]; exact row
    rintro σ H'' ⟨rfl, h1, ⟨os2, hd2, row2⟩, sm⟩
    dsimp only
    refine w_par3 ?_
    walk_at "rd"
    refine ⟨t1, t1, a1, c1, a1, c1, _, rfl, h1, h1, b1, b1, b2, hp, fun q hq => ?_⟩
    walk_at "rd"
    refine w_I (mulx_ok (a := 2) (b := 200) (by decide) (by rw [Int.natAbs_pow]; exact Nat.pow_lt_pow_right (by decide) (by omega)) (by decide)) ?_
    walk_at "rd"
    refine ⟨_, _, _, rfl, ?_⟩
    rw [show (2 : Int) * 2 ^ n = 2 ^ (n + 1) by rw [Int.pow_succ, Int.mul_comm]]
    exact ⟨q, _, _, os2, _, _, rfl, upd_same, b129m w2 _, b129m w2 _, dbl, gn hd2 hq, row2.keep (fun q1 f e h => gn h hq), sm_new sm hq⟩
def sp_ring_values (K : PySem.W.Frag) (C : Addr) : Sp := fun vs H Q _ => ∃ (p t : Addr) (a c x : Int) (wd : Nat) (s : Bool), vs = [.ref p, .ref t, .int x] ∧ Kd C H p wd s ∧ H t = some (.tup [.int a, .int c]) ∧ Iv wd s a ∧ Iv wd s c ∧ Iv wd s x ∧ ∀ q (l : Nat) H', LeadN wd a c x l → FamRow H' q wd (OnR wd a c (gIt a c l x)) → Same H H' → Q (.ref q) H'
theorem ok_ring_values {P : Program} {w : World} {K : PySem.W.Frag} {mg : Str → Option Value} {base : Heap} (T : Txt K mg) : FnOk P w K mg base CX0 9 T.f_ring_values T.fd_ring_values ["kind", "generator", "x"] (sp_ring_values K T.C_Kind) := by
  have G__check_start := ok__check_start (P := P) (w := w) (base := base) T
  have G_after_many := ok_after_many (P := P) (w := w) (base := base) T
  have G_joined := ok_joined (P := P) (w := w) (base := base) T
  have G_moved := ok_moved (P := P) (w := w) (base := base) T
  have G_steps_to_ring := ok_steps_to_ring (P := P) (w := w) (base := base) T
  have G_twos_in := ok_twos_in (P := P) (w := w) (base := base) T
  refine Fw.okK T.F_ring_values sc_ring_values (fun vs H Q E h => ?_) (fun cdv hcd A outer s H vs Q E hr h => ?_)
  · obtain ⟨p, t, a, c, x, wd, s, rfl, _⟩ := h
    rfl
  · obtain ⟨p, t, a, c, x, wd, s, rfl, h⟩ := h
    have hr__check_start : Room 8 _ := hr.mono (by decide)
    have hr_after_many : Room 4 _ := hr.mono (by decide)
    have hr_joined : Room 1 _ := hr.mono (by decide)
    have hr_moved : Room 1 _ := hr.mono (by decide)
    have hr_steps_to_ring : Room 5 _ := hr.mono (by decide)
    have hr_twos_in : Room 2 _ := hr.mono (by decide)
    refine ⟨_, (pss_cons (ps_expr (pe_call G__check_start hr__check_start rfl T.g__check_start T.k__check_start T.b__check_start .nil pass0 (pa_cons (pv 0 (hv := Or.inl rfl)) (pa_cons (pv 1 (hv := Or.inl rfl)) (pa_cons (pv 2 (hv := Or.inl rfl)) pa_nil)))))
      (pss_cons (ps_set (i := 3) sc_ring_values.nd rfl (Or.inl rfl) (pe_fld (pv 0 (hv := Or.inl rfl)) rfl))
      (pss_cons (ps_set (i := 4) sc_ring_values.nd rfl (Or.inl rfl) (pe_op op_shl pe_int (pv 3 (hv := Or.inl rfl))))
      (pss_cons (ps_set (i := 5) sc_ring_values.nd rfl (Or.inl rfl) (pe_call G_after_many hr_after_many rfl T.g_after_many T.k_after_many T.b_after_many .nil pass0 (pa_cons (pv 1 (hv := Or.inl rfl)) (pa_cons (pv 2 (hv := Or.inl rfl)) (pa_cons (pe_call G_steps_to_ring hr_steps_to_ring rfl T.g_steps_to_ring T.k_steps_to_ring T.b_steps_to_ring .nil pass0 (pa_cons (pv 1 (hv := Or.inl rfl)) (pa_cons (pv 2 (hv := Or.inl rfl)) (pa_cons (pv 3 (hv := Or.inl rfl)) pa_nil)))) (pa_cons (pv 3 (hv := Or.inl rfl)) pa_nil))))))
      (pss_cons (ps_set (i := 6) sc_ring_values.nd rfl (Or.inl rfl) (pe_call G_moved hr_moved rfl T.g_moved T.k_moved T.b_moved .nil pass0 (pa_cons (pv 1 (hv := Or.inl rfl)) (pa_cons (pv 5 (hv := Or.inl rfl)) (pa_cons (pv 4 (hv := Or.inl rfl)) pa_nil)))))
      (pss_cons (ps_set (i := 7) sc_ring_values.nd rfl (Or.inl rfl) (pe_call G_twos_in hr_twos_in rfl T.g_twos_in T.k_twos_in T.b_twos_in .nil pass0 (pa_cons (pe_op op_sub (pe_call G_moved hr_moved rfl T.g_moved T.k_moved T.b_moved .nil pass0 (pa_cons (pv 1 (hv := Or.inl rfl)) (pa_cons (pv 6 (hv := Or.inl rfl)) (pa_cons (pv 4 (hv := Or.inl rfl)) pa_nil)))) (pv 5 (hv := Or.inl rfl))) (pa_cons (pv 3 (hv := Or.inl rfl)) pa_nil))))
      (pss_cons (ps_set (i := 8) sc_ring_values.nd rfl (Or.inl rfl) (pe_op op_shl pe_int (pv 7 (hv := Or.inl rfl))))
      (pss_one (ps_ret (pe_call G_joined hr_joined rfl T.g_joined T.k_joined T.b_joined .nil pass0 (pa_cons (pe_callB (id := "sorted") (r := rSortedT K P w) (cr_sortedT (by rfl)) (by rfl) T.n_sorted (by decide +kernel) (pa_cons (pe_set2 (Nat.lt_of_le_of_lt (Nat.le_add_right _ 64) hr.units) hcd (pe_tup (pa_cons (pe_op op_mod (pv 5 (hv := Or.inl rfl)) (pv 8 (hv := Or.inl rfl))) (pa_cons (pv 7 (hv := Or.inl rfl)) pa_nil))) (pe_tup (pa_cons (pe_op op_mod (pv 6 (hv := Or.inl rfl)) (pv 8 (hv := Or.inl rfl))) (pa_cons (pv 7 (hv := Or.inl rfl)) pa_nil)))) pa_nil)) (pa_cons (pv 3 (hv := Or.inl rfl)) pa_nil)))))))))))), ?_⟩
    try dsimp only [cxOf, Cx.nox, Cx.wish, Cx.blk]
    rw [show L2.start ["kind", "generator", "x", "bits", "size", "start", "other", "power", "apart"] [.ref p, .ref t, .int x] = [some (.ref p), some (.ref t), some (.int x), none, none, none, none, none, none] from rfl]
    obtain ⟨hk, ht, ia, ic, ix, k⟩ := h
    have w2 := hk.w2
    have hp := p2 wd
    have bx : x.natAbs < 2 ^ 200 := Nat.lt_of_lt_of_le (ix.b w2) (Nat.pow_le_pow_right (by decide) (by decide))
    have bm : ∀ z : Int, (z % 2 ^ wd).natAbs < 2 ^ 200 := fun z => Nat.lt_of_lt_of_le (b129m w2 z) (Nat.pow_le_pow_right (by decide) (by decide))
    walk_at "rd"
    refine ⟨p, t, x, rfl, ⟨a, c, wd, s, hk, ht, ia, ic, ix⟩, ?_⟩
    walk_at "rd"
    refine w_fb T rfl hk ?_
    walk_at "rd"
    refine w_I (cpow (n := 1) (by omega) (by decide)) ?_
    rw [Int.toNat_natCast, Int.one_mul]
    walk_at "rd"
    refine ⟨t, a, c, x, wd, rfl, hk.w1, w2, ht, ia.b w2, ic.b w2, bx, fun l H1 s1 hl => ?_⟩
    have ht1 := s1 _ _ ht
    walk_at "rd"
    refine ⟨t, a, c, x, _, wd, rfl, w2, ht1, ia.b w2, ic.b w2, bx, fun _ => by omega, fun H2 s2 => ?_⟩
    have ht2 := s2 _ _ ht1
    have cg : (2 : Int) ^ wd ∣ gAt wd a c x (l : Int) % 2 ^ wd - gIt a c l x := gdvT Int.dvd_emod_sub_self (gAt_nat wd a c x l)
    have s0 := Int.emod_nonneg (gAt wd a c x (l : Int)) (Int.ne_of_gt hp)
    have bst := bm (gAt wd a c x (l : Int))
    generalize gAt wd a c x (l : Int) % 2 ^ wd = st at cg bst s0 ⊢
    walk_at "rd"
    refine ⟨t, a, c, st, _, rfl, ht2, ia.b w2, bst, hp, ?_⟩
    have co : (2 : Int) ^ wd ∣ (a * st + c) % 2 ^ wd - gIt a c 1 st := Int.dvd_emod_sub_self
    have bo := bm (a * st + c)
    have o0 := Int.emod_nonneg (a * st + c) (Int.ne_of_gt hp)
    generalize (a * st + c) % 2 ^ wd = ot at co bo o0 ⊢
    walk_at "rd"
    refine ⟨t, a, c, ot, _, rfl, ht2, ia.b w2, bo, hp, ?_⟩
    walk_at "rd"
    refine ⟨_, wd, rfl, by omega, ?_⟩
    obtain ⟨v, hv⟩ : ∃ v, v = gv wd (gIt a c 2 st - st) := ⟨_, rfl⟩
    have vl : v ≤ wd := by rw [hv]; exact gv_le _ _
    have e : gv wd ((a * ot + c) % 2 ^ wd - st) = v := by
      rw [hv]
      refine gv_cong ?_
      rw [show (a * ot + c) % 2 ^ wd - st - (gIt a c 2 st - st) = (a * ot + c) % 2 ^ wd - gIt a c 2 st by omega, show gIt a c 2 st = gIt a c 1 (gIt a c 1 st) from gIt_add a c 1 1 st]
      exact gdvT Int.dvd_emod_sub_self (gIt_congx (a := a) (c := c) 1 co)
    rw [e]
    have hpv := p2 v
    walk_at "rd"
    refine w_I (cpow (n := 1) (by omega) (by decide)) ?_
    rw [Int.toNat_natCast, Int.one_mul]
    walk_at "rd"
    refine fun D hD => ?_
    walk_at "rd"
    refine w_I hpv ?_
    walk_at "rd"
    refine ⟨by show 2 ≤ sizeLine; decide, fun q1 hq1 => ?_⟩
    walk_at "rd"
    refine w_I hpv ?_
    walk_at "rd"
    refine ⟨by show 2 ≤ sizeLine; decide, fun q2 hq2 => ?_⟩
    have f0 := Int.emod_nonneg st (Int.ne_of_gt hpv)
    have f1 := Int.emod_lt_of_pos st hpv
    have g0 := Int.emod_nonneg ot (Int.ne_of_gt hpv)
    have g1 := Int.emod_lt_of_pos ot hpv
    have cf : (2 : Int) ^ v ∣ st % 2 ^ v - st := Int.dvd_emod_sub_self
    have cg2 : (2 : Int) ^ v ∣ ot % 2 ^ v - ot := Int.dvd_emod_sub_self
    generalize st % 2 ^ v = f at f0 f1 cf hq1 hq2 ⊢
    generalize ot % 2 ^ v = g at g0 g1 cg2 hq2 ⊢
    have nD1 : q1 ≠ D := fun z => by rw [z, upd_same] at hq1; cases hq1
    have hD1 : (L2.upd (L2.upd H2 D (SetTO P w D [])) q1 (.tup [.int f, .int (v : Int)])) D = some (SetTO P w D []) := by rw [upd_ne nD1.symm]; exact upd_same
    have nD2 : q2 ≠ D := fun z => by rw [z, hD1] at hq2; cases hq2
    have n12 : q1 ≠ q2 := fun z => by rw [← z, upd_same] at hq2; cases hq2
    have sm2 := s1.trans s2
    have smA := sm_new (o := .tup [.int f, .int (v : Int)]) (sm_new (o := SetTO P w D []) sm2 hD) hq1
    have smB := sm_new (o := .tup [.int g, .int (v : Int)]) smA hq2
    have hq1' : (L2.upd (L2.upd (L2.upd H2 D (SetTO P w D [])) q1 (.tup [.int f, .int (v : Int)])) q2 (.tup [.int g, .int (v : Int)])) q1 = some (.tup [.int f, .int (v : Int)]) := gn upd_same hq2
    have hq2' : (L2.upd (L2.upd (L2.upd H2 D (SetTO P w D [])) q1 (.tup [.int f, .int (v : Int)])) q2 (.tup [.int g, .int (v : Int)])) q2 = some (.tup [.int g, .int (v : Int)]) := upd_same
    have hD2 := gn (u := .tup [.int g, .int (v : Int)]) hD1 hq2
    have hDn : H D = none := by
      cases z : H D with
      | none => rfl
      | some o => rw [sm2 _ _ z] at hD; cases hD
    generalize L2.upd (L2.upd (L2.upd H2 D _) q1 _) q2 _ = H3 at smB hq1' hq2' hD2 ⊢
    walk_at "rd"
    refine ⟨q1, q2, [f, (v : Int)], [g, (v : Int)], rfl, rfl, hD2, hq1', hq2', nD1, nD2, fun L e1 e2 => ?_⟩
    have smC : Same H (L2.upd H3 D (SetTO P w D L)) := fun b o e => by rw [upd_ne (ne_of_none e hDn)]; exact smB b o e
    have hq1C : (L2.upd H3 D (SetTO P w D L)) q1 = some (.tup [.int f, .int (v : Int)]) := by rw [upd_ne nD1]; exact hq1'
    have hq2C : (L2.upd H3 D (SetTO P w D L)) q2 = some (.tup [.int g, .int (v : Int)]) := by rw [upd_ne nD2]; exact hq2'
    have hDC : (L2.upd H3 D (SetTO P w D L)) D = some (SetTO P w D L) := upd_same
    generalize L2.upd H3 D _ = H4 at smC hq1C hq2C hDC ⊢
    walk_at "rd"
    have inL : ∀ z ∈ L, (z = (q1, [f, (v : Int)]) ∨ z = (q2, [g, (v : Int)])) := fun z hz => by
      by_cases ee : [f, (v : Int)] = [g, (v : Int)]
      · rw [e1 ee] at hz
        exact .inl (List.mem_singleton.mp hz)
      · rcases List.mem_cons.mp ((e2 ee).mem_iff.mp hz) with z | z
        · exact .inr z
        · exact .inl (List.mem_singleton.mp z)
    have hasL : ∀ h, (h = f ∨ h = g) → ∃ q', (q', [h, (v : Int)]) ∈ L := fun h hh => by
      by_cases ee : [f, (v : Int)] = [g, (v : Int)]
      · have fg : f = g := (List.cons.inj ee).1
        rw [e1 ee]
        refine ⟨q1, List.mem_singleton.mpr ?_⟩
        rcases hh with rfl | rfl
        · rfl
        · rw [fg]
      · have m := fun z => (e2 ee).mem_iff (a := z)
        rcases hh with rfl | rfl
        · exact ⟨q1, (m _).mpr (by simp)⟩
        · exact ⟨q2, (m _).mpr (by simp)⟩
    refine ⟨D, L, 2, 2 ^ v + 1000, rfl, hDC, fun z hz => ?_, by decide, fun z hz => ?_, fun L' q3 pm nd few _ hq3 => ?_⟩
    · rcases inL z hz with rfl | rfl
      · exact SqT.of hq1C
      · exact SqT.of hq2C
    · rcases inL z hz with rfl | rfl
      · refine ⟨rfl, fun m hm => ?_⟩
        rcases List.mem_cons.mp hm with rfl | hm
        · omega
        · rw [List.mem_singleton.mp hm]; omega
      · refine ⟨rfl, fun m hm => ?_⟩
        rcases List.mem_cons.mp hm with rfl | hm
        · omega
        · rw [List.mem_singleton.mp hm]; omega
    have smD := sm_new (o := .lst (L'.map fun q => V.ref q.1)) smC hq3
    have hq1D := gn (u := .lst (L'.map fun q => V.ref q.1)) hq1C hq3
    have hq2D := gn (u := .lst (L'.map fun q => V.ref q.1)) hq2C hq3
    have hq3D : (L2.upd H4 q3 (.lst (L'.map fun q => V.ref q.1))) q3 = some (.lst (L'.map fun q => V.ref q.1)) := upd_same
    generalize L2.upd H4 q3 _ = H5 at smD hq1D hq2D hq3D ⊢
    walk_at "rd"
    have shp : ∀ z ∈ L', ∃ h, (h = f ∨ h = g) ∧ z.2 = [h, (v : Int)] ∧ H5 z.1 = some (.tup [.int h, .int (v : Int)]) := fun z hz => by
      rcases inL z (pm.mem_iff.mp hz) with rfl | rfl
      · exact ⟨f, .inl rfl, rfl, hq1D⟩
      · exact ⟨g, .inr rfl, rfl, hq2D⟩
    refine ⟨q3, wd, _, rfl, w2, hq3D, by rw [List.length_map]; omega, fun r hr => ?_, fun fl out q6 H6 mg ir hout row pw flen sE => ?_⟩
    · obtain ⟨z, hz, rfl⟩ := List.mem_map.mp hr
      obtain ⟨h, hh, _, hz1⟩ := shp z hz
      refine ⟨z.1, h, v, rfl, hz1, ?_⟩
      rcases hh with rfl | rfl <;> assumption
    have eS : SetOf H5 (L'.map fun q => V.ref q.1) = twoF v f g := by
      funext h e
      refine propext ⟨?_, ?_⟩
      · rintro ⟨q', hq', hv'⟩
        obtain ⟨z, hz, ez⟩ := List.mem_map.mp hq'
        obtain rfl := V.ref.inj ez
        obtain ⟨h', hh, _, hz1⟩ := shp z hz
        rw [hz1] at hv'
        have e3 := HO.tup.inj (Option.some.inj hv')
        have e4 : h' = h := V.int.inj (List.cons.inj e3).1
        have e5 : (v : Int) = e := V.int.inj (List.cons.inj (List.cons.inj e3).2).1
        exact ⟨by omega, by rw [← e4]; exact hh⟩
      · rintro ⟨rfl, hh⟩
        obtain ⟨q', hq'⟩ := hasL h hh
        have m := pm.mem_iff.mpr hq'
        refine ⟨q', List.mem_map.mpr ⟨_, m, rfl⟩, ?_⟩
        obtain ⟨h', _, e3, hz1⟩ := shp _ m
        have : h = h' := (List.cons.inj e3).1
        rw [this]; exact hz1
    rw [eS] at mg
    refine k q6 l H6 hl ⟨out, fl, hout, row, ⟨pw, ⟨mg.wf (twoF_wf vl f0 f1 g0 g1), mg.apart (twoF_apart f0 f1 g0 g1), ir⟩⟩, fun x => ?_, by rw [List.length_map] at flen; omega⟩ (smD.trans sE)
    rw [mg.cover x, twoF_cover]
    have hfix : a % 2 = 1 ∨ (2 : Int) ^ wd ∣ gIt a c 1 st - st := by
      rcases Int.emod_two_eq a with e | e
      · exact .inr ((gper_cong 1 cg).mpr (ring_even e hl))
      · exact .inl e
    rw [← OnR.cong (z := x) cg, onR_iff hv.symm hfix]
    have t1 : (2 : Int) ^ v ∣ x - f ↔ (2 : Int) ^ v ∣ x - st := ⟨fun h => gdvT h cf, fun h => gdvT h (gdvS cf)⟩
    have co' := Int.dvd_trans (gpp vl) co
    have t2 : (2 : Int) ^ v ∣ x - g ↔ (2 : Int) ^ v ∣ x - gIt a c 1 st := ⟨fun h => gdvT h (gdvT cg2 co'), fun h => gdvT h (gdvS (gdvT cg2 co'))⟩
    rw [t1, t2]
def sp__law_source_of (K : PySem.W.Frag) (C : Addr) : Sp := fun vs H Q _ => ∃ (c : Int), vs = [.int c] ∧ ∀ p H', H p = none → Same H H' → SrcAt H' p → Q (.ref p) H'
theorem ok__law_source_of {P : Program} {w : World} {K : PySem.W.Frag} {mg : Str → Option Value} {base : Heap} (T : Txt K mg) : FnOk P w K mg base CX0 1 T.f__law_source_of T.fd__law_source_of ["_law_cell"] (sp__law_source_of K T.C_Kind) := by
  refine T.F__law_source_of.ok sc__law_source_of (fun vs H Q E h => ?_) (fun cdv A outer s H vs Q E hr h => ?_)
  · obtain ⟨c, rfl, _⟩ := h
    rfl
  · obtain ⟨c, rfl, h⟩ := h
    refine ⟨_, (pss_cons (ps_set (i := 0) sc__law_source_of.nd rfl (Or.inl rfl) (pe_ifExp (pt_cmpR op_ge (pv 0 (hv := Or.inl rfl)) pe_int (nomark _)) (pv 0 (hv := Or.inl rfl)) (pe_op op_sub (pe_op op_sub pe_int (pe_op op_mul pe_int (pv 0 (hv := Or.inl rfl)))) pe_int)))
      (pss_one (ps_ret (pe_lst (pa_cons (pe_op op_mul (pv 0 (hv := Or.inl rfl)) (pe_callTy (T := "int") (r := rIntC) call_int1 (by rfl) T.n_int (by decide +kernel) (pa_cons (pe_cmpR op_ge (pv 0 (hv := Or.inl rfl)) (pe_op op_pow pe_int pe_int) (nomark _)) pa_nil))) (pa_cons (pe_op op_mod (pe_callTy (T := "int") (r := rIntC) call_int1 (by rfl) T.n_int (by decide +kernel) (pa_cons (pv 0 (hv := Or.inl rfl)) pa_nil)) pe_int) (pa_cons pe_int pa_nil))))))), ?_⟩
    try dsimp only [cxOf, Cx.nox, Cx.wish, Cx.blk]
    rw [show L2.start ["_law_cell"] [.int c] = [some (.int c)] from rfl]
    walk_at "rd"
    refine w_if ?_
    walk_at "rd"
    refine w_dec (fun _ => ?_) (fun _ => ?_)
    all_goals
      walk_at "rd"
      refine w_I (Or.inr ⟨by split <;> decide, by split <;> decide⟩) ?_
      walk_at "rd"
      refine ⟨by show 3 ≤ sizeLine; decide, fun p hp => ?_⟩
      exact h p _ hp (sm_new (Same.refl H) hp) ⟨_, _, _, upd_same⟩
def sp__law_next (K : PySem.W.Frag) (C : Addr) : Sp := fun vs H Q _ => ∃ (p : Addr) (m : Int), vs = [.ref p, .int m] ∧ SrcAt H p ∧ 0 < m ∧ m.natAbs < 2 ^ 8999 ∧ ∀ v H', 0 ≤ v → v < m → Kp p H H' → SrcAt H' p → Q (.int v) H'
theorem ok__law_next {P : Program} {w : World} {K : PySem.W.Frag} {mg : Str → Option Value} {base : Heap} (T : Txt K mg) : FnOk P w K mg base CX0 1 T.f__law_next T.fd__law_next ["_law_source", "_law_many"] (sp__law_next K T.C_Kind) := by
  refine T.F__law_next.ok sc__law_next (fun vs H Q E h => ?_) (fun cdv A outer s H vs Q E hr h => ?_)
  · obtain ⟨p, m, rfl, _⟩ := h
    rfl
  · obtain ⟨p, m, rfl, h⟩ := h
    refine ⟨_, (pss_cons (ps_if (pt_cmpR op_gt (pe_ix (r := rIxL K) ix_list (pv 0 (hv := Or.inl rfl)) pe_int (fun _ _ => rfl)) pe_int (nomark _)) (pss_cons (ps_set (i := 2) sc__law_next.nd rfl (Or.inl rfl) (pe_op op_mod (pe_callTy (T := "int") (r := rIntC) call_int1 (by rfl) T.n_int (by decide +kernel) (pa_cons (pe_ix (r := rIxL K) ix_list (pv 0 (hv := Or.inl rfl)) pe_int (fun _ _ => rfl)) pa_nil)) (pv 1 (hv := Or.inl rfl))))
      (pss_cons (ps_asg (pe_op op_fdivW (pe_ix (r := rIxL K) ix_list (pv 0 (hv := Or.inl rfl)) pe_int (fun _ _ => rfl)) (pv 1 (hv := Or.inl rfl))) (pg_sub (pv 0 (hv := Or.inl rfl)) pe_int set_list))
      (pss_one (ps_ret (pv 2 (hv := Or.inl rfl)))))) pss_nil)
      (pss_cons (ps_asg (pe_op op_add (pe_ix (r := rIxL K) ix_list (pv 0 (hv := Or.inl rfl)) pe_int (fun _ _ => rfl)) pe_int) (pg_sub (pv 0 (hv := Or.inl rfl)) pe_int set_list))
      (pss_cons (ps_set (i := 3) sc__law_next.nd rfl (Or.inl rfl) pe_int)
      (pss_cons (ps_set (i := 4) sc__law_next.nd rfl (Or.inl rfl) (pe_op op_mod (pe_callTy (T := "int") (r := rIntC) call_int1 (by rfl) T.n_int (by decide +kernel) (pa_cons (pe_op op_add (pe_op op_add (pe_ix (r := rIxL K) ix_list (pv 0 (hv := Or.inl rfl)) pe_int (fun _ _ => rfl)) (pe_op op_mul pe_int (pe_ix (r := rIxL K) ix_list (pv 0 (hv := Or.inl rfl)) pe_int (fun _ _ => rfl)))) pe_int) pa_nil)) (pv 3 (hv := Or.inl rfl))))
      (pss_cons (ps_set (i := 4) sc__law_next.nd rfl (Or.inl rfl) (pe_op op_mod (pe_callTy (T := "int") (r := rIntC) call_int1 (by rfl) T.n_int (by decide +kernel) (pa_cons (pe_op op_mul (pv 4 (hv := Or.inl rfl)) pe_int) pa_nil)) (pv 3 (hv := Or.inl rfl))))
      (pss_cons (ps_set (i := 4) sc__law_next.nd rfl (Or.inl rfl) (pe_op op_mod (pe_callTy (T := "int") (r := rIntC) call_int1 (by rfl) T.n_int (by decide +kernel) (pa_cons (pe_op op_mul (pv 4 (hv := Or.inl rfl)) (pe_op op_add (pe_op op_fdiv (pv 4 (hv := Or.inl rfl)) pe_int) pe_int)) pa_nil)) (pv 3 (hv := Or.inl rfl))))
      (pss_cons (ps_set (i := 4) sc__law_next.nd rfl (Or.inl rfl) (pe_op op_mod (pe_callTy (T := "int") (r := rIntC) call_int1 (by rfl) T.n_int (by decide +kernel) (pa_cons (pe_op op_mul (pv 4 (hv := Or.inl rfl)) (pe_op op_add (pe_op op_fdiv (pv 4 (hv := Or.inl rfl)) pe_int) pe_int)) pa_nil)) pe_int))
      (pss_one (ps_ret (pe_op op_mod (pe_callTy (T := "int") (r := rIntC) call_int1 (by rfl) T.n_int (by decide +kernel) (pa_cons (pe_op op_fdiv (pv 4 (hv := Or.inl rfl)) pe_int) pa_nil)) (pv 1 (hv := Or.inl rfl)))))))))))), ?_⟩
    try dsimp only [cxOf, Cx.nox, Cx.wish, Cx.blk]
    rw [show L2.start ["_law_source", "_law_many", "_law_found", "_law_prime", "_law_number_here"] [.ref p, .int m] = [some (.ref p), some (.int m), none, none, none] from rfl]
    obtain ⟨⟨a, b, c, hp⟩, h0, hb, k⟩ := h
    have fin : ∀ (x : Int) (H' : Hp), Kp p H H' → SrcAt H' p → Q (.int (x % m)) H' := fun x H' a b => k _ _ (Int.emod_nonneg x (Int.ne_of_gt h0)) (Int.emod_lt_of_pos x h0) a b
    clear k
    walk_at "rd"
    refine w_dec (fun _ => ?_) (fun _ => ?_)
    · walk_at "rd"
      refine w_I h0 ?_
      walk_at "rd"
      refine w_I (wide_div h0 hb (by decide) (by decide)) ?_
      walk_at "rd"
      exact fin _ _ (Kp.refl p H).upd ⟨_, _, _, upd_same⟩
    · walk_at "rd"
      have hp1 : ∀ x : Int, 0 ≤ x % 2147483647 ∧ x % 2147483647 < 2147483647 := fun x => ⟨Int.emod_nonneg x (by decide), Int.emod_lt_of_pos x (by decide)⟩
      refine w_I (CC := CMul) (Or.inl ⟨Int.lt_of_lt_of_le (by decide) (hp1 _).1, Int.lt_trans (hp1 _).2 (by decide)⟩) ?_
      walk_at "rd"
      refine w_I (CC := CMul) (Or.inl ⟨Int.lt_of_lt_of_le (by decide) (hp1 _).1, Int.lt_trans (hp1 _).2 (by decide)⟩) ?_
      walk_at "rd"
      refine w_I h0 ?_
      walk_at "rd"
      exact fin _ _ (Kp.refl p H).upd ⟨_, _, _, upd_same⟩
def sp__law_one (K : PySem.W.Frag) (C : Addr) : Sp := fun vs H Q _ => ∃ (p l : Addr) (ns : List Int), vs = [.ref p, .ref l] ∧ SrcAt H p ∧ H l = some (.lst (ns.map V.int)) ∧ l ≠ p ∧ 0 < ns.length ∧ ns.length ≤ 1000 ∧ ∀ v H', v ∈ ns → Kp p H H' → SrcAt H' p → Q (.int v) H'
theorem ok__law_one {P : Program} {w : World} {K : PySem.W.Frag} {mg : Str → Option Value} {base : Heap} (T : Txt K mg) : FnOk P w K mg base CX0 2 T.f__law_one T.fd__law_one ["_law_source", "_law_some"] (sp__law_one K T.C_Kind) := by
  have G__law_next := ok__law_next (P := P) (w := w) (base := base) T
  refine T.F__law_one.ok sc__law_one (fun vs H Q E h => ?_) (fun cdv A outer s H vs Q E hr h => ?_)
  · obtain ⟨p, l, ns, rfl, _⟩ := h
    rfl
  · obtain ⟨p, l, ns, rfl, h⟩ := h
    have hr__law_next : Room 1 _ := hr.mono (by decide)
    refine ⟨_, (pss_one (ps_ret (pe_ix (r := rIxL K) ix_list (pv 1 (hv := Or.inl rfl)) (pe_call G__law_next hr__law_next rfl T.g__law_next T.k__law_next T.b__law_next .nil pass0 (pa_cons (pv 0 (hv := Or.inl rfl)) (pa_cons (pe_callB (id := "len") (r := rLenS K) call_len_seq (by rfl) T.n_len (by decide +kernel) (pa_cons (pv 1 (hv := Or.inl rfl)) pa_nil)) pa_nil))) (fun _ _ => rfl)))), ?_⟩
    try dsimp only [cxOf, Cx.nox, Cx.wish, Cx.blk]
    rw [show L2.start ["_law_source", "_law_some"] [.ref p, .ref l] = [some (.ref p), some (.ref l)] from rfl]
    obtain ⟨hs, hl, hn, n0, n1, k⟩ := h
    walk_at "rd"
    refine w_len hl ?_
    rw [List.length_map]
    walk_at "rd"
    refine ⟨p, _, rfl, hs, by omega, Nat.lt_trans (show ((ns.length : Nat) : Int).natAbs < 2 ^ 10 by omega) (Nat.pow_lt_pow_right (by decide) (by decide)), fun v H' h1 h2 kp hs' => ?_⟩
    obtain ⟨j, rfl⟩ := Int.eq_ofNat_of_zero_le h1
    have hj : j < ns.length := by omega
    refine w_ixL (kp _ _ hn hl) (atI_nat (v := V.int ns[j]) (by rw [List.getElem?_map, List.getElem?_eq_getElem hj]; rfl)) ?_
    exact k _ _ (List.getElem_mem hj) kp hs'
def sp__law_cell_at (K : PySem.W.Frag) (C : Addr) : Sp := fun vs H Q _ => ∃ (a : Addr) (ns : List Int), vs = [.ref a, .int 0] ∧ SqL K H a (ns.map V.int) ∧ ns.length ≤ 63 ∧ ∀ v H', Same H H' → Q (.int v) H'
theorem ok__law_cell_at {P : Program} {w : World} {K : PySem.W.Frag} {mg : Str → Option Value} {base : Heap} (T : Txt K mg) : FnOk P w K mg base CX0 1 T.f__law_cell_at T.fd__law_cell_at ["_law_script", "_law_index"] (sp__law_cell_at K T.C_Kind) := by
  refine T.F__law_cell_at.ok sc__law_cell_at (fun vs H Q E h => ?_) (fun cdv A outer s H vs Q E hr h => ?_)
  · obtain ⟨a, ns, rfl, _⟩ := h
    rfl
  · obtain ⟨a, ns, rfl, h⟩ := h
    refine ⟨_, (pss_one (ps_ret (pe_ix (r := rIxL K) ix_list (pe_op op_cat (pe_slice sl_list (pv 0 (hv := Or.inl rfl)) (po_some (pv 1 (hv := Or.inl rfl))) (po_some (pe_op op_add (pv 1 (hv := Or.inl rfl)) pe_int))) (pe_lst (pa_cons pe_int pa_nil))) pe_int (fun _ _ => rfl)))), ?_⟩
    try dsimp only [cxOf, Cx.nox, Cx.wish, Cx.blk]
    rw [show L2.start ["_law_script", "_law_index"] [.ref a, .int 0] = [some (.ref a), some (.int 0)] from rfl]
    obtain ⟨hS, n1, k⟩ := h
    walk_at "rd"
    refine w_slL hS (fun p1 h1 => ?_)
    walk_at "rd"
    refine ⟨by show 1 ≤ sizeLine; decide, fun p2 h2 => ?_⟩
    have e1 : (L2.upd (L2.upd H p1 (.lst (cutV (ns.map V.int) (some 0) (some (0 + 1))))) p2 (.lst [V.int 0])) p1 = some (.lst (cutV (ns.map V.int) (some 0) (some (0 + 1)))) := by
      rw [upd_ne (ne_of_none upd_same h2)]; exact upd_same
    have lc : (cutV (ns.map V.int) (some 0) (some (0 + 1))).length ≤ 63 := by
      unfold cutV; rw [List.length_take, List.length_drop, List.length_map]; omega
    refine w_cat e1 upd_same (by show _ + 1 ≤ sizeLine; exact Nat.le_trans (show _ ≤ 64 by omega) (by decide)) (fun p3 h3 => ?_)
    obtain ⟨v, hv⟩ : ∃ v : Int, atI (cutV (ns.map V.int) (some 0) (some (0 + 1)) ++ [V.int 0]) 0 = some (.int v) := by
      cases ns with
      | nil => exact ⟨0, rfl⟩
      | cons n r =>
        refine ⟨n, ?_⟩
        have e : cutV ((n :: r).map V.int) (some 0) (some (0 + 1)) = [V.int n] := by
          unfold cutV
          have q0 : HT.sIx ((n :: r).map V.int).length 0 (some 0) = 0 := (HT.sIx_nat _ _ 0).trans (Nat.zero_min _)
          have q1 : HT.sIx ((n :: r).map V.int).length ((n :: r).map V.int).length (some (0 + 1)) = 1 := (HT.sIx_nat _ _ 1).trans (by rw [List.length_map, List.length_cons]; omega)
          rw [q0, q1]; rfl
        rw [e]; rfl
    walk_at "rd"
    refine w_ixL upd_same hv ?_
    exact k _ _ (sm_new (sm_new (sm_new (Same.refl H) h1) h2) h3)
def sp__law_wide (K : PySem.W.Frag) (C : Addr) : Sp := fun vs H Q _ => ∃ (p : Addr) (m : Int), vs = [.ref p, .int m] ∧ SrcAt H p ∧ 0 < m ∧ m.natAbs < 2 ^ 8999 ∧ ∀ v H', 0 ≤ v → v < m → Kp p H H' → SrcAt H' p → Q (.int v) H'
theorem ok__law_wide {P : Program} {w : World} {K : PySem.W.Frag} {mg : Str → Option Value} {base : Heap} (T : Txt K mg) : FnOk P w K mg base CX0 2 T.f__law_wide T.fd__law_wide ["_law_source", "_law_m"] (sp__law_wide K T.C_Kind) := by
  have G__law_next := ok__law_next (P := P) (w := w) (base := base) T
  refine T.F__law_wide.ok sc__law_wide (fun vs H Q E h => ?_) (fun cdv A outer s H vs Q E hr h => ?_)
  · obtain ⟨p, m, rfl, _⟩ := h
    rfl
  · obtain ⟨p, m, rfl, h⟩ := h
    have hr__law_next : Room 1 _ := hr.mono (by decide)
    refine ⟨_, (pss_cons (ps_set (i := 2) sc__law_wide.nd rfl (Or.inl rfl) (pe_call G__law_next hr__law_next rfl T.g__law_next T.k__law_next T.b__law_next .nil pass0 (pa_cons (pv 0 (hv := Or.inl rfl)) (pa_cons (pv 1 (hv := Or.inl rfl)) pa_nil))))
      (pss_cons (ps_for PassesOwn.never rfl (pi_range1 (by rfl) T.n_range (pa_cons (pe_op op_fdiv (pe_bits (pv 1 (hv := Or.inl rfl))) pe_int) pa_nil)) (pg_name (i := 3) sc__law_wide.nd rfl (Or.inl rfl))
        (pss_one (ps_set (i := 2) sc__law_wide.nd rfl (Or.inl rfl) (pe_op op_add (pe_op op_mul (pv 2 (hv := Or.inl rfl)) pe_int) (pe_call G__law_next hr__law_next rfl T.g__law_next T.k__law_next T.b__law_next .nil pass0 (pa_cons (pv 0 (hv := Or.inl rfl)) (pa_cons pe_int pa_nil)))))))
      (pss_one (ps_ret (pe_op op_mod (pe_callTy (T := "int") (r := rIntC) call_int1 (by rfl) T.n_int (by decide +kernel) (pa_cons (pv 2 (hv := Or.inl rfl)) pa_nil)) (pv 1 (hv := Or.inl rfl))))))), ?_⟩
    try dsimp only [cxOf, Cx.nox, Cx.wish, Cx.blk]
    rw [show L2.start ["_law_source", "_law_m", "_law_found", "_law_k"] [.ref p, .int m] = [some (.ref p), some (.int m), none, none] from rfl]
    obtain ⟨hs, h0, hb, k⟩ := h
    have bb := PyProof.Rows.intBits_le hb
    walk_at "rd"
    refine ⟨p, m, rfl, hs, h0, hb, fun v1 H1 _ _ kp1 hs1 => ?_⟩
    walk_at "rd"
    refine ⟨_, rfl, by omega, by omega, for_range (lo := 0) (n := ((Builtin.Int.intBits m : Int) / 30).toNat) (fun i σ H' => ∃ (f : Int) (v : Option V), σ = [some (.ref p), some (.int m), some (.int f), v] ∧ Kp p H H' ∧ SrcAt H' p) ⟨_, none, rfl, kp1, hs1⟩ ?_ ?_⟩
    · rintro i σ H' hi ⟨f, v, rfl, kp, hs'⟩
      walk_at "rd"
      refine ⟨p, _, rfl, hs', by decide, Nat.lt_trans (show (2147483648 : Int).natAbs < 2 ^ 32 by decide) (Nat.pow_lt_pow_right (by decide) (by decide)), fun v1 H1 _ _ kp1 hs1 => ?_⟩
      walk_at "rd"
      exact ⟨_, _, rfl, kp.trans kp1, hs1⟩
    · rintro σ H' ⟨f, v, rfl, kp, hs'⟩
      walk_at "rd"
      refine w_I h0 ?_
      walk_at "rd"
      exact k _ _ (Int.emod_nonneg _ (Int.ne_of_gt h0)) (Int.emod_lt_of_pos _ h0) kp hs'
def sp__law_draw_kind (K : PySem.W.Frag) (C : Addr) : Sp := fun vs H Q _ => ∃ (p : Addr) (m : Int), vs = [.ref p, .int m] ∧ SrcAt H p ∧ 0 < m ∧ m ≤ 128 ∧ ∀ (t kx : Addr) (wd : Nat) (s : Bool) H', 1 ≤ wd → (wd : Int) ≤ m → Kd C H' kx wd s → kx ≠ p → t ≠ p → H' t = some (.tup [.ref kx, .int (loK wd s), .int (2 ^ wd)]) → Kp p H H' → SrcAt H' p → Q (.ref t) H'
theorem ok__law_draw_kind {P : Program} {w : World} {K : PySem.W.Frag} {mg : Str → Option Value} {base : Heap} (T : Txt K mg) : FnOk P w K mg base CX0 4 T.f__law_draw_kind T.fd__law_draw_kind ["_law_source", "_law_most"] (sp__law_draw_kind K T.C_Kind) := by
  have G_Kind___init__ := ok_Kind___init__ (P := P) (w := w) (base := base) T
  have G__law_next := ok__law_next (P := P) (w := w) (base := base) T
  refine T.F__law_draw_kind.ok sc__law_draw_kind (fun vs H Q E h => ?_) (fun cdv A outer s H vs Q E hr h => ?_)
  · obtain ⟨p, m, rfl, _⟩ := h
    rfl
  · obtain ⟨p, m, rfl, h⟩ := h
    have hr_Kind___init__ : Room 3 _ := hr.mono (by decide)
    have hr__law_next : Room 1 _ := hr.mono (by decide)
    refine ⟨_, (pss_cons (ps_par rfl sc__law_draw_kind.nd (i := 2) (j := 3) rfl rfl (by decide) rfl rfl (pa_cons (pe_op op_add pe_int (pe_call G__law_next hr__law_next rfl T.g__law_next T.k__law_next T.b__law_next .nil pass0 (pa_cons (pv 0 (hv := Or.inl rfl)) (pa_cons (pv 1 (hv := Or.inl rfl)) pa_nil)))) (pa_cons (pe_cmpR op_eq (pe_call G__law_next hr__law_next rfl T.g__law_next T.k__law_next T.b__law_next .nil pass0 (pa_cons (pv 0 (hv := Or.inl rfl)) (pa_cons pe_int pa_nil))) pe_int (nomark _)) pa_nil)) (by rfl))
      (pss_cons (ps_set (i := 4) sc__law_draw_kind.nd rfl (Or.inl rfl) (pe_op op_shl pe_int (pv 2 (hv := Or.inl rfl))))
      (pss_one (ps_ret (pe_tup (pa_cons (pe_make T.mk_Kind G_Kind___init__ hr_Kind___init__ rfl T.g_Kind T.b_Kind___init__ .nil pass0 (pa_cons (pv 2 (hv := Or.inl rfl)) (pa_cons (pv 3 (hv := Or.inl rfl)) pa_nil))) (pa_cons (pe_ifExp (pt_val (pv 3 (hv := Or.inl rfl))) (pe_op op_sub pe_int (pe_op op_fdiv (pv 4 (hv := Or.inl rfl)) pe_int)) pe_int) (pa_cons (pv 4 (hv := Or.inl rfl)) pa_nil)))))))), ?_⟩
    try dsimp only [cxOf, Cx.nox, Cx.wish, Cx.blk]
    rw [show L2.start ["_law_source", "_law_most", "_law_bits", "_law_is_signed", "_law_size"] [.ref p, .int m] = [some (.ref p), some (.int m), none, none, none] from rfl]
    obtain ⟨hs, m0, m1, k⟩ := h
    walk_at "rd"
    refine ⟨p, m, rfl, hs, m0, b9 (Nat.lt_of_lt_of_le (show m.natAbs < 2 ^ 8 by omega) (Nat.pow_le_pow_right (by decide) (by decide))), fun v1 H1 v10 v11 kp1 hs1 => ?_⟩
    walk_at "rd"
    refine ⟨p, 2, rfl, hs1, by decide, b9 (by decide), fun v2 H2 v20 v21 kp2 hs2 => ?_⟩
    obtain ⟨wd, hwd⟩ : ∃ wd : Nat, 1 + v1 = (wd : Int) := ⟨(1 + v1).toNat, by omega⟩
    obtain ⟨s, hsg⟩ : ∃ s : Bool, s = decide (v2 = 0) := ⟨_, rfl⟩
    walk_at "rd"
    rw [hwd, ← hsg]
    refine w_I (cpow (n := 1) (by omega) (by decide)) ?_
    rw [Int.toNat_natCast, Int.one_mul]
    walk_at "rd"
    intro kx dx nx ndx nex
    refine ⟨kx, wd, s, rfl, ⟨dx, upd_same⟩, by omega, by omega, fun H3 hk kp3 => ⟨rfl, ?_⟩⟩
    have sm3 : Same H2 H3 := fun b o e => kp3 b o (ne_of_none e nx) (by rw [upd_ne (ne_of_none e nx), upd_ne (ne_of_none e ndx)]; exact e)
    walk_at "rd"
    refine w_ifJ (fun v H' => v = .int (loK wd s) ∧ H3 = H') (fun Q hQ => ?_) ?_
    · refine w_if ?_
      walk_at "rd"
      cases s with
      | true =>
        refine iteT ?_
        walk_at "rd"
        exact hQ _ _ ⟨by rw [lo_half (by omega)], rfl⟩
      | false =>
        refine iteF ?_
        walk_at "rd"
        exact hQ _ _ ⟨by unfold loK; rw [if_neg Bool.false_ne_true], rfl⟩
    rintro v _ ⟨rfl, rfl⟩
    walk_at "rd"
    refine ⟨by show 3 ≤ sizeLine; decide, fun t ht => ?_⟩
    have hs3 := hs2.same sm3
    exact k t kx wd s _ (by omega) (by omega) (hk.same (sm_new (Same.refl H3) ht)) (hs2.ne nx) (hs3.ne ht) upd_same (((kp1.trans kp2).trans (Kp.of_same sm3)).new ht) (hs3.new ht)
def sp__law_value (K : PySem.W.Frag) (C : Addr) : Sp := fun vs H Q _ => ∃ (p : Addr) (wd : Nat) (s : Bool), vs = [.ref p, .int (loK wd s), .int (2 ^ wd)] ∧ SrcAt H p ∧ wd ≤ 128 ∧ ∀ v H', Iv wd s v → Kp p H H' → SrcAt H' p → Q (.int v) H'
theorem ok__law_value {P : Program} {w : World} {K : PySem.W.Frag} {mg : Str → Option Value} {base : Heap} (T : Txt K mg) : FnOk P w K mg base CX0 3 T.f__law_value T.fd__law_value ["_law_source", "_law_low", "_law_size"] (sp__law_value K T.C_Kind) := by
  have G__law_next := ok__law_next (P := P) (w := w) (base := base) T
  have G__law_one := ok__law_one (P := P) (w := w) (base := base) T
  have G__law_wide := ok__law_wide (P := P) (w := w) (base := base) T
  refine T.F__law_value.ok sc__law_value (fun vs H Q E h => ?_) (fun cdv A outer s H vs Q E hr h => ?_)
  · obtain ⟨p, wd, s, rfl, _⟩ := h
    rfl
  · obtain ⟨p, wd, s, rfl, h⟩ := h
    have hr__law_next : Room 1 _ := hr.mono (by decide)
    have hr__law_one : Room 2 _ := hr.mono (by decide)
    have hr__law_wide : Room 2 _ := hr.mono (by decide)
    refine ⟨_, (pss_cons (ps_set (i := 3) sc__law_value.nd rfl (Or.inl rfl) (pe_call G__law_one hr__law_one rfl T.g__law_one T.k__law_one T.b__law_one .nil pass0 (pa_cons (pv 0 (hv := Or.inl rfl)) (pa_cons (pe_lst (pa_cons (pv 1 (hv := Or.inl rfl)) (pa_cons (pe_op op_sub (pe_op op_add (pv 1 (hv := Or.inl rfl)) (pv 2 (hv := Or.inl rfl))) pe_int) (pa_cons pe_int (pa_cons pe_int (pa_cons (pe_un un_neg pe_int) (pa_cons (pe_op op_add (pv 1 (hv := Or.inl rfl)) pe_int) (pa_cons (pe_op op_sub (pe_op op_add (pv 1 (hv := Or.inl rfl)) (pv 2 (hv := Or.inl rfl))) pe_int) pa_nil)))))))) pa_nil))))
      (pss_cons (ps_set (i := 4) sc__law_value.nd rfl (Or.inl rfl) (pe_op op_add (pv 1 (hv := Or.inl rfl)) (pe_call G__law_wide hr__law_wide rfl T.g__law_wide T.k__law_wide T.b__law_wide .nil pass0 (pa_cons (pv 0 (hv := Or.inl rfl)) (pa_cons (pv 2 (hv := Or.inl rfl)) pa_nil)))))
      (pss_one (ps_ret (pe_ifExp (PW.pt (pw_and (pt_chain op_le op_lt (pv 1 (hv := Or.inl rfl)) (pv 3 (hv := Or.inl rfl)) (pe_op op_add (pv 1 (hv := Or.inl rfl)) (pv 2 (hv := Or.inl rfl)))) (pw_and1 (pt_cmpR op_eq (pe_call G__law_next hr__law_next rfl T.g__law_next T.k__law_next T.b__law_next .nil pass0 (pa_cons (pv 0 (hv := Or.inl rfl)) (pa_cons pe_int pa_nil))) pe_int (nomark _))))) (pv 3 (hv := Or.inl rfl)) (pv 4 (hv := Or.inl rfl))))))), ?_⟩
    try dsimp only [cxOf, Cx.nox, Cx.wish, Cx.blk]
    rw [show L2.start ["_law_source", "_law_low", "_law_size", "_law_near", "_law_far"] [.ref p, .int (loK wd s), .int (2 ^ wd)] = [some (.ref p), some (.int (loK wd s)), some (.int (2 ^ wd)), none, none] from rfl]
    obtain ⟨hs, w2, k⟩ := h
    have hp := p2 wd
    walk_at "rd"
    refine ⟨by show 7 ≤ sizeLine; decide, fun q hq => ?_⟩
    walk_at "rd"
    refine ⟨p, q, [loK wd s, loK wd s + 2 ^ wd - 1, 0, 1, -1, loK wd s + 1, loK wd s + 2 ^ wd - 2], rfl, hs.new hq, upd_same, hs.ne hq, by simp, by simp, fun nr H1 _ kp1 hs1 => ?_⟩
    walk_at "rd"
    refine ⟨p, 2 ^ wd, rfl, hs1, hp, b129p w2, fun f H2 f0 f1 kp2 hs2 => ?_⟩
    walk_at "rd"
    have kp := (((Kp.refl p H).new hq).trans kp1).trans kp2
    have far : ∀ H', Kp p H2 H' → SrcAt H' p → Q (.int (loK wd s + f)) H' := fun H' a b => k _ _ ⟨by omega, by rw [lohi]; omega⟩ (kp.trans a) b
    refine w_if ?_
    walk_at "rd"
    refine w_chain ?_
    walk_at "rd"
    refine w_dec (fun c1 => ?_) (fun c1 => ?_)
    · walk_at "rd"
      refine w_dec (fun c2 => ?_) (fun c2 => ?_)
      · walk_at "rd"
        refine ⟨p, 3, rfl, hs2, by decide, b9 (by decide), fun u H3 _ _ kp3 hs3 => ?_⟩
        walk_at "rd"
        refine w_dec (fun c3 => ?_) (fun c3 => ?_)
        · walk_at "rd"
          exact k _ _ ⟨c1, by rw [lohi]; omega⟩ (kp.trans kp3) hs3
        · walk_at "rd"
          exact far _ kp3 hs3
      · walk_at "rd"
        repeat (refine iteF ?_)
        walk_at "rd"
        exact far _ (Kp.refl p H2) hs2
    · walk_at "rd"
      refine iteF ?_
      refine iteF ?_
      walk_at "rd"
      exact far _ (Kp.refl p H2) hs2
def sp__law_put (K : PySem.W.Frag) (C : Addr) : Sp := fun vs H Q _ => ∃ (n : Int) (wd : Nat) (s : Bool), vs = [.int n, .int (loK wd s), .int (2 ^ wd)] ∧ Q (.int (wr wd s n)) H
theorem ok__law_put {P : Program} {w : World} {K : PySem.W.Frag} {mg : Str → Option Value} {base : Heap} (T : Txt K mg) : FnOk P w K mg base CX0 1 T.f__law_put T.fd__law_put ["_law_n", "_law_low", "_law_size"] (sp__law_put K T.C_Kind) := by
  refine T.F__law_put.ok sc__law_put (fun vs H Q E h => ?_) (fun cdv A outer s H vs Q E hr h => ?_)
  · obtain ⟨n, wd, s, rfl, _⟩ := h
    rfl
  · obtain ⟨n, wd, s, rfl, h⟩ := h
    refine ⟨_, (pss_one (ps_ret (pe_op op_add (pv 1 (hv := Or.inl rfl)) (pe_op op_mod (pe_callTy (T := "int") (r := rIntC) call_int1 (by rfl) T.n_int (by decide +kernel) (pa_cons (pe_op op_sub (pv 0 (hv := Or.inl rfl)) (pv 1 (hv := Or.inl rfl))) pa_nil)) (pv 2 (hv := Or.inl rfl)))))), ?_⟩
    try dsimp only [cxOf, Cx.nox, Cx.wish, Cx.blk]
    rw [show L2.start ["_law_n", "_law_low", "_law_size"] [.int n, .int (loK wd s), .int (2 ^ wd)] = [some (.int n), some (.int (loK wd s)), some (.int (2 ^ wd))] from rfl]
    walk_at "rd"
    refine w_I (p2 wd) ?_
    walk_at "rd"
    exact h

section
variable {K : PySem.W.Frag} {C p t : Addr} {H : Hp} {Q : VK} {E : XK} {wd : Nat} {s : Bool} {a c x : Int}
theorem use_rl_whole (hk : Kd C H p wd s) (ht : H t = some (.tup [.int a, .int c])) (ia : Iv wd s a) (ic : Iv wd s c) {gl : FL} (e : rlR (Uc wd a c) (wd + 1) = gl) (q : ∀ t out H', Same H H' → H' t = some (.lst out) → PRow H' out gl → Q (.ref t) H') : sp_ring_lengths K C [.ref p, .ref t] H Q E :=
  ⟨p, t, a, c, wd, s, rfl, hk, ht, ia, ic, fun t out H' h1 h2 h3 => q t out H' h3 h1 (by rw [← e]; exact h2)⟩
theorem use_ro_whole (hk : Kd C H p wd s) (ht : H t = some (.tup [.int a, .int c])) (ia : Iv wd s a) (ic : Iv wd s c) (ix : Iv wd s x) (ao : a % 2 = 1) (hb : gv wd (a + 1) = 1) {e : Nat} (he : gv wd (gIt a c 1 x - x) = e) (q : ∀ t H', Same H H' → H' t = some (.tup [.int 0, .int (2 ^ (wd - e))]) → Q (.ref t) H') : sp_ring_of K C [.ref p, .ref t, .int x] H Q E :=
  ⟨p, t, a, c, x, wd, s, rfl, hk, ht, ia, ic, ix, fun t l i H' s1 h1 hl hr _ => by
    obtain rfl := hl.1 ao
    have e1 := ring_i1 ao hb (show RingL wd a c x i from hr)
    rw [he] at e1
    subst e1
    exact q t H' s1 h1⟩
theorem use_rv_whole (hk : Kd C H p wd s) (ht : H t = some (.tup [.int a, .int c])) (ia : Iv wd s a) (ic : Iv wd s c) (ix : Iv wd s x) (ao : a % 2 = 1) (hb : gv wd (a + 1) = 1) {e : Nat} (he : gv wd (gIt a c 1 x - x) = e) (q : ∀ t out H', Same H H' → H' t = some (.lst out) → PRow H' out [(x % 2 ^ e, e)] → Q (.ref t) H') : sp_ring_values K C [.ref p, .ref t, .int x] H Q E :=
  ⟨p, t, a, c, x, wd, s, rfl, hk, ht, ia, ic, ix, fun t l H' hl hrow s1 => by
    obtain rfl := hl.1 ao
    obtain ⟨n, cv⟩ := res_row (w := wd) (s := x) (e := e) (by rw [← he]; exact gv_le _ _)
    obtain ⟨out, h1, h2⟩ := hrow.list n fun z => by
      rw [cv, show gIt a c 0 x = x from rfl, onR_1 ao hb, he]
    exact q t out H' s1 h1 h2⟩
end

theorem whole_e {w : Nat} {a c x : Int} (a4 : a % 4 = 1) (c2 : c % 2 = 1) : gv w (gIt a c 1 x - x) = 0 := gv_odd (by
  show (a * x + c - x) % 2 = 1
  obtain ⟨m, rfl⟩ : ∃ m, a = 4 * m + 1 := ⟨a / 4, by omega⟩
  rw [Int.add_mul, Int.one_mul, Int.mul_assoc]; omega)

theorem one_ac {w k : Nat} {s : Bool} {c o d : Int} (w2 : 2 ≤ w) (c2 : c % 2 = 1) (ho : o = wr w s 1) (hd : d = wr w s (c * 2 ^ k)) (hk : k ≤ w) : o % 2 = 1 ∧ gv w (o + 1) = 1 ∧ (2 : Int) ^ w ∣ o - 1 ∧ gv w d = k := by
  have h1 := dvd_wr w s 1
  have h2 := dvd_wr w s (c * 2 ^ k)
  rw [← ho] at h1
  rw [← hd] at h2
  have g1 := Int.dvd_trans (gpp w2) h1
  rw [show (2 : Int) ^ 2 = 4 from rfl] at g1
  refine ⟨by omega, ?_, h1, ?_⟩
  · rw [gv_2odd (k := o / 4) (by omega)]; omega
  · rw [gv_cong h2]
    exact gv_val (a := c / 2) (by rw [Int.mul_comm]; congr 1; omega) hk
theorem one_rl {w k : Nat} {o d : Int} (hk : k ≤ w) (oo : o % 2 = 1) (o1 : gv w (o + 1) = 1) (ow : (2 : Int) ^ w ∣ o - 1) (dw : gv w d = k) : rlR (Uc w o d) (w + 1) = [((2 : Int) ^ (w - k), 2 ^ k)] := by
  have hA := gv_full.mp ow
  have := rl_single (U := Uc w o d) (m := w - k) (w := w) (by omega) (fun i hi => ?_) (fun i hi hi' => ?_)
  · rw [this, show w - (w - k) = k by omega]
  · rw [Uc_un oo, o1, dw, hA]
    cases i with
    | zero => show (if _ then _ else _) = _; rw [if_neg (by omega)]
    | succ j => show (if _ then _ else _) = _; rw [if_neg (by omega)]
  · rw [Uc_un oo, o1, dw, hA]
    cases i with
    | zero => show (if _ then _ else _) = _; rw [if_pos (by omega)]
    | succ j => show (if _ then _ else _) = _; rw [if_pos (by omega), Nat.min_eq_left (by omega)]
theorem one_e {w k : Nat} {o d x : Int} (ow : (2 : Int) ^ w ∣ o - 1) (dw : gv w d = k) : gv w (gIt o d 1 x - x) = k := by
  rw [← dw]
  refine gv_cong ?_
  show (2 : Int) ^ w ∣ o * x + d - x - d
  rw [show o * x + d - x - d = (o - 1) * x by rw [Int.sub_mul, Int.one_mul]; omega]
  exact Int.dvd_mul_of_dvd_left ow

theorem p2div {w k : Nat} (h : k ≤ w) : (2 : Int) ^ w / 2 ^ k = 2 ^ (w - k) := by
  rw [show (2 : Int) ^ w = 2 ^ (w - k) * 2 ^ k by rw [← Int.pow_add, Nat.sub_add_cancel h]]
  exact Int.mul_ediv_cancel _ (Int.ne_of_gt (gpos k))
def sp__law_whole_right (K : PySem.W.Frag) (C : Addr) : Sp := fun vs H Q _ => ∃ (p kx : Addr) (wd : Nat) (s : Bool), vs = [.ref p, .ref kx, .int (loK wd s), .int (2 ^ wd)] ∧ Kd C H kx wd s ∧ kx ≠ p ∧ SrcAt H p ∧ 2 ≤ wd ∧ wd ≤ 128 ∧ ∀ H', Kp p H H' → SrcAt H' p → Q (.bl true) H'
theorem ok__law_whole_right {P : Program} {w : World} {K : PySem.W.Frag} {mg : Str → Option Value} {base : Heap} (T : Txt K mg) : FnOk P w K mg base CX0 10 T.f__law_whole_right T.fd__law_whole_right ["_law_source", "_law_kind", "_law_low", "_law_size"] (sp__law_whole_right K T.C_Kind) := by
  have G_Kind_parts := ok_Kind_parts (P := P) (w := w) (base := base) T
  have G__law_next := ok__law_next (P := P) (w := w) (base := base) T
  have G__law_put := ok__law_put (P := P) (w := w) (base := base) T
  have G__law_value := ok__law_value (P := P) (w := w) (base := base) T
  have G__law_wide := ok__law_wide (P := P) (w := w) (base := base) T
  have G_ring_lengths := ok_ring_lengths (P := P) (w := w) (base := base) T
  have G_ring_of := ok_ring_of (P := P) (w := w) (base := base) T
  have G_ring_values := ok_ring_values (P := P) (w := w) (base := base) T
  refine T.F__law_whole_right.ok sc__law_whole_right (fun vs H Q E h => ?_) (fun cdv A outer s H vs Q E hr h => ?_)
  · obtain ⟨p, kx, wd, s, rfl, _⟩ := h
    rfl
  · obtain ⟨p, kx, wd, s, rfl, h⟩ := h
    have hr_Kind_parts : Room 1 _ := hr.mono (by decide)
    have hr__law_next : Room 1 _ := hr.mono (by decide)
    have hr__law_put : Room 1 _ := hr.mono (by decide)
    have hr__law_value : Room 3 _ := hr.mono (by decide)
    have hr__law_wide : Room 2 _ := hr.mono (by decide)
    have hr_ring_lengths : Room 8 _ := hr.mono (by decide)
    have hr_ring_of : Room 9 _ := hr.mono (by decide)
    have hr_ring_values : Room 9 _ := hr.mono (by decide)
    refine ⟨_, (pss_cons (ps_set (i := 4) sc__law_whole_right.nd rfl (Or.inl rfl) (pe_call G__law_put hr__law_put rfl T.g__law_put T.k__law_put T.b__law_put .nil pass0 (pa_cons (pe_op op_add (pe_op op_mul pe_int (pe_call G__law_wide hr__law_wide rfl T.g__law_wide T.k__law_wide T.b__law_wide .nil pass0 (pa_cons (pv 0 (hv := Or.inl rfl)) (pa_cons (pv 3 (hv := Or.inl rfl)) pa_nil)))) pe_int) (pa_cons (pv 2 (hv := Or.inl rfl)) (pa_cons (pv 3 (hv := Or.inl rfl)) pa_nil)))))
      (pss_cons (ps_set (i := 5) sc__law_whole_right.nd rfl (Or.inl rfl) (pe_call G__law_put hr__law_put rfl T.g__law_put T.k__law_put T.b__law_put .nil pass0 (pa_cons (pe_op op_add (pe_op op_mul pe_int (pe_call G__law_wide hr__law_wide rfl T.g__law_wide T.k__law_wide T.b__law_wide .nil pass0 (pa_cons (pv 0 (hv := Or.inl rfl)) (pa_cons (pv 3 (hv := Or.inl rfl)) pa_nil)))) pe_int) (pa_cons (pv 2 (hv := Or.inl rfl)) (pa_cons (pv 3 (hv := Or.inl rfl)) pa_nil)))))
      (pss_cons (ps_set (i := 6) sc__law_whole_right.nd rfl (Or.inl rfl) (pe_call G__law_value hr__law_value rfl T.g__law_value T.k__law_value T.b__law_value .nil pass0 (pa_cons (pv 0 (hv := Or.inl rfl)) (pa_cons (pv 2 (hv := Or.inl rfl)) (pa_cons (pv 3 (hv := Or.inl rfl)) pa_nil)))))
      (pss_cons (ps_if (PW.pt (pw_or (pt_cmpR (op_neD hr.units) (pe_call G_ring_lengths hr_ring_lengths rfl T.g_ring_lengths T.k_ring_lengths T.b_ring_lengths .nil pass0 (pa_cons (pv 1 (hv := Or.inl rfl)) (pa_cons (pe_tup (pa_cons (pv 4 (hv := Or.inl rfl)) (pa_cons (pv 5 (hv := Or.inl rfl)) pa_nil))) pa_nil))) (pe_lst (pa_cons (pe_tup (pa_cons (pv 3 (hv := Or.inl rfl)) (pa_cons pe_int pa_nil))) pa_nil)) (nomark _)) (pw_or1 (pt_cmpR (op_neD hr.units) (pe_call G_ring_of hr_ring_of rfl T.g_ring_of T.k_ring_of T.b_ring_of .nil pass0 (pa_cons (pv 1 (hv := Or.inl rfl)) (pa_cons (pe_tup (pa_cons (pv 4 (hv := Or.inl rfl)) (pa_cons (pv 5 (hv := Or.inl rfl)) pa_nil))) (pa_cons (pv 6 (hv := Or.inl rfl)) pa_nil)))) (pe_tup (pa_cons pe_int (pa_cons (pv 3 (hv := Or.inl rfl)) pa_nil))) (nomark _))))) (pss_one (ps_ret pe_bl)) pss_nil)
      (pss_cons (ps_if (pt_cmpR (op_neD hr.units) (pe_call G_ring_values hr_ring_values rfl T.g_ring_values T.k_ring_values T.b_ring_values .nil pass0 (pa_cons (pv 1 (hv := Or.inl rfl)) (pa_cons (pe_tup (pa_cons (pv 4 (hv := Or.inl rfl)) (pa_cons (pv 5 (hv := Or.inl rfl)) pa_nil))) (pa_cons (pv 6 (hv := Or.inl rfl)) pa_nil)))) (pe_lst (pa_cons (pe_tup (pa_cons pe_int (pa_cons pe_int pa_nil))) pa_nil)) (nomark _)) (pss_one (ps_ret pe_bl)) pss_nil)
      (pss_cons (ps_set (i := 7) sc__law_whole_right.nd rfl (Or.inl rfl) (pe_ix (r := rIxT K) ix_tup (pe_meth0 (pv 1 (hv := Or.inl rfl)) T.cl_Kind T.m_Kind_parts G_Kind_parts hr_Kind_parts T.b_Kind_parts .nil pass0) pe_int (fun _ _ => rfl)))
      (pss_cons (ps_par rfl sc__law_whole_right.nd (i := 8) (j := 9) rfl rfl (by decide) rfl rfl (pa_cons (pe_call G__law_next hr__law_next rfl T.g__law_next T.k__law_next T.b__law_next .nil pass0 (pa_cons (pv 0 (hv := Or.inl rfl)) (pa_cons (pe_op op_add (pv 7 (hv := Or.inl rfl)) pe_int) pa_nil))) (pa_cons (pe_call G__law_put hr__law_put rfl T.g__law_put T.k__law_put T.b__law_put .nil pass0 (pa_cons pe_int (pa_cons (pv 2 (hv := Or.inl rfl)) (pa_cons (pv 3 (hv := Or.inl rfl)) pa_nil)))) pa_nil)) (by rfl))
      (pss_cons (ps_set (i := 10) sc__law_whole_right.nd rfl (Or.inl rfl) (pe_call G__law_put hr__law_put rfl T.g__law_put T.k__law_put T.b__law_put .nil pass0 (pa_cons (pe_op op_shlW (pv 5 (hv := Or.inl rfl)) (pv 8 (hv := Or.inl rfl))) (pa_cons (pv 2 (hv := Or.inl rfl)) (pa_cons (pv 3 (hv := Or.inl rfl)) pa_nil)))))
      (pss_cons (ps_if (PW.pt (pw_or (pt_cmpR (op_neD hr.units) (pe_call G_ring_lengths hr_ring_lengths rfl T.g_ring_lengths T.k_ring_lengths T.b_ring_lengths .nil pass0 (pa_cons (pv 1 (hv := Or.inl rfl)) (pa_cons (pe_tup (pa_cons (pv 9 (hv := Or.inl rfl)) (pa_cons (pv 10 (hv := Or.inl rfl)) pa_nil))) pa_nil))) (pe_lst (pa_cons (pe_tup (pa_cons (pe_op op_shr (pv 3 (hv := Or.inl rfl)) (pv 8 (hv := Or.inl rfl))) (pa_cons (pe_op op_shl pe_int (pv 8 (hv := Or.inl rfl))) pa_nil))) pa_nil)) (nomark _)) (pw_or1 (pt_cmpR (op_neD hr.units) (pe_call G_ring_of hr_ring_of rfl T.g_ring_of T.k_ring_of T.b_ring_of .nil pass0 (pa_cons (pv 1 (hv := Or.inl rfl)) (pa_cons (pe_tup (pa_cons (pv 9 (hv := Or.inl rfl)) (pa_cons (pv 10 (hv := Or.inl rfl)) pa_nil))) (pa_cons (pv 6 (hv := Or.inl rfl)) pa_nil)))) (pe_tup (pa_cons pe_int (pa_cons (pe_op op_shr (pv 3 (hv := Or.inl rfl)) (pv 8 (hv := Or.inl rfl))) pa_nil))) (nomark _))))) (pss_one (ps_ret pe_bl)) pss_nil)
      (pss_one (ps_ret (pe_cmpR (op_eqD hr.units) (pe_call G_ring_values hr_ring_values rfl T.g_ring_values T.k_ring_values T.b_ring_values .nil pass0 (pa_cons (pv 1 (hv := Or.inl rfl)) (pa_cons (pe_tup (pa_cons (pv 9 (hv := Or.inl rfl)) (pa_cons (pv 10 (hv := Or.inl rfl)) pa_nil))) (pa_cons (pv 6 (hv := Or.inl rfl)) pa_nil)))) (pe_lst (pa_cons (pe_tup (pa_cons (pe_op op_mod (pe_callTy (T := "int") (r := rIntC) call_int1 (by rfl) T.n_int (by decide +kernel) (pa_cons (pv 6 (hv := Or.inl rfl)) pa_nil)) (pe_op op_shl pe_int (pv 8 (hv := Or.inl rfl)))) (pa_cons (pv 8 (hv := Or.inl rfl)) pa_nil))) pa_nil)) (nomark _))))))))))))), ?_⟩
    try dsimp only [cxOf, Cx.nox, Cx.wish, Cx.blk]
    rw [show L2.start ["_law_source", "_law_kind", "_law_low", "_law_size", "_law_a", "_law_c", "_law_x", "_law_bits", "_law_k", "_law_one_here", "_law_add"] [.ref p, .ref kx, .int (loK wd s), .int (2 ^ wd)] = [some (.ref p), some (.ref kx), some (.int (loK wd s)), some (.int (2 ^ wd)), none, none, none, none, none, none, none] from rfl]
    obtain ⟨hk, nk, hs, w2, w128, k⟩ := h
    have hp := p2 wd
    obtain ⟨⟨dx, e0⟩, _, _⟩ := id hk
    walk_at "rd"
    refine ⟨p, 2 ^ wd, rfl, hs, hp, b129p w128, fun v1 H1 v10 v11 kp1 hs1 => ?_⟩
    walk_at "rd"
    refine ⟨_, wd, s, rfl, ?_⟩
    obtain ⟨a, ha⟩ : ∃ a, a = wr wd s (4 * v1 + 1) := ⟨_, rfl⟩
    rw [← ha]
    walk_at "rd"
    refine ⟨p, 2 ^ wd, rfl, hs1, hp, b129p w128, fun v2 H2 v20 v21 kp2 hs2 => ?_⟩
    walk_at "rd"
    refine ⟨_, wd, s, rfl, ?_⟩
    obtain ⟨c, hc⟩ : ∃ c, c = wr wd s (2 * v2 + 1) := ⟨_, rfl⟩
    rw [← hc]
    walk_at "rd"
    refine ⟨p, wd, s, rfl, hs2, w128, fun x H3 ix kp3 hs3 => ?_⟩
    have ia : Iv wd s a := by rw [ha]; exact Iv.wr
    have ic : Iv wd s c := by rw [hc]; exact Iv.wr
    have hk3 := hk.kp hs (kp1.trans (kp2.trans kp3))
    have kp3 := kp1.trans (kp2.trans kp3)
    obtain ⟨a4, c2⟩ := whole_ac w2 ha hc
    have ao : a % 2 = 1 := by omega
    have hb : gv wd (a + 1) = 1 := by rw [gv_2odd (k := a / 4) (by omega)]; omega
    clear hs hs1 hs2 kp1 kp2 hk
    walk_at "rd"
    refine ⟨by show 2 ≤ sizeLine; decide, fun t1 ht1 => ?_⟩
    have s1 := sm_new (o := .tup [.int a, .int c]) (Same.refl H3) ht1
    walk_at "rd"
    refine use_rl_whole (hk3.same s1) upd_same ia ic (whole_rl w2 a4 c2) (fun t2 out2 H4 s4 h2 r2 => ?_)
    have s4 := s1.trans s4
    walk_at "rd"
    refine ⟨by show 2 ≤ sizeLine; decide, fun u1 hu1 => ?_⟩
    walk_at "rd"
    refine ⟨by show 1 ≤ sizeLine; decide, fun u2 hu2 => ?_⟩
    have s5 := sm_new (o := .lst [.ref u1]) (sm_new (o := .tup [.int (2 ^ wd), .int 1]) (Same.refl H4) hu1) hu2
    refine w_neRow (s5 _ _ h2) (r2.same s5) upd_same (.cons (gn upd_same hu2) .nil) ?_
    have s5 := s4.trans s5
    generalize L2.upd (L2.upd H4 u1 _) u2 _ = H5 at s5 ⊢
    clear h2 r2 s4 hu2 hu1
    walk_at "rd"
    refine iteF ?_
    walk_at "rd"
    refine ⟨by show 2 ≤ sizeLine; decide, fun t3 ht3 => ?_⟩
    have s6 := sm_new (o := .tup [.int a, .int c]) s5 ht3
    walk_at "rd"
    refine use_ro_whole (hk3.same s6) upd_same ia ic ix ao hb (whole_e a4 c2) (fun t4 H7 s7 h4 => ?_)
    have s7 := s6.trans s7
    walk_at "rd"
    refine ⟨by show 2 ≤ sizeLine; decide, fun u3 hu3 => ?_⟩
    refine w_neDg (dp_pair (gn h4 hu3)) (dp_pair upd_same) (sh_pair _ _) (sh_pair _ _) ?_
    rw [Nat.sub_zero, eqv_pair]
    have s8 := sm_new (o := .tup [.int 0, .int (2 ^ wd)]) s7 hu3
    generalize L2.upd H7 u3 _ = H8 at s8 ⊢
    clear h4 s7 hu3 ht3 s6 s5
    walk_at "rd"
    refine iteF ?_
    walk_at "rd"
    refine ⟨by show 2 ≤ sizeLine; decide, fun t5 ht5 => ?_⟩
    have s9 := sm_new (o := .tup [.int a, .int c]) s8 ht5
    walk_at "rd"
    refine use_rv_whole (hk3.same s9) upd_same ia ic ix ao hb (whole_e a4 c2) (fun t6 out6 H10 s10 h6 r6 => ?_)
    have s10 := s9.trans s10
    rw [Int.pow_zero, Int.emod_one] at r6
    walk_at "rd"
    refine ⟨by show 2 ≤ sizeLine; decide, fun u4 hu4 => ?_⟩
    walk_at "rd"
    refine ⟨by show 1 ≤ sizeLine; decide, fun u5 hu5 => ?_⟩
    have s11 := sm_new (o := .lst [.ref u4]) (sm_new (o := .tup [.int 0, .int 0]) (Same.refl H10) hu4) hu5
    refine w_neRow (s11 _ _ h6) (r6.same s11) upd_same (.cons (gn upd_same hu5) .nil) ?_
    have s11 := s10.trans s11
    generalize L2.upd (L2.upd H10 u4 _) u5 _ = H11 at s11 ⊢
    clear h6 r6 s10 hu5 hu4 ht5 s9 s8
    walk_at "rd"
    refine iteF ?_
    walk_at "rd"
    have hk11 := hk3.same s11
    have hs11 := hs3.same s11
    have kp11 := kp3.trans (Kp.of_same (p := p) s11)
    obtain ⟨⟨dx, e0⟩, _, _⟩ := id hk11
    refine ⟨kx, dx, _, rfl, e0, nop_kf wd s, kx, wd, s, rfl, hk11, fun qp hqp => ?_⟩
    have s12 := sm_new (o := .tup [.int (wd : Int), .bl s]) (Same.refl H11) hqp
    have hqp' : (L2.upd H11 qp (.tup [.int (wd : Int), .bl s])) qp = some (.tup [.int (wd : Int), .bl s]) := upd_same
    generalize L2.upd H11 qp _ = H12 at s12 hqp' ⊢
    have hk12 := hk11.same s12
    have hs12 := hs11.same s12
    have kp12 := kp11.trans (Kp.of_same (p := p) s12)
    clear hk11 hs11 kp11 s11 s12 hk3 hs3 kp3 e0
    walk_at "rd"
    refine ⟨p, _, rfl, hs12, by omega, b9 (Nat.lt_of_lt_of_le (show _ < 2 ^ 8 by omega) (Nat.pow_le_pow_right (by decide) (by decide))), fun kz H13 k0 k1 kp13 hs13 => ?_⟩
    obtain ⟨kn, rfl⟩ := Int.eq_ofNat_of_zero_le k0
    walk_at "rd"
    refine ⟨_, wd, s, rfl, ?_⟩
    obtain ⟨o, ho⟩ : ∃ o, o = wr wd s 1 := ⟨_, rfl⟩
    rw [← ho]
    walk_at "rd"
    refine w_I (shl_ok (ic.b w128) (by omega)) ?_
    rw [Int.toNat_natCast]
    walk_at "rd"
    refine ⟨_, wd, s, rfl, ?_⟩
    obtain ⟨d, hd⟩ : ∃ d, d = wr wd s (c * 2 ^ kn) := ⟨_, rfl⟩
    rw [← hd]
    have io : Iv wd s o := by rw [ho]; exact Iv.wr
    have id' : Iv wd s d := by rw [hd]; exact Iv.wr
    have hk13 := hk12.kp hs12 kp13
    have kp13 := kp12.trans kp13
    obtain ⟨oo, o1, ow, dw⟩ := one_ac w2 c2 ho hd (show kn ≤ wd by omega)
    clear hk12 kp12 hs12 hqp'
    walk_at "rd"
    refine ⟨by show 2 ≤ sizeLine; decide, fun t1 ht1 => ?_⟩
    have s1 := sm_new (o := .tup [.int o, .int d]) (Same.refl H13) ht1
    walk_at "rd"
    refine use_rl_whole (hk13.same s1) upd_same io id' (one_rl (show kn ≤ wd by omega) oo o1 ow dw) (fun t2 out2 H4 s4 h2 r2 => ?_)
    have s4 := s1.trans s4
    have ck : ((2 ^ kn : Nat) : Int) = 2 ^ kn := Int.natCast_pow 2 kn
    walk_at "rd"
    refine w_I (Int.natCast_nonneg _) ?_
    rw [Int.toNat_natCast, p2div (show kn ≤ wd by omega)]
    walk_at "rd"
    refine w_I (cpow (n := 1) (by omega) (by decide)) ?_
    rw [Int.toNat_natCast, Int.one_mul]
    walk_at "rd"
    refine ⟨by show 2 ≤ sizeLine; decide, fun u1 hu1 => ?_⟩
    walk_at "rd"
    refine ⟨by show 1 ≤ sizeLine; decide, fun u2 hu2 => ?_⟩
    have s5 := sm_new (o := .lst [.ref u1]) (sm_new (o := .tup [.int (2 ^ (wd - kn)), .int (2 ^ kn)]) (Same.refl H4) hu1) hu2
    refine w_neRow (s5 _ _ h2) (r2.same s5) upd_same (.cons (by rw [ck]; exact gn upd_same hu2) .nil) ?_
    have s5 := s4.trans s5
    generalize L2.upd (L2.upd H4 u1 _) u2 _ = H5 at s5 ⊢
    clear h2 r2 s4 hu2 hu1
    walk_at "rd"
    refine iteF ?_
    walk_at "rd"
    refine ⟨by show 2 ≤ sizeLine; decide, fun t3 ht3 => ?_⟩
    have s6 := sm_new (o := .tup [.int o, .int d]) s5 ht3
    walk_at "rd"
    refine use_ro_whole (hk13.same s6) upd_same io id' ix oo o1 (one_e ow dw) (fun t4 H7 s7 h4 => ?_)
    have s7 := s6.trans s7
    walk_at "rd"
    refine w_I (Int.natCast_nonneg _) ?_
    rw [Int.toNat_natCast, p2div (show kn ≤ wd by omega)]
    walk_at "rd"
    refine ⟨by show 2 ≤ sizeLine; decide, fun u3 hu3 => ?_⟩
    refine w_neDg (dp_pair (gn h4 hu3)) (dp_pair upd_same) (sh_pair _ _) (sh_pair _ _) ?_
    rw [eqv_pair]
    have s8 := sm_new (o := .tup [.int 0, .int (2 ^ (wd - kn))]) s7 hu3
    generalize L2.upd H7 u3 _ = H8 at s8 ⊢
    clear h4 s7 hu3 ht3 s6 s5
    walk_at "rd"
    refine iteF ?_
    walk_at "rd"
    refine ⟨by show 2 ≤ sizeLine; decide, fun t5 ht5 => ?_⟩
    have s9 := sm_new (o := .tup [.int o, .int d]) s8 ht5
    walk_at "rd"
    refine use_rv_whole (hk13.same s9) upd_same io id' ix oo o1 (one_e ow dw) (fun t6 out6 H10 s10 h6 r6 => ?_)
    have s10 := s9.trans s10
    walk_at "rd"
    refine w_I (cpow (n := 1) (by omega) (by decide)) ?_
    rw [Int.toNat_natCast, Int.one_mul]
    walk_at "rd"
    refine w_I (p2 kn) ?_
    walk_at "rd"
    refine ⟨by show 2 ≤ sizeLine; decide, fun u4 hu4 => ?_⟩
    walk_at "rd"
    refine ⟨by show 1 ≤ sizeLine; decide, fun u5 hu5 => ?_⟩
    have s11 := sm_new (o := .lst [.ref u4]) (sm_new (o := .tup [.int (x % 2 ^ kn), .int (kn : Int)]) (Same.refl H10) hu4) hu5
    refine w_eqRow (s11 _ _ h6) (r6.same s11) upd_same (.cons (gn upd_same hu5) .nil) ?_
    have s11 := s10.trans s11
    exact k _ (kp13.trans (Kp.of_same (p := p) s11)) (hs13.same s11)

section
variable {K : PySem.W.Frag} {C p t : Addr} {H : Hp} {Q : VK} {E : XK} {wd : Nat} {s : Bool} {a c x : Int}
theorem use_rl_twos (hk : Kd C H p wd s) (ht : H t = some (.tup [.int a, .int c])) (ia : Iv wd s a) (ic : Iv wd s c) {gl : FL} (e : rlR (Uc wd a c) (wd + 1) = gl) (q : ∀ t out H', Same H H' → H' t = some (.lst out) → PRow H' out gl → Q (.ref t) H') : sp_ring_lengths K C [.ref p, .ref t] H Q E :=
  ⟨p, t, a, c, wd, s, rfl, hk, ht, ia, ic, fun t out H' h1 h2 h3 => q t out H' h3 h1 (by rw [← e]; exact h2)⟩
theorem use_ro_twos (hk : Kd C H p wd s) (ht : H t = some (.tup [.int a, .int c])) (ia : Iv wd s a) (ic : Iv wd s c) (ix : Iv wd s x) (ao : a % 2 = 1) (hb : gv wd (a + 1) = 1) {e : Nat} (he : gv wd (gIt a c 1 x - x) = e) (q : ∀ t H', Same H H' → H' t = some (.tup [.int 0, .int (2 ^ (wd - e))]) → Q (.ref t) H') : sp_ring_of K C [.ref p, .ref t, .int x] H Q E :=
  ⟨p, t, a, c, x, wd, s, rfl, hk, ht, ia, ic, ix, fun t l i H' s1 h1 hl hr _ => by
    obtain rfl := hl.1 ao
    have e1 := ring_i1 ao hb (show RingL wd a c x i from hr)
    rw [he] at e1
    subst e1
    exact q t H' s1 h1⟩
theorem use_rv_twos (hk : Kd C H p wd s) (ht : H t = some (.tup [.int a, .int c])) (ia : Iv wd s a) (ic : Iv wd s c) (ix : Iv wd s x) (ao : a % 2 = 1) (hb : gv wd (a + 1) = 1) {e : Nat} (he : gv wd (gIt a c 1 x - x) = e) (q : ∀ t out H', Same H H' → H' t = some (.lst out) → PRow H' out [(x % 2 ^ e, e)] → Q (.ref t) H') : sp_ring_values K C [.ref p, .ref t, .int x] H Q E :=
  ⟨p, t, a, c, x, wd, s, rfl, hk, ht, ia, ic, ix, fun t l H' hl hrow s1 => by
    obtain rfl := hl.1 ao
    obtain ⟨n, cv⟩ := res_row (w := wd) (s := x) (e := e) (by rw [← he]; exact gv_le _ _)
    obtain ⟨out, h1, h2⟩ := hrow.list n fun z => by
      rw [cv, show gIt a c 0 x = x from rfl, onR_1 ao hb, he]
    exact q t out H' s1 h1 h2⟩
end

theorem p2divT {w k : Nat} (h : k ≤ w) : (2 : Int) ^ w / 2 ^ k = 2 ^ (w - k) := by
  rw [show (2 : Int) ^ w = 2 ^ (w - k) * 2 ^ k by rw [← Int.pow_add, Nat.sub_add_cancel h]]
  exact Int.mul_ediv_cancel _ (Int.ne_of_gt (gpos k))
theorem tw_ac {w k j : Nat} {s : Bool} {a x v : Int} (k2 : 2 ≤ k) (kw : k < w) (jw : j ≤ w) (ha : a = wr w s (2 ^ k + 1)) (hx : x = wr w s ((2 * v + 1) * 2 ^ j)) : a % 2 = 1 ∧ gv w (a + 1) = 1 ∧ gv w (a - 1) = k ∧ gv w (gIt a 0 1 x - x) = min w (k + j) := by
  have h1 := dvd_wr w s (2 ^ k + 1)
  have h2 := dvd_wr w s ((2 * v + 1) * 2 ^ j)
  rw [← ha] at h1
  rw [← hx] at h2
  have g1 := Int.dvd_trans (gpp (show 2 ≤ w by omega)) h1
  have g2 := gpp (a := 2) (b := k) k2
  rw [show (2 : Int) ^ 2 = 4 from rfl] at g1 g2
  have hA : gv w (a - 1) = k := by
    rw [gv_cong (y := 2 ^ k) (by rw [show a - 1 - 2 ^ k = a - (2 ^ k + 1) by omega]; exact h1)]
    exact gv_val (a := 0) (by omega) (by omega)
  refine ⟨by omega, ?_, hA, ?_⟩
  · rw [gv_2odd (k := a / 4) (by omega)]; omega
  · rw [show gIt a 0 1 x - x = (a - 1) * x by show a * x + 0 - x = _; rw [Int.sub_mul, Int.one_mul]; omega, gv_mul, hA, gv_cong h2, gv_val (a := v) (Int.mul_comm _ _) jw]
theorem iv_0 {w : Nat} {s : Bool} (w1 : 1 ≤ w) : Iv w s 0 := by
  have e := p2s w1
  have hp := p2 (w - 1)
  have hp2 := p2 w
  unfold Iv hiK loK
  cases s
  · rw [if_neg Bool.false_ne_true]; omega
  · rw [if_pos rfl]; omega
theorem itemsF {fl : FL} {i : Nat} {x y : V} (e1 : (kvF fl)[i]?.map (fun kv => kV kv.1) = some x) (e2 : (kvF fl)[i]?.map Prod.snd = some y) : ∃ p, fl[i]? = some p ∧ x = .int p.1 ∧ y = .int (p.2 : Int) := by
  rw [List.getElem?_map] at e1 e2
  cases h : fl[i]? with
  | none => rw [h] at e1; cases e1
  | some p =>
    rw [h] at e1 e2
    exact ⟨p, rfl, (Option.some.inj e1).symm, (Option.some.inj e2).symm⟩
theorem tw_U {w k : Nat} {a : Int} (ao : a % 2 = 1) (hb : gv w (a + 1) = 1) (hA : gv w (a - 1) = k) : Uc w a 0 = Un w k 1 w := by
  funext i
  rw [Uc_un ao, hb, hA, gv_full.mp (Int.dvd_zero _)]
def sp__law_twos_right (K : PySem.W.Frag) (C : Addr) : Sp := fun vs H Q _ => ∃ (p kx : Addr) (wd : Nat) (s : Bool), vs = [.ref p, .ref kx, .int (loK wd s), .int (2 ^ wd)] ∧ Kd C H kx wd s ∧ kx ≠ p ∧ SrcAt H p ∧ 1 ≤ wd ∧ wd ≤ 128 ∧ ∀ H', Kp p H H' → SrcAt H' p → Q (.bl true) H'
theorem ok__law_twos_right {P : Program} {w : World} {K : PySem.W.Frag} {mg : Str → Option Value} {base : Heap} (T : Txt K mg) : FnOk P w K mg base CX0 10 T.f__law_twos_right T.fd__law_twos_right ["_law_source", "_law_kind", "_law_low", "_law_size"] (sp__law_twos_right K T.C_Kind) := by
  have G_Kind_parts := ok_Kind_parts (P := P) (w := w) (base := base) T
  have G__law_next := ok__law_next (P := P) (w := w) (base := base) T
  have G__law_put := ok__law_put (P := P) (w := w) (base := base) T
  have G__law_wide := ok__law_wide (P := P) (w := w) (base := base) T
  have G_ring_lengths := ok_ring_lengths (P := P) (w := w) (base := base) T
  have G_ring_of := ok_ring_of (P := P) (w := w) (base := base) T
  have G_ring_values := ok_ring_values (P := P) (w := w) (base := base) T
  refine T.F__law_twos_right.ok sc__law_twos_right (fun vs H Q E h => ?_) (fun cdv A outer s H vs Q E hr h => ?_)
  · obtain ⟨p, kx, wd, s, rfl, _⟩ := h
    rfl
  · obtain ⟨p, kx, wd, s, rfl, h⟩ := h
    have hu := hu_of hr
    have hr_Kind_parts : Room 1 _ := hr.mono (by decide)
    have hr__law_next : Room 1 _ := hr.mono (by decide)
    have hr__law_put : Room 1 _ := hr.mono (by decide)
    have hr__law_wide : Room 2 _ := hr.mono (by decide)
    have hr_ring_lengths : Room 8 _ := hr.mono (by decide)
    have hr_ring_of : Room 9 _ := hr.mono (by decide)
    have hr_ring_values : Room 9 _ := hr.mono (by decide)
    refine ⟨_, (pss_cons (ps_set (i := 4) sc__law_twos_right.nd rfl (Or.inl rfl) (pe_ix (r := rIxT K) ix_tup (pe_meth0 (pv 1 (hv := Or.inl rfl)) T.cl_Kind T.m_Kind_parts G_Kind_parts hr_Kind_parts T.b_Kind_parts .nil pass0) pe_int (fun _ _ => rfl)))
      (pss_cons (ps_par rfl sc__law_twos_right.nd (i := 5) (j := 6) rfl rfl (by decide) rfl rfl (pa_cons (pe_op op_add pe_int (pe_call G__law_next hr__law_next rfl T.g__law_next T.k__law_next T.b__law_next .nil pass0 (pa_cons (pv 0 (hv := Or.inl rfl)) (pa_cons pe_int pa_nil)))) (pa_cons (pe_call G__law_next hr__law_next rfl T.g__law_next T.k__law_next T.b__law_next .nil pass0 (pa_cons (pv 0 (hv := Or.inl rfl)) (pa_cons (pv 4 (hv := Or.inl rfl)) pa_nil))) pa_nil)) (by rfl))
      (pss_cons (ps_if (pt_cmpR op_ge (pv 5 (hv := Or.inl rfl)) (pv 4 (hv := Or.inl rfl)) (nomark _)) (pss_one (ps_ret pe_bl)) pss_nil)
      (pss_cons (ps_par rfl sc__law_twos_right.nd (i := 7) (j := 8) rfl rfl (by decide) rfl rfl (pa_cons (pe_call G__law_put hr__law_put rfl T.g__law_put T.k__law_put T.b__law_put .nil pass0 (pa_cons (pe_op op_add (pe_op op_shl pe_int (pv 5 (hv := Or.inl rfl))) pe_int) (pa_cons (pv 2 (hv := Or.inl rfl)) (pa_cons (pv 3 (hv := Or.inl rfl)) pa_nil)))) (pa_cons (pe_call G__law_put hr__law_put rfl T.g__law_put T.k__law_put T.b__law_put .nil pass0 (pa_cons (pe_op op_shlW (pe_op op_add (pe_op op_mul pe_int (pe_call G__law_wide hr__law_wide rfl T.g__law_wide T.k__law_wide T.b__law_wide .nil pass0 (pa_cons (pv 0 (hv := Or.inl rfl)) (pa_cons (pv 3 (hv := Or.inl rfl)) pa_nil)))) pe_int) (pv 6 (hv := Or.inl rfl))) (pa_cons (pv 2 (hv := Or.inl rfl)) (pa_cons (pv 3 (hv := Or.inl rfl)) pa_nil)))) pa_nil)) (by rfl))
      (pss_cons (ps_set (i := 9) sc__law_twos_right.nd rfl (Or.inl rfl) (pe_callB (id := "min") (r := rmin2C) (call_min2 rfl) (by rfl) T.n_min (by decide +kernel) (pa_cons (pv 4 (hv := Or.inl rfl)) (pa_cons (pe_op op_add (pv 5 (hv := Or.inl rfl)) (pv 6 (hv := Or.inl rfl))) pa_nil))))
      (pss_cons (ps_if (PW.pt (pw_or (pt_cmpR (op_neD hr.units) (pe_call G_ring_of hr_ring_of rfl T.g_ring_of T.k_ring_of T.b_ring_of .nil pass0 (pa_cons (pv 1 (hv := Or.inl rfl)) (pa_cons (pe_tup (pa_cons (pv 7 (hv := Or.inl rfl)) (pa_cons pe_int pa_nil))) (pa_cons (pv 8 (hv := Or.inl rfl)) pa_nil)))) (pe_tup (pa_cons pe_int (pa_cons (pe_op op_shr (pv 3 (hv := Or.inl rfl)) (pv 9 (hv := Or.inl rfl))) pa_nil))) (nomark _)) (pw_or1 (pt_cmpR (op_neD hr.units) (pe_call G_ring_values hr_ring_values rfl T.g_ring_values T.k_ring_values T.b_ring_values .nil pass0 (pa_cons (pv 1 (hv := Or.inl rfl)) (pa_cons (pe_tup (pa_cons (pv 7 (hv := Or.inl rfl)) (pa_cons pe_int pa_nil))) (pa_cons (pv 8 (hv := Or.inl rfl)) pa_nil)))) (pe_lst (pa_cons (pe_tup (pa_cons (pe_op op_mod (pe_callTy (T := "int") (r := rIntC) call_int1 (by rfl) T.n_int (by decide +kernel) (pa_cons (pv 8 (hv := Or.inl rfl)) pa_nil)) (pe_op op_shl pe_int (pv 9 (hv := Or.inl rfl)))) (pa_cons (pv 9 (hv := Or.inl rfl)) pa_nil))) pa_nil)) (nomark _))))) (pss_one (ps_ret pe_bl)) pss_nil)
      (pss_cons (ps_set (i := 10) sc__law_twos_right.nd rfl (Or.inl rfl) pe_dnewK)
      (pss_cons (ps_for PassesOwn.never rfl (pi_range1 (by rfl) T.n_range (pa_cons (pe_op op_add (pv 4 (hv := Or.inl rfl)) pe_int) pa_nil)) (pg_name (i := 11) sc__law_twos_right.nd rfl (Or.inl rfl))
        (pss_cons (ps_set (i := 12) sc__law_twos_right.nd rfl (Or.inl rfl) (pe_op op_shr (pv 3 (hv := Or.inl rfl)) (pe_callB (id := "min") (r := rmin2C) (call_min2 rfl) (by rfl) T.n_min (by decide +kernel) (pa_cons (pv 4 (hv := Or.inl rfl)) (pa_cons (pe_op op_add (pv 5 (hv := Or.inl rfl)) (pv 11 (hv := Or.inl rfl))) pa_nil)))))
      (pss_cons (ps_set (i := 13) sc__law_twos_right.nd rfl (Or.inl rfl) (pe_ifExp (pt_cmpR op_eq (pv 11 (hv := Or.inl rfl)) (pv 4 (hv := Or.inl rfl)) (nomark _)) pe_int (pe_op op_shr (pv 3 (hv := Or.inl rfl)) (pe_op op_add (pv 11 (hv := Or.inl rfl)) pe_int))))
      (pss_one (ps_dput hu (pv 10 (hv := Or.inl rfl)) (pv 12 (hv := Or.inl rfl)) (pe_op op_add (pe_dget2 hu (pv 10 (hv := Or.inl rfl)) (pv 12 (hv := Or.inl rfl)) pe_int ⟨rfl, rfl, rfl, rfl⟩) (pv 13 (hv := Or.inl rfl))) rfl)))))
      (pss_one (ps_ret (pe_cmpR (op_eqD hr.units) (pe_call G_ring_lengths hr_ring_lengths rfl T.g_ring_lengths T.k_ring_lengths T.b_ring_lengths .nil pass0 (pa_cons (pv 1 (hv := Or.inl rfl)) (pa_cons (pe_tup (pa_cons (pv 7 (hv := Or.inl rfl)) (pa_cons pe_int pa_nil))) pa_nil))) (pe_callB (id := "sorted") (r := rSortedPO K) cr_sortedPO (by rfl) T.n_sorted (by decide +kernel) (pa_cons (pe_lock (pe_lc (own := [("_law_length", 12), ("_law_many", 13)]) (g := gTup K 2 (gCons (gName 12) (gCons (gName 13) gNil))) (tt := tYes) (by rfl) sc__law_twos_right.nd (pi_items (pv 10 (hv := Or.inl rfl))) (blkOk_by (own := [("_law_length", 12), ("_law_many", 13)]) (N := ["_law_source", "_law_kind", "_law_low", "_law_size", "_law_bits", "_law_k", "_law_j", "_law_a", "_law_x", "_law_deep", "_law_due", "_law_deep_here", "_law_length", "_law_many"]) (sc := defScope s__law_twos_right) (by decide +kernel)) (fun _ _ _ _ _ => (pg_tup rfl (pgs_cons (pg_name (i := 12) sc__law_twos_right.nd rfl (Or.inl rfl)) (pgs_cons (pg_name (i := 13) sc__law_twos_right.nd rfl (Or.inl rfl)) pgs_nil)))) (fun _ _ _ _ _ => pts_nil) (fun _ _ _ _ _ => (pe_tup (pa_cons (pv 12 (hv := Or.inl rfl)) (pa_cons (pe_op op_fdivW (pv 13 (hv := Or.inl rfl)) (pv 12 (hv := Or.inl rfl))) pa_nil)))))) pa_nil)) (nomark _)))))))))))), ?_⟩
    try dsimp only [cxOf, Cx.nox, Cx.wish, Cx.blk]
    rw [show L2.start ["_law_source", "_law_kind", "_law_low", "_law_size", "_law_bits", "_law_k", "_law_j", "_law_a", "_law_x", "_law_deep", "_law_due", "_law_deep_here", "_law_length", "_law_many"] [.ref p, .ref kx, .int (loK wd s), .int (2 ^ wd)] = [some (.ref p), some (.ref kx), some (.int (loK wd s)), some (.int (2 ^ wd)), none, none, none, none, none, none, none, none, none, none] from rfl]
    obtain ⟨hk, nk, hs, w1, w128, k⟩ := h
    have hp := p2 wd
    obtain ⟨⟨dx, e0⟩, _, _⟩ := id hk
    walk_at "rd"
    refine ⟨kx, dx, _, rfl, e0, nop_kf wd s, kx, wd, s, rfl, hk, fun qp hqp => ?_⟩
    have s12 := sm_new (o := .tup [.int (wd : Int), .bl s]) (Same.refl H) hqp
    have hqp' : (L2.upd H qp (.tup [.int (wd : Int), .bl s])) qp = some (.tup [.int (wd : Int), .bl s]) := upd_same
    generalize L2.upd H qp _ = H12 at s12 hqp' ⊢
    have hk12 := hk.same s12
    have hs12 := hs.same s12
    have kp12 := Kp.of_same (p := p) s12
    clear hk hs s12 e0
    walk_at "rd"
    refine ⟨p, 127, rfl, hs12, by decide, b9 (by decide), fun kz H1 k0 k1 kp1 hs1 => ?_⟩
    obtain ⟨k', rfl⟩ := Int.eq_ofNat_of_zero_le k0
    obtain ⟨kn, hkn⟩ : ∃ kn : Nat, (2 : Int) + (k' : Int) = (kn : Int) := ⟨2 + k', by omega⟩
    walk_at "rd"
    rw [hkn]
    refine ⟨p, (wd : Int), rfl, hs1, by omega, b9 (Nat.lt_of_lt_of_le (show _ < 2 ^ 8 by omega) (Nat.pow_le_pow_right (by decide) (by decide))), fun jz H2 j0 j1 kp2 hs2 => ?_⟩
    obtain ⟨jn, rfl⟩ := Int.eq_ofNat_of_zero_le j0
    walk_at "rd"
    refine w_dec (fun c0 => ?_) (fun c0 => ?_)
    · walk_at "rd"
      exact k _ (kp12.trans (kp1.trans kp2)) hs2
    walk_at "rd"
    refine w_I (cpow (n := 1) (by omega) (by decide)) ?_
    rw [Int.toNat_natCast, Int.one_mul]
    walk_at "rd"
    refine ⟨_, wd, s, rfl, ?_⟩
    obtain ⟨a, ha⟩ : ∃ a, a = wr wd s (2 ^ kn + 1) := ⟨_, rfl⟩
    rw [← ha]
    walk_at "rd"
    refine ⟨p, 2 ^ wd, rfl, hs2, hp, b129p w128, fun v H3 v0 v1 kp3 hs3 => ?_⟩
    walk_at "rd"
    have bv : (2 * v + 1).natAbs < 2 ^ 130 := by
      have := b129m w128 v
      rw [Int.emod_eq_of_lt v0 v1] at this
      omega
    refine w_I (shl_ok bv (by omega)) ?_
    rw [Int.toNat_natCast]
    walk_at "rd"
    refine ⟨_, wd, s, rfl, ?_⟩
    obtain ⟨x, hx⟩ : ∃ x, x = wr wd s ((2 * v + 1) * 2 ^ jn) := ⟨_, rfl⟩
    rw [← hx]
    walk_at "rd"
    refine w_min2 ?_
    rw [show min (wd : Int) ((kn : Int) + (jn : Int)) = ((min wd (kn + jn) : Nat) : Int) by omega]
    obtain ⟨ao, hb, hA, hE⟩ := tw_ac (show 2 ≤ kn by omega) (show kn < wd by omega) (show jn ≤ wd by omega) ha hx
    obtain ⟨dp, hdp⟩ : ∃ dp, dp = min wd (kn + jn) := ⟨_, rfl⟩
    rw [← hdp] at hE ⊢
    have hdw : dp ≤ wd := by omega
    have ia : Iv wd s a := by rw [ha]; exact Iv.wr
    have ix : Iv wd s x := by rw [hx]; exact Iv.wr
    have i0 : Iv wd s 0 := iv_0 w1
    have hk3 := hk12.kp hs12 (kp1.trans (kp2.trans kp3))
    have kp3 := kp12.trans (kp1.trans (kp2.trans kp3))
    clear hs12 hs1 hs2 kp1 kp2 hk12 kp12 hqp'
    walk_at "rd"
    refine ⟨by show 2 ≤ sizeLine; decide, fun t1 ht1 => ?_⟩
    have s6 := sm_new (o := .tup [.int a, .int 0]) (Same.refl H3) ht1
    walk_at "rd"
    refine use_ro_twos (hk3.same s6) upd_same ia i0 ix ao hb hE (fun t4 H7 s7 h4 => ?_)
    have s7 := s6.trans s7
    walk_at "rd"
    refine w_I (Int.natCast_nonneg _) ?_
    rw [Int.toNat_natCast, p2divT hdw]
    walk_at "rd"
    refine ⟨by show 2 ≤ sizeLine; decide, fun u3 hu3 => ?_⟩
    refine w_neDg (dp_pair (gn h4 hu3)) (dp_pair upd_same) (sh_pair _ _) (sh_pair _ _) ?_
    rw [eqv_pair]
    have s8 := sm_new (o := .tup [.int 0, .int (2 ^ (wd - dp))]) s7 hu3
    generalize L2.upd H7 u3 _ = H8 at s8 ⊢
    clear h4 s7 hu3 s6 ht1
    walk_at "rd"
    refine iteF ?_
    walk_at "rd"
    refine ⟨by show 2 ≤ sizeLine; decide, fun t5 ht5 => ?_⟩
    have s9 := sm_new (o := .tup [.int a, .int 0]) s8 ht5
    walk_at "rd"
    refine use_rv_twos (hk3.same s9) upd_same ia i0 ix ao hb hE (fun t6 out6 H10 s10 h6 r6 => ?_)
    have s10 := s9.trans s10
    walk_at "rd"
    refine w_I (cpow (n := 1) (by omega) (by decide)) ?_
    rw [Int.toNat_natCast, Int.one_mul]
    walk_at "rd"
    refine w_I (p2 dp) ?_
    walk_at "rd"
    refine ⟨by show 2 ≤ sizeLine; decide, fun u4 hu4 => ?_⟩
    walk_at "rd"
    refine ⟨by show 1 ≤ sizeLine; decide, fun u5 hu5 => ?_⟩
    have s11 := sm_new (o := .lst [.ref u4]) (sm_new (o := .tup [.int (x % 2 ^ dp), .int (dp : Int)]) (Same.refl H10) hu4) hu5
    refine w_neRow (s11 _ _ h6) (r6.same s11) upd_same (.cons (gn upd_same hu5) .nil) ?_
    have s11 := s10.trans s11
    generalize L2.upd (L2.upd H10 u4 _) u5 _ = H11 at s11 ⊢
    clear h6 r6 s10 hu4 hu5 s9 ht5 s8
    walk_at "rd"
    refine iteF ?_
    walk_at "rd"
    refine fun D hD => ?_
    walk_at "rd"
    refine ⟨_, rfl, by omega, by omega, ?_⟩
    rw [show ((wd : Int) + 1).toNat = wd + 1 by omega]
    refine for_range (lo := 0) (n := wd + 1) (fun t σ H' => (∃ v11 v12 v13 : Option V, σ = [some (.ref p), some (.ref kx), some (.int (loK wd s)), some (.int (2 ^ wd)), some (.int (wd : Int)), some (.int (kn : Int)), some (.int (jn : Int)), some (.int a), some (.int x), some (.int (dp : Int)), some (.ref D), v11, v12, v13]) ∧ Same H11 H' ∧ ∃ fl, H' D = some (.dK (kvF fl)) ∧ DictP fl (Dfun (fTw wd kn) t) ∧ fl.length ≤ t)
      ⟨⟨_, _, _, rfl⟩, sm_new (Same.refl H11) hD, [], upd_same, DictP.nil, Nat.le_refl _⟩ ?_ ?_
    · rintro t σ H' ht ⟨⟨v11, v12, v13, rfl⟩, sm, fl, hfl, dp', hl⟩
      walk_at "rd"
      refine w_min2 ?_
      rw [show min (wd : Int) ((kn : Int) + (0 + (t : Int))) = ((min wd (kn + t) : Nat) : Int) by omega]
      walk_at "rd"
      refine w_I (Int.natCast_nonneg _) ?_
      rw [Int.toNat_natCast, p2divT (Nat.min_le_left _ _)]
      walk_at "rd"
      refine w_ifJ (fun v H'' => v = .int ((if t = wd then 1 else 2 ^ (wd - (t + 1)) : Nat) : Int) ∧ H' = H'') (fun Q hQ => ?_) ?_
      · refine w_if ?_
        walk_at "rd"
        refine w_dec (fun c => ?_) (fun c => ?_)
        · walk_at "rd"
          exact hQ _ _ ⟨by rw [if_pos (by omega)]; rfl, rfl⟩
        · walk_at "rd"
          refine w_I (by omega) ?_
          rw [show ((0 : Int) + (t : Int) + 1).toNat = t + 1 by omega, p2divT (show t + 1 ≤ wd by omega)]
          exact hQ _ _ ⟨by rw [if_neg (by omega), Int.natCast_pow]; rfl, rfl⟩
      rintro v _ ⟨rfl, rfl⟩
      dsimp only
      refine w_dputI ?_
      walk_at "rd"
      refine w_dgetI ?_
      walk_at "rd"
      refine ⟨isD_k hfl, ?_⟩
      walk_at "rd"
      refine ⟨_, DGet.k (k := Sum.inl ((2 : Int) ^ (wd - min wd (kn + t)))) hfl, ?_⟩
      rw [dp'.val]
      have e0 : 0 < (if t = wd then 1 else 2 ^ (wd - (t + 1))) := by
        split
        · decide
        · exact Nat.two_pow_pos _
      obtain ⟨fl', h1, h2, h3⟩ := dp'.put (wd - min wd (kn + t)) e0
      walk_at "rd"
      refine ⟨D, _, rfl, DPut.k (k := Sum.inl ((2 : Int) ^ (wd - min wd (kn + t)))) hfl (by rw [List.length_map]; exact Nat.lt_of_le_of_lt hl (Nat.lt_of_lt_of_le (show t < 200 by omega) (by decide))), ?_⟩
      rw [← Int.natCast_add, h1]
      exact ⟨⟨_, _, _, rfl⟩, sm_mut sm hD, fl', upd_same, h2, by omega⟩
    rintro σ H9 ⟨⟨v11, v12, v13, rfl⟩, sm, fl, hfl, dp', hl⟩
    have s9 := s11.trans sm
    have hD3 : H3 D = none := by
      cases z : H3 D with
      | none => rfl
      | some o =>
        have := s11 _ _ z
        rw [hD] at this; cases this
    clear s11 sm hD
    walk_at "rd"
    refine ⟨by show 2 ≤ sizeLine; decide, fun t7 ht7 => ?_⟩
    have s10 := sm_new (o := .tup [.int a, .int 0]) (Same.refl H9) ht7
    walk_at "rd"
    refine use_rl_twos (hk3.same (s9.trans s10)) upd_same ia i0 rfl (fun t8 out8 H12 s12 h8 r8 => ?_)
    have s12 := s10.trans s12
    have hfl := s12 _ _ hfl
    have s12 := s9.trans s12
    walk_at "rd"
    refine w_lock hfl (fun od => ?_)
    walk_at "rd"
    refine w_iItems ?_
    walk_at "rd"
    have neD : ∀ b o, b ≠ D → H12 b = some o → (L2.upd H12 D (.frz od (.dK (kvF fl)))) b = some o := fun b o n e => by rw [upd_ne n]; exact e
    refine ⟨D, od, _, rfl, upd_same, fun L hL => lc_it walk_items (fun j H' => (∀ b o, b ≠ D → H12 b = some o → H' b = some o) ∧ H' D = some (.frz od (.dK (kvF fl))) ∧ ∃ os, H' L = some (.lst os) ∧ PRow H' os ((fl.take j).map fun p => (p.1, p.2 / p.1.toNat))) ?_ ?_ ?_ ?_⟩
    · exact ⟨fun b o n e => gn (neD b o n e) hL, gn upd_same hL, [], upd_same, by rw [List.take_zero]; exact .nil⟩
    · exact fun i H' _ q => q.2.1
    · rintro i x1 Hc Hn hi ⟨q1, q2, os, q3, q4⟩ ⟨T, kv, vv, rfl, hT, rfl, e1, e2⟩
      obtain ⟨pp, hpp, rfl, rfl⟩ := itemsF e1 e2
      have nLD : L ≠ D := fun z => by rw [z, upd_same] at hL; cases hL
      have hL' : H12 L = none := by rw [upd_ne nLD] at hL; exact hL
      obtain ⟨i', rfl, d0⟩ := dp'.of _ (List.mem_of_getElem? hpp)
      have il' : i' ≤ wd := Nat.le_of_not_lt fun z => by
        have := (twFin (show 2 ≤ kn by omega) (show kn < wd by omega)).1 i' z
        omega
      have bp : ((2 : Int) ^ i').natAbs < 2 ^ 200 := by
        rw [Int.natAbs_pow]; exact Nat.pow_lt_pow_right (by decide) (by omega)
      walk_at "rd"
      refine ⟨rfl, ?_⟩
      walk_at "rd"
      refine iteT ?_
      walk_at "rd"
      refine w_I (wide_div (b := 200) (p2 i') bp (by decide) (by decide)) ?_
      walk_at "rd"
      refine ⟨by show 2 ≤ sizeLine; decide, fun T2 hT2 => ?_⟩
      have ol : os.length ≤ i := by rw [q4.len, List.length_map, List.length_take]; exact Nat.min_le_left _ _
      have fl200 : fl.length < 200 := by omega
      have il : i < fl.length := (List.getElem?_eq_some_iff.mp hpp).1
      refine ⟨os, gn (gn q3 hT) hT2, Nat.lt_of_lt_of_le (show os.length < 200 by omega) (by decide), ?_, ?_, os ++ [.ref T2], upd_same, ?_⟩
      · intro b o n e
        rw [upd_ne (ne_of_none e hL')]
        exact gn (gn (q1 b o n e) hT) hT2
      · rw [upd_ne nLD.symm]
        exact gn (gn q2 hT) hT2
      · have nT2 : T2 ≠ L := fun z => by
          rw [z, gn q3 hT] at hT2; cases hT2
        have ev : (((Dfun (fTw wd kn) (wd + 1) i' : Nat) : Int) / 2 ^ i') = ((Dfun (fTw wd kn) (wd + 1) i' / ((2 : Int) ^ i').toNat : Nat) : Int) := by
          rw [Int.natCast_ediv, Int.toNat_of_nonneg (Int.le_of_lt (p2 i'))]
        rw [List.take_add_one, hpp]
        show PRow _ _ (List.map _ (List.take i fl ++ [_]))
        rw [List.map_append]
        refine PRow.add (q4.keep fun q f e h => ?_) ?_
        · rw [upd_ne (ne_of h q3 (by intro z; cases z))]
          exact gn (gn h hT) hT2
        · rw [upd_ne nT2, upd_same, ev]
    rintro H13 ⟨q1, q2, os, q3, q4⟩
    have nLD : L ≠ D := fun z => by rw [z, upd_same] at hL; cases hL
    rw [List.length_map, List.take_of_length_le (Nat.le_refl _)] at q4
    refine ⟨q2, ?_⟩
    have h13 : (L2.upd H13 D (.dK (kvF fl))) L = some (.lst os) := by rw [upd_ne nLD]; exact q3
    have r13 : PRow (L2.upd H13 D (.dK (kvF fl))) os (fl.map fun p => (p.1, p.2 / p.1.toNat)) := q4.keep fun q f e h => by
      rw [upd_ne (ne_of h q2 (by intro z; cases z))]; exact h
    have s13 : ∀ b o, b ≠ D → H12 b = some o → (L2.upd H13 D (.dK (kvF fl))) b = some o := fun b o n e => by rw [upd_ne n]; exact q1 b o n e
    walk_at "rd"
    refine w_sortAny h13 r13 (by rw [List.map_map]; exact dp'.nd) (fun l ys gl gs gm gr hl' => ?_)
    obtain ⟨tw1, tw2⟩ := twFin (show 2 ≤ kn by omega) (show kn < wd by omega)
    rw [dp'.fin2 (U := Un wd kn 1 wd) (w := wd) gs gm tw1 tw2] at gr
    rw [tw_U ao hb hA] at r8
    have nt8 : t8 ≠ D := ne_of h8 hfl (by intro z; cases z)
    refine w_eqRow (gn (s13 _ _ nt8 h8) hl') (r8.keep fun q f e h => gn (s13 _ _ (ne_of h hfl (by intro z; cases z)) h) hl') upd_same (gr.keep fun q f e h => gn h hl') ?_
    have sF : Same H3 (L2.upd (L2.upd H13 D (.dK (kvF fl))) l (.lst ys)) := fun b o e => gn (s13 _ _ (ne_of_none e hD3) (s12 _ _ e)) hl'
    exact k _ (kp3.trans (Kp.of_same (p := p) sF)) (hs3.same sF)

section
variable {K : PySem.W.Frag} {C p t : Addr} {H : Hp} {Q : VK} {E : XK} {wd : Nat} {s : Bool} {a c x : Int}
theorem use_rl_any (hk : Kd C H p wd s) (ht : H t = some (.tup [.int a, .int c])) (ia : Iv wd s a) (ic : Iv wd s c) {gl : FL} (e : rlR (Uc wd a c) (wd + 1) = gl) (q : ∀ t out H', Same H H' → H' t = some (.lst out) → PRow H' out gl → Q (.ref t) H') : sp_ring_lengths K C [.ref p, .ref t] H Q E :=
  ⟨p, t, a, c, wd, s, rfl, hk, ht, ia, ic, fun t out H' h1 h2 h3 => q t out H' h3 h1 (by rw [← e]; exact h2)⟩
end

theorem p2divA {w k : Nat} (h : k ≤ w) : (2 : Int) ^ w / 2 ^ k = 2 ^ (w - k) := by
  rw [show (2 : Int) ^ w = 2 ^ (w - k) * 2 ^ k by rw [← Int.pow_add, Nat.sub_add_cancel h]]
  exact Int.mul_ediv_cancel _ (Int.ne_of_gt (gpos k))
def pwR (sg : Bool) (x w d : Nat) : Nat := if sg = true ∧ 0 < w - d then max 1 (w - d + 1 - x) else w - d
def fR (sg : Bool) (x w : Nat) (rl : FL) : Nat → Nat × Nat := fun j => match rl[j]? with
  | some p => (pwR sg x w p.1.toNat, p.2 / 2 ^ pwR sg x w p.1.toNat)
  | none => (0, 0)
theorem fR_at {sg : Bool} {x w : Nat} {rl : FL} {j : Nat} {p : Int × Nat} (h : rl[j]? = some p) : fR sg x w rl j = (pwR sg x w p.1.toNat, p.2 / 2 ^ pwR sg x w p.1.toNat) := by unfold fR; rw [h]
def rowsR (w f : Nat) : FL := (List.range (w - f)).map (fun j => (((f + j : Nat) : Int), 2 ^ (w - (j + 1)))) ++ [((w : Int), 2 ^ f)]
theorem rowsR_len {w f : Nat} : (rowsR w f).length = w - f + 1 := by unfold rowsR; rw [List.length_append, List.length_map, List.length_range]; rfl
theorem rowsR_lo {w f j : Nat} (h : j < w - f) : (rowsR w f)[j]? = some (((f + j : Nat) : Int), 2 ^ (w - (j + 1))) := by
  unfold rowsR
  rw [List.getElem?_append_left (by rw [List.length_map, List.length_range]; exact h), List.getElem?_map, List.getElem?_range h]; rfl
theorem rowsR_hi {w f : Nat} : (rowsR w f)[w - f]? = some ((w : Int), 2 ^ f) := by
  unfold rowsR
  rw [List.getElem?_append_right (by rw [List.length_map, List.length_range]; exact Nat.le_refl _), List.length_map, List.length_range, Nat.sub_self]; rfl
structure RowsOk (sg : Bool) (x w : Nat) (U : Nat → Nat) (rl : FL) : Prop where
  len : rl.length ≤ 200
  bd : ∀ p ∈ rl, 0 ≤ p.1 ∧ p.1 ≤ (w : Int)
  pos : ∀ j, j < rl.length → 0 < (fR sg x w rl j).2
  fin : (∀ i, w < i → Dfun (fR sg x w rl) rl.length i = 0) ∧ ∀ i, i ≤ w → Dfun (fR sg x w rl) rl.length i * 2 ^ i + prevU U i = U i
theorem rowsR_bd {w f : Nat} (fw : f ≤ w) : ∀ p ∈ rowsR w f, 0 ≤ p.1 ∧ p.1 ≤ (w : Int) := fun p hp => by
  unfold rowsR at hp
  rcases List.mem_append.mp hp with hp | hp
  · obtain ⟨j, hj, rfl⟩ := List.mem_map.mp hp
    have := List.mem_range.mp hj
    dsimp only; omega
  · rw [List.mem_singleton.mp hp]; dsimp only; omega
theorem rows_pl {x w z : Nat} (x1 : 1 ≤ x) (xw : x ≤ w) (w1 : w ≤ 128) (xz : x ≤ z) : RowsOk false x w (Un w x 1 z) (rowsR w x) := by
  have e : ∀ j, j < w - x + 1 → fR false x w (rowsR w x) j = fPl w x j := fun j hj => by
    by_cases c : j < w - x
    · rw [fR_at (rowsR_lo c), Int.toNat_natCast]
      unfold pwR fPl
      rw [if_neg (by intro z; cases z.1), if_pos c, Nat.pow_div (by omega) (by decide), show w - (x + j) = w - x - j by omega, show w - (j + 1) - (w - x - j) = x - 1 by omega]
    · obtain rfl : j = w - x := by omega
      rw [fR_at rowsR_hi, Int.toNat_natCast]
      unfold pwR fPl
      rw [if_neg (by intro z; cases z.1), if_neg c, Nat.sub_self, Nat.pow_zero, Nat.div_one]
  have l := rowsR_len (w := w) (f := x)
  refine ⟨by omega, rowsR_bd xw, fun j hj => ?_, ?_⟩
  · rw [e j (by omega)]
    unfold fPl
    split <;> exact Nat.two_pow_pos _
  · have := plFin x1 xw xz
    rw [l]
    refine ⟨fun i hi => ?_, fun i hi => ?_⟩
    · rw [Dfun_congr i _ e]; exact this.1 i hi
    · rw [Dfun_congr i _ e]; exact this.2 i hi
theorem rows_mi {x w z : Nat} (x2 : 2 ≤ x) (xw : x ≤ w) (w1 : w ≤ 128) (z1 : 1 ≤ z) : RowsOk true x w (Un w 1 x z) (rowsR w 1) := by
  have e : ∀ j, j < w → fR true x w (rowsR w 1) j = fMi w x j := fun j hj => by
    by_cases c : j < w - 1
    · rw [fR_at (rowsR_lo c), Int.toNat_natCast]
      unfold pwR fMi
      rw [if_pos ⟨rfl, by omega⟩, if_pos c, show w - (1 + j) = w - 1 - j by omega, show w - (j + 1) = w - 1 - j by omega, Nat.pow_div (by omega) (by decide)]
    · obtain rfl : j = w - 1 := by omega
      rw [fR_at rowsR_hi, Int.toNat_natCast]
      unfold pwR fMi
      rw [if_neg (by intro z; have := z.2; omega), if_neg c, Nat.sub_self, Nat.pow_zero, Nat.div_one]
  have l : (rowsR w 1).length = w := by rw [rowsR_len]; omega
  refine ⟨by omega, rowsR_bd (by omega), fun j hj => ?_, ?_⟩
  · rw [e j (by omega)]
    unfold fMi
    split
    · exact Nat.two_pow_pos _
    · decide
  · have := miFin x2 xw (by omega) z1
    rw [l]
    refine ⟨fun i hi => ?_, fun i hi => ?_⟩
    · rw [Dfun_congr i _ e]; exact this.1 i hi
    · rw [Dfun_congr i _ e]; exact this.2 i hi
theorem rows_one {sg : Bool} {x w d m : Nat} {U : Nat → Nat} (dw : d ≤ w) (hm : pwR sg x w d = m) (mw : m ≤ w) (h0 : ∀ i, i < m → U i = 0) (h1 : ∀ i, m ≤ i → i ≤ w → U i = 2 ^ w) : RowsOk sg x w U [((d : Int), 2 ^ w)] := by
  have e : fR sg x w [((d : Int), 2 ^ w)] 0 = (m, 2 ^ (w - m)) := by
    rw [fR_at (p := ((d : Int), 2 ^ w)) rfl, Int.toNat_natCast, hm, Nat.pow_div mw (by decide)]
  refine ⟨by show 1 ≤ 200; decide, fun p hp => ?_, fun j hj => ?_, oneFin e mw h0 h1⟩
  · rw [List.mem_singleton.mp hp]; dsimp only; omega
  · obtain rfl : j = 0 := by
      have : j < 1 := hj
      omega
    rw [e]; exact Nat.two_pow_pos _
theorem Un0A {w x y z : Nat} : Un w x y z 0 = if x ≤ z then 2 ^ x else 0 := rfl
theorem Un1A {w x y z j : Nat} : Un w x y z (j + 1) = if min w (x + y + j) ≤ min w (y + z + j) then 2 ^ min w (x + y + j) else 0 := rfl
theorem rows_opl {x w z : Nat} (xw : x ≤ w) (zx : z < x) : RowsOk false x w (Un w x 1 z) [((z : Int), 2 ^ w)] := by
  refine rows_one (m := w - z) (by omega) (by unfold pwR; rw [if_neg (by intro z; cases z.1)]) (by omega) (fun i hi => ?_) (fun i hi hi' => ?_)
  · cases i with
    | zero => rw [Un0A, if_neg (by omega)]
    | succ j => rw [Un1A, if_neg (by omega)]
  · cases i with
    | zero => omega
    | succ j => rw [Un1A, if_pos (by omega), Nat.min_eq_left (by omega)]
theorem rows_omi {x w : Nat} (x2 : 2 ≤ x) (xw : x ≤ w) : RowsOk true x w (Un w 1 x 0) [(((0 : Nat) : Int), 2 ^ w)] := by
  refine rows_one (m := max 1 (w + 1 - x)) (by omega) (by unfold pwR; rw [if_pos ⟨rfl, by omega⟩, Nat.sub_zero]) (by omega) (fun i hi => ?_) (fun i hi hi' => ?_)
  · cases i with
    | zero => rw [Un0A, if_neg (by omega)]
    | succ j => rw [Un1A, if_neg (by omega)]
  · cases i with
    | zero => omega
    | succ j => rw [Un1A, if_pos (by omega), Nat.min_eq_left (by omega)]
theorem gv_sh (w k : Nat) (v : Int) : gv w ((2 * v + 1) * 2 ^ k) = min w k := by
  by_cases h : k ≤ w
  · rw [gv_val (a := v) (Int.mul_comm _ _) h]; omega
  · rw [gv_full.mp (Int.dvd_mul_of_dvd_right (gpp (by omega)))]; omega
theorem w_andB {c : Prop} [Decidable c] {tt : TT} {F : Bool → Hp → Prop} {b : Bool} {σ : L2.St} {H : Hp} (h1 : c → ∀ F' : Bool → Hp → Prop, F' b H → tt σ H F') (h2 : ¬ c → b = false) (q : F b H) : if decide c = true then tt σ H F else F false H := by
  by_cases hc : c
  · rw [decide_eq_true hc, if_pos rfl]; exact h1 hc F q
  · rw [decide_eq_false hc, if_neg Bool.false_ne_true, ← h2 hc]; exact q
theorem any_rows {w x z f : Nat} {U : Nat → Nat} {e : Int} (x2 : 2 ≤ x) (xw : x ≤ w) (w1 : w ≤ 128) (he : e = 1 ∨ e = -1) (hf : f = if e = 1 then x else 1) (hU : U = if e = 1 then Un w x 1 z else Un w 1 x z) :
    ∃ sg : Bool, (sg = true ↔ e < 0) ∧ (f ≤ z → RowsOk sg x w U (rowsR w f)) ∧ (z < f → RowsOk sg x w U [((z : Int), 2 ^ w)]) := by
  rcases he with rfl | rfl
  · rw [if_pos rfl] at hf hU
    subst hf hU
    exact ⟨false, by decide, fun h => rows_pl (by omega) xw w1 h, fun h => rows_opl xw h⟩
  · rw [if_neg (by decide)] at hf hU
    subst hf hU
    refine ⟨true, by decide, fun h => rows_mi x2 xw w1 h, fun h => ?_⟩
    obtain rfl : z = 0 := by omega
    exact rows_omi x2 xw
/-- what the law draws: the sign, the twos of a and of c -/
theorem any_ac {w k h : Nat} {s : Bool} {a c u v e : Int} (w3 : 3 ≤ w) (k2 : 2 ≤ k) (hw : h ≤ w) (he : e = 1 ∨ e = -1) (ha : a = wr w s (e + (2 * u + 1) * 2 ^ k)) (hc : c = wr w s ((2 * v + 1) * 2 ^ h)) :
    Uc w a c = if e = 1 then Un w (min w k) 1 h else Un w 1 (min w k) h := by
  have h1 := dvd_wr w s (e + (2 * u + 1) * 2 ^ k)
  have h2 := dvd_wr w s ((2 * v + 1) * 2 ^ h)
  rw [← ha] at h1
  rw [← hc] at h2
  have hC : gv w c = h := by rw [gv_cong h2, gv_sh]; omega
  have g1 := Int.dvd_trans (gpp (show 2 ≤ w by omega)) h1
  have g2 : (2 : Int) ^ 2 ∣ (2 * u + 1) * 2 ^ k := Int.dvd_mul_of_dvd_right (gpp k2)
  rw [show (2 : Int) ^ 2 = 4 from rfl] at g1 g2
  have g0 : gv w (a - e) = min w k := by
    rw [gv_cong (y := (2 * u + 1) * 2 ^ k) (by rw [show a - e - (2 * u + 1) * 2 ^ k = a - (e + (2 * u + 1) * 2 ^ k) by omega]; exact h1), gv_sh]
  generalize (2 * u + 1) * 2 ^ k = z at g1 g2
  funext i
  rcases he with rfl | rfl
  · rw [Uc_un (by omega), if_pos rfl, hC, g0, gv_2odd (n := a + 1) (k := a / 4) (by omega), show min w 1 = 1 by omega]
  · rw [Uc_un (by omega), if_neg (by decide), hC, show a + 1 = a - -1 by omega, g0, gv_2odd (n := a - 1) (k := a / 4) (by omega), show min w 1 = 1 by omega]
def sp__law_any_right (K : PySem.W.Frag) (C : Addr) : Sp := fun vs H Q _ => ∃ (p kx : Addr) (wd : Nat) (s : Bool), vs = [.ref p, .ref kx, .int (loK wd s), .int (2 ^ wd)] ∧ Kd C H kx wd s ∧ kx ≠ p ∧ SrcAt H p ∧ 3 ≤ wd ∧ wd ≤ 128 ∧ ∀ H', Kp p H H' → SrcAt H' p → Q (.bl true) H'
theorem ok__law_any_right {P : Program} {w : World} {K : PySem.W.Frag} {mg : Str → Option Value} {base : Heap} (T : Txt K mg) : FnOk P w K mg base CX0 9 T.f__law_any_right T.fd__law_any_right ["_law_source", "_law_kind", "_law_low", "_law_size"] (sp__law_any_right K T.C_Kind) := by
  have G_Kind_parts := ok_Kind_parts (P := P) (w := w) (base := base) T
  have G__law_next := ok__law_next (P := P) (w := w) (base := base) T
  have G__law_one := ok__law_one (P := P) (w := w) (base := base) T
  have G__law_put := ok__law_put (P := P) (w := w) (base := base) T
  have G__law_wide := ok__law_wide (P := P) (w := w) (base := base) T
  have G_ring_lengths := ok_ring_lengths (P := P) (w := w) (base := base) T
  refine T.F__law_any_right.ok sc__law_any_right (fun vs H Q E h => ?_) (fun cdv A outer s H vs Q E hr h => ?_)
  · obtain ⟨p, kx, wd, s, rfl, _⟩ := h
    rfl
  · obtain ⟨p, kx, wd, s, rfl, h⟩ := h
    have hu := hu_of hr
    have hr_Kind_parts : Room 1 _ := hr.mono (by decide)
    have hr__law_next : Room 1 _ := hr.mono (by decide)
    have hr__law_one : Room 2 _ := hr.mono (by decide)
    have hr__law_put : Room 1 _ := hr.mono (by decide)
    have hr__law_wide : Room 2 _ := hr.mono (by decide)
    have hr_ring_lengths : Room 8 _ := hr.mono (by decide)
    refine ⟨_, (pss_cons (ps_par rfl sc__law_any_right.nd (i := 4) (j := 5) rfl rfl (by decide) rfl rfl (pa_cons (pe_ix (r := rIxT K) ix_tup (pe_meth0 (pv 1 (hv := Or.inl rfl)) T.cl_Kind T.m_Kind_parts G_Kind_parts hr_Kind_parts T.b_Kind_parts .nil pass0) pe_int (fun _ _ => rfl)) (pa_cons (pe_call G__law_one hr__law_one rfl T.g__law_one T.k__law_one T.b__law_one .nil pass0 (pa_cons (pv 0 (hv := Or.inl rfl)) (pa_cons (pe_lst (pa_cons pe_int (pa_cons (pe_un un_neg pe_int) pa_nil))) pa_nil))) pa_nil)) (by rfl))
      (pss_cons (ps_par rfl sc__law_any_right.nd (i := 6) (j := 7) rfl rfl (by decide) rfl rfl (pa_cons (pe_op op_add pe_int (pe_call G__law_next hr__law_next rfl T.g__law_next T.k__law_next T.b__law_next .nil pass0 (pa_cons (pv 0 (hv := Or.inl rfl)) (pa_cons (pv 4 (hv := Or.inl rfl)) pa_nil)))) (pa_cons (pe_call G__law_next hr__law_next rfl T.g__law_next T.k__law_next T.b__law_next .nil pass0 (pa_cons (pv 0 (hv := Or.inl rfl)) (pa_cons (pe_op op_add (pv 4 (hv := Or.inl rfl)) pe_int) pa_nil))) pa_nil)) (by rfl))
      (pss_cons (ps_set (i := 8) sc__law_any_right.nd rfl (Or.inl rfl) (pe_call G__law_put hr__law_put rfl T.g__law_put T.k__law_put T.b__law_put .nil pass0 (pa_cons (pe_op op_add (pv 5 (hv := Or.inl rfl)) (pe_op op_shlW (pe_op op_add (pe_op op_mul pe_int (pe_call G__law_wide hr__law_wide rfl T.g__law_wide T.k__law_wide T.b__law_wide .nil pass0 (pa_cons (pv 0 (hv := Or.inl rfl)) (pa_cons (pv 3 (hv := Or.inr (Or.inl rfl))) pa_nil)))) pe_int) (pv 6 (hv := Or.inl rfl)))) (pa_cons (pv 2 (hv := Or.inl rfl)) (pa_cons (pv 3 (hv := Or.inr (Or.inl rfl))) pa_nil)))))
      (pss_cons (ps_set (i := 9) sc__law_any_right.nd rfl (Or.inl rfl) (pe_call G__law_put hr__law_put rfl T.g__law_put T.k__law_put T.b__law_put .nil pass0 (pa_cons (pe_op op_shlW (pe_op op_add (pe_op op_mul pe_int (pe_call G__law_wide hr__law_wide rfl T.g__law_wide T.k__law_wide T.b__law_wide .nil pass0 (pa_cons (pv 0 (hv := Or.inl rfl)) (pa_cons (pv 3 (hv := Or.inr (Or.inl rfl))) pa_nil)))) pe_int) (pv 7 (hv := Or.inl rfl))) (pa_cons (pv 2 (hv := Or.inl rfl)) (pa_cons (pv 3 (hv := Or.inr (Or.inl rfl))) pa_nil)))))
      (pss_cons (ps_asg (pe_tup (pa_cons (pe_ifExp (pt_cmpR op_eq (pv 5 (hv := Or.inl rfl)) pe_int (nomark _)) (pe_callB (id := "min") (r := rmin2C) (call_min2 rfl) (by rfl) T.n_min (by decide +kernel) (pa_cons (pv 6 (hv := Or.inl rfl)) (pa_cons (pv 4 (hv := Or.inl rfl)) pa_nil))) pe_int) (pa_cons (pe_callB (id := "min") (r := rmin2C) (call_min2 rfl) (by rfl) T.n_min (by decide +kernel) (pa_cons (pv 6 (hv := Or.inl rfl)) (pa_cons (pv 4 (hv := Or.inl rfl)) pa_nil))) (pa_cons pe_dnewK pa_nil)))) (pg_tup rfl (pgs_cons (pg_name (i := 10) sc__law_any_right.nd rfl (Or.inr rfl)) (pgs_cons (pg_name (i := 11) sc__law_any_right.nd rfl (Or.inl rfl)) (pgs_cons (pg_name (i := 12) sc__law_any_right.nd rfl (Or.inl rfl)) pgs_nil)))))
      (pss_cons (ps_set (i := 13) sc__law_any_right.nd rfl (Or.inl rfl) (pe_op op_cat (pe_lc (own := [("_law_some", 14)]) (g := gName 14) (tt := tYes) (by rfl) sc__law_any_right.nd (pi_range2 (by rfl) T.n_range (pa_cons (pv 10 (hv := Or.inr (Or.inl rfl))) (pa_cons (pv 4 (hv := Or.inl rfl)) pa_nil))) (blkOk_by (own := [("_law_some", 14)]) (N := ["_law_source", "_law_kind", "_law_low", "_law_size", "_law_bits", "_law_sign", "_law_k", "_law_shift", "_law_a", "_law_c", "_law_first", "_law_further", "_law_due", "_law_rows", "_law_some", "_law_deep_here", "_law_many", "_law_power"]) (sc := defScope s__law_any_right) (by decide +kernel)) (fun _ _ _ _ _ => (pg_name (i := 14) sc__law_any_right.nd rfl (Or.inl rfl))) (fun _ _ _ _ _ => pts_nil) (fun _ _ _ _ _ => (pe_tup (pa_cons (pv 14 (hv := Or.inl rfl)) (pa_cons (pe_op op_shr (pv 3 (hv := Or.inr (Or.inl rfl))) (pe_op op_add (pe_op op_sub (pv 14 (hv := Or.inl rfl)) (pv 10 (hv := Or.inr (Or.inl rfl)))) pe_int)) pa_nil))))) (pe_lst (pa_cons (pe_tup (pa_cons (pv 4 (hv := Or.inl rfl)) (pa_cons (pe_op op_shl pe_int (pv 10 (hv := Or.inr (Or.inl rfl)))) pa_nil))) pa_nil))))
      (pss_cons (ps_for PassesOwn.never rfl (pi_list (pe_ifExp (pt_cmpR op_ge (pv 7 (hv := Or.inl rfl)) (pv 10 (hv := Or.inr (Or.inl rfl))) (nomark _)) (pv 13 (hv := Or.inl rfl)) (pe_lst (pa_cons (pe_tup (pa_cons (pv 7 (hv := Or.inl rfl)) (pa_cons (pv 3 (hv := Or.inr (Or.inl rfl))) pa_nil))) pa_nil)))) (pg_tup rfl (pgs_cons (pg_name (i := 15) sc__law_any_right.nd rfl (Or.inl rfl)) (pgs_cons (pg_name (i := 16) sc__law_any_right.nd rfl (Or.inl rfl)) pgs_nil)))
        (pss_cons (ps_set (i := 17) sc__law_any_right.nd rfl (Or.inl rfl) (pe_op op_sub (pv 4 (hv := Or.inl rfl)) (pv 15 (hv := Or.inl rfl))))
      (pss_cons (ps_if (PW.pt (pw_and (pt_cmpR op_lt (pv 5 (hv := Or.inl rfl)) pe_int (nomark _)) (pw_and1 (pt_cmpR op_gt (pv 17 (hv := Or.inl rfl)) pe_int (nomark _))))) (pss_one (ps_set (i := 17) sc__law_any_right.nd rfl (Or.inl rfl) (pe_callB (id := "max") (r := rmax2C) (call_max2 rfl) (by rfl) T.n_max (by decide +kernel) (pa_cons pe_int (pa_cons (pe_op op_add (pe_op op_sub (pv 17 (hv := Or.inl rfl)) (pv 11 (hv := Or.inl rfl))) pe_int) pa_nil))))) pss_nil)
      (pss_one (ps_dput hu (pv 12 (hv := Or.inl rfl)) (pe_op op_shl pe_int (pv 17 (hv := Or.inl rfl))) (pe_op op_add (pe_dget2 hu (pv 12 (hv := Or.inl rfl)) (pe_op op_shl pe_int (pv 17 (hv := Or.inl rfl))) pe_int ⟨rfl, rfl, rfl, rfl⟩) (pe_op op_shr (pv 16 (hv := Or.inl rfl)) (pv 17 (hv := Or.inl rfl)))) rfl)))))
      (pss_one (ps_ret (pe_cmpR (op_eqD hr.units) (pe_call G_ring_lengths hr_ring_lengths rfl T.g_ring_lengths T.k_ring_lengths T.b_ring_lengths .nil pass0 (pa_cons (pv 1 (hv := Or.inl rfl)) (pa_cons (pe_tup (pa_cons (pv 8 (hv := Or.inl rfl)) (pa_cons (pv 9 (hv := Or.inl rfl)) pa_nil))) pa_nil))) (pe_callB (id := "sorted") (r := rSortIt) (cr_sortedIt (by rfl)) (by rfl) T.n_sorted (by decide +kernel) (pa_cons (pe_items (pv 12 (hv := Or.inl rfl))) pa_nil)) (nomark _))))))))))), ?_⟩
    try dsimp only [cxOf, Cx.nox, Cx.wish, Cx.blk]
    rw [show L2.start ["_law_source", "_law_kind", "_law_low", "_law_size", "_law_bits", "_law_sign", "_law_k", "_law_shift", "_law_a", "_law_c", "_law_first", "_law_further", "_law_due", "_law_rows", "_law_some", "_law_deep_here", "_law_many", "_law_power"] [.ref p, .ref kx, .int (loK wd s), .int (2 ^ wd)] = [some (.ref p), some (.ref kx), some (.int (loK wd s)), some (.int (2 ^ wd)), none, none, none, none, none, none, none, none, none, none, none, none, none, none] from rfl]
    obtain ⟨hk, nk, hs, w3, w128, k⟩ := h
    have hp := p2 wd
    obtain ⟨⟨dx, e0⟩, _, _⟩ := id hk
    walk_at "rd"
    refine ⟨kx, dx, _, rfl, e0, nop_kf wd s, kx, wd, s, rfl, hk, fun qp hqp => ?_⟩
    have s12 := sm_new (o := .tup [.int (wd : Int), .bl s]) (Same.refl H) hqp
    have hqp' : (L2.upd H qp (.tup [.int (wd : Int), .bl s])) qp = some (.tup [.int (wd : Int), .bl s]) := upd_same
    generalize L2.upd H qp _ = H12 at s12 hqp' ⊢
    have hk12 := hk.same s12
    have hs12 := hs.same s12
    have kp12 := Kp.of_same (p := p) s12
    clear hk hs s12 e0
    walk_at "rd"
    refine ⟨by show 2 ≤ sizeLine; decide, fun q hq => ?_⟩
    walk_at "rd"
    refine ⟨p, q, [1, -1], rfl, hs12.new hq, upd_same, hs12.ne hq, by decide, by decide, fun e H1 he kp1 hs1 => ?_⟩
    have he : e = 1 ∨ e = -1 := by
      rcases List.mem_cons.mp he with e1 | he
      · exact .inl e1
      · exact .inr (List.mem_singleton.mp he)
    have hk1 := hk12.kp hs12 (((Kp.refl p H12).new hq).trans kp1)
    have kp1 := (kp12.new hq).trans kp1
    clear hk12 kp12 hs12 hqp' hq
    walk_at "rd"
    refine ⟨p, (wd : Int), rfl, hs1, by omega, b9 (Nat.lt_of_lt_of_le (show _ < 2 ^ 8 by omega) (Nat.pow_le_pow_right (by decide) (by decide))), fun kz H2 k0 k1 kp2 hs2 => ?_⟩
    obtain ⟨k', rfl⟩ := Int.eq_ofNat_of_zero_le k0
    obtain ⟨kn, hkn⟩ : ∃ kn : Nat, (2 : Int) + (k' : Int) = (kn : Int) := ⟨2 + k', by omega⟩
    walk_at "rd"
    rw [hkn]
    refine ⟨p, (wd : Int) + 1, rfl, hs2, by omega, b9 (Nat.lt_of_lt_of_le (show _ < 2 ^ 9 by omega) (Nat.pow_le_pow_right (by decide) (by decide))), fun hz H3 h0 h1 kp3 hs3 => ?_⟩
    obtain ⟨hn, rfl⟩ := Int.eq_ofNat_of_zero_le h0
    walk_at "rd"
    refine ⟨p, 2 ^ wd, rfl, hs3, hp, b129p w128, fun u H4 u0 u1 kp4 hs4 => ?_⟩
    have bu : (2 * u + 1).natAbs < 2 ^ 130 := by
      have := b129m w128 u
      rw [Int.emod_eq_of_lt u0 u1] at this
      omega
    walk_at "rd"
    refine w_I (shl_ok bu (by omega)) ?_
    rw [Int.toNat_natCast]
    walk_at "rd"
    refine ⟨_, wd, s, rfl, ?_⟩
    obtain ⟨a, ha⟩ : ∃ a, a = wr wd s (e + (2 * u + 1) * 2 ^ kn) := ⟨_, rfl⟩
    rw [← ha]
    walk_at "rd"
    refine ⟨p, 2 ^ wd, rfl, hs4, hp, b129p w128, fun v H5 v0 v1 kp5 hs5 => ?_⟩
    have bv : (2 * v + 1).natAbs < 2 ^ 130 := by
      have := b129m w128 v
      rw [Int.emod_eq_of_lt v0 v1] at this
      omega
    walk_at "rd"
    refine w_I (shl_ok bv (by omega)) ?_
    rw [Int.toNat_natCast]
    walk_at "rd"
    refine ⟨_, wd, s, rfl, ?_⟩
    obtain ⟨c, hc⟩ : ∃ c, c = wr wd s ((2 * v + 1) * 2 ^ hn) := ⟨_, rfl⟩
    rw [← hc]
    have kpA := kp2.trans (kp3.trans (kp4.trans kp5))
    have hk5 := hk1.kp hs1 kpA
    have kp5 := kp1.trans kpA
    have hU := any_ac w3 (show 2 ≤ kn by omega) (show hn ≤ wd by omega) he ha hc
    have ia : Iv wd s a := by rw [ha]; exact Iv.wr
    have ic : Iv wd s c := by rw [hc]; exact Iv.wr
    clear kp1 kp2 kp3 kp4 kpA hk1 hs1 hs2 hs3 hs4 ha hc
    obtain ⟨x, hx⟩ : ∃ x, x = min wd kn := ⟨_, rfl⟩
    rw [← hx] at hU
    have x2 : 2 ≤ x := by omega
    have xw : x ≤ wd := by omega
    walk_at "rd"
    refine w_ifJ (fun v' H'' => v' = .int ((if e = 1 then x else 1 : Nat) : Int) ∧ H5 = H'') (fun Q hQ => ?_) ?_
    · refine w_if ?_
      walk_at "rd"
      refine w_dec (fun c => ?_) (fun c => ?_)
      · walk_at "rd"
        refine w_min2 ?_
        exact hQ _ _ ⟨by rw [if_pos c, hx]; congr 1; omega, rfl⟩
      · walk_at "rd"
        exact hQ _ _ ⟨by rw [if_neg c]; rfl, rfl⟩
    rintro v' _ ⟨rfl, rfl⟩
    walk_at "rd"
    refine w_min2 ?_
    rw [show min (kn : Int) (wd : Int) = (x : Int) by omega]
    walk_at "rd"
    refine fun D hD => ?_
    walk_at "rd"
    obtain ⟨f, hf⟩ : ∃ f, f = if e = 1 then x else 1 := ⟨_, rfl⟩
    rw [← hf]
    have f1 : 1 ≤ f := by rw [hf]; split <;> omega
    have fw : f ≤ wd := by rw [hf]; split <;> omega
    refine ⟨by show 3 ≤ sizeLine; decide, fun tt htt => ?_⟩
    walk_at "rd"
    have hDB : (L2.upd (L2.upd H5 D (.dK [])) tt (.tup [.int (f : Int), .int (x : Int), .ref D])) D = some (.dK (kvF [])) := gn upd_same htt
    have sB := sm_new (o := .tup [.int (f : Int), .int (x : Int), .ref D]) (sm_new (o := .dK []) (Same.refl H5) hD) htt
    generalize L2.upd (L2.upd H5 D (.dK [])) tt _ = HB at hDB sB ⊢
    refine w_rng2 ?_
    walk_at "rd"
    refine ⟨_, _, rfl, by omega, ?_⟩
    rw [show ((wd : Int) - (f : Int)).toNat = wd - f by omega]
    refine fun D2 hD2 => lc_range (lo := (f : Int)) (n := wd - f) (fun j H' => Same HB H' ∧ ∃ os, H' D2 = some (.lst os) ∧ PRow H' os ((rowsR wd f).take j)) ⟨sm_new (Same.refl HB) hD2, [], upd_same, by rw [List.take_zero]; exact .nil⟩ ?_ ?_
    · rintro j H' hj ⟨sm, os, hos, row⟩
      have ol : os.length ≤ j := by rw [row.len, List.length_take]; exact Nat.min_le_left _ _
      walk_at "rd"
      refine ⟨rfl, ?_⟩
      walk_at "rd"
      refine iteT ?_
      walk_at "rd"
      refine w_I (by omega) ?_
      rw [show ((f : Int) + (j : Int) - (f : Int) + 1).toNat = j + 1 by omega, p2divA (show j + 1 ≤ wd by omega)]
      walk_at "rd"
      refine ⟨by show 2 ≤ sizeLine; decide, fun T2 hT2 => ?_⟩
      refine ⟨os, gn hos hT2, Nat.lt_of_lt_of_le (show os.length < 200 by omega) (by decide), sm_mut (sm_new sm hT2) hD2, os ++ [.ref T2], upd_same, ?_⟩
      have nT2 : T2 ≠ D2 := fun z => by
        rw [z, hos] at hT2; cases hT2
      rw [List.take_add_one, rowsR_lo hj]
      refine PRow.add (row.keep fun q f e h => ?_) ?_
      · rw [upd_ne (ne_of h hos (by intro z; cases z))]
        exact gn h hT2
      · rw [upd_ne nT2, upd_same, Int.natCast_pow, Int.natCast_add]; rfl
    rintro H6 ⟨s6, os, hos, row⟩
    walk_at "rd"
    refine w_I (cpow (n := 1) (by omega) (by decide)) ?_
    rw [Int.toNat_natCast, Int.one_mul]
    walk_at "rd"
    refine ⟨by show 2 ≤ sizeLine; decide, fun u1 hu1 => ?_⟩
    walk_at "rd"
    refine ⟨by show 1 ≤ sizeLine; decide, fun u2 hu2 => ?_⟩
    have ol : os.length ≤ wd - f := by rw [row.len, List.length_take]; exact Nat.min_le_left _ _
    refine w_cat (gn (gn hos hu1) hu2) upd_same (by show os.length + 1 ≤ sizeLine; exact Nat.le_trans (show os.length + 1 ≤ 200 by omega) (by decide)) (fun u3 hu3 => ?_)
    have s7 := sm_new (o := .lst (os ++ [.ref u1])) (sm_new (o := .lst [.ref u1]) (sm_new (o := .tup [.int (wd : Int), .int (2 ^ f)]) s6 hu1) hu2) hu3
    have row7 : PRow (L2.upd (L2.upd (L2.upd H6 u1 (.tup [.int (wd : Int), .int (2 ^ f)])) u2 (.lst [.ref u1])) u3 (.lst (os ++ [.ref u1]))) (os ++ [.ref u1]) (rowsR wd f) := by
      have e7 : (rowsR wd f) = (rowsR wd f).take (wd - f) ++ [((wd : Int), 2 ^ f)] := by
        have h1 : (rowsR wd f).take (wd - f + 1) = rowsR wd f := List.take_of_length_le (by rw [rowsR_len]; exact Nat.le_refl _)
        rw [List.take_add_one, rowsR_hi] at h1
        exact h1.symm
      rw [e7]
      refine PRow.add (row.keep fun q f e h => gn (gn (gn h hu1) hu2) hu3) ?_
      rw [Int.natCast_pow]
      exact gn (gn upd_same hu2) hu3
    have h7 : (L2.upd (L2.upd (L2.upd H6 u1 (.tup [.int (wd : Int), .int (2 ^ f)])) u2 (.lst [.ref u1])) u3 (.lst (os ++ [.ref u1]))) u3 = some (.lst (os ++ [.ref u1])) := upd_same
    generalize L2.upd (L2.upd (L2.upd H6 u1 _) u2 _) u3 _ = H7 at s7 row7 h7 ⊢
    clear hos row s6 hu1 hu2 hu3 hD2
    obtain ⟨sg, hsg, okR, okO⟩ := any_rows x2 xw w128 he hf hU
    walk_at "rd"
    refine w_ifJ (fun v' H' => ∃ (q : Addr) (os : List V) (rl : FL), v' = .ref q ∧ H' q = some (.lst os) ∧ PRow H' os rl ∧ RowsOk sg x wd (Uc wd a c) rl ∧ Same HB H') (fun Q hQ => ?_) ?_
    · refine w_if ?_
      walk_at "rd"
      refine w_dec (fun c => ?_) (fun c => ?_)
      · walk_at "rd"
        exact hQ _ _ ⟨u3, _, _, rfl, h7, row7, okR (by omega), s7⟩
      · walk_at "rd"
        refine ⟨by show 2 ≤ sizeLine; decide, fun u1 hu1 => ?_⟩
        walk_at "rd"
        refine ⟨by show 1 ≤ sizeLine; decide, fun u2 hu2 => ?_⟩
        exact hQ _ _ ⟨u2, [.ref u1], [((hn : Int), 2 ^ wd)], rfl, upd_same, .cons (by rw [Int.natCast_pow]; exact gn upd_same hu2) .nil, okO (by omega), sm_new (sm_new s7 hu1) hu2⟩
    rintro v' H8 ⟨q, os, rl, rfl, hq, row, ok, s8⟩
    clear okR okO row7 h7 s7
    have hD8 := s8 _ _ hDB
    have hD3 : H5 D = none := hD
    have nqD : q ≠ D := ne_of hq hD8 (by intro z; cases z)
    have lenR := row.len
    walk_at "rd"
    refine ⟨⟨_, SqL.of hq⟩, for_list (K := K) (a := q) (xs := os) (fun t σ H' => (∃ v14 v15 v16 v17 : Option V, σ = [some (.ref p), some (.ref kx), some (.int (loK wd s)), some (.int (2 ^ wd)), some (.int (wd : Int)), some (.int e), some (.int (kn : Int)), some (.int (hn : Int)), some (.int a), some (.int c), some (.int (f : Int)), some (.int (x : Int)), some (.ref D), some (.ref u3), v14, v15, v16, v17]) ∧ (∀ b o, b ≠ D → H8 b = some o → H' b = some o) ∧ ∃ fl, H' D = some (.dK (kvF fl)) ∧ DictP fl (Dfun (fR sg x wd rl) t) ∧ fl.length ≤ t)
      ⟨⟨_, _, _, _, rfl⟩, fun _ _ _ h => h, [], hD8, DictP.nil, Nat.le_refl _⟩ (fun i σ H' _ q' => SqL.of (q'.2.1 _ _ nqD hq)) ?_ ?_⟩
    · rintro t x1 σ H' ht ⟨⟨v14, v15, v16, v17, rfl⟩, sm, fl, hfl, dp', hl⟩
      obtain ⟨T, d, m, rfl, hT, hrl⟩ := row.get ht
      have hT' := sm _ _ (ne_of hT hD8 (by intro z; cases z)) hT
      obtain ⟨d0, d1⟩ := ok.bd _ (List.mem_of_getElem? hrl)
      obtain ⟨dn, rfl⟩ := Int.eq_ofNat_of_zero_le d0
      have tl : t < rl.length := (List.getElem?_eq_some_iff.mp hrl).1
      have ef := fR_at (sg := sg) (x := x) (w := wd) hrl
      have epos := ok.pos t tl
      walk_at "rd"
      refine w_andB (b := decide (e < 0 ∧ dn < wd)) (fun c F' hF => ?_) (fun c => ?_) ?_
      · walk_at "rd"
        rw [show decide ((0 : Int) < (wd : Int) - (dn : Int)) = decide (e < 0 ∧ dn < wd) from by
          by_cases z : dn < wd
          · rw [decide_eq_true (show (0 : Int) < (wd : Int) - (dn : Int) by omega), decide_eq_true ⟨c, z⟩]
          · rw [decide_eq_false (show ¬ (0 : Int) < (wd : Int) - (dn : Int) by omega), decide_eq_false fun y => z y.2]]
        exact hF
      · exact decide_eq_false fun y => c y.1
      dsimp only
      obtain ⟨pw, hpw⟩ : ∃ pw, pw = pwR sg x wd dn := ⟨_, rfl⟩
      refine w_stJ (fun σ' H'' => σ' = [some (.ref p), some (.ref kx), some (.int (loK wd s)), some (.int (2 ^ wd)), some (.int (wd : Int)), some (.int e), some (.int (kn : Int)), some (.int (hn : Int)), some (.int a), some (.int c), some (.int (f : Int)), some (.int (x : Int)), some (.ref D), some (.ref u3), v14, some (.int (dn : Int)), some (.int (m : Int)), some (.int (pw : Int))] ∧ H' = H'') (fun cc D' q' => ?_) (fun cc D' q' => ?_) ?_
      · walk_at "rd"
        refine w_max2 ?_
        walk_at "rd"
        refine q' _ _ ⟨?_, rfl⟩
        have : pw = max 1 (wd - dn + 1 - x) := by rw [hpw]; unfold pwR; rw [if_pos ⟨hsg.mpr cc.1, by omega⟩]
        rw [show max 1 ((wd : Int) - (dn : Int) - (x : Int) + 1) = (pw : Int) by omega]
      · walk_at "rd"
        refine q' _ _ ⟨?_, rfl⟩
        have : pw = wd - dn := by rw [hpw]; unfold pwR; rw [if_neg fun y => cc ⟨hsg.mp y.1, by omega⟩]
        rw [show (wd : Int) - (dn : Int) = (pw : Int) by omega]
      rintro _ _ ⟨rfl, rfl⟩
      dsimp only
      rw [Int.toNat_natCast, ← hpw] at ef
      have pwl : pw ≤ 200 := by rw [hpw]; unfold pwR; split <;> omega
      rw [ef] at epos
      obtain ⟨fl', h1, h2, h3⟩ := dp'.put pw epos
      have hDf : Dfun (fR sg x wd rl) (t + 1) = fun j => Dfun (fR sg x wd rl) t j + if pw = j then m / 2 ^ pw else 0 := by
        funext j
        show Dfun _ t j + (if (fR sg x wd rl t).1 = j then (fR sg x wd rl t).2 else 0) = _
        rw [ef]
      refine w_dputI ?_
      walk_at "rd"
      refine w_dgetI ?_
      walk_at "rd"
      refine ⟨isD_k hfl, ?_⟩
      walk_at "rd"
      refine w_I (cpow (n := 1) (by omega) (by decide)) ?_
      rw [Int.toNat_natCast, Int.one_mul]
      walk_at "rd"
      refine ⟨_, DGet.k (k := Sum.inl ((2 : Int) ^ pw)) hfl, ?_⟩
      rw [dp'.val]
      walk_at "rd"
      refine w_I (Int.natCast_nonneg _) ?_
      rw [Int.toNat_natCast, show (m : Int) / 2 ^ pw = ((m / 2 ^ pw : Nat) : Int) by rw [Int.natCast_ediv, Int.natCast_pow]; rfl]
      walk_at "rd"
      refine w_I (cpow (n := 1) (by omega) (by decide)) ?_
      rw [Int.toNat_natCast, Int.one_mul]
      refine ⟨D, _, rfl, DPut.k (k := Sum.inl ((2 : Int) ^ pw)) hfl (by rw [List.length_map]; have := ok.len; exact Nat.lt_of_le_of_lt hl (Nat.lt_of_lt_of_le (show t < 201 by omega) (by decide))), ?_⟩
      rw [← Int.natCast_add, h1]
      exact ⟨⟨_, _, _, _, rfl⟩, fun b o n e => by rw [upd_ne n]; exact sm b o n e, fl', upd_same, by rw [hDf]; exact h2, by omega⟩
    rintro σ H9 ⟨⟨v14, v15, v16, v17, rfl⟩, sm, fl, hfl, dp', hl⟩
    have s9 : Same H5 H9 := fun b o e => sm b o (ne_of_none e hD3) (s8 _ _ (sB _ _ e))
    walk_at "rd"
    refine ⟨by show 2 ≤ sizeLine; decide, fun t7 ht7 => ?_⟩
    have s10 := sm_new (o := .tup [.int a, .int c]) (Same.refl H9) ht7
    walk_at "rd"
    refine use_rl_any (hk5.same (s9.trans s10)) upd_same ia ic rfl (fun t8 out8 H12 s12 h8 r8 => ?_)
    have s12 := s10.trans s12
    have hfl := s12 _ _ hfl
    have s12 := s9.trans s12
    walk_at "rd"
    refine w_itemsV ?_
    walk_at "rd"
    refine ⟨D, _, rfl, hfl, fun v hv => ?_⟩
    walk_at "rd"
    refine ⟨v, D, fl, rfl, upd_same, gn hfl hv, dp'.nd, fun gl out l H13 gs gm hl13 gr s13 _ => ?_⟩
    have s13 := (sm_new (o := itv v D) (Same.refl H12) hv).trans s13
    rw [lenR] at dp'
    rw [dp'.fin (U := Uc wd a c) (w := wd) gs gm ok.fin.1 ok.fin.2] at gr
    refine w_eqRow (s13 _ _ h8) (r8.same s13) hl13 gr ?_
    have sF := s12.trans s13
    exact k _ (kp5.trans (Kp.of_same (p := p) sF)) (hs5.same sF)

section
variable {K : PySem.W.Frag} {C p t : Addr} {H : Hp} {Q : VK} {E : XK} {wd : Nat} {s : Bool} {a c x : Int}
theorem use_rl_turning (hk : Kd C H p wd s) (ht : H t = some (.tup [.int a, .int c])) (ia : Iv wd s a) (ic : Iv wd s c) {gl : FL} (e : rlR (Uc wd a c) (wd + 1) = gl) (q : ∀ t out H', Same H H' → H' t = some (.lst out) → PRow H' out gl → Q (.ref t) H') : sp_ring_lengths K C [.ref p, .ref t] H Q E :=
  ⟨p, t, a, c, wd, s, rfl, hk, ht, ia, ic, fun t out H' h1 h2 h3 => q t out H' h3 h1 (by rw [← e]; exact h2)⟩
end

section
variable {K : PySem.W.Frag} {C p t : Addr} {H : Hp} {Q : VK} {E : XK} {wd : Nat} {s : Bool} {a c x : Int}
theorem use_st_turning (hk : Kd C H p wd s) (ht : H t = some (.tup [.int a, .int c])) (ia : Iv wd s a) (ic : Iv wd s c) (ix : Iv wd s x) {N : Int} (n : Nat) (e : N = (n : Int)) {y : Int} (hy : (2 : Int) ^ wd ∣ gIt a c n x - y) (iy : Iv wd s y) (q : ∀ H', Same H H' → Q (.int y) H') : sp_stepped K C [.ref p, .ref t, .int x, .int N] H Q E := by
  subst e
  refine ⟨p, t, a, c, x, _, wd, s, rfl, hk, ht, ia, ic, ix, fun _ => by omega, fun H' s' => ?_⟩
  rw [wr_dvd (gAt_nat wd a c x n), wr_dvd hy, iy.id]
  exact q _ s'
end
section
variable {w : Nat} {s : Bool} {a b c x : Int}
theorem neg_ac (w1 : 1 ≤ w) (hb : b = wr w s (-1)) : b % 2 = 1 ∧ (2 : Int) ^ w ∣ b + 1 := by
  have h1 := dvd_wr w s (-1)
  rw [← hb] at h1
  have g1 := Int.dvd_trans (gpp w1) h1
  rw [Int.pow_one] at g1
  exact ⟨by omega, by rw [show b + 1 = b - -1 by omega]; exact h1⟩
theorem neg_1 (h : (2 : Int) ^ w ∣ b + 1) : (2 : Int) ^ w ∣ gIt b c 1 x - (c - x) := by
  show (2 : Int) ^ w ∣ b * x + c - (c - x)
  rw [show b * x + c - (c - x) = (b + 1) * x by rw [Int.add_mul, Int.one_mul]; omega]
  exact Int.dvd_mul_of_dvd_left h
theorem neg_2 (h : (2 : Int) ^ w ∣ b + 1) : (2 : Int) ^ w ∣ gIt b c 2 x - x := by
  rw [it_1]; exact Int.dvd_mul_of_dvd_left h
theorem neg_st (h : (2 : Int) ^ w ∣ b + 1) (m : Nat) : (2 : Int) ^ w ∣ gIt b c (2 * m + 1) x - wr w s (c - x) := by
  rw [gIt_add]
  exact gdvT (gIt_congx 1 (gper_mul (neg_2 h) m)) (gdvT (neg_1 h) (gdvS (dvd_wr w s (c - x))))
theorem neg_ring (h : (2 : Int) ^ w ∣ b + 1) (ix : Iv w s x) {i : Nat} (hr : RingL w b c x i) : (2 : Int) ^ i = 2 - (if wr w s (c - x) = x then 1 else 0) := by
  have q : (2 : Int) ^ w ∣ gIt b c (2 ^ 0) x - x ↔ wr w s (c - x) = x := by
    have e := wr_dvd_iff (w := w) (s := s) (a := c - x) (b := x)
    rw [ix.id] at e
    rw [e]
    have g := neg_1 (c := c) (x := x) h
    exact ⟨fun z => gdvT (gdvS g) z, fun z => gdvT g z⟩
  have i1 : i ≤ 1 := Nat.le_of_not_lt fun z => hr.2.2 1 z (neg_2 h)
  by_cases z : wr w s (c - x) = x
  · have : i = 0 := Nat.eq_zero_of_not_pos fun y => hr.2.2 0 y (q.mpr z)
    rw [this, if_pos z]; rfl
  · have : i ≠ 0 := fun y => z (q.mp (by have := hr.2.1; rw [y] at this; exact this))
    rw [show i = 1 by omega, if_neg z]; rfl
end
section
variable {w : Nat} {s : Bool} {t o u : Int}
theorem sort2 {ns : List Int} {a b : Int} (pm : ns.Perm [a, b]) (so : ns.Pairwise (· ≤ ·)) : ns = [min a b, max a b] := by
  have l := pm.length_eq
  match ns, l with
  | [u, v], _ =>
    have h1 := List.rel_of_pairwise_cons so (List.mem_singleton.mpr rfl)
    have h2 : u ∈ [a, b] := pm.mem_iff.mp List.mem_cons_self
    rcases List.mem_cons.mp h2 with e | e
    · have h3 : v ∈ [b] := (List.Perm.cons_inv (by rw [e] at pm; exact pm)).mem_iff.mp (List.mem_singleton.mpr rfl)
      have h3 := List.mem_singleton.mp h3
      rw [show min a b = u by omega, show max a b = v by omega]
    · have e := List.mem_singleton.mp e
      have h3 : v ∈ [a] := (List.Perm.cons_inv (by rw [e] at pm; exact pm.trans (List.Perm.swap _ _ _))).mem_iff.mp (List.mem_singleton.mpr rfl)
      have h3 := List.mem_singleton.mp h3
      rw [show min a b = u by omega, show max a b = v by omega]
theorem p2div4 {w : Nat} (h : 2 ≤ w) : (2 : Int) ^ w / 4 = 2 ^ (w - 2) := by
  rw [show (2 : Int) ^ w = 2 ^ (w - 2) * 4 by rw [show (4 : Int) = 2 ^ 2 from rfl, ← Int.pow_add, Nat.sub_add_cancel h]]
  exact Int.mul_ediv_cancel _ (by decide)
theorem iv_0T {w : Nat} {s : Bool} (w1 : 1 ≤ w) : Iv w s 0 := by
  have e := p2s w1
  have hp := p2 (w - 1)
  have hp2 := p2 w
  unfold Iv hiK loK
  cases s
  · rw [if_neg Bool.false_ne_true]; omega
  · rw [if_pos rfl]; omega
theorem thr_ac (w4 : 3 < w) (ht : t = wr w s 3) (ho : o = wr w s (2 * u + 1)) : t % 16 = 3 ∧ o % 2 = 1 := by
  have h1 := dvd_wr w s 3
  have h2 := dvd_wr w s (2 * u + 1)
  rw [← ht] at h1
  rw [← ho] at h2
  have g1 := Int.dvd_trans (gpp (show 4 ≤ w by omega)) h1
  have g2 := Int.dvd_trans (gpp (show 1 ≤ w by omega)) h2
  rw [show (2 : Int) ^ 4 = 16 from rfl] at g1
  rw [Int.pow_one] at g2
  omega
theorem thr_e : gIt t 0 1 o - o = (t - 1) * o := by
  show t * o + 0 - o = _
  rw [Int.sub_mul, Int.one_mul]; omega
theorem thr_g1 (w4 : 3 < w) (h : t % 16 = 3) (ho : o % 2 = 1) : gv w (gIt t 0 1 o - o) = 1 := by
  rw [thr_e, gv_mul, gv_odd ho, gv_2odd (k := t / 4) (by omega)]; omega
theorem thr_v (w4 : 3 < w) (h : t % 16 = 3) (ho : o % 2 = 1) : gv w (gIt t 0 2 o - o) = 3 := by
  rw [it_1, gv_mul, thr_g1 w4 h ho, gv_val (w := w) (j := 2) (n := t + 1) (a := t / 8) (by show t + 1 = 4 * (2 * (t / 8) + 1); omega) (by omega)]; omega
theorem thr_i (w4 : 3 < w) (h : t % 16 = 3) (ho : o % 2 = 1) {i : Nat} (hr : RingL w t 0 o i) : i = w - 2 := by
  rcases ring_len (.inl (by omega)) (thr_v w4 h ho) hr.2.1 hr.2.2 with ⟨d, e⟩ | ⟨d, e⟩
  · have := (gv_iff w _ 3).mpr ⟨by omega, d⟩
    rw [thr_g1 w4 h ho] at this; omega
  · omega
theorem thr_row (w4 : 3 < w) (h : t % 16 = 3) (ho : o % 2 = 1) {f g : Int} (hf : f = min (o % 8) (3 * o % 8)) (hg : g = max (o % 8) (3 * o % 8)) : NRow w [(f, 3), (g, 3)] ∧ ∀ z, Cover (famL [(f, 3), (g, 3)]) z ↔ OnR w t 0 o z := by
  obtain ⟨n, cv⟩ := two_list (w := w) (v := 3) (f := f) (g := g) (by decide) (by omega) (by omega) (by show g < 8; omega) (by omega) (by show g ≠ f + 4; omega)
  refine ⟨n, fun z => ?_⟩
  rw [cv, onR_odd (by omega) (thr_v w4 h ho)]
  have e8 : (2 : Int) ^ 3 = 8 := rfl
  have c2 : (2 : Int) ^ 3 ∣ gIt t 0 1 o - 3 * o := by
    show (2 : Int) ^ 3 ∣ t * o + 0 - 3 * o
    rw [show t * o + 0 - 3 * o = (t - 3) * o by rw [Int.sub_mul]; omega]
    exact Int.dvd_mul_of_dvd_left (by rw [e8]; omega)
  rw [e8] at c2 ⊢
  generalize gIt t 0 1 o = y at c2 ⊢
  omega
end
section
variable {w : Nat} {s : Bool} {a c x u y v st : Int}
theorem ev_ac (w1 : 1 ≤ w) (ha : a = wr w s (2 * u)) : a % 2 = 0 ∧ wr w s (1 - a) % 2 = 1 := by
  have h1 := dvd_wr w s (2 * u)
  have h2 := dvd_wr w s (1 - a)
  rw [← ha] at h1
  have g1 := Int.dvd_trans (gpp w1) h1
  have g2 := Int.dvd_trans (gpp w1) h2
  rw [Int.pow_one] at g1 g2
  omega
theorem ev_fix (hy : wr w s (1 - a) * y % 2 ^ w = 1 % 2 ^ w) (hst : st = wr w s (wr w s y * c)) : (2 : Int) ^ w ∣ gIt a c 1 st - st := by
  have h1 := gmd.mp hy
  have h2 := dvd_wr w s (1 - a)
  have h3 := dvd_wr w s y
  have h4 := dvd_wr w s (wr w s y * c)
  rw [← hst] at h4
  generalize wr w s (1 - a) = i at h1 h2
  generalize wr w s y = v at h3 h4
  show (2 : Int) ^ w ∣ a * st + c - st
  have e : a * st + c - st = (i - (1 - a)) * st - i * (st - v * c) - i * ((v - y) * c) - (i * y - 1) * c := by
    rw [Int.sub_mul, Int.sub_mul 1 a st, Int.mul_sub, Int.sub_mul v y c, Int.mul_sub, Int.sub_mul (i * y), Int.one_mul, Int.one_mul, Int.mul_assoc i y c]; omega
  rw [e]
  exact Int.dvd_sub (Int.dvd_sub (Int.dvd_sub (Int.dvd_mul_of_dvd_left h2) (Int.dvd_mul_of_dvd_right h4)) (Int.dvd_mul_of_dvd_right (Int.dvd_mul_of_dvd_left h3))) (Int.dvd_mul_of_dvd_left h1)
theorem ev_end (ae : a % 2 = 0) (fx : (2 : Int) ^ w ∣ gIt a c 1 st - st) : (2 : Int) ^ w ∣ gIt a c w x - st := by
  refine gdvT ?_ (gIt_fix fx w)
  rw [gIt_sub]
  obtain ⟨q, rfl⟩ : ∃ q, a = 2 * q := ⟨a / 2, by omega⟩
  rw [Int.mul_pow]
  exact Int.dvd_mul_of_dvd_left (Int.dvd_mul_right _ _)
theorem ev_lead (ae : a % 2 = 0) (fx : (2 : Int) ^ w ∣ gIt a c 1 st - st) {l : Nat} (hl : LeadN w a c st l) : l = 0 :=
  Nat.eq_zero_of_not_pos fun z => (hl.2 ae).2.2 0 z (gdvS (ev_end (x := st) ae fx))
theorem ev_row (ae : a % 2 = 0) (fx : (2 : Int) ^ w ∣ gIt a c 1 st - st) {l : Nat} (hl : LeadN w a c x l) : NRow w [(st % 2 ^ w, w)] ∧ ∀ z, Cover (famL [(st % 2 ^ w, w)]) z ↔ OnR w a c (gIt a c l x) z := by
  obtain ⟨n, cv⟩ := res_row (w := w) (s := st) (e := w) (Nat.le_refl _)
  exact ⟨n, fun z => by rw [cv, OnR.cong (gdvT (hl.2 ae).2.1 (ev_end ae fx)), onR_fix fx]⟩
end
def sp__law_turning_right (K : PySem.W.Frag) (C : Addr) : Sp := fun vs H Q _ => ∃ (p kx : Addr) (wd : Nat) (s : Bool), vs = [.ref p, .ref kx, .int (loK wd s), .int (2 ^ wd)] ∧ Kd C H kx wd s ∧ kx ≠ p ∧ SrcAt H p ∧ 1 ≤ wd ∧ wd ≤ 128 ∧ ∀ H', Kp p H H' → SrcAt H' p → Q (.bl true) H'
theorem ok__law_turning_right {P : Program} {w : World} {K : PySem.W.Frag} {mg : Str → Option Value} {base : Heap} (T : Txt K mg) : FnOk P w K mg base CX0 10 T.f__law_turning_right T.fd__law_turning_right ["_law_source", "_law_kind", "_law_low", "_law_size"] (sp__law_turning_right K T.C_Kind) := by
  have G_Kind_parts := ok_Kind_parts (P := P) (w := w) (base := base) T
  have G__law_put := ok__law_put (P := P) (w := w) (base := base) T
  have G__law_value := ok__law_value (P := P) (w := w) (base := base) T
  have G__law_wide := ok__law_wide (P := P) (w := w) (base := base) T
  have G_inverse := ok_inverse (P := P) (w := w) (base := base) T
  have G_ring_lengths := ok_ring_lengths (P := P) (w := w) (base := base) T
  have G_ring_of := ok_ring_of (P := P) (w := w) (base := base) T
  have G_ring_values := ok_ring_values (P := P) (w := w) (base := base) T
  have G_stepped := ok_stepped (P := P) (w := w) (base := base) T
  refine T.F__law_turning_right.ok sc__law_turning_right (fun vs H Q E h => ?_) (fun cdv A outer s H vs Q E hr h => ?_)
  · obtain ⟨p, kx, wd, s, rfl, _⟩ := h
    rfl
  · obtain ⟨p, kx, wd, s, rfl, h⟩ := h
    have hr_Kind_parts : Room 1 _ := hr.mono (by decide)
    have hr__law_put : Room 1 _ := hr.mono (by decide)
    have hr__law_value : Room 3 _ := hr.mono (by decide)
    have hr__law_wide : Room 2 _ := hr.mono (by decide)
    have hr_inverse : Room 6 _ := hr.mono (by decide)
    have hr_ring_lengths : Room 8 _ := hr.mono (by decide)
    have hr_ring_of : Room 9 _ := hr.mono (by decide)
    have hr_ring_values : Room 9 _ := hr.mono (by decide)
    have hr_stepped : Room 9 _ := hr.mono (by decide)
    refine ⟨_, (pss_cons (ps_par3 rfl sc__law_turning_right.nd (i := 4) (j := 5) (l := 6) rfl rfl rfl (by decide) (by decide) (by decide) rfl rfl rfl (pa_cons (pe_call G__law_value hr__law_value rfl T.g__law_value T.k__law_value T.b__law_value .nil pass0 (pa_cons (pv 0 (hv := Or.inl rfl)) (pa_cons (pv 2 (hv := Or.inl rfl)) (pa_cons (pv 3 (hv := Or.inl rfl)) pa_nil)))) (pa_cons (pe_call G__law_value hr__law_value rfl T.g__law_value T.k__law_value T.b__law_value .nil pass0 (pa_cons (pv 0 (hv := Or.inl rfl)) (pa_cons (pv 2 (hv := Or.inl rfl)) (pa_cons (pv 3 (hv := Or.inl rfl)) pa_nil)))) (pa_cons (pe_ix (r := rIxT K) ix_tup (pe_meth0 (pv 1 (hv := Or.inl rfl)) T.cl_Kind T.m_Kind_parts G_Kind_parts hr_Kind_parts T.b_Kind_parts .nil pass0) pe_int (fun _ _ => rfl)) pa_nil))) (by rfl))
      (pss_cons (ps_par rfl sc__law_turning_right.nd (i := 7) (j := 8) rfl rfl (by decide) rfl rfl (pa_cons (pe_call G__law_put hr__law_put rfl T.g__law_put T.k__law_put T.b__law_put .nil pass0 (pa_cons (pe_un un_neg pe_int) (pa_cons (pv 2 (hv := Or.inl rfl)) (pa_cons (pv 3 (hv := Or.inl rfl)) pa_nil)))) (pa_cons (pe_call G__law_put hr__law_put rfl T.g__law_put T.k__law_put T.b__law_put .nil pass0 (pa_cons (pe_op op_sub (pv 4 (hv := Or.inl rfl)) (pv 5 (hv := Or.inl rfl))) (pa_cons (pv 2 (hv := Or.inl rfl)) (pa_cons (pv 3 (hv := Or.inl rfl)) pa_nil)))) pa_nil)) (by rfl))
      (pss_cons (ps_set (i := 9) sc__law_turning_right.nd rfl (Or.inl rfl) (pe_tup (pa_cons pe_int (pa_cons (pe_op op_sub pe_int (pe_callTy (T := "int") (r := rIntC) call_int1 (by rfl) T.n_int (by decide +kernel) (pa_cons (pe_cmpR op_eq (pv 8 (hv := Or.inl rfl)) (pv 5 (hv := Or.inl rfl)) (nomark _)) pa_nil))) pa_nil))))
      (pss_cons (ps_if (PW.pt (pw_or (pt_cmpR (op_neD hr.units) (pe_call G_ring_of hr_ring_of rfl T.g_ring_of T.k_ring_of T.b_ring_of .nil pass0 (pa_cons (pv 1 (hv := Or.inl rfl)) (pa_cons (pe_tup (pa_cons (pv 7 (hv := Or.inl rfl)) (pa_cons (pv 4 (hv := Or.inl rfl)) pa_nil))) (pa_cons (pv 5 (hv := Or.inl rfl)) pa_nil)))) (pv 9 (hv := Or.inl rfl)) (nomark _)) (pw_or1 (pt_cmpR op_ne (pe_call G_stepped hr_stepped rfl T.g_stepped T.k_stepped T.b_stepped .nil pass0 (pa_cons (pv 1 (hv := Or.inl rfl)) (pa_cons (pe_tup (pa_cons (pv 7 (hv := Or.inl rfl)) (pa_cons (pv 4 (hv := Or.inl rfl)) pa_nil))) (pa_cons (pv 5 (hv := Or.inl rfl)) (pa_cons (pe_op op_add (pe_op op_pow pe_int pe_int) pe_int) pa_nil))))) (pv 8 (hv := Or.inl rfl)) (nomark _))))) (pss_one (ps_ret pe_bl)) pss_nil)
      (pss_cons (ps_if (pt_cmpR op_gt (pv 6 (hv := Or.inl rfl)) pe_int (nomark _)) (pss_cons (ps_par rfl sc__law_turning_right.nd (i := 10) (j := 11) rfl rfl (by decide) rfl rfl (pa_cons (pe_call G__law_put hr__law_put rfl T.g__law_put T.k__law_put T.b__law_put .nil pass0 (pa_cons pe_int (pa_cons (pv 2 (hv := Or.inl rfl)) (pa_cons (pv 3 (hv := Or.inl rfl)) pa_nil)))) (pa_cons (pe_call G__law_put hr__law_put rfl T.g__law_put T.k__law_put T.b__law_put .nil pass0 (pa_cons (pe_op op_add (pe_op op_mul pe_int (pe_call G__law_wide hr__law_wide rfl T.g__law_wide T.k__law_wide T.b__law_wide .nil pass0 (pa_cons (pv 0 (hv := Or.inl rfl)) (pa_cons (pv 3 (hv := Or.inl rfl)) pa_nil)))) pe_int) (pa_cons (pv 2 (hv := Or.inl rfl)) (pa_cons (pv 3 (hv := Or.inl rfl)) pa_nil)))) pa_nil)) (by rfl))
      (pss_cons (ps_set (i := 12) sc__law_turning_right.nd rfl (Or.inl rfl) (pe_callB (id := "sorted") (r := rSortedI K) cr_sortedI (by rfl) T.n_sorted (by decide +kernel) (pa_cons (pe_lst (pa_cons (pe_op op_mod (pe_callTy (T := "int") (r := rIntC) call_int1 (by rfl) T.n_int (by decide +kernel) (pa_cons (pv 11 (hv := Or.inl rfl)) pa_nil)) pe_int) (pa_cons (pe_op op_mod (pe_callTy (T := "int") (r := rIntC) call_int1 (by rfl) T.n_int (by decide +kernel) (pa_cons (pe_op op_mul pe_int (pv 11 (hv := Or.inl rfl))) pa_nil)) pe_int) pa_nil))) pa_nil)))
      (pss_cons (ps_if (pt_cmpR (op_neD hr.units) (pe_call G_ring_of hr_ring_of rfl T.g_ring_of T.k_ring_of T.b_ring_of .nil pass0 (pa_cons (pv 1 (hv := Or.inl rfl)) (pa_cons (pe_tup (pa_cons (pv 10 (hv := Or.inl rfl)) (pa_cons pe_int pa_nil))) (pa_cons (pv 11 (hv := Or.inl rfl)) pa_nil)))) (pe_tup (pa_cons pe_int (pa_cons (pe_op op_fdiv (pv 3 (hv := Or.inl rfl)) pe_int) pa_nil))) (nomark _)) (pss_one (ps_ret pe_bl)) pss_nil)
      (pss_one (ps_if (pt_cmpR (op_neD hr.units) (pe_call G_ring_values hr_ring_values rfl T.g_ring_values T.k_ring_values T.b_ring_values .nil pass0 (pa_cons (pv 1 (hv := Or.inl rfl)) (pa_cons (pe_tup (pa_cons (pv 10 (hv := Or.inl rfl)) (pa_cons pe_int pa_nil))) (pa_cons (pv 11 (hv := Or.inl rfl)) pa_nil)))) (pe_lc (own := [("_law_k", 13)]) (g := gName 13) (tt := tYes) (by rfl) sc__law_turning_right.nd (pi_list (pv 12 (hv := Or.inl rfl))) (blkOk_by (own := [("_law_k", 13)]) (N := ["_law_source", "_law_kind", "_law_low", "_law_size", "_law_c", "_law_x", "_law_bits", "_law_back", "_law_turn", "_law_due", "_law_three", "_law_odd", "_law_firsts", "_law_k", "_law_a", "_law_still"]) (sc := defScope s__law_turning_right) (by decide +kernel)) (fun _ _ _ _ _ => (pg_name (i := 13) sc__law_turning_right.nd rfl (Or.inl rfl))) (fun _ _ _ _ _ => pts_nil) (fun _ _ _ _ _ => (pe_tup (pa_cons (pv 13 (hv := Or.inl rfl)) (pa_cons pe_int pa_nil))))) (nomark _)) (pss_one (ps_ret pe_bl)) pss_nil))))) pss_nil)
      (pss_cons (ps_set (i := 14) sc__law_turning_right.nd rfl (Or.inl rfl) (pe_call G__law_put hr__law_put rfl T.g__law_put T.k__law_put T.b__law_put .nil pass0 (pa_cons (pe_op op_mul pe_int (pe_call G__law_wide hr__law_wide rfl T.g__law_wide T.k__law_wide T.b__law_wide .nil pass0 (pa_cons (pv 0 (hv := Or.inl rfl)) (pa_cons (pv 3 (hv := Or.inl rfl)) pa_nil)))) (pa_cons (pv 2 (hv := Or.inl rfl)) (pa_cons (pv 3 (hv := Or.inl rfl)) pa_nil)))))
      (pss_cons (ps_set (i := 15) sc__law_turning_right.nd rfl (Or.inl rfl) (pe_call G__law_put hr__law_put rfl T.g__law_put T.k__law_put T.b__law_put .nil pass0 (pa_cons (pe_op op_mulX (pe_call G_inverse hr_inverse rfl T.g_inverse T.k_inverse T.b_inverse .nil pass0 (pa_cons (pv 1 (hv := Or.inl rfl)) (pa_cons (pe_call G__law_put hr__law_put rfl T.g__law_put T.k__law_put T.b__law_put .nil pass0 (pa_cons (pe_op op_sub pe_int (pv 14 (hv := Or.inl rfl))) (pa_cons (pv 2 (hv := Or.inl rfl)) (pa_cons (pv 3 (hv := Or.inl rfl)) pa_nil)))) pa_nil))) (pv 4 (hv := Or.inl rfl))) (pa_cons (pv 2 (hv := Or.inl rfl)) (pa_cons (pv 3 (hv := Or.inl rfl)) pa_nil)))))
      (pss_cons (ps_if (PW.pt (pw_or (pt_cmpR op_ne (pe_call G_stepped hr_stepped rfl T.g_stepped T.k_stepped T.b_stepped .nil pass0 (pa_cons (pv 1 (hv := Or.inl rfl)) (pa_cons (pe_tup (pa_cons (pv 14 (hv := Or.inl rfl)) (pa_cons (pv 4 (hv := Or.inl rfl)) pa_nil))) (pa_cons (pv 5 (hv := Or.inl rfl)) (pa_cons (pv 6 (hv := Or.inl rfl)) pa_nil))))) (pv 15 (hv := Or.inl rfl)) (nomark _)) (pw_or1 (pt_cmpR (op_neD hr.units) (pe_call G_ring_values hr_ring_values rfl T.g_ring_values T.k_ring_values T.b_ring_values .nil pass0 (pa_cons (pv 1 (hv := Or.inl rfl)) (pa_cons (pe_tup (pa_cons (pv 14 (hv := Or.inl rfl)) (pa_cons (pv 4 (hv := Or.inl rfl)) pa_nil))) (pa_cons (pv 5 (hv := Or.inl rfl)) pa_nil)))) (pe_lst (pa_cons (pe_tup (pa_cons (pe_op op_mod (pe_callTy (T := "int") (r := rIntC) call_int1 (by rfl) T.n_int (by decide +kernel) (pa_cons (pv 15 (hv := Or.inl rfl)) pa_nil)) (pv 3 (hv := Or.inl rfl))) (pa_cons (pv 6 (hv := Or.inl rfl)) pa_nil))) pa_nil)) (nomark _))))) (pss_one (ps_ret pe_bl)) pss_nil)
      (pss_one (ps_ret (pe_and (pe_cmpR (op_eqD hr.units) (pe_call G_ring_of hr_ring_of rfl T.g_ring_of T.k_ring_of T.b_ring_of .nil pass0 (pa_cons (pv 1 (hv := Or.inl rfl)) (pa_cons (pe_tup (pa_cons (pv 14 (hv := Or.inl rfl)) (pa_cons (pv 4 (hv := Or.inl rfl)) pa_nil))) (pa_cons (pv 15 (hv := Or.inl rfl)) pa_nil)))) (pe_tup (pa_cons pe_int (pa_cons pe_int pa_nil))) (nomark _)) (pe_one (pe_cmpR (op_eqD hr.units) (pe_call G_ring_lengths hr_ring_lengths rfl T.g_ring_lengths T.k_ring_lengths T.b_ring_lengths .nil pass0 (pa_cons (pv 1 (hv := Or.inl rfl)) (pa_cons (pe_tup (pa_cons (pv 14 (hv := Or.inl rfl)) (pa_cons (pv 4 (hv := Or.inl rfl)) pa_nil))) pa_nil))) (pe_lst (pa_cons (pe_tup (pa_cons pe_int (pa_cons pe_int pa_nil))) pa_nil)) (nomark _)))))))))))))), ?_⟩
    try dsimp only [cxOf, Cx.nox, Cx.wish, Cx.blk]
    rw [show L2.start ["_law_source", "_law_kind", "_law_low", "_law_size", "_law_c", "_law_x", "_law_bits", "_law_back", "_law_turn", "_law_due", "_law_three", "_law_odd", "_law_firsts", "_law_k", "_law_a", "_law_still"] [.ref p, .ref kx, .int (loK wd s), .int (2 ^ wd)] = [some (.ref p), some (.ref kx), some (.int (loK wd s)), some (.int (2 ^ wd)), none, none, none, none, none, none, none, none, none, none, none, none] from rfl]
    obtain ⟨hk, nk, hs, w1, w128, k⟩ := h
    have hp := p2 wd
    walk_at "rd"
    refine w_par3 ?_
    walk_at "rd"
    refine ⟨p, wd, s, rfl, hs, w128, fun c H1 ic kp1 hs1 => ?_⟩
    walk_at "rd"
    refine ⟨p, wd, s, rfl, hs1, w128, fun x H2 ix kp2 hs2 => ?_⟩
    walk_at "rd"
    have hk2 := hk.kp hs (kp1.trans kp2)
    have kp2 := kp1.trans kp2
    obtain ⟨⟨dx, e0⟩, _, _⟩ := id hk2
    refine ⟨kx, dx, _, rfl, e0, nop_kf wd s, kx, wd, s, rfl, hk2, fun qp hqp => ?_⟩
    have s3 := sm_new (o := .tup [.int (wd : Int), .bl s]) (Same.refl H2) hqp
    have hqp' : (L2.upd H2 qp (.tup [.int (wd : Int), .bl s])) qp = some (.tup [.int (wd : Int), .bl s]) := upd_same
    generalize L2.upd H2 qp _ = H3 at s3 hqp' ⊢
    walk_at "rd"
    refine ⟨_, _, _, rfl, ?_⟩
    walk_at "rd"
    refine ⟨_, wd, s, rfl, ?_⟩
    obtain ⟨b, hb⟩ : ∃ b, b = wr wd s (-1) := ⟨_, rfl⟩
    rw [← hb]
    walk_at "rd"
    refine ⟨_, wd, s, rfl, ?_⟩
    walk_at "rd"
    have hk3 := hk2.same s3
    have hs3 := hs2.same s3
    have kp3 := kp2.trans (Kp.of_same (p := p) s3)
    obtain ⟨bo, b1⟩ := neg_ac w1 hb
    have ib : Iv wd s b := by rw [hb]; exact Iv.wr
    clear hk hs kp1 kp2 hs1 hs2 hk2 s3 hqp' hqp
    obtain ⟨ev, hev⟩ : ∃ ev : Int, ev = 2 - (if wr wd s (c - x) = x then 1 else 0) := ⟨_, rfl⟩
    rw [show (2 - if decide (wr wd s (c - x) = x) = true then 1 else 0 : Int) = ev by rw [hev]; simp only [decide_eq_true_eq]]
    refine ⟨by show 2 ≤ sizeLine; decide, fun qd hqd => ?_⟩
    have hqd' : (L2.upd H3 qd (.tup [.int 0, .int ev])) qd = some (.tup [.int 0, .int ev]) := upd_same
    have s4 := sm_new (o := .tup [.int 0, .int ev]) (Same.refl H3) hqd
    generalize L2.upd H3 qd _ = H4 at s4 hqd' ⊢
    walk_at "rd"
    refine ⟨by show 2 ≤ sizeLine; decide, fun t1 ht1 => ?_⟩
    have s5 := sm_new (o := .tup [.int b, .int c]) s4 ht1
    walk_at "rd"
    refine ⟨kx, t1, b, c, x, wd, s, rfl, hk3.same s5, upd_same, ib, ic, ix, fun t4 l i H7 s7 h4 hl hr _ => ?_⟩
    obtain rfl := hl.1 bo
    rw [neg_ring b1 ix (show RingL wd b c x i from hr), ← hev] at h4
    have hqd7 := s7 _ _ (gn hqd' ht1)
    have s7 := s5.trans s7
    walk_at "rd"
    refine w_neDg (dp_pair h4) (dp_pair hqd7) (sh_pair _ _) (sh_pair _ _) ?_
    rw [show ((0 : Nat) : Int) = 0 from rfl, eqv_pair]
    clear h4 hqd7 s5 ht1 s4 hqd' hqd
    walk_at "rd"
    refine iteF ?_
    walk_at "rd"
    refine ⟨by show 2 ≤ sizeLine; decide, fun t5 ht5 => ?_⟩
    have s8 := sm_new (o := .tup [.int b, .int c]) s7 ht5
    walk_at "rd"
    refine use_st_turning (hk3.same s8) upd_same ib ic ix (2 * (5 * 10 ^ 29) + 1) (by decide +kernel) (neg_st b1 _) Iv.wr (fun H9 s9 => ?_)
    have s9 := s8.trans s9
    clear s8 s7 ht5
    walk_at "rd"
    refine w_ndecT rfl ?_
    have hk9 := hk3.same s9
    have hs9 := hs3.same s9
    have kp9 := kp3.trans (Kp.of_same (p := p) s9)
    generalize wr wd s (c - x) = tn
    clear hk3 hs3 kp3 s9 hev
    walk_at "rd"
    refine w_stJ (fun σ' H' => (∃ v10 v11 v12 v13 : Option V, σ' = [some (.ref p), some (.ref kx), some (.int (loK wd s)), some (.int (2 ^ wd)), some (.int c), some (.int x), some (.int (wd : Int)), some (.int b), some (.int tn), some (.ref qd), v10, v11, v12, v13, none, none]) ∧ Kp p H9 H' ∧ SrcAt H' p) (fun cc D' q' => ?_) (fun cc D' q' => ?_) ?_
    · walk_at "rd"
      refine ⟨_, wd, s, rfl, ?_⟩
      obtain ⟨th, hth⟩ : ∃ th, th = wr wd s 3 := ⟨_, rfl⟩
      rw [← hth]
      walk_at "rd"
      refine ⟨p, 2 ^ wd, rfl, hs9, hp, b129p w128, fun u H10 u0 u1 kp10 hs10 => ?_⟩
      walk_at "rd"
      refine ⟨_, wd, s, rfl, ?_⟩
      obtain ⟨od, hod⟩ : ∃ od, od = wr wd s (2 * u + 1) := ⟨_, rfl⟩
      rw [← hod]
      obtain ⟨t16, o2⟩ := thr_ac (show 3 < wd by omega) hth hod
      have ith : Iv wd s th := by rw [hth]; exact Iv.wr
      have iod : Iv wd s od := by rw [hod]; exact Iv.wr
      have hk10 := hk9.kp hs9 kp10
      walk_at "rd"
      refine ⟨by show 2 ≤ sizeLine; decide, fun q1 hq1 => ?_⟩
      walk_at "rd"
      refine w_srt (ns := [od % 8, 3 * od % 8]) (SqL.of upd_same) (fun ns' q2 pm so hq2 => ?_)
      obtain ⟨f, hf⟩ : ∃ f, f = min (od % 8) (3 * od % 8) := ⟨_, rfl⟩
      obtain ⟨g, hg⟩ : ∃ g, g = max (od % 8) (3 * od % 8) := ⟨_, rfl⟩
      have e2 : ns' = [f, g] := by rw [sort2 pm so, hf, hg]
      subst e2
      have hq2' : (L2.upd (L2.upd H10 q1 (.lst [.int (od % 8), .int (3 * od % 8)])) q2 (.lst ([f, g].map V.int))) q2 = some (.lst ([f, g].map V.int)) := upd_same
      have s11 := sm_new (o := .lst ([f, g].map V.int)) (sm_new (o := .lst [.int (od % 8), .int (3 * od % 8)]) (Same.refl H10) hq1) hq2
      generalize L2.upd (L2.upd H10 q1 _) q2 _ = H11 at hq2' s11 ⊢
      clear hq1 hq2 pm so
      walk_at "rd"
      refine ⟨by show 2 ≤ sizeLine; decide, fun t1 ht1 => ?_⟩
      have s12 := sm_new (o := .tup [.int th, .int 0]) s11 ht1
      walk_at "rd"
      refine ⟨kx, t1, th, 0, od, wd, s, rfl, hk10.same s12, upd_same, ith, iv_0T w1, iod, fun t4 l i H12 s13 h4 hl hr _ => ?_⟩
      obtain rfl := hl.1 (by omega)
      rw [thr_i (show 3 < wd by omega) t16 o2 (show RingL wd th 0 od i from hr)] at h4
      have hq2' := s13 _ _ (gn hq2' ht1)
      have s13 := s12.trans s13
      walk_at "rd"
      rw [p2div4 (show 2 ≤ wd by omega)]
      refine ⟨by show 2 ≤ sizeLine; decide, fun u3 hu3 => ?_⟩
      refine w_neDg (dp_pair (gn h4 hu3)) (dp_pair upd_same) (sh_pair _ _) (sh_pair _ _) ?_
      rw [show ((0 : Nat) : Int) = 0 from rfl, eqv_pair]
      have hq2' := gn (u := .tup [.int 0, .int (2 ^ (wd - 2))]) hq2' hu3
      have s14 := sm_new (o := .tup [.int 0, .int (2 ^ (wd - 2))]) s13 hu3
      generalize L2.upd H12 u3 _ = H13 at s14 hq2' ⊢
      clear h4 s13 s12 s11 ht1 hu3
      walk_at "rd"
      refine iteF ?_
      walk_at "rd"
      refine ⟨by show 2 ≤ sizeLine; decide, fun t5 ht5 => ?_⟩
      have s15 := sm_new (o := .tup [.int th, .int 0]) s14 ht5
      walk_at "rd"
      refine ⟨kx, t5, th, 0, od, wd, s, rfl, hk10.same s15, upd_same, ith, iv_0T w1, iod, fun t6 l H16 hl hrow s16 => ?_⟩
      obtain rfl := hl.1 (by omega)
      obtain ⟨nr, cv⟩ := thr_row (show 3 < wd by omega) t16 o2 hf hg
      obtain ⟨out6, h6, r6⟩ := hrow.list nr cv
      have hq2' := s16 _ _ (gn hq2' ht5)
      have s16 := s15.trans s16
      clear s15 s14 ht5 hrow
      walk_at "rd"
      refine ⟨⟨_, SqL.of hq2'⟩, fun D2 hD2 => lc_list (K := K) (a := q2) (xs := [f, g].map V.int) (fun j H' => Same H16 H' ∧ ∃ os, H' D2 = some (.lst os) ∧ PRow H' os ([(f, 3), (g, 3)].take j)) ⟨sm_new (Same.refl H16) hD2, [], upd_same, .nil⟩ (fun i H' _ q => SqL.of (q.1 _ _ hq2')) ?_ ?_⟩
      · rintro j z H' hj ⟨sm, os, hos, row⟩
        obtain ⟨n, hn, rfl⟩ := map_get hj
        have ol : os.length ≤ 2 := by rw [row.len, List.length_take]; exact Nat.min_le_right _ _
        walk_at "rd"
        refine ⟨rfl, ?_⟩
        walk_at "rd"
        refine iteT ?_
        walk_at "rd"
        refine ⟨by show 2 ≤ sizeLine; decide, fun T2 hT2 => ?_⟩
        refine ⟨os, gn hos hT2, Nat.lt_of_le_of_lt ol (by decide), sm_mut (sm_new sm hT2) hD2, os ++ [.ref T2], upd_same, ?_⟩
        have nT2 : T2 ≠ D2 := fun z => by
          rw [z, hos] at hT2; cases hT2
        have e3 : [(f, 3), (g, 3)].take (j + 1) = [(f, 3), (g, 3)].take j ++ [(n, 3)] := by
          rw [List.take_add_one]
          congr 1
          match j, hn with
          | 0, hn => rw [← Option.some.inj hn]; rfl
          | 1, hn => rw [← Option.some.inj hn]; rfl
        rw [e3]
        refine PRow.add (row.keep fun q f e h => ?_) ?_
        · rw [upd_ne (ne_of h hos (by intro z; cases z))]
          exact gn h hT2
        · rw [upd_ne nT2]; exact upd_same
      rintro H17 ⟨sm, os, hos, row⟩
      walk_at "rd"
      refine w_neRow (sm _ _ h6) (r6.same sm) hos row ?_
      have s17 := s16.trans sm
      refine ⟨_, rfl, ?_⟩
      refine iteF ?_
      exact q' _ _ ⟨⟨_, _, _, _, rfl⟩, kp10.trans (Kp.of_same (p := p) s17), hs10.same s17⟩
    · walk_at "rd"
      exact q' _ _ ⟨⟨_, _, _, _, rfl⟩, Kp.refl p H9, hs9⟩
    rintro _ H10 ⟨⟨v10, v11, v12, v13, rfl⟩, kp10, hs10⟩
    have hk10 := hk9.kp hs9 kp10
    have kp10 := kp9.trans kp10
    clear hk9 hs9 kp9
    dsimp only
    walk_at "rd"
    refine ⟨p, 2 ^ wd, rfl, hs10, hp, b129p w128, fun u H11 u0 u1 kp11 hs11 => ?_⟩
    have hk11 := hk10.kp hs10 kp11
    have kp11 := kp10.trans kp11
    walk_at "rd"
    refine ⟨_, wd, s, rfl, ?_⟩
    obtain ⟨a, ha⟩ : ∃ a, a = wr wd s (2 * u) := ⟨_, rfl⟩
    rw [← ha]
    obtain ⟨ae, io⟩ := ev_ac (s := s) w1 ha
    have ia : Iv wd s a := by rw [ha]; exact Iv.wr
    walk_at "rd"
    refine ⟨_, wd, s, rfl, ?_⟩
    walk_at "rd"
    refine ⟨kx, _, wd, s, rfl, hk11, ⟨wr_lo _ _ _, wr_hi _ _ _⟩, .inr ⟨io, fun y hy => ?_⟩⟩
    walk_at "rd"
    refine w_I (mulx_ok (a := 200) (b := 200) (Nat.lt_of_lt_of_le (Iv.wr.b w128) (Nat.pow_le_pow_right (by decide) (by decide))) (Nat.lt_of_lt_of_le (ic.b w128) (Nat.pow_le_pow_right (by decide) (by decide))) (by decide)) ?_
    walk_at "rd"
    refine ⟨_, wd, s, rfl, ?_⟩
    obtain ⟨st, hst⟩ : ∃ st, st = wr wd s (wr wd s y * c) := ⟨_, rfl⟩
    rw [← hst]
    have fx := ev_fix hy hst
    have ist : Iv wd s st := by rw [hst]; exact Iv.wr
    clear hy hst ha kp10 hk10 hs10
    walk_at "rd"
    refine ⟨by show 2 ≤ sizeLine; decide, fun t1 ht1 => ?_⟩
    have s2 := sm_new (o := .tup [.int a, .int c]) (Same.refl H11) ht1
    walk_at "rd"
    refine use_st_turning (hk11.same s2) upd_same ia ic ix wd rfl (ev_end ae fx) ist (fun H12 s12 => ?_)
    have s12 := s2.trans s12
    walk_at "rd"
    refine w_ndecT rfl ?_
    walk_at "rd"
    refine ⟨by show 2 ≤ sizeLine; decide, fun t2 ht2 => ?_⟩
    have s13 := sm_new (o := .tup [.int a, .int c]) s12 ht2
    walk_at "rd"
    refine ⟨kx, t2, a, c, x, wd, s, rfl, hk11.same s13, upd_same, ia, ic, ix, fun t6 l H16 hl hrow s16 => ?_⟩
    obtain ⟨nr, cv⟩ := ev_row ae fx hl
    obtain ⟨out6, h6, r6⟩ := hrow.list nr cv
    have s16 := s13.trans s16
    walk_at "rd"
    refine w_I hp ?_
    walk_at "rd"
    refine ⟨by show 2 ≤ sizeLine; decide, fun u4 hu4 => ?_⟩
    walk_at "rd"
    refine ⟨by show 1 ≤ sizeLine; decide, fun u5 hu5 => ?_⟩
    have s11 := sm_new (o := .lst [.ref u4]) (sm_new (o := .tup [.int (st % 2 ^ wd), .int (wd : Int)]) (Same.refl H16) hu4) hu5
    refine w_neRow (s11 _ _ h6) (r6.same s11) upd_same (.cons (gn upd_same hu5) .nil) ?_
    have s17 := s16.trans s11
    generalize L2.upd (L2.upd H16 u4 _) u5 _ = H17 at s17 ⊢
    clear h6 r6 s16 s13 s12 s2 ht1 ht2 hu4 hu5 s11 hrow
    walk_at "rd"
    refine iteF ?_
    walk_at "rd"
    refine ⟨by show 2 ≤ sizeLine; decide, fun t3 ht3 => ?_⟩
    have s18 := sm_new (o := .tup [.int a, .int c]) s17 ht3
    walk_at "rd"
    refine ⟨kx, t3, a, c, st, wd, s, rfl, hk11.same s18, upd_same, ia, ic, ist, fun t4 l4 i4 H19 s19 h4 hl4 _ hi4 => ?_⟩
    obtain rfl := ev_lead ae fx hl4
    obtain rfl := hi4 ae
    have s19 := s18.trans s19
    walk_at "rd"
    refine ⟨by show 2 ≤ sizeLine; decide, fun u3 hu3 => ?_⟩
    refine w_eqDg (dp_pair (gn h4 hu3)) (dp_pair upd_same) (sh_pair _ _) (sh_pair _ _) ?_
    rw [show ((0 : Nat) : Int) = 0 from rfl, show (2 : Int) ^ 0 = 1 from rfl, eqv_pair]
    have s20 := sm_new (o := .tup [.int 0, .int 1]) s19 hu3
    generalize L2.upd H19 u3 _ = H20 at s20 ⊢
    refine ⟨_, rfl, ?_⟩
    refine iteT ?_
    walk_at "rd"
    refine ⟨by show 2 ≤ sizeLine; decide, fun t7 ht7 => ?_⟩
    have s21 := sm_new (o := .tup [.int a, .int c]) s20 ht7
    walk_at "rd"
    refine use_rl_turning (hk11.same s21) upd_same ia ic (rl_even ae) (fun t8 out8 H22 s22 h8 r8 => ?_)
    have s22 := s21.trans s22
    walk_at "rd"
    refine ⟨by show 2 ≤ sizeLine; decide, fun u6 hu6 => ?_⟩
    walk_at "rd"
    refine ⟨by show 1 ≤ sizeLine; decide, fun u7 hu7 => ?_⟩
    have s23 := sm_new (o := .lst [.ref u6]) (sm_new (o := .tup [.int 1, .int 1]) (Same.refl H22) hu6) hu7
    refine w_eqRow (s23 _ _ h8) (r8.same s23) upd_same (.cons (gn upd_same hu7) .nil) ?_
    have s23 := s22.trans s23
    exact k _ (kp11.trans (Kp.of_same (p := p) s23)) (hs11.same s23)
def sp_law (K : PySem.W.Frag) (C : Addr) : Sp := fun vs H Q _ => ∃ (a : Addr) (ns : List Int), vs = [.ref a] ∧ SqL K H a (ns.map V.int) ∧ ns.length ≤ 63 ∧ ∀ H', Q (.bl true) H'
theorem ok_law {P : Program} {w : World} {K : PySem.W.Frag} {mg : Str → Option Value} {base : Heap} (T : Txt K mg) : FnOk P w K mg base CX0 11 T.f_law T.fd_law ["_law_script"] (sp_law K T.C_Kind) := by
  have G_Kind_parts := ok_Kind_parts (P := P) (w := w) (base := base) T
  have G__law_any_right := ok__law_any_right (P := P) (w := w) (base := base) T
  have G__law_cell_at := ok__law_cell_at (P := P) (w := w) (base := base) T
  have G__law_draw_kind := ok__law_draw_kind (P := P) (w := w) (base := base) T
  have G__law_source_of := ok__law_source_of (P := P) (w := w) (base := base) T
  have G__law_turning_right := ok__law_turning_right (P := P) (w := w) (base := base) T
  have G__law_twos_right := ok__law_twos_right (P := P) (w := w) (base := base) T
  have G__law_whole_right := ok__law_whole_right (P := P) (w := w) (base := base) T
  refine T.F_law.ok sc_law (fun vs H Q E h => ?_) (fun cdv A outer s H vs Q E hr h => ?_)
  · obtain ⟨a, ns, rfl, _⟩ := h
    rfl
  · obtain ⟨a, ns, rfl, h⟩ := h
    have hr_Kind_parts : Room 1 _ := hr.mono (by decide)
    have hr__law_any_right : Room 9 _ := hr.mono (by decide)
    have hr__law_cell_at : Room 1 _ := hr.mono (by decide)
    have hr__law_draw_kind : Room 4 _ := hr.mono (by decide)
    have hr__law_source_of : Room 1 _ := hr.mono (by decide)
    have hr__law_turning_right : Room 10 _ := hr.mono (by decide)
    have hr__law_twos_right : Room 10 _ := hr.mono (by decide)
    have hr__law_whole_right : Room 10 _ := hr.mono (by decide)
    refine ⟨_, (pss_cons (ps_for PassesOwn.never rfl (pi_list (pe_op op_cat (pe_lst (pa_cons (pe_call G__law_cell_at hr__law_cell_at rfl T.g__law_cell_at T.k__law_cell_at T.b__law_cell_at .nil pass0 (pa_cons (pv 0 (hv := Or.inl rfl)) (pa_cons pe_int pa_nil))) pa_nil)) (pe_slice sl_list (pv 0 (hv := Or.inl rfl)) (po_some pe_int) (po_some pe_int)))) (pg_name (i := 1) sc_law.nd rfl (Or.inl rfl))
        (pss_cons (ps_set (i := 2) sc_law.nd rfl (Or.inl rfl) (pe_call G__law_source_of hr__law_source_of rfl T.g__law_source_of T.k__law_source_of T.b__law_source_of .nil pass0 (pa_cons (pv 1 (hv := Or.inl rfl)) pa_nil)))
      (pss_cons (ps_asg (pe_call G__law_draw_kind hr__law_draw_kind rfl T.g__law_draw_kind T.k__law_draw_kind T.b__law_draw_kind .nil pass0 (pa_cons (pv 2 (hv := Or.inl rfl)) (pa_cons pe_int pa_nil))) (pg_tup rfl (pgs_cons (pg_name (i := 3) sc_law.nd rfl (Or.inl rfl)) (pgs_cons (pg_name (i := 4) sc_law.nd rfl (Or.inl rfl)) (pgs_cons (pg_name (i := 5) sc_law.nd rfl (Or.inl rfl)) pgs_nil)))))
      (pss_cons (ps_if (PW.pt (pw_and (pt_cmpR op_gt (pe_ix (r := rIxT K) ix_tup (pe_meth0 (pv 3 (hv := Or.inl rfl)) T.cl_Kind T.m_Kind_parts G_Kind_parts hr_Kind_parts T.b_Kind_parts .nil pass0) pe_int (fun _ _ => rfl)) pe_int (nomark _)) (pw_and1 (pt_not (pt_val (pe_call G__law_whole_right hr__law_whole_right rfl T.g__law_whole_right T.k__law_whole_right T.b__law_whole_right .nil pass0 (pa_cons (pv 2 (hv := Or.inl rfl)) (pa_cons (pv 3 (hv := Or.inl rfl)) (pa_cons (pv 4 (hv := Or.inl rfl)) (pa_cons (pv 5 (hv := Or.inl rfl)) pa_nil)))))))))) (pss_one (ps_ret pe_bl)) pss_nil)
      (pss_cons (ps_if (PW.pt (pw_or (pt_not (pt_val (pe_call G__law_twos_right hr__law_twos_right rfl T.g__law_twos_right T.k__law_twos_right T.b__law_twos_right .nil pass0 (pa_cons (pv 2 (hv := Or.inl rfl)) (pa_cons (pv 3 (hv := Or.inl rfl)) (pa_cons (pv 4 (hv := Or.inl rfl)) (pa_cons (pv 5 (hv := Or.inl rfl)) pa_nil))))))) (pw_or1 (pt_not (pt_val (pe_call G__law_turning_right hr__law_turning_right rfl T.g__law_turning_right T.k__law_turning_right T.b__law_turning_right .nil pass0 (pa_cons (pv 2 (hv := Or.inl rfl)) (pa_cons (pv 3 (hv := Or.inl rfl)) (pa_cons (pv 4 (hv := Or.inl rfl)) (pa_cons (pv 5 (hv := Or.inl rfl)) pa_nil)))))))))) (pss_one (ps_ret pe_bl)) pss_nil)
      (pss_one (ps_for PassesOwn.never rfl (pi_range1 (by rfl) T.n_range (pa_cons pe_int pa_nil)) (pg_name (i := 6) sc_law.nd rfl (Or.inl rfl))
        (pss_one (ps_if (PW.pt (pw_and (pt_cmpR op_gt (pe_ix (r := rIxT K) ix_tup (pe_meth0 (pv 3 (hv := Or.inl rfl)) T.cl_Kind T.m_Kind_parts G_Kind_parts hr_Kind_parts T.b_Kind_parts .nil pass0) pe_int (fun _ _ => rfl)) pe_int (nomark _)) (pw_and1 (pt_not (pt_val (pe_call G__law_any_right hr__law_any_right rfl T.g__law_any_right T.k__law_any_right T.b__law_any_right .nil pass0 (pa_cons (pv 2 (hv := Or.inl rfl)) (pa_cons (pv 3 (hv := Or.inl rfl)) (pa_cons (pv 4 (hv := Or.inl rfl)) (pa_cons (pv 5 (hv := Or.inl rfl)) pa_nil)))))))))) (pss_one (ps_ret pe_bl)) pss_nil)))))))))
      (pss_one (ps_ret pe_bl))), ?_⟩
    try dsimp only [cxOf, Cx.nox, Cx.wish, Cx.blk]
    rw [show L2.start ["_law_script", "_law_cell", "_law_source", "_law_kind", "_law_low", "_law_size", "_law_turn"] [.ref a] = [some (.ref a), none, none, none, none, none, none] from rfl]
    obtain ⟨hS, n63, k⟩ := h
    walk_at "rd"
    refine ⟨a, ns, rfl, hS, n63, fun c0 H1 s1 => ?_⟩
    walk_at "rd"
    refine ⟨by show 1 ≤ sizeLine; decide, fun q1 hq1 => ?_⟩
    walk_at "rd"
    obtain ⟨ms, em, lm, _⟩ := cut_map V.int ns (some 1) (some 4)
    refine w_slL ((sm_new s1 hq1).seq hS) (fun q2 hq2 => ?_)
    rw [em]
    refine w_cat (gn upd_same hq2) upd_same (by rw [List.length_map]; exact Nat.le_trans (show 1 + ms.length ≤ 64 by omega) (by decide)) (fun q3 hq3 => ?_)
    walk_at "rd"
    refine ⟨⟨_, SqL.of upd_same⟩, for_list (K := K) (a := q3) (xs := (c0 :: ms).map V.int) (fun i σ H' => (∃ v1 v2 v3 v4 v5 v6 : Option V, σ = [some (.ref a), v1, v2, v3, v4, v5, v6]) ∧ H' q3 = some (.lst ((c0 :: ms).map V.int)))
      ⟨⟨_, _, _, _, _, _, rfl⟩, upd_same⟩ (fun i σ H' _ p => SqL.of p.2) ?_ (fun σ H' _ => by walk_at "rd"; exact k _)⟩
    rintro i x σ H' hi ⟨⟨v1, v2, v3, v4, v5, v6, rfl⟩, hx⟩
    obtain ⟨c, _, rfl⟩ := map_get hi
    clear hi em hq1 hq2 hq3 s1 hS
    walk_at "rd"
    refine ⟨c, rfl, fun p H2 hp s2 hs2 => ?_⟩
    have npq : q3 ≠ p := ne_of_none hx hp
    have hx2 := s2 _ _ hx
    clear hx s2 hp
    walk_at "rd"
    
    refine ⟨p, 128, rfl, hs2, by decide, by decide, fun t0 kx wd s H3 w1 w2' hk nk nt0 ht0 kp3 hs3 => ?_⟩
    have w2 : wd ≤ 128 := by omega
    have hx3 := kp3 _ _ npq hx2
    clear hs2 hx2 kp3
    obtain ⟨⟨dx, e0⟩, _, _⟩ := id hk
    walk_at "rd"
    refine ⟨kx, dx, _, rfl, e0, nop_kf wd s, kx, wd, s, rfl, hk, fun qp hqp => ?_⟩
    have s4 := sm_new (o := .tup [.int (wd : Int), .bl s]) (Same.refl H3) hqp
    have hqp' : (L2.upd H3 qp (.tup [.int (wd : Int), .bl s])) qp = some (.tup [.int (wd : Int), .bl s]) := upd_same
    generalize L2.upd H3 qp _ = H4 at s4 hqp' ⊢
    have hk4 := hk.same s4
    have hs4 := hs3.same s4
    have hx4 := s4 _ _ hx3
    clear hs3 hk ht0 s4 e0 hx3
    walk_at "rd"
    refine w_decJ (c := (1 : Int) < (wd : Int)) (fun H' => Kp p H4 H' ∧ SrcAt H' p) (fun c2 Q hQ => ?_) (fun _ => ⟨Kp.refl p H4, hs4⟩) ?_
    · walk_at "rd"
      refine ⟨p, kx, wd, s, rfl, hk4, nk, hs4, by omega, w2, fun H' kp hs => ?_⟩
      walk_at "rd"
      exact hQ _ ⟨kp, hs⟩
    rintro H5 ⟨kp5, hs5⟩
    have hk5 := hk4.kp hs4 kp5
    have hx5 := kp5 _ _ npq hx4
    clear hk4 hs4 hx4 kp5
    refine iteF ?_
    walk_at "rd"
    refine ⟨p, kx, wd, s, rfl, hk5, nk, hs5, w1, w2, fun H6 kp6 hs6 => ?_⟩
    have hk6 := hk5.kp hs5 kp6
    have hx6 := kp6 _ _ npq hx5
    clear hk5 hs5 hx5 kp6
    walk_at "rd"
    refine iteF ?_
    walk_at "rd"
    refine ⟨p, kx, wd, s, rfl, hk6, nk, hs6, w1, w2, fun H7 kp7 hs7 => ?_⟩
    have hk7 := hk6.kp hs6 kp7
    have hx7 := kp7 _ _ npq hx6
    clear hk6 hs6 hx6 kp7
    walk_at "rd"
    refine iteF ?_
    walk_at "rd"
    refine ⟨3, rfl, by decide, by decide, for_range (lo := 0) (n := 3) (fun i σ H' => (∃ v6 : Option V, σ = [some (.ref a), some (.int c), some (.ref p), some (.ref kx), some (.int (loK wd s)), some (.int (2 ^ wd)), v6]) ∧ Kd T.C_Kind H' kx wd s ∧ SrcAt H' p ∧ H' q3 = some (.lst ((c0 :: ms).map V.int)))
      ⟨⟨_, rfl⟩, hk7, hs7, hx7⟩ ?_ (fun σ H' ⟨⟨_, e⟩, _, _, z⟩ => ⟨⟨_, _, _, _, _, _, e⟩, z⟩)⟩
    clear hk7 hs7 hx7
    rintro j σ H8 hj ⟨⟨v6, rfl⟩, hk8, hs8, hx8⟩
    obtain ⟨⟨dx8, e8⟩, _, _⟩ := id hk8
    walk_at "rd"
    refine ⟨kx, dx8, _, rfl, e8, nop_kf wd s, kx, wd, s, rfl, hk8, fun qp hqp => ?_⟩
    have s9 := sm_new (o := .tup [.int (wd : Int), .bl s]) (Same.refl H8) hqp
    have hqp' : (L2.upd H8 qp (.tup [.int (wd : Int), .bl s])) qp = some (.tup [.int (wd : Int), .bl s]) := upd_same
    generalize L2.upd H8 qp _ = H9 at s9 hqp' ⊢
    have hk9 := hk8.same s9
    have hs9 := hs8.same s9
    have hx9 := s9 _ _ hx8
    clear hs8 hk8 s9 e8 hx8
    walk_at "rd"
    refine w_decJ (c := (2 : Int) < (wd : Int)) (fun H' => Kp p H9 H' ∧ SrcAt H' p) (fun c2 Q hQ => ?_) (fun _ => ⟨Kp.refl p H9, hs9⟩) ?_
    · walk_at "rd"
      refine ⟨p, kx, wd, s, rfl, hk9, nk, hs9, by omega, w2, fun H' kp hs => ?_⟩
      walk_at "rd"
      exact hQ _ ⟨kp, hs⟩
    rintro H10 ⟨kp10, hs10⟩
    refine iteF ?_
    walk_at "rd"
    exact ⟨⟨_, rfl⟩, hk9.kp hs9 kp10, hs10, kp10 _ _ npq hx9⟩
theorem mk_txt {K : PySem.W.Frag} {h : Heap} {mg : Str → Option Value} {C_Kind f_joined f_is_integer f_check_integer f_factors_of_two f_twos_in f_odd_inverse f_Kind___init__ f_Kind_parts f_check_kind f_check_value f_least f_greatest f_is_value f_wrapped f_inverse f_is_generator f_check_generator f_moved f_after f_repeated f_after_many f_steps_to_ring f_ring_length f__check f__check_start f_stepped f_ring_of f__unmoved_total f_ring_lengths f_ring_values f__law_source_of f__law_next f__law_one f__law_cell_at f__law_wide f__law_draw_kind f__law_value f__law_put f__law_whole_right f__law_twos_right f__law_any_right f__law_turning_right f_law : Addr} (X : K.In h) (G : h.Ns mainGlobals mg)
    {od_joined an_joined od_is_integer an_is_integer od_check_integer an_check_integer od_factors_of_two an_factors_of_two od_twos_in an_twos_in od_odd_inverse an_odd_inverse od_Kind___init__ an_Kind___init__ od_Kind_parts an_Kind_parts od_check_kind an_check_kind od_check_value an_check_value od_least an_least od_greatest an_greatest od_is_value an_is_value od_wrapped an_wrapped od_inverse an_inverse od_is_generator an_is_generator od_check_generator an_check_generator od_moved an_moved od_after an_after od_repeated an_repeated od_after_many an_after_many od_steps_to_ring an_steps_to_ring od_ring_length an_ring_length od__check an__check od__check_start an__check_start od_stepped an_stepped od_ring_of an_ring_of od__unmoved_total an__unmoved_total od_ring_lengths an_ring_lengths od_ring_values an_ring_values od__law_source_of an__law_source_of od__law_next an__law_next od__law_one an__law_one od__law_cell_at an__law_cell_at od__law_wide an__law_wide od__law_draw_kind an__law_draw_kind od__law_value an__law_value od__law_put an__law_put od__law_whole_right an__law_whole_right od__law_twos_right an__law_twos_right od__law_any_right an__law_any_right od__law_turning_right an__law_turning_right od_law an_law : Option Addr} {sl_joined sl_is_integer sl_check_integer sl_factors_of_two sl_twos_in sl_odd_inverse sl_Kind___init__ sl_Kind_parts sl_check_kind sl_check_value sl_least sl_greatest sl_is_value sl_wrapped sl_inverse sl_is_generator sl_check_generator sl_moved sl_after sl_repeated sl_after_many sl_steps_to_ring sl_ring_length sl__check sl__check_start sl_stepped sl_ring_of sl__unmoved_total sl_ring_lengths sl_ring_values sl__law_source_of sl__law_next sl__law_one sl__law_cell_at sl__law_wide sl__law_draw_kind sl__law_value sl__law_put sl__law_whole_right sl__law_twos_right sl__law_any_right sl__law_turning_right sl_law : Array (Option Value)} {oc_joined kV_joined dc_joined pm_joined cd_joined ct_joined oc_is_integer kV_is_integer dc_is_integer pm_is_integer cd_is_integer ct_is_integer oc_check_integer kV_check_integer dc_check_integer pm_check_integer cd_check_integer ct_check_integer oc_factors_of_two kV_factors_of_two dc_factors_of_two pm_factors_of_two cd_factors_of_two ct_factors_of_two oc_twos_in kV_twos_in dc_twos_in pm_twos_in cd_twos_in ct_twos_in oc_odd_inverse kV_odd_inverse dc_odd_inverse pm_odd_inverse cd_odd_inverse ct_odd_inverse oc_Kind___init__ kV_Kind___init__ dc_Kind___init__ pm_Kind___init__ cd_Kind___init__ ct_Kind___init__ oc_Kind_parts kV_Kind_parts dc_Kind_parts pm_Kind_parts cd_Kind_parts ct_Kind_parts oc_check_kind kV_check_kind dc_check_kind pm_check_kind cd_check_kind ct_check_kind oc_check_value kV_check_value dc_check_value pm_check_value cd_check_value ct_check_value oc_least kV_least dc_least pm_least cd_least ct_least oc_greatest kV_greatest dc_greatest pm_greatest cd_greatest ct_greatest oc_is_value kV_is_value dc_is_value pm_is_value cd_is_value ct_is_value oc_wrapped kV_wrapped dc_wrapped pm_wrapped cd_wrapped ct_wrapped oc_inverse kV_inverse dc_inverse pm_inverse cd_inverse ct_inverse oc_is_generator kV_is_generator dc_is_generator pm_is_generator cd_is_generator ct_is_generator oc_check_generator kV_check_generator dc_check_generator pm_check_generator cd_check_generator ct_check_generator oc_moved kV_moved dc_moved pm_moved cd_moved ct_moved oc_after kV_after dc_after pm_after cd_after ct_after oc_repeated kV_repeated dc_repeated pm_repeated cd_repeated ct_repeated oc_after_many kV_after_many dc_after_many pm_after_many cd_after_many ct_after_many oc_steps_to_ring kV_steps_to_ring dc_steps_to_ring pm_steps_to_ring cd_steps_to_ring ct_steps_to_ring oc_ring_length kV_ring_length dc_ring_length pm_ring_length cd_ring_length ct_ring_length oc__check kV__check dc__check pm__check cd__check ct__check oc__check_start kV__check_start dc__check_start pm__check_start cd__check_start ct__check_start oc_stepped kV_stepped dc_stepped pm_stepped cd_stepped ct_stepped oc_ring_of kV_ring_of dc_ring_of pm_ring_of cd_ring_of ct_ring_of oc__unmoved_total kV__unmoved_total dc__unmoved_total pm__unmoved_total cd__unmoved_total ct__unmoved_total oc_ring_lengths kV_ring_lengths dc_ring_lengths pm_ring_lengths cd_ring_lengths ct_ring_lengths oc_ring_values kV_ring_values dc_ring_values pm_ring_values cd_ring_values ct_ring_values oc__law_source_of kV__law_source_of dc__law_source_of pm__law_source_of cd__law_source_of ct__law_source_of oc__law_next kV__law_next dc__law_next pm__law_next cd__law_next ct__law_next oc__law_one kV__law_one dc__law_one pm__law_one cd__law_one ct__law_one oc__law_cell_at kV__law_cell_at dc__law_cell_at pm__law_cell_at cd__law_cell_at ct__law_cell_at oc__law_wide kV__law_wide dc__law_wide pm__law_wide cd__law_wide ct__law_wide oc__law_draw_kind kV__law_draw_kind dc__law_draw_kind pm__law_draw_kind cd__law_draw_kind ct__law_draw_kind oc__law_value kV__law_value dc__law_value pm__law_value cd__law_value ct__law_value oc__law_put kV__law_put dc__law_put pm__law_put cd__law_put ct__law_put oc__law_whole_right kV__law_whole_right dc__law_whole_right pm__law_whole_right cd__law_whole_right ct__law_whole_right oc__law_twos_right kV__law_twos_right dc__law_twos_right pm__law_twos_right cd__law_twos_right ct__law_twos_right oc__law_any_right kV__law_any_right dc__law_any_right pm__law_any_right cd__law_any_right ct__law_any_right oc__law_turning_right kV__law_turning_right dc__law_turning_right pm__law_turning_right cd__law_turning_right ct__law_turning_right oc_law kV_law dc_law pm_law cd_law ct_law : Value} {t_MOST_BITS : Tok}
    (aC_Kind : PySem.W.nsIn K mainGlobals "Kind" = some (some (.ref C_Kind)))
    (a_Kind___init__ : PySem.W.findIn K (.ref C_Kind) "__init__" = some (some (.ref f_Kind___init__)))
    (i_Kind___init__ : PySem.W.isFn K (.ref f_Kind___init__) = true)
    (pg_Kind : PySem.W.plainGet K C_Kind Str.empty = true)
    (hd_Kind : PySem.W.hasDictIn K C_Kind = true)
    (po_Kind : PySem.W.plainOver K C_Kind = true)
    (sa_Kind : PySem.W.findIn K (.ref C_Kind) "__setattr__" = some (some (.builtin "object.__setattr__")))
    (mkk_Kind : PySem.W.makesIn K C_Kind = true)
    (kc_Kind : PySem.W.keepIn K (.ref C_Kind) = true)
    (na_Kind_bits : PySem.W.findIn K (.ref C_Kind) "bits" = some none)
    (na_Kind_is_signed : PySem.W.findIn K (.ref C_Kind) "is_signed" = some none)
    (ia_Kind : PySem.W.findIn K (.ref C_Kind) "__class__" = some (some (.builtin "object.__class__")))
    (ib_Kind : PySem.W.specialIn K (.builtin "object.__class__") "__get__" = some (some (.builtin "getset_descriptor.__get__")))
    (ic_Kind : PySem.W.takesIn K (.builtin "object.__class__") = some true)
    (id_Kind : PySem.W.mroIn K C_Kind (.type "object") = some true)
    (a_joined : PySem.W.nsIn K mainGlobals "joined" = some (some (.ref f_joined)))
    (l_joined : K.lookup f_joined = some ⟨oc_joined, od_joined, .func (PySem.W.fnOf "joined" "joined" (defArgs s_joined) (defBody s_joined) (defScope s_joined) .none kV_joined dc_joined pm_joined an_joined cd_joined ct_joined), sl_joined⟩)
    (c_joined : PySem.W.codeIn K cd_joined "joined" = true)
    (k_joined : PySem.W.keepIn K (.ref f_joined) = true)
    (a_is_integer : PySem.W.nsIn K mainGlobals "is_integer" = some (some (.ref f_is_integer)))
    (l_is_integer : K.lookup f_is_integer = some ⟨oc_is_integer, od_is_integer, .func (PySem.W.fnOf "is_integer" "is_integer" (defArgs s_is_integer) (defBody s_is_integer) (defScope s_is_integer) .none kV_is_integer dc_is_integer pm_is_integer an_is_integer cd_is_integer ct_is_integer), sl_is_integer⟩)
    (c_is_integer : PySem.W.codeIn K cd_is_integer "is_integer" = true)
    (k_is_integer : PySem.W.keepIn K (.ref f_is_integer) = true)
    (a_check_integer : PySem.W.nsIn K mainGlobals "check_integer" = some (some (.ref f_check_integer)))
    (l_check_integer : K.lookup f_check_integer = some ⟨oc_check_integer, od_check_integer, .func (PySem.W.fnOf "check_integer" "check_integer" (defArgs s_check_integer) (defBody s_check_integer) (defScope s_check_integer) .none kV_check_integer dc_check_integer pm_check_integer an_check_integer cd_check_integer ct_check_integer), sl_check_integer⟩)
    (c_check_integer : PySem.W.codeIn K cd_check_integer "check_integer" = true)
    (k_check_integer : PySem.W.keepIn K (.ref f_check_integer) = true)
    (a_factors_of_two : PySem.W.nsIn K mainGlobals "factors_of_two" = some (some (.ref f_factors_of_two)))
    (l_factors_of_two : K.lookup f_factors_of_two = some ⟨oc_factors_of_two, od_factors_of_two, .func (PySem.W.fnOf "factors_of_two" "factors_of_two" (defArgs s_factors_of_two) (defBody s_factors_of_two) (defScope s_factors_of_two) .none kV_factors_of_two dc_factors_of_two pm_factors_of_two an_factors_of_two cd_factors_of_two ct_factors_of_two), sl_factors_of_two⟩)
    (c_factors_of_two : PySem.W.codeIn K cd_factors_of_two "factors_of_two" = true)
    (k_factors_of_two : PySem.W.keepIn K (.ref f_factors_of_two) = true)
    (a_twos_in : PySem.W.nsIn K mainGlobals "twos_in" = some (some (.ref f_twos_in)))
    (l_twos_in : K.lookup f_twos_in = some ⟨oc_twos_in, od_twos_in, .func (PySem.W.fnOf "twos_in" "twos_in" (defArgs s_twos_in) (defBody s_twos_in) (defScope s_twos_in) .none kV_twos_in dc_twos_in pm_twos_in an_twos_in cd_twos_in ct_twos_in), sl_twos_in⟩)
    (c_twos_in : PySem.W.codeIn K cd_twos_in "twos_in" = true)
    (k_twos_in : PySem.W.keepIn K (.ref f_twos_in) = true)
    (a_odd_inverse : PySem.W.nsIn K mainGlobals "odd_inverse" = some (some (.ref f_odd_inverse)))
    (l_odd_inverse : K.lookup f_odd_inverse = some ⟨oc_odd_inverse, od_odd_inverse, .func (PySem.W.fnOf "odd_inverse" "odd_inverse" (defArgs s_odd_inverse) (defBody s_odd_inverse) (defScope s_odd_inverse) .none kV_odd_inverse dc_odd_inverse pm_odd_inverse an_odd_inverse cd_odd_inverse ct_odd_inverse), sl_odd_inverse⟩)
    (c_odd_inverse : PySem.W.codeIn K cd_odd_inverse "odd_inverse" = true)
    (k_odd_inverse : PySem.W.keepIn K (.ref f_odd_inverse) = true)
    (l_Kind___init__ : K.lookup f_Kind___init__ = some ⟨oc_Kind___init__, od_Kind___init__, .func (PySem.W.fnOf "__init__" "Kind.__init__" (defArgs s_Kind___init__) (defBody s_Kind___init__) (defScope s_Kind___init__) .none kV_Kind___init__ dc_Kind___init__ pm_Kind___init__ an_Kind___init__ cd_Kind___init__ ct_Kind___init__), sl_Kind___init__⟩)
    (c_Kind___init__ : PySem.W.codeIn K cd_Kind___init__ "Kind.__init__" = true)
    (k_Kind___init__ : PySem.W.keepIn K (.ref f_Kind___init__) = true)
    (a_Kind_parts : PySem.W.findIn K (.ref C_Kind) "parts" = some (some (.ref f_Kind_parts)))
    (i_Kind_parts : PySem.W.isFn K (.ref f_Kind_parts) = true)
    (l_Kind_parts : K.lookup f_Kind_parts = some ⟨oc_Kind_parts, od_Kind_parts, .func (PySem.W.fnOf "parts" "Kind.parts" (defArgs s_Kind_parts) (defBody s_Kind_parts) (defScope s_Kind_parts) .none kV_Kind_parts dc_Kind_parts pm_Kind_parts an_Kind_parts cd_Kind_parts ct_Kind_parts), sl_Kind_parts⟩)
    (c_Kind_parts : PySem.W.codeIn K cd_Kind_parts "Kind.parts" = true)
    (k_Kind_parts : PySem.W.keepIn K (.ref f_Kind_parts) = true)
    (a_check_kind : PySem.W.nsIn K mainGlobals "check_kind" = some (some (.ref f_check_kind)))
    (l_check_kind : K.lookup f_check_kind = some ⟨oc_check_kind, od_check_kind, .func (PySem.W.fnOf "check_kind" "check_kind" (defArgs s_check_kind) (defBody s_check_kind) (defScope s_check_kind) .none kV_check_kind dc_check_kind pm_check_kind an_check_kind cd_check_kind ct_check_kind), sl_check_kind⟩)
    (c_check_kind : PySem.W.codeIn K cd_check_kind "check_kind" = true)
    (k_check_kind : PySem.W.keepIn K (.ref f_check_kind) = true)
    (a_check_value : PySem.W.nsIn K mainGlobals "check_value" = some (some (.ref f_check_value)))
    (l_check_value : K.lookup f_check_value = some ⟨oc_check_value, od_check_value, .func (PySem.W.fnOf "check_value" "check_value" (defArgs s_check_value) (defBody s_check_value) (defScope s_check_value) .none kV_check_value dc_check_value pm_check_value an_check_value cd_check_value ct_check_value), sl_check_value⟩)
    (c_check_value : PySem.W.codeIn K cd_check_value "check_value" = true)
    (k_check_value : PySem.W.keepIn K (.ref f_check_value) = true)
    (a_least : PySem.W.nsIn K mainGlobals "least" = some (some (.ref f_least)))
    (l_least : K.lookup f_least = some ⟨oc_least, od_least, .func (PySem.W.fnOf "least" "least" (defArgs s_least) (defBody s_least) (defScope s_least) .none kV_least dc_least pm_least an_least cd_least ct_least), sl_least⟩)
    (c_least : PySem.W.codeIn K cd_least "least" = true)
    (k_least : PySem.W.keepIn K (.ref f_least) = true)
    (a_greatest : PySem.W.nsIn K mainGlobals "greatest" = some (some (.ref f_greatest)))
    (l_greatest : K.lookup f_greatest = some ⟨oc_greatest, od_greatest, .func (PySem.W.fnOf "greatest" "greatest" (defArgs s_greatest) (defBody s_greatest) (defScope s_greatest) .none kV_greatest dc_greatest pm_greatest an_greatest cd_greatest ct_greatest), sl_greatest⟩)
    (c_greatest : PySem.W.codeIn K cd_greatest "greatest" = true)
    (k_greatest : PySem.W.keepIn K (.ref f_greatest) = true)
    (a_is_value : PySem.W.nsIn K mainGlobals "is_value" = some (some (.ref f_is_value)))
    (l_is_value : K.lookup f_is_value = some ⟨oc_is_value, od_is_value, .func (PySem.W.fnOf "is_value" "is_value" (defArgs s_is_value) (defBody s_is_value) (defScope s_is_value) .none kV_is_value dc_is_value pm_is_value an_is_value cd_is_value ct_is_value), sl_is_value⟩)
    (c_is_value : PySem.W.codeIn K cd_is_value "is_value" = true)
    (k_is_value : PySem.W.keepIn K (.ref f_is_value) = true)
    (a_wrapped : PySem.W.nsIn K mainGlobals "wrapped" = some (some (.ref f_wrapped)))
    (l_wrapped : K.lookup f_wrapped = some ⟨oc_wrapped, od_wrapped, .func (PySem.W.fnOf "wrapped" "wrapped" (defArgs s_wrapped) (defBody s_wrapped) (defScope s_wrapped) .none kV_wrapped dc_wrapped pm_wrapped an_wrapped cd_wrapped ct_wrapped), sl_wrapped⟩)
    (c_wrapped : PySem.W.codeIn K cd_wrapped "wrapped" = true)
    (k_wrapped : PySem.W.keepIn K (.ref f_wrapped) = true)
    (a_inverse : PySem.W.nsIn K mainGlobals "inverse" = some (some (.ref f_inverse)))
    (l_inverse : K.lookup f_inverse = some ⟨oc_inverse, od_inverse, .func (PySem.W.fnOf "inverse" "inverse" (defArgs s_inverse) (defBody s_inverse) (defScope s_inverse) .none kV_inverse dc_inverse pm_inverse an_inverse cd_inverse ct_inverse), sl_inverse⟩)
    (c_inverse : PySem.W.codeIn K cd_inverse "inverse" = true)
    (k_inverse : PySem.W.keepIn K (.ref f_inverse) = true)
    (a_is_generator : PySem.W.nsIn K mainGlobals "is_generator" = some (some (.ref f_is_generator)))
    (l_is_generator : K.lookup f_is_generator = some ⟨oc_is_generator, od_is_generator, .func (PySem.W.fnOf "is_generator" "is_generator" (defArgs s_is_generator) (defBody s_is_generator) (defScope s_is_generator) .none kV_is_generator dc_is_generator pm_is_generator an_is_generator cd_is_generator ct_is_generator), sl_is_generator⟩)
    (c_is_generator : PySem.W.codeIn K cd_is_generator "is_generator" = true)
    (k_is_generator : PySem.W.keepIn K (.ref f_is_generator) = true)
    (a_check_generator : PySem.W.nsIn K mainGlobals "check_generator" = some (some (.ref f_check_generator)))
    (l_check_generator : K.lookup f_check_generator = some ⟨oc_check_generator, od_check_generator, .func (PySem.W.fnOf "check_generator" "check_generator" (defArgs s_check_generator) (defBody s_check_generator) (defScope s_check_generator) .none kV_check_generator dc_check_generator pm_check_generator an_check_generator cd_check_generator ct_check_generator), sl_check_generator⟩)
    (c_check_generator : PySem.W.codeIn K cd_check_generator "check_generator" = true)
    (k_check_generator : PySem.W.keepIn K (.ref f_check_generator) = true)
    (a_moved : PySem.W.nsIn K mainGlobals "moved" = some (some (.ref f_moved)))
    (l_moved : K.lookup f_moved = some ⟨oc_moved, od_moved, .func (PySem.W.fnOf "moved" "moved" (defArgs s_moved) (defBody s_moved) (defScope s_moved) .none kV_moved dc_moved pm_moved an_moved cd_moved ct_moved), sl_moved⟩)
    (c_moved : PySem.W.codeIn K cd_moved "moved" = true)
    (k_moved : PySem.W.keepIn K (.ref f_moved) = true)
    (a_after : PySem.W.nsIn K mainGlobals "after" = some (some (.ref f_after)))
    (l_after : K.lookup f_after = some ⟨oc_after, od_after, .func (PySem.W.fnOf "after" "after" (defArgs s_after) (defBody s_after) (defScope s_after) .none kV_after dc_after pm_after an_after cd_after ct_after), sl_after⟩)
    (c_after : PySem.W.codeIn K cd_after "after" = true)
    (k_after : PySem.W.keepIn K (.ref f_after) = true)
    (a_repeated : PySem.W.nsIn K mainGlobals "repeated" = some (some (.ref f_repeated)))
    (l_repeated : K.lookup f_repeated = some ⟨oc_repeated, od_repeated, .func (PySem.W.fnOf "repeated" "repeated" (defArgs s_repeated) (defBody s_repeated) (defScope s_repeated) .none kV_repeated dc_repeated pm_repeated an_repeated cd_repeated ct_repeated), sl_repeated⟩)
    (c_repeated : PySem.W.codeIn K cd_repeated "repeated" = true)
    (k_repeated : PySem.W.keepIn K (.ref f_repeated) = true)
    (a_after_many : PySem.W.nsIn K mainGlobals "after_many" = some (some (.ref f_after_many)))
    (l_after_many : K.lookup f_after_many = some ⟨oc_after_many, od_after_many, .func (PySem.W.fnOf "after_many" "after_many" (defArgs s_after_many) (defBody s_after_many) (defScope s_after_many) .none kV_after_many dc_after_many pm_after_many an_after_many cd_after_many ct_after_many), sl_after_many⟩)
    (c_after_many : PySem.W.codeIn K cd_after_many "after_many" = true)
    (k_after_many : PySem.W.keepIn K (.ref f_after_many) = true)
    (a_steps_to_ring : PySem.W.nsIn K mainGlobals "steps_to_ring" = some (some (.ref f_steps_to_ring)))
    (l_steps_to_ring : K.lookup f_steps_to_ring = some ⟨oc_steps_to_ring, od_steps_to_ring, .func (PySem.W.fnOf "steps_to_ring" "steps_to_ring" (defArgs s_steps_to_ring) (defBody s_steps_to_ring) (defScope s_steps_to_ring) .none kV_steps_to_ring dc_steps_to_ring pm_steps_to_ring an_steps_to_ring cd_steps_to_ring ct_steps_to_ring), sl_steps_to_ring⟩)
    (c_steps_to_ring : PySem.W.codeIn K cd_steps_to_ring "steps_to_ring" = true)
    (k_steps_to_ring : PySem.W.keepIn K (.ref f_steps_to_ring) = true)
    (a_ring_length : PySem.W.nsIn K mainGlobals "ring_length" = some (some (.ref f_ring_length)))
    (l_ring_length : K.lookup f_ring_length = some ⟨oc_ring_length, od_ring_length, .func (PySem.W.fnOf "ring_length" "ring_length" (defArgs s_ring_length) (defBody s_ring_length) (defScope s_ring_length) .none kV_ring_length dc_ring_length pm_ring_length an_ring_length cd_ring_length ct_ring_length), sl_ring_length⟩)
    (c_ring_length : PySem.W.codeIn K cd_ring_length "ring_length" = true)
    (k_ring_length : PySem.W.keepIn K (.ref f_ring_length) = true)
    (a__check : PySem.W.nsIn K mainGlobals "_check" = some (some (.ref f__check)))
    (l__check : K.lookup f__check = some ⟨oc__check, od__check, .func (PySem.W.fnOf "_check" "_check" (defArgs s__check) (defBody s__check) (defScope s__check) .none kV__check dc__check pm__check an__check cd__check ct__check), sl__check⟩)
    (c__check : PySem.W.codeIn K cd__check "_check" = true)
    (k__check : PySem.W.keepIn K (.ref f__check) = true)
    (a__check_start : PySem.W.nsIn K mainGlobals "_check_start" = some (some (.ref f__check_start)))
    (l__check_start : K.lookup f__check_start = some ⟨oc__check_start, od__check_start, .func (PySem.W.fnOf "_check_start" "_check_start" (defArgs s__check_start) (defBody s__check_start) (defScope s__check_start) .none kV__check_start dc__check_start pm__check_start an__check_start cd__check_start ct__check_start), sl__check_start⟩)
    (c__check_start : PySem.W.codeIn K cd__check_start "_check_start" = true)
    (k__check_start : PySem.W.keepIn K (.ref f__check_start) = true)
    (a_stepped : PySem.W.nsIn K mainGlobals "stepped" = some (some (.ref f_stepped)))
    (l_stepped : K.lookup f_stepped = some ⟨oc_stepped, od_stepped, .func (PySem.W.fnOf "stepped" "stepped" (defArgs s_stepped) (defBody s_stepped) (defScope s_stepped) .none kV_stepped dc_stepped pm_stepped an_stepped cd_stepped ct_stepped), sl_stepped⟩)
    (c_stepped : PySem.W.codeIn K cd_stepped "stepped" = true)
    (k_stepped : PySem.W.keepIn K (.ref f_stepped) = true)
    (a_ring_of : PySem.W.nsIn K mainGlobals "ring_of" = some (some (.ref f_ring_of)))
    (l_ring_of : K.lookup f_ring_of = some ⟨oc_ring_of, od_ring_of, .func (PySem.W.fnOf "ring_of" "ring_of" (defArgs s_ring_of) (defBody s_ring_of) (defScope s_ring_of) .none kV_ring_of dc_ring_of pm_ring_of an_ring_of cd_ring_of ct_ring_of), sl_ring_of⟩)
    (c_ring_of : PySem.W.codeIn K cd_ring_of "ring_of" = true)
    (k_ring_of : PySem.W.keepIn K (.ref f_ring_of) = true)
    (a__unmoved_total : PySem.W.nsIn K mainGlobals "_unmoved_total" = some (some (.ref f__unmoved_total)))
    (l__unmoved_total : K.lookup f__unmoved_total = some ⟨oc__unmoved_total, od__unmoved_total, .func (PySem.W.fnOf "_unmoved_total" "_unmoved_total" (defArgs s__unmoved_total) (defBody s__unmoved_total) (defScope s__unmoved_total) .none kV__unmoved_total dc__unmoved_total pm__unmoved_total an__unmoved_total cd__unmoved_total ct__unmoved_total), sl__unmoved_total⟩)
    (c__unmoved_total : PySem.W.codeIn K cd__unmoved_total "_unmoved_total" = true)
    (k__unmoved_total : PySem.W.keepIn K (.ref f__unmoved_total) = true)
    (a_ring_lengths : PySem.W.nsIn K mainGlobals "ring_lengths" = some (some (.ref f_ring_lengths)))
    (l_ring_lengths : K.lookup f_ring_lengths = some ⟨oc_ring_lengths, od_ring_lengths, .func (PySem.W.fnOf "ring_lengths" "ring_lengths" (defArgs s_ring_lengths) (defBody s_ring_lengths) (defScope s_ring_lengths) .none kV_ring_lengths dc_ring_lengths pm_ring_lengths an_ring_lengths cd_ring_lengths ct_ring_lengths), sl_ring_lengths⟩)
    (c_ring_lengths : PySem.W.codeIn K cd_ring_lengths "ring_lengths" = true)
    (k_ring_lengths : PySem.W.keepIn K (.ref f_ring_lengths) = true)
    (a_ring_values : PySem.W.nsIn K mainGlobals "ring_values" = some (some (.ref f_ring_values)))
    (l_ring_values : K.lookup f_ring_values = some ⟨oc_ring_values, od_ring_values, .func (PySem.W.fnOf "ring_values" "ring_values" (defArgs s_ring_values) (defBody s_ring_values) (defScope s_ring_values) .none kV_ring_values dc_ring_values pm_ring_values an_ring_values cd_ring_values ct_ring_values), sl_ring_values⟩)
    (c_ring_values : PySem.W.codeIn K cd_ring_values "ring_values" = true)
    (k_ring_values : PySem.W.keepIn K (.ref f_ring_values) = true)
    (a__law_source_of : PySem.W.nsIn K mainGlobals "_law_source_of" = some (some (.ref f__law_source_of)))
    (l__law_source_of : K.lookup f__law_source_of = some ⟨oc__law_source_of, od__law_source_of, .func (PySem.W.fnOf "_law_source_of" "_law_source_of" (defArgs s__law_source_of) (defBody s__law_source_of) (defScope s__law_source_of) .none kV__law_source_of dc__law_source_of pm__law_source_of an__law_source_of cd__law_source_of ct__law_source_of), sl__law_source_of⟩)
    (c__law_source_of : PySem.W.codeIn K cd__law_source_of "_law_source_of" = true)
    (k__law_source_of : PySem.W.keepIn K (.ref f__law_source_of) = true)
    (a__law_next : PySem.W.nsIn K mainGlobals "_law_next" = some (some (.ref f__law_next)))
    (l__law_next : K.lookup f__law_next = some ⟨oc__law_next, od__law_next, .func (PySem.W.fnOf "_law_next" "_law_next" (defArgs s__law_next) (defBody s__law_next) (defScope s__law_next) .none kV__law_next dc__law_next pm__law_next an__law_next cd__law_next ct__law_next), sl__law_next⟩)
    (c__law_next : PySem.W.codeIn K cd__law_next "_law_next" = true)
    (k__law_next : PySem.W.keepIn K (.ref f__law_next) = true)
    (a__law_one : PySem.W.nsIn K mainGlobals "_law_one" = some (some (.ref f__law_one)))
    (l__law_one : K.lookup f__law_one = some ⟨oc__law_one, od__law_one, .func (PySem.W.fnOf "_law_one" "_law_one" (defArgs s__law_one) (defBody s__law_one) (defScope s__law_one) .none kV__law_one dc__law_one pm__law_one an__law_one cd__law_one ct__law_one), sl__law_one⟩)
    (c__law_one : PySem.W.codeIn K cd__law_one "_law_one" = true)
    (k__law_one : PySem.W.keepIn K (.ref f__law_one) = true)
    (a__law_cell_at : PySem.W.nsIn K mainGlobals "_law_cell_at" = some (some (.ref f__law_cell_at)))
    (l__law_cell_at : K.lookup f__law_cell_at = some ⟨oc__law_cell_at, od__law_cell_at, .func (PySem.W.fnOf "_law_cell_at" "_law_cell_at" (defArgs s__law_cell_at) (defBody s__law_cell_at) (defScope s__law_cell_at) .none kV__law_cell_at dc__law_cell_at pm__law_cell_at an__law_cell_at cd__law_cell_at ct__law_cell_at), sl__law_cell_at⟩)
    (c__law_cell_at : PySem.W.codeIn K cd__law_cell_at "_law_cell_at" = true)
    (k__law_cell_at : PySem.W.keepIn K (.ref f__law_cell_at) = true)
    (a__law_wide : PySem.W.nsIn K mainGlobals "_law_wide" = some (some (.ref f__law_wide)))
    (l__law_wide : K.lookup f__law_wide = some ⟨oc__law_wide, od__law_wide, .func (PySem.W.fnOf "_law_wide" "_law_wide" (defArgs s__law_wide) (defBody s__law_wide) (defScope s__law_wide) .none kV__law_wide dc__law_wide pm__law_wide an__law_wide cd__law_wide ct__law_wide), sl__law_wide⟩)
    (c__law_wide : PySem.W.codeIn K cd__law_wide "_law_wide" = true)
    (k__law_wide : PySem.W.keepIn K (.ref f__law_wide) = true)
    (a__law_draw_kind : PySem.W.nsIn K mainGlobals "_law_draw_kind" = some (some (.ref f__law_draw_kind)))
    (l__law_draw_kind : K.lookup f__law_draw_kind = some ⟨oc__law_draw_kind, od__law_draw_kind, .func (PySem.W.fnOf "_law_draw_kind" "_law_draw_kind" (defArgs s__law_draw_kind) (defBody s__law_draw_kind) (defScope s__law_draw_kind) .none kV__law_draw_kind dc__law_draw_kind pm__law_draw_kind an__law_draw_kind cd__law_draw_kind ct__law_draw_kind), sl__law_draw_kind⟩)
    (c__law_draw_kind : PySem.W.codeIn K cd__law_draw_kind "_law_draw_kind" = true)
    (k__law_draw_kind : PySem.W.keepIn K (.ref f__law_draw_kind) = true)
    (a__law_value : PySem.W.nsIn K mainGlobals "_law_value" = some (some (.ref f__law_value)))
    (l__law_value : K.lookup f__law_value = some ⟨oc__law_value, od__law_value, .func (PySem.W.fnOf "_law_value" "_law_value" (defArgs s__law_value) (defBody s__law_value) (defScope s__law_value) .none kV__law_value dc__law_value pm__law_value an__law_value cd__law_value ct__law_value), sl__law_value⟩)
    (c__law_value : PySem.W.codeIn K cd__law_value "_law_value" = true)
    (k__law_value : PySem.W.keepIn K (.ref f__law_value) = true)
    (a__law_put : PySem.W.nsIn K mainGlobals "_law_put" = some (some (.ref f__law_put)))
    (l__law_put : K.lookup f__law_put = some ⟨oc__law_put, od__law_put, .func (PySem.W.fnOf "_law_put" "_law_put" (defArgs s__law_put) (defBody s__law_put) (defScope s__law_put) .none kV__law_put dc__law_put pm__law_put an__law_put cd__law_put ct__law_put), sl__law_put⟩)
    (c__law_put : PySem.W.codeIn K cd__law_put "_law_put" = true)
    (k__law_put : PySem.W.keepIn K (.ref f__law_put) = true)
    (a__law_whole_right : PySem.W.nsIn K mainGlobals "_law_whole_right" = some (some (.ref f__law_whole_right)))
    (l__law_whole_right : K.lookup f__law_whole_right = some ⟨oc__law_whole_right, od__law_whole_right, .func (PySem.W.fnOf "_law_whole_right" "_law_whole_right" (defArgs s__law_whole_right) (defBody s__law_whole_right) (defScope s__law_whole_right) .none kV__law_whole_right dc__law_whole_right pm__law_whole_right an__law_whole_right cd__law_whole_right ct__law_whole_right), sl__law_whole_right⟩)
    (c__law_whole_right : PySem.W.codeIn K cd__law_whole_right "_law_whole_right" = true)
    (k__law_whole_right : PySem.W.keepIn K (.ref f__law_whole_right) = true)
    (a__law_twos_right : PySem.W.nsIn K mainGlobals "_law_twos_right" = some (some (.ref f__law_twos_right)))
    (l__law_twos_right : K.lookup f__law_twos_right = some ⟨oc__law_twos_right, od__law_twos_right, .func (PySem.W.fnOf "_law_twos_right" "_law_twos_right" (defArgs s__law_twos_right) (defBody s__law_twos_right) (defScope s__law_twos_right) .none kV__law_twos_right dc__law_twos_right pm__law_twos_right an__law_twos_right cd__law_twos_right ct__law_twos_right), sl__law_twos_right⟩)
    (c__law_twos_right : PySem.W.codeIn K cd__law_twos_right "_law_twos_right" = true)
    (k__law_twos_right : PySem.W.keepIn K (.ref f__law_twos_right) = true)
    (a__law_any_right : PySem.W.nsIn K mainGlobals "_law_any_right" = some (some (.ref f__law_any_right)))
    (l__law_any_right : K.lookup f__law_any_right = some ⟨oc__law_any_right, od__law_any_right, .func (PySem.W.fnOf "_law_any_right" "_law_any_right" (defArgs s__law_any_right) (defBody s__law_any_right) (defScope s__law_any_right) .none kV__law_any_right dc__law_any_right pm__law_any_right an__law_any_right cd__law_any_right ct__law_any_right), sl__law_any_right⟩)
    (c__law_any_right : PySem.W.codeIn K cd__law_any_right "_law_any_right" = true)
    (k__law_any_right : PySem.W.keepIn K (.ref f__law_any_right) = true)
    (a__law_turning_right : PySem.W.nsIn K mainGlobals "_law_turning_right" = some (some (.ref f__law_turning_right)))
    (l__law_turning_right : K.lookup f__law_turning_right = some ⟨oc__law_turning_right, od__law_turning_right, .func (PySem.W.fnOf "_law_turning_right" "_law_turning_right" (defArgs s__law_turning_right) (defBody s__law_turning_right) (defScope s__law_turning_right) .none kV__law_turning_right dc__law_turning_right pm__law_turning_right an__law_turning_right cd__law_turning_right ct__law_turning_right), sl__law_turning_right⟩)
    (c__law_turning_right : PySem.W.codeIn K cd__law_turning_right "_law_turning_right" = true)
    (k__law_turning_right : PySem.W.keepIn K (.ref f__law_turning_right) = true)
    (a_law : PySem.W.nsIn K mainGlobals "law" = some (some (.ref f_law)))
    (l_law : K.lookup f_law = some ⟨oc_law, od_law, .func (PySem.W.fnOf "law" "law" (defArgs s_law) (defBody s_law) (defScope s_law) .none kV_law dc_law pm_law an_law cd_law ct_law), sl_law⟩)
    (c_law : PySem.W.codeIn K cd_law "law" = true)
    (k_law : PySem.W.keepIn K (.ref f_law) = true)
    (v_MOST_BITS : PySem.W.nsIn K mainGlobals "MOST_BITS" = some (some (.int 128 t_MOST_BITS)))
    (z_bool : PySem.W.nsIn K mainGlobals "bool" = some none)
    (z_int : PySem.W.nsIn K mainGlobals "int" = some none)
    (z_isinstance : PySem.W.nsIn K mainGlobals "isinstance" = some none)
    (z_len : PySem.W.nsIn K mainGlobals "len" = some none)
    (z_list : PySem.W.nsIn K mainGlobals "list" = some none)
    (z_max : PySem.W.nsIn K mainGlobals "max" = some none)
    (z_min : PySem.W.nsIn K mainGlobals "min" = some none)
    (z_range : PySem.W.nsIn K mainGlobals "range" = some none)
    (z_sorted : PySem.W.nsIn K mainGlobals "sorted" = some none)
    (z_tuple : PySem.W.nsIn K mainGlobals "tuple" = some none)
    (v_gcd : PySem.W.nsIn K mainGlobals "gcd" = some (some (.builtin "math.gcd")))
    : Nonempty (Txt K mg) := by
  have F_joined := fun_mk (st := s_joined) l_joined c_joined k_joined
  have b_joined := F_joined.binds (ps := ["families", "bits"]) fun _ _ _ _ _ _ us hl => match us, hl with | [_, _], _ => rfl
  have F_is_integer := fun_mk (st := s_is_integer) l_is_integer c_is_integer k_is_integer
  have b_is_integer := F_is_integer.binds (ps := ["value"]) fun _ _ _ _ _ _ us hl => match us, hl with | [_], _ => rfl
  have F_check_integer := fun_mk (st := s_check_integer) l_check_integer c_check_integer k_check_integer
  have b_check_integer := F_check_integer.binds (ps := ["value", "argument"]) fun _ _ _ _ _ _ us hl => match us, hl with | [_, _], _ => rfl
  have F_factors_of_two := fun_mk (st := s_factors_of_two) l_factors_of_two c_factors_of_two k_factors_of_two
  have b_factors_of_two := F_factors_of_two.binds (ps := ["n"]) fun _ _ _ _ _ _ us hl => match us, hl with | [_], _ => rfl
  have F_twos_in := fun_mk (st := s_twos_in) l_twos_in c_twos_in k_twos_in
  have b_twos_in := F_twos_in.binds (ps := ["n", "most"]) fun _ _ _ _ _ _ us hl => match us, hl with | [_, _], _ => rfl
  have F_odd_inverse := fun_mk (st := s_odd_inverse) l_odd_inverse c_odd_inverse k_odd_inverse
  have b_odd_inverse := F_odd_inverse.binds (ps := ["x", "bits"]) fun _ _ _ _ _ _ us hl => match us, hl with | [_, _], _ => rfl
  have F_Kind___init__ := fun_mk (st := s_Kind___init__) l_Kind___init__ c_Kind___init__ k_Kind___init__
  have b_Kind___init__ := F_Kind___init__.binds (ps := ["self", "bits", "is_signed"]) fun _ _ _ _ _ _ us hl => match us, hl with | [_, _, _], _ => rfl
  have F_Kind_parts := fun_mk (st := s_Kind_parts) l_Kind_parts c_Kind_parts k_Kind_parts
  have b_Kind_parts := F_Kind_parts.binds (ps := ["self"]) fun _ _ _ _ _ _ us hl => match us, hl with | [_], _ => rfl
  have F_check_kind := fun_mk (st := s_check_kind) l_check_kind c_check_kind k_check_kind
  have b_check_kind := F_check_kind.binds (ps := ["kind"]) fun _ _ _ _ _ _ us hl => match us, hl with | [_], _ => rfl
  have F_check_value := fun_mk (st := s_check_value) l_check_value c_check_value k_check_value
  have b_check_value := F_check_value.binds (ps := ["kind", "x", "argument"]) fun _ _ _ _ _ _ us hl => match us, hl with | [_, _, _], _ => rfl
  have F_least := fun_mk (st := s_least) l_least c_least k_least
  have b_least := F_least.binds (ps := ["kind"]) fun _ _ _ _ _ _ us hl => match us, hl with | [_], _ => rfl
  have F_greatest := fun_mk (st := s_greatest) l_greatest c_greatest k_greatest
  have b_greatest := F_greatest.binds (ps := ["kind"]) fun _ _ _ _ _ _ us hl => match us, hl with | [_], _ => rfl
  have F_is_value := fun_mk (st := s_is_value) l_is_value c_is_value k_is_value
  have b_is_value := F_is_value.binds (ps := ["kind", "x"]) fun _ _ _ _ _ _ us hl => match us, hl with | [_, _], _ => rfl
  have F_wrapped := fun_mk (st := s_wrapped) l_wrapped c_wrapped k_wrapped
  have b_wrapped := F_wrapped.binds (ps := ["kind", "n"]) fun _ _ _ _ _ _ us hl => match us, hl with | [_, _], _ => rfl
  have F_inverse := fun_mk (st := s_inverse) l_inverse c_inverse k_inverse
  have b_inverse := F_inverse.binds (ps := ["kind", "x"]) fun _ _ _ _ _ _ us hl => match us, hl with | [_, _], _ => rfl
  have F_is_generator := fun_mk (st := s_is_generator) l_is_generator c_is_generator k_is_generator
  have b_is_generator := F_is_generator.binds (ps := ["kind", "value"]) fun _ _ _ _ _ _ us hl => match us, hl with | [_, _], _ => rfl
  have F_check_generator := fun_mk (st := s_check_generator) l_check_generator c_check_generator k_check_generator
  have b_check_generator := F_check_generator.binds (ps := ["kind", "value", "argument"]) fun _ _ _ _ _ _ us hl => match us, hl with | [_, _, _], _ => rfl
  have F_moved := fun_mk (st := s_moved) l_moved c_moved k_moved
  have b_moved := F_moved.binds (ps := ["step", "x", "size"]) fun _ _ _ _ _ _ us hl => match us, hl with | [_, _, _], _ => rfl
  have F_after := fun_mk (st := s_after) l_after c_after k_after
  have b_after := F_after.binds (ps := ["one", "other", "size"]) fun _ _ _ _ _ _ us hl => match us, hl with | [_, _, _], _ => rfl
  have F_repeated := fun_mk (st := s_repeated) l_repeated c_repeated k_repeated
  have b_repeated := F_repeated.binds (ps := ["step", "n", "size"]) fun _ _ _ _ _ _ us hl => match us, hl with | [_, _, _], _ => rfl
  have F_after_many := fun_mk (st := s_after_many) l_after_many c_after_many k_after_many
  have b_after_many := F_after_many.binds (ps := ["step", "x", "n", "bits"]) fun _ _ _ _ _ _ us hl => match us, hl with | [_, _, _, _], _ => rfl
  have F_steps_to_ring := fun_mk (st := s_steps_to_ring) l_steps_to_ring c_steps_to_ring k_steps_to_ring
  have b_steps_to_ring := F_steps_to_ring.binds (ps := ["step", "x", "bits"]) fun _ _ _ _ _ _ us hl => match us, hl with | [_, _, _], _ => rfl
  have F_ring_length := fun_mk (st := s_ring_length) l_ring_length c_ring_length k_ring_length
  have b_ring_length := F_ring_length.binds (ps := ["step", "x", "bits"]) fun _ _ _ _ _ _ us hl => match us, hl with | [_, _, _], _ => rfl
  have F__check := fun_mk (st := s__check) l__check c__check k__check
  have b__check := F__check.binds (ps := ["kind", "generator"]) fun _ _ _ _ _ _ us hl => match us, hl with | [_, _], _ => rfl
  have F__check_start := fun_mk (st := s__check_start) l__check_start c__check_start k__check_start
  have b__check_start := F__check_start.binds (ps := ["kind", "generator", "x"]) fun _ _ _ _ _ _ us hl => match us, hl with | [_, _, _], _ => rfl
  have F_stepped := fun_mk (st := s_stepped) l_stepped c_stepped k_stepped
  have b_stepped := F_stepped.binds (ps := ["kind", "generator", "x", "n"]) fun _ _ _ _ _ _ us hl => match us, hl with | [_, _, _, _], _ => rfl
  have F_ring_of := fun_mk (st := s_ring_of) l_ring_of c_ring_of k_ring_of
  have b_ring_of := F_ring_of.binds (ps := ["kind", "generator", "x"]) fun _ _ _ _ _ _ us hl => match us, hl with | [_, _, _], _ => rfl
  have F__unmoved_total := fun_mk (st := s__unmoved_total) l__unmoved_total c__unmoved_total k__unmoved_total
  have b__unmoved_total := F__unmoved_total.binds (ps := ["step", "size"]) fun _ _ _ _ _ _ us hl => match us, hl with | [_, _], _ => rfl
  have F_ring_lengths := fun_mk (st := s_ring_lengths) l_ring_lengths c_ring_lengths k_ring_lengths
  have b_ring_lengths := F_ring_lengths.binds (ps := ["kind", "generator"]) fun _ _ _ _ _ _ us hl => match us, hl with | [_, _], _ => rfl
  have F_ring_values := fun_mk (st := s_ring_values) l_ring_values c_ring_values k_ring_values
  have b_ring_values := F_ring_values.binds (ps := ["kind", "generator", "x"]) fun _ _ _ _ _ _ us hl => match us, hl with | [_, _, _], _ => rfl
  have F__law_source_of := fun_mk (st := s__law_source_of) l__law_source_of c__law_source_of k__law_source_of
  have b__law_source_of := F__law_source_of.binds (ps := ["_law_cell"]) fun _ _ _ _ _ _ us hl => match us, hl with | [_], _ => rfl
  have F__law_next := fun_mk (st := s__law_next) l__law_next c__law_next k__law_next
  have b__law_next := F__law_next.binds (ps := ["_law_source", "_law_many"]) fun _ _ _ _ _ _ us hl => match us, hl with | [_, _], _ => rfl
  have F__law_one := fun_mk (st := s__law_one) l__law_one c__law_one k__law_one
  have b__law_one := F__law_one.binds (ps := ["_law_source", "_law_some"]) fun _ _ _ _ _ _ us hl => match us, hl with | [_, _], _ => rfl
  have F__law_cell_at := fun_mk (st := s__law_cell_at) l__law_cell_at c__law_cell_at k__law_cell_at
  have b__law_cell_at := F__law_cell_at.binds (ps := ["_law_script", "_law_index"]) fun _ _ _ _ _ _ us hl => match us, hl with | [_, _], _ => rfl
  have F__law_wide := fun_mk (st := s__law_wide) l__law_wide c__law_wide k__law_wide
  have b__law_wide := F__law_wide.binds (ps := ["_law_source", "_law_m"]) fun _ _ _ _ _ _ us hl => match us, hl with | [_, _], _ => rfl
  have F__law_draw_kind := fun_mk (st := s__law_draw_kind) l__law_draw_kind c__law_draw_kind k__law_draw_kind
  have b__law_draw_kind := F__law_draw_kind.binds (ps := ["_law_source", "_law_most"]) fun _ _ _ _ _ _ us hl => match us, hl with | [_, _], _ => rfl
  have F__law_value := fun_mk (st := s__law_value) l__law_value c__law_value k__law_value
  have b__law_value := F__law_value.binds (ps := ["_law_source", "_law_low", "_law_size"]) fun _ _ _ _ _ _ us hl => match us, hl with | [_, _, _], _ => rfl
  have F__law_put := fun_mk (st := s__law_put) l__law_put c__law_put k__law_put
  have b__law_put := F__law_put.binds (ps := ["_law_n", "_law_low", "_law_size"]) fun _ _ _ _ _ _ us hl => match us, hl with | [_, _, _], _ => rfl
  have F__law_whole_right := fun_mk (st := s__law_whole_right) l__law_whole_right c__law_whole_right k__law_whole_right
  have b__law_whole_right := F__law_whole_right.binds (ps := ["_law_source", "_law_kind", "_law_low", "_law_size"]) fun _ _ _ _ _ _ us hl => match us, hl with | [_, _, _, _], _ => rfl
  have F__law_twos_right := fun_mk (st := s__law_twos_right) l__law_twos_right c__law_twos_right k__law_twos_right
  have b__law_twos_right := F__law_twos_right.binds (ps := ["_law_source", "_law_kind", "_law_low", "_law_size"]) fun _ _ _ _ _ _ us hl => match us, hl with | [_, _, _, _], _ => rfl
  have F__law_any_right := fun_mk (st := s__law_any_right) l__law_any_right c__law_any_right k__law_any_right
  have b__law_any_right := F__law_any_right.binds (ps := ["_law_source", "_law_kind", "_law_low", "_law_size"]) fun _ _ _ _ _ _ us hl => match us, hl with | [_, _, _, _], _ => rfl
  have F__law_turning_right := fun_mk (st := s__law_turning_right) l__law_turning_right c__law_turning_right k__law_turning_right
  have b__law_turning_right := F__law_turning_right.binds (ps := ["_law_source", "_law_kind", "_law_low", "_law_size"]) fun _ _ _ _ _ _ us hl => match us, hl with | [_, _, _, _], _ => rfl
  have F_law := fun_mk (st := s_law) l_law c_law k_law
  have b_law := F_law.binds (ps := ["_law_script"]) fun _ _ _ _ _ _ us hl => match us, hl with | [_], _ => rfl
  exact ⟨{
    C_Kind := C_Kind
    cl_Kind := ⟨pg_Kind, hd_Kind, po_Kind, sa_Kind⟩
    g_Kind := PySem.W.mg_of X G aC_Kind
    na_Kind_bits := na_Kind_bits
    na_Kind_is_signed := na_Kind_is_signed
    ia_Kind := ia_Kind
    ib_Kind := ib_Kind
    ic_Kind := ic_Kind
    id_Kind := id_Kind
    mk_Kind := ⟨mkk_Kind, a_Kind___init__, i_Kind___init__, kc_Kind⟩
    f_joined := f_joined
    fd_joined := _
    F_joined := F_joined
    b_joined := b_joined
    g_joined := PySem.W.mg_of X G a_joined
    k_joined := k_joined
    f_is_integer := f_is_integer
    fd_is_integer := _
    F_is_integer := F_is_integer
    b_is_integer := b_is_integer
    g_is_integer := PySem.W.mg_of X G a_is_integer
    k_is_integer := k_is_integer
    f_check_integer := f_check_integer
    fd_check_integer := _
    F_check_integer := F_check_integer
    b_check_integer := b_check_integer
    g_check_integer := PySem.W.mg_of X G a_check_integer
    k_check_integer := k_check_integer
    f_factors_of_two := f_factors_of_two
    fd_factors_of_two := _
    F_factors_of_two := F_factors_of_two
    b_factors_of_two := b_factors_of_two
    g_factors_of_two := PySem.W.mg_of X G a_factors_of_two
    k_factors_of_two := k_factors_of_two
    f_twos_in := f_twos_in
    fd_twos_in := _
    F_twos_in := F_twos_in
    b_twos_in := b_twos_in
    g_twos_in := PySem.W.mg_of X G a_twos_in
    k_twos_in := k_twos_in
    f_odd_inverse := f_odd_inverse
    fd_odd_inverse := _
    F_odd_inverse := F_odd_inverse
    b_odd_inverse := b_odd_inverse
    g_odd_inverse := PySem.W.mg_of X G a_odd_inverse
    k_odd_inverse := k_odd_inverse
    f_Kind___init__ := f_Kind___init__
    fd_Kind___init__ := _
    F_Kind___init__ := F_Kind___init__
    b_Kind___init__ := b_Kind___init__
    m_Kind_parts := ⟨a_Kind_parts, i_Kind_parts, k_Kind_parts⟩
    f_Kind_parts := f_Kind_parts
    fd_Kind_parts := _
    F_Kind_parts := F_Kind_parts
    b_Kind_parts := b_Kind_parts
    f_check_kind := f_check_kind
    fd_check_kind := _
    F_check_kind := F_check_kind
    b_check_kind := b_check_kind
    g_check_kind := PySem.W.mg_of X G a_check_kind
    k_check_kind := k_check_kind
    f_check_value := f_check_value
    fd_check_value := _
    F_check_value := F_check_value
    b_check_value := b_check_value
    g_check_value := PySem.W.mg_of X G a_check_value
    k_check_value := k_check_value
    f_least := f_least
    fd_least := _
    F_least := F_least
    b_least := b_least
    g_least := PySem.W.mg_of X G a_least
    k_least := k_least
    f_greatest := f_greatest
    fd_greatest := _
    F_greatest := F_greatest
    b_greatest := b_greatest
    g_greatest := PySem.W.mg_of X G a_greatest
    k_greatest := k_greatest
    f_is_value := f_is_value
    fd_is_value := _
    F_is_value := F_is_value
    b_is_value := b_is_value
    g_is_value := PySem.W.mg_of X G a_is_value
    k_is_value := k_is_value
    f_wrapped := f_wrapped
    fd_wrapped := _
    F_wrapped := F_wrapped
    b_wrapped := b_wrapped
    g_wrapped := PySem.W.mg_of X G a_wrapped
    k_wrapped := k_wrapped
    f_inverse := f_inverse
    fd_inverse := _
    F_inverse := F_inverse
    b_inverse := b_inverse
    g_inverse := PySem.W.mg_of X G a_inverse
    k_inverse := k_inverse
    f_is_generator := f_is_generator
    fd_is_generator := _
    F_is_generator := F_is_generator
    b_is_generator := b_is_generator
    g_is_generator := PySem.W.mg_of X G a_is_generator
    k_is_generator := k_is_generator
    f_check_generator := f_check_generator
    fd_check_generator := _
    F_check_generator := F_check_generator
    b_check_generator := b_check_generator
    g_check_generator := PySem.W.mg_of X G a_check_generator
    k_check_generator := k_check_generator
    f_moved := f_moved
    fd_moved := _
    F_moved := F_moved
    b_moved := b_moved
    g_moved := PySem.W.mg_of X G a_moved
    k_moved := k_moved
    f_after := f_after
    fd_after := _
    F_after := F_after
    b_after := b_after
    g_after := PySem.W.mg_of X G a_after
    k_after := k_after
    f_repeated := f_repeated
    fd_repeated := _
    F_repeated := F_repeated
    b_repeated := b_repeated
    g_repeated := PySem.W.mg_of X G a_repeated
    k_repeated := k_repeated
    f_after_many := f_after_many
    fd_after_many := _
    F_after_many := F_after_many
    b_after_many := b_after_many
    g_after_many := PySem.W.mg_of X G a_after_many
    k_after_many := k_after_many
    f_steps_to_ring := f_steps_to_ring
    fd_steps_to_ring := _
    F_steps_to_ring := F_steps_to_ring
    b_steps_to_ring := b_steps_to_ring
    g_steps_to_ring := PySem.W.mg_of X G a_steps_to_ring
    k_steps_to_ring := k_steps_to_ring
    f_ring_length := f_ring_length
    fd_ring_length := _
    F_ring_length := F_ring_length
    b_ring_length := b_ring_length
    g_ring_length := PySem.W.mg_of X G a_ring_length
    k_ring_length := k_ring_length
    f__check := f__check
    fd__check := _
    F__check := F__check
    b__check := b__check
    g__check := PySem.W.mg_of X G a__check
    k__check := k__check
    f__check_start := f__check_start
    fd__check_start := _
    F__check_start := F__check_start
    b__check_start := b__check_start
    g__check_start := PySem.W.mg_of X G a__check_start
    k__check_start := k__check_start
    f_stepped := f_stepped
    fd_stepped := _
    F_stepped := F_stepped
    b_stepped := b_stepped
    g_stepped := PySem.W.mg_of X G a_stepped
    k_stepped := k_stepped
    f_ring_of := f_ring_of
    fd_ring_of := _
    F_ring_of := F_ring_of
    b_ring_of := b_ring_of
    g_ring_of := PySem.W.mg_of X G a_ring_of
    k_ring_of := k_ring_of
    f__unmoved_total := f__unmoved_total
    fd__unmoved_total := _
    F__unmoved_total := F__unmoved_total
    b__unmoved_total := b__unmoved_total
    g__unmoved_total := PySem.W.mg_of X G a__unmoved_total
    k__unmoved_total := k__unmoved_total
    f_ring_lengths := f_ring_lengths
    fd_ring_lengths := _
    F_ring_lengths := F_ring_lengths
    b_ring_lengths := b_ring_lengths
    g_ring_lengths := PySem.W.mg_of X G a_ring_lengths
    k_ring_lengths := k_ring_lengths
    f_ring_values := f_ring_values
    fd_ring_values := _
    F_ring_values := F_ring_values
    b_ring_values := b_ring_values
    g_ring_values := PySem.W.mg_of X G a_ring_values
    k_ring_values := k_ring_values
    f__law_source_of := f__law_source_of
    fd__law_source_of := _
    F__law_source_of := F__law_source_of
    b__law_source_of := b__law_source_of
    g__law_source_of := PySem.W.mg_of X G a__law_source_of
    k__law_source_of := k__law_source_of
    f__law_next := f__law_next
    fd__law_next := _
    F__law_next := F__law_next
    b__law_next := b__law_next
    g__law_next := PySem.W.mg_of X G a__law_next
    k__law_next := k__law_next
    f__law_one := f__law_one
    fd__law_one := _
    F__law_one := F__law_one
    b__law_one := b__law_one
    g__law_one := PySem.W.mg_of X G a__law_one
    k__law_one := k__law_one
    f__law_cell_at := f__law_cell_at
    fd__law_cell_at := _
    F__law_cell_at := F__law_cell_at
    b__law_cell_at := b__law_cell_at
    g__law_cell_at := PySem.W.mg_of X G a__law_cell_at
    k__law_cell_at := k__law_cell_at
    f__law_wide := f__law_wide
    fd__law_wide := _
    F__law_wide := F__law_wide
    b__law_wide := b__law_wide
    g__law_wide := PySem.W.mg_of X G a__law_wide
    k__law_wide := k__law_wide
    f__law_draw_kind := f__law_draw_kind
    fd__law_draw_kind := _
    F__law_draw_kind := F__law_draw_kind
    b__law_draw_kind := b__law_draw_kind
    g__law_draw_kind := PySem.W.mg_of X G a__law_draw_kind
    k__law_draw_kind := k__law_draw_kind
    f__law_value := f__law_value
    fd__law_value := _
    F__law_value := F__law_value
    b__law_value := b__law_value
    g__law_value := PySem.W.mg_of X G a__law_value
    k__law_value := k__law_value
    f__law_put := f__law_put
    fd__law_put := _
    F__law_put := F__law_put
    b__law_put := b__law_put
    g__law_put := PySem.W.mg_of X G a__law_put
    k__law_put := k__law_put
    f__law_whole_right := f__law_whole_right
    fd__law_whole_right := _
    F__law_whole_right := F__law_whole_right
    b__law_whole_right := b__law_whole_right
    g__law_whole_right := PySem.W.mg_of X G a__law_whole_right
    k__law_whole_right := k__law_whole_right
    f__law_twos_right := f__law_twos_right
    fd__law_twos_right := _
    F__law_twos_right := F__law_twos_right
    b__law_twos_right := b__law_twos_right
    g__law_twos_right := PySem.W.mg_of X G a__law_twos_right
    k__law_twos_right := k__law_twos_right
    f__law_any_right := f__law_any_right
    fd__law_any_right := _
    F__law_any_right := F__law_any_right
    b__law_any_right := b__law_any_right
    g__law_any_right := PySem.W.mg_of X G a__law_any_right
    k__law_any_right := k__law_any_right
    f__law_turning_right := f__law_turning_right
    fd__law_turning_right := _
    F__law_turning_right := F__law_turning_right
    b__law_turning_right := b__law_turning_right
    g__law_turning_right := PySem.W.mg_of X G a__law_turning_right
    k__law_turning_right := k__law_turning_right
    f_law := f_law
    fd_law := _
    F_law := F_law
    b_law := b_law
    g_law := PySem.W.mg_of X G a_law
    k_law := k_law
    t_MOST_BITS := t_MOST_BITS
    g_MOST_BITS := PySem.W.mg_of X G v_MOST_BITS
    n_bool := PySem.W.mg_none_of X G z_bool
    n_int := PySem.W.mg_none_of X G z_int
    n_isinstance := PySem.W.mg_none_of X G z_isinstance
    n_len := PySem.W.mg_none_of X G z_len
    n_list := PySem.W.mg_none_of X G z_list
    n_max := PySem.W.mg_none_of X G z_max
    n_min := PySem.W.mg_none_of X G z_min
    n_range := PySem.W.mg_none_of X G z_range
    n_sorted := PySem.W.mg_none_of X G z_sorted
    n_tuple := PySem.W.mg_none_of X G z_tuple
    g_gcd := PySem.W.mg_of X G v_gcd
    bl_law := fun s v => .of_eq rfl }⟩
theorem walk {l : PySem.W.OpenLaw} {q : Program} {loose : List Str} {XP : (Str → Option Value) → Heap → Prop} {YP : World → Heap → Prop} {d : DefRec} {K : Params → PySem.W.Frag} (hn : l.most = some 63) (hdf : d.params.defaults = []) (hnm : d.name = "law")
    (hY : ∀ (w : World) (h : Heap), YP w h → (K w.params).In h)
    (F : ∀ (w : World) (mg : Str → Option Value) (h : Heap), (K w.params).In h → h.Ns mainGlobals mg → Nonempty (Txt (K w.params) mg)) :
    PySem.W.WalkO q loose XP YP l.row.toRowW d [] (fun f vs => PySem.call f vs) :=
  L2.walk_of (n := 63) (k := 11) (x := "_law_script") (CX := fun _ => CX0) (sp := fun w => sp_law (K w.params) 0) hn (by decide) hdf ⟨rfl, by decide, by decide⟩ hY
    (fun w mg fa h KX G hm => by
      obtain ⟨T⟩ := F w mg h KX G
      have e : T.f_law = fa := by
        have q := T.g_law.symm.trans (hnm ▸ hm)
        cases q; rfl
      subst e
      exact ⟨T.fd_law, T.bl_law, fun base _ _ => ok_law T⟩)
    (fun _ _ a ns hl _ hS => ⟨a, ns, rfl, hS, hl, fun _ => rfl⟩) fun _ _ _ _ _ z => z
end Fw
open PySem PySem.W PyProof.Rows
set_option maxRecDepth 100000 in
set_option maxHeartbeats 0 in
theorem PySem.Challenge.cw_farwrap_k41_rings_by_formulas_holds : PySem.Challenge.rw_farwrap_k41_rings_by_formulas.Holds := by
  w_on; o_law; k_head; (case hw => w_witness2)
  k_fill
  refine Fw.walk (l := PySem.Challenge.rw_farwrap_k41_rings_by_formulas) rfl rfl rfl (fun w h Y => PySem.W.kIn_of Y) ?F
  case F =>
    intro w mg h KX G
    refine' Fw.mk_txt KX G ?aC_Kind ?a_Kind___init__ ?i_Kind___init__ ?pg_Kind ?hd_Kind ?po_Kind ?sa_Kind ?mkk_Kind ?kc_Kind ?na_Kind_bits ?na_Kind_is_signed ?ia_Kind ?ib_Kind ?ic_Kind ?id_Kind ?a_joined ?l_joined ?c_joined ?k_joined ?a_is_integer ?l_is_integer ?c_is_integer ?k_is_integer ?a_check_integer ?l_check_integer ?c_check_integer ?k_check_integer ?a_factors_of_two ?l_factors_of_two ?c_factors_of_two ?k_factors_of_two ?a_twos_in ?l_twos_in ?c_twos_in ?k_twos_in ?a_odd_inverse ?l_odd_inverse ?c_odd_inverse ?k_odd_inverse ?l_Kind___init__ ?c_Kind___init__ ?k_Kind___init__ ?a_Kind_parts ?i_Kind_parts ?l_Kind_parts ?c_Kind_parts ?k_Kind_parts ?a_check_kind ?l_check_kind ?c_check_kind ?k_check_kind ?a_check_value ?l_check_value ?c_check_value ?k_check_value ?a_least ?l_least ?c_least ?k_least ?a_greatest ?l_greatest ?c_greatest ?k_greatest ?a_is_value ?l_is_value ?c_is_value ?k_is_value ?a_wrapped ?l_wrapped ?c_wrapped ?k_wrapped ?a_inverse ?l_inverse ?c_inverse ?k_inverse ?a_is_generator ?l_is_generator ?c_is_generator ?k_is_generator ?a_check_generator ?l_check_generator ?c_check_generator ?k_check_generator ?a_moved ?l_moved ?c_moved ?k_moved ?a_after ?l_after ?c_after ?k_after ?a_repeated ?l_repeated ?c_repeated ?k_repeated ?a_after_many ?l_after_many ?c_after_many ?k_after_many ?a_steps_to_ring ?l_steps_to_ring ?c_steps_to_ring ?k_steps_to_ring ?a_ring_length ?l_ring_length ?c_ring_length ?k_ring_length ?a__check ?l__check ?c__check ?k__check ?a__check_start ?l__check_start ?c__check_start ?k__check_start ?a_stepped ?l_stepped ?c_stepped ?k_stepped ?a_ring_of ?l_ring_of ?c_ring_of ?k_ring_of ?a__unmoved_total ?l__unmoved_total ?c__unmoved_total ?k__unmoved_total ?a_ring_lengths ?l_ring_lengths ?c_ring_lengths ?k_ring_lengths ?a_ring_values ?l_ring_values ?c_ring_values ?k_ring_values ?a__law_source_of ?l__law_source_of ?c__law_source_of ?k__law_source_of ?a__law_next ?l__law_next ?c__law_next ?k__law_next ?a__law_one ?l__law_one ?c__law_one ?k__law_one ?a__law_cell_at ?l__law_cell_at ?c__law_cell_at ?k__law_cell_at ?a__law_wide ?l__law_wide ?c__law_wide ?k__law_wide ?a__law_draw_kind ?l__law_draw_kind ?c__law_draw_kind ?k__law_draw_kind ?a__law_value ?l__law_value ?c__law_value ?k__law_value ?a__law_put ?l__law_put ?c__law_put ?k__law_put ?a__law_whole_right ?l__law_whole_right ?c__law_whole_right ?k__law_whole_right ?a__law_twos_right ?l__law_twos_right ?c__law_twos_right ?k__law_twos_right ?a__law_any_right ?l__law_any_right ?c__law_any_right ?k__law_any_right ?a__law_turning_right ?l__law_turning_right ?c__law_turning_right ?k__law_turning_right ?a_law ?l_law ?c_law ?k_law ?v_MOST_BITS ?z_bool ?z_int ?z_isinstance ?z_len ?z_list ?z_max ?z_min ?z_range ?z_sorted ?z_tuple ?v_gcd
    (case aC_Kind => k_is)
    (case a_Kind___init__ => k_is)
    (case i_Kind___init__ => k_is)
    (case pg_Kind => k_is)
    (case hd_Kind => k_is)
    (case po_Kind => k_is)
    (case sa_Kind => k_is)
    (case mkk_Kind => k_is)
    (case kc_Kind => k_is)
    (case na_Kind_bits => k_is)
    (case na_Kind_is_signed => k_is)
    (case ia_Kind => k_is)
    (case ib_Kind => k_is)
    (case ic_Kind => k_is)
    (case id_Kind => k_is)
    (case a_joined => k_is)
    (case l_joined => k_is)
    (case c_joined => k_is)
    (case k_joined => k_is)
    (case a_is_integer => k_is)
    (case l_is_integer => k_is)
    (case c_is_integer => k_is)
    (case k_is_integer => k_is)
    (case a_check_integer => k_is)
    (case l_check_integer => k_is)
    (case c_check_integer => k_is)
    (case k_check_integer => k_is)
    (case a_factors_of_two => k_is)
    (case l_factors_of_two => k_is)
    (case c_factors_of_two => k_is)
    (case k_factors_of_two => k_is)
    (case a_twos_in => k_is)
    (case l_twos_in => k_is)
    (case c_twos_in => k_is)
    (case k_twos_in => k_is)
    (case a_odd_inverse => k_is)
    (case l_odd_inverse => k_is)
    (case c_odd_inverse => k_is)
    (case k_odd_inverse => k_is)
    (case l_Kind___init__ => k_is)
    (case c_Kind___init__ => k_is)
    (case k_Kind___init__ => k_is)
    (case a_Kind_parts => k_is)
    (case i_Kind_parts => k_is)
    (case l_Kind_parts => k_is)
    (case c_Kind_parts => k_is)
    (case k_Kind_parts => k_is)
    (case a_check_kind => k_is)
    (case l_check_kind => k_is)
    (case c_check_kind => k_is)
    (case k_check_kind => k_is)
    (case a_check_value => k_is)
    (case l_check_value => k_is)
    (case c_check_value => k_is)
    (case k_check_value => k_is)
    (case a_least => k_is)
    (case l_least => k_is)
    (case c_least => k_is)
    (case k_least => k_is)
    (case a_greatest => k_is)
    (case l_greatest => k_is)
    (case c_greatest => k_is)
    (case k_greatest => k_is)
    (case a_is_value => k_is)
    (case l_is_value => k_is)
    (case c_is_value => k_is)
    (case k_is_value => k_is)
    (case a_wrapped => k_is)
    (case l_wrapped => k_is)
    (case c_wrapped => k_is)
    (case k_wrapped => k_is)
    (case a_inverse => k_is)
    (case l_inverse => k_is)
    (case c_inverse => k_is)
    (case k_inverse => k_is)
    (case a_is_generator => k_is)
    (case l_is_generator => k_is)
    (case c_is_generator => k_is)
    (case k_is_generator => k_is)
    (case a_check_generator => k_is)
    (case l_check_generator => k_is)
    (case c_check_generator => k_is)
    (case k_check_generator => k_is)
    (case a_moved => k_is)
    (case l_moved => k_is)
    (case c_moved => k_is)
    (case k_moved => k_is)
    (case a_after => k_is)
    (case l_after => k_is)
    (case c_after => k_is)
    (case k_after => k_is)
    (case a_repeated => k_is)
    (case l_repeated => k_is)
    (case c_repeated => k_is)
    (case k_repeated => k_is)
    (case a_after_many => k_is)
    (case l_after_many => k_is)
    (case c_after_many => k_is)
    (case k_after_many => k_is)
    (case a_steps_to_ring => k_is)
    (case l_steps_to_ring => k_is)
    (case c_steps_to_ring => k_is)
    (case k_steps_to_ring => k_is)
    (case a_ring_length => k_is)
    (case l_ring_length => k_is)
    (case c_ring_length => k_is)
    (case k_ring_length => k_is)
    (case a__check => k_is)
    (case l__check => k_is)
    (case c__check => k_is)
    (case k__check => k_is)
    (case a__check_start => k_is)
    (case l__check_start => k_is)
    (case c__check_start => k_is)
    (case k__check_start => k_is)
    (case a_stepped => k_is)
    (case l_stepped => k_is)
    (case c_stepped => k_is)
    (case k_stepped => k_is)
    (case a_ring_of => k_is)
    (case l_ring_of => k_is)
    (case c_ring_of => k_is)
    (case k_ring_of => k_is)
    (case a__unmoved_total => k_is)
    (case l__unmoved_total => k_is)
    (case c__unmoved_total => k_is)
    (case k__unmoved_total => k_is)
    (case a_ring_lengths => k_is)
    (case l_ring_lengths => k_is)
    (case c_ring_lengths => k_is)
    (case k_ring_lengths => k_is)
    (case a_ring_values => k_is)
    (case l_ring_values => k_is)
    (case c_ring_values => k_is)
    (case k_ring_values => k_is)
    (case a__law_source_of => k_is)
    (case l__law_source_of => k_is)
    (case c__law_source_of => k_is)
    (case k__law_source_of => k_is)
    (case a__law_next => k_is)
    (case l__law_next => k_is)
    (case c__law_next => k_is)
    (case k__law_next => k_is)
    (case a__law_one => k_is)
    (case l__law_one => k_is)
    (case c__law_one => k_is)
    (case k__law_one => k_is)
    (case a__law_cell_at => k_is)
    (case l__law_cell_at => k_is)
    (case c__law_cell_at => k_is)
    (case k__law_cell_at => k_is)
    (case a__law_wide => k_is)
    (case l__law_wide => k_is)
    (case c__law_wide => k_is)
    (case k__law_wide => k_is)
    (case a__law_draw_kind => k_is)
    (case l__law_draw_kind => k_is)
    (case c__law_draw_kind => k_is)
    (case k__law_draw_kind => k_is)
    (case a__law_value => k_is)
    (case l__law_value => k_is)
    (case c__law_value => k_is)
    (case k__law_value => k_is)
    (case a__law_put => k_is)
    (case l__law_put => k_is)
    (case c__law_put => k_is)
    (case k__law_put => k_is)
    (case a__law_whole_right => k_is)
    (case l__law_whole_right => k_is)
    (case c__law_whole_right => k_is)
    (case k__law_whole_right => k_is)
    (case a__law_twos_right => k_is)
    (case l__law_twos_right => k_is)
    (case c__law_twos_right => k_is)
    (case k__law_twos_right => k_is)
    (case a__law_any_right => k_is)
    (case l__law_any_right => k_is)
    (case c__law_any_right => k_is)
    (case k__law_any_right => k_is)
    (case a__law_turning_right => k_is)
    (case l__law_turning_right => k_is)
    (case c__law_turning_right => k_is)
    (case k__law_turning_right => k_is)
    (case a_law => k_is)
    (case l_law => k_is)
    (case c_law => k_is)
    (case k_law => k_is)
    (case v_MOST_BITS => k_is)
    (case z_bool => k_is)
    (case z_int => k_is)
    (case z_isinstance => k_is)
    (case z_len => k_is)
    (case z_list => k_is)
    (case z_max => k_is)
    (case z_min => k_is)
    (case z_range => k_is)
    (case z_sorted => k_is)
    (case z_tuple => k_is)
    (case v_gcd => k_is)
