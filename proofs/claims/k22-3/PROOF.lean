import PyProof.Rows.All
import Wide.All
import OpenK.AllK
import Wide.FinOn
import HandS.ForMost
import HandS.IsInst
import HandS.WideBits
import HandS.Style
import HandS.SortInts
import HandS.EndTab
import HandS.NoneIn
import HandS.Walk
import PyProof.LongRange
import HandS.Gcd
import HandS.Conv
import HandS.More
import HandS.SetFor
import HandS.SortRule
import HandS.Zip
import HandS.Flow
import KE.DatumOrd
import KE.DatumMore
import HandS.DictTup
import HandS.DictComp
import KE.KDictSum
import PyProof.DictMoreH
import PyProof.DictFindH
import PySem.Challenge.RW_farwrap_k22_whole_great_roots
set_option Elab.async false
set_option linter.all false
set_option maxRecDepth 100000
set_option maxHeartbeats 4000000
namespace Fw
open PySem L2
def rIntC : List V → Hp → VK → Prop := fun xs H Q => (∃ i, xs = [.int i] ∧ Q (.int i) H) ∨ ∃ k, xs = [.bl k] ∧ Q (.int (if k then 1 else 0)) H
def ab (x : Int) : Int := if x < 0 then -x else x
def rIsNn : R2 := fun x y H Q => y = .non ∧ Q (.bl (decide (x = .non))) H
def rAbsC : List V → Hp → VK → Prop := fun xs H Q => ∃ i, xs = [.int i] ∧ Q (.int (if i < 0 then -i else i)) H
def rLenS (K : PySem.W.Frag) : List V → Hp → VK → Prop := fun xs H Q => ∃ p ys, xs = [.ref p] ∧ (SqL K H p ys ∨ SqT K H p ys) ∧ Q (.int ys.length) H
section
variable {X : Cx} {CX : CXT} {k : Nat} {f : Addr} {fd : FuncData} {ps ks : List Str} {sp : Sp} {E : XK} {x : Str} {p pos : Pos} {kws : List Keyword} {tk : TA} {g : List Value → List Value → List Value} {gV : List V → List V → List V}
/-- f(k = v, ..), no positional argument -/
theorem pe_callK0 (F : FnOk X.prog X.w X.K X.mg X.base CX k f fd ps sp) (hr : Room k X.A) (hg : Gl X x) (hm : X.mg x = some (.ref f)) (hk : PySem.W.keepIn X.K (.ref f) = true) (hb : KBinds X.K fd ps ks g gV) (hx : Passes CX X E)
    (hkw : PK X kws tk) (hall : (backToKw pos (keywordEach kws X.env)).all (·.1.isSome) = true := by rfl) (hks : (backToKw pos (keywordEach kws X.env)).filterMap (·.1) = ks := by rfl)
    (hdb : (x == ("__debug__" : Str)) = false := by decide)
    (hpl : ((backTo pos (starEach [] X.env)).any (·.1) || (backToKw pos (keywordEach kws X.env)).any (·.1.isNone)) = false := by rfl) :
    PE X (.Call (.Name x p) [] kws pos) (tCallK sp gV E tNil tk) := by
  refine ⟨fun pins s σ H Q I h => ?_⟩
  refine wpAny_Call_Name_kw (ld_glob I hg hm ?_ hdb)
  refine PySem.W.callWith_KW0 (h₀ := X.base) I.ok.mod.kin hk hall ?_ hpl
  have q : tk σ H fun zs H2 => sp (gV [] zs) H2 Q E := h
  refine thn (hkw.run pos pins s σ H _ I q) fun ws s2 ⟨zs, H2, I2, rz, q2⟩ => ⟨I2.kIn, ?_⟩
  rw [hks]
  exact run_fnk F hr hb hx I2 .nil rz q2
end

section
variable {K : PySem.W.Frag} {C : Addr} {σ : L2.St} {H : Hp} {Q : VK} {D : Ends} {ta tb tc te : TE} {tt tu : TT} {r : R2}
theorem w_c {v : V} (q : Q v H) : tC v σ H Q := q
theorem w_var {i : Nat} {v : V} (h : σ[i]? = some (some v)) (q : Q v H) : tVar i σ H Q := ⟨v, h, q⟩
theorem w_v0 {v : V} {r : L2.St} (q : Q v H) : tVar 0 (some v :: r) H Q := ⟨v, rfl, q⟩
theorem w_n0 {y : Option V} {v : V} {r : L2.St} {Q : L2.St → Hp → Prop} (q : Q (some v :: r) H) : gName 0 v (y :: r) H Q := q
theorem w_v1 {x0 : Option V} {v : V} {r : L2.St} (q : Q v H) : tVar 1 (x0 :: some v :: r) H Q := ⟨v, rfl, q⟩
theorem w_n1 {x0 : Option V} {y : Option V} {v : V} {r : L2.St} {Q : L2.St → Hp → Prop} (q : Q (x0 :: some v :: r) H) : gName 1 v (x0 :: y :: r) H Q := q
theorem w_v2 {x0 x1 : Option V} {v : V} {r : L2.St} (q : Q v H) : tVar 2 (x0 :: x1 :: some v :: r) H Q := ⟨v, rfl, q⟩
theorem w_n2 {x0 x1 : Option V} {y : Option V} {v : V} {r : L2.St} {Q : L2.St → Hp → Prop} (q : Q (x0 :: x1 :: some v :: r) H) : gName 2 v (x0 :: x1 :: y :: r) H Q := q
theorem w_v3 {x0 x1 x2 : Option V} {v : V} {r : L2.St} (q : Q v H) : tVar 3 (x0 :: x1 :: x2 :: some v :: r) H Q := ⟨v, rfl, q⟩
theorem w_n3 {x0 x1 x2 : Option V} {y : Option V} {v : V} {r : L2.St} {Q : L2.St → Hp → Prop} (q : Q (x0 :: x1 :: x2 :: some v :: r) H) : gName 3 v (x0 :: x1 :: x2 :: y :: r) H Q := q
theorem w_v4 {x0 x1 x2 x3 : Option V} {v : V} {r : L2.St} (q : Q v H) : tVar 4 (x0 :: x1 :: x2 :: x3 :: some v :: r) H Q := ⟨v, rfl, q⟩
theorem w_n4 {x0 x1 x2 x3 : Option V} {y : Option V} {v : V} {r : L2.St} {Q : L2.St → Hp → Prop} (q : Q (x0 :: x1 :: x2 :: x3 :: some v :: r) H) : gName 4 v (x0 :: x1 :: x2 :: x3 :: y :: r) H Q := q
theorem w_v5 {x0 x1 x2 x3 x4 : Option V} {v : V} {r : L2.St} (q : Q v H) : tVar 5 (x0 :: x1 :: x2 :: x3 :: x4 :: some v :: r) H Q := ⟨v, rfl, q⟩
theorem w_n5 {x0 x1 x2 x3 x4 : Option V} {y : Option V} {v : V} {r : L2.St} {Q : L2.St → Hp → Prop} (q : Q (x0 :: x1 :: x2 :: x3 :: x4 :: some v :: r) H) : gName 5 v (x0 :: x1 :: x2 :: x3 :: x4 :: y :: r) H Q := q
theorem w_v6 {x0 x1 x2 x3 x4 x5 : Option V} {v : V} {r : L2.St} (q : Q v H) : tVar 6 (x0 :: x1 :: x2 :: x3 :: x4 :: x5 :: some v :: r) H Q := ⟨v, rfl, q⟩
theorem w_n6 {x0 x1 x2 x3 x4 x5 : Option V} {y : Option V} {v : V} {r : L2.St} {Q : L2.St → Hp → Prop} (q : Q (x0 :: x1 :: x2 :: x3 :: x4 :: x5 :: some v :: r) H) : gName 6 v (x0 :: x1 :: x2 :: x3 :: x4 :: x5 :: y :: r) H Q := q
theorem w_v7 {x0 x1 x2 x3 x4 x5 x6 : Option V} {v : V} {r : L2.St} (q : Q v H) : tVar 7 (x0 :: x1 :: x2 :: x3 :: x4 :: x5 :: x6 :: some v :: r) H Q := ⟨v, rfl, q⟩
theorem w_n7 {x0 x1 x2 x3 x4 x5 x6 : Option V} {y : Option V} {v : V} {r : L2.St} {Q : L2.St → Hp → Prop} (q : Q (x0 :: x1 :: x2 :: x3 :: x4 :: x5 :: x6 :: some v :: r) H) : gName 7 v (x0 :: x1 :: x2 :: x3 :: x4 :: x5 :: x6 :: y :: r) H Q := q
theorem w_v8 {x0 x1 x2 x3 x4 x5 x6 x7 : Option V} {v : V} {r : L2.St} (q : Q v H) : tVar 8 (x0 :: x1 :: x2 :: x3 :: x4 :: x5 :: x6 :: x7 :: some v :: r) H Q := ⟨v, rfl, q⟩
theorem w_n8 {x0 x1 x2 x3 x4 x5 x6 x7 : Option V} {y : Option V} {v : V} {r : L2.St} {Q : L2.St → Hp → Prop} (q : Q (x0 :: x1 :: x2 :: x3 :: x4 :: x5 :: x6 :: x7 :: some v :: r) H) : gName 8 v (x0 :: x1 :: x2 :: x3 :: x4 :: x5 :: x6 :: x7 :: y :: r) H Q := q
theorem w_v9 {x0 x1 x2 x3 x4 x5 x6 x7 x8 : Option V} {v : V} {r : L2.St} (q : Q v H) : tVar 9 (x0 :: x1 :: x2 :: x3 :: x4 :: x5 :: x6 :: x7 :: x8 :: some v :: r) H Q := ⟨v, rfl, q⟩
theorem w_n9 {x0 x1 x2 x3 x4 x5 x6 x7 x8 : Option V} {y : Option V} {v : V} {r : L2.St} {Q : L2.St → Hp → Prop} (q : Q (x0 :: x1 :: x2 :: x3 :: x4 :: x5 :: x6 :: x7 :: x8 :: some v :: r) H) : gName 9 v (x0 :: x1 :: x2 :: x3 :: x4 :: x5 :: x6 :: x7 :: x8 :: y :: r) H Q := q
theorem w_v10 {x0 x1 x2 x3 x4 x5 x6 x7 x8 x9 : Option V} {v : V} {r : L2.St} (q : Q v H) : tVar 10 (x0 :: x1 :: x2 :: x3 :: x4 :: x5 :: x6 :: x7 :: x8 :: x9 :: some v :: r) H Q := ⟨v, rfl, q⟩
theorem w_n10 {x0 x1 x2 x3 x4 x5 x6 x7 x8 x9 : Option V} {y : Option V} {v : V} {r : L2.St} {Q : L2.St → Hp → Prop} (q : Q (x0 :: x1 :: x2 :: x3 :: x4 :: x5 :: x6 :: x7 :: x8 :: x9 :: some v :: r) H) : gName 10 v (x0 :: x1 :: x2 :: x3 :: x4 :: x5 :: x6 :: x7 :: x8 :: x9 :: y :: r) H Q := q
theorem w_v11 {x0 x1 x2 x3 x4 x5 x6 x7 x8 x9 x10 : Option V} {v : V} {r : L2.St} (q : Q v H) : tVar 11 (x0 :: x1 :: x2 :: x3 :: x4 :: x5 :: x6 :: x7 :: x8 :: x9 :: x10 :: some v :: r) H Q := ⟨v, rfl, q⟩
theorem w_n11 {x0 x1 x2 x3 x4 x5 x6 x7 x8 x9 x10 : Option V} {y : Option V} {v : V} {r : L2.St} {Q : L2.St → Hp → Prop} (q : Q (x0 :: x1 :: x2 :: x3 :: x4 :: x5 :: x6 :: x7 :: x8 :: x9 :: x10 :: some v :: r) H) : gName 11 v (x0 :: x1 :: x2 :: x3 :: x4 :: x5 :: x6 :: x7 :: x8 :: x9 :: x10 :: y :: r) H Q := q
theorem w_v12 {x0 x1 x2 x3 x4 x5 x6 x7 x8 x9 x10 x11 : Option V} {v : V} {r : L2.St} (q : Q v H) : tVar 12 (x0 :: x1 :: x2 :: x3 :: x4 :: x5 :: x6 :: x7 :: x8 :: x9 :: x10 :: x11 :: some v :: r) H Q := ⟨v, rfl, q⟩
theorem w_n12 {x0 x1 x2 x3 x4 x5 x6 x7 x8 x9 x10 x11 : Option V} {y : Option V} {v : V} {r : L2.St} {Q : L2.St → Hp → Prop} (q : Q (x0 :: x1 :: x2 :: x3 :: x4 :: x5 :: x6 :: x7 :: x8 :: x9 :: x10 :: x11 :: some v :: r) H) : gName 12 v (x0 :: x1 :: x2 :: x3 :: x4 :: x5 :: x6 :: x7 :: x8 :: x9 :: x10 :: x11 :: y :: r) H Q := q
theorem w_v13 {x0 x1 x2 x3 x4 x5 x6 x7 x8 x9 x10 x11 x12 : Option V} {v : V} {r : L2.St} (q : Q v H) : tVar 13 (x0 :: x1 :: x2 :: x3 :: x4 :: x5 :: x6 :: x7 :: x8 :: x9 :: x10 :: x11 :: x12 :: some v :: r) H Q := ⟨v, rfl, q⟩
theorem w_n13 {x0 x1 x2 x3 x4 x5 x6 x7 x8 x9 x10 x11 x12 : Option V} {y : Option V} {v : V} {r : L2.St} {Q : L2.St → Hp → Prop} (q : Q (x0 :: x1 :: x2 :: x3 :: x4 :: x5 :: x6 :: x7 :: x8 :: x9 :: x10 :: x11 :: x12 :: some v :: r) H) : gName 13 v (x0 :: x1 :: x2 :: x3 :: x4 :: x5 :: x6 :: x7 :: x8 :: x9 :: x10 :: x11 :: x12 :: y :: r) H Q := q
theorem w_v14 {x0 x1 x2 x3 x4 x5 x6 x7 x8 x9 x10 x11 x12 x13 : Option V} {v : V} {r : L2.St} (q : Q v H) : tVar 14 (x0 :: x1 :: x2 :: x3 :: x4 :: x5 :: x6 :: x7 :: x8 :: x9 :: x10 :: x11 :: x12 :: x13 :: some v :: r) H Q := ⟨v, rfl, q⟩
theorem w_n14 {x0 x1 x2 x3 x4 x5 x6 x7 x8 x9 x10 x11 x12 x13 : Option V} {y : Option V} {v : V} {r : L2.St} {Q : L2.St → Hp → Prop} (q : Q (x0 :: x1 :: x2 :: x3 :: x4 :: x5 :: x6 :: x7 :: x8 :: x9 :: x10 :: x11 :: x12 :: x13 :: some v :: r) H) : gName 14 v (x0 :: x1 :: x2 :: x3 :: x4 :: x5 :: x6 :: x7 :: x8 :: x9 :: x10 :: x11 :: x12 :: x13 :: y :: r) H Q := q
theorem w_v15 {x0 x1 x2 x3 x4 x5 x6 x7 x8 x9 x10 x11 x12 x13 x14 : Option V} {v : V} {r : L2.St} (q : Q v H) : tVar 15 (x0 :: x1 :: x2 :: x3 :: x4 :: x5 :: x6 :: x7 :: x8 :: x9 :: x10 :: x11 :: x12 :: x13 :: x14 :: some v :: r) H Q := ⟨v, rfl, q⟩
theorem w_n15 {x0 x1 x2 x3 x4 x5 x6 x7 x8 x9 x10 x11 x12 x13 x14 : Option V} {y : Option V} {v : V} {r : L2.St} {Q : L2.St → Hp → Prop} (q : Q (x0 :: x1 :: x2 :: x3 :: x4 :: x5 :: x6 :: x7 :: x8 :: x9 :: x10 :: x11 :: x12 :: x13 :: x14 :: some v :: r) H) : gName 15 v (x0 :: x1 :: x2 :: x3 :: x4 :: x5 :: x6 :: x7 :: x8 :: x9 :: x10 :: x11 :: x12 :: x13 :: x14 :: y :: r) H Q := q
theorem w_v16 {x0 x1 x2 x3 x4 x5 x6 x7 x8 x9 x10 x11 x12 x13 x14 x15 : Option V} {v : V} {r : L2.St} (q : Q v H) : tVar 16 (x0 :: x1 :: x2 :: x3 :: x4 :: x5 :: x6 :: x7 :: x8 :: x9 :: x10 :: x11 :: x12 :: x13 :: x14 :: x15 :: some v :: r) H Q := ⟨v, rfl, q⟩
theorem w_n16 {x0 x1 x2 x3 x4 x5 x6 x7 x8 x9 x10 x11 x12 x13 x14 x15 : Option V} {y : Option V} {v : V} {r : L2.St} {Q : L2.St → Hp → Prop} (q : Q (x0 :: x1 :: x2 :: x3 :: x4 :: x5 :: x6 :: x7 :: x8 :: x9 :: x10 :: x11 :: x12 :: x13 :: x14 :: x15 :: some v :: r) H) : gName 16 v (x0 :: x1 :: x2 :: x3 :: x4 :: x5 :: x6 :: x7 :: x8 :: x9 :: x10 :: x11 :: x12 :: x13 :: x14 :: x15 :: y :: r) H Q := q
theorem w_v17 {x0 x1 x2 x3 x4 x5 x6 x7 x8 x9 x10 x11 x12 x13 x14 x15 x16 : Option V} {v : V} {r : L2.St} (q : Q v H) : tVar 17 (x0 :: x1 :: x2 :: x3 :: x4 :: x5 :: x6 :: x7 :: x8 :: x9 :: x10 :: x11 :: x12 :: x13 :: x14 :: x15 :: x16 :: some v :: r) H Q := ⟨v, rfl, q⟩
theorem w_n17 {x0 x1 x2 x3 x4 x5 x6 x7 x8 x9 x10 x11 x12 x13 x14 x15 x16 : Option V} {y : Option V} {v : V} {r : L2.St} {Q : L2.St → Hp → Prop} (q : Q (x0 :: x1 :: x2 :: x3 :: x4 :: x5 :: x6 :: x7 :: x8 :: x9 :: x10 :: x11 :: x12 :: x13 :: x14 :: x15 :: x16 :: some v :: r) H) : gName 17 v (x0 :: x1 :: x2 :: x3 :: x4 :: x5 :: x6 :: x7 :: x8 :: x9 :: x10 :: x11 :: x12 :: x13 :: x14 :: x15 :: x16 :: y :: r) H Q := q
theorem w_v18 {x0 x1 x2 x3 x4 x5 x6 x7 x8 x9 x10 x11 x12 x13 x14 x15 x16 x17 : Option V} {v : V} {r : L2.St} (q : Q v H) : tVar 18 (x0 :: x1 :: x2 :: x3 :: x4 :: x5 :: x6 :: x7 :: x8 :: x9 :: x10 :: x11 :: x12 :: x13 :: x14 :: x15 :: x16 :: x17 :: some v :: r) H Q := ⟨v, rfl, q⟩
theorem w_n18 {x0 x1 x2 x3 x4 x5 x6 x7 x8 x9 x10 x11 x12 x13 x14 x15 x16 x17 : Option V} {y : Option V} {v : V} {r : L2.St} {Q : L2.St → Hp → Prop} (q : Q (x0 :: x1 :: x2 :: x3 :: x4 :: x5 :: x6 :: x7 :: x8 :: x9 :: x10 :: x11 :: x12 :: x13 :: x14 :: x15 :: x16 :: x17 :: some v :: r) H) : gName 18 v (x0 :: x1 :: x2 :: x3 :: x4 :: x5 :: x6 :: x7 :: x8 :: x9 :: x10 :: x11 :: x12 :: x13 :: x14 :: x15 :: x16 :: x17 :: y :: r) H Q := q
theorem w_v19 {x0 x1 x2 x3 x4 x5 x6 x7 x8 x9 x10 x11 x12 x13 x14 x15 x16 x17 x18 : Option V} {v : V} {r : L2.St} (q : Q v H) : tVar 19 (x0 :: x1 :: x2 :: x3 :: x4 :: x5 :: x6 :: x7 :: x8 :: x9 :: x10 :: x11 :: x12 :: x13 :: x14 :: x15 :: x16 :: x17 :: x18 :: some v :: r) H Q := ⟨v, rfl, q⟩
theorem w_n19 {x0 x1 x2 x3 x4 x5 x6 x7 x8 x9 x10 x11 x12 x13 x14 x15 x16 x17 x18 : Option V} {y : Option V} {v : V} {r : L2.St} {Q : L2.St → Hp → Prop} (q : Q (x0 :: x1 :: x2 :: x3 :: x4 :: x5 :: x6 :: x7 :: x8 :: x9 :: x10 :: x11 :: x12 :: x13 :: x14 :: x15 :: x16 :: x17 :: x18 :: some v :: r) H) : gName 19 v (x0 :: x1 :: x2 :: x3 :: x4 :: x5 :: x6 :: x7 :: x8 :: x9 :: x10 :: x11 :: x12 :: x13 :: x14 :: x15 :: x16 :: x17 :: x18 :: y :: r) H Q := q
theorem w_v20 {x0 x1 x2 x3 x4 x5 x6 x7 x8 x9 x10 x11 x12 x13 x14 x15 x16 x17 x18 x19 : Option V} {v : V} {r : L2.St} (q : Q v H) : tVar 20 (x0 :: x1 :: x2 :: x3 :: x4 :: x5 :: x6 :: x7 :: x8 :: x9 :: x10 :: x11 :: x12 :: x13 :: x14 :: x15 :: x16 :: x17 :: x18 :: x19 :: some v :: r) H Q := ⟨v, rfl, q⟩
theorem w_n20 {x0 x1 x2 x3 x4 x5 x6 x7 x8 x9 x10 x11 x12 x13 x14 x15 x16 x17 x18 x19 : Option V} {y : Option V} {v : V} {r : L2.St} {Q : L2.St → Hp → Prop} (q : Q (x0 :: x1 :: x2 :: x3 :: x4 :: x5 :: x6 :: x7 :: x8 :: x9 :: x10 :: x11 :: x12 :: x13 :: x14 :: x15 :: x16 :: x17 :: x18 :: x19 :: some v :: r) H) : gName 20 v (x0 :: x1 :: x2 :: x3 :: x4 :: x5 :: x6 :: x7 :: x8 :: x9 :: x10 :: x11 :: x12 :: x13 :: x14 :: x15 :: x16 :: x17 :: x18 :: x19 :: y :: r) H Q := q
theorem w_v21 {x0 x1 x2 x3 x4 x5 x6 x7 x8 x9 x10 x11 x12 x13 x14 x15 x16 x17 x18 x19 x20 : Option V} {v : V} {r : L2.St} (q : Q v H) : tVar 21 (x0 :: x1 :: x2 :: x3 :: x4 :: x5 :: x6 :: x7 :: x8 :: x9 :: x10 :: x11 :: x12 :: x13 :: x14 :: x15 :: x16 :: x17 :: x18 :: x19 :: x20 :: some v :: r) H Q := ⟨v, rfl, q⟩
theorem w_n21 {x0 x1 x2 x3 x4 x5 x6 x7 x8 x9 x10 x11 x12 x13 x14 x15 x16 x17 x18 x19 x20 : Option V} {y : Option V} {v : V} {r : L2.St} {Q : L2.St → Hp → Prop} (q : Q (x0 :: x1 :: x2 :: x3 :: x4 :: x5 :: x6 :: x7 :: x8 :: x9 :: x10 :: x11 :: x12 :: x13 :: x14 :: x15 :: x16 :: x17 :: x18 :: x19 :: x20 :: some v :: r) H) : gName 21 v (x0 :: x1 :: x2 :: x3 :: x4 :: x5 :: x6 :: x7 :: x8 :: x9 :: x10 :: x11 :: x12 :: x13 :: x14 :: x15 :: x16 :: x17 :: x18 :: x19 :: x20 :: y :: r) H Q := q
theorem w_v22 {x0 x1 x2 x3 x4 x5 x6 x7 x8 x9 x10 x11 x12 x13 x14 x15 x16 x17 x18 x19 x20 x21 : Option V} {v : V} {r : L2.St} (q : Q v H) : tVar 22 (x0 :: x1 :: x2 :: x3 :: x4 :: x5 :: x6 :: x7 :: x8 :: x9 :: x10 :: x11 :: x12 :: x13 :: x14 :: x15 :: x16 :: x17 :: x18 :: x19 :: x20 :: x21 :: some v :: r) H Q := ⟨v, rfl, q⟩
theorem w_n22 {x0 x1 x2 x3 x4 x5 x6 x7 x8 x9 x10 x11 x12 x13 x14 x15 x16 x17 x18 x19 x20 x21 : Option V} {y : Option V} {v : V} {r : L2.St} {Q : L2.St → Hp → Prop} (q : Q (x0 :: x1 :: x2 :: x3 :: x4 :: x5 :: x6 :: x7 :: x8 :: x9 :: x10 :: x11 :: x12 :: x13 :: x14 :: x15 :: x16 :: x17 :: x18 :: x19 :: x20 :: x21 :: some v :: r) H) : gName 22 v (x0 :: x1 :: x2 :: x3 :: x4 :: x5 :: x6 :: x7 :: x8 :: x9 :: x10 :: x11 :: x12 :: x13 :: x14 :: x15 :: x16 :: x17 :: x18 :: x19 :: x20 :: x21 :: y :: r) H Q := q
theorem w_v23 {x0 x1 x2 x3 x4 x5 x6 x7 x8 x9 x10 x11 x12 x13 x14 x15 x16 x17 x18 x19 x20 x21 x22 : Option V} {v : V} {r : L2.St} (q : Q v H) : tVar 23 (x0 :: x1 :: x2 :: x3 :: x4 :: x5 :: x6 :: x7 :: x8 :: x9 :: x10 :: x11 :: x12 :: x13 :: x14 :: x15 :: x16 :: x17 :: x18 :: x19 :: x20 :: x21 :: x22 :: some v :: r) H Q := ⟨v, rfl, q⟩
theorem w_n23 {x0 x1 x2 x3 x4 x5 x6 x7 x8 x9 x10 x11 x12 x13 x14 x15 x16 x17 x18 x19 x20 x21 x22 : Option V} {y : Option V} {v : V} {r : L2.St} {Q : L2.St → Hp → Prop} (q : Q (x0 :: x1 :: x2 :: x3 :: x4 :: x5 :: x6 :: x7 :: x8 :: x9 :: x10 :: x11 :: x12 :: x13 :: x14 :: x15 :: x16 :: x17 :: x18 :: x19 :: x20 :: x21 :: x22 :: some v :: r) H) : gName 23 v (x0 :: x1 :: x2 :: x3 :: x4 :: x5 :: x6 :: x7 :: x8 :: x9 :: x10 :: x11 :: x12 :: x13 :: x14 :: x15 :: x16 :: x17 :: x18 :: x19 :: x20 :: x21 :: x22 :: y :: r) H Q := q
theorem w_v24 {x0 x1 x2 x3 x4 x5 x6 x7 x8 x9 x10 x11 x12 x13 x14 x15 x16 x17 x18 x19 x20 x21 x22 x23 : Option V} {v : V} {r : L2.St} (q : Q v H) : tVar 24 (x0 :: x1 :: x2 :: x3 :: x4 :: x5 :: x6 :: x7 :: x8 :: x9 :: x10 :: x11 :: x12 :: x13 :: x14 :: x15 :: x16 :: x17 :: x18 :: x19 :: x20 :: x21 :: x22 :: x23 :: some v :: r) H Q := ⟨v, rfl, q⟩
theorem w_n24 {x0 x1 x2 x3 x4 x5 x6 x7 x8 x9 x10 x11 x12 x13 x14 x15 x16 x17 x18 x19 x20 x21 x22 x23 : Option V} {y : Option V} {v : V} {r : L2.St} {Q : L2.St → Hp → Prop} (q : Q (x0 :: x1 :: x2 :: x3 :: x4 :: x5 :: x6 :: x7 :: x8 :: x9 :: x10 :: x11 :: x12 :: x13 :: x14 :: x15 :: x16 :: x17 :: x18 :: x19 :: x20 :: x21 :: x22 :: x23 :: some v :: r) H) : gName 24 v (x0 :: x1 :: x2 :: x3 :: x4 :: x5 :: x6 :: x7 :: x8 :: x9 :: x10 :: x11 :: x12 :: x13 :: x14 :: x15 :: x16 :: x17 :: x18 :: x19 :: x20 :: x21 :: x22 :: x23 :: y :: r) H Q := q
theorem w_v25 {x0 x1 x2 x3 x4 x5 x6 x7 x8 x9 x10 x11 x12 x13 x14 x15 x16 x17 x18 x19 x20 x21 x22 x23 x24 : Option V} {v : V} {r : L2.St} (q : Q v H) : tVar 25 (x0 :: x1 :: x2 :: x3 :: x4 :: x5 :: x6 :: x7 :: x8 :: x9 :: x10 :: x11 :: x12 :: x13 :: x14 :: x15 :: x16 :: x17 :: x18 :: x19 :: x20 :: x21 :: x22 :: x23 :: x24 :: some v :: r) H Q := ⟨v, rfl, q⟩
theorem w_n25 {x0 x1 x2 x3 x4 x5 x6 x7 x8 x9 x10 x11 x12 x13 x14 x15 x16 x17 x18 x19 x20 x21 x22 x23 x24 : Option V} {y : Option V} {v : V} {r : L2.St} {Q : L2.St → Hp → Prop} (q : Q (x0 :: x1 :: x2 :: x3 :: x4 :: x5 :: x6 :: x7 :: x8 :: x9 :: x10 :: x11 :: x12 :: x13 :: x14 :: x15 :: x16 :: x17 :: x18 :: x19 :: x20 :: x21 :: x22 :: x23 :: x24 :: some v :: r) H) : gName 25 v (x0 :: x1 :: x2 :: x3 :: x4 :: x5 :: x6 :: x7 :: x8 :: x9 :: x10 :: x11 :: x12 :: x13 :: x14 :: x15 :: x16 :: x17 :: x18 :: x19 :: x20 :: x21 :: x22 :: x23 :: x24 :: y :: r) H Q := q
theorem w_v26 {x0 x1 x2 x3 x4 x5 x6 x7 x8 x9 x10 x11 x12 x13 x14 x15 x16 x17 x18 x19 x20 x21 x22 x23 x24 x25 : Option V} {v : V} {r : L2.St} (q : Q v H) : tVar 26 (x0 :: x1 :: x2 :: x3 :: x4 :: x5 :: x6 :: x7 :: x8 :: x9 :: x10 :: x11 :: x12 :: x13 :: x14 :: x15 :: x16 :: x17 :: x18 :: x19 :: x20 :: x21 :: x22 :: x23 :: x24 :: x25 :: some v :: r) H Q := ⟨v, rfl, q⟩
theorem w_n26 {x0 x1 x2 x3 x4 x5 x6 x7 x8 x9 x10 x11 x12 x13 x14 x15 x16 x17 x18 x19 x20 x21 x22 x23 x24 x25 : Option V} {y : Option V} {v : V} {r : L2.St} {Q : L2.St → Hp → Prop} (q : Q (x0 :: x1 :: x2 :: x3 :: x4 :: x5 :: x6 :: x7 :: x8 :: x9 :: x10 :: x11 :: x12 :: x13 :: x14 :: x15 :: x16 :: x17 :: x18 :: x19 :: x20 :: x21 :: x22 :: x23 :: x24 :: x25 :: some v :: r) H) : gName 26 v (x0 :: x1 :: x2 :: x3 :: x4 :: x5 :: x6 :: x7 :: x8 :: x9 :: x10 :: x11 :: x12 :: x13 :: x14 :: x15 :: x16 :: x17 :: x18 :: x19 :: x20 :: x21 :: x22 :: x23 :: x24 :: x25 :: y :: r) H Q := q
theorem w_v27 {x0 x1 x2 x3 x4 x5 x6 x7 x8 x9 x10 x11 x12 x13 x14 x15 x16 x17 x18 x19 x20 x21 x22 x23 x24 x25 x26 : Option V} {v : V} {r : L2.St} (q : Q v H) : tVar 27 (x0 :: x1 :: x2 :: x3 :: x4 :: x5 :: x6 :: x7 :: x8 :: x9 :: x10 :: x11 :: x12 :: x13 :: x14 :: x15 :: x16 :: x17 :: x18 :: x19 :: x20 :: x21 :: x22 :: x23 :: x24 :: x25 :: x26 :: some v :: r) H Q := ⟨v, rfl, q⟩
theorem w_n27 {x0 x1 x2 x3 x4 x5 x6 x7 x8 x9 x10 x11 x12 x13 x14 x15 x16 x17 x18 x19 x20 x21 x22 x23 x24 x25 x26 : Option V} {y : Option V} {v : V} {r : L2.St} {Q : L2.St → Hp → Prop} (q : Q (x0 :: x1 :: x2 :: x3 :: x4 :: x5 :: x6 :: x7 :: x8 :: x9 :: x10 :: x11 :: x12 :: x13 :: x14 :: x15 :: x16 :: x17 :: x18 :: x19 :: x20 :: x21 :: x22 :: x23 :: x24 :: x25 :: x26 :: some v :: r) H) : gName 27 v (x0 :: x1 :: x2 :: x3 :: x4 :: x5 :: x6 :: x7 :: x8 :: x9 :: x10 :: x11 :: x12 :: x13 :: x14 :: x15 :: x16 :: x17 :: x18 :: x19 :: x20 :: x21 :: x22 :: x23 :: x24 :: x25 :: x26 :: y :: r) H Q := q
theorem w_v28 {x0 x1 x2 x3 x4 x5 x6 x7 x8 x9 x10 x11 x12 x13 x14 x15 x16 x17 x18 x19 x20 x21 x22 x23 x24 x25 x26 x27 : Option V} {v : V} {r : L2.St} (q : Q v H) : tVar 28 (x0 :: x1 :: x2 :: x3 :: x4 :: x5 :: x6 :: x7 :: x8 :: x9 :: x10 :: x11 :: x12 :: x13 :: x14 :: x15 :: x16 :: x17 :: x18 :: x19 :: x20 :: x21 :: x22 :: x23 :: x24 :: x25 :: x26 :: x27 :: some v :: r) H Q := ⟨v, rfl, q⟩
theorem w_n28 {x0 x1 x2 x3 x4 x5 x6 x7 x8 x9 x10 x11 x12 x13 x14 x15 x16 x17 x18 x19 x20 x21 x22 x23 x24 x25 x26 x27 : Option V} {y : Option V} {v : V} {r : L2.St} {Q : L2.St → Hp → Prop} (q : Q (x0 :: x1 :: x2 :: x3 :: x4 :: x5 :: x6 :: x7 :: x8 :: x9 :: x10 :: x11 :: x12 :: x13 :: x14 :: x15 :: x16 :: x17 :: x18 :: x19 :: x20 :: x21 :: x22 :: x23 :: x24 :: x25 :: x26 :: x27 :: some v :: r) H) : gName 28 v (x0 :: x1 :: x2 :: x3 :: x4 :: x5 :: x6 :: x7 :: x8 :: x9 :: x10 :: x11 :: x12 :: x13 :: x14 :: x15 :: x16 :: x17 :: x18 :: x19 :: x20 :: x21 :: x22 :: x23 :: x24 :: x25 :: x26 :: x27 :: y :: r) H Q := q
theorem w_v29 {x0 x1 x2 x3 x4 x5 x6 x7 x8 x9 x10 x11 x12 x13 x14 x15 x16 x17 x18 x19 x20 x21 x22 x23 x24 x25 x26 x27 x28 : Option V} {v : V} {r : L2.St} (q : Q v H) : tVar 29 (x0 :: x1 :: x2 :: x3 :: x4 :: x5 :: x6 :: x7 :: x8 :: x9 :: x10 :: x11 :: x12 :: x13 :: x14 :: x15 :: x16 :: x17 :: x18 :: x19 :: x20 :: x21 :: x22 :: x23 :: x24 :: x25 :: x26 :: x27 :: x28 :: some v :: r) H Q := ⟨v, rfl, q⟩
theorem w_n29 {x0 x1 x2 x3 x4 x5 x6 x7 x8 x9 x10 x11 x12 x13 x14 x15 x16 x17 x18 x19 x20 x21 x22 x23 x24 x25 x26 x27 x28 : Option V} {y : Option V} {v : V} {r : L2.St} {Q : L2.St → Hp → Prop} (q : Q (x0 :: x1 :: x2 :: x3 :: x4 :: x5 :: x6 :: x7 :: x8 :: x9 :: x10 :: x11 :: x12 :: x13 :: x14 :: x15 :: x16 :: x17 :: x18 :: x19 :: x20 :: x21 :: x22 :: x23 :: x24 :: x25 :: x26 :: x27 :: x28 :: some v :: r) H) : gName 29 v (x0 :: x1 :: x2 :: x3 :: x4 :: x5 :: x6 :: x7 :: x8 :: x9 :: x10 :: x11 :: x12 :: x13 :: x14 :: x15 :: x16 :: x17 :: x18 :: x19 :: x20 :: x21 :: x22 :: x23 :: x24 :: x25 :: x26 :: x27 :: x28 :: y :: r) H Q := q
theorem w_v30 {x0 x1 x2 x3 x4 x5 x6 x7 x8 x9 x10 x11 x12 x13 x14 x15 x16 x17 x18 x19 x20 x21 x22 x23 x24 x25 x26 x27 x28 x29 : Option V} {v : V} {r : L2.St} (q : Q v H) : tVar 30 (x0 :: x1 :: x2 :: x3 :: x4 :: x5 :: x6 :: x7 :: x8 :: x9 :: x10 :: x11 :: x12 :: x13 :: x14 :: x15 :: x16 :: x17 :: x18 :: x19 :: x20 :: x21 :: x22 :: x23 :: x24 :: x25 :: x26 :: x27 :: x28 :: x29 :: some v :: r) H Q := ⟨v, rfl, q⟩
theorem w_n30 {x0 x1 x2 x3 x4 x5 x6 x7 x8 x9 x10 x11 x12 x13 x14 x15 x16 x17 x18 x19 x20 x21 x22 x23 x24 x25 x26 x27 x28 x29 : Option V} {y : Option V} {v : V} {r : L2.St} {Q : L2.St → Hp → Prop} (q : Q (x0 :: x1 :: x2 :: x3 :: x4 :: x5 :: x6 :: x7 :: x8 :: x9 :: x10 :: x11 :: x12 :: x13 :: x14 :: x15 :: x16 :: x17 :: x18 :: x19 :: x20 :: x21 :: x22 :: x23 :: x24 :: x25 :: x26 :: x27 :: x28 :: x29 :: some v :: r) H) : gName 30 v (x0 :: x1 :: x2 :: x3 :: x4 :: x5 :: x6 :: x7 :: x8 :: x9 :: x10 :: x11 :: x12 :: x13 :: x14 :: x15 :: x16 :: x17 :: x18 :: x19 :: x20 :: x21 :: x22 :: x23 :: x24 :: x25 :: x26 :: x27 :: x28 :: x29 :: y :: r) H Q := q
theorem w_v31 {x0 x1 x2 x3 x4 x5 x6 x7 x8 x9 x10 x11 x12 x13 x14 x15 x16 x17 x18 x19 x20 x21 x22 x23 x24 x25 x26 x27 x28 x29 x30 : Option V} {v : V} {r : L2.St} (q : Q v H) : tVar 31 (x0 :: x1 :: x2 :: x3 :: x4 :: x5 :: x6 :: x7 :: x8 :: x9 :: x10 :: x11 :: x12 :: x13 :: x14 :: x15 :: x16 :: x17 :: x18 :: x19 :: x20 :: x21 :: x22 :: x23 :: x24 :: x25 :: x26 :: x27 :: x28 :: x29 :: x30 :: some v :: r) H Q := ⟨v, rfl, q⟩
theorem w_n31 {x0 x1 x2 x3 x4 x5 x6 x7 x8 x9 x10 x11 x12 x13 x14 x15 x16 x17 x18 x19 x20 x21 x22 x23 x24 x25 x26 x27 x28 x29 x30 : Option V} {y : Option V} {v : V} {r : L2.St} {Q : L2.St → Hp → Prop} (q : Q (x0 :: x1 :: x2 :: x3 :: x4 :: x5 :: x6 :: x7 :: x8 :: x9 :: x10 :: x11 :: x12 :: x13 :: x14 :: x15 :: x16 :: x17 :: x18 :: x19 :: x20 :: x21 :: x22 :: x23 :: x24 :: x25 :: x26 :: x27 :: x28 :: x29 :: x30 :: some v :: r) H) : gName 31 v (x0 :: x1 :: x2 :: x3 :: x4 :: x5 :: x6 :: x7 :: x8 :: x9 :: x10 :: x11 :: x12 :: x13 :: x14 :: x15 :: x16 :: x17 :: x18 :: x19 :: x20 :: x21 :: x22 :: x23 :: x24 :: x25 :: x26 :: x27 :: x28 :: x29 :: x30 :: y :: r) H Q := q
theorem w_op (q : ta σ H fun x H1 => tb σ H1 fun y H2 => r x y H2 Q) : tOp r ta tb σ H Q := q
theorem w_un {r : V → Hp → VK → Prop} (q : ta σ H fun x H1 => r x H1 Q) : tUn r ta σ H Q := q
theorem w_chain {r' : R2} (q : ta σ H fun x H1 => tb σ H1 fun y H2 => r x y H2 fun z H3 => ∃ k, z = .bl k ∧ (if k = true then tc σ H3 fun w' H4 => r' y w' H4 Q else Q (.bl false) H3)) : tChain r r' ta tb tc σ H Q := q
theorem w_I {CC : Int → Int → Prop} {g : Int → Int → V} {i j : Int} (c : CC i j) (q : Q (g i j) H) : rI CC g (.int i) (.int j) H Q := ⟨i, j, rfl, rfl, c, q⟩
theorem w_I0 {g : Int → Int → V} {i j : Int} (q : Q (g i j) H) : rI0 g (.int i) (.int j) H Q := ⟨i, j, rfl, rfl, q⟩
theorem w_U {g : Int → V} {i : Int} (q : Q (g i) H) : rU g (.int i) H Q := ⟨i, rfl, q⟩
theorem w_eqI {i j : Int} (q : Q (.bl (decide (i = j))) H) : rEq (.int i) (.int j) H Q := by
  refine ⟨rfl, ?_⟩
  have e : decide (V.int i = V.int j) = decide (i = j) := by
    by_cases h : i = j
    · rw [h]; simp
    · rw [decide_eq_false h, decide_eq_false (fun z => h (V.int.inj z))]
  rw [e]; exact q
theorem w_neI {i j : Int} (q : Q (.bl (!decide (i = j))) H) : rNe (.int i) (.int j) H Q := by
  refine ⟨rfl, ?_⟩
  have e : decide (V.int i = V.int j) = decide (i = j) := by
    by_cases h : i = j
    · rw [h]; simp
    · rw [decide_eq_false h, decide_eq_false (fun z => h (V.int.inj z))]
  rw [e]; exact q
theorem w_eqB {i j : Bool} (q : Q (.bl (decide (i = j))) H) : rEq (.bl i) (.bl j) H Q := by
  refine ⟨rfl, ?_⟩
  have e : decide (V.bl i = V.bl j) = decide (i = j) := by
    by_cases h : i = j
    · rw [h]; simp
    · rw [decide_eq_false h, decide_eq_false (fun z => h (V.bl.inj z))]
  rw [e]; exact q
theorem w_neB {i j : Bool} (q : Q (.bl (!decide (i = j))) H) : rNe (.bl i) (.bl j) H Q := by
  refine ⟨rfl, ?_⟩
  have e : decide (V.bl i = V.bl j) = decide (i = j) := by
    by_cases h : i = j
    · rw [h]; simp
    · rw [decide_eq_false h, decide_eq_false (fun z => h (V.bl.inj z))]
  rw [e]; exact q
theorem w_eqS {i j : Str} (q : Q (.bl (decide (i = j))) H) : rEq (.str i) (.str j) H Q := by
  refine ⟨rfl, ?_⟩
  have e : decide (V.str i = V.str j) = decide (i = j) := by
    by_cases h : i = j
    · rw [h]; simp
    · rw [decide_eq_false h, decide_eq_false (fun z => h (V.str.inj z))]
  rw [e]; exact q
theorem w_test {Q : Bool → Hp → Prop} (q : te σ H fun x H' => ∃ k, x = .bl k ∧ Q k H') : tTest te σ H Q := q
theorem w_B {Q : Bool → Hp → Prop} (q : te σ H fun x H' => ∃ k, x = .bl k ∧ Q k H') : tB te σ H Q := q
theorem w_exb {b : Bool} {P : Bool → Prop} (q : P b) : ∃ k, V.bl b = .bl k ∧ P k := ⟨b, rfl, q⟩
theorem w_exi {i : Int} {P : Int → Prop} (q : P i) : ∃ k, V.int i = .int k ∧ P k := ⟨i, rfl, q⟩
theorem w_exr {a : Addr} {P : Addr → Prop} (q : P a) : ∃ k, V.ref a = .ref k ∧ P k := ⟨a, rfl, q⟩
theorem w_and {Q : Bool → Hp → Prop} (q : tt σ H fun c H1 => if c = true then tu σ H1 Q else Q false H1) : tAnd tt tu σ H Q := q
theorem w_or {Q : Bool → Hp → Prop} (q : tt σ H fun c H1 => if c = true then Q true H1 else tu σ H1 Q) : tOr tt tu σ H Q := q
theorem w_not {Q : Bool → Hp → Prop} (q : tt σ H fun c H1 => Q (!c) H1) : tNot tt σ H Q := q
theorem w_andV (q : ta σ H fun x H1 => ∃ c, x = .bl c ∧ if c = true then tb σ H1 Q else Q (.bl false) H1) : tAndV ta tb σ H Q := q
theorem w_orV (q : ta σ H fun x H1 => ∃ c, x = .bl c ∧ if c = true then Q (.bl true) H1 else tb σ H1 Q) : tOrV ta tb σ H Q := q
theorem w_notV (q : ta σ H fun x H1 => ∃ c, x = .bl c ∧ Q (.bl (!c)) H1) : tNotV ta σ H Q := q
/-- what evaluates to one value, whatever follows -/
theorem w_val (v : V) (hE : ∀ Q : VK, Q v H → te σ H Q) (q : Q v H) : te σ H Q := hE Q q
theorem w_if (q : tt σ H fun c H1 => if c = true then ta σ H1 Q else tb σ H1 Q) : tIf tt ta tb σ H Q := q
theorem w_nil {Q : List V → Hp → Prop} (q : Q [] H) : tNil σ H Q := q
theorem w_cons {tr : TA} {Q : List V → Hp → Prop} (q : ta σ H fun x H1 => tr σ H1 fun xs H2 => Q (x :: xs) H2) : tCons ta tr σ H Q := q
theorem w_call {sp : Sp} {E : XK} {t : TA} (q : t σ H fun vs H1 => sp (vs ++ []) H1 Q E) : tCall sp [] E t σ H Q := q
theorem w_callK {sp : Sp} {gV : List V → List V → List V} {E : XK} {t tk : TA} (q : t σ H fun vs H1 => tk σ H1 fun zs H2 => sp (gV vs zs) H2 Q E) : tCallK sp gV E t tk σ H Q := q
theorem w_make {sp : Sp} {E : XK} {t : TA} (q : t σ H fun vs H1 => ∀ x dx, H1 x = none → H1 dx = none → dx ≠ x → sp (.ref x :: (vs ++ [])) (upd (upd H1 dx (.own x)) x (.ins C dx [])) (fun v H2 => v = .non ∧ Q (.ref x) H2) E) : tMake C sp [] E t σ H Q := q
theorem w_cb {r : List V → Hp → VK → Prop} {t : TA} (q : t σ H fun vs H1 => r vs H1 Q) : tCB r t σ H Q := q
theorem w_int {i : Int} (q : Q (.int i) H) : rIntC [.int i] H Q := .inl ⟨i, rfl, q⟩
theorem w_intB {i : Bool} (q : Q (.int (if i then 1 else 0)) H) : rIntC [.bl i] H Q := .inr ⟨i, rfl, q⟩
theorem w_isNn (q : Q (.bl true) H) : rIsNn .non .non H Q := ⟨rfl, q⟩
theorem w_isNi {i : Int} (q : Q (.bl false) H) : rIsNn (.int i) .non H Q := ⟨rfl, q⟩
theorem w_abs {i : Int} (q : Q (.int (ab i)) H) : rAbsC [.int i] H Q := ⟨i, rfl, q⟩
theorem w_bits {to : TE} (q : to σ H fun x H1 => ∃ i, x = .int i ∧ Q (.int (Builtin.Int.intBits i : Nat)) H1) : tBits to σ H Q := q
theorem w_ixL {p : Addr} {xs : List V} {i : Int} {v : V} (h : H p = some (.lst xs)) (e : atI xs i = some v) (q : Q v H) : rIxL K (.ref p) (.int i) H Q := ⟨p, xs, i, v, rfl, rfl, SqL.of h, e, q⟩
theorem w_ixT {p : Addr} {xs : List V} {i : Int} {v : V} (h : H p = some (.tup xs)) (e : atI xs i = some v) (q : Q v H) : rIxT K (.ref p) (.int i) H Q := ⟨p, xs, i, v, rfl, rfl, SqT.of h, e, q⟩
theorem w_setL {p : Addr} {xs : List V} {i : Int} {v : V} {j : Nat} {Q : Hp → Prop} (h : H p = some (.lst xs)) (e : ixN xs.length i = some j) (q : Q (upd H p (.lst (xs.set j v)))) : rSetL (.ref p) (.int i) v H Q := ⟨p, xs, i, j, rfl, rfl, h, e, q⟩
theorem w_sl {r : V → Option Int → Option Int → Hp → VK → Prop} {tl th : TO} (q : te σ H fun x H1 => tl σ H1 fun l H2 => th σ H2 fun u H3 => r x l u H3 Q) : L2.tSl r te tl th σ H Q := q
theorem w_part {Q : Option Int → Hp → Prop} (q : te σ H fun x H1 => ∃ i, x = .int i ∧ Q (some i) H1) : tPart te σ H Q := q
theorem w_nopart {Q : Option Int → Hp → Prop} (q : Q none H) : tNoPart σ H Q := q
theorem w_slL {a : Addr} {xs : List V} {lo hi : Option Int} (h : SqL K H a xs) (q : ∀ p, H p = none → Q (.ref p) (upd H p (.lst (cutV xs lo hi)))) : rSlL K (.ref a) lo hi H Q := ⟨a, xs, rfl, h, q⟩
theorem w_lst {t : TA} (q : t σ H fun xs H1 => xs.length ≤ sizeLine ∧ ∀ p, H1 p = none → Q (.ref p) (upd H1 p (.lst xs))) : tLst t σ H Q := q
theorem w_tup {t : TA} (q : t σ H fun xs H1 => xs.length ≤ sizeLine ∧ ∀ p, H1 p = none → Q (.ref p) (upd H1 p (.tup xs))) : tTup t σ H Q := q
theorem w_cat {l b : Addr} {xs zs : List V} (h1 : H l = some (.lst xs)) (h2 : H b = some (.lst zs)) (n : xs.length + zs.length ≤ sizeLine) (q : ∀ p, H p = none → Q (.ref p) (upd H p (.lst (xs ++ zs)))) : rCat (.ref l) (.ref b) H Q := ⟨l, b, xs, zs, rfl, rfl, h1, h2, n, q⟩
theorem w_dnewK (q : ∀ d, H d = none → Q (.ref d) (upd H d (.dK []))) : tDNewK σ H Q := q
theorem w_eqNil {p q : Addr} (hp : H p = some (.lst [])) (hq : H q = some (.lst [])) (k : Q (.bl true) H) : rEqD K (.ref p) (.ref q) H Q := ⟨.list [], .list [], .lst (SqL.of hp) .nil, .lst (SqL.of hq) .nil, by decide, by decide, k⟩
theorem w_wipe1 {g : TG} {v : V} {vs : List Nat} {σ' : L2.St} {Q : L2.St → Hp → Prop} (e : wipe σ vs = σ') (q : g v σ' H Q) : g v (wipe σ vs) H Q := by rw [e]; exact q
theorem w_inT {p : Addr} {x : V} {xs : List V} (h : SqT K H p xs) (f1 : flatV x = true) (f2 : xs.all flatV = true) (q : Q (.bl (inV x xs)) H) : rIn K false x (.ref p) H Q := ⟨p, xs, rfl, .inr h, f1, f2, q⟩
theorem w_meth0 {C : Addr} {m : Str} {sp : Sp} {E : XK} (q : ta σ H fun x H1 => ∃ a dx fs, x = .ref a ∧ H1 a = some (.ins C dx fs) ∧ fs.lookup m = none ∧ sp (x :: ([] ++ [])) H1 Q E) : tMeth C m sp [] E ta tNil σ H Q := q
theorem w_par {i j : Nat} {t : TA} (q : t σ H fun vs H1 => ∃ v w, vs = [v, w] ∧ D.nx ((σ.set i (some v)).set j (some w)) H1) : tPar i j t D σ H := q
theorem w_exvw {a c : V} {P : V → V → Prop} (q : P a c) : ∃ v w, [a, c] = [v, w] ∧ P v w := ⟨a, c, rfl, q⟩
theorem w_while {tc : TT} {tb : TS} (W : Nat → L2.St → Hp → Prop) (m0 : Nat) (h0 : W m0 σ H) (hs : ∀ m σ H, W m σ H → tc σ H fun b H1 => if b = true then ∃ N : L2.St → Hp → Prop, (∀ σ' H', N σ' H' → ∃ m', m' < m ∧ W m' σ' H') ∧ tb { D with nx := N, ct := N, bk := D.nx } σ H1 else D.nx σ H1) : tWhile tc tb D σ H := ⟨W, ⟨m0, h0⟩, hs⟩
theorem w_rep {l : Addr} {k : Int} {xs : List V} (h : H l = some (.lst xs)) (k0 : 0 ≤ k) (k1 : k ≤ 1000) (n : xs.length * k.toNat ≤ sizeLine) (q : ∀ p, H p = none → Q (.ref p) (upd H p (.lst (List.replicate k.toNat xs).flatten))) : rRep (.ref l) (.int k) H Q := ⟨l, k, xs, rfl, rfl, h, by omega, by omega, n, q⟩
theorem w_dget {td ty : TE} (q : td σ H fun x H1 => ty σ H1 fun y H2 => ∃ a v, x = .ref a ∧ DGet H2 a y (some v) ∧ Q v H2) : tDGet td ty σ H Q := q
-- statements
theorem w_next (q : D.nx σ H) : tNext D σ H := q
theorem w_seq {t u : TS} (q : t { D with nx := u D } σ H) : tSeq t u D σ H := q
theorem w_drop (q : te σ H fun _ H1 => D.nx σ H1) : tDrop te D σ H := q
theorem w_ret (q : te σ H D.rt) : tRet te D σ H := q
theorem w_retN (q : D.rt .non H) : tRetN D σ H := q
theorem w_ifS {t u : TS} (q : tt σ H fun b H1 => if b = true then t D σ H1 else u D σ H1) : tIfS tt t u D σ H := q
theorem w_asg {g : TG} (q : te σ H fun x H1 => g x σ H1 D.nx) : tAsg te g D σ H := q
theorem w_name {i : Nat} {v : V} {Q : L2.St → Hp → Prop} (q : Q (σ.set i (some v)) H) : gName i v σ H Q := q
theorem w_gnil {Q : L2.St → Hp → Prop} (q : Q σ H) : gNil [] σ H Q := ⟨rfl, q⟩
theorem w_gcons {t : TG} {u : TGs} {v : V} {r : List V} {Q : L2.St → Hp → Prop} (q : t v σ H fun σ' H' => u r σ' H' Q) : gCons t u (v :: r) σ H Q := ⟨v, r, rfl, q⟩
theorem w_gtup {n : Nat} {t : TGs} {a : Addr} {xs : List V} {Q : L2.St → Hp → Prop} (h : H a = some (.tup xs)) (l : xs.length = n) (q : t xs σ H Q) : gTup K n t (.ref a) σ H Q := ⟨a, xs, rfl, SqT.of h, l, q⟩
theorem w_gsub {to ti : TE} {t : TSet} {v : V} {Q : L2.St → Hp → Prop} (q : to σ H fun o H1 => ti σ H1 fun i H2 => t o i v H2 fun H3 => Q σ H3) : gSub to ti t v σ H Q := q
/-- what a for asks of the thing walked -/
def ForW (g : TG) (tb : TS) (D : Ends) (σ : L2.St) (H1 : Hp) (J : It) : Prop := ∃ W : Nat → Nat → L2.St → Hp → Prop, (∃ m, W 0 m σ H1) ∧ ∀ i m σ H, W i m σ H →
    (J.stop i H ∧ D.nx σ H) ∨ (J.go i H ∧ ∃ N : L2.St → Hp → Prop, (∀ σ' H', N σ' H' → ∃ m', m' < m ∧ W (i + 1) m' σ' H') ∧ ∀ x H', J.yld i H x H' → g x σ H' fun σ2 H2 => tb { D with nx := N, ct := N, bk := D.nx } σ2 H2)
theorem w_for {wi : TI} {g : TG} {tb : TS} (q : wi σ H fun J H1 => ForW g tb D σ H1 J) : tFor wi g tb D σ H := q
def LcW (g : TG) (tt : TT) (te : TE) (vs : List Nat) (σ : L2.St) (Q : VK) (H1 : Hp) (J : It) : Prop := ∀ D, H1 D = none → ∃ W : Nat → Nat → Hp → Prop, (∃ m, W 0 m (upd H1 D (.lst []))) ∧ ∀ i m H, W i m H →
  (J.stop i H ∧ Q (.ref D) H) ∨ (J.go i H ∧ ∃ Nx : Hp → Prop, (∀ H', Nx H' → ∃ m', m' < m ∧ W (i + 1) m' H') ∧ ∀ x H', J.yld i H x H' → g x (wipe σ vs) H' fun σ2 H2 => wipe σ2 vs = wipe σ vs ∧ tt σ2 H2 fun b H3 =>
    if b = true then te σ2 H3 fun y H4 => ∃ acc, H4 D = some (.lst acc) ∧ acc.length < sizeLine ∧ Nx (upd H4 D (.lst (acc ++ [y]))) else Nx H3)
theorem w_lc {wi : TI} {g : TG} {vs : List Nat} (q : wi σ H fun J H1 => LcW g tt te vs σ Q H1 J) : tLc wi g tt te vs σ H Q := q
theorem w_yes {Q : Bool → Hp → Prop} (q : Q true H) : tYes σ H Q := q
theorem w_iList {tl : TE} {R : It → Hp → Prop} (q : tl σ H fun x H1 => ∃ a, x = .ref a ∧ (∃ xs, SqL K H1 a xs) ∧ R (Itl K a) H1) : iList K tl σ H R := q
theorem w_fld {f : Str} (q : ta σ H fun x H1 => ∃ a C dx fs v, x = .ref a ∧ H1 a = some (.ins C dx fs) ∧ Cls K C ∧ NoAttr K C f ∧ fs.lookup f = some v ∧ Q v H1) : tFld K ta f σ H Q := q
theorem w_sfld {tv : TE} {f : Str} (q : tv σ H fun y H1 => ta σ H1 fun x H2 => ∃ a C dx fs, x = .ref a ∧ H2 a = some (.ins C dx fs) ∧ Cls K C ∧ NoAttr K C f ∧ fs.length < 1000 ∧ D.nx σ (upd H2 a (.ins C dx (putF f y fs)))) : sFld K ta tv f D σ H := q
theorem w_len {p : Addr} {ys : List V} (h : H p = some (.lst ys)) (q : Q (.int (ys.length : Int)) H) : rLenS K [.ref p] H Q := ⟨p, ys, rfl, .inl (SqL.of h), q⟩
theorem w_all {p : Addr} {bs : List Bool} (h : H p = some (.lst (bs.map V.bl))) (q : Q (.bl (bs.all id)) H) : rAll K [.ref p] H Q := ⟨p, bs, rfl, SqL.of h, q⟩
theorem w_iRng1 {ta : TA} {R : It → Hp → Prop} (q : ta σ H fun vs H1 => ∃ j : Int, vs = [.int j] ∧ -(2 ^ 62) ≤ j ∧ j < 2 ^ 62 ∧ R (Itr 0 j.toNat) H1) : iRng1 ta σ H R := q
-- tests
theorem w_dec {P A B : Prop} [Decidable P] (h1 : P → A) (h2 : ¬ P → B) : if decide P = true then A else B := by
  by_cases h : P
  · rw [decide_eq_true h, if_pos rfl]; exact h1 h
  · rw [decide_eq_false h, if_neg Bool.false_ne_true]; exact h2 h
theorem w_ndec {P A B : Prop} [Decidable P] (h1 : ¬ P → A) (h2 : P → B) : if (!decide P) = true then A else B := by
  by_cases h : P
  · rw [decide_eq_true h]; exact iteF (h2 h)
  · rw [decide_eq_false h]; exact iteT (h1 h)
theorem w_decT {P A B : Prop} [Decidable P] (h : P) (q : A) : if decide P = true then A else B := by rw [decide_eq_true h, if_pos rfl]; exact q
theorem w_decF {P A B : Prop} [Decidable P] (h : ¬ P) (q : B) : if decide P = true then A else B := by rw [decide_eq_false h, if_neg Bool.false_ne_true]; exact q
theorem w_ndecT {P A B : Prop} [Decidable P] (h : P) (q : B) : if (!decide P) = true then A else B := by rw [decide_eq_true h]; exact iteF q
theorem w_ndecF {P A B : Prop} [Decidable P] (h : ¬ P) (q : A) : if (!decide P) = true then A else B := by rw [decide_eq_false h]; exact iteT q
theorem w_bT {b : Bool} {A B : Prop} (h : b = true) (q : A) : if b = true then A else B := by rw [if_pos h]; exact q
theorem w_bF {b : Bool} {A B : Prop} (h : b = false) (q : B) : if b = true then A else B := by rw [h]; exact iteF q
end

theorem map_get {α : Type} {f : α → V} {l : List α} {i : Nat} {x : V} (h : (l.map f)[i]? = some x) : ∃ z, l[i]? = some z ∧ x = f z := by
  rw [List.getElem?_map] at h
  cases e : l[i]? with
  | none => rw [e] at h; cases h
  | some z => rw [e] at h; exact ⟨z, rfl, (Option.some.inj h).symm⟩
theorem get_lt {α : Type} {l : List α} {i : Nat} {x : α} (h : l[i]? = some x) : i < l.length := (List.getElem?_eq_some_iff.mp h).1
theorem tk_more {α : Type} {l : List α} {i : Nat} {x : α} (h : l[i]? = some x) : l.take (i + 1) = l.take i ++ [x] := by
  rw [List.take_add_one, h]; rfl
/-- a new object leaves the others -/
theorem gn {H : Hp} {l q : Addr} {o u : HO} (h : H l = some o) (hn : H q = none) : (L2.upd H q u) l = some o := by
  rw [upd_ne (ne_of_none h hn)]; exact h
theorem cut_map {α : Type} (f : α → V) (ns : List α) (lo hi : Option Int) : ∃ ms : List α, cutV (ns.map f) lo hi = ms.map f ∧ ms.length ≤ ns.length ∧ ∀ m ∈ ms, m ∈ ns := by
  refine ⟨(ns.drop (HT.sIx (ns.map f).length 0 lo)).take (HT.sIx (ns.map f).length (ns.map f).length hi - HT.sIx (ns.map f).length 0 lo), ?_, ?_, fun m hm => List.mem_of_mem_drop (List.mem_of_mem_take hm)⟩
  · unfold cutV; rw [← List.map_drop, ← List.map_take]
  · rw [List.length_take, List.length_drop]; omega
theorem cut_take {α : Type} (f : α → V) (ns : List α) (n : Nat) : cutV (ns.map f) none (some (n : Int)) = (ns.take n).map f := by
  unfold cutV
  rw [HT.sIx_none, HT.sIx_nat, List.drop_zero, Nat.sub_zero, List.length_map, ← List.map_take]
  congr 1
  by_cases h : n ≤ ns.length
  · rw [Nat.min_eq_left h]
  · rw [Nat.min_eq_right (by omega), List.take_length, List.take_of_length_le (by omega)]
theorem sm_mut {H H' : Hp} {D : Addr} {o : HO} (a : Same H H') (h : H D = none) : Same H (L2.upd H' D o) := fun q u e => by
  rw [upd_ne (ne_of_none e h)]; exact a q u e
theorem cpow {j n : Nat} (h : j ≤ 1000000) (e : (n : Int).natAbs < 2 ^ 64) : CPow (n : Int) (j : Int) := ⟨Int.natCast_nonneg _, by omega, e⟩

/-! match over texts -/
structure PMs (X : Cx) (cs : List MatchCase) (t : V → TS) : Prop where
  run : ∀ (pins : List (Addr × Obj)) (s : Shared) (σ : L2.St) (H : Hp) (D : Ends) (v : V) (u : Value) (first : Bool), Inv X pins σ H s → RelV v u → t v D σ H →
    wpAny (model X.prog X.w) X.A (matchCases cs X.env u first) (SP X pins D) X.xe s
def tCaseS (x : Str) (tb : TS) (tr : V → TS) : V → TS := fun v D σ H => ∃ z, v = .str z ∧ if decide (z = x) = true then tb D σ H else tr v D σ H
def tCaseA (tb : TS) : V → TS := fun _ => tb
def tMatch (te : TE) (t : V → TS) : TS := fun D σ H => te σ H fun v H1 => t v D σ H1
section
variable {X : Cx} {body : List Stmt} {rest : List MatchCase} {tb : TS} {tr : V → TS}
theorem pm_nil : PMs X [] (fun _ => tNext) := ⟨fun pins s σ H D v u first I r q => wpAny_matchCases_nil ⟨σ, H, I, q⟩⟩
theorem pm_any {p : Pos} (hb : PSs X body tb) : PMs X (⟨.MatchAs none none p, none, body⟩ :: rest) (tCaseA tb) := by
  refine ⟨fun pins s σ H D v u first I r q => ?_⟩
  refine wpAny_matchCases_cons (wpAny_matchPattern_Capture ?_)
  exact wpAny_assignInOrder_none (hb.run pins s σ H D I q)
theorem pm_str {x : Str} {j : Nat} {p p2 : Pos} (hb : PSs X body tb) (hr : PMs X rest tr) : PMs X (⟨.MatchValue (.Constant (.str x) j p) p2, none, body⟩ :: rest) (tCaseS x tb tr) := by
  refine ⟨fun pins s σ H D v u first I r q => ?_⟩
  obtain ⟨z, rfl, q⟩ := q
  refine wpAny_matchCases_cons (wpAny_matchPattern_Value ?_)
  refine thn ((pe_str (X := X) (x := x) (j := j) (pos := p)).run pins s σ H (fun y H1 => y = .str x ∧ H1 = H) I ⟨rfl, rfl⟩) fun w s1 ⟨y, H1, I1, r1, e1, e2⟩ => ?_
  subst e1 e2
  refine thn (op_eq (X := X) pins s1 σ H1 (.str z) (.str x) u w (fun y H2 => y = .bl (decide (V.str z = V.str x)) ∧ H2 = H1) I1 r r1 ⟨rfl, rfl, rfl⟩) fun c s2 ⟨y, H2, I2, r2, e1, e2⟩ => ?_
  subst e1 e2
  cases r2
  refine wpAny_truthy_bool ?_
  have e : decide (V.str z = V.str x) = decide (z = x) := by
    by_cases h : z = x
    · rw [h]; simp
    · rw [decide_eq_false h, decide_eq_false (fun k => h (V.str.inj k))]
  rw [e]
  by_cases h : z = x
  · rw [decide_eq_true h, if_pos rfl] at q
    rw [decide_eq_true h]
    exact wpAny_assignInOrder_none (hb.run pins s2 σ H2 D I2 q)
  · rw [decide_eq_false h, if_neg Bool.false_ne_true] at q
    rw [decide_eq_false h]
    exact hr.run pins s2 σ H2 D _ u false I2 r q
theorem ps_match {e : Expr} {te : TE} {cs : List MatchCase} {t : V → TS} {pos : Pos} (he : PE X e te) (hc : PMs X cs t) : PS X (.Match e cs pos) (tMatch te t) := by
  refine ⟨fun pins s σ H D I h => wpAny_Match (thn (he.run pins s σ H _ I h) fun u s1 ⟨v, H1, I1, r1, q1⟩ => ?_)⟩
  exact hc.run pins s1 σ H1 D v u true I1 r1 q1
end
section
variable {σ : L2.St} {H : Hp} {D : Ends} {te : TE} {tb : TS} {tr : V → TS}
theorem w_match {t : V → TS} (q : te σ H fun v H1 => t v D σ H1) : tMatch te t D σ H := q
theorem w_caseA {v : V} (q : tb D σ H) : tCaseA tb v D σ H := q
theorem w_caseS {x z : Str} (q : if decide (z = x) = true then tb D σ H else tr (.str z) D σ H) : tCaseS x tb tr (.str z) D σ H := ⟨z, rfl, q⟩
theorem w_caseT {x : Str} (q : tb D σ H) : tCaseS x tb tr (.str x) D σ H := ⟨x, rfl, by rw [decide_eq_true rfl, if_pos rfl]; exact q⟩
theorem w_caseF {x z : Str} (h : z ≠ x) (q : tr (.str z) D σ H) : tCaseS x tb tr (.str z) D σ H := ⟨z, rfl, by rw [decide_eq_false h, if_neg Bool.false_ne_true]; exact q⟩
end
end Fw
namespace Fw
open PySem PySem.Spec PyProof.Rows L2 LamX
/-! ### lambdas of one parameter, handed to a def as its first argument -/
/-- a later state: what was not tracked at (HD, sD), while stk ran, still stands -/
structure Later (stk : List Env) (HD : Hp) (sD : Shared) (outer : List Env) (H : Hp) (s : Shared) : Prop where
  un : Un (frs stk) [] HD H sD.heap s.heap
  new : ∀ b ∈ frs outer, b ∈ frs stk ∨ sD.heap.objs.size ≤ b
  sz : sD.heap.objs.size ≤ s.heap.objs.size
theorem Later.refl (stk : List Env) (H : Hp) (s : Shared) : Later stk H s stk H s := ⟨Un.refl, fun _ h => .inl h, Nat.le_refl _⟩
theorem Later.trans {k1 k2 k3 : List Env} {H1 H2 H3 : Hp} {s1 s2 s3 : Shared} (a : Later k1 H1 s1 k2 H2 s2) (b : Later k2 H2 s2 k3 H3 s3) : Later k1 H1 s1 k3 H3 s3 := by
  have nf : ∀ c o, s1.heap.get? c = some o → c ∉ frs k1 → c ∉ frs k2 := fun c o e n z => (a.new c z).elim n fun l => Nat.lt_irrefl _ (Nat.lt_of_lt_of_le (Heap.lt_size e) l)
  refine ⟨⟨fun c o q n hc hx => ?_, fun c o q n hc hx => ?_, fun c o q n hx => ?_, fun c o q hx => ?_, fun c xs q => b.un.tups c xs (a.un.tups c xs q), fun c o xs q => b.un.frzs c o xs (a.un.frzs c o xs q), fun c ps q => ?_⟩, fun c hc => ?_, Nat.le_trans a.sz b.sz⟩
  · exact b.un.keep c o (a.un.keep c o q n hc hx) (a.un.free c o q n hx) (nf c o q hc) hx
  · obtain ⟨sl, e1⟩ := a.un.slot c o q n hc hx
    obtain ⟨sl', e2⟩ := b.un.any e1 (a.un.free c o q n hx) hx
    exact ⟨sl', e2⟩
  · obtain ⟨o', e1⟩ := a.un.there c o q hx
    exact b.un.free c o' e1 (a.un.free c o q n hx) hx
  · obtain ⟨o', e1⟩ := a.un.there c o q hx
    exact b.un.there c o' e1 hx
  · obtain ⟨m1, e1⟩ := a.un.tbls c ps q
    obtain ⟨m2, e2⟩ := b.un.tbls c _ e1
    exact ⟨m1 ++ m2, by rw [e2, Array.append_assoc]⟩
  · rcases b.new c hc with z | z
    · exact a.new c z
    · exact .inr (Nat.le_trans a.sz z)
theorem later_of {X : Cx} {pins : List (Addr × Obj)} {σ : L2.St} {H : Hp} {s : Shared} (I : Inv X pins σ H s) (hex : X.ex = []) : Later X.outer X.H_0 X.s_0 X.stack H s := by
  refine ⟨?_, fun b hb => (List.mem_cons.mp (I.stkSub b hb)).elim (fun e => .inr (by rw [e]; exact I.ok.above)) .inl, I.sz⟩
  have u := I.base
  rw [hex] at u
  exact u
/-- what may be called: f, with the promise sp, from level k on -/
abbrev CP := Nat → Addr → Sp → Prop
structure Cal (P : Program) (w : World) (K : PySem.W.Frag) (mg : Str → Option Value) (base : Heap) (stk : List Env) (HD : Hp) (sD : Shared) (k : Nat) (f : Addr) (sp : Sp) : Prop where
  fn : ∀ (outer : List Env) (s : Shared) (H : Hp), Later stk HD sD outer H s → PySem.W.FnAt f s.heap
  run : ∀ (A : Around) (outer : List Env) (s : Shared) (H : Hp) (us : List Value) (vs : List V) (Q : VK), Room k A → Env0 P w K mg base A outer s H → Later stk HD sD outer H s → Vals vs us → sp vs H Q E0 →
    codeAny (model P w) A (.call (.ref f) ⟨us, []⟩) (CR L2.CX0 outer P w H s Q E0) s
section
variable {P : Program} {w : World} {K : PySem.W.Frag} {mg : Str → Option Value} {base : Heap}
theorem Cal.later {k1 k2 : List Env} {H1 H2 : Hp} {s1 s2 : Shared} {k : Nat} {f : Addr} {sp : Sp} (c : Cal P w K mg base k1 H1 s1 k f sp) (l : Later k1 H1 s1 k2 H2 s2) : Cal P w K mg base k2 H2 s2 k f sp :=
  ⟨fun o s H z => c.fn o s H (l.trans z), fun A o s H us vs Q hr e z => c.run A o s H us vs Q hr e (l.trans z)⟩
theorem Cal.imp {stk : List Env} {H1 : Hp} {s1 : Shared} {k k' : Nat} {f : Addr} {sp sp' : Sp} (c : Cal P w K mg base stk H1 s1 k f sp) (hk : k ≤ k') (h : ∀ vs H Q, sp' vs H Q E0 → sp vs H Q E0) : Cal P w K mg base stk H1 s1 k' f sp' :=
  ⟨c.fn, fun A o s H us vs Q hr e z r q => c.run A o s H us vs Q (hr.mono hk) e z r (h _ _ _ q)⟩
/-- a def that may be handed what can be called -/
structure FnOkC (P : Program) (w : World) (K : PySem.W.Frag) (mg : Str → Option Value) (base : Heap) (k : Nat) (f : Addr) (fd : FuncData) (ps : List Str) (spc : CP → Sp) : Prop where
  len : ∀ C vs H Q E, spc C vs H Q E → vs.length = ps.length
  run : ∀ (A : Around) (outer : List Env) (s : Shared) (H : Hp) (args : Args) (us : List Value) (vs : List V) (Q : VK), Room k A → Env0 P w K mg base A outer s H → BindsTo s fd args (ps.zip us) → Vals vs us → spc (Cal P w K mg base outer H s) vs H Q E0 →
    codeAny (model P w) A (.call (.ref f) args) (CR L2.CX0 outer P w H s Q E0) s
theorem okC {x qual : Str} {st : Stmt} {f : Addr} {fd : FuncData} {N ps : List Str} {k : Nat} {spc : CP → Sp} (F : L2.Fun K x qual st f fd) (S : FnScope N ps (defScope st)) (len : ∀ C vs H Q E, spc C vs H Q E → vs.length = ps.length)
    (hbody : ∀ (cdv : Value) (A : Around) (outer : List Env) (s : Shared) (H : Hp) (vs : List V) (Q : VK), Room k (A.deeper (envOfC qual (defScope st) s.heap.objs.size f cdv)) → spc (Cal P w K mg base outer H s) vs H Q E0 →
      ∃ t, PSs (cxOf L2.CX0 P w K mg base N qual (defScope st) f cdv A outer s H E0).nox (defBody st) t ∧ t { nx := fun _ H' => Q .non H', rt := Q } (L2.start N vs) H) : FnOkC P w K mg base (k + 1) f fd ps spc := by
  obtain ⟨oc, od, kV, doc, pm, an, cdv, ct, osl, rfl, lk, hcd⟩ := F.ex
  refine ⟨len, fun A outer s H args us vs Q hr e0 hb r h => ?_⟩
  refine run_ofS (N := N) lk hcd S hr e0 hb r (len _ _ _ _ _ h) fun hr' => ?_
  obtain ⟨t, ht, q⟩ := hbody cdv A outer s H vs Q hr' h
  exact ⟨t, ht.nox, q⟩
end
/-- a def whose code object is known, for its lambdas -/
structure FunT (K : PySem.W.Frag) (x qual : Str) (st : Stmt) (f : Addr) (fd : FuncData) (c : Addr) : Prop where
  ex : ∃ (oc : Value) (od : Option Addr) (kV doc pm : Value) (an : Option Addr) (ct : Value) (osl : Array (Option Value)),
    fd = PySem.W.fnOf x qual (defArgs st) (defBody st) (defScope st) .none kV doc pm an (.ref c) ct ∧ K.lookup f = some ⟨oc, od, .func fd, osl⟩ ∧ PySem.W.codeIn K (.ref c) qual = true
section
variable {P : Program} {w : World} {K : PySem.W.Frag} {mg : Str → Option Value} {base : Heap}
theorem FunT.ok {x qual : Str} {st : Stmt} {f c : Addr} {fd : FuncData} {N ps : List Str} {k : Nat} {sp : Sp} (F : FunT K x qual st f fd c) (S : FnScope N ps (defScope st)) (len : ∀ vs H Q E, sp vs H Q E → vs.length = ps.length)
    (hbody : ∀ (A : Around) (outer : List Env) (s : Shared) (H : Hp) (vs : List V) (Q : VK) (E : XK), Room k (A.deeper (envOfC qual (defScope st) s.heap.objs.size f (.ref c))) → sp vs H Q E →
      ∃ t, PSs (cxOf L2.CX0 P w K mg base N qual (defScope st) f (.ref c) A outer s H E).nox (defBody st) t ∧ t { nx := fun _ H' => Q .non H', rt := Q } (L2.start N vs) H) : FnOk P w K mg base L2.CX0 (k + 1) f fd ps sp := by
  obtain ⟨oc, od, kV, doc, pm, an, ct, osl, rfl, lk, hcd⟩ := F.ex
  refine fn_of lk hcd S len fun A outer s H vs Q E hr hsp => ?_
  obtain ⟨t, h, q⟩ := hbody A outer s H vs Q E hr hsp
  exact ⟨t, h.nox, q⟩
theorem FunT.okC {x qual : Str} {st : Stmt} {f c : Addr} {fd : FuncData} {N ps : List Str} {k : Nat} {spc : CP → Sp} (F : FunT K x qual st f fd c) (S : FnScope N ps (defScope st)) (len : ∀ C vs H Q E, spc C vs H Q E → vs.length = ps.length)
    (hbody : ∀ (A : Around) (outer : List Env) (s : Shared) (H : Hp) (vs : List V) (Q : VK), Room k (A.deeper (envOfC qual (defScope st) s.heap.objs.size f (.ref c))) → spc (Cal P w K mg base outer H s) vs H Q E0 →
      ∃ t, PSs (cxOf L2.CX0 P w K mg base N qual (defScope st) f (.ref c) A outer s H E0).nox (defBody st) t ∧ t { nx := fun _ H' => Q .non H', rt := Q } (L2.start N vs) H) : FnOkC P w K mg base (k + 1) f fd ps spc := by
  obtain ⟨oc, od, kV, doc, pm, an, ct, osl, rfl, lk, hcd⟩ := F.ex
  refine ⟨len, fun A outer s H args us vs Q hr e0 hb r h => ?_⟩
  refine run_ofS (N := N) lk hcd S hr e0 hb r (len _ _ _ _ _ h) fun hr' => ?_
  obtain ⟨t, ht, q⟩ := hbody A outer s H vs Q hr' h
  exact ⟨t, ht.nox, q⟩
theorem FunT.toFun {x qual : Str} {st : Stmt} {f c : Addr} {fd : FuncData} (F : FunT K x qual st f fd c) (kp : PySem.W.keepIn K (.ref f) = true) : L2.Fun K x qual st f fd := by
  obtain ⟨oc, od, kV, doc, pm, an, ct, osl, e, lk, hcd⟩ := F.ex
  exact ⟨⟨oc, od, kV, doc, pm, an, .ref c, ct, osl, e, lk, hcd⟩, kp⟩
theorem funT_mk {x qual : Str} {st : Stmt} {f c : Addr} {oc : Value} {od an : Option Addr} {osl : Array (Option Value)} {kV doc pm ct : Value} (l : K.lookup f = some ⟨oc, od, .func (PySem.W.fnOf x qual (defArgs st) (defBody st) (defScope st) .none kV doc pm an (.ref c) ct), osl⟩)
    (h : PySem.W.codeIn K (.ref c) qual = true) : FunT K x qual st f (PySem.W.fnOf x qual (defArgs st) (defBody st) (defScope st) .none kV doc pm an (.ref c) ct) c := ⟨⟨oc, od, kV, doc, pm, an, ct, osl, rfl, l, h⟩⟩
end
/-- what can be called in X: what its def was handed -/
abbrev Kn (X : Cx) : CP := Cal X.prog X.w X.K X.mg X.base X.outer X.H_0 X.s_0
/-! ### the lambda's names -/
structure LamP (sc scope : Scope) (par : Str) : Prop where
  kind : scope.kind = .function
  co : scope.isCoroutine = false
  gen : scope.isGenerator = false
  own : ∀ y ∈ scope.names, y.2 ≠ .cell ∧ (y.2 = .local → y.1 = par)
  par : scope.names.lookup par = some .local
  free : ∀ y ∈ scope.names, y.2 = .free → sc.names.lookup y.1 = some .cell ∨ sc.names.lookup y.1 = some .free
def lamPB (sc scope : Scope) (par : Str) : Bool :=
  decide (scope.kind = .function) && !scope.isCoroutine && !scope.isGenerator && decide (scope.names.lookup par = some .local) && scope.names.all fun y => !decide (y.2 = .cell) && (!decide (y.2 = .local) || decide (y.1 = par)) && (!decide (y.2 = .free) || decide (sc.names.lookup y.1 = some .cell) || decide (sc.names.lookup y.1 = some .free))
theorem lamP_by {sc scope : Scope} {par : Str} (h : lamPB sc scope par = true) : LamP sc scope par := by
  unfold lamPB at h
  simp only [Bool.and_eq_true, Bool.or_eq_true, Bool.not_eq_true', decide_eq_true_eq, decide_eq_false_iff_not, List.all_eq_true] at h
  obtain ⟨⟨⟨⟨h1, h2⟩, h3⟩, h5⟩, h4⟩ := h
  refine ⟨h1, h2, h3, fun y hy => ⟨(h4 y hy).1.1, fun e => ?_⟩, h5, fun y hy e => ?_⟩
  · rcases (h4 y hy).1.2 with z | z
    · exact absurd e z
    · exact z
  · rcases (h4 y hy).2 with (z | z) | z
    · exact absurd e z
    · exact .inl z
    · exact .inr z
theorem LamP.has {X : Cx} {scope : Scope} {par : Str} (L : LamP X.env.scope scope par) (ok : X.Ok) : ∀ y ∈ scope.names, y.2 = .free → ∃ c, X.env.cells.lookup y.1 = some c := fun y hy e => by
  rcases L.free y hy e with k | k
  · exact ok.has _ (.inl k)
  · exact ok.has _ (.inr k)
/-- the context of the lambda's body, entered at s from the frames outer: X's names and the parameter -/
def lamCxP (X : Cx) (A : Around) (outer : List Env) (s : Shared) (H : Hp) (scope : Scope) (f c' : Addr) (par : Str) : Cx where
  prog := X.prog
  w := X.w
  K := X.K
  mg := X.mg
  base := X.base
  A := A.deeper (lamEnv X scope s.heap.objs.size f c')
  N := X.N ++ [par]
  s_0 := s
  H_0 := H
  env := lamEnv X scope s.heap.objs.size f c'
  outer := outer
  stack := lamEnv X scope s.heap.objs.size f c' :: outer
  ex := []
  fn := fun _ => false
  calm := true
  pn := []
  xe := fun e s' => wpAny (model X.prog X.w) (A.deeper (lamEnv X scope s.heap.objs.size f c')) (leaving (lamEnv X scope s.heap.objs.size f c') e) (fun _ s'' => L2.CX0 outer H s E0 e s'') (fun e' s'' => L2.CX0 outer H s E0 e' s'') s'
section
variable {X : Cx} {pins : List (Addr × Obj)} {σ : L2.St} {H HZ : Hp} {s s1 : Shared}
theorem lam_startP {A : Around} {outer : List Env} {scope : Scope} {f c' : Addr} {h₁ : Heap} {tk : Nat} {par : Str} {v : V} {u : Value} (I : Inv X pins σ H s) (L : LamP X.env.scope scope par) (hpar : par ∉ X.N) (rv : RelV v u)
    (e0 : Env0 X.prog X.w X.K X.mg X.base A outer s1 HZ) (hd : A.handled = none)
    (un : Un (frs X.stack) [] H HZ s.heap s1.heap) (hns : h₁.Ns s1.heap.objs.size fun y => ([(par, u)] : List (Str × Value)).reverse.lookup y) (kp : ∀ b o, s1.heap.get? b = some o → h₁.get? b = some o) :
    Inv (lamCxP X A outer s1 HZ scope f c' par) [] (σ ++ [some v]) HZ { s1 with heap := h₁, toks := tk } := by
  have hfree := L.has I.ok
  have cm : ∀ {y c}, (cloFrom X.env.cells scope.names []).lookup y = some c → X.env.cells.lookup y = some c := fun {y c} e => by
    rcases cloFrom_mem (PySem.mem_of_lookup e) with hm | ⟨h1, h2⟩
    · cases hm
    · obtain ⟨c1, hc⟩ := hfree _ h1 rfl
      have hc : X.env.cells.lookup y = some c1 := hc
      have e2 : c = c1 := by
        rw [h2, hc] <;> rfl
      rw [e2]
      exact hc
  have look : ∀ {y}, scope.names.lookup y = some .free → ∃ c, (cloFrom X.env.cells scope.names []).lookup y = some c := fun {y} hl => by
    have hy : (y, NameKind.free) ∈ scope.names := PySem.mem_of_lookup hl
    exact mem_lookup (cloFrom_has (cells := X.env.cells) (acc := []) hy)
  have cellK : ∀ {c : Addr} {v : Option Value}, H c = none → s.heap.IsCell c v → h₁.IsCell c v := fun {c v} n ⟨o, ho, hd⟩ => by
    obtain ⟨sl, q⟩ := un.any ho n (by simp)
    exact ⟨_, kp _ _ q, hd⟩
  have noA : ∀ b : Addr, b ∉ (lamCxP X A outer s1 HZ scope f c' par).ex := fun b z => absurd (show b ∈ ([] : List Addr) from z) (by simp)
  refine ⟨⟨e0.mod, L.kind, rfl, rfl, Nat.le_refl _, fun y z c e1 e2 => I.ok.inj y z c (cm e1) (cm e2), fun y hy => ?_, fun y c z _ => ?_, fun _ => hd, Around.frames_deeper e0.frames, .inr ⟨rfl, rfl⟩, fun b z => absurd z (noA b), e0.bs, e0.bsz, fun b _ _ => noA b,
      fun b z => absurd z (noA b), e0.funs, e0.frf⟩,
    rfl, e0.bare, Un.kept kp, ⟨_, hns, fun i y v' e1 e2 e3 => ?_⟩, fun y c e => ?_, e0.hok.fresh (Nat.le_refl _), fun y c e => ?_, fun q hq => absurd (show q ∈ ([] : List (Addr × Obj)) ++ [] from hq) (by simp), e0.hok.kept kp, ?_⟩
  · have hy : scope.names.lookup y = some .cell ∨ scope.names.lookup y = some .free := hy
    rcases hy with hy | hy
    · exact absurd rfl (L.own _ (PySem.mem_of_lookup hy)).1
    · exact look hy
  · have z : false = true := z
    cases z
  · have e3 : Vis scope y := e3
    have e1 : (X.N ++ [par])[i]? = some y := e1
    by_cases hi : i < X.N.length
    · rw [List.getElem?_append_left hi] at e1
      rw [List.getElem?_append_left (by rw [I.len]; exact hi)] at e2
      have ny : y ≠ par := fun z => hpar (by rw [← z]; exact List.mem_of_getElem? e1)
      rcases e3 with k | k | k
      · exact absurd ((L.own _ (PySem.mem_of_lookup k)).2 rfl) ny
      · exact absurd rfl (L.own _ (PySem.mem_of_lookup k)).1
      · obtain ⟨m, hn, hl⟩ := I.loc
        have hvis : Vis X.env.scope y := (L.free _ (PySem.mem_of_lookup k) rfl).elim (fun k => .inr (.inl k)) (fun k => .inr (.inr k))
        obtain ⟨w', r, q⟩ := hl i y v' e1 e2 hvis
        obtain ⟨c2, h2⟩ := look k
        refine ⟨w', r, .inr ⟨.inr k, c2, h2, ?_⟩⟩
        have c1 := cm h2
        rcases q with ⟨k', _⟩ | ⟨_, c3, e', z⟩
        · have k' : X.env.scope.names.lookup y = some .local := k'
          rcases L.free _ (PySem.mem_of_lookup k) rfl with k2 | k2 <;> rw [show X.env.scope.names.lookup y = _ from k2] at k' <;> cases k'
        · rw [c1] at e'
          cases e'
          exact cellK (I.freeC y _ c1) z
    · have hi' : i = X.N.length := by
        have := (List.getElem?_eq_some_iff.mp e1).1
        rw [List.length_append, List.length_singleton] at this
        omega
      subst hi'
      rw [List.getElem?_append_right (Nat.le_refl _), Nat.sub_self] at e1
      rw [← I.len, List.getElem?_append_right (Nat.le_refl _), Nat.sub_self] at e2
      cases e1
      cases e2
      refine ⟨u, rv, .inl ⟨L.par, ?_⟩⟩
      show ([(par, u)] : List (Str × Value)).lookup par = some u
      simp [List.lookup]
  · obtain ⟨w', z⟩ := I.cell y c (cm e)
    exact ⟨w', cellK (I.freeC y c (cm e)) z⟩
  · obtain ⟨v, o, ho, hd⟩ := I.cell y c (cm e)
    exact un.free c o ho (I.freeC y c (cm e)) (by simp)
  · show (σ ++ [some v]).length = (X.N ++ [par]).length
    rw [List.length_append, List.length_append, I.len]
    rfl
/-- the promise of a lambda: its code object, its body's reading -/
def spLam (c' : Addr) (q : Str) (σ : L2.St) (tb : TE) : Sp := fun vs H Q _ => ∃ v, vs = [v] ∧ H c' = some (CodeO c' q) ∧ tb (σ ++ [some v]) H Q
theorem lam_cal {C : CP} {scope : Scope} {par : Str} {params : Arguments} {body : Expr} {pm ctv : Value} {f c' : Addr} {kb : Nat} {tb : TE} (I : Inv X pins σ H s) (L : LamP X.env.scope scope par) (hpar : par ∉ X.N) (hex : X.ex = [])
    (hf : s.heap.get? f = some (PySem.W.kla_obj "<lambda>" (X.env.qual ++ "<lambda>") params body scope (cloFrom X.env.cells scope.names []) pm c' ctv)) (hfn : H f = none) (hfr : f ∉ frs X.stack)
    (hbind : ∀ (q : Str) (cl : List (Str × Addr)) (pm cv ctv u : Value), bindArgs (PySem.W.kla_fn "<lambda>" q params body scope cl pm cv ctv) ⟨[u], []⟩ = pure [(par, u)])
    (hC : ∀ k f sp, C k f sp → Kn X k f sp)
    (hbody : ∀ (A : Around) (outer : List Env) (s1 : Shared) (H1 : Hp), (∀ k f sp, C k f sp → Kn (lamCxP X A outer s1 H1 scope f c' par).nox k f sp) → Room kb (A.deeper (lamEnv X scope s1.heap.objs.size f c')) → PE (lamCxP X A outer s1 H1 scope f c' par).nox body tb) :
    Cal X.prog X.w X.K X.mg X.base X.stack H s (kb + 1) f (spLam c' (X.env.qual ++ "<lambda>") σ tb) := by
  have at1 : ∀ (outer : List Env) (s1 : Shared) (H1 : Hp), Later X.stack H s outer H1 s1 → s1.heap.get? f = some (PySem.W.kla_obj "<lambda>" (X.env.qual ++ "<lambda>") params body scope (cloFrom X.env.cells scope.names []) pm c' ctv) :=
    fun outer s1 H1 l => l.un.keep f _ hf hfn hfr (by simp)
  refine ⟨fun outer s1 H1 l => ⟨_, _, _, _, at1 outer s1 H1 l⟩, fun A outer s1 HZ us vs Q hr e0 l r h => ?_⟩
  obtain ⟨v, rfl, hc, ht⟩ := h
  obtain ⟨u, rfl, rv⟩ : ∃ u, us = [u] ∧ RelV v u := by
    cases r with
    | cons r1 r2 => cases r2 with | nil => exact ⟨_, rfl, r1⟩
  have of1 := at1 outer s1 HZ l
  obtain ⟨⟨oc, ws, t, hoc, hdc, hvc⟩, _, _⟩ := e0.hok c' _ hc
  have lim : s1.heap.NoLimit := e0.mod.nolimit.keeps fun b o e => (e0.bs b o e).1
  refine PySem.W.kla_callFunE hr.depth of1 rfl L.co L.gen rfl ⟨c', oc, ws, t, rfl, hoc, hdc, hvc⟩ ?_
  rw [hbind]
  refine wpAny_pure (wpAny_newFunctionEnv (fun y hy => (L.own y hy).1) (fun y hy => ?_) (fun h₁ hns hsb => ⟨lim.fresh _ hsb, ?_⟩) L.kind)
  · have e : y = (par, u) := by simpa using hy
    rw [e]
    exact L.par
  show codeAny _ _ (.expr body (lamEnv X scope s1.heap.objs.size f c')) _ _
  have kp : ∀ b o, s1.heap.get? b = some o → h₁.get? b = some o := fun b o e => hsb.extBut b o (Nat.ne_of_lt (Heap.lt_size e)) (Heap.get?_push_of_some _ e)
  have J : Inv (lamCxP X A outer s1 HZ scope f c' par) [] (σ ++ [some v]) HZ { s1 with heap := h₁, toks := s1.toks + ([(par, u)] : List (Str × Value)).length } := lam_startP I L hpar rv e0 hr.hd l.un hns kp
  have hb := hbody A outer s1 HZ (fun k f sp c => (hC k f sp c).later ((later_of I hex).trans l)) (hr.deeper _)
  refine PySem.W.kla_codeExpr (wpAny_mono (hb.nox.run [] _ _ HZ Q J ht) (fun v s' hq => ?_) fun e s' hq => hq)
  obtain ⟨w', H', J', rv', q⟩ := hq
  exact ⟨w', H', J'.os, J'.bare, J'.base, J'.hok, rv', q⟩
/-- x(e, ..), x a parameter (or a captured name) that holds what can be called -/
def tCal (C : CP) (k i : Nat) (t : TA) : TE := fun σ H Q => ∃ f sp, σ[i]? = some (some (.ref f)) ∧ C k f sp ∧ t σ H fun vs H1 => sp vs H1 Q E0
theorem pe_cal {C : CP} {k i : Nat} {a : Str} {e : Expr} {es : List Expr} {t : TA} {p pos : Pos} (hC : ∀ k f sp, C k f sp → Kn X k f sp) (hr : Room k X.A) (hN : X.N[i]? = some a) (hv : Vis X.env.scope a) (hex : X.ex = []) (ha : PA X (e :: es) t)
    (hd : (a == ("__debug__" : Str)) = false := by decide) (hcd : (a == ("__classdict__" : Str)) = false := by decide) (he : starEach (e :: es) X.env = (false, eval e X.env) :: starEach es X.env := by rfl) (hpl : (backTo pos (starEach es X.env)).any (·.1) = false := by rfl) :
    PE X (.Call (.Name a p) (e :: es) [] pos) (tCal C k i t) := by
  refine ⟨fun pins s σ H Q I h => ?_⟩
  obtain ⟨f, sp, hs, hc, ht⟩ := h
  refine wpAny_Call_Name_kw (thn ((pe_var (pos := p) (i := i) hN hv hd hcd).run pins s σ H (fun v H1 => v = .ref f ∧ H1 = H) I ⟨.ref f, hs, rfl, rfl⟩) fun u s1 ⟨v, H1, I1, r1, q1⟩ => ?_)
  obtain ⟨ev, eH⟩ := q1
  subst ev
  rw [eH] at I1
  obtain rfl : u = Value.ref f := r1
  have cal := hC k f sp hc
  refine PySem.W.callWith_F (cal.fn _ _ _ (later_of I1 hex)) (thn (ha.run pos pins s1 σ H _ I1 ht) fun us s2 ⟨vs, H2, I2, r, q⟩ => ⟨cal.fn _ _ _ (later_of I2 hex), ?_⟩) he hpl
  refine wpAny_call (codeAny_mono (cal.run X.A X.stack s2 H2 us vs Q hr I2.env0 (later_of I2 hex) r q) fun r s' hq => ?_)
  cases r with
  | error e => exact (show False from hq).elim
  | ok fl =>
    cases fl with
    | ret u => exact I2.after hq
    | next => exact False.elim hq
    | brk => exact False.elim hq
    | cont => exact False.elim hq
/-- x(e, ..), x a local name that holds one of some defs -/
def tCallV (C : Addr → Sp → Prop) (i : Nat) (t : TA) : TE := fun σ H Q => ∃ f sp, σ[i]? = some (some (.ref f)) ∧ C f sp ∧ t σ H fun vs H1 => sp vs H1 Q E0
theorem pe_callV {C : Addr → Sp → Prop} {i : Nat} {a : Str} {e : Expr} {es : List Expr} {t : TA} {p pos : Pos}
    (hC : ∀ f sp, C f sp → ∃ (k : Nat) (fd : FuncData) (ps : List Str), FnOk X.prog X.w X.K X.mg X.base L2.CX0 k f fd ps sp ∧ Room k X.A ∧ PySem.W.keepIn X.K (.ref f) = true ∧ L2.Binds X.K fd ps [])
    (hN : X.N[i]? = some a) (hv : Vis X.env.scope a) (ha : PA X (e :: es) t)
    (hd : (a == ("__debug__" : Str)) = false := by decide) (hcd : (a == ("__classdict__" : Str)) = false := by decide) (he : starEach (e :: es) X.env = (false, eval e X.env) :: starEach es X.env := by rfl) (hpl : (backTo pos (starEach es X.env)).any (·.1) = false := by rfl) :
    PE X (.Call (.Name a p) (e :: es) [] pos) (tCallV C i t) := by
  refine ⟨fun pins s σ H Q I h => ?_⟩
  obtain ⟨f, sp, hs, hc, ht⟩ := h
  refine wpAny_Call_Name_kw (thn ((pe_var (pos := p) (i := i) hN hv hd hcd).run pins s σ H (fun v H1 => v = .ref f ∧ H1 = H) I ⟨.ref f, hs, rfl, rfl⟩) fun u s1 ⟨v, H1, I1, r1, q1⟩ => ?_)
  obtain ⟨ev, eH⟩ := q1
  subst ev
  rw [eH] at I1
  obtain rfl : u = Value.ref f := r1
  obtain ⟨k, fd, ps, F, hr, hk, hb⟩ := hC f sp hc
  refine PySem.W.callWith_K (h₀ := X.base) I1.ok.mod.kin hk (thn (ha.run pos pins s1 σ H _ I1 ht) fun us s2 ⟨vs, H2, I2, r, q⟩ => ⟨I2.kIn, ?_⟩) he hpl
  exact run_fn (dvs := []) (ds := []) F hr hb .nil pass0 I2 r (by rw [List.append_nil]; exact q)
/-- all but the tables stays, the tables are told -/
def Sm (T : List (Addr × Str)) (H H' : Hp) : Prop := ExtN H H' ∧ (Tabs T H → Tabs T H')
theorem Sm.refl {T : List (Addr × Str)} (H : Hp) : Sm T H H := ⟨ExtN.refl H, fun h => h⟩
theorem Sm.trans {T : List (Addr × Str)} {H H1 H2 : Hp} (a : Sm T H H1) (b : Sm T H1 H2) : Sm T H H2 := ⟨a.1.trans b.1, fun h => b.2 (a.2 h)⟩
def tLamC (T : List (Addr × Str)) (q : Str) (spc : CP → Sp) (C : CP) (kb : Nat) (tb : TE) (t : TA) : TE := fun σ H Q => Tabs T H ∧ ∀ (f c' : Addr) (H1 : Hp), Sm T H H1 → H1 c' = some (CodeO c' q) → t σ H1 fun vs H2 =>
  ∀ C' : CP, (∀ k g sp, C k g sp → C' k g sp) → (∀ k sp, kb + 1 ≤ k → (∀ ws H3 Q3, sp ws H3 Q3 E0 → spLam c' q σ tb ws H3 Q3 E0) → C' k f sp) → spc C' (.ref f :: vs) H2 Q E0
/-- x(lambda par: body, e, ..) -/
theorem pe_lamC {T : List (Addr × Str)} {x par : Str} {g c P : Addr} {kg kb : Nat} {fd : FuncData} {ps : List Str} {spc : CP → Sp} {C : CP} {params : Arguments} {body : Expr} {scope : Scope} {tb : TE} {t : TA} {es : List Expr} {p lpos pos : Pos}
    (G : FnOkC X.prog X.w X.K X.mg X.base kg g fd ps spc) (hr : Room kg X.A) (hg : Gl X x) (hm : X.mg x = some (.ref g)) (hk : PySem.W.keepIn X.K (.ref g) = true) (hb : L2.Binds X.K fd ps [])
    (TB : TabB X.base X.mg c P) (hcode : X.env.code = .ref c) (hmT : (P, X.env.qual ++ "<lambda>") ∈ T) (hu : ∀ p ∈ T, p.1 = P → p.2 = X.env.qual ++ "<lambda>")
    (L : LamP X.env.scope scope par) (hpar : par ∉ X.N) (hex : X.ex = []) (hdef : defaultsOf params X.env = ([], []))
    (hbind : ∀ (q : Str) (cl : List (Str × Addr)) (pm cv ctv u : Value), bindArgs (PySem.W.kla_fn "<lambda>" q params body scope cl pm cv ctv) ⟨[u], []⟩ = pure [(par, u)])
    (hC : ∀ k f sp, C k f sp → Kn X k f sp)
    (hbody : ∀ (A : Around) (outer : List Env) (s1 : Shared) (H1 : Hp) (f c' : Addr), (∀ k f sp, C k f sp → Kn (lamCxP X A outer s1 H1 scope f c' par).nox k f sp) → Room kb (A.deeper (lamEnv X scope s1.heap.objs.size f c')) → PE (lamCxP X A outer s1 H1 scope f c' par).nox body tb)
    (ha : PA X es t) (hdb : (x == ("__debug__" : Str)) = false := by decide) (hpl : (backTo pos (starEach es X.env)).any (·.1) = false := by rfl) :
    PE X (.Call (.Name x p) (.Lambda params body scope lpos :: es) [] pos) (tLamC T (X.env.qual ++ "<lambda>") spc C kb tb t) := by
  refine ⟨fun pins s σ H Q I h => ?_⟩
  obtain ⟨hT, h⟩ := h
  refine wpAny_Call_Name_kw (ld_glob I hg hm ?_ hdb)
  refine PySem.W.callWith_K (h₀ := X.base) I.ok.mod.kin hk ?_ (by rfl) hpl
  show wpAny _ _ (spliced ((false, eval (.Lambda params body scope lpos) X.env) :: backTo pos (starEach es X.env))) _ _ s
  refine Calls.spliced_cons (lam_make2 (E := X.xe) I TB hcode hmT hu hT hdef (L.has I.ok) fun f c' pm' ctv H1 s' I1 eN T1 hf hfn hfr hco => ?_)
  have nfL : f ≠ X.env.locals := fun z => by
    obtain ⟨m, ⟨o, es, ep, ho, hd, _⟩, _⟩ := I1.loc
    rw [← z, hf] at ho
    cases ho
    cases hd
  have nfs : f ∉ X.fs := fun z => hfr (by
    rcases I1.ok.stk with e | ⟨e, hfm⟩
    · rw [e]; exact z
    · rw [e]
      unfold frs
      rw [List.filterMap_cons, hfm]
      exact List.mem_cons_of_mem _ z)
  have I2 : Inv X ((f, PySem.W.kla_obj "<lambda>" (X.env.qual ++ "<lambda>") params body scope (cloFrom X.env.cells scope.names []) pm' c' ctv) :: pins) σ H1 s' := I1.pins_of fun q hq => by
    rcases List.mem_cons.mp hq with e | hq
    · rw [e]
      exact ⟨hf, hfn, nfL, nfs, fun v z => by cases z⟩
    · exact I1.pin q (List.mem_append_right _ hq)
  refine thn (ha.run pos _ s' σ H1 _ I2 (h f c' H1 ⟨eN, fun _ => T1⟩ hco)) fun us s2 ⟨vs, H2, I3, r, q⟩ => ⟨I3.kIn, ?_⟩
  obtain ⟨pf, pn, _, _, _⟩ := I3.pin _ (List.mem_append_right _ (List.mem_cons_self (a := (f, PySem.W.kla_obj "<lambda>" (X.env.qual ++ "<lambda>") params body scope (cloFrom X.env.cells scope.names []) pm' c' ctv))))
  have I4 : Inv X pins σ H2 s2 := I3.pins_of fun q hq => I3.pin q (List.mem_append_right _ (List.mem_cons_of_mem _ hq))
  have cal := lam_cal (C := C) (f := f) (c' := c') (kb := kb) (tb := tb) I4 L hpar hex pf pn hfr hbind hC fun A outer s1 H1 hk hr => hbody A outer s1 H1 f c' hk hr
  have hsp := q (Cal X.prog X.w X.K X.mg X.base X.stack H2 s2) (fun k g sp z => (hC k g sp z).later (later_of I4 hex)) (fun k sp hk z => cal.imp hk z)
  have r2 : Vals (.ref f :: vs) (.ref f :: us) := .cons rfl r
  have hl : (Value.ref f :: us).length = ps.length := by rw [← r2.length]; exact G.len _ _ _ _ _ hsp
  have hbi := hb s2 (.ref f :: us) I4.kIn (by rw [List.append_nil]; exact hl)
  rw [List.append_nil] at hbi
  refine wpAny_call (codeAny_mono (G.run X.A X.stack s2 H2 ⟨.ref f :: us, []⟩ (.ref f :: us) (.ref f :: vs) Q hr I4.env0 hbi r2 hsp) fun r s' hq => ?_)
  cases r with
  | error e => exact (show False from hq).elim
  | ok fl =>
    cases fl with
    | ret u => exact I4.after hq
    | next => exact False.elim hq
    | brk => exact False.elim hq
    | cont => exact False.elim hq
end
theorem Sm.of {T : List (Addr × Str)} {H H' : Hp} (a : Same H H') : Sm T H H' := ⟨fun b o e _ => a b o e, fun h => h.ext a⟩
theorem Sm.at {T : List (Addr × Str)} {H H' : Hp} {a : Addr} {o : HO} (s : Sm T H H') (h : H a = some o) (n : ∀ ps, o ≠ .tbl ps := by intro ps z; cases z) : H' a = some o := s.1 a o h n
theorem Sm.new {T : List (Addr × Str)} {H H' : Hp} {r : Addr} {o : HO} (s : Sm T H H') (h : H' r = none) : Sm T H (upd H' r o) := s.trans (.of fun q u e => by rw [upd_ne (ne_of_none e h)]; exact e)
theorem Sm.mut {T : List (Addr × Str)} {H H' : Hp} {r : Addr} {o u : HO} (s : Sm T H H') (hn : H r = none) (h : H' r = some u) (hu : ∀ ps, u ≠ .tbl ps := by intro ps z; cases z) (hc : ∀ c q, u ≠ CodeO c q := by intro c q z; cases z) : Sm T H (upd H' r o) := by
  refine ⟨fun b w e n => ?_, fun t p hp => ?_⟩
  · rw [upd_ne (ne_of_none e hn)]
    exact s.1 b w e n
  · obtain ⟨ps, a1, a2, a3⟩ := s.2 t p hp
    refine ⟨ps, by rw [upd_ne (fun z => by rw [z, h] at a1; cases a1; exact hu ps rfl)]; exact a1, a2, fun pos cv e => ?_⟩
    obtain ⟨c, e1, e2⟩ := a3 pos cv e
    exact ⟨c, e1, by rw [upd_ne (fun z => by rw [z, h] at e2; exact hc _ _ (Option.some.inj e2))]; exact e2⟩
theorem Sm.seqT {K : PySem.W.Frag} {T : List (Addr × Str)} {H H' : Hp} {a : Addr} {xs : List V} (s : Sm T H H') (h : SqL K H a xs) : SqL K H' a xs := by
  rcases h with (h | ⟨o, h⟩) | h
  · exact .inl (.inl (s.at h))
  · exact .inl (.inr ⟨o, s.at h⟩)
  · exact .inr h
theorem tabIn_of {K : PySem.W.Frag} {x : Str} {f c P : Addr} {oc o1 : Value} {od o2 : Option Addr} {fd : FuncData} {sl o3 : Array (Option Value)} {vs : Array Value} (a : PySem.W.nsIn K mainGlobals x = some (some (.ref f))) (l : K.lookup f = some ⟨oc, od, .func fd, sl⟩) (hc : fd.code = .ref c)
    (lc : K.lookup c = some ⟨o1, o2, .fields vs, o3⟩) (hv : vs[11]? = some (.ref P)) : PySem.W.tabIn K x = some (c, P) := by
  unfold PySem.W.tabIn
  rw [a]
  simp only [l, hc, lc, hv]
theorem no_tab {K : PySem.W.Frag} {h : Heap} {P : Addr} (X : K.In h) (hP : h.get? P = some { cls := .none, data := .fields #[] }) (hK : PySem.W.noTabs K = true) : K.lookup P = none := by
  cases q : K.lookup P with
  | none => rfl
  | some o =>
    have e := X _ _ q
    rw [hP] at e
    cases e
    have h2 := List.all_eq_true.mp hK (P, _) (PySem.W.mem_of_lookupK q)
    exact absurd (show false = true from h2) Bool.false_ne_true
theorem tab_uniq : ∀ {l : List (Addr × Str)}, (l.map (·.1)).Nodup → ∀ {P : Addr} {s : Str}, (P, s) ∈ l → ∀ p ∈ l, p.1 = P → p.2 = s
  | [], _, _, _, h => by cases h
  | q :: r, nd, P, s, h => fun p hp e => by
    rw [List.map_cons, List.nodup_cons] at nd
    rcases List.mem_cons.mp h with h | h
    · rcases List.mem_cons.mp hp with hp | hp
      · rw [hp, ← h]
      · exact absurd (List.mem_map.mpr ⟨p, hp, by rw [e, ← h]⟩) nd.1
    · rcases List.mem_cons.mp hp with hp | hp
      · exact absurd (List.mem_map.mpr ⟨_, h, by rw [← e, hp]⟩) nd.1
      · exact tab_uniq nd.2 h p hp e
/-- the end, with tables -/
theorem walk_tabs {l : PySem.W.OpenLaw} {n k : Nat} {q : Program} {loose : List Str} {XP : (Str → Option Value) → Heap → Prop} {YP : World → Heap → Prop} {d : DefRec} {K : Params → PySem.W.Frag} {CX : World → CXT} {x : Str}
    (hn : l.most = some n) (hn2 : n ≤ sizeLine) (hdf : d.params.defaults = []) (hr : Room k callerA) (hY : ∀ (w : World) (h : Heap), YP w h → (K w.params).In h)
    (F : ∀ (w : World) (mg : Str → Option Value) (fa : Addr) (h : Heap), (∀ (y : Str) (c P : Addr), ((recsOf q).find? (fun e => e.name == y)).isSome = true → PySem.W.tabIn (K w.params) y = some (c, P) → PySem.W.CodeHd h c P ∧ h.get? P = some { cls := .none, data := .fields #[] }) →
      (K w.params).In h → h.Ns mainGlobals mg → mg d.name = some (.ref fa) → LawAtS l w (K w.params) (CX w) k n x mg fa h)
    (hCX : ∀ (w : World) (H : Hp) (s : Shared) (e : Value) (s' : Shared), CX w [] H s (fun _ _ _ => False) e s' → False) :
    PySem.W.WalkO q loose XP YP l.row.toRowW d [] (fun f vs => PySem.call f vs) := by
  refine Att.attach_callB hn hdf fun w s₀ s₁ mg mb fa o pm cd doc a vs ns G Y ho hd hcd hmg hobj hints hlen hbits hg => ?_
  have KX := hY w _ Y
  obtain ⟨fd, cs, sp, hT, nT, C, hb, hsp, hF⟩ := F w mg fa _ (fun y c P hr ht => by
    obtain ⟨d', hd'⟩ := Option.isSome_iff_exists.mp hr
    exact PySem.W.tab_of G.T KX hd' ht) KX G.T.g hmg
  exact law_callTs KX G.T.g G.T.b G.T.builtins G.T.nolimit hg hT nT C G.T.bmain hobj hints (Nat.le_trans hlen hn2) hr hF hb (fun H hH hS => hsp H a ns hlen hbits hH hS) fun H e s' => hCX w H s₁ e s'
end Fw
namespace Fw
/-! ### sums, counts -/
def sZ (f : Nat → Int) : Nat → Int
  | 0 => 0
  | n + 1 => sZ f n + f n
theorem sZ_congr {f g : Nat → Int} : ∀ {n : Nat}, (∀ i, i < n → f i = g i) → sZ f n = sZ g n
  | 0, _ => rfl
  | n + 1, h => by
    show sZ f n + f n = sZ g n + g n
    rw [sZ_congr (n := n) fun i hi => h i (by omega), h n (by omega)]
theorem sZ_add (f g : Nat → Int) : ∀ n : Nat, sZ (fun i => f i + g i) n = sZ f n + sZ g n
  | 0 => rfl
  | n + 1 => by
    show sZ _ n + (f n + g n) = (sZ f n + f n) + (sZ g n + g n)
    rw [sZ_add f g n]; omega
theorem sZ_sub (f g : Nat → Int) : ∀ n : Nat, sZ (fun i => f i - g i) n = sZ f n - sZ g n
  | 0 => rfl
  | n + 1 => by
    show sZ _ n + (f n - g n) = (sZ f n + f n) - (sZ g n + g n)
    rw [sZ_sub f g n]; omega
theorem sZ_zero : ∀ n : Nat, sZ (fun _ => 0) n = 0
  | 0 => rfl
  | n + 1 => by
    show sZ _ n + 0 = 0
    rw [sZ_zero n]; rfl
theorem sZ_const (c : Int) : ∀ n : Nat, sZ (fun _ => c) n = n * c
  | 0 => by simp [sZ]
  | n + 1 => by
    show sZ _ n + c = _
    rw [sZ_const c n, Int.natCast_succ, Int.add_mul, Int.one_mul]
theorem sZ_mul (c : Int) (f : Nat → Int) : ∀ n : Nat, sZ (fun i => c * f i) n = c * sZ f n
  | 0 => by simp [sZ]
  | n + 1 => by
    show sZ _ n + c * f n = c * (sZ f n + f n)
    rw [sZ_mul c f n, Int.mul_add]
theorem sZ_head (f : Nat → Int) : ∀ n : Nat, sZ f (n + 1) = f 0 + sZ (fun i => f (i + 1)) n
  | 0 => by simp [sZ]
  | n + 1 => by
    show sZ f (n + 1) + f (n + 1) = f 0 + (sZ (fun i => f (i + 1)) n + f (n + 1))
    rw [sZ_head f n]; omega
theorem sZ_rev (f : Nat → Int) : ∀ n : Nat, sZ (fun i => f (n - 1 - i)) n = sZ f n
  | 0 => rfl
  | n + 1 => by
    rw [sZ_head]
    show f (n + 1 - 1 - 0) + _ = sZ f n + f n
    have e : sZ (fun i => f (n + 1 - 1 - (i + 1))) n = sZ (fun i => f (n - 1 - i)) n := sZ_congr fun i _ => by
      show f _ = f _
      congr 1; omega
    rw [e, sZ_rev f n, Nat.add_sub_cancel, Nat.sub_zero]; omega
theorem sZ_swap (f : Nat → Nat → Int) (m : Nat) : ∀ n : Nat, sZ (fun i => sZ (fun j => f i j) m) n = sZ (fun j => sZ (fun i => f i j) n) m
  | 0 => by
    show 0 = sZ (fun _ => 0) m
    rw [sZ_zero]
  | n + 1 => by
    show sZ _ n + sZ _ m = _
    rw [sZ_swap f m n, ← sZ_add]
    rfl
theorem sZ_split (f : Nat → Int) (n : Nat) : ∀ m : Nat, sZ f (n + m) = sZ f n + sZ (fun i => f (n + i)) m
  | 0 => by show sZ f n = sZ f n + 0; omega
  | m + 1 => by
    show sZ f (n + m) + f (n + m) = sZ f n + (sZ _ m + f (n + m))
    rw [sZ_split f n m]; omega
theorem sZ_nonneg {f : Nat → Int} : ∀ {n : Nat}, (∀ i, i < n → 0 ≤ f i) → 0 ≤ sZ f n
  | 0, _ => Int.le_refl 0
  | n + 1, h => by
    have a := sZ_nonneg (f := f) (n := n) fun i hi => h i (by omega)
    have b := h n (by omega)
    show 0 ≤ sZ f n + f n
    omega
/-- n (n - 1) / 2 -/
theorem sZ_id : ∀ n : Nat, sZ (fun i => (i : Int)) n = (n : Int) * ((n : Int) - 1) / 2
  | 0 => by simp [sZ]
  | n + 1 => by
    show sZ _ n + (n : Int) = _
    rw [sZ_id n]
    have e : ((n + 1 : Nat) : Int) * (((n + 1 : Nat) : Int) - 1) = (n : Int) * ((n : Int) - 1) + 2 * n := by
      rw [Int.natCast_succ, show (n : Int) + 1 - 1 = n by omega, Int.add_mul, Int.mul_sub]
      omega
    rw [e, Int.mul_comm 2 (n : Int), Int.add_mul_ediv_right _ _ (by decide)]
/-! ### sums of quotients -/
def QS (a b m : Int) (n : Nat) : Int := sZ (fun i => (a * i + b) / m) n
theorem QS_red (a b : Int) {m : Int} (hm : 0 < m) (n : Nat) : QS a b m n = (n : Int) * ((n : Int) - 1) / 2 * (a / m) + (n : Int) * (b / m) + QS (a % m) (b % m) m n := by
  unfold QS
  have e : sZ (fun i => (a * (i : Int) + b) / m) n = sZ (fun i => ((a / m) * (i : Int) + b / m) + (a % m * (i : Int) + b % m) / m) n := sZ_congr fun i _ => by
    have ea := Int.emod_add_mul_ediv a m
    have eb := Int.emod_add_mul_ediv b m
    have z : a * (i : Int) + b = (a % m * (i : Int) + b % m) + m * ((a / m) * (i : Int) + b / m) := by
      have h1 : a * (i : Int) = (a % m + m * (a / m)) * (i : Int) := by rw [ea]
      rw [h1, Int.add_mul, Int.mul_add, Int.mul_assoc]
      omega
    show (a * (i : Int) + b) / m = _
    rw [z, Int.add_mul_ediv_left _ _ (Int.ne_of_gt hm)]
    omega
  rw [e, sZ_add, sZ_add, sZ_mul, sZ_const, sZ_id, Int.mul_comm (a / m)]
/-- how often (j + 1) m ≤ y -/
theorem sZ_le {m y : Int} (hm : 0 < m) (hy : 0 ≤ y) : ∀ n : Nat, y / m ≤ n → sZ (fun j => if ((j : Int) + 1) * m ≤ y then 1 else 0) n = y / m
  | 0, h => by
    have := Int.ediv_nonneg hy (Int.le_of_lt hm)
    show 0 = y / m
    omega
  | n + 1, h => by
    have iff : ((n : Int) + 1) * m ≤ y ↔ (n : Int) + 1 ≤ y / m := (Int.le_ediv_iff_mul_le hm).symm
    show sZ _ n + (if ((n : Int) + 1) * m ≤ y then 1 else 0) = y / m
    by_cases c : (n : Int) + 1 ≤ y / m
    · have e : y / m = (n : Int) + 1 := by omega
      rw [if_pos (iff.mpr c), e]
      have all : sZ (fun j => if ((j : Int) + 1) * m ≤ y then 1 else 0) n = sZ (fun _ => 1) n := sZ_congr fun j hj => by
        have : ((j : Int) + 1) * m ≤ y := (Int.le_ediv_iff_mul_le hm).mp (by omega)
        rw [if_pos this]
      rw [all, sZ_const]; omega
    · rw [if_neg fun z => c (iff.mp z), sZ_le hm hy n (by omega)]; omega
/-- the points below a line, row by row -/
theorem QS_turn {a b m : Int} (ha : 0 < a) (ham : a < m) (hb : 0 ≤ b) (hbm : b < m) (n : Nat) {N : Nat} (hN : (N : Int) = (a * n + b) / m) : QS a b m n = QS m ((a * n + b) % m) a N := by
  have hm : 0 < m := by omega
  unfold QS
  have hai : ∀ i : Nat, 0 ≤ a * (i : Int) := fun i => Int.mul_nonneg (Int.le_of_lt ha) (Int.natCast_nonneg i)
  have e1 : sZ (fun i => (a * (i : Int) + b) / m) n = sZ (fun i => sZ (fun j => if ((j : Int) + 1) * m ≤ a * (i : Int) + b then 1 else 0) N) n := sZ_congr fun i hi => by
    refine (sZ_le hm (by have := hai i; omega) N ?_).symm
    rw [hN]
    refine Int.ediv_le_ediv hm ?_
    have : a * (i : Int) ≤ a * (n : Int) := Int.mul_le_mul_of_nonneg_left (by omega) (Int.le_of_lt ha)
    omega
  rw [e1, sZ_swap]
  have e2 : sZ (fun j => sZ (fun i => if ((j : Int) + 1) * m ≤ a * (i : Int) + b then 1 else 0) n) N = sZ (fun j => (a * n + b - ((j : Int) + 1) * m) / a) N := sZ_congr fun j hj => by
    rw [← sZ_rev]
    have hjm : ((j : Int) + 1) * m ≤ a * n + b := (Int.le_ediv_iff_mul_le hm).mp (by omega)
    have hm1 : m ≤ ((j : Int) + 1) * m := by
      have : 1 * m ≤ ((j : Int) + 1) * m := Int.mul_le_mul_of_nonneg_right (by omega) (Int.le_of_lt hm)
      omega
    refine Eq.trans (sZ_congr fun i hi => ?_) (sZ_le ha (y := a * n + b - ((j : Int) + 1) * m) (by omega) n ?_)
    · have e : a * ((n - 1 - i : Nat) : Int) = a * n - ((i : Int) + 1) * a := by
        rw [show ((n - 1 - i : Nat) : Int) = (n : Int) - ((i : Int) + 1) by omega, Int.mul_sub, Int.mul_comm a ((i : Int) + 1)]
      show (if ((j : Int) + 1) * m ≤ a * ((n - 1 - i : Nat) : Int) + b then (1 : Int) else 0) = _
      rw [e]
      by_cases c : ((i : Int) + 1) * a ≤ a * n + b - ((j : Int) + 1) * m
      · rw [if_pos c, if_pos (by omega)]
      · rw [if_neg c, if_neg (by omega)]
    · have : (a * n + b - ((j : Int) + 1) * m) / a ≤ (a * n) / a := Int.ediv_le_ediv ha (by omega)
      rw [Int.mul_ediv_cancel_left _ (Int.ne_of_gt ha)] at this
      exact this
  rw [e2, ← sZ_rev]
  refine sZ_congr fun t ht => ?_
  have er := Int.emod_add_mul_ediv (a * n + b) m
  show (a * n + b - (((N - 1 - t : Nat) : Int) + 1) * m) / a = (m * t + (a * n + b) % m) / a
  congr 1
  rw [show ((N - 1 - t : Nat) : Int) + 1 = (N : Int) - t by omega, Int.sub_mul, hN, Int.mul_comm _ m, Int.mul_comm _ m]
  omega
theorem QS_zero {a b m : Int} (ha : 0 ≤ a) (hb : 0 ≤ b) (n : Nat) (h : a * n + b < m) : QS a b m n = 0 := by
  unfold QS
  have e : sZ (fun i => (a * (i : Int) + b) / m) n = sZ (fun _ => 0) n := sZ_congr fun i hi => by
    have h1 : a * (i : Int) ≤ a * (n : Int) := Int.mul_le_mul_of_nonneg_left (by omega) ha
    exact Int.ediv_eq_zero_of_lt (by have := Int.mul_nonneg ha (Int.natCast_nonneg i); omega) (by omega)
  rw [e, sZ_zero]
/-! ### how many x from first on -/
def cN (p : Int → Bool) (first : Int) (n : Nat) : Int := sZ (fun i => if p (first + i) = true then 1 else 0) n
def tot (p : Int → Bool) (first last : Int) : Int := cN p first (last - first + 1).toNat
theorem tot_nonneg (p : Int → Bool) (first last : Int) : 0 ≤ tot p first last := sZ_nonneg fun i _ => by
  show 0 ≤ (if p (first + i) = true then (1 : Int) else 0)
  split <;> decide
theorem tot_none {p : Int → Bool} {first last : Int} (h : last < first) : tot p first last = 0 := by
  unfold tot
  rw [show (last - first + 1).toNat = 0 by omega]
  rfl
theorem tot_step (p : Int → Bool) {first last : Int} (h : first ≤ last) : tot p first last = tot p first (last - 1) + (if p last = true then 1 else 0) := by
  unfold tot
  rw [show (last - first + 1).toNat = (last - 1 - first + 1).toNat + 1 by omega]
  show cN p first _ + (if p (first + (((last - 1 - first + 1).toNat : Nat) : Int)) = true then 1 else 0) = _
  rw [show first + (((last - 1 - first + 1).toNat : Nat) : Int) = last by omega]
theorem tot_split (p : Int → Bool) {first mid last : Int} (h1 : first - 1 ≤ mid) (h2 : mid ≤ last) : tot p first last = tot p first mid + tot p (mid + 1) last := by
  unfold tot cN
  rw [show (last - first + 1).toNat = (mid - first + 1).toNat + (last - (mid + 1) + 1).toNat by omega, sZ_split]
  congr 1
  refine sZ_congr fun i _ => ?_
  rw [show first + (((mid - first + 1).toNat + i : Nat) : Int) = mid + 1 + i by omega]
theorem tot_mono (p : Int → Bool) {first m n : Int} (h : m ≤ n) : tot p first m ≤ tot p first n := by
  by_cases c : first - 1 ≤ m
  · rw [tot_split p c h]
    have := tot_nonneg p (m + 1) n
    omega
  · rw [tot_none (p := p) (show m < first by omega)]
    exact tot_nonneg p first n
theorem tot_one (p : Int → Bool) (x : Int) : tot p x x = if p x = true then 1 else 0 := by
  rw [tot_step p (Int.le_refl x), tot_none (show x - 1 < x by omega)]; omega
theorem tot_congr {p q : Int → Bool} {first last : Int} (h : ∀ x, first ≤ x → x ≤ last → p x = q x) : tot p first last = tot q first last := by
  unfold tot cN
  refine sZ_congr fun i hi => ?_
  rw [h (first + i) (by omega) (by omega)]
theorem tot_pos {p : Int → Bool} {first last x : Int} (h1 : first ≤ x) (h2 : x ≤ last) (hp : p x = true) : 0 < tot p first last := by
  have a := tot_mono p (first := first) h2
  rw [tot_step p h1, if_pos hp] at a
  have := tot_nonneg p first (x - 1)
  omega
theorem tot_zero_iff {p : Int → Bool} {first last : Int} : tot p first last = 0 ↔ ∀ x, first ≤ x → x ≤ last → p x = false := by
  constructor
  · intro h x h1 h2
    cases e : p x with
    | false => rfl
    | true => have := tot_pos h1 h2 e; omega
  · intro h
    rw [tot_congr (q := fun _ => false) h]
    unfold tot cN
    rw [show (fun i : Nat => if (fun _ : Int => false) (first + i) = true then (1 : Int) else 0) = fun _ => 0 from rfl, sZ_zero]
theorem tot_le (p : Int → Bool) {first last : Int} (h : first ≤ last + 1) : tot p first last ≤ last - first + 1 := by
  have key : ∀ n : Nat, cN p first n ≤ n := fun n => by
    induction n with
    | zero => exact Int.le_refl 0
    | succ n ih =>
      show cN p first n + (if p (first + n) = true then 1 else 0) ≤ _
      split <;> omega
  have := key (last - first + 1).toNat
  unfold tot
  omega
theorem tot_all_iff {p : Int → Bool} {first last : Int} (h : first ≤ last + 1) : tot p first last = last - first + 1 ↔ ∀ x, first ≤ x → x ≤ last → p x = true := by
  have neg : tot p first last + tot (fun x => !p x) first last = last - first + 1 := by
    unfold tot cN
    rw [← sZ_add, sZ_congr (g := fun _ => 1) fun i _ => (by show ((if p (first + i) = true then (1 : Int) else 0) + if (!p (first + i)) = true then 1 else 0) = 1; cases p (first + i) <;> rfl), sZ_const]
    omega
  constructor
  · intro e x h1 h2
    have := tot_zero_iff.mp (show tot (fun x => !p x) first last = 0 by omega) x h1 h2
    cases q : p x with
    | true => rfl
    | false => rw [q] at this; cases this
  · intro e
    have : tot (fun x => !p x) first last = 0 := tot_zero_iff.mpr fun x h1 h2 => by
      show (!p x) = false
      rw [e x h1 h2]; rfl
    omega
theorem tot_not {p : Int → Bool} {first last : Int} (h : first ≤ last + 1) : tot (fun x => !p x) first last = last - first + 1 - tot p first last := by
  have neg : tot p first last + tot (fun x => !p x) first last = last - first + 1 := by
    unfold tot cN
    rw [← sZ_add, sZ_congr (g := fun _ => 1) fun i _ => (by show ((if p (first + i) = true then (1 : Int) else 0) + if (!p (first + i)) = true then 1 else 0) = 1; cases p (first + i) <;> rfl), sZ_const]
    omega
  omega
/-- moving along -/
theorem tot_shift (p : Int → Bool) (first last d : Int) : tot (fun x => p (x + d)) first last = tot p (first + d) (last + d) := by
  unfold tot cN
  rw [show (last + d - (first + d) + 1).toNat = (last - first + 1).toNat by omega]
  refine sZ_congr fun i _ => ?_
  show (if p (first + (i : Int) + d) = true then (1 : Int) else 0) = _
  rw [show first + (i : Int) + d = first + d + i by omega]
/-- turning round -/
theorem tot_turn (p : Int → Bool) (first last : Int) : tot (fun x => p (-x)) first last = tot p (-last) (-first) := by
  unfold tot cN
  rw [show (-first - -last + 1).toNat = (last - first + 1).toNat by omega, ← sZ_rev]
  refine sZ_congr fun i hi => ?_
  show (if p (-(first + (((last - first + 1).toNat - 1 - i : Nat) : Int))) = true then (1 : Int) else 0) = _
  rw [show -(first + (((last - first + 1).toNat - 1 - i : Nat) : Int)) = -last + i by omega]
/-! ### the results of a line within bounds -/
/-- of the integers that are equal to y modulo m, one is from lo to hi -/
def inR (m lo hi y : Int) : Bool := decide (lo ≤ hi ∧ (y - lo) % m ≤ hi - lo)
theorem inR_quot {m lo hi : Int} (hm : 0 < m) (h1 : lo ≤ hi) (h2 : hi - lo < m) (y : Int) : (y - lo) / m - (y - hi - 1) / m = if inR m lo hi y = true then 1 else 0 := by
  have d1 := Int.emod_add_mul_ediv (y - lo) m
  have r0 := Int.emod_nonneg (y - lo) (Int.ne_of_gt hm)
  have r1 := Int.emod_lt_of_pos (y - lo) hm
  unfold inR
  by_cases c : (y - lo) % m ≤ hi - lo
  · rw [if_pos (decide_eq_true ⟨h1, c⟩)]
    have e : y - hi - 1 = ((y - lo) % m + (m - (hi - lo) - 1)) + m * ((y - lo) / m - 1) := by
      rw [Int.mul_sub, Int.mul_one]; omega
    have z := Int.ediv_eq_zero_of_lt (a := (y - lo) % m + (m - (hi - lo) - 1)) (b := m) (by omega) (by omega)
    rw [e, Int.add_mul_ediv_left _ _ (Int.ne_of_gt hm), z]
    omega
  · rw [if_neg (by rw [decide_eq_true_eq]; exact fun z => c z.2)]
    have e : y - hi - 1 = ((y - lo) % m - (hi - lo) - 1) + m * ((y - lo) / m) := by omega
    have z := Int.ediv_eq_zero_of_lt (a := (y - lo) % m - (hi - lo) - 1) (b := m) (by omega) (by omega)
    rw [e, Int.add_mul_ediv_left _ _ (Int.ne_of_gt hm), z]
    omega
/-- what quotient_total tells -/
def QT (a b m first last : Int) : Int := sZ (fun i => (a * (first + i) + b) / m) (last - first + 1).toNat
theorem QT_QS (a b m first last : Int) : QT a b m first last = QS a (b + a * first) m (last - first + 1).toNat := by
  unfold QT QS
  refine sZ_congr fun i _ => ?_
  rw [Int.mul_add]
  congr 1; omega
theorem QT_between {a b m first last lo hi : Int} (hm : 0 < m) (h1 : lo ≤ hi) (h2 : hi - lo < m) : QT a (b - lo) m first last - QT a (b - hi - 1) m first last = tot (fun x => inR m lo hi (a * x + b)) first last := by
  unfold QT tot cN
  rw [← sZ_sub]
  refine sZ_congr fun i _ => ?_
  rw [← inR_quot hm h1 h2]
  rw [show a * (first + (i : Int)) + (b - lo) = a * (first + (i : Int)) + b - lo by omega, show a * (first + (i : Int)) + (b - hi - 1) = a * (first + (i : Int)) + b - hi - 1 by omega]
theorem inR_none {m lo hi : Int} (h : hi < lo) (y : Int) : inR m lo hi y = false := decide_eq_false fun z => by omega
theorem tot_never {p : Int → Bool} (h : ∀ x, p x = false) (first last : Int) : tot p first last = 0 := tot_zero_iff.mpr fun x _ _ => h x
end Fw
namespace Fw
/-! ### the wanted ones, in a row -/
def wl (p : Int → Bool) (f : Int) (n : Nat) : List Int := ((List.range n).map fun i : Nat => f + (i : Int)).filter p
theorem wl_succ (p : Int → Bool) (f : Int) (n : Nat) : wl p f (n + 1) = wl p f n ++ (if p (f + n) = true then [f + (n : Int)] else []) := by
  unfold wl
  rw [List.range_succ, List.map_append, List.filter_append, List.map_singleton]
  congr 1
  cases h : p (f + (n : Int)) with
  | true => rw [List.filter_cons_of_pos h, if_pos rfl]; rfl
  | false => rw [List.filter_cons_of_neg (by rw [h]; exact Bool.false_ne_true), if_neg Bool.false_ne_true]; rfl
theorem wl_len (p : Int → Bool) (f : Int) : ∀ n : Nat, ((wl p f n).length : Int) = cN p f n
  | 0 => rfl
  | n + 1 => by
    rw [wl_succ, List.length_append]
    show _ = cN p f n + (if p (f + n) = true then 1 else 0)
    rw [← wl_len p f n]
    split <;> simp
theorem wl_tot {p : Int → Bool} {f l : Int} {n : Nat} (h : l - f + 1 = n) : ((wl p f n).length : Int) = tot p f l := by
  rw [wl_len]
  unfold tot
  rw [show (l - f + 1).toNat = n by omega]
theorem wl_mem {p : Int → Bool} {f : Int} {n : Nat} {x : Int} : x ∈ wl p f n ↔ f ≤ x ∧ x < f + n ∧ p x = true := by
  unfold wl
  rw [List.mem_filter, List.mem_map]
  constructor
  · rintro ⟨⟨i, hi, rfl⟩, h⟩
    have := List.mem_range.mp hi
    exact ⟨by omega, by omega, h⟩
  · rintro ⟨h1, h2, h3⟩
    exact ⟨⟨(x - f).toNat, List.mem_range.mpr (by omega), by omega⟩, h3⟩
/-- number k has k ahead -/
theorem wl_get {p : Int → Bool} {f : Int} : ∀ {n k : Nat} {x : Int}, (wl p f n)[k]? = some x → f ≤ x ∧ x < f + n ∧ p x = true ∧ tot p f (x - 1) = k
  | 0, k, x, h => by simp [wl] at h
  | n + 1, k, x, h => by
    rw [wl_succ] at h
    by_cases c : k < (wl p f n).length
    · rw [List.getElem?_append_left c] at h
      obtain ⟨a, b, d, e⟩ := wl_get h
      exact ⟨a, by omega, d, e⟩
    · rw [List.getElem?_append_right (by omega)] at h
      by_cases hp : p (f + n) = true
      · rw [if_pos hp] at h
        have e0 : k - (wl p f n).length = 0 := by
          have := (List.getElem?_eq_some_iff.mp h).1
          simpa using this
        rw [e0] at h
        have ex : f + (n : Int) = x := by simpa using h
        subst ex
        refine ⟨by omega, by omega, hp, ?_⟩
        rw [← wl_tot (n := n) (by omega)]
        omega
      · rw [if_neg hp] at h
        simp at h
theorem at_unique {p : Int → Bool} {f x y j : Int} (x1 : f ≤ x) (px : p x = true) (xj : tot p f (x - 1) = j) (y1 : f ≤ y) (py : p y = true) (yj : tot p f (y - 1) = j) : x = y := by
  rcases Int.lt_trichotomy x y with h | h | h
  · have := tot_mono p (first := f) (show x ≤ y - 1 by omega)
    rw [tot_step p x1, if_pos px] at this
    omega
  · exact h
  · have := tot_mono p (first := f) (show y ≤ x - 1 by omega)
    rw [tot_step p y1, if_pos py] at this
    omega
theorem wl_at {p : Int → Bool} {f : Int} {n k : Nat} {x y : Int} (h : (wl p f n)[k]? = some x) (y1 : f ≤ y) (py : p y = true) (yj : tot p f (y - 1) = k) : y = x := by
  obtain ⟨a, _, c, d⟩ := wl_get h
  exact at_unique y1 py yj a c d
theorem wl_nil {p : Int → Bool} {f l : Int} {n : Nat} (h : l - f + 1 = n) : wl p f n = [] ↔ tot p f l = 0 := by
  rw [← wl_tot h, ← List.length_eq_zero_iff]; omega
end Fw
namespace Fw
open PySem PySem.Spec PyProof.Rows L2
/-! ### ranges of any ints -/
theorem turn_long {P : Program} {w : World} {K : PySem.W.Frag} {tg : Expr} (it : Addr) (lo : Int) (n : Nat) : Turn P w K tg (Itr lo n) [it] it (fun i h => IsLongIter h it (lo + (i : Nat) * 1) ((n : Int) - (i : Nat)) 1) where
  mem := by simp
  obj := fun i h st b hb => by
    have e : b = it := by simpa using hb
    subst e
    exact ⟨_, st, fun v z => by
      have z' : Data.fields _ = Data.cell v := z
      cases z'⟩
  keep := fun i h h' st k => k it (by simp) _ st
  item := by
    intro X hP hw hK hc i pins s σ H E I hf st hg
    subst hP hw hK
    obtain ⟨f0, f1, f2, f3, f4, f5⟩ := hf it (by simp)
    have W := Walks.longrange (prog := X.prog) (w := X.w) (I.ok.hd hc) it lo 1 n
    refine W.item i s _ _ hg st fun v h' tk hv st' kk => ?_
    obtain ⟨t, rfl⟩ := hv
    have I1 : Inv X pins σ H { s with heap := h', toks := tk } := I.turned (fun b o hb e => kk b o (by simpa using hb) e) f0 f1 f3 f4 f5
    refine ⟨_, rfl, go_of (s := { s with heap := h', toks := tk }) (n := "longrange_iterator") st' rfl rfl (by decide) ⟨.int (lo + i), H, I1, ⟨t, ?_⟩, ⟨rfl, rfl⟩, st', fun b hb => (hf b hb).1⟩⟩
    rw [Int.mul_one]
  done := by
    intro X hP hw hK hc i pins s σ H E I hf st hg
    subst hP hw hK
    obtain ⟨f0, f1, f2, f3, f4, f5⟩ := hf it (by simp)
    exact wpAny_pyNext_long_end (I.ok.hd hc) st (by have : n ≤ i := hg; omega) fun h' eb => ⟨rfl, I.turned (t' := s.toks) (fun b o hb e => eb b o hb e) f0 f1 f3 f4 f5⟩
  self := fun _ _ _ _ _ st h => wpAny_pyIter_longiter st h
section
variable {X : Cx} {tg : Expr}
theorem range_itL {pins : List (Addr × Obj)} {σ : L2.St} {H : Hp} {s : Shared} {R : It → Hp → Prop} {E : Value → Shared → Prop} {lo hi : Int} {t u v : Tok} {tk : Nat} (I : Inv X pins σ H s)
    (q : R (Itr lo (hi - lo).toNat) H) : wpAny (model X.prog X.w) X.A (pyIter (.ref s.heap.objs.size)) (PIE X pins σ tg R) E { s with heap := s.heap.push { cls := .type "range", data := .fields #[.int lo t, .int hi u, .int 1 v] }, toks := tk } := by
  have I1 : Inv X pins σ H { s with heap := s.heap.push { cls := .type "range", data := .fields #[.int lo t, .int hi u, .int 1 v] }, toks := tk } := I.kept fun b o e => Heap.get?_push_of_some _ e
  have e1 : lo + ((0 : Nat) : Int) * 1 = lo := by simp
  have e2 : (((hi - lo).toNat : Nat) : Int) - ((0 : Nat) : Int) = Builtin.Range.rangeSize lo hi 1 := by rw [rangeSize_one]; split <;> omega
  cases hsm : Builtin.Range.small lo hi 1 with
  | true =>
    refine wpAny_pyIter_range (IsRange.new ..) hsm ?_
    refine ⟨(s.heap.push { cls := .type "range", data := .fields #[.int lo t, .int hi u, .int 1 v] }).objs.size, [(s.heap.push { cls := .type "range", data := .fields #[.int lo t, .int hi u, .int 1 v] }).objs.size], _, _, H, rfl,
      I1.kept (t' := tk) fun b o e => Heap.get?_push_of_some _ e, turn_range _ lo (hi - lo).toNat, ?_, fun b hb => ?_, q⟩
    · show IsRangeIter _ _ (lo + ((0 : Nat) : Int) * 1) ((((hi - lo).toNat : Nat) : Int) - ((0 : Nat) : Int)) 1
      rw [e1, e2]
      exact Heap.get?_push_size _ rfl
    · have e : b = (s.heap.push { cls := .type "range", data := .fields #[.int lo t, .int hi u, .int 1 v] }).objs.size := by simpa using hb
      subst e
      exact I1.fpOk (Nat.le_refl _) (I1.hok.fresh (Nat.le_refl _))
  | false =>
    refine wpAny_pyIter_longrange (IsRange.new ..) hsm ?_
    refine ⟨(s.heap.push { cls := .type "range", data := .fields #[.int lo t, .int hi u, .int 1 v] }).objs.size, [(s.heap.push { cls := .type "range", data := .fields #[.int lo t, .int hi u, .int 1 v] }).objs.size], _, _, H, rfl,
      I1.kept (t' := tk) fun b o e => Heap.get?_push_of_some _ e, turn_long _ lo (hi - lo).toNat, ?_, fun b hb => ?_, q⟩
    · show IsLongIter _ _ (lo + ((0 : Nat) : Int) * 1) ((((hi - lo).toNat : Nat) : Int) - ((0 : Nat) : Int)) 1
      rw [e1, e2]
      exact Heap.get?_push_size _ rfl
    · have e : b = (s.heap.push { cls := .type "range", data := .fields #[.int lo t, .int hi u, .int 1 v] }).objs.size := by simpa using hb
      subst e
      exact I1.fpOk (Nat.le_refl _) (I1.hok.fresh (Nat.le_refl _))
def iRngL (ta : TA) : TI := fun σ H R => ta σ H fun vs H1 => ∃ i j : Int, vs = [.int i, .int j] ∧ R (Itr i (j - i).toNat) H1
theorem pi_rangeL {a b : Expr} {ta : TA} {p pos : Pos} (hg : Gl X "range") (hm : X.mg "range" = none) (ha : PA X [a, b] ta) (hs : starEach [a, b] X.env = [(false, eval a X.env), (false, eval b X.env)] := by rfl) (hs2 : starEach [b] X.env = [(false, eval b X.env)] := by rfl) :
    PI X tg (.Call (.Name "range" p) [a, b] [] pos) (iRngL ta) := by
  refine ⟨fun pins s σ H R I h => ?_⟩
  refine Call_ (ld_blt I hg hm boot_range (PyProof.Rows.callWith_type1 (thn (ha.run pos pins s σ H _ I h) fun us s1 ⟨vs, H1, I1, r1, q1⟩ => ?_) (by rw [hs, hs2]) (by rw [hs2]; rfl)))
  obtain ⟨i, j, e, q⟩ := q1
  subst e
  cases r1 with
  | cons r rr =>
    cases rr with
    | cons r' rr =>
      cases rr
      obtain ⟨t, rfl⟩ := r
      obtain ⟨t', rfl⟩ := r'
      exact call_range_2 (range_itL I1 q)
end
end Fw
namespace Fw
/-! ### walks around a circle -/
structure Wk where
  (s t m e k r : Int)
def hn (s t p : Int) : Int := if s ≤ p + t then p + t - s else p + t
def hc (w : Wk) (p : Int) : Int := w.e + (if p < w.m then w.k else 0) + (if w.s ≤ p + w.t then w.r else 0)
def hP (w : Wk) : Nat → Int → Int
  | 0, p => p
  | n + 1, p => hn w.s w.t (hP w n p)
def hC (w : Wk) : Nat → Int → Int
  | 0, _ => 0
  | n + 1, p => hC w n p + hc w (hP w n p)
theorem hP_add (w : Wk) (m : Nat) (p : Int) : ∀ n : Nat, hP w (m + n) p = hP w n (hP w m p)
  | 0 => rfl
  | n + 1 => by
    show hn w.s w.t (hP w (m + n) p) = hn w.s w.t (hP w n (hP w m p))
    rw [hP_add w m p n]
theorem hC_add (w : Wk) (m : Nat) (p : Int) : ∀ n : Nat, hC w (m + n) p = hC w m p + hC w n (hP w m p)
  | 0 => by show hC w m p = hC w m p + 0; omega
  | n + 1 => by
    show hC w (m + n) p + hc w (hP w (m + n) p) = hC w m p + (hC w n (hP w m p) + hc w (hP w n (hP w m p)))
    rw [hC_add w m p n, hP_add w m p n]; omega
structure WF (w : Wk) : Prop where
  s0 : 0 < w.s
  t0 : 0 ≤ w.t
  ts : w.t < w.s
  m0 : 0 ≤ w.m
  ms : w.m ≤ w.s
  nn : ∀ p, 0 ≤ p → p < w.s → 0 ≤ hc w p
theorem hP_rng {w : Wk} (h : WF w) {p : Int} (p0 : 0 ≤ p) (p1 : p < w.s) : ∀ n : Nat, 0 ≤ hP w n p ∧ hP w n p < w.s
  | 0 => ⟨p0, p1⟩
  | n + 1 => by
    obtain ⟨a, b⟩ := hP_rng h p0 p1 n
    have t0 := h.t0
    have ts := h.ts
    show 0 ≤ hn w.s w.t (hP w n p) ∧ hn w.s w.t (hP w n p) < w.s
    unfold hn
    split <;> omega
theorem hC_nn {w : Wk} (h : WF w) {p : Int} (p0 : 0 ≤ p) (p1 : p < w.s) : ∀ n : Nat, 0 ≤ hC w n p
  | 0 => Int.le_refl _
  | n + 1 => by
    have a := hC_nn h p0 p1 n
    obtain ⟨b, c⟩ := hP_rng h p0 p1 n
    have := h.nn _ b c
    show 0 ≤ hC w n p + hc w (hP w n p)
    omega
theorem hC_mono {w : Wk} (h : WF w) {p : Int} (p0 : 0 ≤ p) (p1 : p < w.s) {m n : Nat} (hmn : m ≤ n) : hC w m p ≤ hC w n p := by
  obtain ⟨k, rfl⟩ : ∃ k, n = m + k := ⟨n - m, by omega⟩
  rw [hC_add]
  obtain ⟨a, b⟩ := hP_rng h p0 p1 m
  have := hC_nn h a b k
  omega
/-- n steps are done within the budget b, one more is not; g is left -/
def hT (w : Wk) (p b : Int) (n : Nat) (g : Int) : Prop := hC w n p + g = b ∧ 0 ≤ g ∧ g < hc w (hP w n p)
theorem hT_lt {w : Wk} (h : WF w) {p b g : Int} {n N : Nat} (p0 : 0 ≤ p) (p1 : p < w.s) (t : hT w p b n g) (hN : b < hC w N p) : n < N := by
  refine Nat.lt_of_not_le fun c => ?_
  have := hC_mono h p0 p1 c
  have := t.1
  have := t.2.1
  omega
theorem hT_ge {w : Wk} (h : WF w) {p b g : Int} {n N : Nat} (p0 : 0 ≤ p) (p1 : p < w.s) (t : hT w p b n g) (hN : hC w N p ≤ b) : N ≤ n := by
  refine Nat.le_of_not_lt fun c => ?_
  have h1 := hC_mono h p0 p1 (show n + 1 ≤ N from c)
  have h2 : hC w (n + 1) p = hC w n p + hc w (hP w n p) := rfl
  have := t.1
  have := t.2.2
  omega
/-! ceilings -/
theorem hceil {b t m i : Int} (ht : 0 < t) : b + i * t < m ↔ i < -((b - m) / t) := by
  have e := Int.ediv_lt_iff_lt_mul (a := b - m) (b := -i) ht
  rw [Int.neg_mul] at e
  constructor
  · intro h
    have := e.mpr (by omega)
    omega
  · intro h
    have := e.mp (by omega)
    omega
def Wk.mst (w : Wk) (b : Int) : Int := max 0 (-((b - w.m) / w.t))
def Wk.most (w : Wk) (b : Int) : Int := -((b - w.s) / w.t) - 1
def Wk.cost (w : Wk) (b n : Int) : Int := n * w.e + min n (w.mst b) * w.k
theorem mst_iff {w : Wk} (ht : 0 < w.t) {b i : Int} (hi : 0 ≤ i) : i < w.mst b ↔ b + i * w.t < w.m := by
  rw [hceil ht]; unfold Wk.mst; omega
theorem most_iff {w : Wk} (ht : 0 < w.t) {b i : Int} : i ≤ w.most b ↔ b + i * w.t < w.s := by
  rw [hceil ht]; unfold Wk.most; omega
/-- within a lap -/
theorem lap_in {w : Wk} (h : WF w) (ht : 0 < w.t) {b : Int} (b0 : 0 ≤ b) : ∀ n : Nat, (n : Int) ≤ w.most b → hP w n b = b + n * w.t ∧ hC w n b = w.cost b n
  | 0, _ => by
    refine ⟨?_, ?_⟩
    · show b = b + (0 : Nat) * w.t
      rw [show ((0 : Nat) : Int) = 0 from rfl, Int.zero_mul]; omega
    · show (0 : Int) = w.cost b (0 : Nat)
      unfold Wk.cost
      have : 0 ≤ w.mst b := by unfold Wk.mst; omega
      rw [show ((0 : Nat) : Int) = 0 from rfl, Int.zero_mul, show min 0 (w.mst b) = 0 by omega, Int.zero_mul]; rfl
  | n + 1, hn' => by
    obtain ⟨e1, e2⟩ := lap_in h ht b0 n (by omega)
    have a1 := (most_iff (w := w) ht).mp hn'
    have e3 : ((n + 1 : Nat) : Int) * w.t = n * w.t + w.t := by rw [Int.natCast_succ, Int.add_mul, Int.one_mul]
    have m1 := mst_iff (w := w) ht (b := b) (i := (n : Int)) (by omega)
    constructor
    · show hn w.s w.t (hP w n b) = _
      unfold hn
      rw [e1, if_neg (by omega), e3]; omega
    · show hC w n b + hc w (hP w n b) = _
      rw [e2, e1]
      unfold hc Wk.cost
      rw [if_neg (show ¬ w.s ≤ b + n * w.t + w.t by omega)]
      have e4 : ((n + 1 : Nat) : Int) * w.e = n * w.e + w.e := by rw [Int.natCast_succ, Int.add_mul, Int.one_mul]
      by_cases c : b + n * w.t < w.m
      · have c2 := m1.mpr c
        rw [if_pos c, show min (n : Int) (w.mst b) = n by omega, show min ((n + 1 : Nat) : Int) (w.mst b) = (n : Int) + 1 by omega, e4, Int.add_mul, Int.one_mul]; omega
      · have c2 := fun z => c (m1.mp z)
        rw [if_neg c, show min (n : Int) (w.mst b) = w.mst b by omega, show min ((n + 1 : Nat) : Int) (w.mst b) = w.mst b by omega, e4]; omega
def Wk.lng (w : Wk) : Int := -(-w.s / w.t)
def Wk.laps (w : Wk) : Wk := ⟨w.t, w.lng * w.t - w.s, w.m % w.t, w.lng * w.e + w.m / w.t * w.k + w.r, w.k, -w.e⟩
theorem lng_b {w : Wk} (ht : 0 < w.t) : w.s ≤ w.lng * w.t ∧ w.lng * w.t < w.s + w.t := by
  have e := Int.mul_ediv_add_emod (-w.s) w.t
  have r0 := Int.emod_nonneg (-w.s) (Int.ne_of_gt ht)
  have r1 := Int.emod_lt_of_pos (-w.s) ht
  unfold Wk.lng
  rw [Int.neg_mul, Int.mul_comm]
  omega
theorem mst_val {w : Wk} (h : WF w) (ht : 0 < w.t) {b : Int} (b0 : 0 ≤ b) (b1 : b < w.t) : w.mst b = w.m / w.t + (if b < w.m % w.t then 1 else 0) := by
  have e := Int.mul_ediv_add_emod w.m w.t
  have r0 := Int.emod_nonneg w.m (Int.ne_of_gt ht)
  have r1 := Int.emod_lt_of_pos w.m ht
  have q0 : 0 ≤ w.m / w.t := Int.ediv_nonneg h.m0 (Int.le_of_lt ht)
  have key : ∀ i : Int, 0 ≤ i → (i < w.mst b ↔ i < w.m / w.t + (if b < w.m % w.t then 1 else 0)) := fun i i0 => by
    rw [mst_iff ht i0]
    rw [Int.mul_comm i]
    rw [Int.mul_comm] at e
    rw [Int.mul_comm w.t]
    constructor
    · intro z
      by_cases c : i < w.m / w.t
      · split <;> omega
      · have := Int.mul_le_mul_of_nonneg_right (show w.m / w.t ≤ i by omega) (Int.le_of_lt ht)
        by_cases c2 : i = w.m / w.t
        · rw [c2] at z
          rw [if_pos (by omega)]; omega
        · have := Int.mul_le_mul_of_nonneg_right (show w.m / w.t + 1 ≤ i by omega) (Int.le_of_lt ht)
          rw [Int.add_mul, Int.one_mul] at this
          omega
    · intro z
      by_cases c : i < w.m / w.t
      · have := Int.mul_le_mul_of_nonneg_right (show i + 1 ≤ w.m / w.t by omega) (Int.le_of_lt ht)
        rw [Int.add_mul, Int.one_mul] at this
        omega
      · split at z
        · have c2 : i = w.m / w.t := by omega
          rw [c2]; omega
        · omega
  have n0 : 0 ≤ w.mst b := by unfold Wk.mst; omega
  have n1 : 0 ≤ w.m / w.t + (if b < w.m % w.t then (1 : Int) else 0) := by split <;> omega
  generalize w.m / w.t + (if b < w.m % w.t then (1 : Int) else 0) = z at *
  rcases Int.lt_trichotomy (w.mst b) z with c | c | c
  · have := (key _ n0).mpr c; omega
  · exact c
  · have := (key _ n1).mp c; omega
/-- a whole lap is a step of the walk of laps -/
theorem lap_one {w : Wk} (h : WF w) (ht : 0 < w.t) {b : Int} (b0 : 0 ≤ b) (b1 : b < w.t) : ∃ L : Nat, (L : Int) = w.most b + 1 ∧ 1 ≤ L ∧ hP w L b = hn w.laps.s w.laps.t b ∧ hC w L b = hc w.laps b ∧ b + L * w.t - w.s = hn w.laps.s w.laps.t b := by
  have ts := h.ts
  obtain ⟨l1, l2⟩ := lng_b (w := w) ht
  have mo0 : 0 ≤ w.most b := (most_iff (w := w) ht).mpr (by rw [Int.zero_mul]; omega)
  obtain ⟨n, hn'⟩ := Int.eq_ofNat_of_zero_le mo0
  obtain ⟨e1, e2⟩ := lap_in h ht b0 n (by omega)
  have a1 := (most_iff (w := w) ht (b := b) (i := (n : Int))).mp (by omega)
  have a2 : ¬ b + ((n : Int) + 1) * w.t < w.s := fun z => by
    have := (most_iff (w := w) ht).mpr z
    omega
  rw [Int.add_mul, Int.one_mul] at a2
  have e3 : ((n + 1 : Nat) : Int) * w.t = n * w.t + w.t := by rw [Int.natCast_succ, Int.add_mul, Int.one_mul]
  have pos : b + (n * w.t + w.t) - w.s = hn w.laps.s w.laps.t b := by
    show _ = hn w.t (w.lng * w.t - w.s) b
    unfold hn
    -- n + 1 is lng or one less
    have c1 : (n : Int) + 1 ≤ w.lng := by
      refine Int.not_lt.mp fun z => ?_
      have := Int.mul_le_mul_of_nonneg_right (show w.lng ≤ (n : Int) by omega) (Int.le_of_lt ht)
      omega
    have c2 : w.lng ≤ (n : Int) + 2 := by
      refine Int.not_lt.mp fun z => ?_
      have := Int.mul_le_mul_of_nonneg_right (show (n : Int) + 3 ≤ w.lng by omega) (Int.le_of_lt ht)
      rw [Int.add_mul] at this
      omega
    by_cases c : w.lng = (n : Int) + 1
    · have : w.lng * w.t = n * w.t + w.t := by rw [c, Int.add_mul, Int.one_mul]
      rw [if_neg (by omega)]; omega
    · have c3 : w.lng = (n : Int) + 2 := by omega
      have : w.lng * w.t = n * w.t + 2 * w.t := by rw [c3, Int.add_mul]
      rw [if_pos (by omega)]; omega
  refine ⟨n + 1, by omega, by omega, ?_, ?_, by rw [e3]; exact pos⟩
  · show hn w.s w.t (hP w n b) = _
    rw [← pos, e1]
    unfold hn
    rw [if_pos (by omega)]; omega
  · show hC w n b + hc w (hP w n b) = _
    rw [e2, e1]
    have mv := mst_val h ht b0 b1
    have mm : ∀ i : Int, 0 ≤ i → (i < w.mst b ↔ b + i * w.t < w.m) := fun i hi => mst_iff ht hi
    have mn := mm (n : Int) (by omega)
    have ml : w.mst b ≤ (n : Int) + 1 := by
      refine Int.not_lt.mp fun z => ?_
      have := (mm ((n : Int) + 1) (by omega)).mp z
      rw [Int.add_mul, Int.one_mul] at this
      have := h.ms
      omega
    have lhs : w.cost b n + hc w (b + n * w.t) = (n + 1) * w.e + w.mst b * w.k + w.r := by
      unfold Wk.cost hc
      rw [if_pos (show w.s ≤ b + n * w.t + w.t by omega), Int.add_mul, Int.one_mul]
      by_cases c : b + n * w.t < w.m
      · have := mn.mpr c
        rw [if_pos c, show min (n : Int) (w.mst b) = n by omega, show w.mst b = (n : Int) + 1 by omega, Int.add_mul, Int.one_mul]; omega
      · have := fun z => c (mn.mp z)
        rw [if_neg c, show min (n : Int) (w.mst b) = w.mst b by omega]; omega
    rw [lhs, mv]
    show _ = (w.lng * w.e + w.m / w.t * w.k + w.r) + (if b < w.m % w.t then w.k else 0) + (if w.t ≤ b + (w.lng * w.t - w.s) then -w.e else 0)
    have en : ((n : Int) + 1) * w.e = w.lng * w.e + (if w.t ≤ b + (w.lng * w.t - w.s) then -w.e else 0) := by
      have p2 := pos
      change _ = hn w.t (w.lng * w.t - w.s) b at p2
      unfold hn at p2
      split at p2
      · rename_i c
        rw [if_pos c]
        have : (w.lng - ((n : Int) + 1) - 1) * w.t = 0 := by
          rw [Int.sub_mul, Int.sub_mul, Int.add_mul, Int.one_mul]; omega
        have : w.lng - ((n : Int) + 1) - 1 = 0 := by
          rcases Int.mul_eq_zero.mp this with z | z
          · exact z
          · omega
        rw [show w.lng = (n : Int) + 1 + 1 by omega, Int.add_mul ((n : Int) + 1), Int.one_mul]; omega
      · rename_i c
        rw [if_neg c]
        have : (w.lng - ((n : Int) + 1)) * w.t = 0 := by
          rw [Int.sub_mul, Int.add_mul, Int.one_mul]; omega
        have : w.lng - ((n : Int) + 1) = 0 := by
          rcases Int.mul_eq_zero.mp this with z | z
          · exact z
          · omega
        rw [show w.lng = (n : Int) + 1 by omega]; omega
    rw [en, Int.add_mul]
    by_cases c : b < w.m % w.t
    · rw [if_pos c, if_pos c, Int.one_mul]; omega
    · rw [if_neg c, if_neg c, Int.zero_mul]; omega
theorem laps_wf {w : Wk} (h : WF w) (ht : 0 < w.t) : WF w.laps := by
  obtain ⟨l1, l2⟩ := lng_b (w := w) ht
  refine ⟨ht, by show 0 ≤ w.lng * w.t - w.s; omega, by show w.lng * w.t - w.s < w.t; omega, Int.emod_nonneg _ (Int.ne_of_gt ht), Int.le_of_lt (Int.emod_lt_of_pos _ ht), fun p p0 p1 => ?_⟩
  obtain ⟨L, _, _, _, e, _⟩ := lap_one h ht p0 p1
  rw [← e]
  exact hC_nn h p0 (by have := h.ts; have : p < w.t := p1; omega) L
/-- many laps -/
theorem lap_many {w : Wk} (h : WF w) (ht : 0 < w.t) {b : Int} (b0 : 0 ≤ b) (b1 : b < w.t) : ∀ N : Nat, ∃ S : Nat, N ≤ S ∧ hP w S b = hP w.laps N b ∧ hC w S b = hC w.laps N b ∧ b + S * w.t - N * w.s = hP w.laps N b
  | 0 => ⟨0, Nat.le_refl _, rfl, rfl, by
    show b + (0 : Nat) * w.t - (0 : Nat) * w.s = b
    rw [show ((0 : Nat) : Int) = 0 from rfl, Int.zero_mul, Int.zero_mul]; omega⟩
  | N + 1 => by
    obtain ⟨S, hS, e1, e2, e3⟩ := lap_many h ht b0 b1 N
    obtain ⟨r0, r1⟩ := hP_rng (laps_wf h ht) b0 (show b < w.laps.s from b1) N
    obtain ⟨L, _, hL, f1, f2, f3⟩ := lap_one h ht r0 r1
    refine ⟨S + L, by omega, ?_, ?_, ?_⟩
    · rw [hP_add, e1, f1]; rfl
    · rw [hC_add, e1, e2, f2]; rfl
    · show _ = hn w.laps.s w.laps.t (hP w.laps N b)
      rw [← f3, ← e3, Int.natCast_add, Int.add_mul, Int.natCast_succ, Int.add_mul, Int.one_mul]; omega
/-! mirrored -/
def Wk.mir (w : Wk) : Wk := ⟨w.s, w.s - w.t, w.s - w.m, w.e + w.k + w.r, -w.k, -w.r⟩
theorem mir_hc {w : Wk} (h : WF w) {p : Int} (p0 : 0 ≤ p) (p1 : p < w.s) : hc w.mir (w.s - 1 - p) = hc w p := by
  show (w.e + w.k + w.r) + (if w.s - 1 - p < w.s - w.m then -w.k else 0) + (if w.s ≤ w.s - 1 - p + (w.s - w.t) then -w.r else 0) = w.e + (if p < w.m then w.k else 0) + (if w.s ≤ p + w.t then w.r else 0)
  have ts := h.ts
  by_cases c1 : p < w.m
  · rw [if_neg (show ¬ w.s - 1 - p < w.s - w.m by omega), if_pos c1]
    by_cases c2 : w.s ≤ p + w.t
    · rw [if_neg (show ¬ w.s ≤ w.s - 1 - p + (w.s - w.t) by omega), if_pos c2]; omega
    · rw [if_pos (show w.s ≤ w.s - 1 - p + (w.s - w.t) by omega), if_neg c2]; omega
  · rw [if_pos (show w.s - 1 - p < w.s - w.m by omega), if_neg c1]
    by_cases c2 : w.s ≤ p + w.t
    · rw [if_neg (show ¬ w.s ≤ w.s - 1 - p + (w.s - w.t) by omega), if_pos c2]; omega
    · rw [if_pos (show w.s ≤ w.s - 1 - p + (w.s - w.t) by omega), if_neg c2]; omega
theorem mir_wf {w : Wk} (h : WF w) (ht : 0 < w.t) : WF w.mir := by
  have ts := h.ts
  have m0 := h.m0
  have ms := h.ms
  refine ⟨h.s0, by show 0 ≤ w.s - w.t; omega, by show w.s - w.t < w.s; omega, by show 0 ≤ w.s - w.m; omega, by show w.s - w.m ≤ w.s; omega, fun p p0 p1 => ?_⟩
  have p1 : p < w.s := p1
  have e := mir_hc h (p := w.s - 1 - p) (by omega) (by omega)
  rw [show w.s - 1 - (w.s - 1 - p) = p by omega] at e
  rw [e]
  exact h.nn _ (by omega) (by omega)
theorem mir_hP {w : Wk} (h : WF w) {p : Int} (p0 : 0 ≤ p) (p1 : p < w.s) : ∀ n : Nat, hP w.mir n (w.s - 1 - p) = w.s - 1 - hP w n p ∧ hC w.mir n (w.s - 1 - p) = hC w n p
  | 0 => ⟨rfl, rfl⟩
  | n + 1 => by
    obtain ⟨e1, e2⟩ := mir_hP h p0 p1 n
    obtain ⟨r0, r1⟩ := hP_rng h p0 p1 n
    constructor
    · show hn w.s (w.s - w.t) (hP w.mir n (w.s - 1 - p)) = w.s - 1 - hn w.s w.t (hP w n p)
      rw [e1]
      unfold hn
      by_cases c : w.s ≤ hP w n p + w.t
      · rw [if_pos c, if_neg (by omega)]; omega
      · rw [if_neg c, if_pos (by omega)]; omega
    · show hC w.mir n (w.s - 1 - p) + hc w.mir (hP w.mir n (w.s - 1 - p)) = hC w n p + hc w (hP w n p)
      rw [e2, e1, mir_hc h r0 r1]
theorem mir_hT {w : Wk} (h : WF w) {p b g : Int} {n : Nat} (p0 : 0 ≤ p) (p1 : p < w.s) (t : hT w.mir (w.s - 1 - p) b n g) : hT w p b n g := by
  obtain ⟨e1, e2⟩ := mir_hP h p0 p1 n
  obtain ⟨r0, r1⟩ := hP_rng h p0 p1 n
  obtain ⟨t1, t2, t3⟩ := t
  rw [e2] at t1
  rw [e1, mir_hc h r0 r1] at t3
  exact ⟨t1, t2, t3⟩
/-! as many steps of a lap as a budget allows -/
def Wk.sfor (w : Wk) (b g : Int) : Int :=
  if min (w.most b) (w.mst b) * (w.e + w.k) > g then g / (w.e + w.k)
  else if (w.most b - min (w.most b) (w.mst b)) * w.e > g - min (w.most b) (w.mst b) * (w.e + w.k) then min (w.most b) (w.mst b) + (g - min (w.most b) (w.mst b) * (w.e + w.k)) / w.e
  else w.most b
theorem sfor_ok {w : Wk} (h : WF w) (ht : 0 < w.t) {b g : Int} (b0 : 0 ≤ b) (b1 : b < w.t) (g0 : 0 ≤ g) : ∃ n : Nat, w.sfor b g = (n : Int) ∧ (n : Int) ≤ w.most b ∧ w.cost b n ≤ g ∧ ((n : Int) < w.most b → g < w.cost b ((n : Int) + 1)) := by
  have ts := h.ts
  have mo0 : 0 ≤ w.most b := (most_iff (w := w) ht).mpr (by rw [Int.zero_mul]; omega)
  have ms0 : 0 ≤ w.mst b := by unfold Wk.mst; omega
  -- what a step costs
  have stp : ∀ i : Int, 0 ≤ i → i < w.most b → 0 ≤ w.e + (if i < w.mst b then w.k else 0) := fun i i0 i1 => by
    have c1 := (most_iff (w := w) ht (b := b) (i := i + 1)).mp (by omega)
    rw [Int.add_mul, Int.one_mul] at c1
    have c2 := Int.mul_nonneg i0 (Int.le_of_lt ht)
    have e := h.nn (b + i * w.t) (by omega) (by omega)
    have c3 := mst_iff (w := w) ht (b := b) i0
    unfold hc at e
    rw [if_neg (show ¬ w.s ≤ b + i * w.t + w.t by omega)] at e
    by_cases c : i < w.mst b
    · rw [if_pos c]; rw [if_pos (c3.mp c)] at e; omega
    · rw [if_neg c]; rw [if_neg (fun z => c (c3.mpr z))] at e; omega
  unfold Wk.sfor
  obtain ⟨n0, hn0⟩ : ∃ n0, n0 = min (w.most b) (w.mst b) := ⟨_, rfl⟩
  rw [← hn0]
  have e1 : 0 ≤ n0 ∧ n0 ≤ w.most b ∧ n0 ≤ w.mst b := by omega
  have cost1 : ∀ n : Int, n ≤ n0 → w.cost b n = n * (w.e + w.k) := fun n z => by
    unfold Wk.cost
    rw [show min n (w.mst b) = n by omega, Int.mul_add]
  have cost2 : ∀ n : Int, n0 ≤ n → n ≤ w.most b → w.cost b n = n0 * (w.e + w.k) + (n - n0) * w.e := fun n z1 z2 => by
    unfold Wk.cost
    have : min n (w.mst b) = n0 := by omega
    rw [this, Int.mul_add, Int.sub_mul]; omega
  by_cases c1 : n0 * (w.e + w.k) > g
  · rw [if_pos c1]
    have n0p : 0 < n0 := by
      refine Int.not_le.mp fun z => ?_
      have : n0 = 0 := by omega
      rw [this, Int.zero_mul] at c1; omega
    have ek : 0 < w.e + w.k := by
      refine Int.not_le.mp fun z => ?_
      have := Int.mul_nonneg (show 0 ≤ n0 by omega) (show 0 ≤ -(w.e + w.k) by omega)
      rw [Int.mul_neg] at this; omega
    have q0 := Int.ediv_nonneg g0 (Int.le_of_lt ek)
    have e := Int.mul_ediv_add_emod g (w.e + w.k)
    have r0 := Int.emod_nonneg g (Int.ne_of_gt ek)
    have r1 := Int.emod_lt_of_pos g ek
    obtain ⟨n, hn'⟩ := Int.eq_ofNat_of_zero_le q0
    have lt : g / (w.e + w.k) < n0 := (Int.ediv_lt_iff_lt_mul ek).mpr c1
    rw [Int.mul_comm] at e
    refine ⟨n, hn', by omega, ?_, fun _ => ?_⟩
    · rw [cost1 _ (by omega), ← hn']; omega
    · rw [cost1 _ (by omega), ← hn', Int.add_mul, Int.one_mul]; omega
  · rw [if_neg c1]
    by_cases c2 : (w.most b - n0) * w.e > g - n0 * (w.e + w.k)
    · rw [if_pos c2]
      have lt : n0 < w.most b := by
        refine Int.not_le.mp fun z => ?_
        rw [show w.most b - n0 = 0 by omega, Int.zero_mul] at c2; omega
      have ep : 0 < w.e := by
        refine Int.not_le.mp fun z => ?_
        have := Int.mul_nonneg (show 0 ≤ w.most b - n0 by omega) (show 0 ≤ -w.e by omega)
        rw [Int.mul_neg] at this; omega
      obtain ⟨rest, hr⟩ : ∃ rest, rest = g - n0 * (w.e + w.k) := ⟨_, rfl⟩
      rw [← hr] at c2 ⊢
      have q0 := Int.ediv_nonneg (show 0 ≤ rest by omega) (Int.le_of_lt ep)
      have e := Int.mul_ediv_add_emod rest w.e
      have r0 := Int.emod_nonneg rest (Int.ne_of_gt ep)
      have r1 := Int.emod_lt_of_pos rest ep
      have lt2 : rest / w.e < w.most b - n0 := (Int.ediv_lt_iff_lt_mul ep).mpr c2
      obtain ⟨n, hn'⟩ := Int.eq_ofNat_of_zero_le (show 0 ≤ n0 + rest / w.e by omega)
      rw [Int.mul_comm] at e
      refine ⟨n, hn', by omega, ?_, fun _ => ?_⟩
      · rw [cost2 _ (by omega) (by omega), show (n : Int) - n0 = rest / w.e by omega]; omega
      · rw [cost2 _ (by omega) (by omega), show (n : Int) + 1 - n0 = rest / w.e + 1 by omega, Int.add_mul, Int.one_mul]; omega
    · rw [if_neg c2]
      obtain ⟨n, hn'⟩ := Int.eq_ofNat_of_zero_le mo0
      refine ⟨n, hn', by omega, ?_, fun z => by omega⟩
      rw [cost2 _ (by omega) (by omega), ← hn']; omega
/-- from laps back to steps -/
def Wk.steps (w : Wk) (p N : Int) : Int := -(-(N * w.s - p) / w.t)
theorem back_ok {w : Wk} (h : WF w) (ht : 0 < w.t) {p b g : Int} {N : Nat} (p0 : 0 ≤ p) (p1 : p < w.t) (t : hT w.laps p b N g) :
    ∃ S n : Nat, w.steps p N = (S : Int) ∧ 0 ≤ S * w.t - (N * w.s - p) ∧ S * w.t - (N * w.s - p) < w.t ∧ w.sfor (S * w.t - (N * w.s - p)) g = (n : Int) ∧ hT w p b (S + n) (g - w.cost (S * w.t - (N * w.s - p)) n) := by
  obtain ⟨S, hS, e1, e2, e3⟩ := lap_many h ht p0 p1 N
  obtain ⟨r0, r1⟩ := hP_rng (laps_wf h ht) p0 (show p < w.laps.s from p1) N
  have r1 : hP w.laps N p < w.t := r1
  have eb : S * w.t - (N * w.s - p) = hP w.laps N p := by omega
  have eS : w.steps p N = (S : Int) := by
    unfold Wk.steps
    have : -(N * w.s - p) = hP w.laps N p + w.t * (-(S : Int)) := by rw [Int.mul_neg, Int.mul_comm w.t]; omega
    rw [this, Int.add_mul_ediv_left _ _ (Int.ne_of_gt ht), Int.ediv_eq_zero_of_lt r0 r1]; omega
  obtain ⟨t1, t2, t3⟩ := t
  obtain ⟨n, n1, n2, n3, n4⟩ := sfor_ok h ht r0 r1 t2
  obtain ⟨i1, i2⟩ := lap_in h ht r0 n n2
  obtain ⟨L, hL, _, _, f2, _⟩ := lap_one h ht r0 r1
  refine ⟨S, n, eS, by omega, by omega, by rw [eb]; exact n1, ?_⟩
  rw [eb]
  refine ⟨?_, by omega, ?_⟩
  · rw [hC_add, e1, e2, i2]; omega
  · rw [hP_add, e1]
    by_cases c : (n : Int) < w.most (hP w.laps N p)
    · obtain ⟨_, j2⟩ := lap_in h ht r0 (n + 1) (by omega)
      have : hC w (n + 1) (hP w.laps N p) = hC w n (hP w.laps N p) + hc w (hP w n (hP w.laps N p)) := rfl
      have := n4 c
      rw [show ((n : Int) + 1) = ((n + 1 : Nat) : Int) by omega] at this
      omega
    · have eL : L = n + 1 := by omega
      rw [eL] at f2
      have : hC w (n + 1) (hP w.laps N p) = hC w n (hP w.laps N p) + hc w (hP w n (hP w.laps N p)) := rfl
      omega
/-- the walk that began where the lap of its first place does -/
theorem ahead_ok {w : Wk} (h : WF w) (ht : 0 < w.t) {p : Int} (p0 : 0 ≤ p) (p1 : p < w.s) : ∃ A : Nat, p / w.t = (A : Int) ∧ hP w A (p % w.t) = p ∧ hC w A (p % w.t) = w.cost (p % w.t) A := by
  have e := Int.mul_ediv_add_emod p w.t
  have r0 := Int.emod_nonneg p (Int.ne_of_gt ht)
  obtain ⟨A, hA⟩ := Int.eq_ofNat_of_zero_le (Int.ediv_nonneg p0 (Int.le_of_lt ht))
  rw [hA, Int.mul_comm] at e
  obtain ⟨e1, e2⟩ := lap_in h ht r0 A ((most_iff ht).mpr (by omega))
  exact ⟨A, hA, by rw [e1]; omega, e2⟩
theorem ahead_hT {w : Wk} (h : WF w) {q p b g : Int} {A X : Nat} (q0 : 0 ≤ q) (q1 : q < w.s) (b0 : 0 ≤ b) (e1 : hP w A q = p) (t : hT w q (b + hC w A q) X g) : A ≤ X ∧ hT w p b (X - A) g := by
  have ax := hT_ge h q0 q1 t (show hC w A q ≤ b + hC w A q by omega)
  obtain ⟨t1, t2, t3⟩ := t
  obtain ⟨k, rfl⟩ : ∃ k, X = A + k := ⟨X - A, by omega⟩
  rw [hC_add, e1] at t1
  rw [hP_add, e1] at t3
  rw [Nat.add_sub_cancel_left]
  exact ⟨ax, by omega, t2, t3⟩
/-- where no place changes -/
theorem base_hT {w : Wk} (h : WF w) (ht : w.t = 0) {p b : Int} {N : Nat} (p0 : 0 ≤ p) (p1 : p < w.s) (b0 : 0 ≤ b) (hN : b < hC w N p) : 0 < w.e + (if p < w.m then w.k else 0) ∧ ∃ n : Nat, b / (w.e + (if p < w.m then w.k else 0)) = (n : Int) ∧ hT w p b n (b % (w.e + (if p < w.m then w.k else 0))) := by
  have eP : ∀ n, hP w n p = p := fun n => by
    induction n with
    | zero => rfl
    | succ n ih =>
      show hn w.s w.t (hP w n p) = p
      rw [ih]
      unfold hn
      rw [if_neg (by omega), ht]; omega
  have ec : hc w p = w.e + (if p < w.m then w.k else 0) := by
    unfold hc
    rw [if_neg (show ¬ w.s ≤ p + w.t by omega)]; omega
  have eC : ∀ n : Nat, hC w n p = n * hc w p := fun n => by
    induction n with
    | zero => show (0 : Int) = (0 : Nat) * hc w p; rw [show ((0 : Nat) : Int) = 0 from rfl, Int.zero_mul]
    | succ n ih =>
      show hC w n p + hc w (hP w n p) = _
      rw [ih, eP, Int.natCast_succ, Int.add_mul, Int.one_mul]
  have c0 : 0 < hc w p := by
    refine Int.not_le.mp fun z => ?_
    rw [eC] at hN
    have := Int.mul_nonneg (show (0 : Int) ≤ N by omega) (show 0 ≤ -hc w p by omega)
    rw [Int.mul_neg] at this; omega
  rw [← ec]
  refine ⟨c0, ?_⟩
  have e := Int.mul_ediv_add_emod b (hc w p)
  obtain ⟨n, hn'⟩ := Int.eq_ofNat_of_zero_le (Int.ediv_nonneg b0 (Int.le_of_lt c0))
  rw [hn', Int.mul_comm] at e
  refine ⟨n, hn', ?_, Int.emod_nonneg _ (Int.ne_of_gt c0), ?_⟩
  · rw [eC]; exact e
  · rw [eP]; exact Int.emod_lt_of_pos _ c0
/-! how great all that is -/
structure WB (w : Wk) : Prop where
  s1 : w.s ≤ 2 ^ 129
  ex : ∃ E : Int, 0 ≤ E ∧ (-E ≤ w.e ∧ w.e ≤ E) ∧ (-E ≤ w.k ∧ w.k ≤ E) ∧ (-E ≤ w.r ∧ w.r ≤ E) ∧ E * w.s ^ 5 ≤ 2 ^ 700
theorem wb_top {s t m : Int} (s0 : 0 < s) (s1 : s ≤ 2 ^ 129) : WB ⟨s, t, m, 0, 1, 0⟩ := by
  refine ⟨s1, 1, by decide, ⟨by show -1 ≤ (0 : Int); decide, by show (0 : Int) ≤ 1; decide⟩, ⟨by show -1 ≤ (1 : Int); decide, Int.le_refl _⟩, ⟨by show -1 ≤ (0 : Int); decide, by show (0 : Int) ≤ 1; decide⟩, ?_⟩
  show 1 * s ^ 5 ≤ 2 ^ 700
  rw [Int.one_mul]
  have h : s.toNat ^ 5 ≤ (2 ^ 129) ^ 5 := Nat.pow_le_pow_left (by omega) 5
  have h2 : (2 ^ 129) ^ 5 ≤ 2 ^ 700 := by decide +kernel
  have e : s = (s.toNat : Int) := by omega
  rw [e]
  have h3 := Nat.le_trans h h2
  exact_mod_cast h3
theorem wb_mul {E a b : Int} (h : -E ≤ a ∧ a ≤ E) (b0 : 0 ≤ b) : -(b * E) ≤ b * a ∧ b * a ≤ b * E := by
  have h1 := Int.mul_le_mul_of_nonneg_left h.1 b0
  have h2 := Int.mul_le_mul_of_nonneg_left h.2 b0
  rw [Int.mul_neg] at h1
  exact ⟨h1, h2⟩
/-- the walk whose laps are taken: this one, or mirrored -/
def Wk.low (w : Wk) : Wk := if w.s < 2 * w.t then w.mir else w
theorem low_facts {w : Wk} (h : WF w) (ht : 0 < w.t) : WF w.low ∧ 0 < w.low.t ∧ 2 * w.low.t ≤ w.s ∧ w.low.s = w.s := by
  have ts := h.ts
  unfold Wk.low
  split
  · exact ⟨mir_wf h ht, by show 0 < w.s - w.t; omega, by show 2 * (w.s - w.t) ≤ w.s; omega, rfl⟩
  · exact ⟨h, ht, by omega, rfl⟩
theorem low_ex {w : Wk} (b : WB w) : ∃ E : Int, 0 ≤ E ∧ (-(3 * E) ≤ w.low.e ∧ w.low.e ≤ 3 * E) ∧ (-(3 * E) ≤ w.low.k ∧ w.low.k ≤ 3 * E) ∧ (-(3 * E) ≤ w.low.r ∧ w.low.r ≤ 3 * E) ∧ E * w.s ^ 5 ≤ 2 ^ 700 := by
  obtain ⟨_, E, e0, ee, ek, er, c⟩ := b
  refine ⟨E, e0, ?_, ?_, ?_, c⟩
  all_goals
    unfold Wk.low
    split
  · show -(3 * E) ≤ w.e + w.k + w.r ∧ w.e + w.k + w.r ≤ 3 * E; omega
  · omega
  · show -(3 * E) ≤ -w.k ∧ -w.k ≤ 3 * E; omega
  · omega
  · show -(3 * E) ≤ -w.r ∧ -w.r ≤ 3 * E; omega
  · omega
theorem wb_laps {w : Wk} (h : WF w) (ht : 0 < w.t) (b : WB w) : WB w.low.laps := by
  obtain ⟨hl, tl, t2, es⟩ := low_facts h ht
  obtain ⟨E, e0, ee, ek, er, c⟩ := low_ex b
  obtain ⟨l1, l2⟩ := lng_b (w := w.low) tl
  have s0 := h.s0
  have m0 := hl.m0
  have ms := hl.ms
  rw [es] at l1 l2 ms
  have q0 : 0 ≤ w.low.m / w.low.t := Int.ediv_nonneg m0 (Int.le_of_lt tl)
  have q1 : w.low.m / w.low.t * w.low.t ≤ w.low.m := Int.ediv_mul_le _ (Int.ne_of_gt tl)
  have n0 : 0 ≤ w.low.lng := by
    refine Int.not_lt.mp fun z => ?_
    have := Int.mul_le_mul_of_nonneg_right (show w.low.lng ≤ 0 by omega) (Int.le_of_lt tl)
    rw [Int.zero_mul] at this; omega
  have f1 := wb_mul ee n0
  have f2 := wb_mul ek q0
  have s1 := b.s1
  obtain ⟨M, hM⟩ : ∃ M, M = w.low.lng + w.low.m / w.low.t + 1 := ⟨_, rfl⟩
  have sum : M * (3 * E) = w.low.lng * (3 * E) + w.low.m / w.low.t * (3 * E) + 3 * E := by rw [hM, Int.add_mul, Int.add_mul, Int.one_mul]
  have M1 : 1 ≤ M := by omega
  have M3 : 3 * E ≤ M * (3 * E) := by
    have := Int.mul_le_mul_of_nonneg_right M1 (show 0 ≤ 3 * E by omega)
    rw [Int.one_mul] at this; exact this
  refine ⟨by show w.low.t ≤ 2 ^ 129; omega, M * (3 * E), Int.mul_nonneg (by omega) (by omega), ?_, ?_, ?_, ?_⟩
  · show -(M * (3 * E)) ≤ w.low.lng * w.low.e + w.low.m / w.low.t * w.low.k + w.low.r ∧ w.low.lng * w.low.e + w.low.m / w.low.t * w.low.k + w.low.r ≤ M * (3 * E)
    omega
  · show -(M * (3 * E)) ≤ w.low.k ∧ w.low.k ≤ M * (3 * E)
    omega
  · show -(M * (3 * E)) ≤ -w.low.e ∧ -w.low.e ≤ M * (3 * E)
    omega
  · show M * (3 * E) * w.low.t ^ 5 ≤ 2 ^ 700
    refine Int.le_trans ?_ c
    have Mt : M * w.low.t ≤ 3 * w.s := by
      rw [hM, Int.add_mul, Int.add_mul, Int.one_mul]; omega
    have t4 : 9 * w.low.t ^ 4 ≤ w.s ^ 4 := by
      have h1 : (2 * w.low.t.toNat) ^ 4 ≤ w.s.toNat ^ 4 := Nat.pow_le_pow_left (by omega) 4
      have e1 : w.low.t = (w.low.t.toNat : Int) := by omega
      have e2 : w.s = (w.s.toNat : Int) := by omega
      rw [Nat.mul_pow] at h1
      have h2 : 9 * w.low.t.toNat ^ 4 ≤ w.s.toNat ^ 4 := by
        have : 2 ^ 4 * w.low.t.toNat ^ 4 = 16 * w.low.t.toNat ^ 4 := rfl
        omega
      rw [e1, e2]
      exact_mod_cast h2
    have p4 : 0 ≤ w.low.t ^ 4 := Int.pow_nonneg (Int.le_of_lt tl)
    have g1 : M * (3 * E) * w.low.t ^ 5 = (M * w.low.t) * (3 * E * w.low.t ^ 4) := by
      rw [show (5 : Nat) = 4 + 1 from rfl, Int.pow_succ]
      rw [Int.mul_assoc M, Int.mul_assoc M, ← Int.mul_assoc (3 * E), Int.mul_comm (3 * E * w.low.t ^ 4) w.low.t]
    have g2 := Int.mul_le_mul_of_nonneg_right Mt (show 0 ≤ 3 * E * w.low.t ^ 4 from Int.mul_nonneg (by omega) p4)
    have g3 : 3 * w.s * (3 * E * w.low.t ^ 4) = (E * w.s) * (9 * w.low.t ^ 4) := by
      rw [show 3 * w.s * (3 * E * w.low.t ^ 4) = 3 * (w.s * (3 * E * w.low.t ^ 4)) by rw [Int.mul_assoc], show 3 * E * w.low.t ^ 4 = 3 * (E * w.low.t ^ 4) by rw [Int.mul_assoc], Int.mul_left_comm w.s 3, Int.mul_left_comm (E * w.s) 9, Int.mul_comm E w.s, Int.mul_assoc w.s E]
      omega
    have g4 := Int.mul_le_mul_of_nonneg_left t4 (show 0 ≤ E * w.s from Int.mul_nonneg e0 (Int.le_of_lt s0))
    have g5 : E * w.s * w.s ^ 4 = E * w.s ^ 5 := by
      have p5 : w.s ^ 5 = w.s ^ 4 * w.s := Int.pow_succ _ _
      rw [p5, Int.mul_comm (w.s ^ 4) w.s, Int.mul_assoc]
    omega
theorem wb_E {w : Wk} (h : WF w) (b : WB w) : ∃ E : Int, 0 ≤ E ∧ (-E ≤ w.e ∧ w.e ≤ E) ∧ (-E ≤ w.k ∧ w.k ≤ E) ∧ (-E ≤ w.r ∧ w.r ≤ E) ∧ E ≤ 2 ^ 700 ∧ E * w.s ≤ 2 ^ 700 := by
  obtain ⟨_, E, e0, ee, ek, er, c⟩ := b
  have s0 := h.s0
  have one : ∀ n : Nat, 1 ≤ w.s ^ n := fun n => by
    have := Int.pow_pos (m := n) s0; omega
  refine ⟨E, e0, ee, ek, er, ?_, ?_⟩
  · have := Int.mul_le_mul_of_nonneg_left (one 5) e0
    rw [Int.mul_one] at this; omega
  · have g5 : E * w.s * w.s ^ 4 = E * w.s ^ 5 := by
      have p5 : w.s ^ 5 = w.s ^ 4 * w.s := Int.pow_succ _ _
      rw [p5, Int.mul_comm (w.s ^ 4) w.s, Int.mul_assoc]
    have := Int.mul_le_mul_of_nonneg_left (one 4) (show 0 ≤ E * w.s from Int.mul_nonneg e0 (Int.le_of_lt s0))
    rw [Int.mul_one] at this; omega
end Fw
namespace Fw
open PySem L2
def rDivC : List V → Hp → VK → Prop := fun xs H Q => ∃ i j, xs = [.int i, .int j] ∧ CDivP i j ∧ ∀ p, H p = none → Q (.ref p) (upd H p (.tup [.int (i / j), .int (i % j)]))
def rmax2C : List V → Hp → VK → Prop := fun xs H Q => ∃ i j : Int, xs = [.int i, .int j] ∧ Q (.int (if j > i then j else i)) H
def rmin2C : List V → Hp → VK → Prop := fun xs H Q => ∃ i j : Int, xs = [.int i, .int j] ∧ Q (.int (if j < i then j else i)) H
section
variable {σ : L2.St} {H : Hp} {Q : VK} {D : Ends} {te : TE}
theorem w_aug {i : Nat} {x : V} {g : Int → Int → Int} (hx : σ[i]? = some (some x)) (q : te σ H fun y H1 => ∃ u v : Int, x = .int u ∧ y = .int v ∧ D.nx (σ.set i (some (.int (g u v)))) H1) : tAug i te (ipI g) D σ H := ⟨x, hx, q⟩
theorem w_augR {i : Nat} {x : V} {r : R2} (hx : σ[i]? = some (some x)) (q : te σ H fun y H1 => r x y H1 fun z H2 => D.nx (σ.set i (some z)) H2) : tAug i te r D σ H := ⟨x, hx, q⟩
theorem w_ipi {u v : Int} {P : Int → Int → Prop} (q : P u v) : ∃ a b : Int, V.int u = .int a ∧ V.int v = .int b ∧ P a b := ⟨u, v, rfl, rfl, q⟩
theorem w_max2 {i j : Int} (q : Q (.int (max i j)) H) : rmax2C [.int i, .int j] H Q := ⟨i, j, rfl, by
  have e : (if j > i then j else i) = max i j := by split <;> omega
  rw [e]; exact q⟩
theorem w_min2 {i j : Int} (q : Q (.int (min i j)) H) : rmin2C [.int i, .int j] H Q := ⟨i, j, rfl, by
  have e : (if j < i then j else i) = min i j := by split <;> omega
  rw [e]; exact q⟩
theorem w_lenT {K : PySem.W.Frag} {p : Addr} {ys : List V} (h : H p = some (.tup ys)) (q : Q (.int (ys.length : Int)) H) : rLenS K [.ref p] H Q := ⟨p, ys, rfl, .inr (SqT.of h), q⟩
theorem w_stJ {c : Prop} [Decidable c] {ta tb : TS} (R : L2.St → Hp → Prop) (h1 : c → ∀ D' : Ends, (∀ σ' H', R σ' H' → D'.nx σ' H') → ta D' σ H) (h2 : ¬ c → ∀ D' : Ends, (∀ σ' H', R σ' H' → D'.nx σ' H') → tb D' σ H) (q : ∀ σ' H', R σ' H' → D.nx σ' H') : if decide c = true then ta D σ H else tb D σ H := w_dec (fun z => h1 z D q) (fun z => h2 z D q)
theorem w_bm {K : PySem.W.Frag} {T : String} {r : V → List V → Hp → VK → Prop} {to : TE} {t : TA} (q : to σ H fun x H1 => tyV K T x H1 ∧ t σ H1 fun xs H2 => r x xs H2 Q) : tBM K T r to t σ H Q := q
theorem w_ifJ {tt : TT} {ta tb : TE} (R : V → Hp → Prop) (h1 : ∀ Q : VK, (∀ x H', R x H' → Q x H') → tIf tt ta tb σ H Q) (q : ∀ x H', R x H' → Q x H') : tIf tt ta tb σ H Q := h1 Q q
/-- whatever an expression's value is, as far as R tells of it -/
theorem w_any (R : V → Hp → Prop) (h1 : ∀ Q : VK, (∀ x H', R x H' → Q x H') → te σ H Q) (q : ∀ x H', R x H' → Q x H') : te σ H Q := h1 Q q
theorem w_tst {tt : TT} {Q : Bool → Hp → Prop} (R : Bool → Hp → Prop) (h : ∀ Q : Bool → Hp → Prop, (∀ b H', R b H' → Q b H') → tt σ H Q) (q : ∀ b H', R b H' → Q b H') : tt σ H Q := h Q q
/-- c and tt, as a test that comes out false -/
theorem w_decJ {c : Prop} [Decidable c] {tt : TT} {Q : Bool → Hp → Prop} (R : Hp → Prop) (h1 : c → ∀ Q : Bool → Hp → Prop, (∀ H', R H' → Q false H') → tt σ H Q) (h2 : ¬ c → R H) (q : ∀ H', R H' → Q false H') : if decide c = true then tt σ H Q else Q false H := w_dec (fun z => h1 z Q q) (fun z => q H (h2 z))
end
section
variable {K : PySem.W.Frag} {σ : L2.St} {H : Hp} {Q : VK} {D : Ends} {te : TE}
theorem w_itT {tl : TE} {R : It → Hp → Prop} (q : tl σ H fun x H1 => ∃ a, x = .ref a ∧ (∃ xs, SqT K H1 a xs) ∧ R (Itt K a) H1) : iTup K tl σ H R := q
theorem w_itE {ta : TA} {R : It → Hp → Prop} (q : ta σ H fun vs H1 => ∃ a xs, vs = [.ref a] ∧ SqL K H1 a xs ∧ R (Ite K a) H1) : iEnum K ta σ H R := q
theorem w_minL {a : Addr} {ns : List Int} (h : SqL K H a (ns.map V.int)) (n : 0 < ns.length) (q : ∀ m, m ∈ ns → (∀ y, y ∈ ns → m ≤ y) → Q (.int m) H) : rMin K [.ref a] H Q := ⟨a, ns, rfl, h, n, q⟩
theorem w_truL {p : Addr} {xs : List V} {P : Bool → Prop} (h : SqL K H p xs) (q : P (!xs.isEmpty)) : ∃ k, TruV K (.ref p) H k ∧ P k := ⟨_, .inl ⟨xs, h, rfl⟩, q⟩
theorem w_notinL {p : Addr} {x : V} {xs : List V} (h : SqL K H p xs) (f1 : flatV x = true) (f2 : xs.all flatV = true) (q : Q (.bl (!inV x xs)) H) : rIn K true x (.ref p) H Q := ⟨p, xs, rfl, .inl h, f1, f2, q⟩
theorem w_inL {p : Addr} {x : V} {xs : List V} (h : SqL K H p xs) (f1 : flatV x = true) (f2 : xs.all flatV = true) (q : Q (.bl (inV x xs)) H) : rIn K false x (.ref p) H Q := ⟨p, xs, rfl, .inl h, f1, f2, q⟩
theorem w_eqDg {x y : V} {d e : PyData} (hx : Dp K H x d) (hy : Dp K H y e) (sd : SeqAt.shaped d = true) (se : SeqAt.shaped e = true) (q : Q (.bl (PyData.eqv d e)) H) : rEqD K x y H Q := ⟨d, e, hx, hy, sd, se, q⟩
theorem w_neDg {x y : V} {d e : PyData} (hx : Dp K H x d) (hy : Dp K H y e) (sd : SeqAt.shaped d = true) (se : SeqAt.shaped e = true) (q : Q (.bl (!PyData.eqv d e)) H) : rNeD K x y H Q := ⟨d, e, hx, hy, sd, se, q⟩
end
theorem flat_ints (is : List Int) : (is.map V.int).all flatV = true := by
  induction is with
  | nil => rfl
  | cons x r ih => rw [List.map_cons, List.all_cons, ih]; rfl
theorem inV_ints (i : Int) (is : List Int) : inV (.int i) (is.map V.int) = decide (i ∈ is) := by
  unfold inV
  induction is with
  | nil => simp
  | cons x r ih =>
    rw [List.map_cons, List.any_cons, ih]
    by_cases h : i = x
    · subst h
      rw [show eqV (V.int i) (V.int i) = true by simp [eqV]]; simp
    · have e1 : eqV (V.int x) (V.int i) = false := by simp [eqV]; exact fun z => h z.symm
      have e2 : eqV (V.int i) (V.int x) = false := by simp [eqV]; exact h
      first | rw [e1] | rw [e2]
      simp [h]
theorem w_rng2 {σ : L2.St} {H : Hp} {ta : TA} {R : It → Hp → Prop} (q : ta σ H fun vs H1 => ∃ i j : Int, vs = [.int i, .int j] ∧ (-(2 ^ 62) ≤ i ∧ i < 2 ^ 62 ∧ -(2 ^ 62) ≤ j ∧ j < 2 ^ 62) ∧ R (Itr i (j - i).toNat) H1) : iRng2 ta σ H R := q
theorem w_neOg {H : Hp} {Q : VK} {x y : V} (hx : x = .non ∨ ∃ i, x = .int i) (hy : y = .non ∨ ∃ i, y = .int i) (q : Q (.bl (!decide (x = y))) H) : rNe x y H Q := ⟨by
  rcases hx with rfl | ⟨i, rfl⟩ <;> rcases hy with rfl | ⟨j, rfl⟩ <;> rfl, q⟩
theorem w_itZ {K : PySem.W.Frag} {σ : L2.St} {H : Hp} {ta : TA} {R : It → Hp → Prop} (q : ta σ H fun vs H1 => ∃ a b xs ys, vs = [.ref a, .ref b] ∧ SqL K H1 a xs ∧ SqL K H1 b ys ∧ R (Itz K a b) H1) : iZip K ta σ H R := q
theorem w_srt {K : PySem.W.Frag} {H : Hp} {Q : VK} {a : Addr} {ns : List Int} (h : SqL K H a (ns.map V.int)) (q : ∀ (ns' : List Int) (p : Addr), ns'.Perm ns → ns'.Pairwise (· ≤ ·) → H p = none → Q (.ref p) (upd H p (.lst (ns'.map V.int)))) : rSortedI K [.ref a] H Q := ⟨a, ns, rfl, h, q⟩
theorem w_isNr {H : Hp} {Q : VK} {r : Addr} (q : Q (.bl false) H) : rIsNn (.ref r) .non H Q := ⟨rfl, q⟩
theorem w_boolJ {b : Bool} {tt : TT} {σ : L2.St} {H : Hp} {Q : Bool → Hp → Prop} (R : Hp → Prop) (h1 : b = true → ∀ Q : Bool → Hp → Prop, (∀ H', R H' → Q false H') → tt σ H Q) (h2 : b = false → R H) (q : ∀ H', R H' → Q false H') : if b = true then tt σ H Q else Q false H := by
  cases b with
  | true => exact iteT (h1 rfl Q q)
  | false => exact iteF (q H (h2 rfl))
theorem w_par3 {i j l : Nat} {t : TA} {D : Ends} {σ : L2.St} {H : Hp} (q : t σ H fun vs H1 => ∃ u v w, vs = [u, v, w] ∧ D.nx (((σ.set i (some u)).set j (some v)).set l (some w)) H1) : tPar3 i j l t D σ H := q
theorem w_itR {K : PySem.W.Frag} {σ : L2.St} {H : Hp} {ta : TA} {R : It → Hp → Prop} (q : ta σ H fun vs H1 => ∃ a xs, vs = [.ref a] ∧ SqL K H1 a xs ∧ R (Itv K a xs.length) H1) : iRev K ta σ H R := q
theorem w_methA {C : Addr} {m : Str} {sp : Sp} {E : XK} {ta : TE} {t : TA} {σ : L2.St} {H : Hp} {Q : VK} (q : ta σ H fun x H1 => ∃ a dx fs, x = .ref a ∧ H1 a = some (.ins C dx fs) ∧ fs.lookup m = none ∧ t σ H1 fun vs H2 => sp (x :: (vs ++ [])) H2 Q E) : tMeth C m sp [] E ta t σ H Q := q
end Fw
namespace Fw
open PySem PySem.Spec PyProof.Rows L2 LamX
/-! ### the lambda's names -/
structure LamP2 (sc scope : Scope) (pa pb : Str) : Prop where
  kind : scope.kind = .function
  co : scope.isCoroutine = false
  gen : scope.isGenerator = false
  own : ∀ y ∈ scope.names, y.2 ≠ .cell ∧ (y.2 = .local → y.1 = pa ∨ y.1 = pb)
  par : scope.names.lookup pa = some .local
  parb : scope.names.lookup pb = some .local
  ne : pa ≠ pb
  free : ∀ y ∈ scope.names, y.2 = .free → sc.names.lookup y.1 = some .cell ∨ sc.names.lookup y.1 = some .free
def lamPB2 (sc scope : Scope) (pa pb : Str) : Bool :=
  decide (scope.kind = .function) && !scope.isCoroutine && !scope.isGenerator && decide (scope.names.lookup pa = some .local) && decide (scope.names.lookup pb = some .local) && decide (pa ≠ pb) && scope.names.all fun y => !decide (y.2 = .cell) && (!decide (y.2 = .local) || (decide (y.1 = pa) || decide (y.1 = pb))) && (!decide (y.2 = .free) || decide (sc.names.lookup y.1 = some .cell) || decide (sc.names.lookup y.1 = some .free))
theorem lamP2_by {sc scope : Scope} {pa pb : Str} (h : lamPB2 sc scope pa pb = true) : LamP2 sc scope pa pb := by
  unfold lamPB2 at h
  simp only [Bool.and_eq_true, Bool.or_eq_true, Bool.not_eq_true', decide_eq_true_eq, decide_eq_false_iff_not, List.all_eq_true] at h
  obtain ⟨⟨⟨⟨⟨⟨h1, h2⟩, h3⟩, h5⟩, h6⟩, h7⟩, h4⟩ := h
  refine ⟨h1, h2, h3, fun y hy => ⟨(h4 y hy).1.1, fun e => ?_⟩, h5, h6, h7, fun y hy e => ?_⟩
  · rcases (h4 y hy).1.2 with z | z
    · exact absurd e z
    · exact z
  · rcases (h4 y hy).2 with (z | z) | z
    · exact absurd e z
    · exact .inl z
    · exact .inr z
theorem LamP2.has {X : Cx} {scope : Scope} {pa pb : Str} (L : LamP2 X.env.scope scope pa pb) (ok : X.Ok) : ∀ y ∈ scope.names, y.2 = .free → ∃ c, X.env.cells.lookup y.1 = some c := fun y hy e => by
  rcases L.free y hy e with k | k
  · exact ok.has _ (.inl k)
  · exact ok.has _ (.inr k)
/-- the context of the lambda's body, entered at s from the frames outer: X's names and the parameter -/
def lamCxP2 (X : Cx) (A : Around) (outer : List Env) (s : Shared) (H : Hp) (scope : Scope) (f c' : Addr) (pa pb : Str) : Cx where
  prog := X.prog
  w := X.w
  K := X.K
  mg := X.mg
  base := X.base
  A := A.deeper (lamEnv X scope s.heap.objs.size f c')
  N := X.N ++ [pa, pb]
  s_0 := s
  H_0 := H
  env := lamEnv X scope s.heap.objs.size f c'
  outer := outer
  stack := lamEnv X scope s.heap.objs.size f c' :: outer
  ex := []
  fn := fun _ => false
  calm := true
  pn := []
  xe := fun e s' => wpAny (model X.prog X.w) (A.deeper (lamEnv X scope s.heap.objs.size f c')) (leaving (lamEnv X scope s.heap.objs.size f c') e) (fun _ s'' => L2.CX0 outer H s E0 e s'') (fun e' s'' => L2.CX0 outer H s E0 e' s'') s'
section
variable {X : Cx} {pins : List (Addr × Obj)} {σ : L2.St} {H HZ : Hp} {s s1 : Shared}
theorem lam_startP2 {A : Around} {outer : List Env} {scope : Scope} {f c' : Addr} {h₁ : Heap} {tk : Nat} {pa pb : Str} {v v2 : V} {u u2 : Value} (I : Inv X pins σ H s) (L : LamP2 X.env.scope scope pa pb) (hpar : pa ∉ X.N) (hpbr : pb ∉ X.N) (rv : RelV v u) (rv2 : RelV v2 u2)
    (e0 : Env0 X.prog X.w X.K X.mg X.base A outer s1 HZ) (hd : A.handled = none)
    (un : Un (frs X.stack) [] H HZ s.heap s1.heap) (hns : h₁.Ns s1.heap.objs.size fun y => ([(pa, u), (pb, u2)] : List (Str × Value)).reverse.lookup y) (kp : ∀ b o, s1.heap.get? b = some o → h₁.get? b = some o) :
    Inv (lamCxP2 X A outer s1 HZ scope f c' pa pb) [] (σ ++ [some v, some v2]) HZ { s1 with heap := h₁, toks := tk } := by
  have hfree := L.has I.ok
  have cm : ∀ {y c}, (cloFrom X.env.cells scope.names []).lookup y = some c → X.env.cells.lookup y = some c := fun {y c} e => by
    rcases cloFrom_mem (PySem.mem_of_lookup e) with hm | ⟨h1, h2⟩
    · cases hm
    · obtain ⟨c1, hc⟩ := hfree _ h1 rfl
      have hc : X.env.cells.lookup y = some c1 := hc
      have e2 : c = c1 := by
        rw [h2, hc] <;> rfl
      rw [e2]
      exact hc
  have look : ∀ {y}, scope.names.lookup y = some .free → ∃ c, (cloFrom X.env.cells scope.names []).lookup y = some c := fun {y} hl => by
    have hy : (y, NameKind.free) ∈ scope.names := PySem.mem_of_lookup hl
    exact mem_lookup (cloFrom_has (cells := X.env.cells) (acc := []) hy)
  have cellK : ∀ {c : Addr} {v : Option Value}, H c = none → s.heap.IsCell c v → h₁.IsCell c v := fun {c v} n ⟨o, ho, hd⟩ => by
    obtain ⟨sl, q⟩ := un.any ho n (by simp)
    exact ⟨_, kp _ _ q, hd⟩
  have noA : ∀ b : Addr, b ∉ (lamCxP2 X A outer s1 HZ scope f c' pa pb).ex := fun b z => absurd (show b ∈ ([] : List Addr) from z) (by simp)
  refine ⟨⟨e0.mod, L.kind, rfl, rfl, Nat.le_refl _, fun y z c e1 e2 => I.ok.inj y z c (cm e1) (cm e2), fun y hy => ?_, fun y c z _ => ?_, fun _ => hd, Around.frames_deeper e0.frames, .inr ⟨rfl, rfl⟩, fun b z => absurd z (noA b), e0.bs, e0.bsz, fun b _ _ => noA b,
      fun b z => absurd z (noA b), e0.funs, e0.frf⟩,
    rfl, e0.bare, Un.kept kp, ⟨_, hns, fun i y v' e1 e2 e3 => ?_⟩, fun y c e => ?_, e0.hok.fresh (Nat.le_refl _), fun y c e => ?_, fun q hq => absurd (show q ∈ ([] : List (Addr × Obj)) ++ [] from hq) (by simp), e0.hok.kept kp, ?_⟩
  · have hy : scope.names.lookup y = some .cell ∨ scope.names.lookup y = some .free := hy
    rcases hy with hy | hy
    · exact absurd rfl (L.own _ (PySem.mem_of_lookup hy)).1
    · exact look hy
  · have z : false = true := z
    cases z
  · have e3 : Vis scope y := e3
    have e1 : (X.N ++ [pa, pb])[i]? = some y := e1
    by_cases hi : i < X.N.length
    · rw [List.getElem?_append_left hi] at e1
      rw [List.getElem?_append_left (by rw [I.len]; exact hi)] at e2
      have ny : ¬ (y = pa ∨ y = pb) := fun z => z.elim (fun z => hpar (by rw [← z]; exact List.mem_of_getElem? e1)) (fun z => hpbr (by rw [← z]; exact List.mem_of_getElem? e1))
      rcases e3 with k | k | k
      · exact absurd ((L.own _ (PySem.mem_of_lookup k)).2 rfl) ny
      · exact absurd rfl (L.own _ (PySem.mem_of_lookup k)).1
      · obtain ⟨m, hn, hl⟩ := I.loc
        have hvis : Vis X.env.scope y := (L.free _ (PySem.mem_of_lookup k) rfl).elim (fun k => .inr (.inl k)) (fun k => .inr (.inr k))
        obtain ⟨w', r, q⟩ := hl i y v' e1 e2 hvis
        obtain ⟨c2, h2⟩ := look k
        refine ⟨w', r, .inr ⟨.inr k, c2, h2, ?_⟩⟩
        have c1 := cm h2
        rcases q with ⟨k', _⟩ | ⟨_, c3, e', z⟩
        · have k' : X.env.scope.names.lookup y = some .local := k'
          rcases L.free _ (PySem.mem_of_lookup k) rfl with k2 | k2 <;> rw [show X.env.scope.names.lookup y = _ from k2] at k' <;> cases k'
        · rw [c1] at e'
          cases e'
          exact cellK (I.freeC y _ c1) z
    · have hi' : i = X.N.length ∨ i = X.N.length + 1 := by
        have := (List.getElem?_eq_some_iff.mp e1).1
        rw [List.length_append] at this
        have : i < X.N.length + 2 := this
        omega
      rcases hi' with rfl | rfl
      · rw [List.getElem?_append_right (Nat.le_refl _), Nat.sub_self] at e1
        rw [← I.len, List.getElem?_append_right (Nat.le_refl _), Nat.sub_self] at e2
        cases e1
        cases e2
        refine ⟨u, rv, .inl ⟨L.par, ?_⟩⟩
        show ([(pb, u2), (pa, u)] : List (Str × Value)).lookup pa = some u
        rw [List.lookup, show (pa == pb) = false from by simpa using L.ne]
        simp [List.lookup]
      · rw [List.getElem?_append_right (by omega), show X.N.length + 1 - X.N.length = 1 by omega] at e1
        rw [← I.len, List.getElem?_append_right (by omega), show σ.length + 1 - σ.length = 1 by omega] at e2
        cases e1
        cases e2
        refine ⟨u2, rv2, .inl ⟨L.parb, ?_⟩⟩
        show ([(pb, u2), (pa, u)] : List (Str × Value)).lookup pb = some u2
        simp [List.lookup]
  · obtain ⟨w', z⟩ := I.cell y c (cm e)
    exact ⟨w', cellK (I.freeC y c (cm e)) z⟩
  · obtain ⟨v, o, ho, hd⟩ := I.cell y c (cm e)
    exact un.free c o ho (I.freeC y c (cm e)) (by simp)
  · show (σ ++ [some v, some v2]).length = (X.N ++ [pa, pb]).length
    rw [List.length_append, List.length_append, I.len]
    rfl
/-- the promise of a lambda: its code object, its body's reading -/
def spLam2 (c' : Addr) (q : Str) (σ : L2.St) (tb : TE) : Sp := fun vs H Q _ => ∃ v v2, vs = [v, v2] ∧ H c' = some (CodeO c' q) ∧ tb (σ ++ [some v, some v2]) H Q
theorem lam_cal2 {C : CP} {scope : Scope} {pa pb : Str} {params : Arguments} {body : Expr} {pm ctv : Value} {f c' : Addr} {kb : Nat} {tb : TE} (I : Inv X pins σ H s) (L : LamP2 X.env.scope scope pa pb) (hpar : pa ∉ X.N) (hpbr : pb ∉ X.N) (hex : X.ex = [])
    (hf : s.heap.get? f = some (PySem.W.kla_obj "<lambda>" (X.env.qual ++ "<lambda>") params body scope (cloFrom X.env.cells scope.names []) pm c' ctv)) (hfn : H f = none) (hfr : f ∉ frs X.stack)
    (hbind : ∀ (q : Str) (cl : List (Str × Addr)) (pm cv ctv u u2 : Value), bindArgs (PySem.W.kla_fn "<lambda>" q params body scope cl pm cv ctv) ⟨[u, u2], []⟩ = pure [(pa, u), (pb, u2)])
    (hC : ∀ k f sp, C k f sp → Kn X k f sp)
    (hbody : ∀ (A : Around) (outer : List Env) (s1 : Shared) (H1 : Hp), (∀ k f sp, C k f sp → Kn (lamCxP2 X A outer s1 H1 scope f c' pa pb).nox k f sp) → Room kb (A.deeper (lamEnv X scope s1.heap.objs.size f c')) → PE (lamCxP2 X A outer s1 H1 scope f c' pa pb).nox body tb) :
    Cal X.prog X.w X.K X.mg X.base X.stack H s (kb + 1) f (spLam2 c' (X.env.qual ++ "<lambda>") σ tb) := by
  have at1 : ∀ (outer : List Env) (s1 : Shared) (H1 : Hp), Later X.stack H s outer H1 s1 → s1.heap.get? f = some (PySem.W.kla_obj "<lambda>" (X.env.qual ++ "<lambda>") params body scope (cloFrom X.env.cells scope.names []) pm c' ctv) :=
    fun outer s1 H1 l => l.un.keep f _ hf hfn hfr (by simp)
  refine ⟨fun outer s1 H1 l => ⟨_, _, _, _, at1 outer s1 H1 l⟩, fun A outer s1 HZ us vs Q hr e0 l r h => ?_⟩
  obtain ⟨v, v2, rfl, hc, ht⟩ := h
  obtain ⟨u, u2, rfl, rv, rv2⟩ : ∃ u u2, us = [u, u2] ∧ RelV v u ∧ RelV v2 u2 := by
    cases r with
    | cons r1 r2 => cases r2 with | cons r3 r4 => cases r4 with | nil => exact ⟨_, _, rfl, r1, r3⟩
  have of1 := at1 outer s1 HZ l
  obtain ⟨⟨oc, ws, t, hoc, hdc, hvc⟩, _, _⟩ := e0.hok c' _ hc
  have lim : s1.heap.NoLimit := e0.mod.nolimit.keeps fun b o e => (e0.bs b o e).1
  refine PySem.W.kla_callFunE hr.depth of1 rfl L.co L.gen rfl ⟨c', oc, ws, t, rfl, hoc, hdc, hvc⟩ ?_
  rw [hbind]
  refine wpAny_pure (wpAny_newFunctionEnv (fun y hy => (L.own y hy).1) (fun y hy => ?_) (fun h₁ hns hsb => ⟨lim.fresh _ hsb, ?_⟩) L.kind)
  · have e : y = (pa, u) ∨ y = (pb, u2) := by simpa using hy
    rcases e with e | e <;> rw [e]
    · exact L.par
    · exact L.parb
  show codeAny _ _ (.expr body (lamEnv X scope s1.heap.objs.size f c')) _ _
  have kp : ∀ b o, s1.heap.get? b = some o → h₁.get? b = some o := fun b o e => hsb.extBut b o (Nat.ne_of_lt (Heap.lt_size e)) (Heap.get?_push_of_some _ e)
  have J : Inv (lamCxP2 X A outer s1 HZ scope f c' pa pb) [] (σ ++ [some v, some v2]) HZ { s1 with heap := h₁, toks := s1.toks + ([(pa, u), (pb, u2)] : List (Str × Value)).length } := lam_startP2 I L hpar hpbr rv rv2 e0 hr.hd l.un hns kp
  have hb := hbody A outer s1 HZ (fun k f sp c => (hC k f sp c).later ((later_of I hex).trans l)) (hr.deeper _)
  refine PySem.W.kla_codeExpr (wpAny_mono (hb.nox.run [] _ _ HZ Q J ht) (fun v s' hq => ?_) fun e s' hq => hq)
  obtain ⟨w', H', J', rv', q⟩ := hq
  exact ⟨w', H', J'.os, J'.bare, J'.base, J'.hok, rv', q⟩
def tLamC2 (T : List (Addr × Str)) (q : Str) (spc : CP → Sp) (C : CP) (kb : Nat) (tb : TE) (t : TA) : TE := fun σ H Q => Tabs T H ∧ ∀ (f c' : Addr) (H1 : Hp), Sm T H H1 → H1 c' = some (CodeO c' q) → t σ H1 fun vs H2 =>
  ∀ C' : CP, (∀ k g sp, C k g sp → C' k g sp) → (∀ k sp, kb + 1 ≤ k → (∀ ws H3 Q3, sp ws H3 Q3 E0 → spLam2 c' q σ tb ws H3 Q3 E0) → C' k f sp) → spc C' (.ref f :: vs) H2 Q E0
/-- x(lambda par: body, e, ..) -/
theorem pe_lamC2 {T : List (Addr × Str)} {x pa pb : Str} {g c P : Addr} {kg kb : Nat} {fd : FuncData} {ps : List Str} {spc : CP → Sp} {C : CP} {params : Arguments} {body : Expr} {scope : Scope} {tb : TE} {t : TA} {es : List Expr} {p lpos pos : Pos}
    (G : FnOkC X.prog X.w X.K X.mg X.base kg g fd ps spc) (hr : Room kg X.A) (hg : Gl X x) (hm : X.mg x = some (.ref g)) (hk : PySem.W.keepIn X.K (.ref g) = true) (hb : L2.Binds X.K fd ps [])
    (TB : TabB X.base X.mg c P) (hcode : X.env.code = .ref c) (hmT : (P, X.env.qual ++ "<lambda>") ∈ T) (hu : ∀ p ∈ T, p.1 = P → p.2 = X.env.qual ++ "<lambda>")
    (L : LamP2 X.env.scope scope pa pb) (hpar : pa ∉ X.N) (hpbr : pb ∉ X.N) (hex : X.ex = []) (hdef : defaultsOf params X.env = ([], []))
    (hbind : ∀ (q : Str) (cl : List (Str × Addr)) (pm cv ctv u u2 : Value), bindArgs (PySem.W.kla_fn "<lambda>" q params body scope cl pm cv ctv) ⟨[u, u2], []⟩ = pure [(pa, u), (pb, u2)])
    (hC : ∀ k f sp, C k f sp → Kn X k f sp)
    (hbody : ∀ (A : Around) (outer : List Env) (s1 : Shared) (H1 : Hp) (f c' : Addr), (∀ k f sp, C k f sp → Kn (lamCxP2 X A outer s1 H1 scope f c' pa pb).nox k f sp) → Room kb (A.deeper (lamEnv X scope s1.heap.objs.size f c')) → PE (lamCxP2 X A outer s1 H1 scope f c' pa pb).nox body tb)
    (ha : PA X es t) (hdb : (x == ("__debug__" : Str)) = false := by decide) (hpl : (backTo pos (starEach es X.env)).any (·.1) = false := by rfl) :
    PE X (.Call (.Name x p) (.Lambda params body scope lpos :: es) [] pos) (tLamC2 T (X.env.qual ++ "<lambda>") spc C kb tb t) := by
  refine ⟨fun pins s σ H Q I h => ?_⟩
  obtain ⟨hT, h⟩ := h
  refine wpAny_Call_Name_kw (ld_glob I hg hm ?_ hdb)
  refine PySem.W.callWith_K (h₀ := X.base) I.ok.mod.kin hk ?_ (by rfl) hpl
  show wpAny _ _ (spliced ((false, eval (.Lambda params body scope lpos) X.env) :: backTo pos (starEach es X.env))) _ _ s
  refine Calls.spliced_cons (lam_make2 (E := X.xe) I TB hcode hmT hu hT hdef (L.has I.ok) fun f c' pm' ctv H1 s' I1 eN T1 hf hfn hfr hco => ?_)
  have nfL : f ≠ X.env.locals := fun z => by
    obtain ⟨m, ⟨o, es, ep, ho, hd, _⟩, _⟩ := I1.loc
    rw [← z, hf] at ho
    cases ho
    cases hd
  have nfs : f ∉ X.fs := fun z => hfr (by
    rcases I1.ok.stk with e | ⟨e, hfm⟩
    · rw [e]; exact z
    · rw [e]
      unfold frs
      rw [List.filterMap_cons, hfm]
      exact List.mem_cons_of_mem _ z)
  have I2 : Inv X ((f, PySem.W.kla_obj "<lambda>" (X.env.qual ++ "<lambda>") params body scope (cloFrom X.env.cells scope.names []) pm' c' ctv) :: pins) σ H1 s' := I1.pins_of fun q hq => by
    rcases List.mem_cons.mp hq with e | hq
    · rw [e]
      exact ⟨hf, hfn, nfL, nfs, fun v z => by cases z⟩
    · exact I1.pin q (List.mem_append_right _ hq)
  refine thn (ha.run pos _ s' σ H1 _ I2 (h f c' H1 ⟨eN, fun _ => T1⟩ hco)) fun us s2 ⟨vs, H2, I3, r, q⟩ => ⟨I3.kIn, ?_⟩
  obtain ⟨pf, pn, _, _, _⟩ := I3.pin _ (List.mem_append_right _ (List.mem_cons_self (a := (f, PySem.W.kla_obj "<lambda>" (X.env.qual ++ "<lambda>") params body scope (cloFrom X.env.cells scope.names []) pm' c' ctv))))
  have I4 : Inv X pins σ H2 s2 := I3.pins_of fun q hq => I3.pin q (List.mem_append_right _ (List.mem_cons_of_mem _ hq))
  have cal := lam_cal2 (C := C) (f := f) (c' := c') (kb := kb) (tb := tb) I4 L hpar hpbr hex pf pn hfr hbind hC fun A outer s1 H1 hk hr => hbody A outer s1 H1 f c' hk hr
  have hsp := q (Cal X.prog X.w X.K X.mg X.base X.stack H2 s2) (fun k g sp z => (hC k g sp z).later (later_of I4 hex)) (fun k sp hk z => cal.imp hk z)
  have r2 : Vals (.ref f :: vs) (.ref f :: us) := .cons rfl r
  have hl : (Value.ref f :: us).length = ps.length := by rw [← r2.length]; exact G.len _ _ _ _ _ hsp
  have hbi := hb s2 (.ref f :: us) I4.kIn (by rw [List.append_nil]; exact hl)
  rw [List.append_nil] at hbi
  refine wpAny_call (codeAny_mono (G.run X.A X.stack s2 H2 ⟨.ref f :: us, []⟩ (.ref f :: us) (.ref f :: vs) Q hr I4.env0 hbi r2 hsp) fun r s' hq => ?_)
  cases r with
  | error e => exact (show False from hq).elim
  | ok fl =>
    cases fl with
    | ret u => exact I4.after hq
    | next => exact False.elim hq
    | brk => exact False.elim hq
    | cont => exact False.elim hq
end
theorem lit_nil {P : Params} : PySem.W.KeysLit P [] := trivial
theorem lit_cons {P : Params} {e : DictEntry} {r : List DictEntry} {x : Str} {t : Tok} (h1 : e.key = .str x t) (h2 : e.hash = PyData.keyHash P x) (h : PySem.W.KeysLit P r) : PySem.W.KeysLit P (e :: r) := ⟨⟨x, t, h1, h2⟩, h⟩
end Fw
namespace Fw
open PySem PySem.Spec PyProof.Rows L2 LamX
/-- x(e, ..), x a def that may be handed what can be called; what is known here is handed on -/
def tCallC (spc : CP → Sp) (C : CP) (t : TA) : TE := fun σ H Q => t σ H fun vs H1 => ∀ C' : CP, (∀ k f sp sp', C k f sp → (∀ vs H Q, sp' vs H Q E0 → sp vs H Q E0) → C' k f sp') → spc C' vs H1 Q E0
theorem pe_callC {X : Cx} {x : Str} {g : Addr} {kg : Nat} {fd : FuncData} {ps : List Str} {spc : CP → Sp} {C : CP} {t : TA} {e : Expr} {es : List Expr} {p pos : Pos}
    (hC : ∀ k f sp, C k f sp → Kn X k f sp) (G : FnOkC X.prog X.w X.K X.mg X.base kg g fd ps spc) (hr : Room kg X.A) (hg : Gl X x) (hm : X.mg x = some (.ref g)) (hk : PySem.W.keepIn X.K (.ref g) = true) (hb : L2.Binds X.K fd ps []) (hex : X.ex = []) (ha : PA X (e :: es) t)
    (hdb : (x == ("__debug__" : Str)) = false := by decide) (he : starEach (e :: es) X.env = (false, eval e X.env) :: starEach es X.env := by rfl) (hpl : (backTo pos (starEach es X.env)).any (·.1) = false := by rfl) :
    PE X (.Call (.Name x p) (e :: es) [] pos) (tCallC spc C t) := by
  refine ⟨fun pins s σ H Q I h => ?_⟩
  refine wpAny_Call_Name_kw (ld_glob I hg hm ?_ hdb)
  refine PySem.W.callWith_K (h₀ := X.base) I.ok.mod.kin hk (thn (ha.run pos pins s σ H _ I h) fun us s1 ⟨vs, H1, I1, r, q⟩ => ⟨I1.kIn, ?_⟩) he hpl
  have hsp := q (Cal X.prog X.w X.K X.mg X.base X.stack H1 s1) fun k f sp sp' z hi => ((hC k f sp z).later (later_of I1 hex)).imp (Nat.le_refl k) hi
  have hl : us.length = ps.length := by rw [← r.length]; exact G.len _ _ _ _ _ hsp
  have hbi := hb s1 us I1.kIn (by rw [List.append_nil]; exact hl)
  rw [List.append_nil] at hbi
  refine wpAny_call (codeAny_mono (G.run X.A X.stack s1 H1 ⟨us, []⟩ us vs Q hr I1.env0 hbi r hsp) fun r s' hq => ?_)
  cases r with
  | error e => exact (show False from hq).elim
  | ok fl =>
    cases fl with
    | ret u => exact I1.after hq
    | next => exact False.elim hq
    | brk => exact False.elim hq
    | cont => exact False.elim hq
theorem w_callC {spc : CP → Sp} {C : CP} {t : TA} {σ : L2.St} {H : Hp} {Q : VK} (q : t σ H fun vs H1 => ∀ C' : CP, (∀ k f sp sp', C k f sp → (∀ vs H Q, sp' vs H Q E0 → sp vs H Q E0) → C' k f sp') → spc C' vs H1 Q E0) : tCallC spc C t σ H Q := q
end Fw
namespace Fw
open L2
open PySem PySem.Spec PyProof.Rows PySem.W
theorem minOf_le (p : Int × Int) (ps : List (Int × Int)) : ∀ y ∈ p :: ps, SrtO.lexB y (minOf p ps) = false := by
  unfold minOf
  induction ps generalizing p with
  | nil =>
    intro y hy
    rw [List.mem_singleton.mp hy]
    refine SrtO.lexB_no.mpr ?_
    show ¬(p.1 < p.1 ∨ (p.1 = p.1 ∧ p.2 < p.2))
    omega
  | cons q ps ih =>
    intro y hy
    rw [List.foldl_cons]
    have i := ih (if DatumOrd.lt q p = true then q else p)
    have l1 : SrtO.lexB p (if DatumOrd.lt q p = true then q else p) = false ∧ SrtO.lexB q (if DatumOrd.lt q p = true then q else p) = false := by
      by_cases h : DatumOrd.lt q p = true
      · have h' : SrtO.lexB q p = true := h
        have := SrtO.lexB_iff.mp h'
        rw [if_pos h]
        refine ⟨SrtO.lexB_no.mpr ?_, SrtO.lexB_no.mpr ?_⟩ <;> omega
      · have h' : SrtO.lexB q p = false := by
          cases e : SrtO.lexB q p
          · rfl
          · exact absurd e h
        rw [if_neg h]
        exact ⟨SrtO.lexB_no.mpr (by omega), h'⟩
    generalize (if DatumOrd.lt q p = true then q else p) = c at i l1 ⊢
    have i0 := SrtO.lexB_no.mp (i c List.mem_cons_self)
    rcases List.mem_cons.mp hy with e | hy
    · rw [e]
      have a := SrtO.lexB_no.mp l1.1
      have b := SrtO.lexB_no.mp (i c List.mem_cons_self)
      refine SrtO.lexB_no.mpr ?_
      omega
    rcases List.mem_cons.mp hy with e | hy
    · rw [e]
      have a := SrtO.lexB_no.mp l1.2
      refine SrtO.lexB_no.mpr ?_
      omega
    · exact i y (List.mem_cons_of_mem _ hy)
section
variable {X : Cx}
/-- min(xs), xs a list of pairs of ints (k says which): one of them, none before it -/
def rMinP (K : PySem.W.Frag) : List V → Hp → VK → Prop := fun vs H Q => ∃ (a : Addr) (xs : List V) (k : V → Int × Int), vs = [V.ref a] ∧ SqL K H a xs ∧ xs ≠ [] ∧ (∀ x ∈ xs, ∃ t, x = V.ref t ∧ H t = some (.tup [.int (k x).1, .int (k x).2])) ∧
  ∀ m, m ∈ xs → (∀ y ∈ xs, ltP k y m = false) → Q m H
abbrev dP (p : Int × Int) : PyData := .tuple [.int p.1, .int p.2]
theorem dp_pairs {K : PySem.W.Frag} {H : Hp} (k : V → Int × Int) : ∀ (xs : List V), (∀ x ∈ xs, ∃ t, x = V.ref t ∧ H t = some (.tup [.int (k x).1, .int (k x).2])) → DpAll K H xs (xs.map fun x => dP (k x))
  | [], _ => .nil
  | x :: xs, h => by
    obtain ⟨t, e, ht⟩ := h x List.mem_cons_self
    have go : ∀ z : Int × Int, H t = some (.tup [.int z.1, .int z.2]) → Dp K H (V.ref t) (dP z) := fun z ht => ?_
    · refine .cons ?_ (dp_pairs k xs fun y hy => h y (List.mem_cons_of_mem _ hy))
      have := go _ ht
      rw [← e] at this
      exact this
    exact .tup (SqT.of ht) (.cons (.int _) (.cons (.int _) .nil))
theorem dp_one {K : PySem.W.Frag} {H : Hp} (k : V → Int × Int) {xs : List V} (h : ∀ x ∈ xs, ∃ t, x = V.ref t ∧ H t = some (.tup [.int (k x).1, .int (k x).2])) {x : V} (m : x ∈ xs) : Dp K H x (dP (k x)) := by
  obtain ⟨t, e, ht⟩ := h x m
  have go : ∀ z : Int × Int, H t = some (.tup [.int z.1, .int z.2]) → Dp K H (V.ref t) (dP z) := fun z ht => .tup (SqT.of ht) (.cons (.int _) (.cons (.int _) .nil))
  have := go _ ht
  rw [← e] at this
  exact this
theorem vals_at : ∀ {vs : List V} {us : List Value}, Vals vs us → ∀ {i : Nat} {u : Value}, us.toArray[i]? = some u → ∃ v, vs[i]? = some v ∧ RelV v u := fun {vs us} r {i u} h => by
  have h' : us[i]? = some u := by simpa using h
  clear h
  induction r generalizing i with
  | nil => simp at h'
  | cons r1 _ ih =>
    cases i with
    | zero =>
      obtain rfl := Option.some.inj h'
      exact ⟨_, rfl, r1⟩
    | succ i => exact ih h'
theorem cr_minP (hu : X.A.units + 64 < cLine) (hc : X.calm = true) : CallR X (.builtin "min") (rMinP X.K) := by
  intro pins s σ H vs us Q I r h
  obtain ⟨a, xs, k, rfl, hs, hne, hx, q⟩ := h
  obtain ⟨its, rv, hl, _⟩ := I.list hs
  rw [Vals.ref1 r]
  have hd := dp_pairs (K := X.K) k xs hx
  obtain ⟨as, hr⟩ := Dp.readsAll I _ _ its hd rv
  obtain ⟨x0, xt, rfl⟩ : ∃ x0 xt, xs = x0 :: xt := by
    cases xs with
    | nil => exact absurd rfl hne
    | cons x0 xt => exact ⟨x0, xt, rfl⟩
  have hh : HoldAll s.heap its.toArray.toList (k x0 :: xt.map k) := ⟨as, by
    rw [List.map_cons, List.map_map]
    exact hr⟩
  refine min_list_datum (α := Int × Int) (I.ok.hd hc) hl.isList hh (by show X.A.units + 1 + (max 0 0 + 1) < cLine; omega) fun i v h' tk hi hm hk => ?_
  obtain ⟨v', hv', rv'⟩ := vals_at rv hi
  have hmem : v' ∈ x0 :: xt := List.mem_of_getElem? hv'
  obtain ⟨as1, r1⟩ := hm
  obtain ⟨as2, r2⟩ := Dp.reads I _ v' v (dp_one k hx hmem) rv'
  have e := alike_unique _ _ v as1 as2 (DatumOrd.alike (α := Int × Int) _ (k v')) r1 (reads_keeps hk r2)
  have e' : minOf (k x0) (xt.map k) = k v' := by
    injection e with e
    injection e with a b
    injection b with b _
    injection a with a
    injection b with b
    exact Prod.ext a b
  refine ⟨v', H, I.kept hk, rv', q v' hmem fun y hy => ?_⟩
  have := minOf_le (k x0) (xt.map k) (k y) (by
    rw [← List.map_cons]
    exact List.mem_map.mpr ⟨y, hy, rfl⟩)
  rw [e'] at this
  exact this
end
theorem pe_fldK {X : Cx} {e : Expr} {f : Str} {pos : Pos} {ta : TE} {K : PySem.W.Frag} (hK : X.K = K) (he : PE X e ta) (hb : attributeBase e f X.env (eval e X.env) = eval e X.env) : PE X (.Attribute e f pos) (tFld K ta f) := by
  subst hK
  exact pe_fld he hb
def rLstOf (K : PySem.W.Frag) : List V → Hp → VK → Prop := fun xs H Q => ∃ p ys, xs = [.ref p] ∧ (SqL K H p ys ∨ SqT K H p ys) ∧ ∀ l, H l = none → Q (.ref l) (upd H l (.lst ys))
theorem w_lstOf {K : PySem.W.Frag} {H : Hp} {Q : VK} {a : Addr} {xs : List V} (h : H a = some (.lst xs)) (q : ∀ l, H l = none → Q (.ref l) (upd H l (.lst xs))) : rLstOf K [.ref a] H Q := ⟨a, xs, rfl, .inl (SqL.of h), q⟩
theorem w_revL {H : Hp} {Q : VK} {l : Addr} {xs : List V} (h : H l = some (.lst xs)) (q : Q .non (upd H l (.lst xs.reverse))) : rReverse (.ref l) [] H Q := ⟨l, xs, rfl, rfl, h, q⟩
/-- the pair of ints that a value points at -/
def kOf (H : Hp) : V → Int × Int
  | .ref q => match H q with
    | some (.tup [.int i, .int j]) => (i, j)
    | _ => (0, 0)
  | _ => (0, 0)
theorem kOf_at {H : Hp} {q : Addr} {i j : Int} (h : H q = some (.tup [.int i, .int j])) : kOf H (.ref q) = (i, j) := by
  unfold kOf
  simp only [h]
/-- rs holds just the pairs of which P speaks -/
def PairsOf (H : Hp) (rs : List V) (P : Nat → Int → Prop) : Prop :=
  (∀ r ∈ rs, ∃ (q : Addr) (n : Nat) (y : Int), r = .ref q ∧ H q = some (.tup [.int (n : Int), .int y]) ∧ P n y) ∧ (∀ n y, P n y → ∃ q : Addr, V.ref q ∈ rs ∧ H q = some (.tup [.int (n : Int), .int y]))
/-- v is the first pair of which P speaks, None if it speaks of none -/
def BestOf (H : Hp) (P : Nat → Int → Prop) (v : V) : Prop :=
  (v = .non ∧ ∀ n y, ¬ P n y) ∨ ∃ (q : Addr) (n : Nat) (y : Int), v = .ref q ∧ H q = some (.tup [.int (n : Int), .int y]) ∧ P n y ∧ ∀ m z, P m z → n < m ∨ (n = m ∧ y ≤ z)
theorem BestOf.keep {H H' : Hp} {P : Nat → Int → Prop} {v : V} (h : BestOf H P v) (s : ∀ q n y, H q = some (.tup [.int n, .int y]) → H' q = some (.tup [.int n, .int y])) : BestOf H' P v := by
  rcases h with h | ⟨q, n, y, e, hq, p, m⟩
  · exact .inl h
  · exact .inr ⟨q, n, y, e, s _ _ _ hq, p, m⟩
theorem PairsOf.k {H : Hp} {rs : List V} {P : Nat → Int → Prop} (h : PairsOf H rs P) : ∀ x ∈ rs, ∃ t, x = V.ref t ∧ H t = some (.tup [.int (kOf H x).1, .int (kOf H x).2]) := fun x hx => by
  obtain ⟨q, n, y, rfl, hq, _⟩ := h.1 x hx
  refine ⟨q, rfl, ?_⟩
  rw [kOf_at hq]
  exact hq
theorem PairsOf.best {H : Hp} {rs : List V} {P : Nat → Int → Prop} (h : PairsOf H rs P) {m : V} (hm : m ∈ rs) (hl : ∀ y ∈ rs, ltP (kOf H) y m = false) : BestOf H P m := by
  obtain ⟨q, n, y, rfl, hq, p⟩ := h.1 m hm
  refine .inr ⟨q, n, y, rfl, hq, p, fun i z hz => ?_⟩
  obtain ⟨q2, hr, hq2⟩ := h.2 i z hz
  have a := hl _ hr
  unfold ltP at a
  rw [kOf_at hq, kOf_at hq2] at a
  have := SrtO.lexB_no.mp a
  simp only at this
  omega
theorem PairsOf.none {H : Hp} {P : Nat → Int → Prop} (h : PairsOf H [] P) : BestOf H P .non := .inl ⟨rfl, fun n y p => by
  obtain ⟨q, hr, _⟩ := h.2 n y p
  cases hr⟩
theorem PairsOf.perm {H : Hp} {rs rs' : List V} {P : Nat → Int → Prop} (h : PairsOf H rs P) (p : rs'.Perm rs) : PairsOf H rs' P := ⟨fun r hr => h.1 r (p.mem_iff.mp hr), fun n y z => by
  obtain ⟨q, hr, hq⟩ := h.2 n y z
  exact ⟨q, p.mem_iff.mpr hr, hq⟩⟩
theorem PairsOf.keep {H H' : Hp} {rs : List V} {P : Nat → Int → Prop} (h : PairsOf H rs P) (s : ∀ q n y, H q = some (.tup [.int n, .int y]) → H' q = some (.tup [.int n, .int y])) : PairsOf H' rs P := ⟨fun r hr => by
  obtain ⟨q, n, y, e, hq, p⟩ := h.1 r hr
  exact ⟨q, n, y, e, s _ _ _ hq, p⟩, fun n y z => by
  obtain ⟨q, hr, hq⟩ := h.2 n y z
  exact ⟨q, hr, s _ _ _ hq⟩⟩
theorem PairsOf.head {H : Hp} {rs ys : List V} {P : Nat → Int → Prop} (h : PairsOf H rs P) (s : SrtO.Srtd (ltP (kOf H)) ys) (p : ys.Perm rs) : ∃ v, (ys ++ [V.non])[0]? = some v ∧ BestOf H P v := by
  have h' := h.perm p
  cases ys with
  | nil => exact ⟨.non, rfl, h'.none⟩
  | cons y ys =>
    refine ⟨y, rfl, h'.best List.mem_cons_self fun z hz => ?_⟩
    rcases List.mem_cons.mp hz with e | hz
    · rw [e]
      exact (ltP_swo _).refl _
    · exact SrtO.srtd_head s z hz
theorem w_minP {K : PySem.W.Frag} {H : Hp} {Q : VK} {a : Addr} {rs : List V} {P : Nat → Int → Prop} (h : H a = some (.lst rs)) (p : PairsOf H rs P) (ne : rs ≠ []) (q : ∀ v, BestOf H P v → Q v H) : rMinP K [.ref a] H Q :=
  ⟨a, rs, kOf H, rfl, SqL.of h, ne, p.k, fun m hm hl => q m (p.best hm hl)⟩
theorem w_sortPO {K : PySem.W.Frag} {H : Hp} {Q : VK} {a : Addr} {rs : List V} {P : Nat → Int → Prop} (h : H a = some (.lst rs)) (p : PairsOf H rs P) (q : ∀ ys l, ys.length = rs.length → (∃ v, (ys ++ [V.non])[0]? = some v ∧ BestOf H P v) → H l = none → Q (.ref l) (upd H l (.lst ys))) : rSortedPO K [.ref a] H Q :=
  ⟨a, rs, kOf H, rfl, SqL.of h, p.k, fun ys l s b hl => q ys l b.perm.length_eq (p.head s b.perm) hl⟩
theorem PairsOf.iff {H : Hp} {rs : List V} {P P' : Nat → Int → Prop} (h : PairsOf H rs P) (e : ∀ n y, P n y ↔ P' n y) : PairsOf H rs P' := ⟨fun r hr => by
  obtain ⟨q, n, y, e1, hq, p⟩ := h.1 r hr
  exact ⟨q, n, y, e1, hq, (e _ _).mp p⟩, fun n y z => h.2 n y ((e _ _).mpr z)⟩
theorem PairsOf.add {H : Hp} {rs : List V} {P : Nat → Int → Prop} {q : Addr} {n : Nat} {y : Int} (h : PairsOf H rs P) (hq : H q = some (.tup [.int (n : Int), .int y])) : PairsOf H (rs ++ [.ref q]) (fun m z => P m z ∨ (m = n ∧ z = y)) := ⟨fun r hr => by
  rcases List.mem_append.mp hr with hr | hr
  · obtain ⟨q, n, y, e1, hq, p⟩ := h.1 r hr
    exact ⟨q, n, y, e1, hq, .inl p⟩
  · exact ⟨q, n, y, List.mem_singleton.mp hr, hq, .inr ⟨rfl, rfl⟩⟩, fun m z hz => by
  rcases hz with hz | ⟨e1, e2⟩
  · obtain ⟨q, hr, hq⟩ := h.2 m z hz
    exact ⟨q, List.mem_append.mpr (.inl hr), hq⟩
  · subst e1 e2
    exact ⟨q, List.mem_append.mpr (.inr List.mem_cons_self), hq⟩⟩
theorem get_app {α : Type} {rs : List α} {r0 r : α} {i : Nat} (h : (rs ++ [r0])[i]? = some r) : rs[i]? = some r ∨ (i = rs.length ∧ r = r0) := by
  by_cases lt : i < rs.length
  · rw [List.getElem?_append_left lt] at h
    exact .inl h
  · have l := (List.getElem?_eq_some_iff.mp h).1
    rw [List.length_append, List.length_singleton] at l
    obtain rfl : i = rs.length := by omega
    rw [List.getElem?_append_right (Nat.le_refl _), Nat.sub_self] at h
    exact .inr ⟨rfl, (Option.some.inj h).symm⟩
end Fw
namespace Fw
open L2
open PySem PySem.Spec PyProof.Rows
section
variable {X : Cx} {pins : List (Addr × Obj)} {σ : L2.St} {H : Hp} {s : Shared} {a b : Addr} {kvs : List (List Key × V)} {k : List Key} {A : Around} {E : Value → Shared → Prop}
/-- a key with tuples for keys is taken out -/
theorem d_delT {Q : Unit → Shared → Prop} (hu : A.units + 1 < cLine) (I : Inv X pins σ H s) (e : H a = some (.dT kvs)) (eb : H b = some (.tup (k.map kV))) (l : (valV kvs k).isSome = true)
    (h : ∀ s', Inv X pins σ (upd H a (.dT (dropK kvs k))) s' → Q () s') : wpAny (model X.prog X.w) A (delItem (.ref a) (.ref b)) Q E s := by
  obtain ⟨z, hd, xs, rel, dd⟩ := dt_of I.hok e
  have hz : xs.length ≤ sizeLine := by rw [← Paired.length rel]; exact z
  have rv := rel.val k
  obtain ⟨p, hp⟩ : ∃ p, atKey xs k = some p := by
    cases ea : atKey xs k with
    | some p => exact ⟨p, rfl⟩
    | none =>
      rw [ea] at rv
      obtain ⟨v, ev⟩ := Option.isSome_iff_exists.mp l
      rw [ev] at rv
      exact (show False from rv).elim
  refine wpAny_delItem_heap (knd := tupleKind (mixKind X.prog X.w)) (k := k) (hsz := hz) (tupleKind_room_in1 hu) (key_of I.hok eb) hd dd hp fun h' dd' hs => h _ ?_
  obtain ⟨o, es, ep, hq, h2, h3, h4, _, h5⟩ := dd'
  exact d_write I (by rw [e]; exact True.intro) hs ⟨o, hq⟩ ⟨Nat.le_trans (dropK_le kvs k) z, hd, _, (DX.KT_drop k rel).keeps (fun c ys ec => (by rw [upd_ne (ne_of ec e (fun z => nomatch z))]; exact ec)), o, es, ep, hq, h2, h3, h4, h5⟩
end
section
variable {X : Cx} {o i : Expr} {pos tpos : Pos} {td ty : TE}
/-- del d[t] -/
def sDelT (td ty : TE) : TS := fun D σ H => td σ H fun x H1 => ty σ H1 fun y H2 => ∃ a b kvs k, x = .ref a ∧ H2 a = some (.dT kvs) ∧ y = .ref b ∧ H2 b = some (.tup (k.map kV)) ∧ (valV kvs k).isSome = true ∧ D.nx σ (upd H2 a (.dT (dropK kvs k)))
theorem ps_delT (hu : X.A.units + 1 < cLine) (ho : PE X o td) (hi : PE X i ty) : PS X (.Delete [.Subscript o i tpos] pos) (sDelT td ty) := by
  refine ⟨fun pins s σ H D I h => ?_⟩
  refine wpAny_Delete (wpAny_deleteEach_cons (wpAny_delete_Subscript (thn (ho.run pins s σ H _ I h) fun u s1 ⟨x, H1, I1, rx, q1⟩ => thn (hi.run pins s1 σ H1 _ I1 q1) fun iv s2 ⟨y, H2, I2, ry, a, b, kvs, k, ex, e, ey, eb, l, q2⟩ => ?_)))
  subst ex ey
  cases (show u = Value.ref a from rx)
  cases (show iv = Value.ref b from ry)
  exact d_delT hu I2 e eb l fun s3 I3 => wpAny_deleteEach_nil ⟨σ, _, I3, q2⟩
end
section
variable {X : Cx} {pins : List (Addr × Obj)} {σ : L2.St} {H : Hp} {s : Shared} {a b : Addr} {kvs : List (List Key × V)} {k : List Key} {E : Value → Shared → Prop}
/-- an entry laid by a comprehension, the key a tuple -/
theorem d_layT {v : V} {r : Value} {Q : Unit → Shared → Prop} (hu : X.A.units < cLine) (I : Inv X pins σ H s) (e : H a = some (.dT kvs)) (eb : H b = some (.tup (k.map kV))) (rv : RelV v r) (l : kvs.length < sizeLine)
    (h : ∀ s', Inv X pins σ (upd H a (.dT (putK kvs k v))) s' → Q () s') : wpAny (model X.prog X.w) X.A (dictSet a (.ref b) r) Q E s := by
  obtain ⟨z, hd, xs, rel, dd⟩ := dt_of I.hok e
  have hz : xs.length ≤ sizeLine := by rw [← Paired.length rel]; exact z
  have hl : (putK kvs k v).length ≤ sizeLine := by have := length_putK kvs k v; omega
  refine wpAny_dictSet_heap (knd := tupleKind (mixKind X.prog X.w)) (k := k) (hsz := hz) ?_ (key_of I.hok eb) dd fun h' dd' hs => h _ ?_
  · exact hu
  obtain ⟨q, es, ep, hq, h2, h3, h4, _, h5⟩ := dd'
  refine d_write I (by rw [e]; exact True.intro) hs ⟨q, hq⟩ ⟨hl, hd, _, (rel.put k eb rv).keeps fun c ys ec => ?_, q, es, ep, hq, h2, h3, h4, h5⟩
  rw [upd_ne (ne_of ec e (fun z => nomatch z))]
  exact ec
end
/-! ### {k: v for target in iter}, keys of either sort: the entry is told by DPut -/
section
variable {X : Cx}
/-- an entry of a comprehension's dict, by DPut -/
theorem d_lay {pins : List (Addr × Obj)} {σ : L2.St} {H H' : Hp} {s : Shared} {E : Value → Shared → Prop} {a : Addr} {y v : V} {u r : Value} {Q : Unit → Shared → Prop} (hu : X.A.units < cLine) (I : Inv X pins σ H s) (g : DPut H a y v H') (ry : RelV y u) (rv : RelV v r)
    (h : ∀ s', Inv X pins σ H' s' → Q () s') : wpAny (model X.prog X.w) X.A (dictSet a u r) Q E s := by
  rcases g with ⟨kvs, k, e, ey, l, eH⟩ | ⟨kvs, k, b, e, ey, eb, l, eH⟩
  · subst ey eH
    exact d_dictSet I e l ry rv h
  · subst ey eH
    cases (show u = Value.ref b from ry)
    exact d_layT hu I e eb rv l h
/-- what a turn asks -/
abbrev DcTurn (g : TG) (tt : TT) (tk tv : TE) (vs : List Nat) (σ : L2.St) (D : Addr) (Nx : Hp → Prop) (x : V) (H : Hp) : Prop :=
  g x (wipe σ vs) H fun σ2 H2 => wipe σ2 vs = wipe σ vs ∧ tt σ2 H2 fun b H3 => if b = true then tk σ2 H3 fun y H4 => tv σ2 H4 fun z H5 => ∃ H6, DPut H5 D y z H6 ∧ Nx H6 else Nx H3
def tDcG (o : HO) (wi : TI) (g : TG) (tt : TT) (tk tv : TE) (vs : List Nat) : TE := fun σ H Q => wi σ H fun J H1 => ∀ D, H1 D = none → ∃ W : Nat → Nat → Hp → Prop, (∃ m, W 0 m (upd H1 D o)) ∧ ∀ i m H, W i m H →
  (J.stop i H ∧ Q (.ref D) H) ∨ (J.go i H ∧ ∃ Nx : Hp → Prop, (∀ H', Nx H' → ∃ m', m' < m ∧ W (i + 1) m' H') ∧ ∀ x H', J.yld i H x H' → DcTurn g tt tk tv vs σ D Nx x H')
/-- an object that a new, empty dict may stand for -/
def NewD (o : HO) : Prop := o = .dK [] ∨ o = .dT []
theorem NewD.ok {o : HO} (n : NewD o) {P : Program} {w : World} {H : Hp} (h : Heap) (hb : sysModules < h.objs.size) : ObjOk P w H (h.push { cls := .type "dict", data := .dict #[] }) h.objs.size o := by
  rcases n with rfl | rfl
  · exact dk_empty h hb
  · exact dt_empty h hb
theorem dcG_core {pins : List (Addr × Obj)} {s : Shared} {σ : L2.St} {H : Hp} {Q : VK} {o : HO} {kx vx tg iter : Expr} {ifs : List Expr} {scope : Scope} {own : List (Str × Nat)} {pos pos' : Pos} {wi : TI} {g : TG} {tt : TT} {tk tv : TE} {use : Option (Value → Sem Unit)} {Qf : Value → Shared → Prop}
    (no : NewD o) (hu : X.A.units < cLine) (hc : X.calm = true) (hN : X.N.Nodup) (I : Inv X pins σ H s) (hi : PI X tg iter wi) (ok : BlkOk X.N X.env.scope scope own)
    (hg : ∀ (s : Shared) (H : Hp) (C : Addr) (cl : List (Str × Addr)) (fp : List Addr), PG (X.blk s H scope (compEnvC scope cl C X.env) fp) tg g) (ht : ∀ (s : Shared) (H : Hp) (C : Addr) (cl : List (Str × Addr)) (fp : List Addr), PTs (X.blk s H scope (compEnvC scope cl C X.env) fp) ifs tt)
    (hk : ∀ (s : Shared) (H : Hp) (C : Addr) (cl : List (Str × Addr)) (fp : List Addr), PE (X.blk s H scope (compEnvC scope cl C X.env) fp) kx tk)
    (hv : ∀ (s : Shared) (H : Hp) (C : Addr) (cl : List (Str × Addr)) (fp : List Addr), PE (X.blk s H scope (compEnvC scope cl C X.env) fp) vx tv) (hs : ∀ x, foldedSetIterable iter X.env x = pure x)
    (h : tDcG o wi g tt tk tv (own.map (·.2)) σ H Q) (hR : ∀ D C s' m H', Inv X pins σ H' s' → Q (.ref D) H' → s'.heap.Ns C m → FpOk X pins H' C → compPost (model X.prog X.w) X.A X.xe use Qf (.ref D) C (.ok .next) s') :
    wpAny (model X.prog X.w) X.A (comprehension (.DictComp kx vx [⟨tg, iter, ifs, 0⟩] scope pos) scope X.env pos' newDict false (eval iter X.env) use) Qf X.xe s := by
  have free : ∀ y ∈ scope.names, y.2 = .free → ∃ c, X.env.cells.lookup y.1 = some c := fun y hy e => (ok.free y hy e).elim (fun z => I.ok.has _ (.inl z)) (fun z => I.ok.has _ (.inr z))
  refine wpAny_comprehension_free (use := use) rfl hs (closure_ok free) ok.kind (fun y hy e => by rw [ok.uniq y hy, e]) (thn (hi.run pins s σ H _ I h) fun xv s1 hx => thn hx fun itv s2 h2 => ?_)
  obtain ⟨it, fp, tn, J, H2, rfl, I2, T, st2, f2, q⟩ := h2
  refine wpAny_newObj_type (newEnv_comp ?_)
  obtain ⟨D, hD⟩ : ∃ D, D = s2.heap.objs.size := ⟨_, rfl⟩
  rw [← hD]
  obtain ⟨W, ⟨m0, w0⟩, turn⟩ := q D (I2.hok.fresh (Nat.le_of_eq hD.symm))
  -- behind the empty dict
  have low : ∀ b ∈ fp, b < s2.heap.objs.size := fun b hb => let ⟨_, e, _⟩ := T.obj _ _ st2 b hb; Heap.lt_size e
  obtain ⟨s3, hs3⟩ : ∃ s3 : Shared, s3 = { s2 with heap := s2.heap.push { cls := .type "dict", data := .dict #[] } } := ⟨_, rfl⟩
  obtain ⟨H3, hH3⟩ : ∃ H3, H3 = upd H2 D o := ⟨_, rfl⟩
  have I3 : Inv X pins σ H3 s3 := by
    rw [hs3, hH3]
    exact I2.laid (t' := s2.toks) (fun b o e => Heap.get?_push_of_some _ e) (Nat.le_of_eq hD.symm) (by rw [hD]; exact no.ok s2.heap I2.big)
  have kept3 : ∀ b o, s2.heap.get? b = some o → s3.heap.get? b = some o := fun b o e => by rw [hs3]; exact Heap.get?_push_of_some _ e
  have f3 : ∀ b ∈ fp, FpOk X pins H3 b ∧ b < s3.heap.objs.size := fun b hb => by
    have lt := low b hb
    refine ⟨⟨?_, (f2 b hb).2⟩, by rw [hs3]; show b < (s2.heap.push _).objs.size; rw [Heap.size_push]; exact Nat.lt_succ_of_lt lt⟩
    rw [hH3, upd_ne (by rw [hD]; exact Nat.ne_of_lt lt)]
    exact (f2 b hb).1
  have st3 : tn 0 s3.heap := T.keep _ _ _ st2 fun b _ o e => kept3 b o e
  rw [← hH3] at w0
  -- the block's own context
  have IB := block_start I3 ok hN f3
  rw [show ({ s2 with heap := s2.heap.push { cls := .type "dict", data := .dict #[] } } : Shared) = s3 from hs3.symm]
  generalize hcl : cellsFrom (s3.heap.objs.size + 1) scope.names (cloFrom X.env.cells scope.names []) = cl at IB
  have rg := hg s3 H3 s3.heap.objs.size cl fp
  have rt := ht s3 H3 s3.heap.objs.size cl fp
  have rk := hk s3 H3 s3.heap.objs.size cl fp
  have rv := hv s3 H3 s3.heap.objs.size cl fp
  show codeAny _ _ (.compStart (.DictComp kx vx [⟨tg, iter, ifs, 0⟩] scope pos) 0 (.ref it) (.ref D) (compEnvC scope cl s3.heap.objs.size X.env)) (compPost (model X.prog X.w) X.A X.xe use Qf (.ref D) s3.heap.objs.size) { s3 with heap := pushCells (s3.heap.push { cls := .type "dict", data := .dict #[] }) scope.names }
  generalize hce : compEnvC scope cl s3.heap.objs.size X.env = ce at IB rg rt rk rv ⊢
  have hloc : ce.locals = s3.heap.objs.size := by rw [← hce]; rfl
  obtain ⟨s4, hs4⟩ : ∃ s4 : Shared, s4 = { s3 with heap := pushCells (s3.heap.push { cls := .type "dict", data := .dict #[] }) scope.names } := ⟨_, rfl⟩
  rw [← hs4] at IB ⊢
  have st4 : tn 0 s4.heap := T.keep _ _ _ st3 fun b _ o e => by rw [hs4]; exact pushCells_keeps _ _ _ _ (Heap.get?_push_of_some _ e)
  -- what the turns keep
  let Bl := X.blk s3 H3 scope ce fp
  let Kept : Nat → Shared → Prop := fun n s' => ∃ i H', Inv Bl [] (wipe σ (own.map (·.2))) H' s' ∧ tn i s'.heap ∧ (∀ b ∈ fp, H' b = none) ∧ W i n H'
  have k0 : Kept m0 s4 := ⟨0, H3, IB, st4, fun b hb => (f3 b hb).1.1, w0⟩
  have src : ∀ {σ' : L2.St} {H' : Hp} {s' : Shared}, Inv Bl [] σ' H' s' → (∀ b ∈ fp, H' b = none) → ∀ b ∈ fp, FpOk Bl [] H' b := fun {σ' H' s'} I' hn b hb =>
    ⟨hn b hb, (I'.ok.exf b hb).1, I'.ok.exfs b hb, .inl hb, fun x c e => (I'.ok.exf b hb).2 x c e, fun p hp => by cases hp⟩
  have loop : codeAny (model X.prog X.w) X.A (.compLoop (.DictComp kx vx [⟨tg, iter, ifs, 0⟩] scope pos) 0 (.ref it) (.ref D) ce) (compPost (model X.prog X.w) X.A X.xe use Qf (.ref D) s3.heap.objs.size) s4 := by
    refine compLoop_anyD Kept ?_ m0 k0
    rintro n s5 ⟨i, H5, I5, st5, n5, w5⟩
    rcases turn i n H5 w5 with ⟨stop, qq⟩ | ⟨go, Nx, hNx, step⟩
    · -- the end: back in the def's context
      refine thnF (T.done Bl rfl rfl rfl hc i [] s5 _ H5 (fun _ _ => False) I5 (src I5 n5) st5 stop) fun r s6 ⟨hr, I6⟩ => ?_
      subst hr
      have I7 : Inv X pins σ H5 s6 := I3.call' (ch := fp) I6.os I6.base I6.hok I6.bare fun b hb =>
        let f := (f3 b hb).1
        ⟨f.2.2.2.1, f.2.1, f.2.2.2.2.1, f.2.2.2.2.2⟩
      have z : H5 ce.locals = none := I6.free
      obtain ⟨m, hn, _⟩ := I6.loc
      have hn : s6.heap.Ns ce.locals m := hn
      rw [hloc] at hn z
      exact hR D s3.heap.objs.size s6 m H5 I7 qq hn (I3.fpOk (Nat.le_refl _) z)
    · refine thnF (T.item Bl rfl rfl rfl hc i [] s5 _ H5 (fun _ _ => False) I5 (src I5 n5) st5 go) fun r s6 ⟨u, hr, h6⟩ => ?_
      subst hr
      refine thnF h6 fun _ s7 ⟨x, H7, I7, r7, y7, st7, n7⟩ => ?_
      refine thnF (rg.run _ s7 _ H7 x u _ (I7.pinned (src I7 n7) (T.obj _ _ st7)) r7 (step x H7 y7)) fun _ s8 ⟨σ8, H8, I8, w8, q8⟩ => ?_
      refine thnF (rt.run _ s8 σ8 H8 _ I8 q8) fun b s9 ⟨H9, I9, q9⟩ => ?_
      have len : (wipe σ (own.map (·.2))).length = σ8.length := by rw [← w8, wipe_length]
      have back : ∀ {s' : Shared} {H' : Hp}, Inv Bl ([] ++ pinsAt fp s7.heap) σ8 H' s' → Nx H' → ∃ m, m < n ∧ Kept m s' := fun {s' H'} I' nx => by
        have pin : ∀ b ∈ fp, ∀ o, s7.heap.get? b = some o → s'.heap.get? b = some o ∧ H' b = none := fun b hb o e =>
          let z := I'.pin (b, o) (List.mem_append_right _ (List.mem_append_right _ (mem_pinsAt hb e)))
          ⟨z.1, z.2.1⟩
        obtain ⟨m', lt, w'⟩ := hNx H' nx
        refine ⟨m', lt, i + 1, H', (I'.unpinned (pins := [])).weak len (fun j v e => ?_), T.keep _ _ _ st7 fun b hb o e => (pin b hb o e).1, fun b hb => ?_, w'⟩
        · rw [← w8] at e
          exact (wipe_some e).1
        · obtain ⟨_, e, _⟩ := T.obj _ _ st7 b hb
          exact (pin b hb _ e).2
      cases b with
      | false => exact back I9 q9
      | true =>
        refine thnF (rk.run _ s9 σ8 H9 _ I9 q9) fun z s10 ⟨yk, H10, I10, r10, q10⟩ => ?_
        refine thnF (rv.run _ s10 σ8 H10 _ I10 q10) fun z2 s11 ⟨yv, H11, I11, r11, H12, g, nx⟩ => ?_
        exact d_lay (X := Bl) hu I11 g r10 r11 fun s12 I12 => back I12 nx
  exact codeAny_compStart_dict loop (T.self X.A 0 _ _ _ st4 loop)
theorem pe_dcG {o : HO} {kx vx tg iter : Expr} {ifs : List Expr} {scope : Scope} {own : List (Str × Nat)} {pos : Pos} {wi : TI} {g : TG} {tt : TT} {tk tv : TE} (no : NewD o) (hu : X.A.units < cLine) (hc : X.calm = true) (hN : X.N.Nodup) (hi : PI X tg iter wi) (ok : BlkOk X.N X.env.scope scope own)
    (hg : ∀ (s : Shared) (H : Hp) (C : Addr) (cl : List (Str × Addr)) (fp : List Addr), PG (X.blk s H scope (compEnvC scope cl C X.env) fp) tg g) (ht : ∀ (s : Shared) (H : Hp) (C : Addr) (cl : List (Str × Addr)) (fp : List Addr), PTs (X.blk s H scope (compEnvC scope cl C X.env) fp) ifs tt)
    (hk : ∀ (s : Shared) (H : Hp) (C : Addr) (cl : List (Str × Addr)) (fp : List Addr), PE (X.blk s H scope (compEnvC scope cl C X.env) fp) kx tk)
    (hv : ∀ (s : Shared) (H : Hp) (C : Addr) (cl : List (Str × Addr)) (fp : List Addr), PE (X.blk s H scope (compEnvC scope cl C X.env) fp) vx tv) (hs : ∀ x, foldedSetIterable iter X.env x = pure x := by intro _; rfl) :
    PE X (.DictComp kx vx [⟨tg, iter, ifs, 0⟩] scope pos) (tDcG o wi g tt tk tv (own.map (·.2))) := by
  refine ⟨fun pins s σ H Q I h => ?_⟩
  rw [arm_eval_DictComp]
  refine dcG_core no hu hc hN I hi ok hg ht hk hv hs h fun D C s' m H' I' q hn f => ⟨m, hn, fun h'' sb => ?_⟩
  obtain ⟨f0, f1, _, f3, f4, f5⟩ := f
  exact ⟨.ref D, H', I'.turned (t' := s'.toks) (fun b o hb e => (sb.2 b hb).trans e) f0 f1 f3 f4 f5, rfl, q⟩
theorem sw_trueD {kx vx : Expr} {gs : List Comprehension} {scope : Scope} {pos py : Pos} {y : Str} {l : Nat} {env : Env} (hk : env.scope.kind = .function) (hy : env.scope.names.lookup y = some .local) (hl : (py.line == pos.line) = true)
    (ha : (scope.names.any fun (n, k) => n == y && (k == .local || k == .cell)) = false) : swapsWith (.DictComp kx vx gs scope pos) (some (.Name y py)) l env = pure true := by
  have ky : env.kindOf y = some .local := hy
  have hb : env.blockKind = .function := by unfold Env.blockKind; rw [hk]; rfl
  unfold swapsWith
  simp only [hb, ky, ha, Expr.pos, hl]
  rfl
/-- name = {..} on one line, the name a local -/
theorem ps_setDc {o : HO} {i : Nat} {y : Str} {py : Pos} {kx vx tg iter : Expr} {ifs : List Expr} {scope : Scope} {own : List (Str × Nat)} {pos spos : Pos} {wi : TI} {g : TG} {tt : TT} {tk tv : TE} (no : NewD o) (hu : X.A.units < cLine) (hc : X.calm = true) (hN : X.N.Nodup) (hy : X.N[i]? = some y) (hyl : X.env.scope.names.lookup y = some .local)
    (hsw : swapsWith (.DictComp kx vx [⟨tg, iter, ifs, 0⟩] scope pos) (some (.Name y py)) spos.line X.env = pure true) (hi : PI X tg iter wi) (ok : BlkOk X.N X.env.scope scope own)
    (hg : ∀ (s : Shared) (H : Hp) (C : Addr) (cl : List (Str × Addr)) (fp : List Addr), PG (X.blk s H scope (compEnvC scope cl C X.env) fp) tg g) (ht : ∀ (s : Shared) (H : Hp) (C : Addr) (cl : List (Str × Addr)) (fp : List Addr), PTs (X.blk s H scope (compEnvC scope cl C X.env) fp) ifs tt)
    (hk : ∀ (s : Shared) (H : Hp) (C : Addr) (cl : List (Str × Addr)) (fp : List Addr), PE (X.blk s H scope (compEnvC scope cl C X.env) fp) kx tk)
    (hv : ∀ (s : Shared) (H : Hp) (C : Addr) (cl : List (Str × Addr)) (fp : List Addr), PE (X.blk s H scope (compEnvC scope cl C X.env) fp) vx tv) (hs : ∀ x, foldedSetIterable iter X.env x = pure x := by intro _; rfl) :
    PS X (.Assign [.Name y py] (.DictComp kx vx [⟨tg, iter, ifs, 0⟩] scope pos) spos) (tAsg (tDcG o wi g tt tk tv (own.map (·.2))) (gName i)) := by
  refine ⟨fun pins s σ H D I h => ?_⟩
  rw [exec_Assign_Name_used _ _ _ _ hsw]
  have h : tDcG o wi g tt tk tv (own.map (·.2)) σ H (fun x H1 => gName i x σ H1 D.nx) := h
  refine wpAny_bind (wpAny_standAt (wpAny_bind ?_))
  show wpAny _ X.A (do let _ ← comprehension (.DictComp kx vx [⟨tg, iter, ifs, 0⟩] scope pos) scope X.env (firstIterPos [⟨tg, iter, ifs, 0⟩] pos) newDict false (eval iter X.env) (some (assign (.Name y py) X.env))) _ _ s
  refine wpAny_bind (thn (dcG_core (Qf := fun _ s' => SP X pins D .next s') no hu hc hN I hi ok hg ht hk hv hs h fun L C s' m H' I' q hn f => ?_) fun _ s' hq => wpAny_pure (wpAny_pure hq))
  obtain ⟨a0, a1, _, a3, a4, a5⟩ := f
  show wpAny _ _ (assign (.Name y py) X.env (.ref L)) _ _ _
  refine wpAny_assign_Name (store_ok2 (v := V.ref L) I' hN hy (.inl hyl) rfl (fun s2 I2 ⟨a, sb, ha⟩ => ?_) (.inr hyl))
  have off : C ≠ a := ha.elim (fun z => by rw [z]; exact a1) fun z e => a4 y a z e.symm
  exact ⟨m, hn.sameBut sb off, fun h3 sb3 => ⟨_, H', I2.turned (t' := s2.toks) (fun b o hb e => (sb3.2 b hb).trans e) a0 a1 a3 a4 a5, q⟩⟩
end
/-! ### sorted(d), the keys of d pairs of ints, any number of them -/
section
variable {X : Cx}
theorem row_of {acc : Array Value} {ks : List (List Key × Addr × Value)} (hl : acc.size = ks.length) (h : ∀ (j : Nat) (v : Value), acc[j]? = some v → ∃ x, ks[j]? = some x ∧ v = Value.ref x.2.1) : acc.toList = (ks.map fun x => x.2.1).map Value.ref := by
  refine List.ext_getElem? fun j => ?_
  rw [List.map_map, List.getElem?_map]
  rcases Nat.lt_or_ge j ks.length with lt | ge
  · have e : acc.toList[j]? = some (acc.toList[j]'(by rw [Array.length_toList]; omega)) := List.getElem?_eq_getElem _
    obtain ⟨x, hx, hv⟩ := h j _ (by rw [← Array.getElem?_toList]; exact e)
    rw [e, hx, hv]
    rfl
  · rw [List.getElem?_eq_none (by rw [Array.length_toList]; omega), List.getElem?_eq_none ge]
    rfl
def rSortDT : List V → Hp → VK → Prop := fun vs H Q => ∃ (a : Addr) (kvs : List (List Key × V)), vs = [V.ref a] ∧ H a = some (.dT kvs) ∧ (∀ p ∈ kvs, ∃ i j : Int, p.1 = [Sum.inl i, Sum.inl j]) ∧
  ∀ bs out p, IsKeys H kvs bs → SrtO.Srtd (ltP (kOf H)) out → out.Perm (bs.map V.ref) → H p = none → Q (.ref p) (upd H p (.lst out))
theorem pair_at {H : Hp} {kvs : List (List Key × V)} {bs : List Addr} (h : IsKeys H kvs bs) (hp : ∀ p ∈ kvs, ∃ i j : Int, p.1 = [Sum.inl i, Sum.inl j]) : ∀ b ∈ bs, H b = some (.tup [.int (kOf H (.ref b)).1, .int (kOf H (.ref b)).2]) := by
  unfold IsKeys at h
  induction h with
  | nil => intro b hb; cases hb
  | cons h1 _ ih =>
    intro b hb
    rcases List.mem_cons.mp hb with rfl | hb
    · obtain ⟨i, j, e⟩ := hp _ List.mem_cons_self
      rw [e] at h1
      have h1 : H b = some (.tup [.int i, .int j]) := h1
      rw [kOf_at h1]
      exact h1
    · exact ih (fun p m => hp p (List.mem_cons_of_mem _ m)) b hb
theorem cr_sortedDT (hc : X.calm = true) : CallR X (.builtin "sorted") rSortDT := by
  intro pins s σ H xs us Q I r h
  obtain ⟨a, kvs, rfl, hd, hp, q⟩ := h
  obtain ⟨u, rfl, rx⟩ := r.one
  cases rx
  obtain ⟨z, hs, ks, pr, o, es, ep, ho, hx, hdt, he, hn⟩ := (show ObjOk X.prog X.w H s.heap a (.dT kvs) from I.hok a _ hd)
  have l1 : es.size = ks.length := size_of_entries he
  have l2 : kvs.length = ks.length := Paired.length pr
  have hk := isKeys_of pr
  refine Calls.call_function_entry PyProof.Rows.kind_sorted PyProof.Rows.plain_sorted PyProof.Rows.entry_sorted (PyProof.Rows.args_sorted1 _) ?_
  unfold Builtin.«sorted»
  refine wpAny_bind (m := checkCount "sorted" 1 1 _) (wpAny_pure ?_)
  refine wpAny_bind (PySem.W.kdu_collect (A := X.A.in1) (kdl_raw hs hx hdt) (I.ok.hd hc) ho (by omega) fun h' tk acc kp it => ?_)
  have ea := row_of (by rw [it.1]; exact l1) fun j v hj => by
    obtain ⟨en, hen, hv⟩ := it.2 j v hj
    have qe := entry_at he j
    rw [hen] at qe
    cases hb : ks[j]? with
    | none => rw [hb] at qe; cases qe
    | some x =>
      rw [hb] at qe
      refine ⟨x, rfl, ?_⟩
      rw [hv, show en = entryOfKey (tupleKind (mixKind X.prog X.w)) x from Option.some.inj qe]
      rfl
  generalize hbs : (ks.map fun x => x.2.1) = bs at ea hk
  have lb : bs.length = ks.length := by rw [← hbs, List.length_map]
  have I1 : Inv X pins σ H { s with heap := h', toks := tk } := I.kept kp
  have al : acc.toList.length ≤ sizeLine := by rw [ea, List.length_map]; omega
  refine wpAny_bind (wpAny_newList ?_ al)
  have hoL : (h'.push (seqObj "list" acc.toList.toArray 0)).get? h'.objs.size = some (seqObj "list" acc.toList.toArray 0) := Heap.get?_push_size _ rfl
  show wpAny _ _ _ _ _ { s with heap := h'.push (seqObj "list" acc.toList.toArray 0), toks := tk }
  have hpr : ∀ v ∈ acc.toList, Srt.IsPair (h'.push (seqObj "list" acc.toList.toArray 0)) v (kOf H (backV v)).1 (kOf H (backV v)).2 := fun v hv => by
    rw [ea] at hv
    obtain ⟨b, hb, rfl⟩ := List.mem_map.mp hv
    obtain ⟨_, its2, r2, o2, g1, g2, n2, g3⟩ := I1.hok _ _ (pair_at hk hp b hb)
    obtain ⟨u1, u2, rfl, ⟨t1, rfl⟩, ⟨t2, rfl⟩⟩ := vals2 r2
    exact ⟨b, o2, t1, t2, n2, rfl, Heap.get?_push_of_some _ g1, g2, g3⟩
  refine wpAny_bind (wpAny_holding (wpAny_call_entry PyProof.Rows.slot_list_sort ⟨_, hoL, rfl⟩ PyProof.Rows.entry_list_sort
    (SrtO.list_sort_ord (SrtO.swo_lex fun v => kOf H (backV v)) hoL al (fun h2 => SrtO.pairs_sortableO (s := { s with heap := h'.push (seqObj "list" acc.toList.toArray 0), toks := tk }) (by omega) hpr fun o e => ?_) fun out hso hst => ⟨_, rfl, ?_⟩) (PyProof.Rows.args_list_sort _)))
  · have e' : some o = some (seqObj "list" acc.toList.toArray 0) := e.symm.trans hoL
    cases e'
    intro c
    exact absurd (Value.type.inj c) (by decide)
  obtain ⟨e', he'⟩ := PyProof.Rows.sortedHeap_at (vs := acc.toList) (out := out.toArray) hoL
  have pm : out.Perm (bs.map Value.ref) := by rw [← ea]; exact hst.perm
  have ho3 : ∀ u ∈ out, ∃ a, u = Value.ref a := fun u hu => by
    obtain ⟨b, _, e⟩ := List.mem_map.mp (pm.mem_iff.mp hu)
    exact ⟨b, e.symm⟩
  have hlen : (out.map backV).length ≤ sizeLine := by rw [List.length_map, pm.length_eq, List.length_map]; omega
  refine wpAny_pure ⟨_, rfl, .ref h'.objs.size, upd H h'.objs.size (.lst (out.map backV)), I1.laid (t' := tk) (fun b u e => ?_) (Nat.le_refl _) ⟨hlen, out, _, vals_back ho3, he'⟩, rfl, q bs (out.map backV) _ hk (SrtO.srtd_map hso) ?_ (I1.hok.fresh (Nat.le_refl _))⟩
  · rw [PyProof.Rows.sortedHeap_old (Nat.ne_of_lt (Heap.lt_size e)) (by rw [Heap.size_push]; exact Nat.lt_succ_of_lt (Heap.lt_size e))]
    exact Heap.get?_push_of_some _ e
  · have := pm.map backV
    rw [List.map_map] at this
    exact this
end
def rListDT : List V → Hp → VK → Prop := fun xs H Q => ∃ d kvs, xs = [V.ref d] ∧ Rd H d (.dT kvs) ∧ ∀ p bs, H p = none → IsKeys H kvs bs → Q (.ref p) (upd H p (.lst (bs.map V.ref)))
theorem call_listDT {X : Cx} (hc : X.calm = true) : CallR X (.type "list") rListDT := call_list_dT hc
/-- a dict comprehension over what a Walk tells: Pv by the turn and the heap -/
theorem dg_it {J : It} {n : Nat} {G : Hp → Prop} {Y : Nat → Hp → V → Hp → Prop} (w : Walk J n G Y) {g : TG} {tt : TT} {tk tv : TE} {vs : List Nat} {σ : L2.St} {H1 : Hp} {D : Addr} {o : HO} {Qd : Hp → Prop} (Pv : Nat → Hp → Prop) (h0 : Pv 0 (upd H1 D o)) (hG : ∀ i H, i ≤ n → Pv i H → G H)
    (hs : ∀ i x H H', i < n → Pv i H → Y i H x H' → DcTurn g tt tk tv vs σ D (Pv (i + 1)) x H') (hd : ∀ H, Pv n H → Qd H) :
    ∃ W : Nat → Nat → Hp → Prop, (∃ m, W 0 m (upd H1 D o)) ∧ ∀ i m H, W i m H →
      (J.stop i H ∧ Qd H) ∨ (J.go i H ∧ ∃ Nx : Hp → Prop, (∀ H', Nx H' → ∃ m', m' < m ∧ W (i + 1) m' H') ∧ ∀ x H', J.yld i H x H' → DcTurn g tt tk tv vs σ D Nx x H') := by
  refine ⟨fun i m H => m + i = n ∧ Pv i H, ⟨n, rfl, h0⟩, fun i m H ⟨e, p⟩ => ?_⟩
  have q := hG i H (by omega) p
  rcases Nat.eq_zero_or_pos m with z | z
  · obtain rfl : i = n := by omega
    exact .inl ⟨w.stops H q, hd H p⟩
  · exact .inr ⟨w.goes i H (by omega) q, Pv (i + 1), fun H' p' => ⟨m - 1, by omega, by omega, p'⟩, fun x H' y => hs i x H H' (by omega) p (w.yields i H x H' (by omega) q y)⟩
end Fw
namespace Fw
open L2
open PySem PySem.Spec PyProof.Rows
section
variable {κ : Type} [DecidableEq κ]
def HasK (kvs : List (κ × V)) (k : κ) : Prop := k ∈ kvs.map (·.1)
theorem hasK_val {kvs : List (κ × V)} {k : κ} : (valV kvs k).isSome = true ↔ HasK kvs k := by
  rw [← valV_any]
  unfold HasK
  simp only [List.any_eq_true, decide_eq_true_eq, List.mem_map]
theorem hasK_drop {kvs : List (κ × V)} {k j : κ} : HasK (dropK kvs k) j ↔ j ≠ k ∧ HasK kvs j := by
  unfold HasK dropK
  simp only [List.mem_map, List.mem_filter, decide_eq_true_eq]
  constructor
  · rintro ⟨p, ⟨h1, h2⟩, rfl⟩
    exact ⟨h2, p, h1, rfl⟩
  · rintro ⟨h, p, h1, rfl⟩
    exact ⟨p, ⟨h1, h⟩, rfl⟩
theorem hasK_put {kvs : List (κ × V)} {k j : κ} {v : V} : HasK (putK kvs k v) j ↔ j = k ∨ HasK kvs j := by
  rw [← hasK_val, ← hasK_val, valV_put]
  by_cases h : j = k
  · simp [h]
  · simp [h]
theorem drop_lt {kvs : List (κ × V)} {k : κ} (h : HasK kvs k) : (dropK kvs k).length < kvs.length := by
  obtain ⟨p, hp, rfl⟩ := List.mem_map.mp h
  unfold dropK
  rw [List.length_filter_lt_length_iff_exists]
  exact ⟨p, hp, by simp⟩
theorem nodup_drop {kvs : List (κ × V)} {k : κ} (h : (kvs.map (·.1)).Nodup) : ((dropK kvs k).map (·.1)).Nodup := h.sublist ((List.filter_sublist (l := kvs)).map _)
theorem nodup_put {kvs : List (κ × V)} {k : κ} {v : V} (h : (kvs.map (·.1)).Nodup) : ((putK kvs k v).map (·.1)).Nodup := by
  by_cases e : HasK kvs k
  · have e' := hasK_val.mpr e
    rw [← valV_any] at e'
    unfold putK
    rw [if_pos e', List.map_map]
    rw [show (kvs.map ((fun x : κ × V => x.1) ∘ fun kv => if kv.1 = k then (kv.1, v) else kv)) = kvs.map (·.1) from List.map_congr_left fun p _ => by simp only [Function.comp]; split <;> rfl]
    exact h
  · have e' : valV kvs k = none := by
      cases z : valV kvs k with
      | none => rfl
      | some x => exact absurd (hasK_val.mp (by rw [z]; rfl)) e
    rw [putK_new v e', List.map_append]
    refine List.nodup_append.mpr ⟨h, by simp, fun a ha b hb => ?_⟩
    rw [show b = k by simpa using hb]
    exact fun z => e (by rw [← z]; exact ha)
end
/-- a family's key -/
abbrev fk (f : Int) (e : Nat) : List Key := [Sum.inl f, Sum.inl (e : Int)]
theorem fk_inj {f g : Int} {e d : Nat} (h : fk f e = fk g d) : f = g ∧ e = d := by
  injection h with a b
  injection b with b _
  injection a with a
  injection b with b
  exact ⟨a, by omega⟩
abbrev Fam := Int → Nat → Prop
/-- two halves of one family are put together -/
def mstep (S : Fam) (f : Int) (k : Nat) : Fam := fun g e => (g = f ∧ e + 1 = k) ∨ (S g e ∧ ¬ (e = k ∧ (g = f ∨ g = f + 2 ^ (k - 1))))
/-- T is S with halves put together, one pair after another -/
inductive Mg (bits : Nat) (S : Fam) : Fam → Prop
  | refl : Mg bits S S
  | step {T : Fam} {f : Int} {k : Nat} : Mg bits S T → 1 ≤ k → k ≤ bits → f < 2 ^ (k - 1) → T f k → T (f + 2 ^ (k - 1)) k → Mg bits S (mstep T f k)
/-- no two halves of level k are left -/
def Irr (S : Fam) (k : Nat) : Prop := ∀ f : Int, f < 2 ^ (k - 1) → ¬ (S f k ∧ S (f + 2 ^ (k - 1)) k)
/-- the families of a dict -/
def famD (kvs : List (List Key × V)) : Fam := fun f e => HasK kvs (fk f e)
theorem famD_step {kvs : List (List Key × V)} {f : Int} {k : Nat} {v : V} (hk : 1 ≤ k) : famD (putK (dropK (dropK kvs (fk f k)) (fk (f + 2 ^ (k - 1)) k)) (fk f (k - 1)) v) = mstep (famD kvs) f k := by
  funext g e
  refine propext ?_
  unfold famD mstep
  rw [hasK_put, hasK_drop, hasK_drop]
  constructor
  · rintro (h | ⟨h1, h2, h3⟩)
    · obtain ⟨rfl, rfl⟩ := fk_inj h
      exact .inl ⟨rfl, by omega⟩
    · refine .inr ⟨h3, ?_⟩
      rintro ⟨rfl, rfl | rfl⟩
      · exact h2 rfl
      · exact h1 rfl
  · rintro (⟨rfl, h⟩ | ⟨h1, h2⟩)
    · exact .inl (by rw [show e = k - 1 by omega])
    · refine .inr ⟨fun z => ?_, fun z => ?_, h1⟩
      · obtain ⟨a, b⟩ := fk_inj z
        exact h2 ⟨b, .inr a⟩
      · obtain ⟨a, b⟩ := fk_inj z
        exact h2 ⟨b, .inl a⟩
/-- a dict of families, at most so many -/
structure DictF (kvs : List (List Key × V)) (n : Nat) : Prop where
  len : kvs.length ≤ n
  nd : (kvs.map (·.1)).Nodup
  sh : ∀ x ∈ kvs, ∃ (f : Int) (e : Nat), x.1 = fk f e ∧ 0 ≤ f
theorem DictF.put {kvs : List (List Key × V)} {n : Nat} {f : Int} {e : Nat} {v : V} (d : DictF kvs n) (f0 : 0 ≤ f) : DictF (putK kvs (fk f e) v) (n + 1) where
  len := Nat.le_trans (length_putK _ _ _) (Nat.succ_le_succ d.len)
  nd := nodup_put d.nd
  sh := fun x hx => by
    have : HasK (putK kvs (fk f e) v) x.1 := List.mem_map.mpr ⟨x, hx, rfl⟩
    rcases hasK_put.mp this with h | h
    · exact ⟨f, e, h, f0⟩
    · obtain ⟨y, hy, e1⟩ := List.mem_map.mp h
      rw [← e1]
      exact d.sh y hy
theorem DictF.drop {kvs : List (List Key × V)} {n : Nat} {k : List Key} (d : DictF kvs n) (h : HasK kvs k) : DictF (dropK kvs k) (n - 1) where
  len := by
    have := drop_lt h
    have := d.len
    omega
  nd := nodup_drop d.nd
  sh := fun x hx => d.sh x (List.mem_filter.mp hx).1
theorem DictF.mono {kvs : List (List Key × V)} {n m : Nat} (d : DictF kvs n) (h : n ≤ m) : DictF kvs m := ⟨Nat.le_trans d.len h, d.nd, d.sh⟩
/-- level k, the first j keys of its row seen -/
structure Lev (S0 : Fam) (bits k : Nat) (kv0 kvs : List (List Key × V)) (n j : Nat) : Prop where
  df : DictF kvs n
  mg : Mg bits S0 (famD kvs)
  up : ∀ k', k < k' → k' ≤ bits → Irr (famD kvs) k'
  A : ∀ (j' : Nat) (f : Int) x, j ≤ j' → kv0[j']? = some x → x.1 = fk f k → f < 2 ^ (k - 1) → famD kvs f k
  B : ∀ (j' : Nat) (f : Int) x, j' < j → kv0[j']? = some x → x.1 = fk f k → f < 2 ^ (k - 1) → ¬ (famD kvs f k ∧ famD kvs (f + 2 ^ (k - 1)) k)
  C : ∀ g, famD kvs g k → HasK kv0 (fk g k)
section
variable {S0 : Fam} {bits k : Nat} {kv0 kvs : List (List Key × V)} {n j : Nat}
theorem Lev.start (df : DictF kvs n) (mg : Mg bits S0 (famD kvs)) (up : ∀ k', k < k' → k' ≤ bits → Irr (famD kvs) k') : Lev S0 bits k kvs kvs n 0 :=
  ⟨df, mg, up, fun j' f x _ h e _ => List.mem_map.mpr ⟨x, List.mem_of_getElem? h, e⟩, fun _ _ _ h => absurd h (Nat.not_lt_zero _), fun _ h => h⟩
theorem Lev.skip (l : Lev S0 bits k kv0 kvs n j) {x : List Key × V} {f : Int} {e : Nat} (hx : kv0[j]? = some x) (he : x.1 = fk f e) (no : ¬ (e = k ∧ f < 2 ^ (k - 1) ∧ famD kvs (f + 2 ^ (k - 1)) k)) : Lev S0 bits k kv0 kvs n (j + 1) :=
  ⟨l.df, l.mg, l.up, fun j' g y hj => l.A j' g y (by omega), fun j' g y hj hy ey lt both => by
    by_cases z : j' = j
    · subst z
      rw [hx] at hy
      obtain rfl := Option.some.inj hy
      obtain ⟨rfl, rfl⟩ := fk_inj (he.symm.trans ey)
      exact no ⟨rfl, lt, both.2⟩
    · exact l.B j' g y (by omega) hy ey lt both, l.C⟩
theorem Lev.finish (l : Lev S0 bits k kv0 kvs n kv0.length) : Irr (famD kvs) k := fun f lt both => by
  obtain ⟨x, hx, e⟩ := List.mem_map.mp (l.C f both.1)
  obtain ⟨j', hj⟩ := List.getElem?_of_mem hx
  exact l.B j' f x (List.getElem?_eq_some_iff.mp hj).1 hj e lt both
theorem Lev.merge (l : Lev S0 bits k kv0 kvs n j) (nd : (kv0.map (·.1)).Nodup) (pos : ∀ x ∈ kv0, ∃ (f : Int) (e : Nat), x.1 = fk f e ∧ 0 ≤ f) {x : List Key × V} {f : Int} (hx : kv0[j]? = some x) (he : x.1 = fk f k) (f0 : 0 ≤ f) (lt : f < 2 ^ (k - 1)) (hb : famD kvs (f + 2 ^ (k - 1)) k) (k1 : 1 ≤ k) (k2 : k ≤ bits) (v : V) :
    Lev S0 bits k kv0 (putK (dropK (dropK kvs (fk f k)) (fk (f + 2 ^ (k - 1)) k)) (fk f (k - 1)) v) n (j + 1) := by
  have ha : famD kvs f k := l.A j f x (Nat.le_refl _) hx he lt
  have p2 : (0 : Int) < 2 ^ (k - 1) := Int.pow_pos (by decide)
  have hb' : HasK (dropK kvs (fk f k)) (fk (f + 2 ^ (k - 1)) k) := hasK_drop.mpr ⟨fun z => by have := (fk_inj z).1; omega, hb⟩
  have lev : ∀ g e, k ≤ e → mstep (famD kvs) f k g e → famD kvs g e := fun g e h m => by
    rcases m with ⟨_, h1⟩ | ⟨h1, _⟩
    · omega
    · exact h1
  refine ⟨?_, ?_, ?_, ?_, ?_, ?_⟩
  · have d1 := (l.df.drop ha).drop hb'
    have n2 : 2 ≤ n := by
      have := l.df.len
      have := drop_lt ha
      have := drop_lt hb'
      omega
    exact (d1.put f0).mono (by omega)
  · rw [famD_step k1]
    exact .step l.mg k1 k2 lt ha hb
  · intro k' h1 h2 g lt' both
    rw [famD_step k1] at both
    exact l.up k' h1 h2 g lt' ⟨lev _ _ (by omega) both.1, lev _ _ (by omega) both.2⟩
  · intro j' g y hj hy ey lt'
    rw [famD_step k1]
    refine .inr ⟨l.A j' g y (by omega) hy ey lt', ?_⟩
    rintro ⟨_, rfl | rfl⟩
    · have e1 : (kv0.map (·.1))[j]? = (kv0.map (·.1))[j']? := by rw [List.getElem?_map, List.getElem?_map, hx, hy]; show some x.1 = some y.1; rw [he, ey]
      have := (List.getElem?_inj (by rw [List.length_map]; exact (List.getElem?_eq_some_iff.mp hx).1) nd).mp e1
      omega
    · omega
  · intro j' g y hj hy ey lt' both
    rw [famD_step k1] at both
    by_cases z : j' = j
    · subst z
      rw [hx] at hy
      obtain rfl := Option.some.inj hy
      obtain ⟨rfl, _⟩ := fk_inj (he.symm.trans ey)
      rcases both.1 with ⟨_, h⟩ | ⟨_, h⟩
      · omega
      · exact h ⟨rfl, .inl rfl⟩
    · exact l.B j' g y (by omega) hy ey lt' ⟨lev _ _ (Nat.le_refl _) both.1, lev _ _ (Nat.le_refl _) both.2⟩
  · intro g h
    rw [famD_step k1] at h
    exact l.C g (lev _ _ (Nat.le_refl _) h)
end
/-! ### what putting together keeps -/
/-- x is of one of the families -/
def Cover (S : Fam) (x : Int) : Prop := ∃ f e, S f e ∧ (2 : Int) ^ e ∣ x - f
theorem halves {k : Nat} (h : 1 ≤ k) (x f : Int) : (2 : Int) ^ (k - 1) ∣ x - f ↔ (2 : Int) ^ k ∣ x - f ∨ (2 : Int) ^ k ∣ x - (f + 2 ^ (k - 1)) := by
  have e : (2 : Int) ^ k = 2 ^ (k - 1) * 2 := by
    rw [← Int.pow_succ, show (k - 1).succ = k by omega]
  constructor
  · rintro ⟨c, hc⟩
    rcases Int.emod_two_eq c with z | z
    · refine .inl ⟨c / 2, ?_⟩
      rw [hc, e, Int.mul_assoc]
      congr 1
      omega
    · refine .inr ⟨c / 2, ?_⟩
      rw [show x - (f + 2 ^ (k - 1)) = (x - f) - 2 ^ (k - 1) by omega, hc, e, Int.mul_assoc]
      have : c = 2 * (c / 2) + 1 := by omega
      rw [show (2 : Int) ^ (k - 1) * c - 2 ^ (k - 1) = 2 ^ (k - 1) * (c - 1) by rw [Int.mul_sub, Int.mul_one]]
      congr 1
      omega
  · rintro (⟨c, hc⟩ | ⟨c, hc⟩)
    · exact ⟨2 * c, by rw [hc, e, Int.mul_assoc]⟩
    · refine ⟨2 * c + 1, ?_⟩
      rw [show x - f = (x - (f + 2 ^ (k - 1))) + 2 ^ (k - 1) by omega, hc, e, Int.mul_add, Int.mul_one, Int.mul_assoc]
theorem Mg.cover {bits : Nat} {S T : Fam} (m : Mg bits S T) (x : Int) : Cover T x ↔ Cover S x := by
  induction m with
  | refl => exact Iff.rfl
  | @step T f k _ k1 _ _ ha hb ih =>
    rw [← ih]
    constructor
    · rintro ⟨g, e, (⟨rfl, h⟩ | ⟨h, _⟩), d⟩
      · obtain rfl : e = k - 1 := by omega
        rcases (halves k1 x g).mp d with d | d
        · exact ⟨g, k, ha, d⟩
        · exact ⟨_, k, hb, d⟩
      · exact ⟨g, e, h, d⟩
    · rintro ⟨g, e, h, d⟩
      by_cases z : e = k ∧ (g = f ∨ g = f + 2 ^ (k - 1))
      · obtain ⟨rfl, z⟩ := z
        refine ⟨f, e - 1, .inl ⟨rfl, by omega⟩, (halves k1 x f).mpr ?_⟩
        rcases z with rfl | rfl
        · exact .inl d
        · exact .inr d
      · exact ⟨g, e, .inr ⟨h, z⟩, d⟩
/-- families that share no x -/
def Apart (S : Fam) : Prop := ∀ f e g d x, S f e → S g d → (2 : Int) ^ e ∣ x - f → (2 : Int) ^ d ∣ x - g → f = g ∧ e = d
theorem Mg.apart {bits : Nat} {S T : Fam} (m : Mg bits S T) (a : Apart S) : Apart T := by
  induction m with
  | refl => exact a
  | @step T f k _ k1 _ _ ha hb ih =>
    have one : ∀ g d x, T g d → ¬ (d = k ∧ (g = f ∨ g = f + 2 ^ (k - 1))) → (2 : Int) ^ (k - 1) ∣ x - f → (2 : Int) ^ d ∣ x - g → False := fun g d x h n d1 d2 => by
      rcases (halves k1 x f).mp d1 with z | z
      · obtain ⟨rfl, rfl⟩ := ih _ _ _ _ x ha h z d2
        exact n ⟨rfl, .inl rfl⟩
      · obtain ⟨rfl, rfl⟩ := ih _ _ _ _ x hb h z d2
        exact n ⟨rfl, .inr rfl⟩
    rintro g d h e x (⟨rfl, h1⟩ | ⟨h1, n1⟩) (⟨rfl, h2⟩ | ⟨h2, n2⟩) d1 d2
    · exact ⟨rfl, by omega⟩
    · obtain rfl : d = k - 1 := by omega
      exact (one h e x h2 n2 d1 d2).elim
    · obtain rfl : e = k - 1 := by omega
      exact (one g d x h1 n1 d2 d1).elim
    · exact ih _ _ _ _ x h1 h2 d1 d2
/-- each family's first value is below its step, its level at most bits -/
def WfF (bits : Nat) (S : Fam) : Prop := ∀ f e, S f e → 0 ≤ f ∧ f < 2 ^ e ∧ e ≤ bits
theorem Mg.wf {bits : Nat} {S T : Fam} (m : Mg bits S T) (a : WfF bits S) : WfF bits T := by
  induction m with
  | refl => exact a
  | @step T f k _ k1 k2 lt ha hb ih =>
    rintro g e (⟨rfl, h⟩ | ⟨h, _⟩)
    · obtain rfl : e = k - 1 := by omega
      exact ⟨(ih _ _ ha).1, lt, by omega⟩
    · exact ih _ _ h
end Fw
namespace Fw
/-! ### steps x -> a * x + c, modulo a power of two -/
theorem gpos (w : Nat) : (0 : Int) < 2 ^ w := Int.pow_pos (by decide)
theorem g2S (w : Nat) : (2 : Int) ^ (w + 1) = 2 * 2 ^ w := by rw [Int.pow_succ, Int.mul_comm]
theorem gmd {S x y : Int} : x % S = y % S ↔ S ∣ x - y := by
  constructor
  · intro h
    exact Int.dvd_of_emod_eq_zero (Int.emod_eq_emod_iff_emod_sub_eq_zero.mp h)
  · intro h
    exact Int.emod_eq_emod_iff_emod_sub_eq_zero.mpr (Int.emod_eq_zero_of_dvd h)
theorem gpp {a b : Nat} (h : a ≤ b) : (2 : Int) ^ a ∣ 2 ^ b := ⟨2 ^ (b - a), by rw [← Int.pow_add]; congr 1; omega⟩
theorem gdv0 {S x : Int} : S ∣ x - x := by rw [Int.sub_self]; exact Int.dvd_zero _
theorem gdvS {S x y : Int} (h : S ∣ x - y) : S ∣ y - x := by
  rw [show y - x = -(x - y) by omega]; exact Int.dvd_neg.mpr h
theorem gdvT {S x y z : Int} (h : S ∣ x - y) (g : S ∣ y - z) : S ∣ x - z := by
  rw [show x - z = (x - y) + (y - z) by omega]; exact Int.dvd_add h g
/-- n steps -/
def gIt (a c : Int) : Nat → Int → Int
  | 0, x => x
  | n + 1, x => a * gIt a c n x + c
theorem gIt_one {a c x : Int} : gIt a c 1 x = a * x + c := rfl
theorem gIt_add (a c : Int) (m : Nat) : ∀ (n : Nat) (x : Int), gIt a c (m + n) x = gIt a c n (gIt a c m x)
  | 0, x => rfl
  | n + 1, x => by
    show a * gIt a c (m + n) x + c = a * gIt a c n (gIt a c m x) + c
    rw [gIt_add a c m n x]
theorem gIt_sub (a c : Int) : ∀ (n : Nat) (x y : Int), gIt a c n x - gIt a c n y = a ^ n * (x - y)
  | 0, x, y => by rw [Int.pow_zero, Int.one_mul]; rfl
  | n + 1, x, y => by
    show a * gIt a c n x + c - (a * gIt a c n y + c) = _
    rw [Int.pow_succ, Int.mul_comm (a ^ n) a, Int.mul_assoc, ← gIt_sub a c n x y, Int.mul_sub]; omega
theorem gIt_cong {S a a' c c' : Int} (ha : S ∣ a - a') (hc : S ∣ c - c') : ∀ (n : Nat) {x y : Int}, S ∣ x - y → S ∣ gIt a c n x - gIt a' c' n y
  | 0, x, y, h => h
  | n + 1, x, y, h => by
    have ih := gIt_cong ha hc n h
    show S ∣ a * gIt a c n x + c - (a' * gIt a' c' n y + c')
    have e : a * gIt a c n x + c - (a' * gIt a' c' n y + c') = a * (gIt a c n x - gIt a' c' n y) + (a - a') * gIt a' c' n y + (c - c') := by
      rw [Int.mul_sub, Int.sub_mul]; omega
    rw [e]
    exact Int.dvd_add (Int.dvd_add (Int.dvd_mul_of_dvd_right ih) (Int.dvd_mul_of_dvd_left ha)) hc
theorem gIt_congx {S a c : Int} (n : Nat) {x y : Int} (h : S ∣ x - y) : S ∣ gIt a c n x - gIt a c n y := gIt_cong gdv0 gdv0 n h
/-- (p, q) leads where n steps do -/
def gRep (S a c p q : Int) (n : Nat) : Prop := ∀ x, S ∣ p * x + q - gIt a c n x
theorem gRep_zero (S a c : Int) : gRep S a c 1 0 0 := fun x => by
  show S ∣ 1 * x + 0 - x
  rw [Int.one_mul, Int.add_zero]; exact gdv0
theorem gRep_one (S a c : Int) : gRep S a c a c 1 := fun x => gdv0
theorem gRep_onem (S a c : Int) : gRep S a c (a % S) (c % S) 1 := fun x => by
  have e1 : S ∣ a % S - a := Int.dvd_emod_sub_self
  have e2 : S ∣ c % S - c := Int.dvd_emod_sub_self
  show S ∣ a % S * x + c % S - (a * x + c)
  rw [show a % S * x + c % S - (a * x + c) = (a % S - a) * x + (c % S - c) by rw [Int.sub_mul]; omega]
  exact Int.dvd_add (Int.dvd_mul_of_dvd_left e1) e2
theorem gRep_comp {S a c p q p' q' : Int} {m n : Nat} (h1 : gRep S a c p q m) (h2 : gRep S a c p' q' n) : gRep S a c (p * p' % S) ((p' * q + q') % S) (m + n) := fun x => by
  have e1 : S ∣ p * p' % S - p * p' := Int.dvd_emod_sub_self
  have e2 : S ∣ (p' * q + q') % S - (p' * q + q') := Int.dvd_emod_sub_self
  have e3 := h2 (p * x + q)
  have e4 := gIt_congx (a := a) (c := c) n (h1 x)
  rw [gIt_add]
  have e : p * p' % S * x + (p' * q + q') % S - gIt a c n (gIt a c m x) = (p * p' % S - p * p') * x + ((p' * q + q') % S - (p' * q + q')) + (p' * (p * x + q) + q' - gIt a c n (p * x + q)) + (gIt a c n (p * x + q) - gIt a c n (gIt a c m x)) := by
    rw [Int.sub_mul, Int.mul_add, ← Int.mul_assoc, Int.mul_comm p' p]; omega
  rw [e]
  exact Int.dvd_add (Int.dvd_add (Int.dvd_add (Int.dvd_mul_of_dvd_left e1) e2) e3) e4
theorem gRep.mod {S a c p q : Int} {n : Nat} (h : gRep S a c p q n) (x : Int) : (p * x + q) % S = gIt a c n x % S := gmd.mpr (h x)
theorem gRep.it {S a c p q : Int} {n : Nat} (h : gRep S a c p q n) : ∀ (k : Nat) (x : Int), S ∣ gIt p q k x - gIt a c (n * k) x
  | 0, x => by rw [Nat.mul_zero]; exact gdv0
  | k + 1, x => by
    rw [Nat.mul_succ, gIt_add a c (n * k) n]
    show S ∣ p * gIt p q k x + q - _
    exact gdvT (h _) (gIt_congx n (h.it k x))
theorem god_pow {a : Int} (ha : a % 2 = 1) : ∀ n : Nat, a ^ n % 2 = 1
  | 0 => by rw [Int.pow_zero]; rfl
  | n + 1 => by rw [Int.pow_succ, Int.mul_emod, god_pow ha n, ha]; rfl
theorem gIt_full {a : Int} (ha : a % 2 = 1) (c : Int) : ∀ (w : Nat) (x : Int), (2 : Int) ^ w ∣ gIt a c (2 ^ w) x - x
  | 0, x => by rw [Int.pow_zero]; exact Int.one_dvd _
  | w + 1, x => by
    have ih := gIt_full ha c w x
    have e : gIt a c (2 ^ (w + 1)) x - x = (a ^ (2 ^ w) + 1) * (gIt a c (2 ^ w) x - x) := by
      rw [show 2 ^ (w + 1) = 2 ^ w + 2 ^ w by rw [Nat.pow_succ]; omega, gIt_add]
      have := gIt_sub a c (2 ^ w) (gIt a c (2 ^ w) x) x
      rw [Int.add_mul, Int.one_mul, ← this]; omega
    rw [e, g2S]
    have := god_pow ha (2 ^ w)
    exact Int.mul_dvd_mul (Int.dvd_of_emod_eq_zero (by omega)) ih
theorem gIt_fullm {a : Int} (ha : a % 2 = 1) (c : Int) (w : Nat) : ∀ (k : Nat) (x : Int), (2 : Int) ^ w ∣ gIt a c (2 ^ w * k) x - x
  | 0, x => gdv0
  | k + 1, x => by
    rw [Nat.mul_succ, gIt_add]
    exact gdvT (gIt_full ha c w _) (gIt_fullm ha c w k x)
theorem gIt_modn {a : Int} (ha : a % 2 = 1) (c : Int) (w : Nat) (m : Nat) (x : Int) : (2 : Int) ^ w ∣ gIt a c m x - gIt a c (m % 2 ^ w) x := by
  have e : m = 2 ^ w * (m / 2 ^ w) + m % 2 ^ w := (Nat.div_add_mod _ _).symm
  have h : gIt a c m x = gIt a c (m % 2 ^ w) (gIt a c (2 ^ w * (m / 2 ^ w)) x) := by
    rw [← gIt_add, ← e]
  rw [h]
  exact gIt_congx _ (gIt_fullm ha c w _ x)
theorem gnat_mod {w m n : Nat} (h : (2 : Int) ^ w ∣ (m : Int) - n) : m % 2 ^ w = n % 2 ^ w := by
  have e := gmd.mpr h
  have c : ((2 ^ w : Nat) : Int) = (2 : Int) ^ w := Int.natCast_pow 2 w
  rw [← c, ← Int.natCast_emod, ← Int.natCast_emod] at e
  exact Int.ofNat_inj.mp e
theorem gIt_modz {a : Int} (ha : a % 2 = 1) (c : Int) {w m n : Nat} (h : (2 : Int) ^ w ∣ (m : Int) - n) (x : Int) : (2 : Int) ^ w ∣ gIt a c m x - gIt a c n x := by
  have e := gnat_mod h
  have h1 := gIt_modn ha c w m x
  have h2 := gIt_modn ha c w n x
  rw [e] at h1
  exact gdvT h1 (gdvS h2)
theorem gpow_even {a : Int} (ha : a % 2 = 0) (w : Nat) : (2 : Int) ^ w ∣ a ^ w := by
  obtain ⟨b, rfl⟩ := Int.dvd_of_emod_eq_zero ha
  rw [Int.mul_pow]; exact Int.dvd_mul_right _ _
theorem gIt_even {a : Int} (ha : a % 2 = 0) (c : Int) {w n : Nat} (h : w ≤ n) (x : Int) : (2 : Int) ^ w ∣ gIt a c n x - gIt a c w x := by
  obtain ⟨k, rfl⟩ : ∃ k, n = k + w := ⟨n - w, by omega⟩
  rw [gIt_add, gIt_sub]
  exact Int.dvd_mul_of_dvd_left (gpow_even ha w)
/-- as many steps as are done for n -/
def gCnt (w : Nat) (a n : Int) : Nat := if a % 2 = 0 then (min n w).toNat else (n % 2 ^ w).toNat
def gAt (w : Nat) (a c x n : Int) : Int := gIt a c (gCnt w a n) x
theorem gAt_odd {w : Nat} {a c x n : Int} (ha : a % 2 = 1) {k : Nat} (h : (2 : Int) ^ w ∣ (k : Int) - n) : (2 : Int) ^ w ∣ gAt w a c x n - gIt a c k x := by
  unfold gAt gCnt
  rw [if_neg (by omega)]
  refine gIt_modz ha c ?_ x
  have h0 := Int.emod_nonneg n (Int.ne_of_gt (gpos w))
  rw [Int.toNat_of_nonneg h0]
  exact gdvT Int.dvd_emod_sub_self (gdvS h)
theorem gAt_nat (w : Nat) (a c x : Int) (n : Nat) : (2 : Int) ^ w ∣ gAt w a c x n - gIt a c n x := by
  rcases Int.emod_two_eq a with ha | ha
  · unfold gAt gCnt
    rw [if_pos ha]
    by_cases h : n ≤ w
    · rw [show (min (n : Int) w).toNat = n by omega]; exact gdv0
    · rw [show (min (n : Int) w).toNat = w by omega]
      exact gdvS (gIt_even ha c (by omega) x)
  · exact gAt_odd ha gdv0
/-- how often 2 divides, w at most -/
def gv : Nat → Int → Nat
  | 0, _ => 0
  | w + 1, n => if n % 2 = 0 then gv w (n / 2) + 1 else 0
theorem gv_le : ∀ (w : Nat) (n : Int), gv w n ≤ w
  | 0, _ => Nat.le_refl _
  | w + 1, n => by
    unfold gv
    have := gv_le w (n / 2)
    split <;> omega
theorem gv_iff : ∀ (w : Nat) (n : Int) (k : Nat), k ≤ gv w n ↔ k ≤ w ∧ (2 : Int) ^ k ∣ n
  | 0, n, k => by
    constructor
    · intro h
      have h : k ≤ 0 := h
      obtain rfl : k = 0 := by omega
      exact ⟨h, by rw [Int.pow_zero]; exact Int.one_dvd _⟩
    · intro h; exact h.1
  | w + 1, n, 0 => ⟨fun _ => ⟨by omega, by rw [Int.pow_zero]; exact Int.one_dvd _⟩, fun _ => by omega⟩
  | w + 1, n, k + 1 => by
    unfold gv
    by_cases h : n % 2 = 0
    · rw [if_pos h]
      have ih := gv_iff w (n / 2) k
      have e : n = 2 * (n / 2) := by omega
      constructor
      · intro hk
        obtain ⟨h1, t, ht⟩ := ih.mp (by omega)
        refine ⟨by omega, t, ?_⟩
        rw [g2S, Int.mul_assoc, ← ht]; exact e
      · rintro ⟨h1, t, ht⟩
        rw [g2S, Int.mul_assoc] at ht
        have := ih.mpr ⟨by omega, t, by omega⟩
        omega
    · rw [if_neg h]
      constructor
      · intro hk; omega
      · rintro ⟨h1, t, ht⟩
        rw [g2S, Int.mul_assoc] at ht
        omega
theorem gv_dvd (w : Nat) (n : Int) : (2 : Int) ^ gv w n ∣ n := ((gv_iff w n _).mp (Nat.le_refl _)).2
theorem gv_full {w : Nat} {n : Int} : (2 : Int) ^ w ∣ n ↔ gv w n = w := by
  have a := gv_le w n
  have b := gv_iff w n w
  constructor
  · intro h
    have := b.mpr ⟨Nat.le_refl _, h⟩
    omega
  · intro h
    exact (b.mp (by omega)).2
theorem gv_cong {w : Nat} {x y : Int} (h : (2 : Int) ^ w ∣ x - y) : gv w x = gv w y := by
  have key : ∀ {x y : Int}, (2 : Int) ^ w ∣ x - y → gv w x ≤ gv w y := fun {x y} h => by
    refine (gv_iff w y _).mpr ⟨gv_le w x, ?_⟩
    have h1 := Int.dvd_trans (gpp (gv_le w x)) h
    have h2 := gv_dvd w x
    rw [show y = x - (x - y) by omega]
    exact Int.dvd_sub h2 h1
  exact Nat.le_antisymm (key h) (key (gdvS h))
theorem gv_val {w j : Nat} {n a : Int} (h : n = 2 ^ j * (2 * a + 1)) (hj : j ≤ w) : gv w n = j := by
  have h1 := (gv_iff w n j).mpr ⟨hj, by rw [h]; exact Int.dvd_mul_right _ _⟩
  refine Nat.le_antisymm (Nat.le_of_not_lt fun c => ?_) h1
  obtain ⟨_, t, ht⟩ := (gv_iff w n (j + 1)).mp c
  have ht' : (2 : Int) ^ j * (2 * a + 1) = 2 ^ j * (2 * t) := by rw [← h, ht, g2S, Int.mul_assoc, Int.mul_left_comm]
  have := Int.eq_of_mul_eq_mul_left (Int.ne_of_gt (gpos j)) ht'
  omega
theorem gv_next (w : Nat) (z : Int) : gv w z = min w (gv (w + 1) z) := by
  have key : ∀ k, k ≤ gv w z ↔ k ≤ min w (gv (w + 1) z) := fun k => by
    rw [gv_iff, Nat.le_min, gv_iff]
    constructor
    · rintro ⟨a, b⟩; exact ⟨a, by omega, b⟩
    · rintro ⟨a, b, c⟩; exact ⟨a, c⟩
  exact Nat.le_antisymm ((key _).mp (Nat.le_refl _)) ((key _).mpr (Nat.le_refl _))
theorem gv_mul : ∀ (w : Nat) (y z : Int), gv w (y * z) = min w (gv w y + gv w z)
  | 0, y, z => by show 0 = min 0 _; omega
  | w + 1, y, z => by
    have nz := gv_next w z
    have ny := gv_next w y
    have lz := gv_le (w + 1) z
    have ly := gv_le (w + 1) y
    rcases Int.emod_two_eq y with hy | hy
    · have e : y * z = 2 * (y / 2 * z) := by rw [← Int.mul_assoc]; congr 1; omega
      have ih := gv_mul w (y / 2) z
      have g1 : gv (w + 1) (y * z) = gv w (y / 2 * z) + 1 := by
        show (if y * z % 2 = 0 then gv w (y * z / 2) + 1 else 0) = _
        rw [if_pos (by omega), show y * z / 2 = y / 2 * z by omega]
      have g2 : gv (w + 1) y = gv w (y / 2) + 1 := by
        show (if y % 2 = 0 then gv w (y / 2) + 1 else 0) = _
        rw [if_pos hy]
      rw [g1, ih, g2]; omega
    · have g0 : gv (w + 1) y = 0 := by
        show (if y % 2 = 0 then gv w (y / 2) + 1 else 0) = _
        rw [if_neg (by omega)]
      rcases Int.emod_two_eq z with hz | hz
      · have e : y * z = 2 * (y * (z / 2)) := by rw [Int.mul_left_comm]; congr 1; omega
        have ih := gv_mul w y (z / 2)
        have g1 : gv (w + 1) (y * z) = gv w (y * (z / 2)) + 1 := by
          show (if y * z % 2 = 0 then gv w (y * z / 2) + 1 else 0) = _
          rw [if_pos (by omega), show y * z / 2 = y * (z / 2) by omega]
        have g2 : gv (w + 1) z = gv w (z / 2) + 1 := by
          show (if z % 2 = 0 then gv w (z / 2) + 1 else 0) = _
          rw [if_pos hz]
        rw [g1, ih, g2]; omega
      · have g1 : gv (w + 1) (y * z) = 0 := by
          show (if y * z % 2 = 0 then gv w (y * z / 2) + 1 else 0) = _
          rw [if_neg (by rw [Int.mul_emod, hy, hz]; decide)]
        have g2 : gv (w + 1) z = 0 := by
          show (if z % 2 = 0 then gv w (z / 2) + 1 else 0) = _
          rw [if_neg (by omega)]
        rw [g1, g0, g2]; omega
theorem gv_pow (w : Nat) (a y : Int) : ∀ k : Nat, gv w (a ^ k * y) = min w (k * gv w a + gv w y)
  | 0 => by
    have := gv_le w y
    rw [Int.pow_zero, Int.one_mul]; omega
  | k + 1 => by
    rw [Int.pow_succ, Int.mul_comm (a ^ k) a, Int.mul_assoc, gv_mul, gv_pow w a y k, Nat.add_mul]; omega
theorem gLead {a : Int} (ha : a % 2 = 0) (c : Int) (w k : Nat) (x : Int) : (2 : Int) ^ w ∣ gIt a c k x - gIt a c w x ↔ w ≤ k * gv w a + gv w (x - gIt a c w x) := by
  have e1 : (2 : Int) ^ w ∣ gIt a c k (gIt a c w x) - gIt a c w x := by
    rw [← gIt_add]; exact gIt_even ha c (by omega) x
  have e2 := gIt_sub a c k x (gIt a c w x)
  have e3 : (2 : Int) ^ w ∣ gIt a c k x - gIt a c w x ↔ (2 : Int) ^ w ∣ a ^ k * (x - gIt a c w x) := by
    rw [← e2]
    exact ⟨fun h => gdvT h (gdvS e1), fun h => gdvT h e1⟩
  rw [e3, gv_full, gv_pow]; omega
/-- the quotient rounded up -/
theorem gceil {l t : Int} (ht : 0 < t) (hl : 0 ≤ l) : ∃ L : Nat, -((-l) / t) = (L : Int) ∧ l ≤ (L : Int) * t ∧ (∀ k : Nat, k < L → (k : Int) * t < l) ∧ (L : Int) ≤ l := by
  have e := Int.mul_ediv_add_emod (-l) t
  have r0 := Int.emod_nonneg (-l) (Int.ne_of_gt ht)
  have r1 := Int.emod_lt_of_pos (-l) ht
  have q0 : (-l) / t ≤ 0 := by
    refine Int.le_of_not_gt fun c => ?_
    have := Int.mul_le_mul_of_nonneg_left (show (1 : Int) ≤ (-l) / t by omega) (Int.le_of_lt ht)
    omega
  obtain ⟨L, hL⟩ := Int.eq_ofNat_of_zero_le (show 0 ≤ -((-l) / t) by omega)
  have eL : (L : Int) * t = l + (-l) % t := by
    have : (-l) / t = -(L : Int) := by omega
    rw [this, Int.mul_neg, Int.mul_comm] at e
    omega
  refine ⟨L, hL, by omega, fun k hk => ?_, ?_⟩
  · have h1 := Int.mul_le_mul_of_nonneg_right (show (k : Int) + 1 ≤ L by omega) (Int.le_of_lt ht)
    rw [Int.add_mul, Int.one_mul] at h1
    omega
  · by_cases c : L = 0
    · omega
    · have h1 := Int.mul_le_mul_of_nonneg_right (show (L : Int) - 1 + 1 ≤ L by omega) (Int.le_of_lt ht)
      have h2 := Int.mul_le_mul_of_nonneg_left (show (1 : Int) ≤ t by omega) (show 0 ≤ (L : Int) - 1 by omega)
      rw [Int.mul_one, Int.sub_mul, Int.one_mul] at h2
      omega
end Fw
namespace Fw
open L2
open PySem PySem.Spec PyProof.Rows
theorem gposR (w : Nat) : (0 : Int) < 2 ^ w := Int.pow_pos (by decide)
theorem gppR {a b : Nat} (h : a ≤ b) : (2 : Int) ^ a ∣ 2 ^ b := ⟨2 ^ (b - a), by rw [← Int.pow_add]; congr 1; omega⟩
theorem dvT {S x y z : Int} (h : S ∣ x - y) (g : S ∣ y - z) : S ∣ x - z := by
  rw [show x - z = (x - y) + (y - z) by omega]; exact Int.dvd_add h g
theorem dvS {S x y : Int} (h : S ∣ x - y) : S ∣ y - x := by
  rw [show y - x = -(x - y) by omega]; exact (Int.dvd_neg).mpr h
theorem res_eq {S f g : Int} (f0 : 0 ≤ f) (f1 : f < S) (g0 : 0 ≤ g) (g1 : g < S) (h : S ∣ f - g) : f = g := by
  obtain ⟨c, hc⟩ := h
  have h1 : c < 1 := by
    refine Int.not_le.mp fun z => ?_
    have := Int.mul_le_mul_of_nonneg_left z (show 0 ≤ S by omega)
    omega
  have h2 : -1 < c := by
    refine Int.not_le.mp fun z => ?_
    have := Int.mul_le_mul_of_nonneg_left z (show 0 ≤ S by omega)
    omega
  have : c = 0 := by omega
  rw [this, Int.mul_zero] at hc
  omega
/-- families that stand apart, no two of which are halves -/
structure Nrm (w : Nat) (S : Fam) : Prop where
  wf : WfF w S
  ap : Apart S
  ir : ∀ k, 1 ≤ k → k ≤ w → Irr S k
section
variable {w : Nat} {S T : Fam}
theorem Nrm.inner (N : Nrm w S) {g : Int} {d : Nat} (full : ∀ x, (2 : Int) ^ d ∣ x - g → Cover S x) : ∀ (n : Nat) (k : Nat) (h : Int), w - k = n → d < k → S h k → (2 : Int) ^ d ∣ h - g → False := by
  intro n
  induction n using Nat.strongRecOn with
  | _ n ih =>
    intro k h hn dk hk hg
    obtain ⟨h0, h1, kw⟩ := N.wf h k hk
    have e : (2 : Int) ^ k = 2 ^ (k - 1) * 2 := by rw [← Int.pow_succ, show (k - 1).succ = k by omega]
    have hp := gposR (k - 1)
    -- the other half
    obtain ⟨y, hy⟩ : ∃ y, y = if h < 2 ^ (k - 1) then h + 2 ^ (k - 1) else h - 2 ^ (k - 1) := ⟨_, rfl⟩
    have hyb : 0 ≤ y ∧ y < 2 ^ k ∧ (y = h + 2 ^ (k - 1) ∨ y = h - 2 ^ (k - 1)) := by
      split at hy <;> omega
    have hyh : (2 : Int) ^ (k - 1) ∣ y - h := by
      rcases hyb.2.2 with z | z
      · exact ⟨1, by omega⟩
      · exact ⟨-1, by omega⟩
    have hyg : (2 : Int) ^ d ∣ y - g := dvT (Int.dvd_trans (gppR (by omega)) hyh) hg
    obtain ⟨m, j, hm, dm⟩ := full y hyg
    obtain ⟨m0, m1, jw⟩ := N.wf m j hm
    rcases Nat.lt_trichotomy j k with lt | eq | gt
    · have d2 : (2 : Int) ^ j ∣ h - m := dvT (dvS (Int.dvd_trans (gppR (by omega)) hyh)) dm
      have := (N.ap h k m j h hk hm (by rw [Int.sub_self]; exact Int.dvd_zero _) d2).2
      omega
    · subst eq
      have ym : y = m := res_eq hyb.1 hyb.2.1 m0 m1 dm
      subst ym
      split at hy
      · rename_i c
        exact N.ir j (by omega) jw h c ⟨hk, by rw [← hy]; exact hm⟩
      · rename_i c
        exact N.ir j (by omega) jw y (by omega) ⟨hm, by rw [show y + 2 ^ (j - 1) = h by omega]; exact hk⟩
    · exact ih (w - j) (by omega) j m rfl (by omega) hm (dvT (dvS (Int.dvd_trans (gppR (by omega)) dm)) hyg)
/-- a ball all of whose numbers are covered lies in one family -/
theorem Nrm.ball (N : Nrm w S) {g : Int} {d : Nat} (full : ∀ x, (2 : Int) ^ d ∣ x - g → Cover S x) : ∃ h k, S h k ∧ k ≤ d ∧ (2 : Int) ^ k ∣ g - h := by
  obtain ⟨h, k, hk, hd⟩ := full g (by rw [Int.sub_self]; exact Int.dvd_zero _)
  by_cases z : k ≤ d
  · exact ⟨h, k, hk, z, hd⟩
  · exact (N.inner full _ k h rfl (by omega) hk (dvS (Int.dvd_trans (gppR (by omega)) hd))).elim
theorem Nrm.sub (N : Nrm w S) (M : Nrm w T) (e : ∀ x, Cover S x ↔ Cover T x) {f : Int} {k : Nat} (h : S f k) : T f k := by
  obtain ⟨f0, f1, kw⟩ := N.wf f k h
  obtain ⟨g, d, hg, dk, dg⟩ := M.ball (g := f) (d := k) fun x hx => (e x).mp ⟨f, k, h, hx⟩
  obtain ⟨g0, g1, dw⟩ := M.wf g d hg
  obtain ⟨a, j, ha, jd, da⟩ := N.ball (g := g) (d := d) fun x hx => (e x).mpr ⟨g, d, hg, hx⟩
  obtain ⟨rfl, rfl⟩ := N.ap f k a j f h ha (by rw [Int.sub_self]; exact Int.dvd_zero _) (dvT (Int.dvd_trans (gppR jd) dg) da)
  obtain rfl : d = k := by omega
  rw [res_eq f0 f1 g0 g1 dg]
  exact hg
theorem Nrm.uniq (N : Nrm w S) (M : Nrm w T) (e : ∀ x, Cover S x ↔ Cover T x) (f : Int) (k : Nat) : S f k ↔ T f k := ⟨N.sub M e, M.sub N fun x => (e x).symm⟩
end
/-! ### rows of pairs, told by their numbers -/
abbrev FL := List (Int × Nat)
abbrev ltF (x y : Int × Nat) : Prop := x.1 < y.1 ∨ (x.1 = y.1 ∧ x.2 < y.2)
/-- a row of pairs -/
inductive PRow (H : Hp) : List V → FL → Prop
  | nil : PRow H [] []
  | cons {q : Addr} {f : Int} {e : Nat} {rs : List V} {fl : FL} : H q = some (.tup [.int f, .int (e : Int)]) → PRow H rs fl → PRow H (.ref q :: rs) ((f, e) :: fl)
section
variable {H H' : Hp} {rs : List V} {fl : FL}
theorem PRow.keep (h : PRow H rs fl) (s : ∀ q f e, H q = some (.tup [.int f, .int e]) → H' q = some (.tup [.int f, .int e])) : PRow H' rs fl := by
  induction h with
  | nil => exact .nil
  | cons h _ ih => exact .cons (s _ _ _ h) ih
theorem PRow.same (h : PRow H rs fl) (s : Same H H') : PRow H' rs fl := h.keep fun q _ _ e => s q _ e
theorem PRow.len (h : PRow H rs fl) : rs.length = fl.length := by
  induction h with
  | nil => rfl
  | cons _ _ ih => rw [List.length_cons, List.length_cons, ih]
theorem PRow.get (h : PRow H rs fl) : ∀ {i : Nat} {x : V}, rs[i]? = some x → ∃ (q : Addr) (f : Int) (e : Nat), x = .ref q ∧ H q = some (.tup [.int f, .int (e : Int)]) ∧ fl[i]? = some (f, e) := by
  induction h with
  | nil => intro i x h; cases h
  | @cons q f e _ _ h _ ih =>
    intro i x hx
    cases i with
    | zero => exact ⟨q, f, e, (Option.some.inj hx).symm, h, rfl⟩
    | succ i => exact ih hx
theorem PRow.hit (h : PRow H rs fl) : ∀ {i : Nat} {f : Int} {e : Nat}, fl[i]? = some (f, e) → ∃ q : Addr, rs[i]? = some (.ref q) ∧ H q = some (.tup [.int f, .int (e : Int)]) := by
  induction h with
  | nil => intro i f e h; cases h
  | @cons q f e _ _ h _ ih =>
    intro i f' e' hx
    cases i with
    | zero =>
      obtain ⟨rfl, rfl⟩ := Prod.mk.inj (Option.some.inj hx)
      exact ⟨q, rfl, h⟩
    | succ i => exact ih hx
theorem PRow.app {rs' : List V} {fl' : FL} (h : PRow H rs fl) (g : PRow H rs' fl') : PRow H (rs ++ rs') (fl ++ fl') := by
  induction h with
  | nil => exact g
  | cons h _ ih => exact .cons h ih
theorem PRow.add {q : Addr} {f : Int} {e : Nat} (h : PRow H rs fl) (hq : H q = some (.tup [.int f, .int (e : Int)])) : PRow H (rs ++ [.ref q]) (fl ++ [(f, e)]) := h.app (.cons hq .nil)
/-- a row from its values -/
theorem row_of_vals (h : ∀ r ∈ rs, ∃ (q : Addr) (f : Int) (e : Nat), r = .ref q ∧ H q = some (.tup [.int f, .int (e : Int)])) : PRow H rs (rs.map fun v => ((kOf H v).1, (kOf H v).2.toNat)) := by
  induction rs with
  | nil => exact .nil
  | cons r rs ih =>
    obtain ⟨q, f, e, rfl, hq⟩ := h r List.mem_cons_self
    rw [List.map_cons, kOf_at hq]
    exact .cons hq (ih fun r hr => h r (List.mem_cons_of_mem _ hr))
theorem PRow.dp {K : PySem.W.Frag} (h : PRow H rs fl) : DpAll K H rs (fl.map fun p => PyData.tuple [.int p.1, .int (p.2 : Int)]) := by
  induction h with
  | nil => exact .nil
  | cons h _ ih => exact .cons (.tup (SqT.of h) (.cons (.int _) (.cons (.int _) .nil))) ih
end
theorem srt_uniq : ∀ {l m : FL}, l.Pairwise ltF → m.Pairwise ltF → (∀ x, x ∈ l ↔ x ∈ m) → l = m := by
  intro l
  induction l with
  | nil =>
    intro m _ _ h
    cases m with
    | nil => rfl
    | cons x m => exact absurd ((h x).mpr List.mem_cons_self) List.not_mem_nil
  | cons x l ih =>
    intro m hl hm h
    cases m with
    | nil => exact absurd ((h x).mp List.mem_cons_self) List.not_mem_nil
    | cons y m =>
      obtain ⟨hx, hl'⟩ := List.pairwise_cons.mp hl
      obtain ⟨hy, hm'⟩ := List.pairwise_cons.mp hm
      have irr : ∀ z : Int × Nat, ¬ ltF z z := fun z c => by rcases c with c | c <;> omega
      have e : x = y := by
        rcases List.mem_cons.mp ((h x).mp List.mem_cons_self) with e | a
        · exact e
        rcases List.mem_cons.mp ((h y).mpr List.mem_cons_self) with e | b
        · exact e.symm
        have c1 := hy x a
        have c2 := hx y b
        exact absurd (show ltF x x by rcases c1 with c1 | c1 <;> rcases c2 with c2 | c2 <;> (unfold ltF; omega)) (irr x)
      subst e
      congr 1
      refine ih hl' hm' fun z => ⟨fun hz => ?_, fun hz => ?_⟩
      · rcases List.mem_cons.mp ((h z).mp (List.mem_cons_of_mem _ hz)) with e | a
        · subst e; exact absurd (hx z hz) (irr z)
        · exact a
      · rcases List.mem_cons.mp ((h z).mpr (List.mem_cons_of_mem _ hz)) with e | a
        · subst e; exact absurd (hy z hz) (irr z)
        · exact a
abbrev famL (fl : FL) : Fam := fun f e => (f, e) ∈ fl
/-- the ascending row of families that stand apart, no two of which are halves -/
structure NRow (w : Nat) (fl : FL) : Prop where
  srt : fl.Pairwise ltF
  nrm : Nrm w (famL fl)
theorem NRow.uniq {w : Nat} {fl gl : FL} (a : NRow w fl) (b : NRow w gl) (e : ∀ x, Cover (famL fl) x ↔ Cover (famL gl) x) : fl = gl := srt_uniq a.srt b.srt fun x => a.nrm.uniq b.nrm e x.1 x.2
theorem NRow.nil {w : Nat} : NRow w [] := ⟨.nil, ⟨fun _ _ h => (by cases h), fun _ _ _ _ _ h => (by cases h), fun _ _ _ _ _ h => (by cases h.1)⟩⟩
theorem NRow.one {w : Nat} {f : Int} {e : Nat} (f0 : 0 ≤ f) (f1 : f < 2 ^ e) (ew : e ≤ w) : NRow w [(f, e)] :=
  ⟨List.pairwise_singleton _ _, ⟨fun g d h => by obtain ⟨rfl, rfl⟩ := Prod.mk.inj (List.mem_singleton.mp h); exact ⟨f0, f1, ew⟩, fun g d g' d' x h h' _ _ => by
    obtain ⟨rfl, rfl⟩ := Prod.mk.inj (List.mem_singleton.mp h)
    obtain ⟨rfl, rfl⟩ := Prod.mk.inj (List.mem_singleton.mp h')
    exact ⟨rfl, rfl⟩, fun k k1 kw g hg h => by
    obtain ⟨rfl, rfl⟩ := Prod.mk.inj (List.mem_singleton.mp h.1)
    obtain ⟨z, _⟩ := Prod.mk.inj (List.mem_singleton.mp h.2)
    have := gposR (k - 1)
    omega⟩⟩
theorem cover_one {f x : Int} {e : Nat} : Cover (famL [(f, e)]) x ↔ (2 : Int) ^ e ∣ x - f := ⟨fun ⟨g, d, h, c⟩ => by
  obtain ⟨rfl, rfl⟩ := Prod.mk.inj (List.mem_singleton.mp h)
  exact c, fun h => ⟨f, e, List.mem_singleton.mpr rfl, h⟩⟩
/-- a list object that holds the families of just those of which P speaks -/
def FamRow (H : Hp) (q : Addr) (w : Nat) (P : Int → Prop) : Prop := ∃ out fl, H q = some (.lst out) ∧ PRow H out fl ∧ NRow w fl ∧ (∀ x, Cover (famL fl) x ↔ P x) ∧ fl.length ≤ 2000
theorem FamRow.same {H H' : Hp} {q : Addr} {w : Nat} {P : Int → Prop} (h : FamRow H q w P) (s : Same H H') : FamRow H' q w P := by
  obtain ⟨out, fl, a, b, c, d, e⟩ := h
  exact ⟨out, fl, s _ _ a, b.same s, c, d, e⟩
theorem cover_nil {x : Int} : ¬ Cover (famL []) x := fun ⟨_, _, h, _⟩ => by cases h
/-- the first pairs of an object's list are those of a row -/
theorem FamRow.list {H : Hp} {q : Addr} {w : Nat} {P : Int → Prop} {gl : FL} (h : FamRow H q w P) (n : NRow w gl) (e : ∀ x, Cover (famL gl) x ↔ P x) : ∃ out, H q = some (.lst out) ∧ PRow H out gl := by
  obtain ⟨out, fl, a, b, c, d, _⟩ := h
  rw [c.uniq n fun x => (d x).trans (e x).symm] at b
  exact ⟨out, a, b⟩
/-- what joined hands back, by its dict's keys -/
theorem joined_row {H : Hp} {kvs : List (List Key × V)} {bs : List Addr} {out : List V} (nd : (kvs.map (·.1)).Nodup) (sh : ∀ x ∈ kvs, ∃ (f : Int) (e : Nat), x.1 = fk f e ∧ 0 ≤ f) (hbs : IsKeys H kvs bs) (so : SrtO.Srtd (ltP (kOf H)) out) (pm : out.Perm (bs.map V.ref)) :
    ∃ fl : FL, PRow H out fl ∧ fl.Pairwise ltF ∧ (fun f e => (f, e) ∈ fl) = famD kvs := by
  have vals : ∀ r ∈ out, ∃ (q : Addr) (f : Int) (e : Nat), r = .ref q ∧ H q = some (.tup [.int f, .int (e : Int)]) ∧ famD kvs f e := fun r hr => by
    obtain ⟨b, hb, rfl⟩ := List.mem_map.mp (pm.mem_iff.mp hr)
    obtain ⟨j, hj⟩ := List.getElem?_of_mem hb
    obtain ⟨x, hx, hbx⟩ := L2.DX.pget hbs hj
    obtain ⟨f, e, ex, _⟩ := sh x (List.mem_of_getElem? hx)
    rw [ex] at hbx
    exact ⟨b, f, e, rfl, hbx, List.mem_map.mpr ⟨x, List.mem_of_getElem? hx, ex⟩⟩
  have back : ∀ f e, famD kvs f e → ∃ q : Addr, V.ref q ∈ out ∧ H q = some (.tup [.int f, .int (e : Int)]) := fun f e h => by
    obtain ⟨x, hx, ex⟩ := List.mem_map.mp h
    obtain ⟨j, hj⟩ := List.getElem?_of_mem hx
    have jl : j < bs.length := by rw [← Paired.length hbs]; exact (List.getElem?_eq_some_iff.mp hj).1
    have hb : bs[j]? = some bs[j] := List.getElem?_eq_getElem jl
    obtain ⟨y, hy, hbx⟩ := L2.DX.pget hbs hb
    rw [hj] at hy
    obtain rfl := Option.some.inj hy
    rw [ex] at hbx
    exact ⟨bs[j], pm.mem_iff.mpr (List.mem_map.mpr ⟨_, List.getElem_mem jl, rfl⟩), hbx⟩
  have ks : ((bs.map V.ref).map (kOf H)).Nodup := by
    have go : ∀ {kvs : List (List Key × V)} {bs : List Addr}, Paired (fun p b => H b = some (.tup (p.1.map kV))) kvs bs → (∀ x ∈ kvs, ∃ (f : Int) (e : Nat), x.1 = fk f e ∧ 0 ≤ f) → (kvs.map (·.1)).Nodup → ((bs.map V.ref).map (kOf H)).Nodup ∧ ∀ z ∈ (bs.map V.ref).map (kOf H), ∃ (f : Int) (e : Nat), z = (f, (e : Int)) ∧ fk f e ∈ kvs.map (·.1) := fun {kvs bs} h => by
      induction h with
      | nil => exact fun _ _ => ⟨.nil, fun z h => (by cases h)⟩
      | @cons x b kvs bs h1 _ ih =>
        intro sh nd
        obtain ⟨n1, n2⟩ := List.nodup_cons.mp (by rw [List.map_cons] at nd; exact nd)
        obtain ⟨i1, i2⟩ := ih (fun y hy => sh y (List.mem_cons_of_mem _ hy)) n2
        obtain ⟨f, e, ex, _⟩ := sh x List.mem_cons_self
        rw [ex] at h1 n1
        have h1 : H b = some (.tup [.int f, .int (e : Int)]) := h1
        rw [List.map_cons, List.map_cons, kOf_at h1]
        refine ⟨List.nodup_cons.mpr ⟨fun z => ?_, i1⟩, fun z hz => ?_⟩
        · obtain ⟨f', e', ez, m⟩ := i2 _ z
          obtain ⟨rfl, e2⟩ := Prod.mk.inj ez
          obtain rfl : e = e' := by omega
          exact n1 m
        · rcases List.mem_cons.mp hz with rfl | hz
          · exact ⟨f, e, rfl, by rw [List.map_cons, ex]; exact List.mem_cons_self⟩
          · obtain ⟨f', e', ez, m⟩ := i2 _ hz
            exact ⟨f', e', ez, by rw [List.map_cons]; exact List.mem_cons_of_mem _ m⟩
    exact (go hbs sh nd).1
  have ko : (out.map (kOf H)).Nodup := (pm.map (kOf H)).nodup_iff.mpr ks
  refine ⟨_, row_of_vals fun r hr => ?_, ?_, ?_⟩
  · obtain ⟨q, f, e, a, b, _⟩ := vals r hr
    exact ⟨q, f, e, a, b⟩
  · rw [List.pairwise_map]
    rw [List.Nodup, List.pairwise_map] at ko
    refine List.Pairwise.imp_of_mem (fun {a b} ha hb h => ?_) (List.Pairwise.and so ko)
    obtain ⟨q, f, e, rfl, hq, _⟩ := vals a ha
    obtain ⟨q', f', e', rfl, hq', _⟩ := vals b hb
    obtain ⟨h1, h2⟩ := h
    unfold ltP at h1
    rw [kOf_at hq, kOf_at hq'] at h1 h2 ⊢
    have h1 := SrtO.lexB_no.mp h1
    simp only at h1
    show f < f' ∨ (f = f' ∧ (e : Int).toNat < (e' : Int).toNat)
    rcases Int.lt_trichotomy f f' with z | z | z
    · exact .inl z
    · refine .inr ⟨z, ?_⟩
      subst z
      have : e ≠ e' := fun z => h2 (by rw [z])
      omega
    · omega
  · funext f e
    refine propext ⟨fun h => ?_, fun h => ?_⟩
    · obtain ⟨r, hr, er⟩ := List.mem_map.mp h
      obtain ⟨q, f', e', rfl, hq, hs⟩ := vals r hr
      rw [kOf_at hq] at er
      obtain ⟨rfl, rfl⟩ := Prod.mk.inj er
      exact hs
    · obtain ⟨q, hr, hq⟩ := back f e h
      refine List.mem_map.mpr ⟨_, hr, ?_⟩
      rw [kOf_at hq]; rfl

/-! ### rows compared -/
theorem sh_nilR : SeqAt.shaped (.list []) = true := by
  unfold SeqAt.shaped
  simp [PyData.canLay0, PyData.canLayAll0, PyData.depth, PyData.depthAll]
theorem w_neNil {K : PySem.W.Frag} {H : Hp} {Q : VK} {a b : Addr} (ha : H a = some (.lst [])) (hb : H b = some (.lst [])) (q : Q (.bl false) H) : rNeD K (.ref a) (.ref b) H Q := by
  refine w_neDg (.lst (SqL.of ha) .nil) (.lst (SqL.of hb) .nil) sh_nilR sh_nilR ?_
  rw [show PyData.eqv (.list []) (.list []) = true from PySem.SeqAt.eqv_refl _ (by simp [PyData.canLay0, PyData.canLayAll0])]; exact q
abbrev rowD (fl : FL) : PyData := .list (fl.map fun p => PyData.tuple [.int p.1, .int (p.2 : Int)])
theorem row_lay (fl : FL) : (rowD fl).canLay0 = true ∧ (rowD fl).depth ≤ 2 := by
  have h : ∀ fl : FL, PyData.canLayAll0 (fl.map fun p => PyData.tuple [.int p.1, .int (p.2 : Int)]) = true ∧ PyData.depthAll (fl.map fun p => PyData.tuple [.int p.1, .int (p.2 : Int)]) ≤ 1 := fun fl => by
    induction fl with
    | nil => simp [PyData.canLayAll0, PyData.depthAll]
    | cons p fl ih =>
      rw [List.map_cons]
      simp only [PyData.canLay0, PyData.canLayAll0, PyData.depth, PyData.depthAll]
      refine ⟨by simp [ih.1], by have := ih.2; omega⟩
  have g := h fl
  simp only [rowD, PyData.canLay0, PyData.depth]
  exact ⟨g.1, by have := g.2; omega⟩
theorem sh_row (fl : FL) : SeqAt.shaped (rowD fl) = true := by
  unfold SeqAt.shaped
  rw [(row_lay fl).1, Bool.true_and]
  exact decide_eq_true (Nat.le_trans (row_lay fl).2 (by decide))
theorem w_eqRow {K : PySem.W.Frag} {H : Hp} {Q : VK} {a b : Addr} {as bs : List V} {fl : FL} (ha : H a = some (.lst as)) (ra : PRow H as fl) (hb : H b = some (.lst bs)) (rb : PRow H bs fl) (q : Q (.bl true) H) : rEqD K (.ref a) (.ref b) H Q := by
  refine w_eqDg (.lst (SqL.of ha) ra.dp) (.lst (SqL.of hb) rb.dp) (sh_row fl) (sh_row fl) ?_
  rw [show PyData.eqv (.list (fl.map fun p => PyData.tuple [.int p.1, .int (p.2 : Int)])) (.list (fl.map fun p => PyData.tuple [.int p.1, .int (p.2 : Int)])) = true from PySem.SeqAt.eqv_refl _ (row_lay fl).1]; exact q
theorem w_neRow {K : PySem.W.Frag} {H : Hp} {Q : VK} {a b : Addr} {as bs : List V} {fl : FL} (ha : H a = some (.lst as)) (ra : PRow H as fl) (hb : H b = some (.lst bs)) (rb : PRow H bs fl) (q : Q (.bl false) H) : rNeD K (.ref a) (.ref b) H Q := by
  refine w_neDg (.lst (SqL.of ha) ra.dp) (.lst (SqL.of hb) rb.dp) (sh_row fl) (sh_row fl) ?_
  rw [show PyData.eqv (.list (fl.map fun p => PyData.tuple [.int p.1, .int (p.2 : Int)])) (.list (fl.map fun p => PyData.tuple [.int p.1, .int (p.2 : Int)])) = true from PySem.SeqAt.eqv_refl _ (row_lay fl).1]; exact q

theorem PRow.k {H : Hp} {rs : List V} {fl : FL} (r : PRow H rs fl) : ∀ x ∈ rs, ∃ t, x = V.ref t ∧ H t = some (.tup [.int (kOf H x).1, .int (kOf H x).2]) := fun x hx => by
  obtain ⟨i, hi⟩ := List.getElem?_of_mem hx
  obtain ⟨q, f, e, rfl, hq, _⟩ := r.get hi
  refine ⟨q, rfl, ?_⟩
  rw [kOf_at hq]; exact hq
theorem PRow.srtd {H : Hp} {rs : List V} {fl : FL} (r : PRow H rs fl) (s : fl.Pairwise ltF) : SrtO.Srtd (ltP (kOf H)) rs := by
  induction r with
  | nil => exact .nil
  | @cons q f e rs fl hq r ih =>
    obtain ⟨h1, h2⟩ := List.pairwise_cons.mp s
    refine List.pairwise_cons.mpr ⟨fun y hy => ?_, ih h2⟩
    obtain ⟨i, hi⟩ := List.getElem?_of_mem hy
    obtain ⟨q', f', e', rfl, hq', hf⟩ := r.get hi
    have := h1 _ (List.mem_of_getElem? hf)
    unfold ltP
    rw [kOf_at hq, kOf_at hq']
    refine SrtO.lexB_no.mpr ?_
    show ¬ (f' < f ∨ (f' = f ∧ (e' : Int) < (e : Int)))
    have h3 : f < f' ∨ (f = f' ∧ e < e') := this
    omega
theorem w_sortRow {K : PySem.W.Frag} {H : Hp} {Q : VK} {a : Addr} {out : List V} {fl : FL} (h : H a = some (.lst out)) (r : PRow H out fl) (s : fl.Pairwise ltF) (q : ∀ l, H l = none → Q (.ref l) (upd H l (.lst out))) : rSortedPO K [.ref a] H Q :=
  ⟨a, out, kOf H, rfl, SqL.of h, r.k, fun ys l so st hl => by
    rw [SrtO.stb_uniq (ltP_swo _) so (r.srtd s) st]
    exact q l hl⟩

theorem w_sumR {K : PySem.W.Frag} {H : Hp} {Q : VK} {a : Addr} {ns : List Int} (h : H a = some (.lst (ns.map V.int))) (q : Q (.int ns.sum) H) : rSum K [.ref a] H Q := ⟨a, ns, rfl, SqL.of h, q⟩

/-- how many families of a row a number is of -/
def cntF (y : Int) (fl : FL) : Nat := (fl.filter fun p => decide ((y - p.1) % 2 ^ p.2 = 0)).length
theorem cntF_app (y : Int) (fl : FL) (p : Int × Nat) : cntF y (fl ++ [p]) = cntF y fl + if (y - p.1) % 2 ^ p.2 = 0 then 1 else 0 := by
  unfold cntF
  rw [List.filter_append, List.length_append]
  congr 1
  by_cases h : (y - p.1) % 2 ^ p.2 = 0
  · rw [if_pos h]; simp [h]
  · rw [if_neg h]; simp [h]
theorem cntF_one {w : Nat} {fl : FL} (n : NRow w fl) {y : Int} (c : Cover (famL fl) y) : cntF y fl = 1 := by
  obtain ⟨f, e, hm, hd⟩ := c
  have mem : (f, e) ∈ fl.filter fun p => decide ((y - p.1) % 2 ^ p.2 = 0) := List.mem_filter.mpr ⟨hm, decide_eq_true (Int.emod_eq_zero_of_dvd hd)⟩
  have all : ∀ x ∈ fl.filter (fun p => decide ((y - p.1) % 2 ^ p.2 = 0)), x = (f, e) := fun x hx => by
    obtain ⟨h1, h2⟩ := List.mem_filter.mp hx
    obtain ⟨a, b⟩ := n.nrm.ap x.1 x.2 f e y h1 hm (Int.dvd_of_emod_eq_zero (of_decide_eq_true h2)) hd
    exact Prod.ext a b
  have srt := n.srt.sublist (List.filter_sublist (l := fl) (p := fun p => decide ((y - p.1) % 2 ^ p.2 = 0)))
  unfold cntF
  revert mem all srt
  generalize fl.filter (fun p => decide ((y - p.1) % 2 ^ p.2 = 0)) = gl
  intro mem all srt
  match gl with
  | [] => cases mem
  | [x] => rfl
  | x :: z :: gl =>
    have h := (List.pairwise_cons.mp srt).1 z List.mem_cons_self
    rw [all x List.mem_cons_self, all z (by simp)] at h
    rcases h with h | h <;> omega
end Fw
namespace Fw
/-! ### polynomials, by the lists of their coefficients -/
def pvl : List Int → Int → Int
  | [], _ => 0
  | c :: cs, x => c + x * pvl cs x
theorem pv_cong {S : Int} : ∀ {cs ds : List Int} {x y : Int}, cs.length = ds.length → (∀ (i : Nat) (c d : Int), cs[i]? = some c → ds[i]? = some d → S ∣ c - d) → S ∣ x - y → S ∣ pvl cs x - pvl ds y
  | [], [], x, y, _, _, _ => by show S ∣ (0 : Int) - 0; rw [Int.sub_self]; exact Int.dvd_zero _
  | c :: cs, d :: ds, x, y, hl, h, hx => by
    have ih := pv_cong (cs := cs) (ds := ds) (by simpa using hl) (fun i c d h1 h2 => h (i + 1) c d h1 h2) hx
    have h0 := h 0 c d rfl rfl
    show S ∣ (c + x * pvl cs x) - (d + y * pvl ds y)
    rw [show (c + x * pvl cs x) - (d + y * pvl ds y) = (c - d) + (x * (pvl cs x - pvl ds y) + (x - y) * pvl ds y) by rw [Int.mul_sub, Int.sub_mul]; omega]
    exact Int.dvd_add h0 (Int.dvd_add (Int.dvd_trans ih (Int.dvd_mul_left _ _)) (Int.dvd_trans hx (Int.dvd_mul_right _ _)))
  | [], d :: ds, _, _, hl, _, _ => by simp at hl
  | c :: cs, [], _, _, hl, _, _ => by simp at hl
theorem pv_congx {S : Int} (cs : List Int) {x y : Int} (h : S ∣ x - y) : S ∣ pvl cs x - pvl cs y := pv_cong rfl (fun i c d h1 h2 => by
  rw [h1] at h2
  obtain rfl := Option.some.inj h2
  rw [Int.sub_self]; exact Int.dvd_zero _) h
theorem pv_map_mod {S : Int} (cs : List Int) (x : Int) : S ∣ pvl (cs.map (· % S)) x - pvl cs x := pv_cong (by rw [List.length_map]) (fun i c d h1 h2 => by
  rw [List.getElem?_map, h2] at h1
  obtain rfl := Option.some.inj h1
  exact Int.dvd_emod_sub_self) (by rw [Int.sub_self]; exact Int.dvd_zero _)
theorem pv_mul (s : Int) : ∀ (cs : List Int) (x : Int), pvl (cs.map (s * ·)) x = s * pvl cs x
  | [], _ => by show (0 : Int) = s * 0; rw [Int.mul_zero]
  | c :: cs, x => by
    show s * c + x * pvl (cs.map (s * ·)) x = s * (c + x * pvl cs x)
    rw [pv_mul s cs x, Int.mul_add, Int.mul_left_comm]
theorem pv_zero (cs : List Int) : pvl cs 0 = cs.headD 0 := by
  cases cs with
  | nil => rfl
  | cons c cs => show c + 0 * _ = c; rw [Int.zero_mul, Int.add_zero]
theorem pv_one : ∀ cs : List Int, pvl cs 1 = cs.sum
  | [] => rfl
  | c :: cs => by
    show c + 1 * pvl cs 1 = (c :: cs).sum
    rw [pv_one cs, Int.one_mul, List.sum_cons]
theorem pv_append : ∀ (as bs : List Int) (x : Int), pvl (as ++ bs) x = pvl as x + x ^ as.length * pvl bs x
  | [], bs, x => by
    show pvl bs x = 0 + x ^ 0 * pvl bs x
    rw [Int.pow_zero, Int.one_mul, Int.zero_add]
  | a :: as, bs, x => by
    show a + x * pvl (as ++ bs) x = (a + x * pvl as x) + x ^ (as.length + 1) * pvl bs x
    rw [pv_append as bs x, Int.mul_add, Int.pow_succ, Int.mul_comm (x ^ as.length) x, Int.mul_assoc]
    omega
/-- the coefficients at 2 * t -/
def dbl : Nat → List Int → List Int
  | _, [] => []
  | i, c :: cs => c * 2 ^ i :: dbl (i + 1) cs
theorem pv_dbl (x : Int) : ∀ (cs : List Int) (i : Nat), pvl (dbl i cs) x = 2 ^ i * pvl cs (2 * x)
  | [], i => by show (0 : Int) = _ * 0; rw [Int.mul_zero]
  | c :: cs, i => by
    show c * 2 ^ i + x * pvl (dbl (i + 1) cs) x = 2 ^ i * (c + 2 * x * pvl cs (2 * x))
    rw [pv_dbl x cs (i + 1), Int.pow_succ, Int.mul_add, Int.mul_comm c]
    congr 1
    rw [Int.mul_left_comm x, Int.mul_assoc, Int.mul_assoc]
theorem dbl_len : ∀ (cs : List Int) (i : Nat), (dbl i cs).length = cs.length
  | [], _ => rfl
  | c :: cs, i => by show (dbl (i + 1) cs).length + 1 = _; rw [dbl_len cs]; rfl
theorem dbl_get : ∀ (cs : List Int) (i j : Nat), (dbl i cs)[j]? = cs[j]?.map (· * 2 ^ (i + j))
  | [], _, _ => rfl
  | c :: cs, i, 0 => rfl
  | c :: cs, i, j + 1 => by
    show (dbl (i + 1) cs)[j]? = cs[j]?.map _
    rw [dbl_get cs (i + 1) j, show i + 1 + j = i + (j + 1) by omega]
/-- the coefficients at t + 1 -/
def addL : List Int → List Int → List Int
  | [], bs => bs
  | as, [] => as
  | a :: as, b :: bs => (a + b) :: addL as bs
def shf : List Int → List Int
  | [] => []
  | c :: cs => addL (c :: shf cs) (shf cs ++ [0])
theorem addL_len : ∀ {as bs : List Int}, as.length = bs.length → (addL as bs).length = as.length
  | [], [], _ => rfl
  | a :: as, b :: bs, h => by show (addL as bs).length + 1 = _; rw [addL_len (by simpa using h)]; rfl
  | [], b :: bs, h => by simp at h
  | a :: as, [], h => by simp at h
theorem shf_len : ∀ cs : List Int, (shf cs).length = cs.length
  | [] => rfl
  | c :: cs => by
    show (addL (c :: shf cs) (shf cs ++ [0])).length = _
    rw [addL_len (by simp), List.length_cons, shf_len cs]; rfl
theorem pv_addL (x : Int) : ∀ {as bs : List Int}, as.length = bs.length → pvl (addL as bs) x = pvl as x + pvl bs x
  | [], [], _ => rfl
  | a :: as, b :: bs, h => by
    show (a + b) + x * pvl (addL as bs) x = (a + x * pvl as x) + (b + x * pvl bs x)
    rw [pv_addL x (by simpa using h), Int.mul_add]; omega
  | [], b :: bs, h => by simp at h
  | a :: as, [], h => by simp at h
theorem pv_shf (x : Int) : ∀ cs : List Int, pvl (shf cs) x = pvl cs (x + 1)
  | [] => rfl
  | c :: cs => by
    show pvl (addL (c :: shf cs) (shf cs ++ [0])) x = c + (x + 1) * pvl cs (x + 1)
    rw [pv_addL x (by simp), pv_append]
    show (c + x * pvl (shf cs) x) + (pvl (shf cs) x + x ^ _ * (0 + x * 0)) = _
    rw [pv_shf x cs, Int.mul_zero, Int.add_zero, Int.mul_zero, Int.add_mul, Int.one_mul]; omega
theorem addL_get : ∀ {as bs : List Int} {i : Nat} {c : Int}, as.length = bs.length → (addL as bs)[i]? = some c → ∃ a b, as[i]? = some a ∧ bs[i]? = some b ∧ c = a + b
  | [], [], _, _, _, h => by cases h
  | a :: as, b :: bs, 0, c, _, h => ⟨a, b, rfl, rfl, (Option.some.inj h).symm⟩
  | a :: as, b :: bs, i + 1, c, hl, h => addL_get (as := as) (bs := bs) (by simpa using hl) h
  | [], b :: bs, _, _, h, _ => by simp at h
  | a :: as, [], _, _, h, _ => by simp at h
theorem addL_of : ∀ {as bs : List Int} {i : Nat} {a b : Int}, as[i]? = some a → bs[i]? = some b → (addL as bs)[i]? = some (a + b)
  | [], _, _, _, _, h, _ => by cases h
  | a :: as, [], _, _, _, _, h => by cases h
  | a :: as, b :: bs, 0, _, _, h1, h2 => by
    obtain rfl := Option.some.inj h1
    obtain rfl := Option.some.inj h2
    rfl
  | a :: as, b :: bs, i + 1, _, _, h1, h2 => addL_of (as := as) (bs := bs) h1 h2
/-- sizes -/
theorem shf_bound {M : Nat} : ∀ {cs : List Int}, (∀ c ∈ cs, c.natAbs ≤ M) → ∀ c ∈ shf cs, c.natAbs ≤ 2 ^ cs.length * M
  | [], _, c, hc => by cases hc
  | d :: cs, h, c, hc => by
    obtain ⟨i, hi⟩ := List.getElem?_of_mem hc
    obtain ⟨a, b, ha, hb, rfl⟩ := addL_get (by simp) hi
    have ih := shf_bound (M := M) (cs := cs) (fun c hc => h c (List.mem_cons_of_mem _ hc))
    have p1 : 1 ≤ 2 ^ cs.length := Nat.one_le_two_pow
    have p2 : M ≤ 2 ^ cs.length * M := Nat.le_mul_of_pos_left M p1
    have ea : a.natAbs ≤ 2 ^ cs.length * M := by
      rcases List.mem_cons.mp (List.mem_of_getElem? ha) with e | e
      · rw [e]; exact Nat.le_trans (h d List.mem_cons_self) p2
      · exact ih a e
    have eb : b.natAbs ≤ 2 ^ cs.length * M := by
      rcases List.mem_append.mp (List.mem_of_getElem? hb) with e | e
      · exact ih b e
      · rw [List.mem_singleton.mp e]; exact Nat.zero_le _
    rw [List.length_cons, Nat.pow_succ, Nat.mul_comm (2 ^ cs.length) 2, Nat.mul_assoc]
    omega
/-- coefficients are told by values -/
theorem pv_uniq : ∀ {as bs : List Int}, as.length = bs.length → (∀ t : Int, t ≠ 0 → pvl as t = pvl bs t) → as = bs
  | [], [], _, _ => rfl
  | a :: as, b :: bs, hl, h => by
    have e : a = b := by
      obtain ⟨N, hN⟩ : ∃ N : Int, N = (a - b).natAbs + 1 := ⟨_, rfl⟩
      have hv : a + N * pvl as N = b + N * pvl bs N := h N (by omega)
      have d : N ∣ a - b := ⟨pvl bs N - pvl as N, by rw [Int.mul_sub]; omega⟩
      by_cases z : a - b = 0
      · omega
      · have h1 : N.natAbs ∣ (a - b).natAbs := Int.natAbs_dvd_natAbs.mpr d
        have := Nat.le_of_dvd (by omega) h1
        omega
    subst e
    congr 1
    refine pv_uniq (by simpa using hl) fun t ht => ?_
    have hv : a + t * pvl as t = a + t * pvl bs t := h t ht
    exact Int.eq_of_mul_eq_mul_left ht (by omega)
  | [], b :: bs, h, _ => by simp at h
  | a :: as, [], h, _ => by simp at h
theorem shf_uniq {cs ms : List Int} (hl : ms.length = cs.length) (h : ∀ t, pvl ms t = pvl cs (t + 1)) : ms = shf cs := pv_uniq (by rw [hl, shf_len]) fun t _ => by rw [h, pv_shf]
/-! ### parity -/
theorem shf_even_above {cs : List Int} {n : Nat} : (∀ (i : Nat) (c : Int), cs[i]? = some c → n < i → c % 2 = 0) → ∀ (i : Nat) (c : Int), (shf cs)[i]? = some c → n < i → c % 2 = 0 := by
  induction cs generalizing n with
  | nil => intro _ i c h; cases h
  | cons d cs ih =>
    intro h i c hi lt
    obtain ⟨a, b, ha, hb, rfl⟩ := addL_get (by simp) hi
    obtain ⟨j, rfl⟩ : ∃ j, i = j + 1 := ⟨i - 1, by omega⟩
    have ea : a % 2 = 0 := by
      cases n with
      | zero =>
        -- all of cs are even
        have all : ∀ (i : Nat) (c : Int), (shf cs)[i]? = some c → c % 2 = 0 := by
          have hc : ∀ c ∈ cs, c % 2 = 0 := fun c hc => by
            obtain ⟨i, hi⟩ := List.getElem?_of_mem hc
            exact h (i + 1) c hi (by omega)
          clear ih ha hb hi h
          induction cs with
          | nil => intro i c h; cases h
          | cons e cs ih2 =>
            intro i c hi
            obtain ⟨a, b, ha, hb, rfl⟩ := addL_get (by simp) hi
            have i2 := ih2 fun c hc' => hc c (List.mem_cons_of_mem _ hc')
            have x1 : a % 2 = 0 := by
              rcases List.mem_cons.mp (List.mem_of_getElem? ha) with z | z
              · rw [z]; exact hc e List.mem_cons_self
              · obtain ⟨u, hu⟩ := List.getElem?_of_mem z
                exact i2 u a hu
            have x2 : b % 2 = 0 := by
              rcases List.mem_append.mp (List.mem_of_getElem? hb) with z | z
              · obtain ⟨u, hu⟩ := List.getElem?_of_mem z
                exact i2 u b hu
              · rw [List.mem_singleton.mp z]; rfl
            omega
        exact all j a ha
      | succ n => exact ih (n := n) (fun i c hi lt => h (i + 1) c hi (by omega)) j a ha (by omega)
    have eb : b % 2 = 0 := by
      by_cases lt2 : j + 1 < (shf cs).length
      · rw [List.getElem?_append_left lt2] at hb
        cases n with
        | zero => exact ih (n := 0) (fun i c hi lt => h (i + 1) c hi (by omega)) (j + 1) b hb (by omega)
        | succ n => exact ih (n := n + 1) (fun i c hi lt => h (i + 1) c hi (by omega)) (j + 1) b hb (by omega)
      · rw [List.getElem?_append_right (by omega)] at hb
        have := List.mem_singleton.mp (List.mem_of_getElem? hb)
        rw [this]; rfl
    omega
theorem pv_even {cs : List Int} (h : ∀ c ∈ cs, c % 2 = 0) (x : Int) : pvl cs x % 2 = 0 := by
  induction cs with
  | nil => rfl
  | cons c cs ih =>
    have h1 := h c List.mem_cons_self
    have h2 := ih fun c hc => h c (List.mem_cons_of_mem _ hc)
    show (c + x * pvl cs x) % 2 = 0
    rw [Int.add_emod, h1, Int.mul_emod, h2, Int.mul_zero]; rfl
/-- the multiplicities of 0 and of 1, modulo 2, are together at most the degree -/
theorem mult_two : ∀ (m n : Nat) (cs : List Int) (c : Int), cs[m]? = some c → c % 2 = 1 → (∀ (i : Nat) (c : Int), cs[i]? = some c → n < i → c % 2 = 0) → (∀ (i : Nat) (c : Int), cs[i]? = some c → i < m → c % 2 = 0) →
    ∃ (j : Nat) (d : Int), j + m ≤ n ∧ (shf cs)[j]? = some d ∧ d % 2 = 1 ∧ ∀ (i : Nat) (e : Int), (shf cs)[i]? = some e → i < j → e % 2 = 0 := by
  -- a least odd one, where there is one at most n
  have least : ∀ (ds : List Int) (n : Nat), (¬ ∀ (i : Nat) (d : Int), ds[i]? = some d → i ≤ n → d % 2 = 0) → ∃ (j : Nat) (d : Int), j ≤ n ∧ ds[j]? = some d ∧ d % 2 = 1 ∧ ∀ (i : Nat) (e : Int), ds[i]? = some e → i < j → e % 2 = 0 := by
    intro ds n
    induction n with
    | zero =>
      intro h
      refine Classical.byContradiction fun no => h fun i d hi le => ?_
      obtain rfl : i = 0 := by omega
      rcases Int.emod_two_eq d with z | z
      · exact z
      · exact (no ⟨0, d, Nat.le_refl _, hi, z, fun i e _ lt => by omega⟩).elim
    | succ n ih =>
      intro h
      by_cases g : ∀ (i : Nat) (d : Int), ds[i]? = some d → i ≤ n → d % 2 = 0
      · refine Classical.byContradiction fun no => h fun i d hi le => ?_
        by_cases z : i ≤ n
        · exact g i d hi z
        · obtain rfl : i = n + 1 := by omega
          rcases Int.emod_two_eq d with z | z
          · exact z
          · exact (no ⟨n + 1, d, Nat.le_refl _, hi, z, fun i e he lt => g i e he (by omega)⟩).elim
      · obtain ⟨j, d, h1, h2⟩ := ih g
        exact ⟨j, d, by omega, h2⟩
  intro m
  induction m with
  | zero =>
    intro n cs c h0 co hi lo
    obtain ⟨j, d, h1, h2⟩ := least (shf cs) n fun all => by
      have ev := pv_even (cs := shf cs) (fun c hc => by
        obtain ⟨i, hi'⟩ := List.getElem?_of_mem hc
        by_cases z : i ≤ n
        · exact all i c hi' z
        · exact shf_even_above hi i c hi' (by omega)) (-1)
      rw [pv_shf, show (-1 : Int) + 1 = 0 from rfl, pv_zero] at ev
      cases cs with
      | nil => cases h0
      | cons a cs =>
        obtain rfl := Option.some.inj h0
        have ev : a % 2 = 0 := ev
        omega
    exact ⟨j, d, by omega, h2⟩
  | succ m ih =>
    intro n cs c hm co hi lo
    cases cs with
    | nil => cases hm
    | cons a cs =>
      have hm : cs[m]? = some c := hm
      have mn : m + 1 ≤ n := Nat.le_of_not_lt fun z => by
        have := hi (m + 1) c hm (by omega)
        omega
      obtain ⟨j, d, h1, h2, h3, h4⟩ := ih (n - 1) cs c hm co (fun i c hc lt => hi (i + 1) c hc (by omega)) (fun i c hc lt => lo (i + 1) c hc (by omega))
      have a0 : a % 2 = 0 := lo 0 a rfl (by omega)
      -- the entry ahead is even
      have jl : j < (shf cs).length := (List.getElem?_eq_some_iff.mp h2).1
      have get : ∀ (i : Nat), i < (shf cs).length → ∃ u v, (a :: shf cs)[i]? = some u ∧ (shf cs)[i]? = some v ∧ (shf (a :: cs))[i]? = some (u + v) := fun i hi => by
        have e2 : (shf cs ++ [0])[i]? = some ((shf cs)[i]) := by rw [List.getElem?_append_left hi]; exact List.getElem?_eq_getElem hi
        have e1 : (a :: shf cs)[i]? = some ((a :: shf cs)[i]'(by rw [List.length_cons]; omega)) := List.getElem?_eq_getElem _
        exact ⟨_, _, e1, List.getElem?_eq_getElem hi, addL_of e1 e2⟩
      have ahead : ∀ (i : Nat) (u : Int), (a :: shf cs)[i]? = some u → i ≤ j → u % 2 = 0 := fun i u hu le => by
        cases i with
        | zero => obtain rfl := Option.some.inj hu; exact a0
        | succ i => exact h4 i u hu (by omega)
      refine ⟨j, ?_⟩
      obtain ⟨u, v, e1, e2, e3⟩ := get j jl
      rw [h2] at e2
      obtain rfl := Option.some.inj e2
      refine ⟨_, by omega, e3, by have := ahead j u e1 (Nat.le_refl _); omega, fun i e he lt => ?_⟩
      obtain ⟨u, v, e1, e2, e3⟩ := get i (by omega)
      rw [e3] at he
      obtain rfl := Option.some.inj he
      have := ahead i u e1 (by omega)
      have := h4 i v e2 lt
      omega

/-! ### sums from each place on -/
def sfx : List Int → List Int
  | [] => []
  | c :: cs => (c + (sfx cs).headD 0) :: sfx cs
theorem sfx_len : ∀ cs : List Int, (sfx cs).length = cs.length
  | [] => rfl
  | c :: cs => by show (sfx cs).length + 1 = _; rw [sfx_len cs]; rfl
theorem pv_sfx (x : Int) : ∀ cs : List Int, pvl cs x = (sfx cs).headD 0 + (x - 1) * pvl (sfx cs).tail x
  | [] => by show (0 : Int) = 0 + (x - 1) * 0; rw [Int.mul_zero]; rfl
  | c :: cs => by
    have ih := pv_sfx x cs
    show c + x * pvl cs x = (c + (sfx cs).headD 0) + (x - 1) * pvl (sfx cs) x
    have e : pvl (sfx cs) x = (sfx cs).headD 0 + x * pvl (sfx cs).tail x := by
      cases sfx cs with
      | nil => show (0 : Int) = 0 + x * 0; rw [Int.mul_zero]; rfl
      | cons a l => rfl
    rw [e, ih, Int.mul_add, Int.mul_add, Int.sub_mul x 1 ((sfx cs).headD 0), Int.one_mul, Int.mul_left_comm (x - 1) x]
    omega
theorem set_mid {α : Type} : ∀ (pre : List α) (b v : α) (post : List α), (pre ++ b :: post).set pre.length v = pre ++ v :: post
  | [], _, _, _ => rfl
  | a :: pre, b, v, post => by show a :: (pre ++ b :: post).set pre.length v = _; rw [set_mid pre b v post]; rfl
abbrev sfxL (as bs : List Int) (j : Nat) : List Int := as ++ bs.take j ++ sfx (bs.drop j)
section
variable {as bs : List Int} {j : Nat}
theorem sfxL_pre (h : j < bs.length) : sfxL as bs (j + 1) = (as ++ bs.take j) ++ bs[j] :: sfx (bs.drop (j + 1)) := by
  unfold sfxL
  rw [List.take_add_one, List.getElem?_eq_getElem h, List.append_assoc as, List.append_assoc as]
  congr 1
  rw [List.append_assoc]; rfl
theorem pre_len (h : j < bs.length) : (as ++ bs.take j).length = as.length + j := by rw [List.length_append, List.length_take]; omega
theorem sfxL_at (h : j < bs.length) : (sfxL as bs (j + 1))[as.length + j]? = some bs[j] := by
  rw [sfxL_pre h, ← pre_len (as := as) h, List.getElem?_append_right (Nat.le_refl _), Nat.sub_self]; rfl
theorem sfxL_next (h : j + 1 < bs.length) : (sfxL as bs (j + 1))[as.length + j + 1]? = some ((sfx (bs.drop (j + 1))).headD 0) := by
  rw [sfxL_pre (by omega), List.getElem?_append_right (by rw [pre_len (by omega)]; omega), pre_len (by omega), show as.length + j + 1 - (as.length + j) = 1 by omega]
  show (sfx (bs.drop (j + 1)))[0]? = _
  have := sfx_len (bs.drop (j + 1))
  rw [List.length_drop] at this
  cases e : sfx (bs.drop (j + 1)) with
  | nil => rw [e] at this; simp at this; omega
  | cons a l => rfl
theorem sfxL_set (h : j < bs.length) : (sfxL as bs (j + 1)).set (as.length + j) (bs[j] + (sfx (bs.drop (j + 1))).headD 0) = sfxL as bs j := by
  rw [sfxL_pre h, ← pre_len (as := as) h, set_mid]
  unfold sfxL
  rw [List.drop_eq_getElem_cons h]; rfl
theorem sfxL_zero : sfxL as bs 0 = as ++ sfx bs := by unfold sfxL; simp
theorem sfxL_last (h : 0 < bs.length) : sfxL as bs (bs.length - 1) = as ++ bs := by
  unfold sfxL
  rw [List.drop_eq_getElem_cons (by omega : bs.length - 1 < bs.length), show bs.length - 1 + 1 = bs.length by omega, List.drop_length]
  show as ++ bs.take (bs.length - 1) ++ [bs[bs.length - 1] + 0] = _
  rw [Int.add_zero, List.append_assoc]
  congr 1
  have := List.take_append_drop (bs.length - 1) bs
  conv => rhs; rw [← this]
  rw [List.drop_eq_getElem_cons (by omega : bs.length - 1 < bs.length), show bs.length - 1 + 1 = bs.length by omega, List.drop_length]
end
end Fw
namespace Fw
/-! ### going down to the roots of a polynomial -/
structure NodeOk (bits : Nat) (P : List Int) (f : Int) (k : Nat) (cs : List Int) (l w : Nat) : Prop where
  f0 : 0 ≤ f
  f1 : f < 2 ^ k
  len : cs.length = P.length
  lv : (k = 0 ∧ l = bits) ∨ (1 ≤ k ∧ 1 ≤ l ∧ k + l ≤ bits + 1 ∧ ∀ c ∈ cs, c % 2 = 0)
  sem : ∀ t : Int, (2 : Int) ^ bits ∣ pvl P (f + 2 ^ k * t) ↔ (2 : Int) ^ l ∣ pvl cs t
  dg : ∀ (s i : Nat) (c : Int), s < l → (∀ d ∈ cs, (2 : Int) ^ s ∣ d) → cs[i]? = some c → ¬ (2 : Int) ^ (s + 1) ∣ c → i ≤ w
  w1 : 1 ≤ w
theorem pw_split {s l : Nat} (h : s ≤ l) : (2 : Int) ^ l = 2 ^ s * 2 ^ (l - s) := by rw [← Int.pow_add]; congr 1; omega
theorem dvd_cut {s l : Nat} (h : s ≤ l) (z : Int) : (2 : Int) ^ l ∣ 2 ^ s * z ↔ (2 : Int) ^ (l - s) ∣ z := by
  rw [pw_split h]
  exact ⟨fun ⟨c, hc⟩ => ⟨c, by rw [Int.mul_assoc] at hc; exact Int.eq_of_mul_eq_mul_left (Int.ne_of_gt (gpos s)) hc⟩, fun h => Int.mul_dvd_mul (Int.dvd_refl _) h⟩
section
variable {bits k l w : Nat} {P cs : List Int} {f : Int}
theorem NodeOk.deep (h : NodeOk bits P f k cs l w) : k ≤ bits := by
  rcases h.lv with ⟨a, _⟩ | ⟨_, _, _, _⟩ <;> omega
theorem NodeOk.zero (h : NodeOk bits P f k cs l w) (z : ∀ c ∈ cs, (2 : Int) ^ l ∣ c) {x : Int} (hx : (2 : Int) ^ k ∣ x - f) : (2 : Int) ^ bits ∣ pvl P x := by
  obtain ⟨t, ht⟩ := hx
  rw [show x = f + 2 ^ k * t by omega, h.sem]
  have : ∀ (cs : List Int) (x : Int), (∀ c ∈ cs, (2 : Int) ^ l ∣ c) → (2 : Int) ^ l ∣ pvl cs x := fun cs x z => by
    induction cs with
    | nil => exact Int.dvd_zero _
    | cons c cs ih => exact Int.dvd_add (z c List.mem_cons_self) (Int.dvd_trans (ih fun c hc => z c (List.mem_cons_of_mem _ hc)) (Int.dvd_mul_left _ _))
  exact this cs t z
theorem red_dvd {s : Nat} (sl : s < l) (hs : ∀ c ∈ cs, (2 : Int) ^ s ∣ c % 2 ^ l) (t : Int) : (2 : Int) ^ l ∣ pvl cs t ↔ (2 : Int) ^ (l - s) ∣ pvl (cs.map fun c => c % 2 ^ l / 2 ^ s) t := by
  have e : cs.map (· % 2 ^ l) = (cs.map fun c => c % 2 ^ l / 2 ^ s).map ((2 : Int) ^ s * ·) := by
    rw [List.map_map]
    refine List.map_congr_left fun c hc => ?_
    show c % 2 ^ l = 2 ^ s * (c % 2 ^ l / 2 ^ s)
    exact (Int.mul_ediv_cancel' (hs c hc)).symm
  have h1 := pv_map_mod (S := (2 : Int) ^ l) cs t
  rw [e, pv_mul] at h1
  rw [← dvd_cut (Nat.le_of_lt sl)]
  exact ⟨fun h => by rw [show (2 : Int) ^ s * pvl (cs.map fun c => c % 2 ^ l / 2 ^ s) t = (2 ^ s * pvl (cs.map fun c => c % 2 ^ l / 2 ^ s) t - pvl cs t) + pvl cs t by omega]; exact Int.dvd_add h1 h,
    fun h => by rw [show pvl cs t = 2 ^ s * pvl (cs.map fun c => c % 2 ^ l / 2 ^ s) t - (2 ^ s * pvl (cs.map fun c => c % 2 ^ l / 2 ^ s) t - pvl cs t) by omega]; exact Int.dvd_sub h h1⟩
theorem dbl_deg {red : List Int} {l' m : Nat} {c : Int} (hm : red[m]? = some c) (co : c % 2 = 1) (s i : Nat) (d : Int) (_ : s < l') (all : ∀ d ∈ dbl 0 red, (2 : Int) ^ s ∣ d) (hi : (dbl 0 red)[i]? = some d) (nd : ¬ (2 : Int) ^ (s + 1) ∣ d) : i ≤ m := by
  have sm : s ≤ m := by
    refine Nat.le_of_not_lt fun z => ?_
    have h := all (c * 2 ^ m) (List.mem_of_getElem? (i := m) (by rw [dbl_get, hm, Nat.zero_add]; rfl))
    obtain ⟨q, hq⟩ := Int.dvd_trans (gpp (show m + 1 ≤ s by omega)) h
    have : c = 2 * q := by
      have hp := gpos m
      have : (2 : Int) ^ m * c = 2 ^ m * (2 * q) := by
        rw [Int.mul_comm, hq, Int.pow_succ, Int.mul_assoc]
      exact Int.eq_of_mul_eq_mul_left (Int.ne_of_gt hp) this
    omega
  refine Nat.le_trans (Nat.le_of_not_lt fun z => nd ?_) sm
  rw [dbl_get, Nat.zero_add] at hi
  obtain ⟨e, he, rfl⟩ := Option.map_eq_some_iff.mp hi
  exact Int.dvd_trans (gpp z) (Int.dvd_mul_left _ _)
theorem dbl_even {red : List Int} (h : pvl red 0 % 2 = 0) : ∀ c ∈ dbl 0 red, c % 2 = 0 := fun c hc => by
  obtain ⟨i, hi⟩ := List.getElem?_of_mem hc
  rw [dbl_get, Nat.zero_add] at hi
  obtain ⟨e, he, rfl⟩ := Option.map_eq_some_iff.mp hi
  cases i with
  | zero =>
    cases red with
    | nil => cases he
    | cons a red =>
      obtain rfl := Option.some.inj he
      rw [pv_zero] at h
      show a * 1 % 2 = 0
      rw [Int.mul_one]; exact h
  | succ i => rw [Int.pow_succ, ← Int.mul_assoc, Int.mul_emod_left]
theorem lo_ex {red : List Int} (h : ∃ c ∈ red, c % 2 = 1) : ∃ (m : Nat) (c : Int), red[m]? = some c ∧ c % 2 = 1 ∧ ∀ (i : Nat) (e : Int), red[i]? = some e → i < m → e % 2 = 0 := by
  induction red with
  | nil => obtain ⟨c, hc, _⟩ := h; cases hc
  | cons a red ih =>
    rcases Int.emod_two_eq a with z | z
    · obtain ⟨m, c, h1, h2, h3⟩ := ih (by
        obtain ⟨c, hc, co⟩ := h
        rcases List.mem_cons.mp hc with e | e
        · rw [e] at co; omega
        · exact ⟨c, e, co⟩)
      refine ⟨m + 1, c, h1, h2, fun i e he lt => ?_⟩
      cases i with
      | zero => obtain rfl := Option.some.inj he; exact z
      | succ i => exact h3 i e he (by omega)
    · exact ⟨0, a, rfl, z, fun i e _ lt => by omega⟩
theorem NodeOk.half (h : NodeOk bits P f k cs l w) {s : Nat} (sl : s < l) (hs : ∀ c ∈ cs, (2 : Int) ^ s ∣ c % 2 ^ l) (ho : ∃ c ∈ cs, ¬ (2 : Int) ^ (s + 1) ∣ c % 2 ^ l) {red : List Int} (hr : red = cs.map fun c => c % 2 ^ l / 2 ^ s) :
    ∃ m0 m1, m0 + m1 ≤ w ∧ (pvl red 0 % 2 = 0 → NodeOk bits P f (k + 1) (dbl 0 red) (l - s) m0) ∧ (pvl red 1 % 2 = 0 → NodeOk bits P (f + 2 ^ k) (k + 1) (dbl 0 (shf red)) (l - s) m1) ∧ ∀ t, (2 : Int) ^ l ∣ pvl cs t → pvl red t % 2 = 0 := by
  have rl : red.length = cs.length := by rw [hr, List.length_map]
  have rget : ∀ (i : Nat) (d : Int), red[i]? = some d → ∃ c, cs[i]? = some c ∧ c ∈ cs ∧ c % 2 ^ l = 2 ^ s * d := fun i d hd => by
    rw [hr, List.getElem?_map] at hd
    obtain ⟨c, hc, rfl⟩ := Option.map_eq_some_iff.mp hd
    have := List.mem_of_getElem? hc
    exact ⟨c, hc, this, (Int.mul_ediv_cancel' (hs c this)).symm⟩
  have sem : ∀ t, (2 : Int) ^ l ∣ pvl cs t ↔ (2 : Int) ^ (l - s) ∣ pvl red t := fun t => by rw [hr]; exact red_dvd sl hs t
  -- an odd one
  have ex : ∃ c ∈ red, c % 2 = 1 := by
    obtain ⟨c, hc, nd⟩ := ho
    obtain ⟨i, hi⟩ := List.getElem?_of_mem hc
    refine ⟨c % 2 ^ l / 2 ^ s, by rw [hr]; exact List.mem_map.mpr ⟨c, hc, rfl⟩, ?_⟩
    rcases Int.emod_two_eq (c % 2 ^ l / 2 ^ s) with z | z
    · refine absurd ?_ nd
      rw [← Int.mul_ediv_cancel' (hs c hc), Int.pow_succ]
      exact Int.mul_dvd_mul (Int.dvd_refl _) (Int.dvd_of_emod_eq_zero z)
    · exact z
  have hi : ∀ (i : Nat) (c : Int), red[i]? = some c → w < i → c % 2 = 0 := fun i d hd lt => by
    rcases Int.emod_two_eq d with z | z
    · exact z
    · obtain ⟨c, hc, hm, e⟩ := rget i d hd
      have cd : ∀ d ∈ cs, (2 : Int) ^ s ∣ d := fun d hd => by
        have h1 := hs d hd
        have h2 : (2 : Int) ^ s ∣ d - d % 2 ^ l := Int.dvd_trans (gpp (Nat.le_of_lt sl)) Int.dvd_self_sub_emod
        rw [show d = (d - d % 2 ^ l) + d % 2 ^ l by omega]
        exact Int.dvd_add h2 h1
      have := h.dg s i c sl cd hc fun y => by
        have h2 : (2 : Int) ^ (s + 1) ∣ c - c % 2 ^ l := Int.dvd_trans (gpp sl) Int.dvd_self_sub_emod
        have h3 := Int.dvd_sub y h2
        rw [show c - (c - c % 2 ^ l) = c % 2 ^ l by omega, e, Int.pow_succ] at h3
        obtain ⟨q, hq⟩ := h3
        rw [Int.mul_assoc] at hq
        have := Int.eq_of_mul_eq_mul_left (Int.ne_of_gt (gpos s)) hq
        omega
      omega
  obtain ⟨m0, c0, hm0, o0, lo0⟩ := lo_ex ex
  obtain ⟨m1, d1, le, hm1, o1, _⟩ := mult_two m0 w red c0 hm0 o0 hi lo0
  have k2 : (2 : Int) ^ (k + 1) = 2 ^ k * 2 := Int.pow_succ _ _
  have kp := gpos k
  have lvl : ∀ red' : List Int, pvl red' 0 % 2 = 0 → (k + 1 = 0 ∧ l - s = bits) ∨ (1 ≤ k + 1 ∧ 1 ≤ l - s ∧ k + 1 + (l - s) ≤ bits + 1 ∧ ∀ c ∈ dbl 0 red', c % 2 = 0) := fun red' ev => by
    refine .inr ⟨by omega, by omega, ?_, dbl_even ev⟩
    rcases h.lv with ⟨rfl, rfl⟩ | ⟨k1, l1, kl, evs⟩
    · omega
    · have s1 : 1 ≤ s := by
        refine Nat.pos_of_ne_zero fun z => ?_
        subst z
        obtain ⟨c, hc, nd⟩ := ho
        refine nd ?_
        have h2 : (2 : Int) ^ (0 + 1) ∣ c - c % 2 ^ l := Int.dvd_trans (gpp (by omega)) Int.dvd_self_sub_emod
        have h3 : (2 : Int) ^ (0 + 1) ∣ c := Int.dvd_of_emod_eq_zero (evs c hc)
        have := Int.dvd_sub h3 h2
        rw [show c - (c - c % 2 ^ l) = c % 2 ^ l by omega] at this
        exact this
      omega
  refine ⟨m0, m1, by omega, fun ev => ⟨h.f0, by rw [k2]; have := h.f1; omega, by rw [dbl_len, rl, h.len], lvl red ev, fun t => ?_, dbl_deg hm0 o0, ?_⟩, fun ev => ?_, fun t ht => ?_⟩
  · rw [pv_dbl, Int.pow_zero, Int.one_mul, ← sem, ← h.sem, k2, Int.mul_assoc]
  · refine Nat.pos_of_ne_zero fun z => ?_
    subst z
    cases red with
    | nil => cases hm0
    | cons a red =>
      obtain rfl := Option.some.inj hm0
      rw [pv_zero] at ev
      have ev : a % 2 = 0 := ev
      omega
  · have ev' : pvl (shf red) 0 % 2 = 0 := by rw [pv_shf]; exact ev
    refine ⟨by have := h.f0; omega, by rw [k2]; have := h.f1; omega, by rw [dbl_len, shf_len, rl, h.len], lvl _ ev', fun t => ?_, dbl_deg hm1 o1, ?_⟩
    · rw [pv_dbl, Int.pow_zero, Int.one_mul, pv_shf, ← sem, ← h.sem]
      rw [show f + 2 ^ k + 2 ^ (k + 1) * t = f + 2 ^ k * (2 * t + 1) by rw [k2, Int.mul_add, Int.mul_one, Int.mul_assoc]; omega]
    · refine Nat.pos_of_ne_zero fun z => ?_
      subst z
      cases e : shf red with
      | nil => rw [e] at hm1; cases hm1
      | cons a r =>
        rw [e] at hm1 ev'
        obtain rfl := Option.some.inj hm1
        rw [pv_zero] at ev'
        have ev' : a % 2 = 0 := ev'
        omega
  · have := Int.dvd_trans (gpp (show 1 ≤ l - s by omega)) ((sem t).mp ht)
    rw [Int.pow_one] at this
    exact Int.emod_eq_zero_of_dvd this
end
/-! ### all nodes and families at once -/
theorem cntF_appL (y : Int) (fl gl : FL) : cntF y (fl ++ gl) = cntF y fl + cntF y gl := by
  unfold cntF; rw [List.filter_append, List.length_append]
theorem cntF_consL (y : Int) (p : Int × Nat) (fl : FL) : cntF y (p :: fl) = (if (y - p.1) % 2 ^ p.2 = 0 then 1 else 0) + cntF y fl := by
  have := cntF_appL y [p] fl
  have e : cntF y [p] = if (y - p.1) % 2 ^ p.2 = 0 then 1 else 0 := by
    have := cntF_app y [] p
    rw [List.nil_append] at this
    rw [this]
    show 0 + _ = _
    omega
  rw [← e, ← this]; rfl
theorem cntF_nil (y : Int) : cntF y [] = 0 := rfl
structure Nd where
  f : Int
  k : Nat
  cs : List Int
  l : Nat
  w : Nat
abbrev Nd.ball (n : Nd) : Int × Nat := (n.f, n.k)
abbrev NOk (bits : Nat) (P : List Int) (n : Nd) : Prop := NodeOk bits P n.f n.k n.cs n.l n.w
abbrev ballsN (ns : List Nd) : FL := ns.map Nd.ball
/-- what is found, what waits (of level K), and what is ahead (of level K + 1) -/
structure RInv (bits : Nat) (P : List Int) (K : Nat) (fl : FL) (bl ns : List Nd) : Prop where
  okb : ∀ n ∈ bl, NOk bits P n ∧ n.k = K + 1
  okn : ∀ n ∈ ns, NOk bits P n ∧ n.k = K
  wt : (bl.map Nd.w).sum + (ns.map Nd.w).sum ≤ 8
  fok : ∀ p ∈ fl, 0 ≤ p.1 ∧ p.1 < 2 ^ p.2 ∧ p.2 ≤ bits ∧ ∀ x, (2 : Int) ^ p.2 ∣ x - p.1 → (2 : Int) ^ bits ∣ pvl P x
  dis : ∀ x, cntF x fl + cntF x (ballsN bl) + cntF x (ballsN ns) ≤ 1
  cov : ∀ x, (2 : Int) ^ bits ∣ pvl P x → 1 ≤ cntF x fl + cntF x (ballsN bl) + cntF x (ballsN ns)
section
variable {bits K : Nat} {P : List Int} {fl : FL} {bl ns : List Nd} {n : Nd}
theorem wt_len {L : List Nd} (h : ∀ n ∈ L, 1 ≤ n.w) : L.length ≤ (L.map Nd.w).sum := by
  induction L with
  | nil => exact Nat.le_refl _
  | cons n L ih =>
    rw [List.map_cons, List.sum_cons, List.length_cons]
    have := h n List.mem_cons_self
    have := ih fun n hn => h n (List.mem_cons_of_mem _ hn)
    omega
theorem RInv.few (r : RInv bits P K fl bl ns) : bl.length + ns.length ≤ 8 := by
  have h1 := wt_len fun n hn => (r.okb n hn).1.w1
  have h2 := wt_len fun n hn => (r.okn n hn).1.w1
  have := r.wt
  omega
/-- a node all of whose numbers are roots -/
theorem RInv.found (r : RInv bits P K fl bl (n :: ns)) (z : ∀ c ∈ n.cs, (2 : Int) ^ n.l ∣ c) : RInv bits P K (fl ++ [(n.f, n.k)]) bl ns where
  okb := r.okb
  okn := fun m hm => r.okn m (List.mem_cons_of_mem _ hm)
  wt := by have := r.wt; rw [List.map_cons, List.sum_cons] at this; omega
  fok := fun p hp => by
    rcases List.mem_append.mp hp with hp | hp
    · exact r.fok p hp
    · rw [List.mem_singleton.mp hp]
      have o := (r.okn n List.mem_cons_self).1
      exact ⟨o.f0, o.f1, o.deep, fun x hx => o.zero z hx⟩
  dis := fun x => by
    have := r.dis x
    rw [show ballsN (n :: ns) = (n.f, n.k) :: ballsN ns from rfl, cntF_consL] at this
    rw [cntF_app]; omega
  cov := fun x hx => by
    have := r.cov x hx
    rw [show ballsN (n :: ns) = (n.f, n.k) :: ballsN ns from rfl, cntF_consL] at this
    rw [cntF_app]; omega
/-- a node that is left for the halves below it -/
theorem RInv.go (r : RInv bits P K fl bl (n :: ns)) {s : Nat} (sl : s < n.l) (hs : ∀ c ∈ n.cs, (2 : Int) ^ s ∣ c % 2 ^ n.l) (ho : ∃ c ∈ n.cs, ¬ (2 : Int) ^ (s + 1) ∣ c % 2 ^ n.l) {red : List Int} (hr : red = n.cs.map fun c => c % 2 ^ n.l / 2 ^ s) :
    ∃ m0 m1, RInv bits P K fl (bl ++ ((if pvl red 0 % 2 = 0 then [⟨n.f, n.k + 1, dbl 0 red, n.l - s, m0⟩] else []) ++ (if pvl red 1 % 2 = 0 then [⟨n.f + 2 ^ n.k, n.k + 1, dbl 0 (shf red), n.l - s, m1⟩] else []))) ns := by
  obtain ⟨o, ok⟩ := r.okn n List.mem_cons_self
  obtain ⟨m0, m1, le, h0, h1, ev⟩ := o.half sl hs ho hr
  have wt := r.wt
  rw [List.map_cons, List.sum_cons] at wt
  -- the halves at a number
  have cnt : ∀ x, cntF x (ballsN ((if pvl red 0 % 2 = 0 then [⟨n.f, n.k + 1, dbl 0 red, n.l - s, m0⟩] else []) ++ (if pvl red 1 % 2 = 0 then [⟨n.f + 2 ^ n.k, n.k + 1, dbl 0 (shf red), n.l - s, m1⟩] else []))) ≤ (if (x - n.f) % 2 ^ n.k = 0 then 1 else 0) ∧
      ((2 : Int) ^ bits ∣ pvl P x → (if (x - n.f) % 2 ^ n.k = 0 then 1 else 0) ≤ cntF x (ballsN ((if pvl red 0 % 2 = 0 then [⟨n.f, n.k + 1, dbl 0 red, n.l - s, m0⟩] else []) ++ (if pvl red 1 % 2 = 0 then [⟨n.f + 2 ^ n.k, n.k + 1, dbl 0 (shf red), n.l - s, m1⟩] else [])))) := fun x => by
    have c0 : cntF x (ballsN (if pvl red 0 % 2 = 0 then [⟨n.f, n.k + 1, dbl 0 red, n.l - s, m0⟩] else [])) = if pvl red 0 % 2 = 0 ∧ (x - n.f) % 2 ^ (n.k + 1) = 0 then 1 else 0 := by
      by_cases z : pvl red 0 % 2 = 0
      · rw [if_pos z]
        show cntF x [(n.f, n.k + 1)] = _
        rw [cntF_consL, cntF_nil, Nat.add_zero]
        simp [z]
      · rw [if_neg z, if_neg fun y => z y.1]; rfl
    have c1 : cntF x (ballsN (if pvl red 1 % 2 = 0 then [⟨n.f + 2 ^ n.k, n.k + 1, dbl 0 (shf red), n.l - s, m1⟩] else [])) = if pvl red 1 % 2 = 0 ∧ (x - (n.f + 2 ^ n.k)) % 2 ^ (n.k + 1) = 0 then 1 else 0 := by
      by_cases z : pvl red 1 % 2 = 0
      · rw [if_pos z]
        show cntF x [(n.f + 2 ^ n.k, n.k + 1)] = _
        rw [cntF_consL, cntF_nil, Nat.add_zero]
        simp [z]
      · rw [if_neg z, if_neg fun y => z y.1]; rfl
    rw [show ∀ a b : List Nd, ballsN (a ++ b) = ballsN a ++ ballsN b from fun a b => List.map_append, cntF_appL, c0, c1]
    have hv := halves (k := n.k + 1) (by omega) x n.f
    rw [Nat.add_sub_cancel] at hv
    have dz : ∀ {k : Nat} {y : Int}, y % 2 ^ k = 0 ↔ (2 : Int) ^ k ∣ y := fun {k y} => ⟨Int.dvd_of_emod_eq_zero, Int.emod_eq_zero_of_dvd⟩
    have ap : ¬ ((2 : Int) ^ (n.k + 1) ∣ x - n.f ∧ (2 : Int) ^ (n.k + 1) ∣ x - (n.f + 2 ^ n.k)) := fun ⟨a, b⟩ => by
      have := Int.dvd_sub a b
      rw [show x - n.f - (x - (n.f + 2 ^ n.k)) = 2 ^ n.k by omega, Int.pow_succ] at this
      obtain ⟨c, hc⟩ := this
      have hp := gpos n.k
      rw [Int.mul_assoc] at hc
      have := Int.eq_of_mul_eq_mul_left (Int.ne_of_gt hp) (show (2 : Int) ^ n.k * 1 = 2 ^ n.k * (2 * c) by rw [Int.mul_one]; exact hc)
      omega
    constructor
    · by_cases z : (x - n.f) % 2 ^ n.k = 0
      · rw [if_pos z]
        by_cases y0 : pvl red 0 % 2 = 0 ∧ (x - n.f) % 2 ^ (n.k + 1) = 0
        · rw [if_pos y0, if_neg fun y1 => ap ⟨dz.mp y0.2, dz.mp y1.2⟩]; omega
        · rw [if_neg y0]; split <;> omega
      · have : ¬ ((2 : Int) ^ (n.k + 1) ∣ x - n.f ∨ (2 : Int) ^ (n.k + 1) ∣ x - (n.f + 2 ^ n.k)) := fun y => z (dz.mpr (hv.mpr y))
        rw [if_neg z, if_neg fun y => this (.inl (dz.mp y.2)), if_neg fun y => this (.inr (dz.mp y.2))]; omega
    · intro hx
      split
      · rename_i z
        obtain ⟨t, ht⟩ := dz.mp z
        have rt := (o.sem t).mp (by rw [← ht, show n.f + (x - n.f) = x by omega]; exact hx)
        have e0 := ev t rt
        have k2 : (2 : Int) ^ (n.k + 1) = 2 ^ n.k * 2 := Int.pow_succ _ _
        rcases Int.emod_two_eq t with te | te
        · have : pvl red 0 % 2 = 0 := by
            have := pv_congx (S := 2) red (x := t) (y := 0) (Int.dvd_of_emod_eq_zero (by omega))
            have := Int.emod_eq_zero_of_dvd this
            omega
          rw [if_pos ⟨this, dz.mpr (by rw [ht, k2]; exact Int.mul_dvd_mul (Int.dvd_refl _) (Int.dvd_of_emod_eq_zero te))⟩]; omega
        · have : pvl red 1 % 2 = 0 := by
            have := pv_congx (S := 2) red (x := t) (y := 1) (Int.dvd_of_emod_eq_zero (by omega))
            have := Int.emod_eq_zero_of_dvd this
            omega
          rw [if_pos (c := pvl red 1 % 2 = 0 ∧ (x - (n.f + 2 ^ n.k)) % 2 ^ (n.k + 1) = 0) ⟨this, dz.mpr (by
            rw [show x - (n.f + 2 ^ n.k) = 2 ^ n.k * (t - 1) by rw [Int.mul_sub, Int.mul_one]; omega, k2]
            exact Int.mul_dvd_mul (Int.dvd_refl _) (Int.dvd_of_emod_eq_zero (by omega)))⟩]; omega
      · omega
  refine ⟨m0, m1, ?_, fun m hm => r.okn m (List.mem_cons_of_mem _ hm), ?_, r.fok, fun x => ?_, fun x hx => ?_⟩
  · intro m hm
    rcases List.mem_append.mp hm with hm | hm
    · exact r.okb m hm
    rcases List.mem_append.mp hm with hm | hm
    · split at hm
      · rename_i z
        rw [List.mem_singleton.mp hm]
        exact ⟨h0 z, by rw [ok]⟩
      · cases hm
    · split at hm
      · rename_i z
        rw [List.mem_singleton.mp hm]
        exact ⟨h1 z, by rw [ok]⟩
      · cases hm
  · rw [List.map_append, List.map_append, List.sum_append, List.sum_append]
    have s0 : ((if pvl red 0 % 2 = 0 then [(⟨n.f, n.k + 1, dbl 0 red, n.l - s, m0⟩ : Nd)] else []).map Nd.w).sum ≤ m0 := by
      split
      · exact Nat.le_refl _
      · exact Nat.zero_le _
    have s1 : ((if pvl red 1 % 2 = 0 then [(⟨n.f + 2 ^ n.k, n.k + 1, dbl 0 (shf red), n.l - s, m1⟩ : Nd)] else []).map Nd.w).sum ≤ m1 := by
      split
      · exact Nat.le_refl _
      · exact Nat.zero_le _
    omega
  · have := r.dis x
    rw [show ballsN (n :: ns) = (n.f, n.k) :: ballsN ns from rfl, cntF_consL] at this
    rw [show ∀ a b : List Nd, ballsN (a ++ b) = ballsN a ++ ballsN b from fun a b => List.map_append, cntF_appL]
    dsimp only at this
    have := (cnt x).1
    omega
  · have := r.cov x hx
    rw [show ballsN (n :: ns) = (n.f, n.k) :: ballsN ns from rfl, cntF_consL] at this
    rw [show ∀ a b : List Nd, ballsN (a ++ b) = ballsN a ++ ballsN b from fun a b => List.map_append, cntF_appL]
    dsimp only at this
    have := (cnt x).2 hx
    omega
theorem RInv.next (r : RInv bits P K fl bl []) : RInv bits P (K + 1) fl [] bl where
  okb := fun n hn => by cases hn
  okn := r.okb
  wt := by have := r.wt; rw [List.map_nil, List.sum_nil] at this ⊢; omega
  fok := r.fok
  dis := fun x => by have := r.dis x; rw [show ballsN [] = [] from rfl, cntF_nil] at this ⊢; omega
  cov := fun x hx => by have := r.cov x hx; rw [show ballsN [] = [] from rfl, cntF_nil] at this ⊢; omega
theorem RInv.start (hP : P.length ≤ 9) : RInv bits P 0 [] [] [⟨0, 0, P, bits, 8⟩] where
  okb := fun n hn => by cases hn
  okn := fun n hn => by
    rw [List.mem_singleton.mp hn]
    refine ⟨⟨Int.le_refl _, (by decide : (0 : Int) < 2 ^ 0), rfl, .inl ⟨rfl, rfl⟩, fun t => ?_, fun s i c _ _ hi _ => ?_, (by decide : 1 ≤ 8)⟩, rfl⟩
    · rw [Int.zero_add, Int.pow_zero, Int.one_mul]
    · have hi : P[i]? = some c := hi
      have := (List.getElem?_eq_some_iff.mp hi).1
      show i ≤ 8
      omega
  wt := Nat.le_refl 8
  fok := fun p hp => by cases hp
  dis := fun x => by
    show cntF x [] + cntF x [] + cntF x [(0, 0)] ≤ 1
    rw [cntF_consL, cntF_nil]
    split <;> omega
  cov := fun x _ => by
    show 1 ≤ cntF x [] + cntF x [] + cntF x [(0, 0)]
    rw [cntF_consL, cntF_nil, if_pos (by show (x - 0) % 2 ^ 0 = 0; rw [Int.pow_zero]; omega)]
    omega
theorem RInv.deep (r : RInv bits P K fl bl (n :: ns)) : K ≤ bits := by
  obtain ⟨o, e⟩ := r.okn n List.mem_cons_self
  rw [← e]; exact o.deep
theorem cntF_mem {x : Int} {fl : FL} : 1 ≤ cntF x fl ↔ Cover (famL fl) x := by
  unfold cntF
  constructor
  · intro h
    obtain ⟨p, hp⟩ := List.exists_mem_of_length_pos h
    obtain ⟨h1, h2⟩ := List.mem_filter.mp hp
    exact ⟨p.1, p.2, h1, Int.dvd_of_emod_eq_zero (of_decide_eq_true h2)⟩
  · rintro ⟨f, e, hm, hd⟩
    exact List.length_pos_of_mem (List.mem_filter.mpr ⟨hm, decide_eq_true (Int.emod_eq_zero_of_dvd hd)⟩)
/-- at the end: all roots, each in one family -/
theorem RInv.fin (r : RInv bits P K fl [] []) : WfF bits (famL fl) ∧ Apart (famL fl) ∧ ∀ x, Cover (famL fl) x ↔ (2 : Int) ^ bits ∣ pvl P x := by
  have c1 : ∀ x, cntF x fl ≤ 1 := fun x => by have := r.dis x; omega
  refine ⟨fun f e h => ?_, fun f e g d x h1 h2 d1 d2 => ?_, fun x => ⟨fun ⟨f, e, hm, hd⟩ => (r.fok _ hm).2.2.2 x hd, fun hx => ?_⟩⟩
  · obtain ⟨a, b, c, _⟩ := r.fok _ h
    exact ⟨a, b, c⟩
  · have l := c1 x
    have m1 : (f, e) ∈ fl.filter fun p => decide ((x - p.1) % 2 ^ p.2 = 0) := List.mem_filter.mpr ⟨h1, decide_eq_true (Int.emod_eq_zero_of_dvd d1)⟩
    have m2 : (g, d) ∈ fl.filter fun p => decide ((x - p.1) % 2 ^ p.2 = 0) := List.mem_filter.mpr ⟨h2, decide_eq_true (Int.emod_eq_zero_of_dvd d2)⟩
    unfold cntF at l
    revert m1 m2 l
    generalize fl.filter (fun p => decide ((x - p.1) % 2 ^ p.2 = 0)) = gl
    intro l m1 m2
    match gl, l with
    | [], _ => cases m1
    | [y], _ =>
      have := (List.mem_singleton.mp m1).trans (List.mem_singleton.mp m2).symm
      exact Prod.mk.inj this
  · have := r.cov x hx
    exact cntF_mem.mp (by have e : cntF x (ballsN []) = 0 := rfl; rw [e] at this; omega)
end
end Fw
namespace Fw
open L2
open PySem PySem.Spec PyProof.Rows
theorem vals_ints : ∀ {ns : List Int} {us : List Value}, Vals (ns.map V.int) us → ∃ ts : List Tok, ts.length = ns.length ∧ us = (ns.zip ts).map fun p => Value.int p.1 p.2
  | [], _, .nil => ⟨[], rfl, rfl⟩
  | n :: ns, _, .cons r t => by
    obtain ⟨k, rfl⟩ := r
    obtain ⟨ts, h1, rfl⟩ := vals_ints t
    exact ⟨k :: ts, by rw [List.length_cons, h1]; rfl, rfl⟩
theorem truth_ints {prog : Program} {w : World} {A : Around} {ns : List Int} {ts : List Tok} {its : List Value} (hl : ts.length = ns.length) (e : its = (ns.zip ts).map fun p => Value.int p.1 p.2) :
    TruthOf prog w A (fun i v => its.toArray[i]? = some v) (fun i => (ns.map fun n => n != 0).getD i false) := fun i v s Q E hv hq => by
  have hv' : its[i]? = some v := by simpa using hv
  rw [e, List.getElem?_map] at hv'
  obtain ⟨p, hp, rfl⟩ := Option.map_eq_some_iff.mp hv'
  rw [List.getElem?_zip_eq_some] at hp
  have hg : (ns.map fun n => n != 0).getD i false = (p.1 != 0) := by rw [List.getD_eq_getElem?_getD, List.getElem?_map, hp.1]; rfl
  have hq' : Q ((ns.map fun n => n != 0).getD i false) s := hq
  rw [hg] at hq'
  exact truthy_int hq'
section
variable {X : Cx}
/-- any(xs), xs a list of ints -/
def rAnyI (K : PySem.W.Frag) : List V → Hp → VK → Prop := fun vs H Q => ∃ (a : Addr) (ns : List Int), vs = [V.ref a] ∧ SqL K H a (ns.map V.int) ∧ Q (.bl (ns.any fun n => n != 0)) H
theorem cr_anyI (hc : X.calm = true) : CallR X (.builtin "any") (rAnyI X.K) := by
  intro pins s σ H vs us Q I r h
  obtain ⟨a, ns, rfl, hs, q⟩ := h
  obtain ⟨its, rv, hl, _⟩ := I.list hs
  rw [Vals.ref1 r]
  obtain ⟨ts, tl, hb⟩ := vals_ints rv
  have size : its.toArray.size = (ns.map fun n => n != 0).length := by rw [List.size_toArray, ← rv.length, List.length_map, List.length_map]
  refine call_any_walk (iter_any hl.isList fun s₂ e2 st hne => ?_)
  subst e2
  refine ⟨_, _, _, _, _, _, _, rfl, Walks.list (A := X.A.in1) (I.ok.hd hc) _ a hne its.toArray, st, truth_ints tl hb, fun h' tk hk => ?_⟩
  have e : (ns.any fun n => n != 0) = (ns.map fun n => n != 0).any id := by rw [List.any_map]; rfl
  refine ⟨.bl _, H, I.kept fun b o eo => hk b o (fun hm => ?_) (Heap.get?_push_of_some _ eo), ?_, q⟩
  · rcases List.mem_cons.mp hm with z | hm
    · exact absurd (z ▸ Heap.lt_size eo) (Nat.lt_irrefl _)
    · cases hm
  · show Value.bool _ = Value.bool _
    rw [e, size, L2.any_range]
/-- xs[k], k from 0 on -/
def rGetL (K : PySem.W.Frag) : V → V → Hp → VK → Prop := fun o i H Q => ∃ (p : Addr) (xs : List V) (k : Int) (v : V), o = .ref p ∧ i = .int k ∧ SqL K H p xs ∧ 0 ≤ k ∧ xs[k.toNat]? = some v ∧ Q v H
theorem pget_list : PGet X (rGetL X.K) := by
  intro pins s σ H o i ov iv Q I ro ri h
  obtain ⟨p, xs, k, v, rfl, rfl, hq, k0, hk, q⟩ := h
  cases ro
  obtain ⟨t, rfl⟩ := ri
  obtain ⟨its, r, pl, hz⟩ := I.list hq
  obtain ⟨u, hu, rv⟩ := r.get hk
  have lt := (List.getElem?_eq_some_iff.mp hk).1
  have hl := r.length
  have n63 := line63
  exact wpAny_getItem_list pl.isList k0 (by omega) (by simpa using hu) ⟨v, H, I, rv, q⟩
end
theorem w_augS {to ti te : TE} {tget : V → V → Hp → VK → Prop} {tip : TIp} {tset : TSet} {D : Ends} {σ : L2.St} {H : Hp} (q : to σ H fun o H1 => ti σ H1 fun i H2 => tget o i H2 fun x H3 => te σ H3 fun y H4 => tip x y H4 fun z H5 => tset o i z H5 fun H6 => D.nx σ H6) : tAugS to ti te tget tip tset D σ H := q
theorem w_getL {K : PySem.W.Frag} {H : Hp} {Q : VK} {p : Addr} {xs : List V} {k : Nat} {v : V} (h : H p = some (.lst xs)) (hk : xs[k]? = some v) (q : Q v H) : rGetL K (.ref p) (.int (k : Int)) H Q := ⟨p, xs, k, v, rfl, rfl, SqL.of h, by omega, by rw [Int.toNat_natCast]; exact hk, q⟩
theorem w_anyI {K : PySem.W.Frag} {H : Hp} {Q : VK} {a : Addr} {ns : List Int} (h : H a = some (.lst (ns.map V.int))) (q : Q (.bl (ns.any fun n => n != 0)) H) : rAnyI K [.ref a] H Q := ⟨a, ns, rfl, SqL.of h, q⟩
end Fw
namespace Fw
/-! ### how many numbers are of a row's families -/
def totF (fl : FL) (a b : Int) : Int := (fl.map fun p => (b - p.1) / 2 ^ p.2 - (a - 1 - p.1) / 2 ^ p.2).sum
theorem ediv_step {m y : Int} (hm : 0 < m) : y / m - (y - 1) / m = if y % m = 0 then 1 else 0 := by
  have e := Int.mul_ediv_add_emod y m
  have r0 := Int.emod_nonneg y (Int.ne_of_gt hm)
  have r1 := Int.emod_lt_of_pos y hm
  split
  · rename_i z
    have : (y - 1) / m = y / m - 1 := by
      have e2 : y - 1 = (m - 1) + m * (y / m - 1) := by rw [Int.mul_sub, Int.mul_one]; omega
      rw [e2, Int.add_mul_ediv_left _ _ (Int.ne_of_gt hm), Int.ediv_eq_zero_of_lt (by omega) (by omega)]; omega
    omega
  · rename_i z
    have : (y - 1) / m = y / m := by
      have e2 : y - 1 = (y % m - 1) + m * (y / m) := by omega
      rw [e2, Int.add_mul_ediv_left _ _ (Int.ne_of_gt hm), Int.ediv_eq_zero_of_lt (by omega) (by omega)]; omega
    omega
theorem totF_step (fl : FL) (a b : Int) : totF fl a b = totF fl a (b - 1) + (cntF b fl : Int) := by
  induction fl with
  | nil => rfl
  | cons p fl ih =>
    have h := ediv_step (y := b - p.1) (gposR p.2)
    have c : (cntF b (p :: fl) : Int) = (if (b - p.1) % 2 ^ p.2 = 0 then 1 else 0) + (cntF b fl : Int) := by
      unfold cntF
      rw [List.filter_cons]
      by_cases z : (b - p.1) % 2 ^ p.2 = 0
      · rw [if_pos z, if_pos (decide_eq_true z), List.length_cons]; omega
      · rw [if_neg z, if_neg (by simpa using z)]; omega
    unfold totF at ih ⊢
    rw [List.map_cons, List.sum_cons, List.map_cons, List.sum_cons, ih, c, ← h, show b - 1 - p.1 = b - p.1 - 1 by omega]
    omega
theorem totF_none (fl : FL) (a : Int) : totF fl a (a - 1) = 0 := by
  unfold totF
  induction fl with
  | nil => rfl
  | cons p fl ih => rw [List.map_cons, List.sum_cons, ih]; omega
theorem totF_tot {fl : FL} {q : Int → Bool} (h : ∀ x, (cntF x fl : Int) = if q x = true then 1 else 0) {a b : Int} (hab : a ≤ b + 1) : totF fl a b = tot q a b := by
  obtain ⟨n, hn⟩ := Int.eq_ofNat_of_zero_le (show 0 ≤ b + 1 - a by omega)
  induction n generalizing b with
  | zero =>
    obtain rfl : b = a - 1 := by omega
    rw [totF_none, tot_none (by omega)]
  | succ n ih =>
    rw [totF_step, tot_step q (show a ≤ b by omega), ih (b := b - 1) (by omega) (by omega), h b]
theorem cnt_of {w : Nat} {fl : FL} (n : NRow w fl) {q : Int → Bool} (cv : ∀ x, Cover (famL fl) x ↔ q x = true) (x : Int) : (cntF x fl : Int) = if q x = true then 1 else 0 := by
  by_cases c : Cover (famL fl) x
  · rw [cntF_one n c, if_pos ((cv x).mp c)]; rfl
  · rw [if_neg fun z => c ((cv x).mpr z)]
    have : cntF x fl = 0 := by
      refine Nat.eq_zero_of_not_pos fun z => c ?_
      unfold cntF at z
      obtain ⟨p, hp⟩ := List.exists_mem_of_length_pos z
      obtain ⟨h1, h2⟩ := List.mem_filter.mp hp
      exact ⟨p.1, p.2, h1, Int.dvd_of_emod_eq_zero (of_decide_eq_true h2)⟩
    rw [this]; rfl
theorem totF_size {w : Nat} {fl : FL} (h : ∀ p ∈ fl, p.2 ≤ w) (a : Int) : totF fl a (a + 2 ^ w - 1) = (fl.map fun p => (2 : Int) ^ (w - p.2)).sum := by
  unfold totF
  induction fl with
  | nil => rfl
  | cons p fl ih =>
    have pw := h p List.mem_cons_self
    rw [List.map_cons, List.sum_cons, List.map_cons, List.sum_cons, ih fun q hq => h q (List.mem_cons_of_mem _ hq)]
    congr 1
    have e : (2 : Int) ^ w = 2 ^ p.2 * 2 ^ (w - p.2) := by rw [← Int.pow_add]; congr 1; omega
    rw [show a + 2 ^ w - 1 - p.1 = (a - 1 - p.1) + 2 ^ p.2 * 2 ^ (w - p.2) by rw [← e]; omega, Int.add_mul_ediv_left _ _ (Int.ne_of_gt (gposR p.2))]
    omega
end Fw
namespace Fw
/-! ### numbers of steps between two values -/
theorem god_mul {a b : Int} (ha : a % 2 = 1) (hb : b % 2 = 1) : a * b % 2 = 1 := by rw [Int.mul_emod, ha, hb]; rfl
theorem gsq8 {a : Int} (ha : a % 2 = 1) : ∃ k, a * a = 8 * k + 1 := by
  obtain ⟨b, rfl⟩ : ∃ b, a = 2 * b + 1 := ⟨a / 2, by omega⟩
  have e : (2 * b + 1) * (2 * b + 1) = 4 * (b * b + b) + 1 := by
    rw [Int.add_mul, Int.mul_add, Int.mul_one, Int.one_mul, show 2 * b * (2 * b) = 4 * (b * b) by rw [Int.mul_assoc, Int.mul_left_comm b 2 b]; omega]
    omega
  have ev : (b * b + b) % 2 = 0 := by
    have h := Int.mul_emod b b 2
    rcases Int.emod_two_eq b with h' | h'
    · rw [h'] at h; omega
    · rw [h'] at h; omega
  exact ⟨(b * b + b) / 2, by rw [e]; omega⟩
theorem gv_odd {w : Nat} {n : Int} (h : n % 2 = 1) : gv w n = 0 := by
  cases w with
  | zero => rfl
  | succ w =>
    show (if n % 2 = 0 then gv w (n / 2) + 1 else 0) = 0
    rw [if_neg (by omega)]
theorem gv_2odd {w : Nat} {n k : Int} (h : n = 2 * (2 * k + 1)) : gv w n = min w 1 := by
  cases w with
  | zero => rfl
  | succ w =>
    show (if n % 2 = 0 then gv w (n / 2) + 1 else 0) = _
    rw [if_pos (by omega), show n / 2 = 2 * k + 1 by omega, gv_odd (by omega)]; omega
theorem gd_succ (a c : Int) (i : Nat) (z : Int) : gIt a c (2 ^ (i + 2)) z - z = (a ^ (2 ^ (i + 1)) + 1) * (gIt a c (2 ^ (i + 1)) z - z) := by
  rw [show 2 ^ (i + 2) = 2 ^ (i + 1) + 2 ^ (i + 1) by rw [Nat.pow_succ]; omega, gIt_add]
  have := gIt_sub a c (2 ^ (i + 1)) (gIt a c (2 ^ (i + 1)) z) z
  rw [Int.add_mul, Int.one_mul, ← this]; omega
theorem gvd {a : Int} (ha : a % 2 = 1) (c : Int) (w : Nat) : ∀ (i : Nat) (z : Int), gv w (gIt a c (2 ^ (i + 1)) z - z) = min w (i + gv w (gIt a c 2 z - z))
  | 0, z => by
    have := gv_le w (gIt a c 2 z - z)
    show gv w (gIt a c 2 z - z) = _
    omega
  | i + 1, z => by
    have e1 : a ^ (2 ^ (i + 1)) = a ^ (2 ^ i) * a ^ (2 ^ i) := by rw [← Int.pow_add]; congr 1; rw [Nat.pow_succ]; omega
    obtain ⟨k, hk⟩ := gsq8 (god_pow ha (2 ^ i))
    rw [gd_succ, gv_mul, gvd ha c w i z, gv_2odd (k := 2 * k) (by rw [e1, hk]; omega)]; omega
theorem gv0 {a c x z : Int} (ha : a % 2 = 1) {w v : Nat} (hv : gv w (gIt a c 2 x - x) = v) (h : (2 : Int) ^ v ∣ z - x) : gv w (gIt a c 2 z - z) = v := by
  obtain ⟨k, hk⟩ := gsq8 ha
  have e : gIt a c 2 z - z - (gIt a c 2 x - x) = 8 * k * (z - x) := by
    have h1 := gIt_sub a c 2 z x
    have e2 : a ^ 2 = 8 * k + 1 := by rw [← hk, Int.pow_succ, Int.pow_succ, Int.pow_zero, Int.one_mul]
    rw [e2, Int.add_mul, Int.one_mul] at h1
    omega
  have d1 : (2 : Int) ^ (v + 1) ∣ gIt a c 2 z - z - (gIt a c 2 x - x) := by
    obtain ⟨t, ht⟩ := h
    rw [e, ht, g2S]
    exact ⟨4 * k * t, by rw [show 8 * k = 2 * (4 * k) by omega, Int.mul_assoc, Int.mul_left_comm (4 * k), Int.mul_assoc 2, Int.mul_assoc]⟩
  have vw := gv_le w (gIt a c 2 x - x)
  have g1 : v ≤ gv w (gIt a c 2 z - z) := (gv_iff _ _ _).mpr ⟨by omega, by
    have h2 : (2 : Int) ^ v ∣ gIt a c 2 x - x := by rw [← hv]; exact gv_dvd _ _
    have h3 := Int.dvd_trans (gpp (Nat.le_succ v)) d1
    rw [show gIt a c 2 z - z = (gIt a c 2 z - z - (gIt a c 2 x - x)) + (gIt a c 2 x - x) by omega]
    exact Int.dvd_add h3 h2⟩
  refine Nat.le_antisymm (Nat.le_of_not_lt fun lt => ?_) g1
  obtain ⟨h4, h5⟩ := (gv_iff _ _ _).mp (show v + 1 ≤ gv w (gIt a c 2 z - z) from lt)
  have h6 : v + 1 ≤ gv w (gIt a c 2 x - x) := (gv_iff _ _ _).mpr ⟨h4, by
    rw [show gIt a c 2 x - x = (gIt a c 2 z - z) - (gIt a c 2 z - z - (gIt a c 2 x - x)) by omega]
    exact Int.dvd_sub h5 d1⟩
  omega
theorem gorb {a c x : Int} (ha : a % 2 = 1) {w v : Nat} (hv : gv w (gIt a c 2 x - x) = v) : ∀ n : Nat, (2 : Int) ^ v ∣ gIt a c (2 * n) x - x
  | 0 => gdv0
  | n + 1 => by
    have ih := gorb ha hv n
    have h := gv0 ha hv ih
    rw [Nat.mul_succ, gIt_add]
    refine gdvT ?_ ih
    have := gv_dvd w (gIt a c 2 (gIt a c (2 * n) x) - gIt a c (2 * n) x)
    rw [h] at this; exact this
theorem gblock {a c x : Int} (ha : a % 2 = 1) {w v i : Nat} (hv : gv w (gIt a c 2 x - x) = v) : ∀ t : Nat, (2 : Int) ^ min w (i + v) ∣ gIt a c (2 ^ (i + 1) * t) x - x
  | 0 => gdv0
  | t + 1 => by
    have ih := gblock (i := i) ha hv t
    have h0 : (2 : Int) ^ v ∣ gIt a c (2 ^ (i + 1) * t) x - x := by
      rw [show 2 ^ (i + 1) * t = 2 * (2 ^ i * t) by rw [Nat.pow_succ, Nat.mul_comm (2 ^ i) 2, Nat.mul_assoc]]
      exact gorb ha hv _
    have h := gvd ha c w i (gIt a c (2 ^ (i + 1) * t) x)
    rw [gv0 ha hv h0] at h
    rw [Nat.mul_succ, gIt_add]
    refine gdvT ?_ ih
    rw [← h]; exact gv_dvd _ _
theorem gno {a c x : Int} (ha : a % 2 = 1) {w v j t : Nat} (hv : gv w (gIt a c 2 x - x) = v) (hj : v + j < w) : ¬ (2 : Int) ^ w ∣ gIt a c (2 * (2 ^ j * (2 * t + 1))) x - x := by
  intro h
  have e : 2 * (2 ^ j * (2 * t + 1)) = 2 ^ (j + 1 + 1) * t + 2 ^ (j + 1) := by
    rw [Nat.mul_add, Nat.mul_one, Nat.mul_add, Nat.pow_succ, Nat.pow_succ, Nat.mul_left_comm (2 ^ j) 2 t, Nat.mul_comm (2 ^ j) 2, Nat.mul_comm (2 * 2 ^ j) 2, Nat.mul_assoc, Nat.mul_assoc]
  rw [e, gIt_add] at h
  have b := gblock (i := j + 1) ha hv t
  rw [show min w (j + 1 + v) = v + j + 1 by omega] at b
  have h0 : (2 : Int) ^ v ∣ gIt a c (2 ^ (j + 1 + 1) * t) x - x := Int.dvd_trans (gpp (by omega)) b
  have g := gvd ha c w j (gIt a c (2 ^ (j + 1 + 1) * t) x)
  rw [gv0 ha hv h0] at g
  have h1 := Int.dvd_trans (gpp (show v + j + 1 ≤ w by omega)) h
  have h2 : (2 : Int) ^ (v + j + 1) ∣ gIt a c (2 ^ (j + 1)) (gIt a c (2 ^ (j + 1 + 1) * t) x) - gIt a c (2 ^ (j + 1 + 1) * t) x := gdvT h1 (gdvS b)
  have h3 := (gv_iff w _ (v + j + 1)).mpr ⟨by omega, h2⟩
  omega
theorem gnat2 : ∀ n : Nat, 0 < n → ∃ j t, n = 2 ^ j * (2 * t + 1) := by
  intro n
  induction n using Nat.strongRecOn with
  | _ n ih =>
    intro hn
    by_cases h : n % 2 = 0
    · obtain ⟨j, t, e⟩ := ih (n / 2) (by omega) (by omega)
      exact ⟨j + 1, t, by rw [Nat.pow_succ, Nat.mul_comm (2 ^ j) 2, Nat.mul_assoc, ← e]; omega⟩
    · exact ⟨0, n / 2, by rw [Nat.pow_zero]; omega⟩
theorem gcancel {a c : Int} (ha : a % 2 = 1) {w : Nat} : ∀ (n : Nat) {x y : Int}, (2 : Int) ^ w ∣ gIt a c n x - gIt a c n y → (2 : Int) ^ w ∣ x - y := by
  intro n x y h
  rw [gIt_sub] at h
  have h1 := gv_full.mp h
  rw [gv_mul, gv_odd (god_pow ha n)] at h1
  have := gv_le w (x - y)
  exact gv_full.mpr (by omega)
/-- fewer double steps lead elsewhere -/
theorem gleast {a c x y : Int} (ha : a % 2 = 1) {w v : Nat} (hv : gv w (gIt a c 2 x - x) = v) {m n : Nat} (hn : n < 2 ^ (w - v)) (h : (2 : Int) ^ w ∣ gIt a c (2 * n) x - y) (hm : m < n) : ¬ (2 : Int) ^ w ∣ gIt a c (2 * m) x - y := by
  intro g
  have e : 2 * n = 2 * (n - m) + 2 * m := by omega
  have d := gdvT h (gdvS g)
  rw [e, gIt_add] at d
  have d2 := gcancel ha _ d
  obtain ⟨j, t, ht⟩ := gnat2 (n - m) (by omega)
  rw [ht] at d2
  have hj : 2 ^ j < 2 ^ (w - v) := by
    have : 2 ^ j * 1 ≤ 2 ^ j * (2 * t + 1) := Nat.mul_le_mul_left _ (by omega)
    omega
  have := (Nat.pow_lt_pow_iff_right (show 1 < 2 by decide)).mp hj
  exact gno ha hv (by omega) d2
/-- one bit -/
theorem gbit1 {k : Nat} {D E : Int} (hD : (2 : Int) ^ k ∣ D) (h1 : D / 2 ^ k % 2 = 1) (hE : (2 : Int) ^ k ∣ E) (hn : ¬ (2 : Int) ^ (k + 1) ∣ E) : (2 : Int) ^ (k + 1) ∣ D - E := by
  obtain ⟨d, rfl⟩ := hD
  obtain ⟨e, rfl⟩ := hE
  rw [Int.mul_ediv_cancel_left _ (Int.ne_of_gt (gpos k))] at h1
  have he : e % 2 = 1 := by
    rcases Int.emod_two_eq e with z | z
    · refine absurd ⟨e / 2, ?_⟩ hn
      rw [g2S, Int.mul_comm 2, Int.mul_assoc]; congr 1; omega
    · exact z
  refine ⟨(d - e) / 2, ?_⟩
  rw [g2S, Int.mul_comm 2, Int.mul_assoc, ← Int.mul_sub]; congr 1; omega
theorem gbit0 {k : Nat} {D : Int} (hD : (2 : Int) ^ k ∣ D) (h1 : D / 2 ^ k % 2 ≠ 1) : (2 : Int) ^ (k + 1) ∣ D := by
  obtain ⟨d, rfl⟩ := hD
  rw [Int.mul_ediv_cancel_left _ (Int.ne_of_gt (gpos k))] at h1
  refine ⟨d / 2, ?_⟩
  rw [g2S, Int.mul_comm 2, Int.mul_assoc]; congr 1; omega
/-- the least number of double steps, or none -/
def SqR (w : Nat) (a c x y : Int) (o : Option Nat) : Prop := (o = none ∧ ∀ n : Nat, ¬ (2 : Int) ^ w ∣ gIt a c (2 * n) x - y) ∨ ∃ n : Nat, o = some n ∧ (2 : Int) ^ w ∣ gIt a c (2 * n) x - y ∧ ∀ m, m < n → ¬ (2 : Int) ^ w ∣ gIt a c (2 * m) x - y
/-- the least number of steps, or none -/
def LsR (w : Nat) (a c x y : Int) (o : Option Nat) : Prop := (o = none ∧ ∀ n : Nat, ¬ (2 : Int) ^ w ∣ gIt a c n x - y) ∨ ∃ n : Nat, o = some n ∧ (2 : Int) ^ w ∣ gIt a c n x - y ∧ ∀ m, m < n → ¬ (2 : Int) ^ w ∣ gIt a c m x - y
theorem LsR.uniq {w : Nat} {a c x y : Int} {o o' : Option Nat} (h : LsR w a c x y o) (g : LsR w a c x y o') : o = o' := by
  rcases h with ⟨rfl, h⟩ | ⟨n, rfl, h1, h2⟩ <;> rcases g with ⟨rfl, g⟩ | ⟨m, rfl, g1, g2⟩
  · rfl
  · exact absurd g1 (h m)
  · exact absurd h1 (g n)
  · rcases Nat.lt_trichotomy n m with z | z | z
    · exact absurd h1 (g2 n z)
    · rw [z]
    · exact absurd g1 (h2 m z)
theorem god_inv {a : Int} (ha : a % 2 = 1) (m : Nat) : (2 : Int) ^ m ∣ a ^ (2 ^ m) - 1 := by
  have h := gIt_full ha 0 m 1
  have e : ∀ n : Nat, gIt a 0 n 1 = a ^ n := fun n => by
    induction n with
    | zero => rw [Int.pow_zero]; rfl
    | succ n ih =>
      show a * gIt a 0 n 1 + 0 = _
      rw [ih, Int.pow_succ, Int.mul_comm]; omega
  rw [e] at h; exact h
theorem gper_mul {a c x : Int} {S : Int} {k : Nat} (h : S ∣ gIt a c k x - x) : ∀ n : Nat, S ∣ gIt a c (k * n) x - x
  | 0 => gdv0
  | n + 1 => by
    rw [Nat.mul_succ, Nat.add_comm, gIt_add]
    exact gdvT (gIt_congx (k * n) h) (gper_mul h n)
/-- all periods are multiples of the least one that is a power of two -/
theorem gper_dvd {a c x : Int} (ha : a % 2 = 1) {w i : Nat} (h1 : (2 : Int) ^ w ∣ gIt a c (2 ^ i) x - x) (h2 : ∀ j, j < i → ¬ (2 : Int) ^ w ∣ gIt a c (2 ^ j) x - x) {k : Nat} : (2 : Int) ^ w ∣ gIt a c k x - x ↔ 2 ^ i ∣ k := by
  constructor
  · intro hk
    by_cases k0 : k = 0
    · rw [k0]; exact Nat.dvd_zero _
    obtain ⟨j, t, rfl⟩ := gnat2 k (by omega)
    by_cases hj : i ≤ j
    · obtain ⟨u, rfl⟩ : ∃ u, j = i + u := ⟨j - i, by omega⟩
      rw [Nat.pow_add, Nat.mul_assoc]; exact Nat.dvd_mul_right _ _
    · exfalso
      obtain ⟨m, rfl⟩ : ∃ m, i = j + m := ⟨i - j, by omega⟩
      obtain ⟨q, hq⟩ := god_inv (a := ((2 * t + 1 : Nat) : Int)) (by omega) m
      have hp := gper_mul hk ((2 * t + 1) ^ (2 ^ m - 1))
      have e1 : 2 ^ j * (2 * t + 1) * (2 * t + 1) ^ (2 ^ m - 1) = 2 ^ j * (2 * t + 1) ^ (2 ^ m) := by
        have : 2 ^ m = (2 ^ m - 1) + 1 := by have := Nat.one_le_two_pow (n := m); omega
        conv => rhs; rw [this, Nat.pow_succ]
        rw [Nat.mul_assoc, Nat.mul_comm (2 * t + 1)]
      have q0 : 0 ≤ q := by
        have hb : (1 : Int) ≤ ((2 * t + 1 : Nat) : Int) ^ (2 ^ m) := by
          have := Nat.one_le_pow (2 ^ m) (2 * t + 1) (by omega)
          rw [← Int.natCast_pow]; omega
        refine Int.not_lt.mp fun c => ?_
        have := Int.mul_le_mul_of_nonneg_left (show q ≤ -1 by omega) (Int.le_of_lt (gpos m))
        have := gpos m
        omega
      obtain ⟨qn, rfl⟩ := Int.eq_ofNat_of_zero_le q0
      have e2 : (2 * t + 1) ^ (2 ^ m) = 1 + 2 ^ m * qn := by
        have : (((2 * t + 1) ^ (2 ^ m) : Nat) : Int) = ((1 + 2 ^ m * qn : Nat) : Int) := by
          have c1 : (((2 * t + 1) ^ (2 ^ m) : Nat) : Int) = ((2 * t + 1 : Nat) : Int) ^ (2 ^ m) := Int.natCast_pow _ _
          have c2 : ((1 + 2 ^ m * qn : Nat) : Int) = 1 + (2 : Int) ^ m * qn := by rw [Int.natCast_add, Int.natCast_mul, Int.natCast_pow]; rfl
          rw [c1, c2]; omega
        exact Int.ofNat_inj.mp this
      rw [e1, e2, Nat.mul_add, Nat.mul_one, ← Nat.mul_assoc, ← Nat.pow_add, Nat.add_comm, gIt_add] at hp
      exact h2 j (by
        have : 0 < m := by omega
        omega) (gdvT (gIt_congx _ (gdvS (gper_mul h1 qn))) hp)
  · rintro ⟨t, rfl⟩
    exact gper_mul h1 t
theorem gsame {a c x : Int} (ha : a % 2 = 1) {w : Nat} {m n : Nat} (hmn : m ≤ n) : (2 : Int) ^ w ∣ gIt a c n x - gIt a c m x ↔ (2 : Int) ^ w ∣ gIt a c (n - m) x - x := by
  have e : n = (n - m) + m := by omega
  constructor
  · intro h
    rw [e, gIt_add] at h
    exact gcancel ha _ h
  · intro h
    rw [e, gIt_add]
    exact gIt_congx m h
def gpart (i : Nat) : Option Nat → List Int
  | none => []
  | some n => [2 * (n : Int) + (i : Int)]
theorem gmerge {w : Nat} {a c x x1 y : Int} {o0 o1 : Option Nat} (hx : (2 : Int) ^ w ∣ x1 - gIt a c 1 x) (h0 : SqR w a c x y o0) (h1 : SqR w a c x1 y o1) :
    (gpart 0 o0 ++ gpart 1 o1 = [] → LsR w a c x y none) ∧ ∀ m, m ∈ gpart 0 o0 ++ gpart 1 o1 → (∀ z, z ∈ gpart 0 o0 ++ gpart 1 o1 → m ≤ z) → ∃ n : Nat, m = (n : Int) ∧ LsR w a c x y (some n) := by
  have odd : ∀ h : Nat, (2 : Int) ^ w ∣ gIt a c (2 * h + 1) x - y ↔ (2 : Int) ^ w ∣ gIt a c (2 * h) x1 - y := fun h => by
    have e : gIt a c (2 * h + 1) x = gIt a c (2 * h) (gIt a c 1 x) := by rw [← gIt_add, Nat.add_comm]
    have d := gIt_congx (a := a) (c := c) (2 * h) hx
    rw [e]
    exact ⟨fun z => gdvT d z, fun z => gdvT (gdvS d) z⟩
  have low : ∀ m : Nat, (2 : Int) ^ w ∣ gIt a c m x - y → ∃ z : Nat, z ≤ m ∧ (z : Int) ∈ gpart 0 o0 ++ gpart 1 o1 := fun m hm => by
    rcases Nat.mod_two_eq_zero_or_one m with e | e
    · obtain ⟨h, rfl⟩ : ∃ h, m = 2 * h := ⟨m / 2, by omega⟩
      rcases h0 with ⟨rfl, g⟩ | ⟨n, rfl, g1, g2⟩
      · exact absurd hm (g h)
      · have : ¬ h < n := fun z => g2 h z hm
        exact ⟨2 * n, by omega, List.mem_append.mpr (.inl (by simp [gpart]))⟩
    · obtain ⟨h, rfl⟩ : ∃ h, m = 2 * h + 1 := ⟨m / 2, by omega⟩
      have hm' := (odd h).mp hm
      rcases h1 with ⟨rfl, g⟩ | ⟨n, rfl, g1, g2⟩
      · exact absurd hm' (g h)
      · have : ¬ h < n := fun z => g2 h z hm'
        exact ⟨2 * n + 1, by omega, List.mem_append.mpr (.inr (by simp [gpart]))⟩
  refine ⟨fun e => .inl ⟨rfl, fun n hn => ?_⟩, fun m hm hl => ?_⟩
  · obtain ⟨z, _, hz⟩ := low n hn
    rw [e] at hz; cases hz
  · have hit : ∃ n : Nat, m = (n : Int) ∧ (2 : Int) ^ w ∣ gIt a c n x - y := by
      rcases List.mem_append.mp hm with h | h
      · rcases h0 with ⟨rfl, g⟩ | ⟨n, rfl, g1, g2⟩
        · cases h
        · have e : m = 2 * (n : Int) + ((0 : Nat) : Int) := List.mem_singleton.mp h
          exact ⟨2 * n, by omega, g1⟩
      · rcases h1 with ⟨rfl, g⟩ | ⟨n, rfl, g1, g2⟩
        · cases h
        · have e : m = 2 * (n : Int) + ((1 : Nat) : Int) := List.mem_singleton.mp h
          exact ⟨2 * n + 1, by omega, (odd n).mpr g1⟩
    obtain ⟨n, rfl, hn⟩ := hit
    refine ⟨n, rfl, .inr ⟨n, rfl, hn, fun k hk g => ?_⟩⟩
    obtain ⟨z, hz, hz2⟩ := low k g
    have := hl _ hz2
    omega
/-- how many steps come between two numbers that lead to y -/
def PerR (w : Nat) (a c x y : Int) (l : Nat) : Prop := (a % 2 = 1 → ∃ i, l = 2 ^ i ∧ i ≤ w ∧ (2 : Int) ^ w ∣ gIt a c (2 ^ i) x - x ∧ ∀ j, j < i → ¬ (2 : Int) ^ w ∣ gIt a c (2 ^ j) x - x) ∧ (a % 2 = 0 → ((2 : Int) ^ w ∣ gIt a c 1 y - y → l = 1) ∧ (¬ (2 : Int) ^ w ∣ gIt a c 1 y - y → l = 0))
/-- the values that are met, until one comes again -/
structure Way (w : Nat) (a c x : Int) (L t : Nat) : Prop where
  dis : ∀ i j, i < j → j < L → ¬ (2 : Int) ^ w ∣ gIt a c j x - gIt a c i x
  lt : t < L
  eq : (2 : Int) ^ w ∣ gIt a c L x - gIt a c t x
section
variable {w : Nat} {a c x y : Int} {L t : Nat}
theorem Way.on (h : Way w a c x L t) (k : Nat) : (2 : Int) ^ w ∣ gIt a c (L + k) x - gIt a c (t + k) x := by
  rw [gIt_add, gIt_add]
  exact gIt_congx k h.eq
theorem Way.all (h : Way w a c x L t) : ∀ n : Nat, ∃ m, m < L ∧ (2 : Int) ^ w ∣ gIt a c n x - gIt a c m x := by
  intro n
  induction n using Nat.strongRecOn with
  | _ n ih =>
    by_cases hn : n < L
    · exact ⟨n, hn, gdv0⟩
    · have lt := h.lt
      obtain ⟨m, hm, e⟩ := ih (t + (n - L)) (by omega)
      have o := h.on (n - L)
      rw [show L + (n - L) = n by omega] at o
      exact ⟨m, hm, gdvT o e⟩
theorem Way.hit (h : Way w a c x L t) {n : Nat} (hn : n < L) (e : (2 : Int) ^ w ∣ gIt a c n x - y) : LsR w a c x y (some n) :=
  .inr ⟨n, rfl, e, fun m hm g => h.dis m n hm hn (gdvT e (gdvS g))⟩
theorem Way.miss (h : Way w a c x L t) (e : ∀ n, n < L → ¬ (2 : Int) ^ w ∣ gIt a c n x - y) : LsR w a c x y none :=
  .inl ⟨rfl, fun n g => by
    obtain ⟨m, hm, d⟩ := h.all n
    exact e m hm (gdvT (gdvS d) g)⟩
theorem Way.odd (h : Way w a c x L t) (ao : a % 2 = 1) : t = 0 := by
  refine Nat.eq_zero_of_not_pos fun z => ?_
  have lt := h.lt
  have e := h.eq
  rw [show L = (L - 1) + 1 by omega, show t = (t - 1) + 1 by omega, gIt_add, gIt_add] at e
  exact h.dis (t - 1) (L - 1) (by omega) (by omega) (gcancel ao 1 e)
theorem Way.even (h : Way w a c x L t) (ae : a % 2 = 0) : t + 1 = L := by
  have lt := h.lt
  refine Nat.le_antisymm lt (Nat.le_of_not_lt fun z => ?_)
  have many : ∀ (k j : Nat), (2 : Int) ^ w ∣ gIt a c (t + (L - t) * k + j) x - gIt a c (t + j) x := fun k j => by
    induction k with
    | zero => exact gdv0
    | succ k ih =>
      have o := h.on ((L - t) * k + j)
      rw [show L + ((L - t) * k + j) = t + (L - t) * (k + 1) + j by rw [Nat.mul_succ]; omega, show t + ((L - t) * k + j) = t + (L - t) * k + j by omega] at o
      exact gdvT o ih
  have big : w ≤ t + (L - t) * w + 0 := by
    have := Nat.mul_le_mul_right w (show 1 ≤ L - t by omega)
    omega
  have e0 := gdvT (gdvS (gIt_even ae c big x)) (many w 0)
  have e1 := gdvT (gdvS (gIt_even ae c (show w ≤ t + (L - t) * w + 1 by omega) x)) (many w 1)
  exact h.dis t (t + 1) (by omega) (by omega) (gdvT (gdvS e1) e0)
theorem Way.per (h : Way w a c x L t) {n l : Nat} (hn : n < L) (e : (2 : Int) ^ w ∣ gIt a c n x - y) (p : PerR w a c x y l) : (t ≤ n → l = L - t) ∧ (n < t → l = 0) := by
  have lt := h.lt
  rcases Int.emod_two_eq a with ha | ha
  · have te := h.even ha
    obtain ⟨p1, p2⟩ := p.2 ha
    refine ⟨fun z => ?_, fun z => p2 fun f => ?_⟩
    · rw [p1 ?_]; omega
      have o := h.eq
      rw [← te, gIt_add] at o
      have en : t = n := by omega
      rw [en] at o
      exact gdvT (gIt_congx 1 (gdvS e)) (gdvT o e)
    · have := gdvT (gIt_congx (a := a) (c := c) 1 e) (gdvT f (gdvS e))
      rw [← gIt_add] at this
      exact h.dis n (n + 1) (by omega) (by omega) this
  · have t0 := h.odd ha
    obtain ⟨i, rfl, iw, h1, h2⟩ := p.1 ha
    refine ⟨fun _ => ?_, fun z => by omega⟩
    have o := h.eq
    rw [t0] at o
    have d := (gper_dvd ha h1 h2).mp o
    have le := Nat.le_of_dvd (by omega) d
    refine Nat.le_antisymm (by omega) (Nat.le_of_not_lt fun z => ?_)
    exact h.dis 0 (2 ^ i) (Nat.pow_pos (by decide)) (by omega) h1
end
theorem PerR.uniq {w : Nat} {a c x y : Int} {l l' : Nat} (h : PerR w a c x y l) (g : PerR w a c x y l') : l = l' := by
  rcases Int.emod_two_eq a with e | e
  · obtain ⟨h1, h2⟩ := h.2 e
    obtain ⟨g1, g2⟩ := g.2 e
    by_cases z : (2 : Int) ^ w ∣ gIt a c 1 y - y
    · rw [h1 z, g1 z]
    · rw [h2 z, g2 z]
  · obtain ⟨i, rfl, _, h1, h2⟩ := h.1 e
    obtain ⟨j, rfl, _, g1, g2⟩ := g.1 e
    rcases Nat.lt_trichotomy i j with z | z | z
    · exact absurd h1 (g2 i z)
    · rw [z]
    · exact absurd g1 (h2 j z)
theorem PerR.zero {a c x y : Int} {l : Nat} (h : PerR 0 a c x y l) : l = 1 := by
  have d : ∀ z : Int, (2 : Int) ^ 0 ∣ z := fun z => by rw [Int.pow_zero]; exact Int.one_dvd _
  rcases Int.emod_two_eq a with e | e
  · exact (h.2 e).1 (d _)
  · obtain ⟨i, rfl, iw, _, _⟩ := h.1 e
    rw [show i = 0 by omega]
theorem LsR.zero {a c x y : Int} {o : Option Nat} (h : LsR 0 a c x y o) : o = some 0 := h.uniq (.inr ⟨0, rfl, by rw [Int.pow_zero]; exact Int.one_dvd _, fun m hm => by omega⟩)
/-- f 0, f 1, .. -/
def gL (f : Nat → Int) (L : Nat) : List Int := (List.range L).map f
section
variable {f : Nat → Int} {L i : Nat} {y : Int}
theorem gL_mem : y ∈ gL f L ↔ ∃ i, i < L ∧ f i = y := by
  unfold gL
  rw [List.mem_map]
  constructor
  · rintro ⟨i, hi, e⟩; exact ⟨i, List.mem_range.mp hi, e⟩
  · rintro ⟨i, hi, e⟩; exact ⟨i, List.mem_range.mpr hi, e⟩
theorem gL_len : (gL f L).length = L := by unfold gL; rw [List.length_map, List.length_range]
theorem gL_succ : gL f (L + 1) = gL f L ++ [f L] := by unfold gL; rw [List.range_succ, List.map_append]; rfl
theorem gL_get (h : i < L) : (gL f L)[i]? = some (f i) := by unfold gL; rw [List.getElem?_map, List.getElem?_range h]; rfl
end
theorem least_ex {P : Nat → Prop} : ∀ {n : Nat}, P n → ∃ m, m ≤ n ∧ P m ∧ ∀ k, k < m → ¬ P k := by
  intro n
  induction n using Nat.strongRecOn with
  | _ n ih =>
    intro h
    by_cases e : ∃ k, k < n ∧ P k
    · obtain ⟨k, hk, pk⟩ := e
      obtain ⟨m, h1, h2, h3⟩ := ih k hk pk
      exact ⟨m, by omega, h2, h3⟩
    · exact ⟨n, Nat.le_refl _, h, fun k hk pk => e ⟨k, hk, pk⟩⟩
section
variable {w : Nat} {a c x y a' c' x' y' : Int}
theorem hit_conv (ha : (2 : Int) ^ w ∣ a - a') (hc : (2 : Int) ^ w ∣ c - c') (hx : (2 : Int) ^ w ∣ x - x') (hy : (2 : Int) ^ w ∣ y - y') (n : Nat) : (2 : Int) ^ w ∣ gIt a c n x - y ↔ (2 : Int) ^ w ∣ gIt a' c' n x' - y' := by
  have e := gIt_cong ha hc n hx
  exact ⟨fun h => gdvT (gdvS e) (gdvT h hy), fun h => gdvT e (gdvT h (gdvS hy))⟩
theorem LsR.conv (ha : (2 : Int) ^ w ∣ a - a') (hc : (2 : Int) ^ w ∣ c - c') (hx : (2 : Int) ^ w ∣ x - x') (hy : (2 : Int) ^ w ∣ y - y') {o : Option Nat} (h : LsR w a c x y o) : LsR w a' c' x' y' o := by
  have q := hit_conv ha hc hx hy
  rcases h with ⟨e, h⟩ | ⟨n, e, h1, h2⟩
  · exact .inl ⟨e, fun n g => h n ((q n).mpr g)⟩
  · exact .inr ⟨n, e, (q n).mp h1, fun m hm g => h2 m hm ((q m).mpr g)⟩
theorem PerR.conv (hp : a % 2 = a' % 2) (ha : (2 : Int) ^ w ∣ a - a') (hc : (2 : Int) ^ w ∣ c - c') (hx : (2 : Int) ^ w ∣ x - x') (hy : (2 : Int) ^ w ∣ y - y') {l : Nat} (h : PerR w a c x y l) : PerR w a' c' x' y' l := by
  have q := hit_conv ha hc hx hx
  have q1 := hit_conv ha hc hy hy 1
  refine ⟨fun e => ?_, fun e => ?_⟩
  · obtain ⟨i, e1, iw, h1, h2⟩ := h.1 (by omega)
    exact ⟨i, e1, iw, (q _).mp h1, fun j hj g => h2 j hj ((q _).mpr g)⟩
  · obtain ⟨h1, h2⟩ := h.2 (by omega)
    exact ⟨fun g => h1 (q1.mpr g), fun g => h2 fun z => g (q1.mp z)⟩
theorem per_hit {n l : Nat} (h : (2 : Int) ^ w ∣ gIt a c n x - y) (p : PerR w a c x y l) (k : Nat) : (2 : Int) ^ w ∣ gIt a c (n + l * k) x - y := by
  rcases Int.emod_two_eq a with e | e
  · obtain ⟨p1, p2⟩ := p.2 e
    by_cases f : (2 : Int) ^ w ∣ gIt a c 1 y - y
    · rw [p1 f, gIt_add]
      exact gdvT (gIt_congx _ h) (gper_mul f k)
    · rw [p2 f, Nat.zero_mul]; exact h
  · obtain ⟨i, rfl, _, h1, _⟩ := p.1 e
    rw [Nat.add_comm, gIt_add]
    exact gdvT (gIt_congx n (gper_mul h1 k)) h
end
section
variable {w v : Nat} {a c x y : Int}
theorem LsR.get {n : Nat} (h : LsR w a c x y (some n)) : (2 : Int) ^ w ∣ gIt a c n x - y ∧ ∀ m, m < n → ¬ (2 : Int) ^ w ∣ gIt a c m x - y := by
  rcases h with ⟨z, _⟩ | ⟨n', e, h⟩
  · cases z
  · obtain rfl := Option.some.inj e
    exact h
theorem LsR.low_none (h : v ≤ w) (l : LsR v a c x y none) : LsR w a c x y none := by
  rcases l with ⟨_, g⟩ | ⟨n, e, _⟩
  · exact .inl ⟨rfl, fun n z => g n (Int.dvd_trans (gpp h) z)⟩
  · cases e
/-- with an even factor what comes again stays -/
theorem even_stay (ae : a % 2 = 0) {k : Nat} (k0 : 0 < k) (h : (2 : Int) ^ w ∣ gIt a c k y - y) : (2 : Int) ^ w ∣ gIt a c 1 y - y := by
  have m := gper_mul h w
  have kw : w ≤ k * w := Nat.le_mul_of_pos_left w k0
  have e1 := gIt_even ae c kw y
  have e2 := gIt_even ae c (show w ≤ k * w + 1 by omega) y
  rw [gIt_add] at e2
  exact gdvT (gIt_congx 1 (gdvS m)) (gdvT e2 (gdvT (gdvS e1) m))
theorem low_more (h : v ≤ w) {n m l k : Nat} (h1 : LsR v a c x y (some n)) (h2 : LsR w a c x y (some m)) (p1 : PerR v a c x y l) (p2 : PerR w a c x y k) : n ≤ m ∧ (l = 0 → n = m ∧ k = 0) ∧ (l ≠ 0 → l ∣ m - n ∧ l ∣ k) := by
  obtain ⟨a1, a2⟩ := h1.get
  obtain ⟨b1, b2⟩ := h2.get
  have b1' := Int.dvd_trans (gpp h) b1
  have nm : n ≤ m := Nat.le_of_not_lt fun z => a2 m z b1'
  refine ⟨nm, fun l0 => ?_, fun l0 => ?_⟩
  · subst l0
    rcases Int.emod_two_eq a with ae | ao
    · obtain ⟨q1, q2⟩ := p1.2 ae
      have nf : ¬ (2 : Int) ^ v ∣ gIt a c 1 y - y := fun f => by cases q1 f
      obtain ⟨r1, r2⟩ := p2.2 ae
      refine ⟨?_, r2 fun f => nf (Int.dvd_trans (gpp h) f)⟩
      refine Nat.le_antisymm nm (Nat.le_of_not_lt fun z => nf (even_stay ae (show 0 < m - n by omega) ?_))
      rw [show m = n + (m - n) by omega, gIt_add] at b1'
      exact gdvT (gIt_congx _ (gdvS a1)) b1'
    · obtain ⟨i, e, _⟩ := p1.1 ao
      have := Nat.pow_pos (n := i) (show 0 < 2 by decide)
      omega
  · rcases Int.emod_two_eq a with ae | ao
    · obtain ⟨q1, q2⟩ := p1.2 ae
      have l1 : l = 1 := by
        by_cases f : (2 : Int) ^ v ∣ gIt a c 1 y - y
        · exact q1 f
        · exact absurd (q2 f) l0
      rw [l1]
      exact ⟨Nat.one_dvd _, Nat.one_dvd _⟩
    · obtain ⟨i, rfl, _, i1, i2⟩ := p1.1 ao
      obtain ⟨j, rfl, _, j1, j2⟩ := p2.1 ao
      refine ⟨(gper_dvd ao i1 i2).mp ((gsame ao nm).mp (gdvT b1' (gdvS a1))), (gper_dvd ao i1 i2).mp (Int.dvd_trans (gpp h) j1)⟩
end
end Fw
namespace Fw
open L2
open PySem PySem.Spec PyProof.Rows
/-! ### roots by formulas -/
theorem gmd2 {w : Nat} {y z : Int} : (2 : Int) ^ w ∣ y * z ↔ w ≤ gv w y + gv w z := by
  rw [gv_full, gv_mul]
  exact ⟨fun h => by omega, fun h => by omega⟩
theorem gvk2 {w k : Nat} {x : Int} (h : k ≤ w) : (2 : Int) ^ k ∣ x ↔ k ≤ gv w x := by
  rw [gv_iff]; exact ⟨fun z => ⟨h, z⟩, fun z => z.2⟩
theorem gv_one {w : Nat} : gv w 1 = 0 := gv_odd (by decide)
/-- a power's roots -/
theorem pow_dvd {w e : Nat} (x : Int) (he : 1 ≤ e) : (2 : Int) ^ w ∣ x ^ e ↔ (2 : Int) ^ ((w + e - 1) / e) ∣ x := by
  have cw : (w + e - 1) / e ≤ w := by
    rcases Nat.eq_zero_or_pos w with z | z
    · subst z; rw [Nat.div_eq_of_lt (by omega)]; exact Nat.le_refl _
    · refine Nat.div_le_of_le_mul ?_
      have : w + e - 1 ≤ e * w := by
        obtain ⟨a, rfl⟩ : ∃ a, w = a + 1 := ⟨w - 1, by omega⟩
        obtain ⟨b, rfl⟩ : ∃ b, e = b + 1 := ⟨e - 1, by omega⟩
        rw [Nat.mul_add, Nat.mul_one, Nat.add_mul]
        have := Nat.zero_le (b * a)
        omega
      exact this
  have h := gv_pow w x 1 e
  rw [Int.mul_one, gv_one, Nat.add_zero] at h
  rw [gvk2 cw, gv_full, h]
  have : (w + e - 1) / e ≤ gv w x ↔ w ≤ e * gv w x := by
    rw [Nat.div_le_iff_le_mul_add_pred (by omega)]
    exact ⟨fun z => by omega, fun z => by omega⟩
  rw [this]
  exact ⟨fun z => by omega, fun z => by omega⟩
theorem gpoS (w : Nat) : (0 : Int) < 2 ^ w := Int.pow_pos (by decide)
theorem odd_dvd {w : Nat} {a z : Int} (ha : a % 2 = 1) : (2 : Int) ^ w ∣ a * z ↔ (2 : Int) ^ w ∣ z := by
  rw [gmd2, gv_odd ha, Nat.zero_add, gv_full]
  have := gv_le w z
  exact ⟨fun h => by omega, fun h => by omega⟩
theorem pw_dvd {w k : Nat} (h : k ≤ w) (z : Int) : (2 : Int) ^ w ∣ 2 ^ k * z ↔ (2 : Int) ^ (w - k) ∣ z := by
  have e : (2 : Int) ^ w = 2 ^ k * 2 ^ (w - k) := by rw [← Int.pow_add]; congr 1; omega
  rw [e]
  exact ⟨fun h => Int.dvd_of_mul_dvd_mul_left (Int.ne_of_gt (gpoS k)) h, fun h => Int.mul_dvd_mul_left _ h⟩
/-- unlike parity -/
theorem par_dvd {w : Nat} {r s x : Int} (hr : r % 2 = 0) (hs : s % 2 = 1) : (2 : Int) ^ w ∣ (x - r) * (x - s) ↔ (2 : Int) ^ w ∣ x - r ∨ (2 : Int) ^ w ∣ x - s := by
  rcases Int.emod_two_eq x with e | e
  · rw [Int.mul_comm, odd_dvd (by omega)]
    refine ⟨.inl, fun h => h.elim id fun h => ?_⟩
    cases w with
    | zero => exact ⟨x - r, by rw [Int.pow_zero, Int.one_mul]⟩
    | succ w =>
      have : (2 : Int) ∣ x - s := Int.dvd_trans ⟨2 ^ w, by rw [Int.pow_succ, Int.mul_comm]⟩ h
      omega
  · rw [odd_dvd (by omega)]
    refine ⟨.inr, fun h => h.elim (fun h => ?_) id⟩
    cases w with
    | zero => exact ⟨x - s, by rw [Int.pow_zero, Int.one_mul]⟩
    | succ w =>
      have : (2 : Int) ∣ x - r := Int.dvd_trans ⟨2 ^ w, by rw [Int.pow_succ, Int.mul_comm]⟩ h
      omega
/-- squares -/
theorem sq_ones {n : Nat} {y : Int} (h : 3 ≤ n) : (2 : Int) ^ n ∣ y * y - 1 ↔ (2 : Int) ^ (n - 1) ∣ y - 1 ∨ (2 : Int) ^ (n - 1) ∣ y + 1 := by
  have e2 : y * y - 1 = (y - 1) * (y + 1) := by rw [Int.sub_mul, Int.mul_add, Int.mul_one, Int.one_mul]; omega
  have two : ∀ {z : Int}, (2 : Int) ^ (n - 1) ∣ z → z % 4 = 0 := fun {z} h => by
    have : (4 : Int) ∣ z := Int.dvd_trans ⟨2 ^ (n - 3), by rw [show (4 : Int) = 2 ^ 2 by rfl, ← Int.pow_add]; congr 1; omega⟩ h
    omega
  have key : ∀ {a b : Int}, b = a + 2 ∨ a = b + 2 → a % 2 = 0 → b % 4 = 2 → ((2 : Int) ^ n ∣ a * b ↔ (2 : Int) ^ (n - 1) ∣ a) := fun {a b} _ ha hb => by
    obtain ⟨c, rfl⟩ : ∃ c, b = 2 * (2 * c + 1) := ⟨b / 4, by omega⟩
    have en : (2 : Int) ^ n = 2 ^ 1 * 2 ^ (n - 1) := by rw [← Int.pow_add]; congr 1; omega
    rw [show a * (2 * (2 * c + 1)) = 2 ^ 1 * ((2 * c + 1) * a) by rw [Int.pow_one, Int.mul_left_comm, Int.mul_comm a], pw_dvd (by omega), odd_dvd (by omega)]
  rw [e2]
  rcases Int.emod_two_eq y with e | e
  · refine ⟨fun h => ?_, fun h => ?_⟩
    · rw [odd_dvd (by omega)] at h
      have : (2 : Int) ∣ y + 1 := Int.dvd_trans ⟨2 ^ (n - 1), by rw [Int.mul_comm, ← Int.pow_succ]; congr 1; omega⟩ h
      omega
    · rcases h with h | h <;> (have := two h; omega)
  · rcases (show y % 4 = 1 ∨ y % 4 = 3 by omega) with f | f
    · rw [key (.inl (by omega)) (by omega) (by omega)]
      refine ⟨.inl, fun h => h.elim id fun h => ?_⟩
      have := two h; omega
    · rw [Int.mul_comm, key (.inr (by omega)) (by omega) (by omega)]
      refine ⟨.inr, fun h => h.elim (fun h => ?_) id⟩
      have := two h; omega
theorem sq_odd {n : Nat} {y : Int} (h1 : 1 ≤ n) (h3 : n ≤ 3) : (2 : Int) ^ n ∣ y * y - 1 ↔ y % 2 = 1 := by
  have e2 : y * y - 1 = (y - 1) * (y + 1) := by rw [Int.sub_mul, Int.mul_add, Int.mul_one, Int.one_mul]; omega
  refine ⟨fun h => ?_, fun h => ?_⟩
  · rcases Int.emod_two_eq y with e | e
    · rw [e2, odd_dvd (by omega)] at h
      have : (2 : Int) ∣ y + 1 := Int.dvd_trans ⟨2 ^ (n - 1), by rw [Int.mul_comm, ← Int.pow_succ]; congr 1; omega⟩ h
      omega
    · exact e
  · obtain ⟨c, rfl⟩ : ∃ c, y = 2 * c + 1 := ⟨y / 2, by omega⟩
    have h8 : (8 : Int) ∣ (2 * c + 1) * (2 * c + 1) - 1 := by
      have q : c * (c + 1) % 2 = 0 := by
        rcases Int.emod_two_eq c with e | e
        · rw [Int.mul_emod, e, Int.zero_mul]; rfl
        · rw [Int.mul_emod, show (c + 1) % 2 = 0 by omega]; rw [Int.mul_zero]; rfl
      have e4 : (2 * c + 1) * (2 * c + 1) - 1 = 4 * (c * (c + 1)) := by
        rw [Int.add_mul, Int.one_mul, Int.mul_add, Int.mul_one, Int.mul_add, Int.mul_one, Int.mul_assoc 2 c, Int.mul_left_comm c 2 c]; omega
      omega
    refine Int.dvd_trans ⟨2 ^ (3 - n), ?_⟩ h8
    rw [← Int.pow_add, show n + (3 - n) = 3 by omega]; rfl
/-- x * x = 4 ^ t -/
theorem sq_root {w t : Nat} (x : Int) (h : 2 * t < w) : (2 : Int) ^ w ∣ x * x - 2 ^ (2 * t) ↔ ∃ y, x = 2 ^ t * y ∧ (2 : Int) ^ (w - 2 * t) ∣ y * y - 1 := by
  have e4 : (2 : Int) ^ (2 * t) = 2 ^ t * 2 ^ t := by rw [← Int.pow_add]; congr 1; omega
  have fwd : ∀ y : Int, (2 ^ t * y) * (2 ^ t * y) - 2 ^ (2 * t) = 2 ^ (2 * t) * (y * y - 1) := fun y => by
    rw [e4, Int.mul_sub, Int.mul_one, Int.mul_assoc, Int.mul_left_comm y, Int.mul_assoc]
  refine ⟨fun hd => ?_, fun ⟨y, ey, hy⟩ => ?_⟩
  · have h2 : (2 : Int) ^ (2 * t) ∣ x * x := by
      have a : (2 : Int) ^ (2 * t) ∣ x * x - 2 ^ (2 * t) := Int.dvd_trans (gppR (by omega)) hd
      have := Int.dvd_add a (Int.dvd_refl ((2 : Int) ^ (2 * t)))
      rwa [Int.sub_add_cancel] at this
    have h3 : (2 : Int) ^ t ∣ x := by
      by_cases z : (2 : Int) ^ t ∣ x
      · exact z
      · rw [gmd2] at h2
        rw [gvk2 (w := 2 * t) (by omega)] at z
        omega
    obtain ⟨y, ey⟩ := h3
    refine ⟨y, ey, ?_⟩
    rw [ey, fwd, pw_dvd (by omega)] at hd
    exact hd
  · rw [ey, fwd, pw_dvd (by omega)]
    exact hy
/-- the families of x * x = 4 ^ t -/
theorem sq_fams {w t : Nat} (x : Int) (h : 2 * t < w) : (2 : Int) ^ w ∣ x * x - 2 ^ (2 * t) ↔ if w - 2 * t ≤ 3 then (2 : Int) ^ (t + 1) ∣ x - 2 ^ t else ((2 : Int) ^ (w - t - 1) ∣ x - 2 ^ t ∨ (2 : Int) ^ (w - t - 1) ∣ x - (2 ^ (w - t - 1) - 2 ^ t)) := by
  rw [sq_root x h]
  have mul : ∀ (j : Nat) (y c : Int), (2 : Int) ^ (t + j) ∣ 2 ^ t * y - 2 ^ t * c ↔ (2 : Int) ^ j ∣ y - c := fun j y c => by
    rw [← Int.mul_sub, pw_dvd (by omega), Nat.add_sub_cancel_left]
  split
  · rename_i c
    refine ⟨fun ⟨y, ey, hy⟩ => ?_, fun hd => ?_⟩
    · have := (sq_odd (by omega) c).mp hy
      rw [ey]
      have := (mul 1 y 1).mpr (by rw [Int.pow_one]; omega)
      rwa [Int.mul_one] at this
    · have : (2 : Int) ^ t ∣ x := by
        have := Int.dvd_add (Int.dvd_trans (gppR (show t ≤ t + 1 by omega)) hd) (Int.dvd_refl ((2 : Int) ^ t))
        rwa [Int.sub_add_cancel] at this
      obtain ⟨y, ey⟩ := this
      refine ⟨y, ey, (sq_odd (by omega) c).mpr ?_⟩
      have := (mul 1 y 1).mp (by rw [Int.mul_one, ← ey]; exact hd)
      rw [Int.pow_one] at this
      omega
  · rename_i c
    have ew : w - t - 1 = t + (w - 2 * t - 1) := by omega
    have e2 : ∀ z : Int, (2 : Int) ^ (w - t - 1) ∣ z - (2 ^ (w - t - 1) - 2 ^ t) ↔ (2 : Int) ^ (w - t - 1) ∣ z - 2 ^ t * (-1) := fun z => by
      rw [show z - (2 ^ (w - t - 1) - 2 ^ t) = (z - 2 ^ t * (-1)) - 2 ^ (w - t - 1) by rw [Int.mul_neg, Int.mul_one]; omega]
      exact ⟨fun h => by have := Int.dvd_add h (Int.dvd_refl _); rwa [Int.sub_add_cancel] at this, fun h => Int.dvd_sub h (Int.dvd_refl _)⟩
    rw [e2]
    refine ⟨fun ⟨y, ey, hy⟩ => ?_, fun hd => ?_⟩
    · rcases (sq_ones (by omega)).mp hy with g | g
      · left; rw [ey, ew]
        have := (mul (w - 2 * t - 1) y 1).mpr g
        rwa [Int.mul_one] at this
      · right; rw [ey, ew]
        exact (mul (w - 2 * t - 1) y (-1)).mpr (by rw [show y - -1 = y + 1 by omega]; exact g)
    · have : (2 : Int) ^ t ∣ x := by
        rcases hd with hd | hd
        · have := Int.dvd_add (Int.dvd_trans (gppR (show t ≤ w - t - 1 by omega)) hd) (Int.dvd_refl ((2 : Int) ^ t))
          rwa [Int.sub_add_cancel] at this
        · have := Int.dvd_add (Int.dvd_trans (gppR (show t ≤ w - t - 1 by omega)) hd) (Int.dvd_mul_right ((2 : Int) ^ t) (-1))
          rwa [Int.sub_add_cancel] at this
      obtain ⟨y, rfl⟩ := this
      refine ⟨y, rfl, (sq_ones (by omega)).mpr ?_⟩
      rcases hd with hd | hd
      · left; rw [ew] at hd
        exact (mul _ y 1).mp (by rw [Int.mul_one]; exact hd)
      · right; rw [ew] at hd
        have := (mul _ y (-1)).mp hd
        rwa [show y - -1 = y + 1 by omega] at this
/-! ### products, with the sum of the absolute values -/
def n1 (cs : List Int) : Nat := (cs.map Int.natAbs).sum
theorem n1_mem : ∀ {cs : List Int} {c : Int}, c ∈ cs → c.natAbs ≤ n1 cs
  | d :: cs, c, h => by
    show c.natAbs ≤ ((d :: cs).map Int.natAbs).sum
    rw [List.map_cons, List.sum_cons]
    rcases List.mem_cons.mp h with e | h
    · rw [e]; omega
    · have : c.natAbs ≤ (cs.map Int.natAbs).sum := n1_mem h
      omega
theorem n1_set : ∀ (cs : List Int) (i : Nat) (d : Int), n1 (cs.set i ((cs[i]?.getD 0) + d)) ≤ n1 cs + d.natAbs
  | [], _, _ => by show (0 : Nat) ≤ _; omega
  | c :: cs, 0, d => by
    show ((c + d) :: cs |>.map Int.natAbs).sum ≤ ((c :: cs).map Int.natAbs).sum + d.natAbs
    rw [List.map_cons, List.sum_cons, List.map_cons, List.sum_cons]
    have := Int.natAbs_add_le c d
    omega
  | c :: cs, i + 1, d => by
    show ((c :: cs.set i (cs[i]?.getD 0 + d)).map Int.natAbs).sum ≤ ((c :: cs).map Int.natAbs).sum + d.natAbs
    rw [List.map_cons, List.sum_cons, List.map_cons, List.sum_cons]
    have : ((cs.set i (cs[i]?.getD 0 + d)).map Int.natAbs).sum ≤ (cs.map Int.natAbs).sum + d.natAbs := n1_set cs i d
    omega
theorem pvl_set (x d : Int) : ∀ (cs : List Int) (i : Nat), i < cs.length → pvl (cs.set i ((cs[i]?.getD 0) + d)) x = pvl cs x + x ^ i * d
  | [], _, h => by simp at h
  | c :: cs, 0, _ => by
    show (c + d) + x * pvl cs x = (c + x * pvl cs x) + x ^ 0 * d
    rw [Int.pow_zero, Int.one_mul]; omega
  | c :: cs, i + 1, h => by
    show c + x * pvl (cs.set i (cs[i]?.getD 0 + d)) x = (c + x * pvl cs x) + x ^ (i + 1) * d
    rw [pvl_set x d cs i (by simpa using h), Int.mul_add, Int.pow_succ, Int.mul_comm (x ^ i) x, Int.mul_assoc]; omega
theorem pvl_take (x : Int) (cs : List Int) {i : Nat} {c : Int} (h : cs[i]? = some c) : pvl (cs.take (i + 1)) x = pvl (cs.take i) x + x ^ i * c := by
  have l : i < cs.length := (List.getElem?_eq_some_iff.mp h).1
  rw [List.take_add_one, h, pv_append, List.length_take, Nat.min_eq_left (by omega)]
  show _ + x ^ i * (c + x * 0) = _
  rw [Int.mul_zero, Int.add_zero]
theorem n1_take (cs : List Int) {i : Nat} {c : Int} (h : cs[i]? = some c) : n1 (cs.take (i + 1)) = n1 (cs.take i) + c.natAbs := by
  unfold n1
  rw [List.take_add_one, h, List.map_append, List.sum_append]
  show _ + (c.natAbs + 0) = _
  omega
theorem pvl_rep0 (x : Int) : ∀ n : Nat, pvl (List.replicate n 0) x = 0
  | 0 => rfl
  | n + 1 => by
    show 0 + x * pvl (List.replicate n 0) x = 0
    rw [pvl_rep0 x n, Int.mul_zero]; rfl
theorem n1_rep0 : ∀ n : Nat, n1 (List.replicate n 0) = 0
  | 0 => rfl
  | n + 1 => by
    show 0 + ((List.replicate n (0 : Int)).map Int.natAbs).sum = 0
    have : ((List.replicate n (0 : Int)).map Int.natAbs).sum = 0 := n1_rep0 n
    omega
theorem pvl_mono (x : Int) (e : Nat) : pvl (List.replicate e 0 ++ [1]) x = x ^ e := by
  rw [pv_append, pvl_rep0, List.length_replicate]
  show 0 + x ^ e * (1 + x * 0) = x ^ e
  rw [Int.mul_zero, Int.add_zero, Int.mul_one, Int.zero_add]
/-! ### rows of one level -/
theorem NRow.lvl {w d : Nat} {fl : FL} (so : fl.Pairwise ltF) (h : ∀ p ∈ fl, p.2 = d ∧ 0 ≤ p.1 ∧ p.1 < 2 ^ d) (dw : d ≤ w) (ir : 1 ≤ d → ∀ p ∈ fl, ∀ q ∈ fl, q.1 ≠ p.1 + 2 ^ (d - 1)) : NRow w fl :=
  ⟨so, ⟨fun f e m => by
    obtain ⟨a, b, c⟩ := h _ m
    simp only at a b c
    rw [a]; exact ⟨b, c, dw⟩, fun f e g e' x m m' hx hx' => by
    obtain ⟨a, b, c⟩ := h _ m
    obtain ⟨a', b', c'⟩ := h _ m'
    simp only at a b c a' b' c'
    rw [a] at hx ⊢
    rw [a'] at hx' ⊢
    exact ⟨res_eq b c b' c' (dvT (dvS hx) hx'), rfl⟩, fun k k1 kw f hf both => by
    obtain ⟨m, m'⟩ := both
    obtain ⟨a, _, _⟩ := h _ m
    simp only at a
    subst a
    exact ir k1 _ m _ m' rfl⟩⟩
theorem cover_cons {p : Int × Nat} {fl : FL} {x : Int} : Cover (famL (p :: fl)) x ↔ (2 : Int) ^ p.2 ∣ x - p.1 ∨ Cover (famL fl) x := by
  constructor
  · rintro ⟨f, e, m, d⟩
    rcases List.mem_cons.mp m with z | z
    · rw [← z]; exact .inl d
    · exact .inr ⟨f, e, z, d⟩
  · rintro (d | ⟨f, e, m, d⟩)
    · exact ⟨p.1, p.2, List.mem_cons_self, d⟩
    · exact ⟨f, e, List.mem_cons_of_mem _ m, d⟩
theorem cover_perm {fl gl : FL} (p : fl.Perm gl) {x : Int} : Cover (famL fl) x ↔ Cover (famL gl) x := ⟨fun ⟨f, e, m, d⟩ => ⟨f, e, p.mem_iff.mp m, d⟩, fun ⟨f, e, m, d⟩ => ⟨f, e, p.mem_iff.mpr m, d⟩⟩
theorem dvd_res {d : Nat} {x r : Int} : (2 : Int) ^ d ∣ x - r % 2 ^ d ↔ (2 : Int) ^ d ∣ x - r := by
  have e : (2 : Int) ^ d ∣ r % 2 ^ d - r := Int.dvd_emod_sub_self
  exact ⟨fun h => dvT h e, fun h => dvT h (dvS e)⟩
/-! ### any row of pairs sorted -/
theorem PRow.sort {H : Hp} {rs ys : List V} {fl : FL} (r : PRow H rs fl) (nd : fl.Nodup) (pm : ys.Perm rs) (so : SrtO.Srtd (ltP (kOf H)) ys) : ∃ gl : FL, PRow H ys gl ∧ gl.Perm fl ∧ gl.Pairwise ltF := by
  have back : ∀ {rs : List V} {fl : FL}, PRow H rs fl → fl = rs.map fun v => ((kOf H v).1, (kOf H v).2.toNat) := fun {rs fl} r => by
    induction r with
    | nil => rfl
    | @cons q f e rs fl hq r ih => rw [List.map_cons, kOf_at hq, ← ih]; rfl
  have hy : ∀ v ∈ ys, ∃ (q : Addr) (f : Int) (e : Nat), v = .ref q ∧ H q = some (.tup [.int f, .int (e : Int)]) := fun v hv => by
    obtain ⟨i, hi⟩ := List.getElem?_of_mem (pm.mem_iff.mp hv)
    obtain ⟨q, f, e, a, b, _⟩ := r.get hi
    exact ⟨q, f, e, a, b⟩
  have pg := pm.map fun v => ((kOf H v).1, (kOf H v).2.toNat)
  rw [← back r] at pg
  refine ⟨_, row_of_vals hy, pg, ?_⟩
  have ng := pg.nodup_iff.mpr nd
  rw [List.pairwise_map]
  rw [List.Nodup, List.pairwise_map] at ng
  refine List.Pairwise.imp_of_mem (fun {a b} ha hb h => ?_) (List.Pairwise.and so ng)
  obtain ⟨q, f, e, rfl, hq⟩ := hy a ha
  obtain ⟨q', f', e', rfl, hq'⟩ := hy b hb
  obtain ⟨h1, h2⟩ := h
  unfold ltP at h1
  rw [kOf_at hq, kOf_at hq'] at h1 h2 ⊢
  have h1 := SrtO.lexB_no.mp h1
  simp only [Int.toNat_natCast] at h1 h2 ⊢
  show f < f' ∨ (f = f' ∧ e < e')
  rcases Int.lt_trichotomy f f' with z | z | z
  · exact .inl z
  · refine .inr ⟨z, ?_⟩
    subst z
    have : e ≠ e' := fun z => h2 (by rw [z])
    omega
  · omega
theorem w_sortRows {K : PySem.W.Frag} {H : Hp} {Q : VK} {a : Addr} {out : List V} {fl : FL} (h : H a = some (.lst out)) (r : PRow H out fl) (nd : fl.Nodup) (q : ∀ l ys gl, H l = none → PRow H ys gl → gl.Perm fl → gl.Pairwise ltF → Q (.ref l) (upd H l (.lst ys))) : rSortedPO K [.ref a] H Q :=
  ⟨a, out, kOf H, rfl, SqL.of h, r.k, fun ys l so st hl => by
    obtain ⟨gl, h1, h2, h3⟩ := r.sort nd (st.perm) so
    exact q l ys gl hl h1 h2 h3⟩

/-! ### products of unlike parts -/
def prR (rs : List Int) (x : Int) : Int := rs.foldl (fun a r => a * (x - r)) 1
theorem prR_snoc (rs : List Int) (r x : Int) : prR (rs ++ [r]) x = prR rs x * (x - r) := by
  unfold prR; rw [List.foldl_append]; rfl
theorem gvm1 {w : Nat} {z : Int} (h : z % 2 = 1) : gv w z = 0 := gv_odd h
theorem gvm2 {w : Nat} {z : Int} (h : z % 4 = 2) : gv w z = min w 1 := gv_2odd (k := z / 4) (by omega)
theorem gvm4 {w : Nat} {z : Int} (h : z % 8 = 4) : gv w z = min w 2 := by
  rcases Nat.lt_or_ge w 2 with c | c
  · have h2 : (2 : Int) ^ w ∣ z := Int.dvd_trans (gppR (show w ≤ 2 by omega)) (by show (4 : Int) ∣ z; omega)
    rw [gv_full.mp h2]; omega
  · rw [gv_val (j := 2) (a := z / 8) (by show z = 4 * _; omega) c]; omega
theorem gvm0 {w c : Nat} {z : Int} (h : (2 : Int) ^ c ∣ z) : min w c ≤ gv w z := (gv_iff _ _ _).mpr ⟨by omega, Int.dvd_trans (gppR (by omega)) h⟩
theorem parts4 {w : Nat} {a b c d x : Int} (ha : a % 4 = 0) (hb : b % 4 = 1) (hc : c % 4 = 2) (hd : d % 4 = 3) :
    (2 : Int) ^ w ∣ prR [a, b, c, d] x ↔ w ≤ 3 ∨ (2 : Int) ^ (w - 1) ∣ x - a ∨ (2 : Int) ^ (w - 1) ∣ x - b ∨ (2 : Int) ^ (w - 1) ∣ x - c ∨ (2 : Int) ^ (w - 1) ∣ x - d := by
  have e : prR [a, b, c, d] x = 1 * (x - a) * (x - b) * (x - c) * (x - d) := rfl
  rw [gv_full, e, gv_mul, gv_mul, gv_mul, Int.one_mul]
  rw [gvk2 (w := w) (show w - 1 ≤ w by omega), gvk2 (w := w) (show w - 1 ≤ w by omega), gvk2 (w := w) (show w - 1 ≤ w by omega), gvk2 (w := w) (show w - 1 ≤ w by omega)]
  have four : ∀ z : Int, z % 4 = 0 → min w 2 ≤ gv w z := fun z h => gvm0 (c := 2) (by show (4 : Int) ∣ z; omega)
  rcases (show x % 4 = 0 ∨ x % 4 = 1 ∨ x % 4 = 2 ∨ x % 4 = 3 by omega) with h | h | h | h
  · rw [gvm1 (z := x - b) (by omega), gvm2 (z := x - c) (by omega), gvm1 (z := x - d) (by omega)]
    have := four (x - a) (by omega)
    omega
  · rw [gvm1 (z := x - a) (by omega), gvm1 (z := x - c) (by omega), gvm2 (z := x - d) (by omega)]
    have := four (x - b) (by omega)
    omega
  · rw [gvm2 (z := x - a) (by omega), gvm1 (z := x - b) (by omega), gvm1 (z := x - d) (by omega)]
    have := four (x - c) (by omega)
    omega
  · rw [gvm1 (z := x - a) (by omega), gvm2 (z := x - b) (by omega), gvm1 (z := x - c) (by omega)]
    have := four (x - d) (by omega)
    omega
theorem gvm8 {w : Nat} {z : Int} {k : Nat} (hk : z % 8 = (k : Int)) : (k = 0 → min w 3 ≤ gv w z) ∧ (k % 2 = 1 → gv w z = 0) ∧ (k % 4 = 2 → gv w z = min w 1) ∧ (k = 4 → gv w z = min w 2) :=
  ⟨fun h => gvm0 (c := 3) (by show (8 : Int) ∣ z; omega), fun h => gvm1 (by omega), fun h => gvm2 (by omega), fun h => gvm4 (by omega)⟩
theorem parts8 {w : Nat} {a b c d e f g h x : Int} (ha : a % 8 = 0) (hb : b % 8 = 1) (hc : c % 8 = 2) (hd : d % 8 = 3) (he : e % 8 = 4) (hf : f % 8 = 5) (hg : g % 8 = 6) (hh : h % 8 = 7) :
    (2 : Int) ^ w ∣ prR [a, b, c, d, e, f, g, h] x ↔ w ≤ 7 ∨ (2 : Int) ^ (w - 4) ∣ x - a ∨ (2 : Int) ^ (w - 4) ∣ x - b ∨ (2 : Int) ^ (w - 4) ∣ x - c ∨ (2 : Int) ^ (w - 4) ∣ x - d ∨ (2 : Int) ^ (w - 4) ∣ x - e ∨ (2 : Int) ^ (w - 4) ∣ x - f ∨ (2 : Int) ^ (w - 4) ∣ x - g ∨ (2 : Int) ^ (w - 4) ∣ x - h := by
  have ee : prR [a, b, c, d, e, f, g, h] x = 1 * (x - a) * (x - b) * (x - c) * (x - d) * (x - e) * (x - f) * (x - g) * (x - h) := rfl
  rw [gv_full, ee, gv_mul, gv_mul, gv_mul, gv_mul, gv_mul, gv_mul, gv_mul, Int.one_mul]
  have q : ∀ z : Int, (2 : Int) ^ (w - 4) ∣ z ↔ w - 4 ≤ gv w z := fun z => gvk2 (by omega)
  rw [q, q, q, q, q, q, q, q]
  obtain ⟨n, hn, hx⟩ : ∃ n : Nat, n < 8 ∧ x % 8 = (n : Int) := ⟨(x % 8).toNat, by omega, by omega⟩
  have res : ∀ (r : Int) (k : Nat), k < 8 → r % 8 = (k : Int) → (x - r) % 8 = ((n + 8 - k) % 8 : Nat) := fun r k hk hr => by omega
  have A := gvm8 (w := w) (res a 0 (by omega) ha)
  have B := gvm8 (w := w) (res b 1 (by omega) hb)
  have C := gvm8 (w := w) (res c 2 (by omega) hc)
  have D := gvm8 (w := w) (res d 3 (by omega) hd)
  have E := gvm8 (w := w) (res e 4 (by omega) he)
  have F := gvm8 (w := w) (res f 5 (by omega) hf)
  have G := gvm8 (w := w) (res g 6 (by omega) hg)
  have I := gvm8 (w := w) (res h 7 (by omega) hh)
  clear res q ee hx ha hb hc hd he hf hg hh
  generalize gv w (x - a) = a' at *
  generalize gv w (x - b) = b' at *
  generalize gv w (x - c) = c' at *
  generalize gv w (x - d) = d' at *
  generalize gv w (x - e) = e' at *
  generalize gv w (x - f) = f' at *
  generalize gv w (x - g) = g' at *
  generalize gv w (x - h) = h' at *
  match n, hn with
  | 0, _ => simp at A B C D E F G I; omega
  | 1, _ => simp at A B C D E F G I; omega
  | 2, _ => simp at A B C D E F G I; omega
  | 3, _ => simp at A B C D E F G I; omega
  | 4, _ => simp at A B C D E F G I; omega
  | 5, _ => simp at A B C D E F G I; omega
  | 6, _ => simp at A B C D E F G I; omega
  | 7, _ => simp at A B C D E F G I; omega
theorem pe_notK {X : Cx} {a : Expr} {ta : TE} {pos : Pos} {K : PySem.W.Frag} (hK : X.K = K) (ha : PE X a ta) : PE X (.UnaryOp .Not a pos) (tNotT K ta) := by
  subst hK
  exact pe_notT ha

/-! ### rows moved -/
abbrev mvF (s : Int) (p : Int × Nat) : Int × Nat := ((p.1 + s) % 2 ^ p.2, p.2)
theorem mv_dvd {s f x : Int} {k : Nat} : (2 : Int) ^ k ∣ x - (f + s) % 2 ^ k ↔ (2 : Int) ^ k ∣ x - s - f := by
  rw [dvd_res, show x - (f + s) = x - s - f by omega]
theorem ltF_ne {fl : FL} (h : fl.Pairwise ltF) : fl.Nodup := h.imp fun {a b} h e => by
  subst e
  rcases h with h | h <;> omega
theorem NRow.mv_nodup {w : Nat} {fl : FL} (n : NRow w fl) (s : Int) : (fl.map (mvF s)).Nodup := by
  rw [List.Nodup, List.pairwise_map]
  refine List.Pairwise.imp_of_mem (fun {a b} ha hb h e => h ?_) (ltF_ne n.srt)
  obtain ⟨e1, e2⟩ := Prod.mk.inj e
  obtain ⟨a1, a2⟩ := a
  obtain ⟨b1, b2⟩ := b
  simp only at e1 e2
  subst e2
  have h0 : (2 : Int) ^ a2 ∣ (a1 + s) % 2 ^ a2 - s - a1 := mv_dvd.mp (by rw [Int.sub_self]; exact Int.dvd_zero _)
  have h1 : (2 : Int) ^ a2 ∣ (a1 + s) % 2 ^ a2 - s - b1 := mv_dvd.mp (by rw [e1, Int.sub_self]; exact Int.dvd_zero _)
  obtain ⟨q, _⟩ := n.nrm.ap a1 a2 b1 a2 _ ha hb h0 h1
  rw [q]
theorem NRow.move {w : Nat} {fl gl : FL} (n : NRow w fl) (s : Int) (pm : gl.Perm (fl.map (mvF s))) (so : gl.Pairwise ltF) : NRow w gl ∧ ∀ x, Cover (famL gl) x ↔ Cover (famL fl) (x - s) := by
  have mem : ∀ {f : Int} {e : Nat}, (f, e) ∈ gl → ∃ g, (g, e) ∈ fl ∧ f = (g + s) % 2 ^ e := fun {f e} h => by
    obtain ⟨q, hq, eq⟩ := List.mem_map.mp (pm.mem_iff.mp h)
    obtain ⟨g, d⟩ := q
    obtain ⟨e1, e2⟩ := Prod.mk.inj eq
    simp only at e1 e2
    subst e2
    exact ⟨g, hq, e1.symm⟩
  refine ⟨⟨so, ⟨fun f e h => ?_, fun f e f' e' x h h' d d' => ?_, fun k k1 kw f lt both => ?_⟩⟩, fun x => ⟨fun ⟨f, e, h, d⟩ => ?_, fun ⟨f, e, h, d⟩ => ?_⟩⟩
  · obtain ⟨g, hg, rfl⟩ := mem h
    exact ⟨Int.emod_nonneg _ (Int.ne_of_gt (gposR e)), Int.emod_lt_of_pos _ (gposR e), (n.nrm.wf g e hg).2.2⟩
  · obtain ⟨g, hg, rfl⟩ := mem h
    obtain ⟨g', hg', rfl⟩ := mem h'
    obtain ⟨rfl, rfl⟩ := n.nrm.ap g e g' e' (x - s) hg hg' (mv_dvd.mp d) (mv_dvd.mp d')
    exact ⟨rfl, rfl⟩
  · obtain ⟨h, h'⟩ := both
    obtain ⟨g, hg, e1⟩ := mem h
    obtain ⟨g', hg', e2⟩ := mem h'
    obtain ⟨g0, g1, _⟩ := n.nrm.wf g k hg
    obtain ⟨g0', g1', _⟩ := n.nrm.wf g' k hg'
    have ek : (2 : Int) ^ k = 2 ^ (k - 1) * 2 := by rw [← Int.pow_succ, show (k - 1).succ = k by omega]
    have hp := gposR (k - 1)
    have d1 : (2 : Int) ^ k ∣ f - s - g := mv_dvd.mp (by rw [e1, Int.sub_self]; exact Int.dvd_zero _)
    have d2 : (2 : Int) ^ k ∣ f + 2 ^ (k - 1) - s - g' := mv_dvd.mp (by rw [e2, Int.sub_self]; exact Int.dvd_zero _)
    have d3 : (2 : Int) ^ k ∣ g + 2 ^ (k - 1) - g' := by
      have := Int.dvd_sub d2 d1
      rwa [show f + 2 ^ (k - 1) - s - g' - (f - s - g) = g + 2 ^ (k - 1) - g' by omega] at this
    by_cases c : g < 2 ^ (k - 1)
    · have e3 : g + 2 ^ (k - 1) = g' := res_eq (by omega) (by omega) g0' g1' d3
      exact n.nrm.ir k k1 kw g c ⟨hg, by rw [e3]; exact hg'⟩
    · have d4 : (2 : Int) ^ k ∣ g - 2 ^ (k - 1) - g' := by
        have := Int.dvd_sub d3 (Int.dvd_refl ((2 : Int) ^ k))
        rwa [show g + 2 ^ (k - 1) - g' - 2 ^ k = g - 2 ^ (k - 1) - g' by omega] at this
      have e3 : g - 2 ^ (k - 1) = g' := res_eq (by omega) (by omega) g0' g1' d4
      exact n.nrm.ir k k1 kw g' (by omega) ⟨hg', by rw [show g' + 2 ^ (k - 1) = g by omega]; exact hg⟩
  · obtain ⟨g, hg, rfl⟩ := mem h
    exact ⟨g, e, hg, mv_dvd.mp d⟩
  · exact ⟨(f + s) % 2 ^ e, e, pm.mem_iff.mpr (List.mem_map.mpr ⟨(f, e), h, rfl⟩), mv_dvd.mpr d⟩
/-- two families of x * x = 4 ^ t -/
theorem sq_two {w t : Nat} (h : 2 * t + 4 ≤ w) : NRow w [((2 : Int) ^ t, w - t - 1), (2 ^ (w - t - 1) - 2 ^ t, w - t - 1)] ∧ [((2 : Int) ^ t, w - t - 1), (2 ^ (w - t - 1) - 2 ^ t, w - t - 1)].Pairwise ltF := by
  have e1 : (2 : Int) ^ (w - t - 1) = 2 ^ (w - t - 1 - 1) * 2 := by rw [← Int.pow_succ]; congr 1; omega
  have e2 : (2 : Int) ^ (w - t - 1 - 1) = 2 ^ t * 4 * 2 ^ (w - t - 1 - 1 - (t + 2)) := by
    rw [show (4 : Int) = 2 ^ 2 by rfl, ← Int.pow_add, ← Int.pow_add]; congr 1; omega
  have p1 := gposR t
  have p2 := gposR (w - t - 1 - 1 - (t + 2))
  have e3 : (2 : Int) ^ t * 4 ≤ 2 ^ (w - t - 1 - 1) := by
    rw [e2]
    have := Int.mul_le_mul_of_nonneg_left (show (1 : Int) ≤ 2 ^ (w - t - 1 - 1 - (t + 2)) by omega) (show 0 ≤ (2 : Int) ^ t * 4 by omega)
    omega
  have so : [((2 : Int) ^ t, w - t - 1), (2 ^ (w - t - 1) - 2 ^ t, w - t - 1)].Pairwise ltF := List.pairwise_cons.mpr ⟨fun q hq => by
    rw [List.mem_singleton.mp hq]
    exact .inl (by show (2 : Int) ^ t < 2 ^ (w - t - 1) - 2 ^ t; omega), List.pairwise_singleton _ _⟩
  refine ⟨NRow.lvl (d := w - t - 1) so (fun p hp => ?_) (by omega) (fun _ p hp q hq => ?_), so⟩
  · rcases List.mem_cons.mp hp with rfl | hp
    · exact ⟨rfl, by show (0 : Int) ≤ 2 ^ t; omega, by show (2 : Int) ^ t < _; omega⟩
    · rw [List.mem_singleton.mp hp]
      exact ⟨rfl, by show (0 : Int) ≤ 2 ^ (w - t - 1) - 2 ^ t; omega, by show (2 : Int) ^ (w - t - 1) - 2 ^ t < _; omega⟩
  · rcases List.mem_cons.mp hp with rfl | hp <;> rcases List.mem_cons.mp hq with rfl | hq
    · show (2 : Int) ^ t ≠ 2 ^ t + _; omega
    · rw [List.mem_singleton.mp hq]; show (2 : Int) ^ (w - t - 1) - 2 ^ t ≠ 2 ^ t + _; omega
    · rw [List.mem_singleton.mp hp]; show (2 : Int) ^ t ≠ 2 ^ (w - t - 1) - 2 ^ t + _; omega
    · rw [List.mem_singleton.mp hp, List.mem_singleton.mp hq]; show (2 : Int) ^ (w - t - 1) - 2 ^ t ≠ 2 ^ (w - t - 1) - 2 ^ t + _; omega
theorem sq_rowS {w t : Nat} (h : 2 * t < w) (c : w - 2 * t ≤ 3) : NRow w [((2 : Int) ^ t, t + 1)] ∧ ∀ x, Cover (famL [((2 : Int) ^ t, t + 1)]) x ↔ (2 : Int) ^ w ∣ x * x - 2 ^ (2 * t) := by
  have p1 := gposR t
  refine ⟨NRow.one (by omega) (by rw [Int.pow_succ]; omega) (by omega), fun x => ?_⟩
  rw [cover_one, sq_fams x h, if_pos c]
theorem sq_rowL {w t : Nat} (h : 2 * t < w) (c : ¬ w - 2 * t ≤ 3) (x : Int) : Cover (famL [((2 : Int) ^ t, w - t - 1), (2 ^ (w - t - 1) - 2 ^ t, w - t - 1)]) x ↔ (2 : Int) ^ w ∣ x * x - 2 ^ (2 * t) := by
  rw [cover_cons, cover_one, sq_fams x h, if_neg c]
theorem flsum_one (w : Nat) (p : Int × Nat) : ([p].map fun p => (2 : Int) ^ (w - p.2)).sum = 2 ^ (w - p.2) := by simp
theorem flsum_two (w : Nat) (p q : Int × Nat) : ([p, q].map fun p => (2 : Int) ^ (w - p.2)).sum = 2 ^ (w - p.2) + 2 ^ (w - q.2) := by simp

/-! ### lines -/
theorem pvl_lin (a b x : Int) : pvl [a, b] x = a + x * b := by
  show a + x * (b + x * 0) = _
  rw [Int.mul_zero, Int.add_zero]
section
variable {w n : Nat} {a b r O x : Int}
theorem lin_root (nw : n ≤ w) (hO : O % 2 = 1) (ha : (2 : Int) ^ w ∣ a - (0 - r * O * 2 ^ n)) (hb : (2 : Int) ^ w ∣ b - O * 2 ^ n) : (2 : Int) ^ w ∣ pvl [a, b] x ↔ (2 : Int) ^ (w - n) ∣ x - r := by
  have e : pvl [a, b] x - 2 ^ n * (O * (x - r)) = (a - (0 - r * O * 2 ^ n)) + x * (b - O * 2 ^ n) := by
    rw [pvl_lin, Int.mul_sub O, Int.mul_sub, Int.mul_sub x, Int.mul_comm O x, Int.mul_comm O r, Int.mul_comm (2 ^ n), Int.mul_comm (2 ^ n), Int.mul_assoc x]; omega
  have d : (2 : Int) ^ w ∣ pvl [a, b] x - 2 ^ n * (O * (x - r)) := by
    rw [e]; exact Int.dvd_add ha (Int.dvd_trans hb (Int.dvd_mul_left _ _))
  rw [← odd_dvd (w := w - n) hO, ← pw_dvd nw]
  exact ⟨fun h => by have := Int.dvd_sub h d; rwa [Int.sub_sub_self] at this, fun h => by have := Int.dvd_add d h; rwa [Int.sub_add_cancel] at this⟩
theorem lin_none (nw : n ≤ w) (ha : (2 : Int) ^ w ∣ a - (0 - r * O * 2 ^ n)) (hb : (2 : Int) ^ w ∣ b - O * 2 ^ n) {e : Int} (he : ¬ (2 : Int) ^ n ∣ e) : ¬ (2 : Int) ^ w ∣ pvl [a + e, b] x := fun h => he (by
  have d := gppR nw
  have h1 := Int.dvd_trans d h
  rw [pvl_lin] at h1
  have a1 : (2 : Int) ^ n ∣ a := by
    have := Int.dvd_add (Int.dvd_trans d ha) (show (2 : Int) ^ n ∣ 0 - r * O * 2 ^ n from Int.dvd_sub (Int.dvd_zero _) (Int.dvd_mul_left _ _))
    rwa [Int.sub_add_cancel] at this
  have b1 : (2 : Int) ^ n ∣ x * b := by
    refine Int.dvd_trans ?_ (Int.dvd_mul_left _ _)
    have := Int.dvd_add (Int.dvd_trans d hb) (Int.dvd_mul_left O (2 ^ n))
    rwa [Int.sub_add_cancel] at this
  have := Int.dvd_sub (Int.dvd_sub h1 b1) a1
  rwa [show a + e + x * b - x * b - a = e by omega] at this)
end
theorem half_no {n : Nat} (h : 1 ≤ n) : ¬ (2 : Int) ^ n ∣ 2 ^ (n - 1) := fun d => by
  have e1 : (2 : Int) ^ n = 2 ^ (n - 1) * 2 := by rw [← Int.pow_succ]; congr 1; omega
  have p := gposR (n - 1)
  have := Int.le_of_dvd p d
  omega
theorem one_no {n : Nat} (h : 1 ≤ n) : ¬ (2 : Int) ^ n ∣ 1 := fun d => by
  have e1 : (2 : Int) ^ n = 2 ^ (n - 1) * 2 := by rw [← Int.pow_succ]; congr 1; omega
  have p := gposR (n - 1)
  have := Int.le_of_dvd (by decide) d
  omega
theorem sh_intsL (ns : List Int) : SeqAt.shaped (.list (ns.map PyData.int)) = true := by
  have h : ∀ ns : List Int, PyData.canLayAll0 (ns.map PyData.int) = true ∧ PyData.depthAll (ns.map PyData.int) ≤ 1 := fun ns => by
    induction ns with
    | nil => simp [PyData.canLayAll0, PyData.depthAll]
    | cons p ns ih =>
      rw [List.map_cons]
      simp only [PyData.canLay0, PyData.canLayAll0, PyData.depth, PyData.depthAll]
      refine ⟨by simp [ih.1], by have := ih.2; omega⟩
  have g := h ns
  unfold SeqAt.shaped
  simp only [PyData.canLay0, PyData.depth]
  rw [g.1, Bool.true_and]
  exact decide_eq_true (Nat.le_trans (Nat.succ_le_succ g.2) (by decide))
theorem w_neInts {K : PySem.W.Frag} {H : Hp} {Q : VK} {a b : Addr} {ns : List Int} (ha : H a = some (.lst (ns.map V.int))) (hb : H b = some (.lst [])) (q0 : ns = [] → Q (.bl false) H) (q1 : ns ≠ [] → Q (.bl true) H) : rNeD K (.ref a) (.ref b) H Q := by
  cases ns with
  | nil => exact w_neNil ha hb (q0 rfl)
  | cons n ns =>
    have dp : ∀ ns : List Int, DpAll K H (ns.map V.int) (ns.map PyData.int) := fun ns => by
      induction ns with
      | nil => exact .nil
      | cons n ns ih => exact .cons (.int _) ih
    refine w_neDg (.lst (SqL.of ha) (dp _)) (.lst (SqL.of hb) .nil) (sh_intsL _) sh_nilR ?_
    have := q1 (by simp)
    simpa [PyData.eqv, PyData.eqvAll] using this
theorem w_neIntsD {K : PySem.W.Frag} {H : Hp} {Q : VK} {a b : Addr} {ns : List Int} (ha : H a = some (.lst (ns.map V.int))) (hb : H b = some (.lst [])) (q : Q (.bl (decide (ns ≠ []))) H) : rNeD K (.ref a) (.ref b) H Q :=
  w_neInts ha hb (fun e => by rwa [decide_eq_false (by rw [e]; simp)] at q) (fun e => by rwa [decide_eq_true e] at q)

/-! ### rows of residues -/
theorem pvl_mulr (s : Int) : ∀ (cs : List Int) (x : Int), pvl (cs.map fun c => c * s) x = s * pvl cs x
  | [], _ => by show (0 : Int) = s * 0; rw [Int.mul_zero]
  | c :: cs, x => by
    show c * s + x * pvl (cs.map fun c => c * s) x = s * (c + x * pvl cs x)
    rw [pvl_mulr s cs x, Int.mul_add, Int.mul_left_comm, Int.mul_comm c]
theorem sum_lvl (w d : Nat) : ∀ gl : FL, (∀ p ∈ gl, p.2 = d) → (gl.map fun p => (2 : Int) ^ (w - p.2)).sum = gl.length * 2 ^ (w - d)
  | [], _ => by simp
  | p :: gl, h => by
    rw [List.map_cons, List.sum_cons, sum_lvl w d gl fun q hq => h q (List.mem_cons_of_mem _ hq), h p List.mem_cons_self, List.length_cons, Int.natCast_add, Int.add_mul]
    show _ = _ + 1 * _
    rw [Int.one_mul]; omega
abbrev resF (d : Nat) (r : Int) : Int × Nat := (r % 2 ^ d, d)
section
variable {w d : Nat} {cnt : Int} {rs : List Int}
theorem res_same (cd : cnt ∣ 2 ^ d) (hm : ∀ (i : Nat) (r : Int), rs[i]? = some r → r % cnt = (i : Int)) {r r' : Int} (h : r ∈ rs) (h' : r' ∈ rs) (e : cnt ∣ r % 2 ^ d - r' % 2 ^ d) : r = r' := by
  obtain ⟨i, hi⟩ := List.getElem?_of_mem h
  obtain ⟨j, hj⟩ := List.getElem?_of_mem h'
  have a1 : cnt ∣ r % 2 ^ d - r := Int.dvd_trans cd Int.dvd_emod_sub_self
  have a2 : cnt ∣ r' % 2 ^ d - r' := Int.dvd_trans cd Int.dvd_emod_sub_self
  have a3 : cnt ∣ r - r' := dvT (dvT (dvS a1) e) a2
  have a4 : r % cnt = r' % cnt := gmd.mpr a3
  rw [hm i r hi, hm j r' hj] at a4
  obtain rfl : i = j := by omega
  rw [hi] at hj
  exact Option.some.inj hj
theorem lvl_nodup (cd : cnt ∣ 2 ^ d) (hm : ∀ (i : Nat) (r : Int), rs[i]? = some r → r % cnt = (i : Int)) : (rs.map (resF d)).Nodup := by
  rw [List.Nodup, List.pairwise_map]
  have nd : rs.Nodup := by
    refine List.pairwise_iff_getElem.mpr fun i j hi hj ij e => ?_
    have a := hm i _ (List.getElem?_eq_getElem hi)
    have b := hm j _ (List.getElem?_eq_getElem hj)
    rw [e, b] at a
    omega
  refine List.Pairwise.imp_of_mem (fun {a b} ha hb h e => h ?_) nd
  obtain ⟨e1, _⟩ := Prod.mk.inj e
  exact res_same cd hm ha hb (by rw [e1, Int.sub_self]; exact Int.dvd_zero _)
theorem lvl_row (d1 : 1 ≤ d) (dw : d ≤ w) (cd : cnt ∣ 2 ^ (d - 1)) (hm : ∀ (i : Nat) (r : Int), rs[i]? = some r → r % cnt = (i : Int)) {gl : FL} (pm : gl.Perm (rs.map (resF d))) (so : gl.Pairwise ltF) :
    NRow w gl ∧ (∀ x, Cover (famL gl) x ↔ ∃ r ∈ rs, (2 : Int) ^ d ∣ x - r) ∧ (gl.map fun p => (2 : Int) ^ (w - p.2)).sum = rs.length * 2 ^ (w - d) := by
  have ek : (2 : Int) ^ d = 2 ^ (d - 1) * 2 := by rw [← Int.pow_succ]; congr 1; omega
  have hp := gposR (d - 1)
  have cd' : cnt ∣ 2 ^ d := by rw [ek]; exact Int.dvd_trans cd (Int.dvd_mul_right _ _)
  have mem : ∀ p ∈ gl, ∃ r ∈ rs, p = (r % 2 ^ d, d) := fun p hp => by
    obtain ⟨r, hr, e⟩ := List.mem_map.mp (pm.mem_iff.mp hp)
    exact ⟨r, hr, e.symm⟩
  refine ⟨NRow.lvl (d := d) so (fun p hp => ?_) dw (fun _ p hp q hq e => ?_), fun x => ⟨?_, ?_⟩, ?_⟩
  · obtain ⟨r, _, rfl⟩ := mem p hp
    exact ⟨rfl, Int.emod_nonneg _ (Int.ne_of_gt (gposR d)), Int.emod_lt_of_pos _ (gposR d)⟩
  · obtain ⟨r, hr, rfl⟩ := mem p hp
    obtain ⟨r', hr', rfl⟩ := mem q hq
    simp only at e
    have := res_same cd' hm hr' hr (by rw [show r' % 2 ^ d - r % 2 ^ d = 2 ^ (d - 1) by omega]; exact cd)
    subst this
    omega
  · rintro ⟨f, e, h, dd⟩
    obtain ⟨r, hr, e1⟩ := mem _ h
    obtain ⟨rfl, rfl⟩ := Prod.mk.inj e1
    exact ⟨r, hr, dvd_res.mp dd⟩
  · rintro ⟨r, hr, dd⟩
    exact ⟨r % 2 ^ d, d, pm.mem_iff.mpr (List.mem_map.mpr ⟨r, hr, rfl⟩), dvd_res.mpr dd⟩
  · rw [sum_lvl w d gl fun p hp => by obtain ⟨r, _, rfl⟩ := mem p hp; rfl, pm.length_eq, List.length_map]
end
theorem one_row {w : Nat} : NRow w [((0 : Int), 0)] ∧ ∀ x, Cover (famL [((0 : Int), 0)]) x := ⟨NRow.one (by decide) (by decide) (Nat.zero_le _), fun x => by rw [cover_one, Int.pow_zero]; exact Int.one_dvd _⟩
/-- the due row of a product of two parts -/
theorem par_due {w d : Nat} {R S : Int} (hR : R % 2 = 0) (hS : S % 2 = 1) (d1 : 1 ≤ d) (dw : d ≤ w) {gl : FL} (pm : gl.Perm ([R, S].map (resF d))) (so : gl.Pairwise ltF) :
    NRow w (if 1 < d then gl else [((0 : Int), 0)]) ∧ (∀ x, Cover (famL (if 1 < d then gl else [((0 : Int), 0)])) x ↔ (2 : Int) ^ d ∣ (x - R) * (x - S)) ∧ ((if 1 < d then gl else [((0 : Int), 0)]).map fun p => (2 : Int) ^ (w - p.2)).sum = if 1 < d then 2 * 2 ^ (w - d) else 2 ^ w := by
  by_cases c : 1 < d
  · rw [if_pos c, if_pos c]
    have cd : (2 : Int) ∣ 2 ^ (d - 1) := ⟨2 ^ (d - 2), by rw [Int.mul_comm, ← Int.pow_succ]; congr 1; omega⟩
    obtain ⟨a, b, e⟩ := lvl_row (cnt := 2) (rs := [R, S]) d1 dw cd (fun i r h => by
      match i, h with
      | 0, h => obtain rfl := Option.some.inj h; exact hR
      | 1, h => obtain rfl := Option.some.inj h; exact hS) pm so
    refine ⟨a, fun x => ?_, e⟩
    rw [b x, par_dvd hR hS]
    simp
  · rw [if_neg c, if_neg c]
    obtain rfl : d = 1 := by omega
    obtain ⟨a, b⟩ := one_row (w := w)
    refine ⟨a, fun x => ⟨fun _ => ?_, fun _ => b x⟩, by simp⟩
    rw [par_dvd hR hS, Int.pow_one]; omega
theorem par_nodup {d : Nat} {R S : Int} (hR : R % 2 = 0) (hS : S % 2 = 1) (d1 : 1 ≤ d) : ([R, S].map (resF d)).Nodup := lvl_nodup (cnt := 2) ⟨2 ^ (d - 1), by rw [Int.mul_comm, ← Int.pow_succ]; congr 1; omega⟩ fun i r h => by
  match i, h with
  | 0, h => obtain rfl := Option.some.inj h; exact hR
  | 1, h => obtain rfl := Option.some.inj h; exact hS
theorem w_sortAny {K : PySem.W.Frag} {H : Hp} {Q : VK} {a : Addr} {out : List V} (h : H a = some (.lst out)) (hk : ∀ v ∈ out, ∃ (t : Addr) (i j : Int), v = .ref t ∧ H t = some (.tup [.int i, .int j])) (q : ∀ l ys, H l = none → Q (.ref l) (upd H l (.lst ys))) : rSortedPO K [.ref a] H Q :=
  ⟨a, out, kOf H, rfl, SqL.of h, fun v hv => by
    obtain ⟨t, i, j, rfl, ht⟩ := hk v hv
    refine ⟨t, rfl, ?_⟩
    rw [kOf_at ht]; exact ht, fun ys l _ _ hl => q l ys hl⟩
theorem row_idx {H : Hp} {d : Nat} : ∀ {ms : List Int} {ts : List V}, ts.length = ms.length → (∀ (i : Nat) (r : Int), ms[i]? = some r → ∃ t : Addr, ts[i]? = some (.ref t) ∧ H t = some (.tup [.int (r % 2 ^ d), .int (d : Int)])) → PRow H ts (ms.map (resF d))
  | [], [], _, _ => .nil
  | r :: ms, v :: ts, hl, h => by
    obtain ⟨t, h1, h2⟩ := h 0 r rfl
    obtain rfl := Option.some.inj h1
    exact .cons h2 (row_idx (by simpa using hl) fun i r hr => h (i + 1) r hr)
  | [], v :: ts, hl, _ => by simp at hl
  | r :: ms, [], hl, _ => by simp at hl
/-- what the parts' product says -/
theorem parts_all {w C M : Nat} {ms : List Int} (hc : (C = 4 ∧ M = 1) ∨ (C = 8 ∧ M = 4)) (ml : ms.length = C) (hm : ∀ (i : Nat) (r : Int), ms[i]? = some r → r % (C : Int) = (i : Int)) (x : Int) :
    (2 : Int) ^ w ∣ prR ms x ↔ w < 2 * M + (if C = 4 then 2 else 0) ∨ ∃ r ∈ ms, (2 : Int) ^ (w - M) ∣ x - r := by
  rcases hc with ⟨rfl, rfl⟩ | ⟨rfl, rfl⟩
  · match ms, ml with
    | [a, b, c, d], _ =>
      rw [parts4 (hm 0 a rfl) (hm 1 b rfl) (hm 2 c rfl) (hm 3 d rfl)]
      simp only [List.mem_cons, List.not_mem_nil, or_false, exists_eq_or_imp, exists_eq_left, if_true]
      rw [show w < 2 * 1 + 2 ↔ w ≤ 3 by omega]
  · match ms, ml with
    | [a, b, c, d, e, f, g, h], _ =>
      rw [parts8 (hm 0 a rfl) (hm 1 b rfl) (hm 2 c rfl) (hm 3 d rfl) (hm 4 e rfl) (hm 5 f rfl) (hm 6 g rfl) (hm 7 h rfl)]
      simp only [List.mem_cons, List.not_mem_nil, or_false, exists_eq_or_imp, exists_eq_left]
      rw [show w < 2 * 4 + (if 8 = 4 then 2 else 0) ↔ w ≤ 7 by rw [if_neg (by decide)]; omega]
theorem w_sortIf {K : PySem.W.Frag} {H : Hp} {Q : VK} {a : Addr} {out : List V} {big : Prop} {fl : FL} (h : H a = some (.lst out)) (hk : ∀ v ∈ out, ∃ (t : Addr) (i j : Int), v = .ref t ∧ H t = some (.tup [.int i, .int j])) (r : big → PRow H out fl ∧ fl.Nodup) (q : ∀ l ys, H l = none → (big → ∃ gl : FL, PRow H ys gl ∧ gl.Perm fl ∧ gl.Pairwise ltF) → Q (.ref l) (upd H l (.lst ys))) : rSortedPO K [.ref a] H Q :=
  ⟨a, out, kOf H, rfl, SqL.of h, fun v hv => by
    obtain ⟨t, i, j, rfl, ht⟩ := hk v hv
    refine ⟨t, rfl, ?_⟩
    rw [kOf_at ht]; exact ht, fun ys l so st hl => q l ys hl fun b => (r b).1.sort (r b).2 st.perm so⟩
theorem no_four {x : Int} (h : (2 : Int) ^ 2 ∣ 1 + x * x) : False := by
  have h4 : (4 : Int) ∣ 1 + x * x := h
  rcases Int.emod_two_eq x with e | e
  · have : x * x % 2 = 0 := by rw [Int.mul_emod, e]; rfl
    omega
  · have := sq_odd (n := 2) (y := x) (by decide) (by decide)
    have h2 : (4 : Int) ∣ x * x - 1 := this.mpr e
    omega
end Fw
local macro_rules | `(tactic| walk_at "rd") => `(tactic| repeat (first
  | (with_reducible show L2.tVar _ _ _ _; first | with_reducible refine Fw.w_v0 ?_ | with_reducible refine Fw.w_v1 ?_ | with_reducible refine Fw.w_v2 ?_ | with_reducible refine Fw.w_v3 ?_ | with_reducible refine Fw.w_v4 ?_ | with_reducible refine Fw.w_v5 ?_ | with_reducible refine Fw.w_v6 ?_ | with_reducible refine Fw.w_v7 ?_ | with_reducible refine Fw.w_v8 ?_ | with_reducible refine Fw.w_v9 ?_ | with_reducible refine Fw.w_v10 ?_ | with_reducible refine Fw.w_v11 ?_ | with_reducible refine Fw.w_v12 ?_ | with_reducible refine Fw.w_v13 ?_ | with_reducible refine Fw.w_v14 ?_ | with_reducible refine Fw.w_v15 ?_ | with_reducible refine Fw.w_v16 ?_ | with_reducible refine Fw.w_v17 ?_ | with_reducible refine Fw.w_v18 ?_ | with_reducible refine Fw.w_v19 ?_ | with_reducible refine Fw.w_v20 ?_ | with_reducible refine Fw.w_v21 ?_ | with_reducible refine Fw.w_v22 ?_ | with_reducible refine Fw.w_v23 ?_ | with_reducible refine Fw.w_v24 ?_ | with_reducible refine Fw.w_v25 ?_ | with_reducible refine Fw.w_v26 ?_ | with_reducible refine Fw.w_v27 ?_ | with_reducible refine Fw.w_v28 ?_ | with_reducible refine Fw.w_v29 ?_ | with_reducible refine Fw.w_v30 ?_ | with_reducible refine Fw.w_v31 ?_ | with_reducible refine Fw.w_var (by with_unfolding_all exact rfl) ?_)
  | with_reducible refine Fw.w_cons ?_
  | with_reducible refine Fw.w_c ?_
  | with_reducible refine Fw.w_op ?_
  | with_reducible refine Fw.w_nil ?_
  | with_reducible refine Fw.w_I0 ?_
  | with_reducible refine Fw.w_seq ?_
  | with_reducible refine Fw.w_asg ?_
  | (with_reducible show L2.gName _ _ (L2.wipe _ _) _ _; dsimp only [L2.wipe, List.set, List.map])
  | (with_reducible show L2.gTup _ _ _ _ (L2.wipe _ _) _ _; dsimp only [L2.wipe, List.set, List.map])
  | (with_reducible show L2.gName _ _ _ _ _; first | with_reducible refine Fw.w_n0 ?_ | with_reducible refine Fw.w_n1 ?_ | with_reducible refine Fw.w_n2 ?_ | with_reducible refine Fw.w_n3 ?_ | with_reducible refine Fw.w_n4 ?_ | with_reducible refine Fw.w_n5 ?_ | with_reducible refine Fw.w_n6 ?_ | with_reducible refine Fw.w_n7 ?_ | with_reducible refine Fw.w_n8 ?_ | with_reducible refine Fw.w_n9 ?_ | with_reducible refine Fw.w_n10 ?_ | with_reducible refine Fw.w_n11 ?_ | with_reducible refine Fw.w_n12 ?_ | with_reducible refine Fw.w_n13 ?_ | with_reducible refine Fw.w_n14 ?_ | with_reducible refine Fw.w_n15 ?_ | with_reducible refine Fw.w_n16 ?_ | with_reducible refine Fw.w_n17 ?_ | with_reducible refine Fw.w_n18 ?_ | with_reducible refine Fw.w_n19 ?_ | with_reducible refine Fw.w_n20 ?_ | with_reducible refine Fw.w_n21 ?_ | with_reducible refine Fw.w_n22 ?_ | with_reducible refine Fw.w_n23 ?_ | with_reducible refine Fw.w_n24 ?_ | with_reducible refine Fw.w_n25 ?_ | with_reducible refine Fw.w_n26 ?_ | with_reducible refine Fw.w_n27 ?_ | with_reducible refine Fw.w_n28 ?_ | with_reducible refine Fw.w_n29 ?_ | with_reducible refine Fw.w_n30 ?_ | with_reducible refine Fw.w_n31 ?_ | with_reducible refine Fw.w_name ?_)
  | with_reducible refine Fw.w_call ?_
  | with_reducible refine Fw.w_exb ?_
  | with_reducible refine Fw.w_test ?_
  | (with_reducible show L2.rI _ _ _ _ _ _; with_reducible refine Fw.w_I (by with_unfolding_all first | exact Or.inl ⟨by decide, by decide⟩ | exact Or.inr ⟨by decide, by decide⟩ | exact ⟨by decide, by decide⟩ | exact ⟨by decide, by decide, by decide⟩ | (show (0 : Int) < _; decide)) ?_)
  | with_reducible refine Fw.w_neI ?_
  | with_reducible refine Fw.w_ifS ?_
  | with_reducible refine Fw.w_next ?_
  | with_reducible refine Fw.w_callK ?_
  | with_reducible refine Fw.w_ret ?_
  | with_reducible refine Fw.w_cb ?_
  | with_reducible refine Fw.w_int ?_
  | (with_reducible show L2.rIxL _ _ _ _ _; with_reducible refine Fw.w_ixL (by first | assumption | exact L2.upd_same) (by with_unfolding_all rfl) ?_)
  | (with_reducible show L2.rIxT _ _ _ _ _; with_reducible refine Fw.w_ixT (by first | assumption | exact L2.upd_same) (by with_unfolding_all rfl) ?_)
  | (with_reducible show L2.rSetL _ _ _ _ _; with_reducible refine Fw.w_setL (by first | assumption | exact L2.upd_same) (by with_unfolding_all rfl) ?_)
  | (with_reducible show L2.gTup _ _ _ _ _ _ _; with_reducible refine Fw.w_gtup (by first | assumption | exact L2.upd_same) rfl ?_)
  | with_reducible refine Fw.w_U ?_
  | with_reducible refine Fw.w_un ?_
  | with_reducible refine Fw.w_eqI ?_
  | with_reducible refine Fw.w_eqB ?_
  | with_reducible refine Fw.w_neB ?_
  | with_reducible refine Fw.w_eqS ?_
  | with_reducible refine Fw.w_exi ?_
  | with_reducible refine Fw.w_exr ?_
  | with_reducible refine Fw.w_B ?_
  | with_reducible refine Fw.w_and ?_
  | with_reducible refine Fw.w_or ?_
  | with_reducible refine Fw.w_not ?_
  | with_reducible refine Fw.w_andV ?_
  | with_reducible refine Fw.w_notV ?_
  | with_reducible refine Fw.w_make ?_
  | with_reducible refine Fw.w_intB ?_
  | with_reducible refine Fw.w_abs ?_
  | with_reducible refine Fw.w_bits ?_
  | with_reducible refine Fw.w_sl ?_
  | with_reducible refine Fw.w_part ?_
  | with_reducible refine Fw.w_nopart ?_
  | with_reducible refine Fw.w_lst ?_
  | with_reducible refine Fw.w_tup ?_
  | with_reducible refine Fw.w_dnewK ?_
  | with_reducible refine Fw.w_dget ?_
  | with_reducible refine Fw.w_isNn ?_
  | with_reducible refine Fw.w_isNi ?_
  | with_reducible refine Fw.w_meth0 ?_
  | with_reducible refine Fw.w_match ?_
  | with_reducible refine Fw.w_caseA ?_
  | with_reducible refine Fw.w_caseT ?_
  | with_reducible refine Fw.w_par ?_
  | (with_reducible refine Fw.w_exvw ?_; try dsimp only [List.set])
  | with_reducible refine Fw.w_drop ?_
  | with_reducible refine Fw.w_retN ?_
  | with_reducible refine Fw.w_gnil ?_
  | with_reducible refine Fw.w_gcons ?_
  | with_reducible refine Fw.w_gsub ?_
  | with_reducible refine Fw.w_for ?_
  | with_reducible refine Fw.w_lc ?_
  | with_reducible refine Fw.w_yes ?_
  | with_reducible refine Fw.w_iList ?_
  | with_reducible refine Fw.w_iRng1 ?_
  | with_reducible refine Fw.w_sfld ?_))
namespace Fw
open PySem L2
def top (i : Nat) : Stmt := PySem.Challenge.pw_farwrap_k22_whole_great_roots.main.body.getD i (.Pass ⟨0, 0, 0, 0⟩)
abbrev s_joined : Stmt := top 5
abbrev s_family_size : Stmt := top 6
abbrev s_total_size : Stmt := top 7
abbrev s_is_integer : Stmt := top 10
abbrev s_is_sixty_digits : Stmt := top 11
abbrev s_factors_of_two : Stmt := top 12
abbrev s_twos_in : Stmt := top 13
abbrev s_Kind___init__ : Stmt := inClass (top 16) 0
abbrev s_check_kind : Stmt := top 17
abbrev s_least_passing : Stmt := top 19
abbrev s_is_polynomial : Stmt := top 22
abbrev s_check_polynomial : Stmt := top 23
abbrev s__value : Stmt := top 24
abbrev s__one_behind : Stmt := top 25
abbrev s__doubled : Stmt := top 26
abbrev s__halves : Stmt := top 27
abbrev s_root_families : Stmt := top 28
abbrev s_roots : Stmt := top 29
abbrev s_root_total : Stmt := top 30
abbrev s_least_twos : Stmt := top 31
abbrev s_most_twos : Stmt := top 32
abbrev s__law_source_of : Stmt := top 34
abbrev s__law_next : Stmt := top 35
abbrev s__law_one : Stmt := top 36
abbrev s__law_cell_at : Stmt := top 37
abbrev s__law_power : Stmt := top 38
abbrev s__law_wide : Stmt := top 39
abbrev s__law_times : Stmt := top 40
abbrev s__law_moved : Stmt := top 41
abbrev s__law_powers_right : Stmt := top 42
abbrev s__law_square_roots : Stmt := top 43
abbrev s__law_lines_right : Stmt := top 44
abbrev s__law_products_right : Stmt := top 45
abbrev s__law_parts_right : Stmt := top 46
abbrev s_law : Stmt := top 47
theorem sc_joined : FnScope ["families", "bits", "found", "family", "k", "half", "first", "depth"] ["families", "bits"] (defScope s_joined) := ⟨rfl, rfl, rfl, by decide +kernel, rfl, by decide +kernel, by decide +kernel⟩
theorem sc_family_size : FnScope ["family", "bits"] ["family", "bits"] (defScope s_family_size) := ⟨rfl, rfl, rfl, by decide +kernel, rfl, by decide +kernel, by decide +kernel⟩
theorem sc_total_size : FnScope ["families", "bits", "family"] ["families", "bits"] (defScope s_total_size) := ⟨rfl, rfl, rfl, by decide +kernel, rfl, by decide +kernel, by decide +kernel⟩
theorem sc_is_integer : FnScope ["value"] ["value"] (defScope s_is_integer) := ⟨rfl, rfl, rfl, by decide +kernel, rfl, by decide +kernel, by decide +kernel⟩
theorem sc_is_sixty_digits : FnScope ["value"] ["value"] (defScope s_is_sixty_digits) := ⟨rfl, rfl, rfl, by decide +kernel, rfl, by decide +kernel, by decide +kernel⟩
theorem sc_factors_of_two : FnScope ["n"] ["n"] (defScope s_factors_of_two) := ⟨rfl, rfl, rfl, by decide +kernel, rfl, by decide +kernel, by decide +kernel⟩
theorem sc_twos_in : FnScope ["n", "most"] ["n", "most"] (defScope s_twos_in) := ⟨rfl, rfl, rfl, by decide +kernel, rfl, by decide +kernel, by decide +kernel⟩
theorem sc_Kind___init__ : FnScope ["self", "bits", "is_signed"] ["self", "bits", "is_signed"] (defScope s_Kind___init__) := ⟨rfl, rfl, rfl, by decide +kernel, rfl, by decide +kernel, by decide +kernel⟩
theorem sc_check_kind : FnScope ["kind"] ["kind"] (defScope s_check_kind) := ⟨rfl, rfl, rfl, by decide +kernel, rfl, by decide +kernel, by decide +kernel⟩
theorem sc_least_passing : FnScope ["passes", "first", "last", "middle"] ["passes", "first", "last"] (defScope s_least_passing) := ⟨rfl, rfl, rfl, by decide +kernel, rfl, by decide +kernel, by decide +kernel⟩
theorem sc_is_polynomial : FnScope ["value", "coefficient"] ["value"] (defScope s_is_polynomial) := ⟨rfl, rfl, rfl, by decide +kernel, rfl, by decide +kernel, by decide +kernel⟩
theorem sc_check_polynomial : FnScope ["kind", "polynomial"] ["kind", "polynomial"] (defScope s_check_polynomial) := ⟨rfl, rfl, rfl, by decide +kernel, rfl, by decide +kernel, by decide +kernel⟩
theorem sc__value : FnScope ["polynomial", "x", "size", "total", "coefficient"] ["polynomial", "x", "size"] (defScope s__value) := ⟨rfl, rfl, rfl, by decide +kernel, rfl, by decide +kernel, by decide +kernel⟩
theorem sc__one_behind : FnScope ["polynomial", "moved", "done", "i"] ["polynomial"] (defScope s__one_behind) := ⟨rfl, rfl, rfl, by decide +kernel, rfl, by decide +kernel, by decide +kernel⟩
theorem sc__doubled : FnScope ["polynomial", "i", "coefficient"] ["polynomial"] (defScope s__doubled) := ⟨rfl, rfl, rfl, by decide +kernel, rfl, by decide +kernel, by decide +kernel⟩
theorem sc__halves : FnScope ["node", "first", "k", "polynomial", "left", "shared", "coefficient", "reduced", "halves"] ["node"] (defScope s__halves) := ⟨rfl, rfl, rfl, by decide +kernel, rfl, by decide +kernel, by decide +kernel⟩
theorem sc_root_families : FnScope ["polynomial", "bits", "nodes", "found", "below", "first", "k", "coefficients", "left", "rest", "coefficient"] ["polynomial", "bits"] (defScope s_root_families) := ⟨rfl, rfl, rfl, by decide +kernel, rfl, by decide +kernel, by decide +kernel⟩
theorem sc_roots : FnScope ["kind", "polynomial"] ["kind", "polynomial"] (defScope s_roots) := ⟨rfl, rfl, rfl, by decide +kernel, rfl, by decide +kernel, by decide +kernel⟩
theorem sc_root_total : FnScope ["kind", "polynomial"] ["kind", "polynomial"] (defScope s_root_total) := ⟨rfl, rfl, rfl, by decide +kernel, rfl, by decide +kernel, by decide +kernel⟩
theorem sc_least_twos : FnScope ["kind", "polynomial", "size", "x"] ["kind", "polynomial"] (defScope s_least_twos) := ⟨rfl, rfl, rfl, by decide +kernel, rfl, by decide +kernel, by decide +kernel⟩
theorem sc_most_twos : FnScope ["kind", "polynomial", "bits", "over", "families"] ["kind", "polynomial"] (defScope s_most_twos) := ⟨rfl, rfl, rfl, by decide +kernel, rfl, by decide +kernel, by decide +kernel⟩
theorem sc__law_source_of : FnScope ["_law_cell"] ["_law_cell"] (defScope s__law_source_of) := ⟨rfl, rfl, rfl, by decide +kernel, rfl, by decide +kernel, by decide +kernel⟩
theorem sc__law_next : FnScope ["_law_source", "_law_many", "_law_found", "_law_prime", "_law_number"] ["_law_source", "_law_many"] (defScope s__law_next) := ⟨rfl, rfl, rfl, by decide +kernel, rfl, by decide +kernel, by decide +kernel⟩
theorem sc__law_one : FnScope ["_law_source", "_law_some"] ["_law_source", "_law_some"] (defScope s__law_one) := ⟨rfl, rfl, rfl, by decide +kernel, rfl, by decide +kernel, by decide +kernel⟩
theorem sc__law_cell_at : FnScope ["_law_script", "_law_index"] ["_law_script", "_law_index"] (defScope s__law_cell_at) := ⟨rfl, rfl, rfl, by decide +kernel, rfl, by decide +kernel, by decide +kernel⟩
theorem sc__law_power : FnScope ["_law_n", "_law_found", "_law_k"] ["_law_n"] (defScope s__law_power) := ⟨rfl, rfl, rfl, by decide +kernel, rfl, by decide +kernel, by decide +kernel⟩
theorem sc__law_wide : FnScope ["_law_source", "_law_m", "_law_found", "_law_k"] ["_law_source", "_law_m"] (defScope s__law_wide) := ⟨rfl, rfl, rfl, by decide +kernel, rfl, by decide +kernel, by decide +kernel⟩
theorem sc__law_times : FnScope ["_law_one_here", "_law_other", "_law_found", "_law_j", "_law_p", "_law_k", "_law_q"] ["_law_one_here", "_law_other"] (defScope s__law_times) := ⟨rfl, rfl, rfl, by decide +kernel, rfl, by decide +kernel, by decide +kernel⟩
theorem sc__law_moved : FnScope ["_law_some", "_law_shift", "_law_bits", "_law_first", "_law_k"] ["_law_some", "_law_shift", "_law_bits"] (defScope s__law_moved) := ⟨rfl, rfl, rfl, by decide +kernel, rfl, by decide +kernel, by decide +kernel⟩
theorem sc__law_powers_right : FnScope ["_law_bits", "_law_kind", "_law_e", "_law_due"] ["_law_bits", "_law_kind"] (defScope s__law_powers_right) := ⟨rfl, rfl, rfl, by decide +kernel, rfl, by decide +kernel, by decide +kernel⟩
theorem sc__law_square_roots : FnScope ["_law_bits", "_law_twos_here", "_law_left", "_law_step", "_law_high", "_law_some"] ["_law_bits", "_law_twos_here"] (defScope s__law_square_roots) := ⟨rfl, rfl, rfl, by decide +kernel, rfl, by decide +kernel, by decide +kernel⟩
theorem sc__law_lines_right : FnScope ["_law_source", "_law_bits", "_law_kind", "_law_turn", "_law_k", "_law_odd", "_law_r", "_law_line", "_law_one_here", "_law_due"] ["_law_source", "_law_bits", "_law_kind"] (defScope s__law_lines_right) := ⟨rfl, rfl, rfl, by decide +kernel, rfl, by decide +kernel, by decide +kernel⟩
theorem sc__law_products_right : FnScope ["_law_source", "_law_bits", "_law_kind", "_law_r", "_law_s", "_law_odd", "_law_k", "_law_both", "_law_one_here", "_law_due", "_law_more", "_law_left"] ["_law_source", "_law_bits", "_law_kind"] (defScope s__law_products_right) := ⟨rfl, rfl, rfl, by decide +kernel, rfl, by decide +kernel, by decide +kernel⟩
theorem sc__law_parts_right : FnScope ["_law_source", "_law_bits", "_law_kind", "_law_count", "_law_more", "_law_some", "_law_k", "_law_product", "_law_one_here", "_law_deep", "_law_due", "_law_many", "_law_first"] ["_law_source", "_law_bits", "_law_kind"] (defScope s__law_parts_right) := ⟨rfl, rfl, rfl, by decide +kernel, rfl, by decide +kernel, by decide +kernel⟩
theorem sc_law : FnScope ["_law_script", "_law_cell", "_law_source", "_law_bits", "_law_kind", "_law_twos_here", "_law_square", "_law_due", "_law_shift", "_law_moved_here"] ["_law_script"] (defScope s_law) := ⟨rfl, rfl, rfl, by decide +kernel, rfl, by decide +kernel, by decide +kernel⟩

/-- a kind's object -/
def kf (w : Nat) (s : Bool) : List (Str × V) := [("bits", .int (w : Int)), ("is_signed", .bl s)]
structure Kd (C : Addr) (H : Hp) (p : Addr) (w : Nat) (s : Bool) : Prop where
  ex : ∃ dx, H p = some (.ins C dx (kf w s))
  w1 : 1 ≤ w
  w2 : w ≤ 128
theorem kf_bits (w : Nat) (s : Bool) : (kf w s).lookup ("bits" : Str) = some (.int (w : Int)) := by unfold kf; simp [List.lookup]
theorem kf_sign (w : Nat) (s : Bool) : (kf w s).lookup ("is_signed" : Str) = some (.bl s) := by
  have e : (("is_signed" : Str) == ("bits" : Str)) = false := by decide +kernel
  unfold kf; simp [List.lookup, e]
/-- the values of a kind, wrapping -/
def loK (w : Nat) (s : Bool) : Int := if s = true then -(2 ^ (w - 1)) else 0
def hiK (w : Nat) (s : Bool) : Int := loK w s + 2 ^ w - 1
def wr (w : Nat) (s : Bool) (n : Int) : Int := loK w s + (n - loK w s) % 2 ^ w
theorem p2 (w : Nat) : (0 : Int) < 2 ^ w := Int.pow_pos (by decide)
theorem p2s {w : Nat} (h : 1 ≤ w) : (2 : Int) ^ w = 2 * 2 ^ (w - 1) := by
  obtain ⟨k, rfl⟩ : ∃ k, w = k + 1 := ⟨w - 1, by omega⟩
  rw [Nat.add_sub_cancel, Int.pow_succ, Int.mul_comm]
theorem wr_lo (w : Nat) (s : Bool) (n : Int) : loK w s ≤ wr w s n := by
  have := Int.emod_nonneg (n - loK w s) (show (2 : Int) ^ w ≠ 0 from Int.ne_of_gt (p2 w))
  unfold wr; omega
theorem wr_hi (w : Nat) (s : Bool) (n : Int) : wr w s n ≤ hiK w s := by
  have := Int.emod_lt_of_pos (n - loK w s) (p2 w)
  unfold wr hiK; omega
theorem wr_id {w : Nat} {s : Bool} {n : Int} (h1 : loK w s ≤ n) (h2 : n ≤ hiK w s) : wr w s n = n := by
  unfold wr
  rw [Int.emod_eq_of_lt (by omega) (by unfold hiK at h2; omega)]
  omega
/-- what the law takes for the same -/
def pl (w : Nat) (s : Bool) (n : Int) : Int := if s = true ∧ 2 ^ (w - 1) ≤ n % 2 ^ w then n % 2 ^ w - 2 ^ w else n % 2 ^ w
theorem pl_wr {w : Nat} (hw : 1 ≤ w) (s : Bool) (n : Int) : pl w s n = wr w s n := by
  have hp := p2 (w - 1)
  have e := p2s hw
  have h0 := Int.emod_nonneg n (show (2 : Int) ^ w ≠ 0 from Int.ne_of_gt (p2 w))
  have h1 := Int.emod_lt_of_pos n (p2 w)
  cases s with
  | false =>
    have hl : loK w false = 0 := by unfold loK; rw [if_neg Bool.false_ne_true]
    unfold pl wr
    rw [if_neg (by intro z; exact Bool.false_ne_true z.1), hl, Int.sub_zero, Int.zero_add]
  | true =>
    have hl : loK w true = -(2 ^ (w - 1)) := by unfold loK; rw [if_pos rfl]
    unfold pl wr
    rw [hl]
    have ed : n % 2 ^ w = n - 2 ^ w * (n / 2 ^ w) := Int.emod_def n _
    by_cases c : 2 ^ (w - 1) ≤ n % 2 ^ w
    · rw [if_pos ⟨rfl, c⟩]
      have q : (n - -(2 ^ (w - 1))) % 2 ^ w = n % 2 ^ w - 2 ^ (w - 1) := by
        have z : n - -(2 ^ (w - 1)) = (n % 2 ^ w - 2 ^ (w - 1)) + 2 ^ w * (n / 2 ^ w + 1) := by
          rw [Int.mul_add, Int.mul_one]; omega
        rw [z, Int.add_mul_emod_self_left, Int.emod_eq_of_lt (by omega) (by omega)]
      rw [q]; omega
    · rw [if_neg (fun z => c z.2)]
      have q : (n - -(2 ^ (w - 1))) % 2 ^ w = n % 2 ^ w + 2 ^ (w - 1) := by
        have z : n - -(2 ^ (w - 1)) = (n % 2 ^ w + 2 ^ (w - 1)) + 2 ^ w * (n / 2 ^ w) := by omega
        rw [z, Int.add_mul_emod_self_left, Int.emod_eq_of_lt (by omega) (by omega)]
      rw [q]; omega
/-- all but p as it was -/
def Kp (p : Addr) (H H' : Hp) : Prop := ∀ q o, q ≠ p → H q = some o → H' q = some o
theorem Kp.refl (p : Addr) (H : Hp) : Kp p H H := fun _ _ _ h => h
theorem Kp.trans {p : Addr} {H H1 H2 : Hp} (a : Kp p H H1) (b : Kp p H1 H2) : Kp p H H2 := fun q o n h => b q o n (a q o n h)
theorem Kp.upd {p : Addr} {H H1 : Hp} {o : HO} (a : Kp p H H1) : Kp p H (upd H1 p o) := fun q u n h => by rw [upd_ne n]; exact a q u n h
theorem Kp.new {p r : Addr} {H H1 : Hp} {o : HO} (a : Kp p H H1) (h : H1 r = none) : Kp p H (L2.upd H1 r o) := fun q u n e => by
  have z := a q u n e
  rw [upd_ne (ne_of_none z h)]; exact z
theorem Kp.of_same {p : Addr} {H H' : Hp} (a : Same H H') : Kp p H H' := fun q o _ h => a q o h
theorem sm_new {H H1 : Hp} {r : Addr} {o : HO} (a : Same H H1) (h : H1 r = none) : Same H (L2.upd H1 r o) := fun q u e => by
  have z := a q u e
  rw [upd_ne (ne_of_none z h)]; exact z
theorem Kp.free {p r : Addr} {H H' : Hp} (a : Kp p H H') (hr : r ≠ p) (h : H' r = none) : H r = none := by
  cases q : H r with
  | none => rfl
  | some o => rw [a r o hr q] at h; cases h
theorem same_free {H H' : Hp} {r : Addr} (a : Same H H') (h : H' r = none) : H r = none := a.free h
/-- a source of draws -/
def SrcAt (H : Hp) (p : Addr) : Prop := ∃ a b c : Int, H p = some (.lst [.int a, .int b, .int c])
theorem SrcAt.same {H H' : Hp} {p : Addr} (h : SrcAt H p) (s : Same H H') : SrcAt H' p := by
  obtain ⟨a, b, c, e⟩ := h
  exact ⟨a, b, c, s _ _ e⟩
theorem kp_mut {p D : Addr} {H H' : Hp} {o : HO} (a : Kp p H H') (h : H D = none) : Kp p H (L2.upd H' D o) := fun q u n e => by
  rw [upd_ne (ne_of_none e h)]; exact a q u n e
theorem SrcAt.mut {H : Hp} {p D : Addr} {o : HO} (h : SrcAt H p) (n : D ≠ p) : SrcAt (L2.upd H D o) p := by
  obtain ⟨a, b, c, e⟩ := h
  exact ⟨a, b, c, by rw [upd_ne (Ne.symm n)]; exact e⟩
theorem SrcAt.ne {H : Hp} {p q : Addr} (h : SrcAt H p) (n : H q = none) : q ≠ p := by
  obtain ⟨a, b, c, e⟩ := h
  exact (ne_of_none e n).symm
theorem b9 {m : Int} (h : m.natAbs < 2 ^ 200) : m.natAbs < 2 ^ 8999 := Nat.lt_trans h (Nat.pow_lt_pow_right (by decide) (by decide))
theorem SrcAt.new {H : Hp} {p r : Addr} {o : HO} (h : SrcAt H p) (n : H r = none) : SrcAt (L2.upd H r o) p := h.same (sm_new (Same.refl H) n)
theorem Kd.same {C : Addr} {H H' : Hp} {p : Addr} {w : Nat} {s : Bool} (h : Kd C H p w s) (e : Same H H') : Kd C H' p w s := by
  obtain ⟨⟨dx, q⟩, a, b⟩ := h
  exact ⟨⟨dx, e _ _ q⟩, a, b⟩
theorem Kd.kp {C : Addr} {H H' : Hp} {p r : Addr} {w : Nat} {s : Bool} (h : Kd C H p w s) (hr : SrcAt H r) (e : Kp r H H') : Kd C H' p w s := by
  obtain ⟨⟨dx, q⟩, a, b⟩ := h
  obtain ⟨_, _, _, z⟩ := hr
  exact ⟨⟨dx, e _ _ (ne_of q z (by intro y; cases y)) q⟩, a, b⟩
/-- how a value that is asked for whether it is an integer looks -/
def IntQ (K : PySem.W.Frag) (H : Hp) (v : V) (b : Bool) : Prop := ∃ t : String, TyX K H v (.type t) ∧ kitB t "int" = some (b || t == "bool") ∧ (b = true ∨ t = "bool" → True) ∧ (∃ c, kitB t "bool" = some c ∧ ((b || t == "bool") && !c) = b)
theorem IntQ.int {K : PySem.W.Frag} {H : Hp} (i : Int) : IntQ K H (.int i) true := ⟨"int", .base (.int i), by decide +kernel, fun _ => trivial, false, by decide +kernel, rfl⟩
theorem IntQ.bl {K : PySem.W.Frag} {H : Hp} (i : Bool) : IntQ K H (.bl i) false := ⟨"bool", .base (.bl i), by decide +kernel, fun _ => trivial, true, by decide +kernel, rfl⟩
theorem IntQ.non {K : PySem.W.Frag} {H : Hp} : IntQ K H .non false := ⟨"NoneType", .base .non, by decide +kernel, fun _ => trivial, false, by decide +kernel, rfl⟩
theorem IntQ.str {K : PySem.W.Frag} {H : Hp} (z : Str) : IntQ K H (.str z) false := ⟨"str", .base (.str z), by decide +kernel, fun _ => trivial, false, by decide +kernel, rfl⟩
theorem IntQ.lst {K : PySem.W.Frag} {H : Hp} {a : Addr} {xs : List V} (h : H a = some (.lst xs)) : IntQ K H (.ref a) false := ⟨"list", .base (.lst h), by decide +kernel, fun _ => trivial, false, by decide +kernel, rfl⟩
theorem IntQ.tup {K : PySem.W.Frag} {H : Hp} {a : Addr} {xs : List V} (h : H a = some (.tup xs)) : IntQ K H (.ref a) false := ⟨"tuple", .base (.tup h), by decide +kernel, fun _ => trivial, false, by decide +kernel, rfl⟩
theorem IntQ.dK {K : PySem.W.Frag} {H : Hp} {a : Addr} {xs : List (Key × V)} (h : H a = some (.dK xs)) : IntQ K H (.ref a) false := ⟨"dict", .base (.dK h), by decide +kernel, fun _ => trivial, false, by decide +kernel, rfl⟩
/-- a row of kinds' parts: a list at D of tuples -/
structure RowAt (H : Hp) (p D : Addr) (rs : List (Addr × Nat × Bool)) : Prop where
  lst : H D = some (.lst (rs.map fun r => V.ref r.1))
  nD : D ≠ p
  tup : ∀ r ∈ rs, H r.1 = some (.tup [.int (r.2.1 : Int), .bl r.2.2]) ∧ r.1 ≠ p ∧ 1 ≤ r.2.1 ∧ r.2.1 ≤ 128
theorem RowAt.kp {H H' : Hp} {p D : Addr} {rs : List (Addr × Nat × Bool)} (h : RowAt H p D rs) (e : Kp p H H') : RowAt H' p D rs :=
  ⟨e _ _ h.nD h.lst, h.nD, fun r hr => ⟨e _ _ (h.tup r hr).2.1 (h.tup r hr).1, (h.tup r hr).2⟩⟩
/-- a list at E of kinds -/
structure KdsAt (C : Addr) (H : Hp) (p E : Addr) (ks : List (Addr × Nat × Bool)) : Prop where
  lst : H E = some (.lst (ks.map fun r => V.ref r.1))
  nE : E ≠ p
  kd : ∀ r ∈ ks, Kd C H r.1 r.2.1 r.2.2 ∧ r.1 ≠ p
theorem KdsAt.kp {C : Addr} {H H' : Hp} {p E : Addr} {ks : List (Addr × Nat × Bool)} (h : KdsAt C H p E ks) (e : Kp p H H') : KdsAt C H' p E ks :=
  ⟨e _ _ h.nE h.lst, h.nE, fun r hr => by
    obtain ⟨⟨⟨dx, q⟩, a, b⟩, n⟩ := h.kd r hr
    exact ⟨⟨⟨dx, e _ _ n q⟩, a, b⟩, n⟩⟩
def wrs (ks : List (Addr × Nat × Bool)) (n : Int) : Int := ks.foldl (fun n k => wr k.2.1 k.2.2 n) n
theorem wrs_eq : ∀ {ks rs : List (Addr × Nat × Bool)} (_ : ks.map (·.2) = rs.map (·.2)) (n : Int), wrs ks n = wrs rs n
  | [], [], _, _ => rfl
  | [], _ :: _, h, _ => by simp at h
  | _ :: _, [], h, _ => by simp at h
  | k :: ks, r :: rs, h, n => by
    rw [List.map_cons, List.map_cons, List.cons.injEq] at h
    show wrs ks (wr k.2.1 k.2.2 n) = wrs rs (wr r.2.1 r.2.2 n)
    rw [h.1]
    exact wrs_eq h.2 _
theorem wrs_more (ks : List (Addr × Nat × Bool)) (r : Addr × Nat × Bool) (n : Int) : wrs (ks ++ [r]) n = wr r.2.1 r.2.2 (wrs ks n) := by
  unfold wrs; rw [List.foldl_append]; rfl

/-! ### lines -/
def BB (n : Int) : Prop := n.natAbs < 2 ^ 300
def SD (n : Int) : Prop := -(10 ^ 60) < n ∧ n < 10 ^ 60
theorem SD.bb {n : Int} (h : SD n) : BB n := by
  obtain ⟨a, b⟩ := h
  unfold BB
  exact Nat.lt_trans (show n.natAbs < 10 ^ 60 by omega) (by decide +kernel)
theorem bbk {wd : Nat} {s : Bool} (h : wd ≤ 128) {n : Int} (h1 : loK wd s ≤ n) (h2 : n ≤ hiK wd s) : BB n := by
  have e : (2 : Int) ^ wd ≤ 2 ^ 128 := by
    have := Nat.pow_le_pow_right (n := 2) (by decide) h
    exact_mod_cast this
  have e1 : (2 : Int) ^ (wd - 1) ≤ 2 ^ 128 := by
    have := Nat.pow_le_pow_right (n := 2) (by decide) (show wd - 1 ≤ 128 by omega)
    exact_mod_cast this
  have p1 := p2 (wd - 1)
  have l0 : -(2 ^ 128) ≤ loK wd s ∧ loK wd s ≤ 0 := by unfold loK; split <;> omega
  have hh : hiK wd s ≤ 2 ^ 128 := by unfold hiK; omega
  unfold BB
  exact Nat.lt_of_le_of_lt (show n.natAbs ≤ 2 ^ 128 by omega) (by decide +kernel)
theorem bb_pow {wd : Nat} (h : wd ≤ 128) : BB (2 ^ wd) := by
  unfold BB
  rw [Int.natAbs_pow]
  exact Nat.pow_lt_pow_right (by decide) (by show wd < 300; omega)
/-- all but the source stays, the tables are told -/
def Kq (TS : List (Addr × Str)) (p : Addr) (H H' : Hp) : Prop := (∀ q o, q ≠ p → H q = some o → (∀ ps, o ≠ .tbl ps) → H' q = some o) ∧ (LamX.Tabs TS H → LamX.Tabs TS H')
section
variable {TS : List (Addr × Str)} {p : Addr} {H H1 H2 : Hp}
theorem Kq.refl (H : Hp) : Kq TS p H H := ⟨fun _ _ _ h _ => h, fun h => h⟩
theorem Kq.trans (a : Kq TS p H H1) (b : Kq TS p H1 H2) : Kq TS p H H2 := ⟨fun q o n h t => b.1 q o n (a.1 q o n h t) t, fun h => b.2 (a.2 h)⟩
theorem Kq.of (a : Sm TS H H1) : Kq TS p H H1 := ⟨fun q o _ h t => a.1 q o h t, a.2⟩
theorem Kp.toQ (a : Kp p H H1) (hl : ∃ xs, H p = some (.lst xs)) : Kq TS p H H1 := by
  obtain ⟨xs, hp⟩ := hl
  refine ⟨fun q o n h _ => a q o n h, fun t b hb => ?_⟩
  obtain ⟨ps, a1, a2, a3⟩ := t b hb
  refine ⟨ps, a _ _ (ne_of a1 hp (by intro z; cases z)) a1, a2, fun pos cv e => ?_⟩
  obtain ⟨c, e1, e2⟩ := a3 pos cv e
  exact ⟨c, e1, a _ _ (ne_of e2 hp (by unfold LamX.CodeO; intro z; cases z)) e2⟩
theorem Kq.at {a : Addr} {o : HO} (s : Kq TS p H H1) (n : a ≠ p) (h : H a = some o) (t : ∀ ps, o ≠ .tbl ps := by intro ps z; cases z) : H1 a = some o := s.1 a o n h t
theorem Kq.free {r : Addr} {xs : List V} (s : Kq TS p H H1) (hp : H1 p = some (.lst xs)) (t : ∀ ps, H r ≠ some (.tbl ps)) (h : H1 r = none) : H r = none := by
  cases q : H r with
  | none => rfl
  | some o =>
    by_cases e : r = p
    · rw [e, hp] at h; cases h
    · rw [s.1 r o e q (fun ps z => t ps (by rw [q, z]))] at h; cases h
end
/-- a source of draws, after at most n of them -/
def SrcN (n : Nat) (H : Hp) (p : Addr) : Prop := ∃ a b c : Int, H p = some (.lst [.int a, .int b, .int c]) ∧ 0 ≤ b ∧ b < 2147483648 ∧ 0 ≤ c ∧ c ≤ n
section
variable {TS : List (Addr × Str)} {p : Addr} {H H1 : Hp} {n m : Nat}
theorem SrcN.lst (h : SrcN n H p) : ∃ xs, H p = some (.lst xs) := by
  obtain ⟨a, b, c, e, _⟩ := h
  exact ⟨_, e⟩
theorem SrcN.le (h : SrcN n H p) (k : n ≤ m) : SrcN m H p := by
  obtain ⟨a, b, c, e, h1, h2, h3, h4⟩ := h
  exact ⟨a, b, c, e, h1, h2, h3, by omega⟩
theorem SrcN.sm (h : SrcN n H p) (s : Sm TS H H1) : SrcN n H1 p := by
  obtain ⟨a, b, c, e, r⟩ := h
  exact ⟨a, b, c, s.at e, r⟩
theorem SrcN.same (h : SrcN n H p) (s : Same H H1) : SrcN n H1 p := by
  obtain ⟨a, b, c, e, r⟩ := h
  exact ⟨a, b, c, s _ _ e, r⟩
theorem SrcN.new {r : Addr} {o : HO} (h : SrcN n H p) (k : H r = none) : SrcN n (upd H r o) p := h.same (sm_new (Same.refl H) k)
theorem SrcN.ne {q : Addr} (h : SrcN n H p) (k : H q = none) : q ≠ p := by
  obtain ⟨_, e⟩ := h.lst
  exact (ne_of_none e k).symm
theorem SrcN.mut {r : Addr} {o : HO} (h : SrcN n H p) (k : r ≠ p) : SrcN n (upd H r o) p := by
  obtain ⟨a, b, c, e, rest⟩ := h
  exact ⟨a, b, c, by rw [upd_ne k.symm]; exact e, rest⟩
theorem SrcN.ne_of {q : Addr} {o : HO} (h : SrcN n H p) (k : H q = some o) (t : ∀ xs, o ≠ .lst xs := by intro xs z; cases z) : q ≠ p := by
  obtain ⟨xs, e⟩ := h.lst
  exact L2.ne_of k e (t xs)
end
/-- the x whose result is from lo to hi -/
def rsP (wd : Nat) (a b lo hi : Int) : Int → Bool := fun x => inR (2 ^ wd) lo hi (a * x + b)
theorem rsP_wr {wd : Nat} {s : Bool} {a b lo hi x : Int} (h1 : loK wd s ≤ lo) (h2 : hi ≤ hiK wd s) : rsP wd a b lo hi x = decide (lo ≤ wr wd s (a * x + b) ∧ wr wd s (a * x + b) ≤ hi) := by
  have hp := p2 wd
  have a1 := wr_lo wd s (a * x + b)
  have a2 := wr_hi wd s (a * x + b)
  have em : ∃ q, a * x + b = wr wd s (a * x + b) + 2 ^ wd * q := by
    refine ⟨(a * x + b - loK wd s) / 2 ^ wd, ?_⟩
    have := Int.emod_add_mul_ediv (a * x + b - loK wd s) (2 ^ wd)
    unfold wr; omega
  obtain ⟨q, e⟩ := em
  generalize wr wd s (a * x + b) = y at a1 a2 e ⊢
  unfold rsP inR
  rw [e]
  unfold hiK at *
  by_cases c2 : lo ≤ hi
  · by_cases c : lo ≤ y
    · have z : (y + 2 ^ wd * q - lo) % 2 ^ wd = y - lo := by
        rw [show y + 2 ^ wd * q - lo = (y - lo) + 2 ^ wd * q by omega, Int.add_mul_emod_self_left, Int.emod_eq_of_lt (by omega) (by omega)]
      rw [z]
      by_cases c3 : y ≤ hi
      · rw [decide_eq_true ⟨c2, by omega⟩, decide_eq_true ⟨c, c3⟩]
      · rw [decide_eq_false fun z => by omega, decide_eq_false fun z => c3 z.2]
    · have z : (y + 2 ^ wd * q - lo) % 2 ^ wd = y - lo + 2 ^ wd := by
        rw [show y + 2 ^ wd * q - lo = (y - lo + 2 ^ wd) + 2 ^ wd * (q - 1) by rw [Int.mul_sub, Int.mul_one]; omega, Int.add_mul_emod_self_left, Int.emod_eq_of_lt (by omega) (by omega)]
      rw [z, decide_eq_false fun z => by omega, decide_eq_false fun z => c z.1]
  · rw [decide_eq_false fun z => c2 z.1, decide_eq_false fun z => by omega]
def FirstOf (p : Int → Bool) (f l : Int) (v : V) : Prop := (v = .non ∧ tot p f l = 0) ∨ ∃ x, v = .int x ∧ f ≤ x ∧ x ≤ l ∧ p x = true ∧ tot p f (x - 1) = 0
def LastOf (p : Int → Bool) (f l : Int) (v : V) : Prop := (v = .non ∧ tot p f l = 0) ∨ ∃ x, v = .int x ∧ f ≤ x ∧ x ≤ l ∧ p x = true ∧ tot p (x + 1) l = 0
def AtOf (p : Int → Bool) (f l j x : Int) : Prop := f ≤ x ∧ x ≤ l ∧ p x = true ∧ tot p f (x - 1) = j
def spP_ (TS : List (Addr × Str)) (H : Hp) (P : Int → Bool) (first last : Int) : Sp := fun vs H' Q _ => ∃ e : Int, vs = [.int e] ∧ first ≤ e ∧ e < last ∧ Sm TS H H' ∧ ∀ H'', Sm TS H' H'' → Q (.bl (P e)) H''
def spT_ (TS : List (Addr × Str)) (H : Hp) (p : Int → Bool) (first last : Int) : Sp := fun vs H' Q _ => ∃ e : Int, vs = [.int e] ∧ (e = last ∨ (first ≤ e ∧ e ≤ last)) ∧ Sm TS H H' ∧ ∀ H'', Sm TS H' H'' → Q (.int (tot p first e)) H''

theorem Kd.sm {C : Addr} {TS : List (Addr × Str)} {H H' : Hp} {p : Addr} {w : Nat} {s : Bool} (h : Kd C H p w s) (e : Sm TS H H') : Kd C H' p w s := by
  obtain ⟨⟨dx, q⟩, a, b⟩ := h
  exact ⟨⟨dx, e.at q⟩, a, b⟩
theorem Kd.kq {C : Addr} {TS : List (Addr × Str)} {H H' : Hp} {p r : Addr} {w : Nat} {s : Bool} (h : Kd C H p w s) (n : p ≠ r) (e : Kq TS r H H') : Kd C H' p w s := by
  obtain ⟨⟨dx, q⟩, a, b⟩ := h
  exact ⟨⟨dx, e.at n q⟩, a, b⟩

theorem loK_hi (w : Nat) (s : Bool) : hiK w s = loK w s + 2 ^ w - 1 := rfl
theorem loK_b {wd : Nat} {s : Bool} (h : wd ≤ 128) : -(2 ^ 128) ≤ loK wd s ∧ loK wd s ≤ 0 ∧ hiK wd s ≤ 2 ^ 128 ∧ 0 ≤ hiK wd s + 1 ∧ (2 : Int) ^ wd ≤ 2 ^ 128 := by
  have e : (2 : Int) ^ wd ≤ 2 ^ 128 := by
    have := Nat.pow_le_pow_right (n := 2) (by decide) h
    exact_mod_cast this
  have e1 : (2 : Int) ^ (wd - 1) ≤ 2 ^ 128 := by
    have := Nat.pow_le_pow_right (n := 2) (by decide) (show wd - 1 ≤ 128 by omega)
    exact_mod_cast this
  have p1 := p2 (wd - 1)
  have p0 := p2 wd
  have e3 : (2 : Int) ^ (wd - 1) ≤ 2 ^ wd := by
    have := Nat.pow_le_pow_right (n := 2) (by decide) (show wd - 1 ≤ wd by omega)
    exact_mod_cast this
  cases s with
  | false =>
    have l : loK wd false = 0 := by unfold loK; rw [if_neg Bool.false_ne_true]
    refine ⟨by omega, by omega, by unfold hiK; omega, by unfold hiK; omega, e⟩
  | true =>
    have l : loK wd true = -(2 ^ (wd - 1)) := by unfold loK; rw [if_pos rfl]
    refine ⟨by omega, by omega, by unfold hiK; omega, by unfold hiK; omega, e⟩
theorem bb_of {n : Int} (h1 : -(2 ^ 299) ≤ n) (h2 : n ≤ 2 ^ 299) : BB n := by
  unfold BB
  exact Nat.lt_of_le_of_lt (show n.natAbs ≤ 2 ^ 299 by omega) (by decide +kernel)
theorem p128 : (2 : Int) ^ 128 < 2 ^ 290 := by decide +kernel
theorem p290 : (2 : Int) ^ 290 * 8 ≤ 2 ^ 299 := by decide +kernel
theorem wr_q (w : Nat) (s : Bool) (n : Int) : wr w s n = n - 2 ^ w * ((n - loK w s) / 2 ^ w) := by
  have := Int.emod_add_mul_ediv (n - loK w s) (2 ^ w)
  unfold wr; omega
theorem wr_in {w : Nat} {s : Bool} {n k : Int} (h1 : loK w s + 2 ^ w * k ≤ n) (h2 : n ≤ hiK w s + 2 ^ w * k) : wr w s n = n - 2 ^ w * k := by
  unfold hiK at h2
  have e : n - loK w s = (n - loK w s - 2 ^ w * k) + 2 ^ w * k := by omega
  unfold wr
  rw [e, Int.add_mul_emod_self_left, Int.emod_eq_of_lt (by omega) (by omega)]
  omega
theorem wr_add (w : Nat) (s : Bool) (n a : Int) : wr w s (n + a) = if wr w s n + a % 2 ^ w ≤ hiK w s then wr w s n + a % 2 ^ w else wr w s n + a % 2 ^ w - 2 ^ w := by
  have hp := p2 w
  have e1 := wr_q w s n
  have e2 := Int.emod_add_mul_ediv a (2 ^ w)
  have a0 := Int.emod_nonneg a (Int.ne_of_gt hp)
  have a1 := Int.emod_lt_of_pos a hp
  have w0 := wr_lo w s n
  have w1 := wr_hi w s n
  generalize (n - loK w s) / 2 ^ w = q at e1
  generalize a / 2 ^ w = r at e2
  generalize a % 2 ^ w = c at *
  by_cases z : wr w s n + c ≤ hiK w s
  · rw [if_pos z]
    have := wr_in (w := w) (s := s) (n := n + a) (k := q + r) (by rw [Int.mul_add]; omega) (by rw [Int.mul_add]; omega)
    rw [this, Int.mul_add]; omega
  · rw [if_neg z]
    have := wr_in (w := w) (s := s) (n := n + a) (k := q + r + 1) (by rw [Int.mul_add, Int.mul_add]; unfold hiK at z; omega) (by rw [Int.mul_add, Int.mul_add]; unfold hiK at *; omega)
    rw [this, Int.mul_add, Int.mul_add]; omega
/-- the descents -/
def dsP (wd : Nat) (s : Bool) (a b : Int) : Int → Bool := fun x => decide (wr wd s (a * (x + 1) + b) < wr wd s (a * x + b))
theorem dsP_rs (wd : Nat) (s : Bool) (a b x : Int) : rsP wd a b (hiK wd s + 1 - a % 2 ^ wd) (hiK wd s) x = dsP wd s a b x := by
  have hp := p2 wd
  have a0 := Int.emod_nonneg a (Int.ne_of_gt hp)
  have a1 := Int.emod_lt_of_pos a hp
  have w0 := wr_lo wd s (a * x + b)
  have w1 := wr_hi wd s (a * x + b)
  rw [rsP_wr (s := s) (by unfold hiK; omega) (Int.le_refl _)]
  unfold dsP
  rw [show a * (x + 1) + b = (a * x + b) + a by rw [Int.mul_add]; omega, wr_add wd s (a * x + b) a]
  by_cases z : wr wd s (a * x + b) + a % 2 ^ wd ≤ hiK wd s
  · rw [if_pos z, decide_eq_false fun y => by omega, decide_eq_false fun y => by omega]
  · rw [if_neg z, decide_eq_true (show _ ∧ _ from ⟨by omega, w1⟩), decide_eq_true (by omega)]
theorem mk_same {H H1 : Hp} {kx dx : Addr} {o1 o2 : HO} (nx : H kx = none) (ndx : H dx = none) (kp : Kp kx (upd (upd H dx o1) kx o2) H1) : Same H H1 := fun b o e => kp b o (ne_of_none e nx) (by rw [upd_ne (ne_of_none e nx), upd_ne (ne_of_none e ndx)]; exact e)
section
variable {TS : List (Addr × Str)} {p : Addr} {H H1 H2 : Hp}
theorem Kq.new {r : Addr} {o : HO} (s : Kq TS p H H1) (h : H1 r = none) : Kq TS p H (upd H1 r o) := s.trans (.of ((Sm.refl H1).new h))
theorem Kq.same (s : Kq TS p H H1) (h : Same H1 H2) : Kq TS p H H2 := s.trans (.of (Sm.of h))
theorem Kq.sm (s : Kq TS p H H1) (h : Sm TS H1 H2) : Kq TS p H H2 := s.trans (.of h)
/-- p is new: the change of p is no change to what was there -/
theorem Kq.mut {r : Addr} {o u : HO} (s : Kq TS p H H1) (hn : H r = none) (h : H1 r = some u) (hu : ∀ ps, u ≠ .tbl ps := by intro ps z; cases z) (hc : ∀ c q, u ≠ LamX.CodeO c q := by intro c q z; cases z) : Kq TS p H (upd H1 r o) := by
  refine ⟨fun q w n e t => ?_, fun t b hb => ?_⟩
  · rw [upd_ne (ne_of_none e hn)]
    exact s.1 q w n e t
  · obtain ⟨ps, a1, a2, a3⟩ := s.2 t b hb
    refine ⟨ps, by rw [upd_ne (fun z => by rw [z, h] at a1; cases a1; exact hu ps rfl)]; exact a1, a2, fun pos cv e => ?_⟩
    obtain ⟨c, e1, e2⟩ := a3 pos cv e
    exact ⟨c, e1, by rw [upd_ne (fun z => by rw [z, h] at e2; exact hc _ _ (Option.some.inj e2))]; exact e2⟩
theorem Kq.out {H3 : Hp} (a : Sm TS H H1) (n : H1 p = none) (b : Sm TS H1 H2) (s : Kq TS p H2 H3) : Sm TS H H3 := ⟨fun q o e t => s.1 q o (ne_of_none (a.1 q o e t) n) (b.1 q o (a.1 q o e t) t) t, fun h => s.2 (b.2 (a.2 h))⟩
end

theorem b28 {n : Int} (h : BB n) : n.natAbs < 2 ^ 2800 := Nat.lt_of_lt_of_le h (Nat.pow_le_pow_right (by decide) (by decide))
theorem b89 {n : Int} (h : BB n) : n.natAbs < 2 ^ 8999 := Nat.lt_of_lt_of_le h (Nat.pow_le_pow_right (by decide) (by decide))
theorem bb_sm {n : Int} (h1 : -(2 ^ 64) ≤ n) (h2 : n ≤ 2 ^ 64) : BB n := by
  have : (2 : Int) ^ 64 ≤ 2 ^ 299 := by decide +kernel
  exact bb_of (by omega) (by omega)
theorem bb_ten {n : Int} (h1 : -(10 ^ 62) ≤ n) (h2 : n ≤ 10 ^ 62) : BB n := by
  have : (10 : Int) ^ 62 ≤ 2 ^ 299 := by decide +kernel
  exact bb_of (by omega) (by omega)
theorem SD.of {n : Int} (h1 : -(10 ^ 60) < n) (h2 : n < 10 ^ 60) : SD n := ⟨h1, h2⟩
theorem eqv_rfl {d : PyData} (h : d.canLay0 = true) : PyData.eqv d d = true := PySem.SeqAt.eqv_refl d h

theorem lo_val {wd : Nat} (h : 1 ≤ wd) (s : Bool) : 0 - 2 ^ wd / 2 * (if s = true then (1 : Int) else 0) = loK wd s := by
  have e := p2s h
  have hp := p2 (wd - 1)
  cases s with
  | false =>
    unfold loK
    rw [if_neg Bool.false_ne_true, if_neg Bool.false_ne_true]; omega
  | true =>
    unfold loK
    rw [if_pos rfl, if_pos rfl]; omega

theorem lay_ints : ∀ is : List Int, PyData.canLayAll0 (is.map PyData.int) = true
  | [] => rfl
  | x :: r => by
    rw [List.map_cons, PyData.canLayAll0, lay_ints r]; rfl
theorem depth_ints : ∀ is : List Int, PyData.depthAll (is.map PyData.int) = 0
  | [] => by simp only [List.map_nil, PyData.depthAll]
  | x :: r => by
    rw [List.map_cons, PyData.depthAll, depth_ints r]; simp [PyData.depth]
theorem eqv_ints : ∀ is js : List Int, PyData.eqvAll (is.map PyData.int) (js.map PyData.int) = decide (is = js)
  | [], [] => by simp [PyData.eqvAll]
  | [], _ :: _ => by simp [PyData.eqvAll]
  | _ :: _, [] => by simp [PyData.eqvAll]
  | x :: xs, y :: ys => by
    rw [List.map_cons, List.map_cons, PyData.eqvAll, eqv_ints xs ys, show PyData.eqv (.int x) (.int y) = decide (x = y) from by simp only [PyData.eqv]; rfl, ← Bool.decide_and]
    exact decide_eq_decide.mpr (by rw [List.cons.injEq])
theorem shaped_ints (is : List Int) : SeqAt.shaped (.list (is.map PyData.int)) = true := by
  unfold SeqAt.shaped
  rw [show PyData.canLay0 (.list (is.map PyData.int)) = PyData.canLayAll0 (is.map PyData.int) from by simp only [PyData.canLay0], lay_ints, show PyData.depth (.list (is.map PyData.int)) = PyData.depthAll (is.map PyData.int) + 1 from by simp only [PyData.depth], depth_ints]
  rfl
theorem dp_ints {K : PySem.W.Frag} {H : Hp} : ∀ is : List Int, DpAll K H (is.map V.int) (is.map PyData.int)
  | [] => .nil
  | x :: r => .cons (.int x) (dp_ints r)

/-! ### walks, as objects -/
def wkf (w : Wk) : List (Str × V) := [("size", .int w.s), ("step", .int w.t), ("marks", .int w.m), ("each", .int w.e), ("marked", .int w.k), ("around", .int w.r)]
def Wd (C : Addr) (H : Hp) (p : Addr) (w : Wk) : Prop := ∃ dx, H p = some (.ins C dx (wkf w))
theorem Wd.same {C : Addr} {H H' : Hp} {p : Addr} {w : Wk} (h : Wd C H p w) (e : Same H H') : Wd C H' p w := by
  obtain ⟨dx, q⟩ := h
  exact ⟨dx, e _ _ q⟩
theorem wk1 (w : Wk) : (wkf w).lookup ("size" : Str) = some (.int w.s) := by unfold wkf; simp [List.lookup]
theorem wk2 (w : Wk) : (wkf w).lookup ("step" : Str) = some (.int w.t) := by
  have e : (("step" : Str) == ("size" : Str)) = false := by decide +kernel
  unfold wkf; simp [List.lookup, e]
theorem wk3 (w : Wk) : (wkf w).lookup ("marks" : Str) = some (.int w.m) := by
  have e : (("marks" : Str) == ("size" : Str)) = false := by decide +kernel
  have e2 : (("marks" : Str) == ("step" : Str)) = false := by decide +kernel
  unfold wkf; simp [List.lookup, e, e2]
theorem wk4 (w : Wk) : (wkf w).lookup ("each" : Str) = some (.int w.e) := by
  have e : (("each" : Str) == ("size" : Str)) = false := by decide +kernel
  have e2 : (("each" : Str) == ("step" : Str)) = false := by decide +kernel
  have e3 : (("each" : Str) == ("marks" : Str)) = false := by decide +kernel
  unfold wkf; simp [List.lookup, e, e2, e3]
theorem wk5 (w : Wk) : (wkf w).lookup ("marked" : Str) = some (.int w.k) := by
  have e : (("marked" : Str) == ("size" : Str)) = false := by decide +kernel
  have e2 : (("marked" : Str) == ("step" : Str)) = false := by decide +kernel
  have e3 : (("marked" : Str) == ("marks" : Str)) = false := by decide +kernel
  have e4 : (("marked" : Str) == ("each" : Str)) = false := by decide +kernel
  unfold wkf; simp [List.lookup, e, e2, e3, e4]
theorem wk6 (w : Wk) : (wkf w).lookup ("around" : Str) = some (.int w.r) := by
  have e : (("around" : Str) == ("size" : Str)) = false := by decide +kernel
  have e2 : (("around" : Str) == ("step" : Str)) = false := by decide +kernel
  have e3 : (("around" : Str) == ("marks" : Str)) = false := by decide +kernel
  have e4 : (("around" : Str) == ("each" : Str)) = false := by decide +kernel
  have e5 : (("around" : Str) == ("marked" : Str)) = false := by decide +kernel
  unfold wkf; simp [List.lookup, e, e2, e3, e4, e5]
theorem bbE {x : Int} (h1 : -(2 ^ 700) ≤ x) (h2 : x ≤ 2 ^ 700) : x.natAbs < 2 ^ 701 := by
  have e : (2 : Nat) ^ 701 = 2 * 2 ^ 700 := by rw [Nat.pow_succ, Nat.mul_comm]
  have c : ((2 ^ 700 : Nat) : Int) = (2 : Int) ^ 700 := Int.natCast_pow 2 700
  have : 0 < 2 ^ 700 := Nat.pow_pos (show 0 < 2 by decide)
  omega
theorem bb129 {x : Int} (h1 : -(2 ^ 129) ≤ x) (h2 : x ≤ 2 ^ 129) : x.natAbs < 2 ^ 130 := by
  have e : (2 : Nat) ^ 130 = 2 * 2 ^ 129 := by decide +kernel
  have c : ((2 ^ 129 : Nat) : Int) = (2 : Int) ^ 129 := Int.natCast_pow 2 129
  omega
theorem putW (w : Wk) : putF "around" (.int w.r) (putF "marked" (.int w.k) (putF "each" (.int w.e) (putF "marks" (.int w.m) (putF "step" (.int w.t) (putF "size" (.int w.s) []))))) = wkf w := by
  have f01 : ¬ ("size" : Str) = "step" := by decide +kernel
  have f02 : ¬ ("size" : Str) = "marks" := by decide +kernel
  have f12 : ¬ ("step" : Str) = "marks" := by decide +kernel
  have f03 : ¬ ("size" : Str) = "each" := by decide +kernel
  have f13 : ¬ ("step" : Str) = "each" := by decide +kernel
  have f23 : ¬ ("marks" : Str) = "each" := by decide +kernel
  have f04 : ¬ ("size" : Str) = "marked" := by decide +kernel
  have f14 : ¬ ("step" : Str) = "marked" := by decide +kernel
  have f24 : ¬ ("marks" : Str) = "marked" := by decide +kernel
  have f34 : ¬ ("each" : Str) = "marked" := by decide +kernel
  have f05 : ¬ ("size" : Str) = "around" := by decide +kernel
  have f15 : ¬ ("step" : Str) = "around" := by decide +kernel
  have f25 : ¬ ("marks" : Str) = "around" := by decide +kernel
  have f35 : ¬ ("each" : Str) = "around" := by decide +kernel
  have f45 : ¬ ("marked" : Str) = "around" := by decide +kernel
  unfold wkf
  simp only [putF, if_neg f01, if_neg f02, if_neg f12, if_neg f03, if_neg f13, if_neg f23, if_neg f04, if_neg f14, if_neg f24, if_neg f34, if_neg f05, if_neg f15, if_neg f25, if_neg f35, if_neg f45]
structure WkB (w : Wk) : Prop where
  e : w.e.natAbs < 2 ^ 701
  k : w.k.natAbs < 2 ^ 701
  r : w.r.natAbs < 2 ^ 701
  s : w.s.natAbs < 2 ^ 130
  t : w.t.natAbs < 2 ^ 130
  m : w.m.natAbs < 2 ^ 130
theorem wkb {w : Wk} (h : WF w) (b : WB w) : WkB w := by
  obtain ⟨E, e0, ee, ek, er, el, _⟩ := wb_E h b
  have s0 := h.s0
  have t0 := h.t0
  have ts := h.ts
  have m0 := h.m0
  have ms := h.ms
  have s1 := b.s1
  exact ⟨bbE (by omega) (by omega), bbE (by omega) (by omega), bbE (by omega) (by omega), bb129 (by omega) (by omega), bb129 (by omega) (by omega), bb129 (by omega) (by omega)⟩

theorem abs_min {w : Wk} {b n : Int} (n0 : 0 ≤ n) (h : n.natAbs < 2 ^ 600) : (min n (w.mst b)).natAbs < 2 ^ 600 := by
  have : 0 ≤ w.mst b := by unfold Wk.mst; omega
  omega
theorem nopW (w : Wk) {f : Str} (h : ∀ x ∈ ([("size" : Str), "step", "marks", "each", "marked", "around"] : List Str), (f == x) = false) : (wkf w).lookup f = none := by
  unfold wkf
  have h1 := h "size" (by simp)
  have h2 := h "step" (by simp)
  have h3 := h "marks" (by simp)
  have h4 := h "each" (by simp)
  have h5 := h "marked" (by simp)
  have h6 := h "around" (by simp)
  simp [List.lookup, h1, h2, h3, h4, h5, h6]
theorem nW1 (w : Wk) : (wkf w).lookup ("marked_steps" : Str) = none := nopW w (by decide +kernel)
theorem nW2 (w : Wk) : (wkf w).lookup ("cost" : Str) = none := nopW w (by decide +kernel)
theorem nW3 (w : Wk) : (wkf w).lookup ("steps_for" : Str) = none := nopW w (by decide +kernel)
theorem nW4 (w : Wk) : (wkf w).lookup ("mirrored" : Str) = none := nopW w (by decide +kernel)
theorem nW5 (w : Wk) : (wkf w).lookup ("of_laps" : Str) = none := nopW w (by decide +kernel)
theorem sum_b {a b : Int} (ha : a.natAbs < 2 ^ 701) (hb : b.natAbs < 2 ^ 701) : (a + b).natAbs < 2 ^ 702 := by
  have e : (2 : Nat) ^ 702 = 2 * 2 ^ 701 := by rw [Nat.pow_succ, Nat.mul_comm]
  omega

theorem lt_two_pow (n : Nat) {x : Int} (h0 : 0 ≤ x) (h : x < 2 ^ n) : x.natAbs < 2 ^ n := by
  have c : ((2 ^ n : Nat) : Int) = (2 : Int) ^ n := Int.natCast_pow 2 n
  omega
def Bnd (w : Wk) (p b : Int) : Prop := ∀ (N : Nat) (g : Int), hT w p b N g → N < 2 ^ 402 ∧ 0 ≤ g
structure Ent (v : Wk) (q : Int) : Prop where
  wf : WF v
  t0 : 0 < v.t
  q0 : 0 ≤ q
  q1 : q < v.t
  wb : WkB v
def Chain (W0 : Wk) (P0 J0 : Int) : List (Wk × Int × Nat × Int) → Wk → Int → Int → Prop
  | [], w, p, b => w = W0 ∧ p = P0 ∧ b = J0
  | e :: r, w, p, b => w = e.1.laps ∧ p = e.2.1 ∧ b = e.2.2.2 ∧ Ent e.1 e.2.1 ∧ ∃ w' p' b', Chain W0 P0 J0 r w' p' b' ∧ Bnd w' p' b' ∧ ∀ (X : Nat) (g : Int), hT e.1 e.2.1 e.2.2.2 X g → e.2.2.1 ≤ X ∧ hT w' p' b' (X - e.2.2.1) g
def RowE (C : Addr) (H : Hp) (t : Addr) (e : Wk × Int × Nat × Int) : Prop := ∃ wa, H t = some (.tup [.ref wa, .int e.2.1, .int (e.2.2.1 : Int)]) ∧ Wd C H wa e.1
def Rows (C : Addr) (H : Hp) (D : Addr) (st : List (Wk × Int × Nat × Int)) : Prop := ∃ ts : List Addr, H D = some (.lst (ts.map V.ref)) ∧ ts.length = st.length ∧ ∀ (i : Nat) (t : Addr) (e : Wk × Int × Nat × Int), ts[i]? = some t → st.reverse[i]? = some e → RowE C H t e
theorem RowE.same {C : Addr} {H H' : Hp} {t : Addr} {e : Wk × Int × Nat × Int} (h : RowE C H t e) (s : Same H H') : RowE C H' t e := by
  obtain ⟨wa, h1, h2⟩ := h
  exact ⟨wa, s _ _ h1, h2.same s⟩
theorem Rows.same {C : Addr} {H H' : Hp} {D : Addr} {st : List (Wk × Int × Nat × Int)} (h : Rows C H D st) (s : Same H H') : Rows C H' D st := by
  obtain ⟨ts, h1, h2, h3⟩ := h
  exact ⟨ts, s _ _ h1, h2, fun i t e a b => (h3 i t e a b).same s⟩
theorem Wd.mut {C : Addr} {H : Hp} {p D : Addr} {w : Wk} {xs ys : List V} (hD : H D = some (.lst xs)) (h : Wd C H p w) : Wd C (L2.upd H D (.lst ys)) p w := by
  obtain ⟨dx, e⟩ := h
  exact ⟨dx, by rw [upd_ne (ne_of e hD (by intro z; cases z))]; exact e⟩
theorem RowE.mut {C : Addr} {H : Hp} {t D : Addr} {e : Wk × Int × Nat × Int} {xs ys : List V} (hD : H D = some (.lst xs)) (h : RowE C H t e) : RowE C (L2.upd H D (.lst ys)) t e := by
  obtain ⟨wa, h1, h2⟩ := h
  exact ⟨wa, by rw [upd_ne (ne_of h1 hD (by intro z; cases z))]; exact h1, h2.mut hD⟩
theorem Rows.push {C : Addr} {H : Hp} {D t : Addr} {st : List (Wk × Int × Nat × Int)} {e : Wk × Int × Nat × Int} {ts : List Addr} (h1 : H D = some (.lst (ts.map V.ref))) (h2 : ts.length = st.length) (h3 : ∀ (i : Nat) (t : Addr) (e : Wk × Int × Nat × Int), ts[i]? = some t → st.reverse[i]? = some e → RowE C H t e) (h : RowE C H t e) : Rows C (L2.upd H D (.lst (ts.map V.ref ++ [.ref t]))) D (e :: st) := by
  refine ⟨ts ++ [t], by rw [upd_same, List.map_append]; rfl, by rw [List.length_append, h2]; rfl, fun i t' e' a b => ?_⟩
  rw [List.reverse_cons] at b
  by_cases c : i < ts.length
  · rw [List.getElem?_append_left c] at a
    rw [List.getElem?_append_left (by rw [List.length_reverse, ← h2]; exact c)] at b
    exact (h3 i t' e' a b).mut h1
  · have z : i = ts.length := by
      have := (List.getElem?_eq_some_iff.mp a).1
      rw [List.length_append, List.length_singleton] at this
      omega
    subst z
    rw [List.getElem?_append_right (Nat.le_refl _), Nat.sub_self] at a
    rw [List.getElem?_append_right (by rw [List.length_reverse, h2]; exact Nat.le_refl _), List.length_reverse, h2, Nat.sub_self] at b
    obtain rfl : t = t' := Option.some.inj a
    obtain rfl : e = e' := Option.some.inj b
    exact h.mut h1
def plow (w : Wk) (p : Int) : Int := if w.s < 2 * w.t then w.s - 1 - p else p
theorem plow_ok {w : Wk} (h : WF w) (ht : 0 < w.t) {p : Int} (p0 : 0 ≤ p) (p1 : p < w.s) : (0 ≤ plow w p ∧ plow w p < w.low.s) ∧ (∀ N, hC w.low N (plow w p) = hC w N p) ∧ ∀ {b : Int} {n : Nat} {g : Int}, hT w.low (plow w p) b n g → hT w p b n g := by
  unfold plow Wk.low
  split
  · refine ⟨⟨by omega, by show w.s - 1 - p < w.s; omega⟩, fun N => (mir_hP h p0 p1 N).2, fun {b n g} t => mir_hT h p0 p1 t⟩
  · exact ⟨⟨p0, p1⟩, fun _ => rfl, fun t => t⟩
theorem bits130 {x : Int} (h : x.natAbs < 2 ^ 900) {y : Int} (hy : 0 < y) : CDivP x y := by
  have a := PyProof.Rows.intBits_le h
  exact divp_ok hy (by omega)

theorem hit_pos {a b lo hi S : Int} (s0 : 0 < S) (h1 : lo ≤ hi) (h2 : hi - lo < S) (f : Int) : ∀ n : Nat, hP ⟨S, a % S, hi - lo + 1, 0, 1, 0⟩ n ((a * f + b - lo) % S) = (a * (f + (n : Int)) + b - lo) % S ∧ hC ⟨S, a % S, hi - lo + 1, 0, 1, 0⟩ n ((a * f + b - lo) % S) = tot (fun x => inR S lo hi (a * x + b)) f (f + (n : Int) - 1)
  | 0 => by
    refine ⟨?_, ?_⟩
    · show (a * f + b - lo) % S = (a * (f + ((0 : Nat) : Int)) + b - lo) % S
      rw [show f + ((0 : Nat) : Int) = f by omega]
    · show (0 : Int) = _
      rw [tot_none (by omega)]
  | n + 1 => by
    obtain ⟨e1, e2⟩ := hit_pos s0 h1 h2 f n
    have r0 := Int.emod_nonneg (a * (f + (n : Int)) + b - lo) (Int.ne_of_gt s0)
    have r1 := Int.emod_lt_of_pos (a * (f + (n : Int)) + b - lo) s0
    have t0 := Int.emod_nonneg a (Int.ne_of_gt s0)
    have t1 := Int.emod_lt_of_pos a s0
    have ad : (a * (f + ((n + 1 : Nat) : Int)) + b - lo) % S = ((a * (f + (n : Int)) + b - lo) % S + a % S) % S := by
      rw [← Int.add_emod]
      congr 1
      rw [show f + ((n + 1 : Nat) : Int) = (f + (n : Int)) + 1 by omega, Int.mul_add, Int.mul_one]; omega
    constructor
    · show hn S (a % S) (hP ⟨S, a % S, hi - lo + 1, 0, 1, 0⟩ n ((a * f + b - lo) % S)) = _
      rw [e1, ad]
      unfold hn
      clear e1 e2 ad
      generalize (a * (f + (n : Int)) + b - lo) % S = r at *
      generalize a % S = q at *
      split
      · have e : (r + q) % S = r + q - S := by
          have e0 : r + q = (r + q - S) + S * 1 := by omega
          rw [e0, Int.add_mul_emod_self_left, Int.emod_eq_of_lt (by omega) (by omega)]
          omega
        rw [e]
      · rw [Int.emod_eq_of_lt (by omega) (by omega)]
    · show hC ⟨S, a % S, hi - lo + 1, 0, 1, 0⟩ n ((a * f + b - lo) % S) + hc ⟨S, a % S, hi - lo + 1, 0, 1, 0⟩ (hP ⟨S, a % S, hi - lo + 1, 0, 1, 0⟩ n ((a * f + b - lo) % S)) = _
      rw [e2, e1, show f + ((n + 1 : Nat) : Int) - 1 = f + (n : Int) by omega, tot_step _ (show f ≤ f + (n : Int) by omega)]
      congr 1
      unfold hc inR
      dsimp only
      by_cases c : (a * (f + (n : Int)) + b - lo) % S < hi - lo + 1
      · rw [if_pos c, if_pos (decide_eq_true ⟨h1, by omega⟩)]; split <;> omega
      · rw [if_neg c, show decide (lo ≤ hi ∧ (a * (f + (n : Int)) + b - lo) % S ≤ hi - lo) = false from decide_eq_false (fun z => by omega), if_neg Bool.false_ne_true]; split <;> omega
theorem hit_is {a b lo hi S : Int} (s0 : 0 < S) (h1 : lo ≤ hi) (h2 : hi - lo < S) {f j g : Int} {n : Nat} (h : hT ⟨S, a % S, hi - lo + 1, 0, 1, 0⟩ ((a * f + b - lo) % S) j n g) : inR S lo hi (a * (f + (n : Int)) + b) = true ∧ tot (fun x => inR S lo hi (a * x + b)) f (f + (n : Int) - 1) = j := by
  obtain ⟨e1, e2⟩ := hit_pos (a := a) (b := b) s0 h1 h2 f n
  obtain ⟨t1, t2, t3⟩ := h
  rw [e2] at t1
  rw [e1] at t3
  unfold hc at t3
  dsimp only at t3
  by_cases c : (a * (f + (n : Int)) + b - lo) % S < hi - lo + 1
  · refine ⟨decide_eq_true ⟨h1, by omega⟩, ?_⟩
    rw [if_pos c] at t3
    split at t3 <;> omega
  · rw [if_neg c] at t3
    split at t3 <;> omega

/-! ### two lines -/
def Rel (z : Str) : Prop := z = "<" ∨ z = "<=" ∨ z = "==" ∨ z = "!=" ∨ z = ">=" ∨ z = ">"
def relB (z : Str) (y w : Int) : Bool := if z = "<" then decide (y < w) else if z = "<=" then decide (y ≤ w) else if z = "==" then decide (y = w) else if z = "!=" then !decide (y = w) else if z = ">=" then decide (w ≤ y) else decide (w < y)
theorem rel1 (y w : Int) : relB "<" y w = decide (y < w) := if_pos rfl
theorem rel2 (y w : Int) : relB "<=" y w = decide (y ≤ w) := by unfold relB; rw [if_neg (by decide +kernel), if_pos rfl]
theorem rel3 (y w : Int) : relB "==" y w = decide (y = w) := by unfold relB; rw [if_neg (by decide +kernel), if_neg (by decide +kernel), if_pos rfl]
theorem rel4 (y w : Int) : relB "!=" y w = !decide (y = w) := by unfold relB; rw [if_neg (by decide +kernel), if_neg (by decide +kernel), if_neg (by decide +kernel), if_pos rfl]
theorem rel5 (y w : Int) : relB ">=" y w = decide (w ≤ y) := by unfold relB; rw [if_neg (by decide +kernel), if_neg (by decide +kernel), if_neg (by decide +kernel), if_neg (by decide +kernel), if_pos rfl]
theorem rel6 (y w : Int) : relB ">" y w = decide (w < y) := by unfold relB; rw [if_neg (by decide +kernel), if_neg (by decide +kernel), if_neg (by decide +kernel), if_neg (by decide +kernel), if_neg (by decide +kernel)]
theorem rel_sg {z : Str} (hz : Rel z) {y w y' w' : Int} (h1 : y < w ↔ y' < w') (h2 : y = w ↔ y' = w') : relB z y w = relB z y' w' := by
  rcases hz with rfl | rfl | rfl | rfl | rfl | rfl
  · rw [rel1, rel1, decide_eq_decide.mpr h1]
  · rw [rel2, rel2]; exact decide_eq_decide.mpr (by omega)
  · rw [rel3, rel3, decide_eq_decide.mpr h2]
  · rw [rel4, rel4, decide_eq_decide.mpr h2]
  · rw [rel5, rel5]; exact decide_eq_decide.mpr (by omega)
  · rw [rel6, rel6]; exact decide_eq_decide.mpr (by omega)
/-- the x at which the results of two lines stand in a relation -/
def cmP (wd : Nat) (s : Bool) (z : Str) (a b c d : Int) : Int → Bool := fun x => relB z (wr wd s (a * x + b)) (wr wd s (c * x + d))
theorem tot_notM (p : Int → Bool) (f l : Int) : tot (fun x => !p x) f l = max 0 (l - f + 1) - tot p f l := by
  by_cases h : f ≤ l + 1
  · rw [tot_not h]
    have := tot_le p h
    omega
  · rw [tot_none (show l < f by omega), tot_none (show l < f by omega)]; omega
theorem lt_quot (wd : Nat) (s : Bool) (y v : Int) : (y - loK wd s) / 2 ^ wd - (v - loK wd s) / 2 ^ wd - (y - v) / 2 ^ wd = if relB "<" (wr wd s y) (wr wd s v) = true then 1 else 0 := by
  have hp := p2 wd
  have e1 := wr_q wd s y
  have e2 := wr_q wd s v
  have y0 := wr_lo wd s y
  have y1 := wr_hi wd s y
  have v0 := wr_lo wd s v
  have v1 := wr_hi wd s v
  unfold hiK at y1 v1
  rw [rel1]
  generalize (y - loK wd s) / 2 ^ wd = q at *
  generalize (v - loK wd s) / 2 ^ wd = r at *
  have em : 2 ^ wd * (q - r) = 2 ^ wd * q - 2 ^ wd * r := Int.mul_sub _ _ _
  have em1 : 2 ^ wd * (q - r - 1) = 2 ^ wd * q - 2 ^ wd * r - 2 ^ wd := by rw [Int.mul_sub, em, Int.mul_one]
  by_cases c : wr wd s y < wr wd s v
  · rw [if_pos (decide_eq_true c)]
    have z : (y - v) / 2 ^ wd = q - r - 1 := by
      have e : y - v = (wr wd s y - wr wd s v + 2 ^ wd) + 2 ^ wd * (q - r - 1) := by omega
      rw [e, Int.add_mul_ediv_left _ _ (Int.ne_of_gt hp), Int.ediv_eq_zero_of_lt (by omega) (by omega)]; omega
    omega
  · rw [if_neg (by rw [decide_eq_true_eq]; exact c)]
    have z : (y - v) / 2 ^ wd = q - r := by
      have e : y - v = (wr wd s y - wr wd s v) + 2 ^ wd * (q - r) := by omega
      rw [e, Int.add_mul_ediv_left _ _ (Int.ne_of_gt hp), Int.ediv_eq_zero_of_lt (by omega) (by omega)]; omega
    omega
theorem QT_lt (wd : Nat) (s : Bool) (a b c d f l : Int) : QT (a - 0) (b - loK wd s) (2 ^ wd) f l - QT (c - 0) (d - loK wd s) (2 ^ wd) f l - QT (a - c) (b - d) (2 ^ wd) f l = tot (cmP wd s "<" a b c d) f l := by
  unfold QT tot cN
  rw [← sZ_sub, ← sZ_sub]
  refine sZ_congr fun i _ => ?_
  show _ = (if relB "<" (wr wd s (a * (f + (i : Int)) + b)) (wr wd s (c * (f + (i : Int)) + d)) = true then (1 : Int) else 0)
  rw [← lt_quot, Int.sub_zero, Int.sub_zero, Int.sub_mul]
  rw [show a * (f + (i : Int)) + (b - loK wd s) = a * (f + (i : Int)) + b - loK wd s by omega, show c * (f + (i : Int)) + (d - loK wd s) = c * (f + (i : Int)) + d - loK wd s by omega, show a * (f + (i : Int)) - c * (f + (i : Int)) + (b - d) = a * (f + (i : Int)) + b - (c * (f + (i : Int)) + d) by omega]
theorem wr_eq_iff (wd : Nat) (s : Bool) (y v : Int) : wr wd s y = wr wd s v ↔ (y - v) % 2 ^ wd = 0 := by
  have hp := p2 wd
  have e1 := wr_q wd s y
  have e2 := wr_q wd s v
  have y0 := wr_lo wd s y
  have y1 := wr_hi wd s y
  have v0 := wr_lo wd s v
  have v1 := wr_hi wd s v
  unfold hiK at y1 v1
  generalize (y - loK wd s) / 2 ^ wd = q at *
  generalize (v - loK wd s) / 2 ^ wd = r at *
  have em : 2 ^ wd * (q - r) = 2 ^ wd * q - 2 ^ wd * r := Int.mul_sub _ _ _
  have em1 : 2 ^ wd * (q - r - 1) = 2 ^ wd * q - 2 ^ wd * r - 2 ^ wd := by rw [Int.mul_sub, em, Int.mul_one]
  by_cases c : wr wd s v ≤ wr wd s y
  · have e : y - v = (wr wd s y - wr wd s v) + 2 ^ wd * (q - r) := by omega
    rw [e, Int.add_mul_emod_self_left, Int.emod_eq_of_lt (by omega) (by omega)]; omega
  · have e : y - v = (wr wd s y - wr wd s v + 2 ^ wd) + 2 ^ wd * (q - r - 1) := by omega
    rw [e, Int.add_mul_emod_self_left, Int.emod_eq_of_lt (by omega) (by omega)]; omega
theorem eq_inR (wd : Nat) (s : Bool) (a b c d x : Int) : inR (2 ^ wd) 0 0 ((a - c) * x + (b - d)) = cmP wd s "==" a b c d x := by
  have hp := p2 wd
  unfold cmP inR
  rw [rel3, show (a - c) * x + (b - d) - 0 = a * x + b - (c * x + d) by rw [Int.sub_mul]; omega]
  have := Int.emod_nonneg (a * x + b - (c * x + d)) (Int.ne_of_gt hp)
  refine decide_eq_decide.mpr ?_
  rw [wr_eq_iff]; omega
theorem cm_not {z z' : Str} (h : ∀ y w, relB z' y w = !relB z y w) (wd : Nat) (s : Bool) (a b c d f l : Int) : tot (cmP wd s z' a b c d) f l = max 0 (l - f + 1) - tot (cmP wd s z a b c d) f l := by
  rw [← tot_notM]
  exact tot_congr fun x _ _ => h _ _
theorem cm_turn {z z' : Str} (h : ∀ y w, relB z' y w = relB z w y) (wd : Nat) (s : Bool) (a b c d f l : Int) : tot (cmP wd s z' a b c d) f l = tot (cmP wd s z c d a b) f l := tot_congr fun x _ _ => h _ _
theorem rn25 (y w : Int) : relB "<=" y w = !relB "<" w y := by rw [rel1, rel2, ← decide_not]; exact decide_eq_decide.mpr (by omega)
theorem rn5 (y w : Int) : relB ">=" y w = !relB "<" y w := by rw [rel1, rel5, ← decide_not]; exact decide_eq_decide.mpr (by omega)
theorem rn4 (y w : Int) : relB "!=" y w = !relB "==" y w := by rw [rel4, rel3]
theorem rn6 (y w : Int) : relB ">" y w = relB "<" w y := by rw [rel6, rel1]
/-- surprises -/
def suP (wd : Nat) (s : Bool) (z : Str) (a b c d : Int) : Int → Bool := fun x => cmP wd s z a b c d x != relB z (a * x + b) (c * x + d)
theorem su_part {wd : Nat} {s : Bool} {z : Str} {a b c d f l : Int} {e : Bool} (h : ∀ x, f ≤ x → x ≤ l → relB z (a * x + b) (c * x + d) = e) : tot (suP wd s z a b c d) f l = if e = true then max 0 (l - f + 1) - tot (cmP wd s z a b c d) f l else tot (cmP wd s z a b c d) f l := by
  cases e with
  | true =>
    rw [if_pos rfl, ← tot_notM]
    refine tot_congr fun x h1 h2 => ?_
    unfold suP
    rw [h x h1 h2]; cases cmP wd s z a b c d x <;> rfl
  | false =>
    rw [if_neg Bool.false_ne_true]
    refine tot_congr fun x h1 h2 => ?_
    unfold suP
    rw [h x h1 h2]; cases cmP wd s z a b c d x <;> rfl
def CDivNW (_ j : Int) : Prop := j ≠ 0 ∧ j.natAbs.log2 < 9000
theorem op_fdivNW {X : Cx} : OpR X (binaryOp .FloorDiv) (rI CDivNW fun i j => .int (i.fdiv j)) := opI fun _ _ _ _ _ _ _ hc q => PyProof.Rows.floordiv_int hc.1 q (.inl (PyProof.noPylong_of_log2 hc.2))
theorem divnw {i j : Int} (h : j ≠ 0) (b : BB j) : CDivNW i j := ⟨h, Nat.lt_of_lt_of_le (PySem.Flt.log2_lt_of (k := 300) (by decide) b) (by decide)⟩
/-- where two lines cross -/
theorem cross_lt {u v x : Int} (hu : u ≠ 0) (h : x < (-v).fdiv u) : (0 < u → u * x + v < 0) ∧ (u < 0 → 0 < u * x + v) := by
  constructor
  · intro hp
    rw [Int.fdiv_eq_ediv_of_nonneg _ (Int.le_of_lt hp)] at h
    have h1 := (Int.le_ediv_iff_mul_le hp (a := x + 1) (b := -v)).mp (by omega)
    rw [Int.add_mul, Int.one_mul, Int.mul_comm x u] at h1
    omega
  · intro hn
    have e : (-v).fdiv u = v.fdiv (-u) := by rw [← Int.neg_fdiv_neg, Int.neg_neg]
    rw [e, Int.fdiv_eq_ediv_of_nonneg _ (by omega)] at h
    have h1 := (Int.le_ediv_iff_mul_le (show 0 < -u by omega) (a := x + 1) (b := v)).mp (by omega)
    rw [Int.add_mul, Int.one_mul, Int.mul_neg, Int.mul_comm x u] at h1
    omega
theorem cross_gt {u v x : Int} (hu : u ≠ 0) (h : (-v).fdiv u < x) : (0 < u → 0 < u * x + v) ∧ (u < 0 → u * x + v < 0) := by
  constructor
  · intro hp
    rw [Int.fdiv_eq_ediv_of_nonneg _ (Int.le_of_lt hp)] at h
    have h1 := (Int.ediv_lt_iff_lt_mul hp (a := -v) (b := x)).mp h
    rw [Int.mul_comm x u] at h1
    omega
  · intro hn
    have e : (-v).fdiv u = v.fdiv (-u) := by rw [← Int.neg_fdiv_neg, Int.neg_neg]
    rw [e, Int.fdiv_eq_ediv_of_nonneg _ (by omega)] at h
    have h1 := (Int.ediv_lt_iff_lt_mul (show 0 < -u by omega) (a := v) (b := x)).mp h
    rw [Int.mul_neg, Int.mul_comm x u] at h1
    omega
theorem fdiv_bb {u v : Int} (hu : u ≠ 0) : (v.fdiv u).natAbs ≤ v.natAbs + 1 := by
  rcases Int.lt_or_gt_of_ne hu with h | h
  · have e : v.fdiv u = (-v).fdiv (-u) := by rw [Int.neg_fdiv_neg]
    rw [e, Int.fdiv_eq_ediv_of_nonneg _ (by omega)]
    have := Int.natAbs_ediv_le_natAbs (-v) (-u)
    omega
  · rw [Int.fdiv_eq_ediv_of_nonneg _ (Int.le_of_lt h)]
    have := Int.natAbs_ediv_le_natAbs v u
    omega
/-- the parts of a range, at each of which the lines are in one order -/
structure Parts (a b c d f l : Int) (ps : List (Int × Int)) : Prop where
  sum : ∀ p : Int → Bool, (ps.map fun r => tot p r.1 r.2).sum = tot p f l
  one : ∀ r ∈ ps, ∀ x, r.1 ≤ x → x ≤ r.2 → ((a * x + b < c * x + d ↔ a * r.1 + b < c * r.1 + d) ∧ (a * x + b = c * x + d ↔ a * r.1 + b = c * r.1 + d))
  bb : ∀ r ∈ ps, BB r.1 ∧ BB r.2
theorem parts1 {a b c d f l : Int} (h : a - c = 0) (bf : BB f) (bl : BB l) : Parts a b c d f l [(f, l)] := by
  have e : a = c := by omega
  subst e
  refine ⟨fun p => by simp, fun r hr x _ _ => by omega, fun r hr => ?_⟩
  rw [List.mem_singleton.mp hr]
  exact ⟨bf, bl⟩
theorem parts3 {a b c d f l : Int} (h : a - c ≠ 0) (sb : SD b) (sd : SD d) (sf : SD f) (sl : SD l) : Parts a b c d f l [(f, min l ((-(b - d)).fdiv (a - c) - 1)), (max f ((-(b - d)).fdiv (a - c)), min l ((-(b - d)).fdiv (a - c))), (max f ((-(b - d)).fdiv (a - c) + 1), l)] := by
  have g : ∀ x, a * x + b - (c * x + d) = (a - c) * x + (b - d) := fun x => by rw [Int.sub_mul]; omega
  have lt := fun x h' => cross_lt (u := a - c) (v := b - d) (x := x) h h'
  have gt := fun x h' => cross_gt (u := a - c) (v := b - d) (x := x) h h'
  have kb := fdiv_bb (u := a - c) (v := -(b - d)) h
  generalize (-(b - d)).fdiv (a - c) = k at *
  obtain ⟨b1, b2⟩ := sb
  obtain ⟨d1, d2⟩ := sd
  obtain ⟨f1, f2⟩ := sf
  obtain ⟨l1, l2⟩ := sl
  have p10 : (10 : Int) ^ 60 * 4 < 10 ^ 62 := by decide +kernel
  refine ⟨fun p => ?_, fun r hr x x1 x2 => ?_, fun r hr => ?_⟩
  · simp only [List.map_cons, List.map_nil, List.sum_cons, List.sum_nil]
    by_cases c1 : l < k
    · rw [show min l (k - 1) = l by omega, tot_none (p := p) (show min l k < max f k by omega), tot_none (p := p) (show l < max f (k + 1) by omega)]; omega
    · by_cases c2 : k < f
      · rw [tot_none (p := p) (show min l (k - 1) < f by omega), tot_none (p := p) (show min l k < max f k by omega), show max f (k + 1) = f by omega]; omega
      · rw [tot_split p (first := f) (mid := k - 1) (last := l) (by omega) (by omega), tot_split p (first := k - 1 + 1) (mid := k) (last := l) (by omega) (by omega), show min l (k - 1) = k - 1 by omega, show max f k = k by omega, show min l k = k by omega, show max f (k + 1) = k + 1 by omega, show k - 1 + 1 = k by omega]; omega
  · have key : ∀ y w : Int, (y < k ∧ w < k) ∨ (k < y ∧ k < w) → ((a * y + b < c * y + d ↔ a * w + b < c * w + d) ∧ (a * y + b = c * y + d ↔ a * w + b = c * w + d)) := fun y w hyw => by
      have g1 := g y
      have g2 := g w
      rcases hyw with ⟨h1, h2⟩ | ⟨h1, h2⟩
      · obtain ⟨u1, u2⟩ := lt y h1
        obtain ⟨w1, w2⟩ := lt w h2
        rcases Int.lt_or_gt_of_ne h with z | z
        · have := u2 z; have := w2 z; omega
        · have := u1 z; have := w1 z; omega
      · obtain ⟨u1, u2⟩ := gt y h1
        obtain ⟨w1, w2⟩ := gt w h2
        rcases Int.lt_or_gt_of_ne h with z | z
        · have := u2 z; have := w2 z; omega
        · have := u1 z; have := w1 z; omega
    rcases List.mem_cons.mp hr with rfl | hr
    · exact key _ _ (.inl ⟨by omega, by omega⟩)
    · rcases List.mem_cons.mp hr with rfl | hr
      · have e : x = max f k := by omega
        rw [e]
        exact ⟨Iff.rfl, Iff.rfl⟩
      · rw [List.mem_singleton.mp hr] at x1 x2 ⊢
        exact key _ _ (.inr ⟨by omega, by omega⟩)
  · have bk : BB k ∧ BB (k - 1) ∧ BB (k + 1) := ⟨bb_ten (by omega) (by omega), bb_ten (by omega) (by omega), bb_ten (by omega) (by omega)⟩
    have bf : BB f := bb_ten (by omega) (by omega)
    have bl : BB l := bb_ten (by omega) (by omega)
    have mn : ∀ u v : Int, BB u → BB v → BB (min u v) ∧ BB (max u v) := fun u v h1 h2 => by
      unfold BB at *
      constructor <;> omega
    rcases List.mem_cons.mp hr with rfl | hr
    · exact ⟨bf, (mn _ _ bl bk.2.1).1⟩
    · rcases List.mem_cons.mp hr with rfl | hr
      · exact ⟨(mn _ _ bf bk.1).2, (mn _ _ bl bk.1).1⟩
      · rw [List.mem_singleton.mp hr]
        exact ⟨(mn _ _ bf bk.2.2).2, bl⟩

theorem rel_in {z : Str} (h : Rel z) : inV (.str z) [.str "<", .str "<=", .str "==", .str "!=", .str ">=", .str ">"] = true := by
  rcases h with rfl | rfl | rfl | rfl | rfl | rfl <;> decide +kernel
theorem emod_is {n m q r : Int} (h : n = r + m * q) (r0 : 0 ≤ r) (r1 : r < m) : n % m = r := by
  rw [h, Int.add_mul_emod_self_left, Int.emod_eq_of_lt r0 r1]
theorem inR_not {S lo hi v : Int} (s0 : 0 < S) (h1 : -1 ≤ hi - lo) (h2 : hi - lo ≤ S - 1) : inR S (hi + 1) (lo + S - 1) v = !inR S lo hi v := by
  unfold inR
  have u0 := Int.emod_nonneg (v - lo) (Int.ne_of_gt s0)
  have u1 := Int.emod_lt_of_pos (v - lo) s0
  have u2 := Int.emod_add_mul_ediv (v - lo) S
  generalize (v - lo) % S = u at *
  generalize (v - lo) / S = q at *
  by_cases c : u ≤ hi - lo
  · rw [show decide (lo ≤ hi ∧ u ≤ hi - lo) = true from decide_eq_true (by omega), Bool.not_true]
    by_cases f : hi - lo = S - 1
    · exact decide_eq_false (by omega)
    rw [emod_is (n := v - (hi + 1)) (q := q - 1) (r := u - (hi - lo) - 1 + S) (by rw [Int.mul_sub]; omega) (by omega) (by omega)]
    exact decide_eq_false (by omega)
  · rw [show decide (lo ≤ hi ∧ u ≤ hi - lo) = false from decide_eq_false (by omega), Bool.not_false]
    rw [emod_is (n := v - (hi + 1)) (q := q) (r := u - (hi - lo) - 1) (by omega) (by omega) (by omega)]
    exact decide_eq_true (by omega)
/-- for each x the relation stands just where a line lies in a stretch -/
def HitsLt (wd : Nat) (s : Bool) (a b c d e f lo hi : Int) : Prop := (-1 ≤ hi - lo ∧ hi - lo ≤ 2 ^ wd - 1) ∧ ∀ x, decide (wr wd s (a * x + b) < wr wd s (c * x + d)) = inR (2 ^ wd) lo hi (e * x + f)
theorem wr_slope {wd : Nat} {s : Bool} {a : Int} (h : a % 2 ^ wd = 0) (b x : Int) : wr wd s (a * x + b) = wr wd s b := by
  unfold wr
  congr 1
  have u := Int.emod_add_mul_ediv a (2 ^ wd)
  have v : a * x = 2 ^ wd * (a / 2 ^ wd * x) := by
    rw [← Int.mul_assoc]; congr 1; omega
  rw [v, show 2 ^ wd * (a / 2 ^ wd * x) + b - loK wd s = (b - loK wd s) + 2 ^ wd * (a / 2 ^ wd * x) by omega, Int.add_mul_emod_self_left]
theorem lt_one {wd : Nat} {s : Bool} {a b c d : Int} (h : a % 2 ^ wd = 0) : HitsLt wd s a b c d c d (wr wd s b + 1) (hiK wd s) := by
  have hh : hiK wd s = loK wd s + 2 ^ wd - 1 := rfl
  have w0 := wr_lo wd s b
  have w1 := wr_hi wd s b
  refine ⟨by omega, fun x => ?_⟩
  rw [wr_slope h]
  have e := rsP_wr (wd := wd) (s := s) (a := c) (b := d) (lo := wr wd s b + 1) (hi := hiK wd s) (x := x) (by omega) (Int.le_refl _)
  have e' : inR (2 ^ wd) (wr wd s b + 1) (hiK wd s) (c * x + d) = _ := e
  rw [e']
  have := wr_hi wd s (c * x + d)
  exact decide_eq_decide.mpr (by omega)
theorem lt_other {wd : Nat} {s : Bool} {a b c d : Int} (h : c % 2 ^ wd = 0) : HitsLt wd s a b c d a b (loK wd s) (wr wd s d - 1) := by
  have hh : hiK wd s = loK wd s + 2 ^ wd - 1 := rfl
  have w0 := wr_lo wd s d
  have w1 := wr_hi wd s d
  refine ⟨by omega, fun x => ?_⟩
  rw [wr_slope h]
  have e := rsP_wr (wd := wd) (s := s) (a := a) (b := b) (lo := loK wd s) (hi := wr wd s d - 1) (x := x) (by omega) (by omega)
  have e' : inR (2 ^ wd) (loK wd s) (wr wd s d - 1) (a * x + b) = _ := e
  rw [e']
  have := wr_lo wd s (a * x + b)
  exact decide_eq_decide.mpr (by omega)
theorem lt_gap {wd : Nat} {s : Bool} {a b c d : Int} (h : (a - c) % 2 ^ wd = 0) : HitsLt wd s a b c d a b (loK wd s) (loK wd s + (b - d) % 2 ^ wd - 1) := by
  have hp := p2 wd
  have hh : hiK wd s = loK wd s + 2 ^ wd - 1 := rfl
  have g0 := Int.emod_nonneg (b - d) (Int.ne_of_gt hp)
  have g1 := Int.emod_lt_of_pos (b - d) hp
  have g2 := Int.emod_add_mul_ediv (b - d) (2 ^ wd)
  refine ⟨by omega, fun x => ?_⟩
  have e := rsP_wr (wd := wd) (s := s) (a := a) (b := b) (lo := loK wd s) (hi := loK wd s + (b - d) % 2 ^ wd - 1) (x := x) (by omega) (by omega)
  have e' : inR (2 ^ wd) (loK wd s) (loK wd s + (b - d) % 2 ^ wd - 1) (a * x + b) = _ := e
  rw [e']
  have w0 := wr_lo wd s (c * x + d)
  have w1 := wr_hi wd s (c * x + d)
  have w2 := wr_q wd s (c * x + d)
  have v0 := wr_lo wd s (a * x + b)
  have v1 := wr_hi wd s (a * x + b)
  have u := Int.emod_add_mul_ediv (a - c) (2 ^ wd)
  have ac : a * x + b = c * x + d + (b - d) % 2 ^ wd + 2 ^ wd * ((b - d) / 2 ^ wd + (a - c) / 2 ^ wd * x) := by
    have z : (a - c) * x = 2 ^ wd * ((a - c) / 2 ^ wd * x) := by
      rw [← Int.mul_assoc]; congr 1; omega
    rw [Int.sub_mul] at z
    rw [Int.mul_add]; omega
  generalize (b - d) % 2 ^ wd = g at *
  generalize (b - d) / 2 ^ wd + (a - c) / 2 ^ wd * x = q at *
  generalize (c * x + d - loK wd s) / 2 ^ wd = q2 at *
  by_cases z : wr wd s (c * x + d) + g ≤ hiK wd s
  · have e2 := wr_in (w := wd) (s := s) (n := a * x + b) (k := q + q2) (by rw [Int.mul_add]; omega) (by rw [Int.mul_add]; omega)
    rw [Int.mul_add] at e2
    exact decide_eq_decide.mpr (by omega)
  · have e2 := wr_in (w := wd) (s := s) (n := a * x + b) (k := q + q2 + 1) (by rw [Int.mul_add, Int.mul_add]; omega) (by rw [Int.mul_add, Int.mul_add]; omega)
    rw [Int.mul_add, Int.mul_add] at e2
    exact decide_eq_decide.mpr (by omega)
theorem eq_gap {wd : Nat} {s : Bool} {a b c d : Int} (x : Int) : decide (wr wd s (a * x + b) = wr wd s (c * x + d)) = inR (2 ^ wd) 0 0 ((a - c) * x + (b - d)) := by
  have hp := p2 wd
  have hh : hiK wd s = loK wd s + 2 ^ wd - 1 := rfl
  have w0 := wr_lo wd s (c * x + d)
  have w1 := wr_hi wd s (c * x + d)
  have w2 := wr_q wd s (c * x + d)
  have v0 := wr_lo wd s (a * x + b)
  have v1 := wr_hi wd s (a * x + b)
  have v2 := wr_q wd s (a * x + b)
  have u0 := Int.emod_nonneg ((a - c) * x + (b - d) - 0) (Int.ne_of_gt hp)
  have u2 := Int.emod_add_mul_ediv ((a - c) * x + (b - d) - 0) (2 ^ wd)
  have z : (a - c) * x = a * x - c * x := Int.sub_mul _ _ _
  unfold inR
  refine decide_eq_decide.mpr ⟨fun e => ⟨Int.le_refl _, ?_⟩, fun e => ?_⟩
  · generalize (a * x + b - loK wd s) / 2 ^ wd = q1 at *
    generalize (c * x + d - loK wd s) / 2 ^ wd = q2 at *
    rw [emod_is (n := (a - c) * x + (b - d) - 0) (q := q1 - q2) (r := 0) (by rw [Int.mul_sub]; omega) (Int.le_refl _) hp]
    omega
  · generalize ((a - c) * x + (b - d) - 0) / 2 ^ wd = q at *
    have e2 := wr_in (w := wd) (s := s) (n := a * x + b) (k := q + (c * x + d - loK wd s) / 2 ^ wd) (by rw [Int.mul_add]; omega) (by rw [Int.mul_add]; omega)
    rw [Int.mul_add] at e2
    omega

def opp (z : Str) : Str := if z = "<" then ">=" else if z = "<=" then ">" else if z = "==" then "!=" else if z = "!=" then "==" else if z = ">=" then "<" else "<="

theorem rel_opp {z : Str} (h : Rel z) : Rel (opp z) := by
  rcases h with rfl | rfl | rfl | rfl | rfl | rfl
  · rw [show opp "<" = ">=" from by decide +kernel]; exact .inr (.inr (.inr (.inr (.inl rfl))))
  · rw [show opp "<=" = ">" from by decide +kernel]; exact .inr (.inr (.inr (.inr (.inr rfl))))
  · rw [show opp "==" = "!=" from by decide +kernel]; exact .inr (.inr (.inr (.inl rfl)))
  · rw [show opp "!=" = "==" from by decide +kernel]; exact .inr (.inr (.inl rfl))
  · rw [show opp ">=" = "<" from by decide +kernel]; exact .inl rfl
  · rw [show opp ">" = "<=" from by decide +kernel]; exact .inr (.inl rfl)
theorem rel_opp_not {z : Str} (h : Rel z) (y w : Int) : relB (opp z) y w = !relB z y w := by
  rcases h with rfl | rfl | rfl | rfl | rfl | rfl
  · rw [show opp "<" = ">=" from by decide +kernel]; exact rn5 _ _
  · rw [show opp "<=" = ">" from by decide +kernel, rn6, rn25, Bool.not_not]
  · rw [show opp "==" = "!=" from by decide +kernel]; exact rn4 _ _
  · rw [show opp "!=" = "==" from by decide +kernel, rn4, Bool.not_not]
  · rw [show opp ">=" = "<" from by decide +kernel, rn5, Bool.not_not]
  · rw [show opp ">" = "<=" from by decide +kernel, rn6, rn25]
def HitsOf (wd : Nat) (s : Bool) (z : Str) (a b c d e f lo hi : Int) : Prop := (-1 ≤ hi - lo ∧ hi - lo ≤ 2 ^ wd - 1) ∧ ∀ x, cmP wd s z a b c d x = inR (2 ^ wd) lo hi (e * x + f)
theorem hits_not {wd : Nat} {s : Bool} {z : Str} {a b c d e f lo hi : Int} (hz : Rel z) (h : HitsOf wd s (opp z) a b c d e f lo hi) : HitsOf wd s z a b c d e f (hi + 1) (lo + 2 ^ wd - 1) := by
  obtain ⟨⟨h1, h2⟩, hx⟩ := h
  refine ⟨by omega, fun x => ?_⟩
  have e1 := hx x
  unfold cmP at e1 ⊢
  rw [rel_opp_not hz] at e1
  rw [inR_not (p2 wd) h1 h2, ← e1, Bool.not_not]
/-- parts in order -/
structure PartsO (f l : Int) (ps : List (Int × Int)) : Prop where
  cover : ∀ y, f ≤ y → y ≤ l → ∃ r ∈ ps, r.1 ≤ y ∧ y ≤ r.2
  order : ∀ (i j : Nat) (r r' : Int × Int), i < j → ps[i]? = some r → ps[j]? = some r' → r.2 < r'.1
  ins : ∀ r ∈ ps, f ≤ r.1 ∧ r.2 ≤ l
theorem partso1 (f l : Int) : PartsO f l [(f, l)] := by
  refine ⟨fun y h1 h2 => ⟨_, List.mem_singleton.mpr rfl, h1, h2⟩, fun i j r r' h1 h2 h3 => ?_, fun r hr => ?_⟩
  · have := (List.getElem?_eq_some_iff.mp h3).1
    simp at this
    omega
  · rw [List.mem_singleton.mp hr]; exact ⟨Int.le_refl _, Int.le_refl _⟩
theorem partso3 (f l k : Int) : PartsO f l [(f, min l (k - 1)), (max f k, min l k), (max f (k + 1), l)] := by
  refine ⟨fun y h1 h2 => ?_, fun i j r r' h1 h2 h3 => ?_, fun r hr => ?_⟩
  · rcases Int.lt_trichotomy y k with c | c | c
    · exact ⟨_, .head _, h1, by show y ≤ min l (k - 1); omega⟩
    · exact ⟨_, .tail _ (.head _), by show max f k ≤ y; omega, by show y ≤ min l k; omega⟩
    · exact ⟨_, .tail _ (.tail _ (.head _)), by show max f (k + 1) ≤ y; omega, h2⟩
  · have j3 := (List.getElem?_eq_some_iff.mp h3).1
    have j3 : j < 3 := j3
    rcases i with _ | _ | i
    · cases h2
      rcases j with _ | _ | _ | j
      · omega
      · cases h3; show min l (k - 1) < max f k; omega
      · cases h3; show min l (k - 1) < max f (k + 1); omega
      · omega
    · cases h2
      rcases j with _ | _ | _ | j
      · omega
      · omega
      · cases h3; show min l k < max f (k + 1); omega
      · omega
    · omega
  · rcases List.mem_cons.mp hr with rfl | hr
    · exact ⟨Int.le_refl _, by show min l (k - 1) ≤ l; omega⟩
    · rcases List.mem_cons.mp hr with rfl | hr
      · exact ⟨by show f ≤ max f k; omega, by show min l k ≤ l; omega⟩
      · rw [List.mem_singleton.mp hr]
        exact ⟨by show f ≤ max f (k + 1); omega, Int.le_refl _⟩
/-- the parts of a range with the relation that is a surprise there -/
structure PartsW (z : Str) (a b c d f l : Int) (ps : List (Int × Int × Str)) : Prop where
  sum : ∀ p : Int → Bool, (ps.map fun r => tot p r.1 r.2.1).sum = tot p f l
  po : PartsO f l (ps.map fun r => (r.1, r.2.1))
  bb : ∀ r ∈ ps, BB r.1 ∧ BB r.2.1
  rel : ∀ r ∈ ps, Rel r.2.2
  is : ∀ r ∈ ps, ∀ (wd : Nat) (s : Bool) (x : Int), r.1 ≤ x → x ≤ r.2.1 → cmP wd s r.2.2 a b c d x = suP wd s z a b c d x
theorem PartsW.of {z : Str} (hz : Rel z) {a b c d f l : Int} {ps : List (Int × Int)} (h : Parts a b c d f l ps) (o : PartsO f l ps) : PartsW z a b c d f l (ps.map fun r => (r.1, r.2, if relB z (a * r.1 + b) (c * r.1 + d) = true then opp z else z)) := by
  refine ⟨fun p => ?_, ?_, fun r hr => ?_, fun r hr => ?_, fun r hr wd s x x1 x2 => ?_⟩
  · rw [List.map_map]; exact h.sum p
  · rw [List.map_map, show ((fun r : Int × Int × Str => (r.1, r.2.1)) ∘ fun r : Int × Int => (r.1, r.2, if relB z (a * r.1 + b) (c * r.1 + d) = true then opp z else z)) = id from rfl, List.map_id]; exact o
  · obtain ⟨q, hq, rfl⟩ := List.mem_map.mp hr
    exact h.bb q hq
  · obtain ⟨q, hq, rfl⟩ := List.mem_map.mp hr
    dsimp only
    split
    · exact rel_opp hz
    · exact hz
  · obtain ⟨q, hq, rfl⟩ := List.mem_map.mp hr
    dsimp only at x1 x2 ⊢
    have e := rel_sg hz (h.one q hq x x1 x2).1 (h.one q hq x x1 x2).2
    unfold suP
    rw [e]
    cases relB z (a * q.1 + b) (c * q.1 + d) with
    | true =>
      rw [if_pos rfl]
      unfold cmP
      rw [rel_opp_not hz]
      cases relB z (wr wd s (a * x + b)) (wr wd s (c * x + d)) <;> rfl
    | false =>
      rw [if_neg Bool.false_ne_true]
      cases cmP wd s z a b c d x <;> rfl
theorem PartsW.total {z : Str} {a b c d f l : Int} {ps : List (Int × Int × Str)} (h : PartsW z a b c d f l ps) (wd : Nat) (s : Bool) : (ps.map fun r => tot (cmP wd s r.2.2 a b c d) r.1 r.2.1).sum = tot (suP wd s z a b c d) f l := by
  rw [← h.sum]
  congr 1
  exact List.map_congr_left fun r hr => tot_congr fun x x1 x2 => h.is r hr wd s x x1 x2
theorem PartsW.first {z : Str} {a b c d f l : Int} {ps : List (Int × Int × Str)} (h : PartsW z a b c d f l ps) (wd : Nat) (s : Bool) {i : Nat} {r : Int × Int × Str} (hi : ps[i]? = some r) (h0 : ∀ j r', j < i → ps[j]? = some r' → tot (cmP wd s r'.2.2 a b c d) r'.1 r'.2.1 = 0) {x : Int} (hx : FirstOf (cmP wd s r.2.2 a b c d) r.1 r.2.1 (.int x)) : FirstOf (suP wd s z a b c d) f l (.int x) := by
  rcases hx with ⟨e, _⟩ | ⟨y, e, x1, x2, px, x3⟩
  · cases e
  cases e
  have rm := List.mem_of_getElem? hi
  have hin := h.po.ins _ (List.mem_map.mpr ⟨r, rm, rfl⟩)
  have hin : f ≤ r.1 ∧ r.2.1 ≤ l := hin
  refine .inr ⟨x, rfl, by omega, by omega, by rw [← h.is r rm wd s x x1 x2]; exact px, tot_zero_iff.mpr fun y y1 y2 => ?_⟩
  obtain ⟨q, hq, q1, q2⟩ := h.po.cover y y1 (by omega)
  obtain ⟨r', hr', rfl⟩ := List.mem_map.mp hq
  have q1 : r'.1 ≤ y := q1
  have q2 : y ≤ r'.2.1 := q2
  rw [← h.is r' hr' wd s y q1 q2]
  obtain ⟨j, hj⟩ := List.mem_iff_getElem?.mp hr'
  rcases Nat.lt_trichotomy j i with c | c | c
  · exact tot_zero_iff.mp (h0 j r' c hj) y q1 q2
  · rw [c, hi] at hj
    cases hj
    exact tot_zero_iff.mp x3 y q1 (by omega)
  · have := h.po.order i j (r.1, r.2.1) (r'.1, r'.2.1) c (by rw [List.getElem?_map, hi]; rfl) (by rw [List.getElem?_map, hj]; rfl)
    have this : r.2.1 < r'.1 := this
    omega
theorem PartsW.none {z : Str} {a b c d f l : Int} {ps : List (Int × Int × Str)} (h : PartsW z a b c d f l ps) (wd : Nat) (s : Bool) (h0 : ∀ j r', j < ps.length → ps[j]? = some r' → tot (cmP wd s r'.2.2 a b c d) r'.1 r'.2.1 = 0) : FirstOf (suP wd s z a b c d) f l .non := by
  refine .inl ⟨rfl, tot_zero_iff.mpr fun y y1 y2 => ?_⟩
  obtain ⟨q, hq, q1, q2⟩ := h.po.cover y y1 y2
  obtain ⟨r', hr', rfl⟩ := List.mem_map.mp hq
  rw [← h.is r' hr' wd s y q1 q2]
  obtain ⟨j, hj⟩ := List.mem_iff_getElem?.mp hr'
  exact tot_zero_iff.mp (h0 j r' (List.getElem?_eq_some_iff.mp hj).1 hj) y q1 q2
def spT2 (TS : List (Addr × Str)) (H : Hp) (p : Int → Bool) (first last : Int) : Sp := fun vs H' Q _ => ∃ u v : Int, vs = [.int u, .int v] ∧ first ≤ u ∧ v ≤ last ∧ u ≤ v ∧ Sm TS H H' ∧ ∀ H'', Sm TS H' H'' → Q (.int (tot p u v)) H''
theorem guess_lt {W M J : Int} (hM : 1 ≤ M) (hW : M ≤ W) (h0 : 0 ≤ J) (h1 : J < M) : 0 ≤ W * (2 * J + 1) / (2 * M) ∧ W * (2 * J + 1) / (2 * M) < W := by
  refine ⟨Int.ediv_nonneg (Int.mul_nonneg (by omega) (by omega)) (by omega), ?_⟩
  refine (Int.ediv_lt_iff_lt_mul (by omega)).mpr ?_
  exact Int.mul_lt_mul_of_pos_left (by omega) (by omega)

theorem w_iRng3j {σ : L2.St} {H : Hp} {ta : TA} {R : It → Hp → Prop} (q : ta σ H fun vs H1 => ∃ (i j c : Int) (n : Nat), vs = [.int i, .int j, .int c] ∧ RgC i j c n ∧ R (Itc i c n) H1) : iRng3 ta σ H R := q
/-- the families of a row of pairs -/
def SetOf (H : Hp) (rs : List V) : Fam := fun f e => ∃ q : Addr, V.ref q ∈ rs ∧ H q = some (.tup [.int f, .int (e : Int)])
/-- a row holds just these families -/
def FamOf (H : Hp) (rs : List V) (S : Fam) : Prop :=
  (∀ r ∈ rs, ∃ (q : Addr) (f : Int) (e : Nat), r = .ref q ∧ H q = some (.tup [.int f, .int (e : Int)]) ∧ S f e) ∧ ∀ f e, S f e → ∃ q : Addr, V.ref q ∈ rs ∧ H q = some (.tup [.int f, .int (e : Int)])
theorem bits_pow (k : Nat) : PySem.Builtin.Int.intBits (2 ^ k) = k + 1 := by
  unfold PySem.Builtin.Int.intBits
  have e : ((2 : Int) ^ k).natAbs = 2 ^ k := by rw [Int.natAbs_pow]; rfl
  have n : ¬ (((2 : Int) ^ k == 0) = true) := by
    have := p2 k
    simp only [beq_iff_eq]; omega
  rw [if_neg n, e, Nat.log2_two_pow]
theorem two_ex : ∀ (n : Nat) (x : Int), x.natAbs ≤ n → x ≠ 0 → ∃ (k : Nat) (a : Int), x = 2 ^ k * (2 * a + 1)
  | 0, x, h, hx => absurd (by omega) hx
  | n + 1, x, h, hx => by
    by_cases e : x % 2 = 0
    · obtain ⟨k, a, q⟩ := two_ex n (x / 2) (by omega) (by omega)
      refine ⟨k + 1, a, ?_⟩
      rw [g2S, Int.mul_assoc, ← q]; omega
    · exact ⟨0, x / 2, by rw [Int.pow_zero]; omega⟩
theorem wr_cong {w : Nat} {s : Bool} {a b : Int} (h : a % 2 ^ w = b % 2 ^ w) : wr w s a = wr w s b := by
  unfold wr
  have e : (a - loK w s) % 2 ^ w = (b - loK w s) % 2 ^ w := by rw [Int.sub_emod, h, ← Int.sub_emod]
  rw [e]

/-- an object that is a node -/
def NdAt (H : Hp) (q : Addr) (f : Int) (k : Nat) (cs : List Int) (l : Nat) : Prop := ∃ D : Addr, H q = some (.tup [.int f, .int (k : Int), .ref D, .int (l : Int)]) ∧ H D = some (.lst (cs.map V.int))
theorem NdAt.same {H H' : Hp} {q : Addr} {f : Int} {k l : Nat} {cs : List Int} (h : NdAt H q f k cs l) (s : Same H H') : NdAt H' q f k cs l := by
  obtain ⟨D, a, b⟩ := h
  exact ⟨D, s _ _ a, s _ _ b⟩
/-- a list of nodes -/
inductive NdL (H : Hp) : List V → List Nd → Prop
  | nil : NdL H [] []
  | cons {q : Addr} {n : Nd} {rs : List V} {ns : List Nd} : NdAt H q n.f n.k n.cs n.l → NdL H rs ns → NdL H (.ref q :: rs) (n :: ns)
theorem NdL.same {H H' : Hp} {rs : List V} {ns : List Nd} (h : NdL H rs ns) (s : Same H H') : NdL H' rs ns := by
  induction h with
  | nil => exact .nil
  | cons h _ ih => exact .cons (h.same s) ih
theorem NdL.len {H : Hp} {rs : List V} {ns : List Nd} (h : NdL H rs ns) : rs.length = ns.length := by
  induction h with
  | nil => rfl
  | cons _ _ ih => rw [List.length_cons, List.length_cons, ih]
theorem NdL.app {H : Hp} {rs rs' : List V} {ns ns' : List Nd} (h : NdL H rs ns) (g : NdL H rs' ns') : NdL H (rs ++ rs') (ns ++ ns') := by
  induction h with
  | nil => exact g
  | cons h _ ih => exact .cons h ih
theorem NdL.get {H : Hp} {rs : List V} {ns : List Nd} (h : NdL H rs ns) : ∀ {i : Nat} {x : V}, rs[i]? = some x → ∃ (q : Addr) (n : Nd), x = .ref q ∧ NdAt H q n.f n.k n.cs n.l ∧ ns[i]? = some n := by
  induction h with
  | nil => intro i x h; cases h
  | @cons q n _ _ h _ ih =>
    intro i x hx
    cases i with
    | zero => exact ⟨q, n, (Option.some.inj hx).symm, h, rfl⟩
    | succ i => exact ih hx
theorem NdL.noInt {H : Hp} {rs : List V} {ns : List Nd} {n : Nd} (h : NdL H rs ns) (hn : n ∈ ns) (cs : List Int) : rs ≠ cs.map V.int := by
  cases h with
  | nil => cases hn
  | cons _ _ =>
    cases cs with
    | nil => intro z; cases z
    | cons c cs => intro z; cases (List.cons.inj z).1
/-- what is kept but for a list whose values are refs to other objects -/
theorem NdL.keepL {H H' : Hp} {rs : List V} {ns : List Nd} {R : Addr} {out : List V} (h : NdL H rs ns) (hR : H R = some (.lst out)) (old : ∀ b o, H b = some o → b ≠ R → H' b = some o) (no : ∀ n ∈ ns, out ≠ n.cs.map V.int) : NdL H' rs ns := by
  induction h with
  | nil => exact .nil
  | @cons q n _ _ h _ ih =>
    obtain ⟨D, a, b⟩ := h
    refine .cons ⟨D, old _ _ a (fun z => by rw [z, hR] at a; cases a), old _ _ b (fun z => ?_)⟩ (ih fun m hm => no m (List.mem_cons_of_mem _ hm))
    rw [z, hR] at b
    exact no n List.mem_cons_self (HO.lst.inj (Option.some.inj b))
/-- the twos of the nonzero -/
def TwosOf (cs js : List Int) : Prop := (∀ c ∈ cs, c ≠ 0 → ∃ (j : Nat) (a : Int), (j : Int) ∈ js ∧ c = 2 ^ j * (2 * a + 1)) ∧ ∀ j ∈ js, ∃ (i : Nat) (a c : Int), j = (i : Int) ∧ c ∈ cs ∧ c = 2 ^ i * (2 * a + 1)
theorem twos_min {cs js : List Int} {m : Int} (t : TwosOf cs js) (hm : m ∈ js) (hl : ∀ y ∈ js, m ≤ y) : ∃ s : Nat, m = (s : Int) ∧ (∀ c ∈ cs, (2 : Int) ^ s ∣ c) ∧ ∃ c ∈ cs, ¬ (2 : Int) ^ (s + 1) ∣ c := by
  obtain ⟨i, a, c, rfl, hc, e⟩ := t.2 m hm
  refine ⟨i, rfl, fun d hd => ?_, c, hc, fun z => ?_⟩
  · by_cases d0 : d = 0
    · rw [d0]; exact Int.dvd_zero _
    · obtain ⟨j, b, hj, e2⟩ := t.1 d hd d0
      have := hl _ hj
      rw [e2]
      exact Int.dvd_trans (gpp (by omega)) (Int.dvd_mul_right _ _)
  · obtain ⟨q, hq⟩ := z
    rw [e, Int.pow_succ, Int.mul_assoc] at hq
    have := Int.eq_of_mul_eq_mul_left (Int.ne_of_gt (gpos i)) hq
    omega

theorem NdL.keepO {H H' : Hp} {rs : List V} {ns : List Nd} {R : Addr} {out : List V} (h : NdL H rs ns) (hR : H R = some (.lst out)) (ho : ∀ i : Int, out[0]? ≠ some (.int i)) (hc : ∀ n ∈ ns, 1 ≤ n.cs.length) (old : ∀ b o, b ≠ R → H b = some o → H' b = some o) : NdL H' rs ns := by
  induction h with
  | nil => exact .nil
  | @cons q n _ _ h _ ih =>
    obtain ⟨D, a, b⟩ := h
    refine .cons ⟨D, old _ _ (fun z => by rw [z, hR] at a; cases a) a, old _ _ (fun z => ?_) b⟩ (ih fun m hm => hc m (List.mem_cons_of_mem _ hm))
    rw [z, hR] at b
    have e := HO.lst.inj (Option.some.inj b)
    have l := hc n List.mem_cons_self
    cases ec : n.cs with
    | nil => rw [ec] at l; simp at l
    | cons c cs => exact ho c (by rw [e, ec]; rfl)
theorem NdL.noHead {H : Hp} {rs : List V} {ns : List Nd} (h : NdL H rs ns) (i : Int) : rs[0]? ≠ some (.int i) := by
  cases h with
  | nil => intro z; cases z
  | cons _ _ => intro z; cases z
theorem PRow.noHead {H : Hp} {rs : List V} {fl : FL} (h : PRow H rs fl) (i : Int) : rs[0]? ≠ some (.int i) := by
  cases h with
  | nil => intro z; cases z
  | cons _ _ => intro z; cases z
theorem PRow.keepO {H H' : Hp} {rs : List V} {fl : FL} {R : Addr} {out : List V} (h : PRow H rs fl) (hR : H R = some (.lst out)) (old : ∀ b o, b ≠ R → H b = some o → H' b = some o) : PRow H' rs fl := h.keep fun q f e hq => old _ _ (fun z => by rw [z, hR] at hq; cases hq) hq
theorem RInv.cl {bits K : Nat} {P : List Int} {fl : FL} {bl ns : List Nd} (r : RInv bits P K fl bl ns) (h : 1 ≤ P.length) : (∀ n ∈ bl, 1 ≤ n.cs.length) ∧ ∀ n ∈ ns, 1 ≤ n.cs.length := ⟨fun n hn => by rw [(r.okb n hn).1.len]; exact h, fun n hn => by rw [(r.okn n hn).1.len]; exact h⟩

/-- a root -/
def rtP (w : Nat) (cs : List Int) (x : Int) : Bool := decide ((2 : Int) ^ w ∣ pvl cs x)
theorem FamRow.cnt {H : Hp} {q : Addr} {w : Nat} {cs : List Int} (h : FamRow H q w (fun x => (2 : Int) ^ w ∣ pvl cs x)) : ∃ out fl, H q = some (.lst out) ∧ PRow H out fl ∧ NRow w fl ∧ fl.length ≤ 2000 ∧ ∀ x, (cntF x fl : Int) = if rtP w cs x = true then 1 else 0 := by
  obtain ⟨out, fl, a, b, c, d, e⟩ := h
  exact ⟨out, fl, a, b, c, e, cnt_of c fun x => (d x).trans (by unfold rtP; exact (decide_eq_true_iff).symm)⟩
theorem NRow.few {w : Nat} {fl : FL} (n : NRow w fl) : ∀ p ∈ fl, p.2 ≤ w := fun p hp => (n.nrm.wf p.1 p.2 hp).2.2
def spT3 (TS : List (Addr × Str)) (H : Hp) (p : Int → Bool) (first last : Int) : Sp := fun vs H' Q _ => ∃ u v : Int, vs = [.int u, .int v] ∧ first ≤ u ∧ v ≤ last ∧ u ≤ v + 1 ∧ Sm TS H H' ∧ ∀ H'', Sm TS H' H'' → Q (.int (tot p u v)) H''
theorem PRow.sm {TS : List (Addr × Str)} {H H' : Hp} {rs : List V} {fl : FL} (h : PRow H rs fl) (s : Sm TS H H') : PRow H' rs fl := h.keep fun _ _ _ e => s.at e

def spP (TS : List (Addr × Str)) (H : Hp) (P : Int → Bool) (first last : Int) : Sp := fun vs H' Q _ => ∃ e : Int, vs = [.int e] ∧ first ≤ e ∧ e < last ∧ Sm TS H H' ∧ ∀ H'', Sm TS H' H'' → Q (.bl (P e)) H''

noncomputable def ntP (wd : Nat) (cs : List Int) (m : Int) : Bool := @decide ((wd : Int) < m ∨ ∀ x, ¬ (2 : Int) ^ m.toNat ∣ pvl cs x) (Classical.propDecidable _)
theorem ntP_t {wd : Nat} {cs : List Int} {m : Int} : ntP wd cs m = true ↔ ((wd : Int) < m ∨ ∀ x, ¬ (2 : Int) ^ m.toNat ∣ pvl cs x) := @decide_eq_true_iff _ (Classical.propDecidable _)

theorem rep0 (e : Nat) : (List.replicate ((e : Nat) : Int).toNat [V.int 0]).flatten = (List.replicate e (0 : Int)).map V.int := by
  rw [Int.toNat_natCast, List.map_replicate]
  induction e with
  | zero => rfl
  | succ e ih => rw [List.replicate_succ, List.flatten_cons, ih]; rfl
theorem mono_list (e : Nat) : (List.replicate e (0 : Int)).map V.int ++ [V.int 1] = (List.replicate e (0 : Int) ++ [1]).map V.int := by rw [List.map_append]; rfl
theorem rt_tot {w : Nat} {s : Bool} {cs : List Int} {gl : FL} (n : NRow w gl) (cv : ∀ x, Cover (famL gl) x ↔ (2 : Int) ^ w ∣ pvl cs x) : tot (rtP w cs) (loK w s) (hiK w s) = (gl.map fun p => (2 : Int) ^ (w - p.2)).sum := by
  have hp := p2 w
  have hk : hiK w s = loK w s + 2 ^ w - 1 := rfl
  rw [← totF_size n.few (loK w s), hk, totF_tot (cnt_of (q := rtP w cs) n fun x => (cv x).trans (by unfold rtP; exact (decide_eq_true_iff).symm)) (by omega)]
theorem sh_t2 (x y : Int) : SeqAt.shaped (.tuple [.int x, .int y]) = true := by
  unfold SeqAt.shaped
  simp [PyData.canLay0, PyData.canLayAll0, PyData.depth, PyData.depthAll]
theorem w_neT2 {K : PySem.W.Frag} {H : Hp} {Q : VK} {a b : Addr} {x y : Int} (ha : H a = some (.tup [.int x, .int y])) (hb : H b = some (.tup [.int x, .int y])) (q : Q (.bl false) H) : rNeD K (.ref a) (.ref b) H Q := by
  refine w_neDg (.tup (SqT.of ha) (.cons (.int _) (.cons (.int _) .nil))) (.tup (SqT.of hb) (.cons (.int _) (.cons (.int _) .nil))) (sh_t2 x y) (sh_t2 x y) ?_
  rw [show PyData.eqv (.tuple [.int x, .int y]) (.tuple [.int x, .int y]) = true from PySem.SeqAt.eqv_refl _ (by simp [PyData.canLay0, PyData.canLayAll0])]; exact q

/-- a kind, its parts and the source -/
structure LS (C : Addr) (TS : List (Addr × Str)) (H : Hp) (kx : Addr) (wd : Nat) (s : Bool) (p : Addr) : Prop where
  k : Kd C H kx wd s
  nk : kx ≠ p
  j : SrcAt H p
  t : LamX.Tabs TS H
section
variable {C : Addr} {TS : List (Addr × Str)} {H H1 : Hp} {kx p : Addr} {wd : Nat} {s : Bool}
theorem SrcAt.sm (h : SrcAt H p) (e : Sm TS H H1) : SrcAt H1 p := by
  obtain ⟨a, b, c, z⟩ := h
  exact ⟨a, b, c, e.at z⟩
theorem Kp.toS (a : Kp p H H1) (h : SrcAt H p) : Kq TS p H H1 := by
  obtain ⟨x, y, c, z⟩ := h
  exact a.toQ ⟨_, z⟩
theorem LS.start (k : Kd C H kx wd s) (j : SrcAt H p) (t : LamX.Tabs TS H) : LS C TS H kx wd s p := ⟨k, by
  obtain ⟨⟨dx, q⟩, _⟩ := id k
  obtain ⟨_, _, _, z⟩ := id j
  exact L2.ne_of q z (by intro y; cases y), j, t⟩
theorem LS.sm (d : LS C TS H kx wd s p) (e : Sm TS H H1) : LS C TS H1 kx wd s p := ⟨d.k.sm e, d.nk, d.j.sm e, e.2 d.t⟩
theorem LS.same (d : LS C TS H kx wd s p) (e : Same H H1) : LS C TS H1 kx wd s p := d.sm (Sm.of e)
theorem LS.draw (d : LS C TS H kx wd s p) (e : Kp p H H1) (j : SrcAt H1 p) : LS C TS H1 kx wd s p := ⟨d.k.kq d.nk (e.toS (TS := TS) d.j), d.nk, j, (e.toS (TS := TS) d.j).2 d.t⟩
end
theorem b129p {w : Nat} (hw : w ≤ 128) : ((2 : Int) ^ w).natAbs < 2 ^ 8999 := by
  rw [Int.natAbs_pow]; exact Nat.pow_lt_pow_right (by decide) (by omega)
theorem b130 {w : Nat} (hw : w ≤ 128) {x : Int} (h0 : 0 ≤ x) (h1 : x < 2 * 2 ^ w) : x.natAbs < 2 ^ 130 := by
  have c2 : (2 : Int) ^ w ≤ 2 ^ 128 := by
    have := Nat.pow_le_pow_right (n := 2) (by decide) hw
    exact_mod_cast this
  have c3 : ((2 ^ 130 : Nat) : Int) = 2 ^ 130 := Int.natCast_pow 2 130
  have c4 : (2 : Int) ^ 128 * 4 = 2 ^ 130 := by decide +kernel
  omega
theorem b60 {w : Nat} (hw : w ≤ 128) {x : Int} (h0 : 0 ≤ x) (h1 : x < 2 * 2 ^ w) : SD x := by
  have c2 : (2 : Int) ^ w ≤ 2 ^ 128 := by
    have := Nat.pow_le_pow_right (n := 2) (by decide) hw
    exact_mod_cast this
  have c4 : (2 : Int) ^ 128 * 4 < 10 ^ 60 := by decide +kernel
  unfold SD
  omega
theorem ab_nat (n : Int) : ab n = (n.natAbs : Int) := by unfold ab; split <;> omega
theorem sd_of {n : Int} (h : n.natAbs < 10 ^ 60) : SD n := by unfold SD; omega
structure Txt (K : PySem.W.Frag) (mg : Str → Option Value) where
  tabs : List (Addr × Str)
  C_Kind : Addr
  cl_Kind : Cls K C_Kind
  g_Kind : mg "Kind" = some (.ref C_Kind)
  na_Kind_bits : NoAttr K C_Kind "bits"
  na_Kind_is_signed : NoAttr K C_Kind "is_signed"
  ia_Kind : PySem.W.findIn K (.ref C_Kind) "__class__" = some (some (.builtin "object.__class__"))
  ib_Kind : PySem.W.specialIn K (.builtin "object.__class__") "__get__" = some (some (.builtin "getset_descriptor.__get__"))
  ic_Kind : PySem.W.takesIn K (.builtin "object.__class__") = some true
  id_Kind : PySem.W.mroIn K C_Kind (.type "object") = some true
  f_joined : Addr
  fd_joined : FuncData
  F_joined : Fun K "joined" "joined" s_joined f_joined fd_joined
  b_joined : Binds K fd_joined ["families", "bits"] []
  g_joined : mg "joined" = some (.ref f_joined)
  k_joined : PySem.W.keepIn K (.ref f_joined) = true
  f_family_size : Addr
  fd_family_size : FuncData
  F_family_size : Fun K "family_size" "family_size" s_family_size f_family_size fd_family_size
  b_family_size : Binds K fd_family_size ["family", "bits"] []
  g_family_size : mg "family_size" = some (.ref f_family_size)
  k_family_size : PySem.W.keepIn K (.ref f_family_size) = true
  f_total_size : Addr
  fd_total_size : FuncData
  F_total_size : Fun K "total_size" "total_size" s_total_size f_total_size fd_total_size
  b_total_size : Binds K fd_total_size ["families", "bits"] []
  g_total_size : mg "total_size" = some (.ref f_total_size)
  k_total_size : PySem.W.keepIn K (.ref f_total_size) = true
  f_is_integer : Addr
  fd_is_integer : FuncData
  F_is_integer : Fun K "is_integer" "is_integer" s_is_integer f_is_integer fd_is_integer
  b_is_integer : Binds K fd_is_integer ["value"] []
  g_is_integer : mg "is_integer" = some (.ref f_is_integer)
  k_is_integer : PySem.W.keepIn K (.ref f_is_integer) = true
  f_is_sixty_digits : Addr
  fd_is_sixty_digits : FuncData
  F_is_sixty_digits : Fun K "is_sixty_digits" "is_sixty_digits" s_is_sixty_digits f_is_sixty_digits fd_is_sixty_digits
  b_is_sixty_digits : Binds K fd_is_sixty_digits ["value"] []
  g_is_sixty_digits : mg "is_sixty_digits" = some (.ref f_is_sixty_digits)
  k_is_sixty_digits : PySem.W.keepIn K (.ref f_is_sixty_digits) = true
  f_factors_of_two : Addr
  fd_factors_of_two : FuncData
  F_factors_of_two : Fun K "factors_of_two" "factors_of_two" s_factors_of_two f_factors_of_two fd_factors_of_two
  b_factors_of_two : Binds K fd_factors_of_two ["n"] []
  g_factors_of_two : mg "factors_of_two" = some (.ref f_factors_of_two)
  k_factors_of_two : PySem.W.keepIn K (.ref f_factors_of_two) = true
  f_twos_in : Addr
  fd_twos_in : FuncData
  F_twos_in : Fun K "twos_in" "twos_in" s_twos_in f_twos_in fd_twos_in
  b_twos_in : Binds K fd_twos_in ["n", "most"] []
  g_twos_in : mg "twos_in" = some (.ref f_twos_in)
  k_twos_in : PySem.W.keepIn K (.ref f_twos_in) = true
  f_Kind___init__ : Addr
  fd_Kind___init__ : FuncData
  F_Kind___init__ : Fun K "__init__" "Kind.__init__" s_Kind___init__ f_Kind___init__ fd_Kind___init__
  b_Kind___init__ : Binds K fd_Kind___init__ ["self", "bits", "is_signed"] []
  f_check_kind : Addr
  fd_check_kind : FuncData
  F_check_kind : Fun K "check_kind" "check_kind" s_check_kind f_check_kind fd_check_kind
  b_check_kind : Binds K fd_check_kind ["kind"] []
  g_check_kind : mg "check_kind" = some (.ref f_check_kind)
  k_check_kind : PySem.W.keepIn K (.ref f_check_kind) = true
  f_least_passing : Addr
  fd_least_passing : FuncData
  F_least_passing : Fun K "least_passing" "least_passing" s_least_passing f_least_passing fd_least_passing
  b_least_passing : Binds K fd_least_passing ["passes", "first", "last"] []
  g_least_passing : mg "least_passing" = some (.ref f_least_passing)
  k_least_passing : PySem.W.keepIn K (.ref f_least_passing) = true
  f_is_polynomial : Addr
  fd_is_polynomial : FuncData
  F_is_polynomial : Fun K "is_polynomial" "is_polynomial" s_is_polynomial f_is_polynomial fd_is_polynomial
  b_is_polynomial : Binds K fd_is_polynomial ["value"] []
  g_is_polynomial : mg "is_polynomial" = some (.ref f_is_polynomial)
  k_is_polynomial : PySem.W.keepIn K (.ref f_is_polynomial) = true
  f_check_polynomial : Addr
  fd_check_polynomial : FuncData
  F_check_polynomial : Fun K "check_polynomial" "check_polynomial" s_check_polynomial f_check_polynomial fd_check_polynomial
  b_check_polynomial : Binds K fd_check_polynomial ["kind", "polynomial"] []
  g_check_polynomial : mg "check_polynomial" = some (.ref f_check_polynomial)
  k_check_polynomial : PySem.W.keepIn K (.ref f_check_polynomial) = true
  f__value : Addr
  fd__value : FuncData
  F__value : Fun K "_value" "_value" s__value f__value fd__value
  b__value : Binds K fd__value ["polynomial", "x", "size"] []
  g__value : mg "_value" = some (.ref f__value)
  k__value : PySem.W.keepIn K (.ref f__value) = true
  f__one_behind : Addr
  fd__one_behind : FuncData
  F__one_behind : Fun K "_one_behind" "_one_behind" s__one_behind f__one_behind fd__one_behind
  b__one_behind : Binds K fd__one_behind ["polynomial"] []
  g__one_behind : mg "_one_behind" = some (.ref f__one_behind)
  k__one_behind : PySem.W.keepIn K (.ref f__one_behind) = true
  f__doubled : Addr
  fd__doubled : FuncData
  F__doubled : Fun K "_doubled" "_doubled" s__doubled f__doubled fd__doubled
  b__doubled : Binds K fd__doubled ["polynomial"] []
  g__doubled : mg "_doubled" = some (.ref f__doubled)
  k__doubled : PySem.W.keepIn K (.ref f__doubled) = true
  f__halves : Addr
  fd__halves : FuncData
  F__halves : Fun K "_halves" "_halves" s__halves f__halves fd__halves
  b__halves : Binds K fd__halves ["node"] []
  g__halves : mg "_halves" = some (.ref f__halves)
  k__halves : PySem.W.keepIn K (.ref f__halves) = true
  f_root_families : Addr
  fd_root_families : FuncData
  F_root_families : Fun K "root_families" "root_families" s_root_families f_root_families fd_root_families
  b_root_families : Binds K fd_root_families ["polynomial", "bits"] []
  g_root_families : mg "root_families" = some (.ref f_root_families)
  k_root_families : PySem.W.keepIn K (.ref f_root_families) = true
  f_roots : Addr
  fd_roots : FuncData
  F_roots : Fun K "roots" "roots" s_roots f_roots fd_roots
  b_roots : Binds K fd_roots ["kind", "polynomial"] []
  g_roots : mg "roots" = some (.ref f_roots)
  k_roots : PySem.W.keepIn K (.ref f_roots) = true
  f_root_total : Addr
  fd_root_total : FuncData
  F_root_total : Fun K "root_total" "root_total" s_root_total f_root_total fd_root_total
  b_root_total : Binds K fd_root_total ["kind", "polynomial"] []
  g_root_total : mg "root_total" = some (.ref f_root_total)
  k_root_total : PySem.W.keepIn K (.ref f_root_total) = true
  f_least_twos : Addr
  fd_least_twos : FuncData
  F_least_twos : Fun K "least_twos" "least_twos" s_least_twos f_least_twos fd_least_twos
  b_least_twos : Binds K fd_least_twos ["kind", "polynomial"] []
  g_least_twos : mg "least_twos" = some (.ref f_least_twos)
  k_least_twos : PySem.W.keepIn K (.ref f_least_twos) = true
  f_most_twos : Addr
  fd_most_twos : FuncData
  c_most_twos : Addr
  P_most_twos : Addr
  F_most_twos : FunT K "most_twos" "most_twos" s_most_twos f_most_twos fd_most_twos c_most_twos
  mT_most_twos : (P_most_twos, ("most_twos" : Str) ++ ".<locals>." ++ "<lambda>") ∈ tabs
  uT_most_twos : ∀ p ∈ tabs, p.1 = P_most_twos → p.2 = ("most_twos" : Str) ++ ".<locals>." ++ "<lambda>"
  b_most_twos : Binds K fd_most_twos ["kind", "polynomial"] []
  g_most_twos : mg "most_twos" = some (.ref f_most_twos)
  k_most_twos : PySem.W.keepIn K (.ref f_most_twos) = true
  f__law_source_of : Addr
  fd__law_source_of : FuncData
  F__law_source_of : Fun K "_law_source_of" "_law_source_of" s__law_source_of f__law_source_of fd__law_source_of
  b__law_source_of : Binds K fd__law_source_of ["_law_cell"] []
  g__law_source_of : mg "_law_source_of" = some (.ref f__law_source_of)
  k__law_source_of : PySem.W.keepIn K (.ref f__law_source_of) = true
  f__law_next : Addr
  fd__law_next : FuncData
  F__law_next : Fun K "_law_next" "_law_next" s__law_next f__law_next fd__law_next
  b__law_next : Binds K fd__law_next ["_law_source", "_law_many"] []
  g__law_next : mg "_law_next" = some (.ref f__law_next)
  k__law_next : PySem.W.keepIn K (.ref f__law_next) = true
  f__law_one : Addr
  fd__law_one : FuncData
  F__law_one : Fun K "_law_one" "_law_one" s__law_one f__law_one fd__law_one
  b__law_one : Binds K fd__law_one ["_law_source", "_law_some"] []
  g__law_one : mg "_law_one" = some (.ref f__law_one)
  k__law_one : PySem.W.keepIn K (.ref f__law_one) = true
  f__law_cell_at : Addr
  fd__law_cell_at : FuncData
  F__law_cell_at : Fun K "_law_cell_at" "_law_cell_at" s__law_cell_at f__law_cell_at fd__law_cell_at
  b__law_cell_at : Binds K fd__law_cell_at ["_law_script", "_law_index"] []
  g__law_cell_at : mg "_law_cell_at" = some (.ref f__law_cell_at)
  k__law_cell_at : PySem.W.keepIn K (.ref f__law_cell_at) = true
  f__law_power : Addr
  fd__law_power : FuncData
  F__law_power : Fun K "_law_power" "_law_power" s__law_power f__law_power fd__law_power
  b__law_power : Binds K fd__law_power ["_law_n"] []
  g__law_power : mg "_law_power" = some (.ref f__law_power)
  k__law_power : PySem.W.keepIn K (.ref f__law_power) = true
  f__law_wide : Addr
  fd__law_wide : FuncData
  F__law_wide : Fun K "_law_wide" "_law_wide" s__law_wide f__law_wide fd__law_wide
  b__law_wide : Binds K fd__law_wide ["_law_source", "_law_m"] []
  g__law_wide : mg "_law_wide" = some (.ref f__law_wide)
  k__law_wide : PySem.W.keepIn K (.ref f__law_wide) = true
  f__law_times : Addr
  fd__law_times : FuncData
  F__law_times : Fun K "_law_times" "_law_times" s__law_times f__law_times fd__law_times
  b__law_times : Binds K fd__law_times ["_law_one_here", "_law_other"] []
  g__law_times : mg "_law_times" = some (.ref f__law_times)
  k__law_times : PySem.W.keepIn K (.ref f__law_times) = true
  f__law_moved : Addr
  fd__law_moved : FuncData
  F__law_moved : Fun K "_law_moved" "_law_moved" s__law_moved f__law_moved fd__law_moved
  b__law_moved : Binds K fd__law_moved ["_law_some", "_law_shift", "_law_bits"] []
  g__law_moved : mg "_law_moved" = some (.ref f__law_moved)
  k__law_moved : PySem.W.keepIn K (.ref f__law_moved) = true
  f__law_powers_right : Addr
  fd__law_powers_right : FuncData
  F__law_powers_right : Fun K "_law_powers_right" "_law_powers_right" s__law_powers_right f__law_powers_right fd__law_powers_right
  b__law_powers_right : Binds K fd__law_powers_right ["_law_bits", "_law_kind"] []
  g__law_powers_right : mg "_law_powers_right" = some (.ref f__law_powers_right)
  k__law_powers_right : PySem.W.keepIn K (.ref f__law_powers_right) = true
  f__law_square_roots : Addr
  fd__law_square_roots : FuncData
  F__law_square_roots : Fun K "_law_square_roots" "_law_square_roots" s__law_square_roots f__law_square_roots fd__law_square_roots
  b__law_square_roots : Binds K fd__law_square_roots ["_law_bits", "_law_twos_here"] []
  g__law_square_roots : mg "_law_square_roots" = some (.ref f__law_square_roots)
  k__law_square_roots : PySem.W.keepIn K (.ref f__law_square_roots) = true
  f__law_lines_right : Addr
  fd__law_lines_right : FuncData
  F__law_lines_right : Fun K "_law_lines_right" "_law_lines_right" s__law_lines_right f__law_lines_right fd__law_lines_right
  b__law_lines_right : Binds K fd__law_lines_right ["_law_source", "_law_bits", "_law_kind"] []
  g__law_lines_right : mg "_law_lines_right" = some (.ref f__law_lines_right)
  k__law_lines_right : PySem.W.keepIn K (.ref f__law_lines_right) = true
  f__law_products_right : Addr
  fd__law_products_right : FuncData
  F__law_products_right : Fun K "_law_products_right" "_law_products_right" s__law_products_right f__law_products_right fd__law_products_right
  b__law_products_right : Binds K fd__law_products_right ["_law_source", "_law_bits", "_law_kind"] []
  g__law_products_right : mg "_law_products_right" = some (.ref f__law_products_right)
  k__law_products_right : PySem.W.keepIn K (.ref f__law_products_right) = true
  f__law_parts_right : Addr
  fd__law_parts_right : FuncData
  F__law_parts_right : Fun K "_law_parts_right" "_law_parts_right" s__law_parts_right f__law_parts_right fd__law_parts_right
  b__law_parts_right : Binds K fd__law_parts_right ["_law_source", "_law_bits", "_law_kind"] []
  g__law_parts_right : mg "_law_parts_right" = some (.ref f__law_parts_right)
  k__law_parts_right : PySem.W.keepIn K (.ref f__law_parts_right) = true
  f_law : Addr
  fd_law : FuncData
  F_law : Fun K "law" "law" s_law f_law fd_law
  b_law : Binds K fd_law ["_law_script"] []
  g_law : mg "law" = some (.ref f_law)
  k_law : PySem.W.keepIn K (.ref f_law) = true
  mk_Kind : Mk K C_Kind f_Kind___init__
  t_BEYOND_SIXTY_DIGITS : Tok
  g_BEYOND_SIXTY_DIGITS : mg "BEYOND_SIXTY_DIGITS" = some (.int 1000000000000000000000000000000000000000000000000000000000000 t_BEYOND_SIXTY_DIGITS)
  t_MOST_BITS : Tok
  g_MOST_BITS : mg "MOST_BITS" = some (.int 128 t_MOST_BITS)
  t_MOST_COEFFICIENTS : Tok
  g_MOST_COEFFICIENTS : mg "MOST_COEFFICIENTS" = some (.int 9 t_MOST_COEFFICIENTS)
  n_abs : mg "abs" = none
  n_all : mg "all" = none
  n_any : mg "any" = none
  n_bool : mg "bool" = none
  n_enumerate : mg "enumerate" = none
  n_int : mg "int" = none
  n_isinstance : mg "isinstance" = none
  n_len : mg "len" = none
  n_list : mg "list" = none
  n_max : mg "max" = none
  n_min : mg "min" = none
  n_range : mg "range" = none
  n_reversed : mg "reversed" = none
  n_sorted : mg "sorted" = none
  n_sum : mg "sum" = none
  bl_law : ∀ (s : Shared) (v : Value), BindsTo s fd_law ⟨[v], []⟩ [("_law_script", v)]
structure TBs {K : PySem.W.Frag} {mg : Str → Option Value} (T : Txt K mg) (base : Heap) : Prop where
  tb_most_twos : LamX.TabB base mg T.c_most_twos T.P_most_twos
structure TI {K : PySem.W.Frag} {mg : Str → Option Value} (T : Txt K mg) : Prop where
  eq : T.tabs = [(T.P_most_twos, ("most_twos" : Str) ++ ".<locals>." ++ "<lambda>")]
  ti_most_twos : PySem.W.tabIn K "most_twos" = some (T.c_most_twos, T.P_most_twos)

section
variable {K : PySem.W.Frag} {mg : Str → Option Value} {H : Hp} {Q : VK} {C p : Addr} {wd : Nat} {s : Bool}
theorem w_isi {v : V} {t c : String} {b : Bool} (ty : TyX K H v (.type t)) (e : kitB t c = some b) (q : Q (.bl b) H) : rIsi K [v, .ty c] H Q := ⟨_, _, _, _, b, rfl, .ty c, ty, kit_ty e, q⟩
theorem w_isK (T : Txt K mg) (k : Kd T.C_Kind H p wd s) (q : Q (.bl true) H) : rIsi K [.ref p, .ref T.C_Kind] H Q := by
  obtain ⟨⟨dx, e⟩, _, _⟩ := k
  exact ⟨_, _, _, _, true, rfl, .own _, .base (.ins e T.cl_Kind T.ia_Kind T.ib_Kind T.ic_Kind T.id_Kind), (by unfold PySem.W.kitOne; rw [if_pos (by simp)]), q⟩
theorem w_fb {i : Nat} {σ : L2.St} (T : Txt K mg) (hs : σ[i]? = some (some (.ref p))) (k : Kd T.C_Kind H p wd s) (q : Q (.int (wd : Int)) H) : tFld K (tVar i) "bits" σ H Q := by
  obtain ⟨⟨dx, e⟩, _, _⟩ := k
  exact ⟨_, hs, p, _, dx, _, _, rfl, e, T.cl_Kind, T.na_Kind_bits, kf_bits _ _, q⟩
theorem w_fs {i : Nat} {σ : L2.St} (T : Txt K mg) (hs : σ[i]? = some (some (.ref p))) (k : Kd T.C_Kind H p wd s) (q : Q (.bl s) H) : tFld K (tVar i) "is_signed" σ H Q := by
  obtain ⟨⟨dx, e⟩, _, _⟩ := k
  exact ⟨_, hs, p, _, dx, _, _, rfl, e, T.cl_Kind, T.na_Kind_is_signed, kf_sign _ _, q⟩
end


section
variable {K : PySem.W.Frag} {H : Hp} {σ : L2.St} {Q : VK}
theorem w_iTup {tl : TE} {R : It → Hp → Prop} (q : tl σ H fun x H1 => ∃ a, x = .ref a ∧ (∃ xs, SqT K H1 a xs) ∧ R (Itt K a) H1) : iTup K tl σ H R := q
theorem w_eqD {x y : V} {d e : PyData} (hx : Dp K H x d) (hy : Dp K H y e) (sd : SeqAt.shaped d = true) (se : SeqAt.shaped e = true) (q : Q (.bl (PyData.eqv d e)) H) : rEqD K x y H Q := ⟨d, e, hx, hy, sd, se, q⟩
theorem w_neD {x y : V} {d e : PyData} (hx : Dp K H x d) (hy : Dp K H y e) (sd : SeqAt.shaped d = true) (se : SeqAt.shaped e = true) (q : Q (.bl (!PyData.eqv d e)) H) : rNeD K x y H Q := ⟨d, e, hx, hy, sd, se, q⟩
end

section
variable {K : PySem.W.Frag} {H : Hp} {σ : L2.St} {Q : VK}
theorem w_neL {a b : Addr} {is js : List Int} (ha : H a = some (.lst (is.map V.int))) (hb : H b = some (.lst (js.map V.int))) (q : Q (.bl (!decide (is = js))) H) : rNeD K (.ref a) (.ref b) H Q :=
  ⟨_, _, .lst (SqL.of ha) (dp_ints is), .lst (SqL.of hb) (dp_ints js), shaped_ints is, shaped_ints js, by
    rw [show PyData.eqv (.list (is.map PyData.int)) (.list (js.map PyData.int)) = PyData.eqvAll (is.map PyData.int) (js.map PyData.int) from by simp only [PyData.eqv], eqv_ints]
    exact q⟩
theorem w_eqL {a b : Addr} {is js : List Int} (ha : H a = some (.lst (is.map V.int))) (hb : H b = some (.lst (js.map V.int))) (q : Q (.bl (decide (is = js))) H) : rEqD K (.ref a) (.ref b) H Q :=
  ⟨_, _, .lst (SqL.of ha) (dp_ints is), .lst (SqL.of hb) (dp_ints js), shaped_ints is, shaped_ints js, by
    rw [show PyData.eqv (.list (is.map PyData.int)) (.list (js.map PyData.int)) = PyData.eqvAll (is.map PyData.int) (js.map PyData.int) from by simp only [PyData.eqv], eqv_ints]
    exact q⟩
theorem w_vals {c : Prop} [Decidable c] {ta tb : TE} (R : V → Hp → Prop) (h1 : c → ∀ Q : VK, (∀ x H', R x H' → Q x H') → ta σ H Q) (h2 : ¬ c → ∀ Q : VK, (∀ x H', R x H' → Q x H') → tb σ H Q) (q : ∀ x H', R x H' → Q x H') : if decide c = true then ta σ H Q else tb σ H Q := w_dec (fun z => h1 z Q q) (fun z => h2 z Q q)
theorem w_gunl {n : Nat} {t : TGs} {a : Addr} {xs : List V} {Q : L2.St → Hp → Prop} (h : H a = some (.lst xs)) (l : xs.length = n) (q : t xs σ H Q) : gUnl K n t (.ref a) σ H Q := ⟨a, xs, rfl, SqL.of h, l, q⟩
theorem w_iRngL {ta : TA} {R : It → Hp → Prop} (q : ta σ H fun vs H1 => ∃ i j : Int, vs = [.int i, .int j] ∧ R (Itr i (j - i).toNat) H1) : iRngL ta σ H R := q
theorem w_sum {a : Addr} {ns : List Int} (h : H a = some (.lst (ns.map V.int))) (q : Q (.int ns.sum) H) : rSum K [.ref a] H Q := ⟨a, ns, rfl, SqL.of h, q⟩
theorem w_neOpt {x y : V} (hx : x = .non ∨ ∃ i, x = .int i) (hy : y = .non ∨ ∃ i, y = .int i) (q : Q (.bl (!decide (x = y))) H) : rNe x y H Q := ⟨by
  rcases hx with rfl | ⟨i, rfl⟩ <;> rcases hy with rfl | ⟨j, rfl⟩ <;> rfl, q⟩
theorem w_eqOpt {x y : V} (hx : x = .non ∨ ∃ i, x = .int i) (hy : y = .non ∨ ∃ i, y = .int i) (q : Q (.bl (decide (x = y))) H) : rEq x y H Q := ⟨by
  rcases hx with rfl | ⟨i, rfl⟩ <;> rcases hy with rfl | ⟨j, rfl⟩ <;> rfl, q⟩
end
theorem at_m1 {xs : List V} {v : V} (h : xs[xs.length - 1]? = some v) : atI xs (-1) = some v := by
  have hne : xs ≠ [] := fun z => by rw [z] at h; cases h
  have e := (List.dropLast_concat_getLast hne).symm
  rw [e] at h ⊢
  rw [List.length_append, List.length_singleton, Nat.add_sub_cancel, List.getElem?_append_right (Nat.le_refl _), Nat.sub_self] at h
  rw [← Option.some.inj h]
  exact atI_last _ _
theorem FirstOf.opt {p : Int → Bool} {f l : Int} {v : V} (h : FirstOf p f l v) : v = .non ∨ ∃ i, v = .int i := by
  rcases h with ⟨h, _⟩ | ⟨x, h, _⟩
  · exact .inl h
  · exact .inr ⟨x, h⟩
theorem LastOf.opt {p : Int → Bool} {f l : Int} {v : V} (h : LastOf p f l v) : v = .non ∨ ∃ i, v = .int i := by
  rcases h with ⟨h, _⟩ | ⟨x, h, _⟩
  · exact .inl h
  · exact .inr ⟨x, h⟩
theorem first_nil {p : Int → Bool} {f l : Int} {n : Nat} {v : V} (h : l - f + 1 = n) (e : wl p f n = []) (hf : FirstOf p f l v) : v = .non := by
  rcases hf with ⟨h1, _⟩ | ⟨x, _, x1, x2, px, _⟩
  · exact h1
  · have : x ∈ wl p f n := wl_mem.mpr ⟨x1, by omega, px⟩
    rw [e] at this; cases this
theorem last_nil {p : Int → Bool} {f l : Int} {n : Nat} {v : V} (h : l - f + 1 = n) (e : wl p f n = []) (hf : LastOf p f l v) : v = .non := by
  rcases hf with ⟨h1, _⟩ | ⟨x, _, x1, x2, px, _⟩
  · exact h1
  · have : x ∈ wl p f n := wl_mem.mpr ⟨x1, by omega, px⟩
    rw [e] at this; cases this
theorem first_get {p : Int → Bool} {f l : Int} {n : Nat} {v : V} {y : Int} (h : l - f + 1 = n) (e : (wl p f n)[0]? = some y) (hf : FirstOf p f l v) : v = .int y := by
  rcases hf with ⟨_, h0⟩ | ⟨x, rfl, x1, x2, px, x3⟩
  · rw [(wl_nil h).mpr h0] at e; cases e
  · rw [wl_at e x1 px x3]
theorem last_get {p : Int → Bool} {f l : Int} {n : Nat} {v : V} {y : Int} (h : l - f + 1 = n) (e : (wl p f n)[(wl p f n).length - 1]? = some y) (hf : LastOf p f l v) : v = .int y := by
  rcases hf with ⟨_, h0⟩ | ⟨x, rfl, x1, x2, px, x3⟩
  · rw [(wl_nil h).mpr h0] at e; cases e
  · have t := wl_tot (p := p) h
    have s := tot_split p (first := f) (mid := x) (last := l) (by omega) x2
    rw [x3, tot_step p x1, if_pos px] at s
    have nn := tot_nonneg p f (x - 1)
    have yj : tot p f (x - 1) = (((wl p f n).length - 1 : Nat) : Int) := by omega
    rw [wl_at e x1 px yj]

theorem w_mW {K : PySem.W.Frag} {mg : Str → Option Value} {H : Hp} {C : Addr} {p : Addr} {w : Wk} {f : Str} {P : Addr → Addr → List (Str × V) → Prop} (k : Wd C H p w) (e : (wkf w).lookup f = none) (q : ∀ dx, P p dx (wkf w)) : ∃ a dx fs, V.ref p = .ref a ∧ H a = some (.ins C dx fs) ∧ fs.lookup f = none ∧ P a dx fs := by
  obtain ⟨dx, h⟩ := k
  exact ⟨p, dx, _, rfl, h, e, q dx⟩


theorem kbinds_of {K : PySem.W.Frag} {x qual : Str} {st : Stmt} {f : Addr} {fd : FuncData} {ps ks : List Str} {g : List Value → List Value → List Value} {gV : List V → List V → List V} (F : Fun K x qual st f fd)
    (h : ∀ (kV doc pm : Value) (an : Option Addr) (cdv ct : Value) (us ws : List Value), (g us ws).length = ps.length → bindArgs (PySem.W.fnOf x qual (defArgs st) (defBody st) (defScope st) .none kV doc pm an cdv ct) ⟨us, ks.zip ws⟩ = pure (ps.zip (g us ws)))
    (hrel : ∀ {vs : List V} {us : List Value} {zs : List V} {ws : List Value}, Vals vs us → Vals zs ws → Vals (gV vs zs) (g us ws)) : KBinds K fd ps ks g gV := by
  obtain ⟨oc, od, kV, doc, pm, an, cdv, ct, osl, rfl, lk, hcd⟩ := F.ex
  exact ⟨fun s us ws _ hl => .of_eq (h kV doc pm an cdv ct us ws hl), hrel⟩
local macro_rules | `(tactic| walk_at "kq") => `(tactic| first
  | exact Fw.Kq.refl _
  | assumption
  | (refine Fw.Kq.new ?_ (by assumption); walk_at "kq")
  | (refine Fw.Kq.trans ?_ (by assumption); walk_at "kq")
  | (refine Fw.Kq.sm ?_ (by assumption); walk_at "kq")
  | (refine Fw.Kq.same ?_ (by assumption); walk_at "kq"))
def sp_joined (K : PySem.W.Frag) (C : Addr) (TS : List (Addr × Str)) : Sp := fun vs H Q _ => ∃ (p : Addr) (bits : Nat) (rs : List V), vs = [.ref p, .int (bits : Int)] ∧ bits ≤ 128 ∧ H p = some (.lst rs) ∧ rs.length ≤ 100000 ∧ (∀ r ∈ rs, ∃ (q : Addr) (f : Int) (e : Nat), r = .ref q ∧ H q = some (.tup [.int f, .int (e : Int)]) ∧ 0 ≤ f) ∧ ∀ (fl : FL) out q H', Mg bits (SetOf H rs) (famL fl) → (∀ k, 1 ≤ k → k ≤ bits → Irr (famL fl) k) → H' q = some (.lst out) → PRow H' out fl → fl.Pairwise ltF → fl.length ≤ rs.length → Same H H' → Q (.ref q) H'
theorem ok_joined {P : Program} {w : World} {K : PySem.W.Frag} {mg : Str → Option Value} {base : Heap} (T : Txt K mg) (B : TBs T base) : FnOk P w K mg base CX0 1 T.f_joined T.fd_joined ["families", "bits"] (sp_joined K T.C_Kind T.tabs) := by
  refine T.F_joined.ok sc_joined (fun vs H Q E h => ?_) (fun cdv A outer s H vs Q E hr h => ?_)
  · obtain ⟨p, bits, rs, rfl, _⟩ := h
    rfl
  · obtain ⟨p, bits, rs, rfl, h⟩ := h
    have hu := hu_of hr
    refine ⟨_, (pss_cons (ps_setDc (o := .dT []) (i := 2) (own := [("family", 3)]) (g := gName 3) (tt := tYes) (.inr rfl) (Nat.lt_of_le_of_lt (Nat.le_add_right _ 64) hr.units) rfl sc_joined.nd rfl rfl (sw_trueD rfl rfl rfl (by decide +kernel)) (pi_list (pv 0 (hv := Or.inl rfl))) (blkOk_by (own := [("family", 3)]) (N := ["families", "bits", "found", "family", "k", "half", "first", "depth"]) (sc := defScope s_joined) (by decide +kernel)) (fun _ _ _ _ _ => (pg_name (i := 3) sc_joined.nd rfl (Or.inl rfl))) (fun _ _ _ _ _ => pts_nil) (fun _ _ _ _ _ => (pv 3 (hv := Or.inl rfl))) (fun _ _ _ _ _ => pe_bl))
      (pss_cons (ps_for PassesOwn.never rfl (pi_range3 (by rfl) T.n_range (pa_cons (pv 1 (hv := Or.inl rfl)) (pa_cons pe_int (pa_cons (pe_un un_neg pe_int) pa_nil)))) (pg_name (i := 4) sc_joined.nd rfl (Or.inl rfl))
        (pss_cons (ps_set (i := 5) sc_joined.nd rfl (Or.inl rfl) (pe_op op_shl pe_int (pe_op op_sub (pv 4 (hv := Or.inl rfl)) pe_int)))
      (pss_one (ps_for PassesOwn.never rfl (pi_list (pe_callTy (T := "list") (r := rListDT) (call_listDT (by rfl)) (by rfl) T.n_list (by decide +kernel) (pa_cons (pv 2 (hv := Or.inl rfl)) pa_nil))) (pg_tup rfl (pgs_cons (pg_name (i := 6) sc_joined.nd rfl (Or.inl rfl)) (pgs_cons (pg_name (i := 7) sc_joined.nd rfl (Or.inl rfl)) pgs_nil)))
        (pss_one (ps_if (PW.pt (pw_and (pt_cmpR op_eq (pv 7 (hv := Or.inl rfl)) (pv 4 (hv := Or.inl rfl)) (nomark _)) (pw_and (pt_cmpR op_lt (pv 6 (hv := Or.inl rfl)) (pv 5 (hv := Or.inl rfl)) (nomark _)) (pw_and1 (pt_cmp (pc_din hu (pe_tup (pa_cons (pe_op op_add (pv 6 (hv := Or.inl rfl)) (pv 5 (hv := Or.inl rfl))) (pa_cons (pv 4 (hv := Or.inl rfl)) pa_nil))) (pv 2 (hv := Or.inl rfl))) (by rfl)))))) (pss_cons (ps_delT hu (pv 2 (hv := Or.inl rfl)) (pe_tup (pa_cons (pv 6 (hv := Or.inl rfl)) (pa_cons (pv 4 (hv := Or.inl rfl)) pa_nil))))
      (pss_cons (ps_delT hu (pv 2 (hv := Or.inl rfl)) (pe_tup (pa_cons (pe_op op_add (pv 6 (hv := Or.inl rfl)) (pv 5 (hv := Or.inl rfl))) (pa_cons (pv 4 (hv := Or.inl rfl)) pa_nil))))
      (pss_one (ps_dput hu (pv 2 (hv := Or.inl rfl)) (pe_tup (pa_cons (pv 6 (hv := Or.inl rfl)) (pa_cons (pe_op op_sub (pv 4 (hv := Or.inl rfl)) pe_int) pa_nil))) pe_bl rfl)))) pss_nil))))))
      (pss_one (ps_ret (pe_callB (id := "sorted") (r := rSortDT) (cr_sortedDT (by rfl)) (by rfl) T.n_sorted (by decide +kernel) (pa_cons (pv 2 (hv := Or.inl rfl)) pa_nil)))))), ?_⟩
    try dsimp only [cxOf, Cx.nox, Cx.wish, Cx.blk]
    rw [show L2.start ["families", "bits", "found", "family", "k", "half", "first", "depth"] [.ref p, .int (bits : Int)] = [some (.ref p), some (.int (bits : Int)), none, none, none, none, none, none] from rfl]
    obtain ⟨b2, hp, hl, sh, k⟩ := h
    walk_at "rd"
    unfold tDcG
    walk_at "rd"
    refine ⟨⟨_, SqL.of hp⟩, fun D hD => dg_it (walk_list (K := K) (a := p) (xs := rs)) (fun j H' => ∃ kvs, H' D = some (.dT kvs) ∧ DictF kvs j ∧ (∀ f e, HasK kvs (fk f e) ↔ ∃ i, i < j ∧ ∃ q : Addr, rs[i]? = some (V.ref q) ∧ H q = some (.tup [.int f, .int (e : Int)])) ∧ Same H H') ⟨[], upd_same, ⟨Nat.le_refl _, List.nodup_nil, fun x hx => (by cases hx)⟩, fun f e => ⟨fun h => (by cases h), fun ⟨i, hi, _⟩ => (by omega)⟩, sm_new (Same.refl H) hD⟩ (fun i H' _ q => SqL.of (q.choose_spec.2.2.2 _ _ hp)) ?_ ?_⟩
    · rintro j z H' _ hj ⟨kvs, hd, df, hk, sm⟩ ⟨rfl, hz⟩
      obtain ⟨q, f, e, rfl, hq, f0⟩ := sh z (List.mem_of_getElem? hz)
      unfold DcTurn
      walk_at "rd"
      refine ⟨rfl, ?_⟩
      walk_at "rd"
      refine iteT ?_
      walk_at "rd"
      refine ⟨_, DPut.t (k := fk f e) hd (sm _ _ hq) (Nat.lt_of_le_of_lt df.len (Nat.lt_of_lt_of_le hj (Nat.le_trans hl (by decide)))), putK kvs (fk f e) (.bl true), upd_same, df.put f0, fun g d => ⟨fun h => ?_, fun ⟨i, hi, q1, h1, h2⟩ => ?_⟩, sm_mut sm hD⟩
      · rcases hasK_put.mp h with h | h
        · obtain ⟨rfl, rfl⟩ := fk_inj h
          exact ⟨j, by omega, q, hz, hq⟩
        · obtain ⟨i, hi, r⟩ := (hk g d).mp h
          exact ⟨i, by omega, r⟩
      · by_cases z : i = j
        · subst z
          rw [hz] at h1
          obtain rfl : q = q1 := V.ref.inj (Option.some.inj h1)
          rw [hq] at h2
          have e1 := HO.tup.inj (Option.some.inj h2)
          have e2 : f = g := V.int.inj (List.cons.inj e1).1
          have e3 : (e : Int) = d := V.int.inj (List.cons.inj (List.cons.inj e1).2).1
          obtain rfl : e = d := by omega
          exact hasK_put.mpr (.inl (by rw [e2]))
        · exact hasK_put.mpr (.inr ((hk g d).mpr ⟨i, by omega, q1, h1, h2⟩))
    rintro H1 ⟨kvs, hd, df, hk, sm⟩
    have e0 : famD kvs = SetOf H rs := by
      funext f e
      refine propext ⟨fun h => ?_, fun ⟨q, h1, h2⟩ => ?_⟩
      · obtain ⟨i, _, q, h1, h2⟩ := (hk f e).mp h
        exact ⟨q, List.mem_of_getElem? h1, h2⟩
      · obtain ⟨i, hi⟩ := List.getElem?_of_mem h1
        exact (hk f e).mpr ⟨i, (List.getElem?_eq_some_iff.mp hi).1, q, hi, h2⟩
    clear hk
    walk_at "rd"
    refine w_iRng3j ?_
    walk_at "rd"
    refine ⟨_, _, _, bits, rfl, by have := RgC.neg (i := (bits : Int)) (j := 0) (by omega) (by omega) (by omega) (by omega); rw [show ((bits : Int) - 0).toNat = bits by omega] at this; exact this, for_rangeC (lo := (bits : Int)) (c := -1) (n := bits) (fun i σ H' => (∃ v4 v5 v6 v7 : Option V, σ = [some (.ref p), some (.int (bits : Int)), some (.ref D), none, v4, v5, v6, v7]) ∧ ∃ kvs, H' D = some (.dT kvs) ∧ DictF kvs rs.length ∧ Mg bits (SetOf H rs) (famD kvs) ∧ (∀ k, bits - i < k → k ≤ bits → Irr (famD kvs) k) ∧ Same H H') ⟨⟨_, _, _, _, rfl⟩, kvs, hd, df, by rw [e0]; exact .refl, fun k _ _ => (by omega), sm⟩ ?_ ?_⟩
    · rintro i σ H2 hi ⟨⟨v4, v5, v6, v7, rfl⟩, kv0, hd0, df0, mg0, up0, sm0⟩
      obtain ⟨kk, hkk⟩ : ∃ kk, kk = bits - i := ⟨_, rfl⟩
      have k1 : 1 ≤ kk := by omega
      have k2 : kk ≤ bits := by omega
      rw [show (bits : Int) + (i : Int) * -1 = (kk : Int) by omega]
      walk_at "rd"
      rw [show (kk : Int) - 1 = ((kk - 1 : Nat) : Int) by omega]
      refine w_I (cpow (n := 1) (by omega) (by decide)) ?_
      rw [Int.toNat_natCast, Int.one_mul]
      walk_at "rd"
      refine ⟨D, kv0, rfl, .inl hd0, fun L bs hL hbs => ?_⟩
      walk_at "rd"
      have sL := sm_new (o := .lst (bs.map V.ref)) (Same.refl H2) hL
      have hL' : (L2.upd H2 L (.lst (bs.map V.ref))) L = some (.lst (bs.map V.ref)) := upd_same
      generalize L2.upd H2 L _ = H3 at sL hL' ⊢
      have hd3 := sL _ _ hd0
      have bl : bs.length = kv0.length := (Paired.length hbs).symm
      have nL : L ≠ D := fun z => by rw [z, hd3] at hL'; cases hL'
      refine ⟨⟨_, SqL.of hL'⟩, for_list (K := K) (a := L) (xs := bs.map V.ref) (fun j σ H' => (∃ v6 v7 : Option V, σ = [some (.ref p), some (.int (bits : Int)), some (.ref D), none, some (.int (kk : Int)), some (.int (2 ^ (kk - 1))), v6, v7]) ∧ ∃ kvs, H' D = some (.dT kvs) ∧ Lev (SetOf H rs) bits kk kv0 kvs rs.length j ∧ Kp D H3 H') ⟨⟨_, _, rfl⟩, kv0, hd3, Lev.start df0 mg0 (fun k h1 h2 => up0 k (by omega) h2), Kp.refl D H3⟩ (fun j σ H' _ q => SqL.of (q.2.choose_spec.2.2 _ _ nL hL')) ?_ ?_⟩
      · rintro j z σ H4 hj ⟨⟨v6, v7, rfl⟩, kvs, hd, lv, kp⟩
        obtain ⟨b, hb, rfl⟩ := map_get hj
        obtain ⟨x, hx, hbx⟩ := L2.DX.pget hbs hb
        obtain ⟨f, e, ex, f0⟩ := df0.sh x (List.mem_of_getElem? hx)
        rw [ex] at hbx
        have hb3 : H3 b = some (.tup [.int f, .int (e : Int)]) := sL _ _ hbx
        have hb4 := kp _ _ (ne_of hb3 hd3 (by intro z; cases z)) hb3
        walk_at "rd"
        refine w_dec (fun ek => ?_) (fun ek => ?_)
        rotate_left
        · walk_at "rd"
          refine iteF ?_
          walk_at "rd"
          exact ⟨⟨_, _, rfl⟩, kvs, hd, lv.skip hx ex (fun z => ek (by rw [z.1])), kp⟩
        obtain rfl : e = kk := by omega
        walk_at "rd"
        refine w_dec (fun lt => ?_) (fun lt => ?_)
        rotate_left
        · walk_at "rd"
          refine iteF ?_
          walk_at "rd"
          exact ⟨⟨_, _, rfl⟩, kvs, hd, lv.skip hx ex (fun z => lt z.2.1), kp⟩
        walk_at "rd"
        unfold tDIn
        walk_at "rd"
        refine ⟨by show 2 ≤ sizeLine; decide, fun q1 hq1 => ?_⟩
        walk_at "rd"
        have n1 : D ≠ q1 := fun z => by rw [← z, hd] at hq1; cases hq1
        have hd5 : (L2.upd H4 q1 (.tup [.int (f + 2 ^ (e - 1)), .int (e : Int)])) D = some (.dT kvs) := by rw [upd_ne n1]; exact hd
        have kp5 := kp.new (o := .tup [.int (f + 2 ^ (e - 1)), .int (e : Int)]) hq1
        have hq1' : (L2.upd H4 q1 (.tup [.int (f + 2 ^ (e - 1)), .int (e : Int)])) q1 = some (.tup [.int (f + 2 ^ (e - 1)), .int (e : Int)]) := upd_same
        generalize L2.upd H4 q1 _ = H5 at hd5 kp5 hq1' ⊢
        refine ⟨D, _, rfl, DGet.t (k := fk (f + 2 ^ (e - 1)) e) hd5 hq1', ?_⟩
        by_cases hh : famD kvs (f + 2 ^ (e - 1)) e
        rotate_left
        · rw [show (valV kvs (fk (f + 2 ^ (e - 1)) e)).isSome = false by
            cases z : (valV kvs (fk (f + 2 ^ (e - 1)) e)).isSome
            · rfl
            · exact absurd (hasK_val.mp z) hh]
          refine ⟨_, rfl, ?_⟩
          refine iteF ?_
          walk_at "rd"
          exact ⟨⟨_, _, rfl⟩, kvs, hd5, lv.skip hx ex (fun z => hh z.2.2), kp5⟩
        rw [hasK_val.mpr hh]
        refine ⟨_, rfl, ?_⟩
        refine iteT ?_
        unfold sDelT sDPut
        walk_at "rd"
        refine ⟨by show 2 ≤ sizeLine; decide, fun q2 hq2 => ?_⟩
        walk_at "rd"
        have p2' : (0 : Int) < 2 ^ (e - 1) := p2 (e - 1)
        have n2 : D ≠ q2 := fun z => by rw [← z, hd5] at hq2; cases hq2
        have ha : famD kvs f e := lv.A j f x (Nat.le_refl _) hx ex lt
        refine ⟨D, q2, kvs, fk f e, rfl, by rw [upd_ne n2]; exact hd5, rfl, upd_same, hasK_val.mpr ha, ?_⟩
        have kp6 := (kp5.new (o := .tup [.int f, .int (e : Int)]) hq2).upd (o := .dT (dropK kvs (fk f e)))
        have hd7 : (L2.upd (L2.upd H5 q2 (.tup [.int f, .int (e : Int)])) D (.dT (dropK kvs (fk f e)))) D = some (.dT (dropK kvs (fk f e))) := upd_same
        generalize L2.upd (L2.upd H5 q2 _) D _ = H7 at kp6 hd7 ⊢
        walk_at "rd"
        refine ⟨by show 2 ≤ sizeLine; decide, fun q3 hq3 => ?_⟩
        walk_at "rd"
        have n3 : D ≠ q3 := fun z => by rw [← z, hd7] at hq3; cases hq3
        refine ⟨D, q3, dropK kvs (fk f e), fk (f + 2 ^ (e - 1)) e, rfl, by rw [upd_ne n3]; exact hd7, rfl, upd_same, hasK_val.mpr (hasK_drop.mpr ⟨fun z => by have := (fk_inj z).1; omega, hh⟩), ?_⟩
        have kp8 := (kp6.new (o := .tup [.int (f + 2 ^ (e - 1)), .int (e : Int)]) hq3).upd (o := .dT (dropK (dropK kvs (fk f e)) (fk (f + 2 ^ (e - 1)) e)))
        have hd9 : (L2.upd (L2.upd H7 q3 (.tup [.int (f + 2 ^ (e - 1)), .int (e : Int)])) D (.dT (dropK (dropK kvs (fk f e)) (fk (f + 2 ^ (e - 1)) e)))) D = some (.dT (dropK (dropK kvs (fk f e)) (fk (f + 2 ^ (e - 1)) e))) := upd_same
        generalize L2.upd (L2.upd H7 q3 _) D _ = H9 at kp8 hd9 ⊢
        walk_at "rd"
        rw [show (e : Int) - 1 = ((e - 1 : Nat) : Int) by omega]
        refine ⟨by show 2 ≤ sizeLine; decide, fun q4 hq4 => ?_⟩
        walk_at "rd"
        have n4 : D ≠ q4 := fun z => by rw [← z, hd9] at hq4; cases hq4
        refine ⟨D, _, rfl, DPut.t (k := fk f (e - 1)) (by rw [upd_ne n4]; exact hd9) upd_same (Nat.lt_of_le_of_lt (Nat.le_trans (dropK_le _ _) (Nat.le_trans (dropK_le _ _) (Nat.le_trans lv.df.len hl))) (by decide)), ?_⟩
        exact ⟨⟨_, _, rfl⟩, _, upd_same, lv.merge df0.nd df0.sh hx ex f0 lt hh k1 k2 _, (kp8.new hq4).upd⟩
      rintro σ H4 ⟨⟨v6, v7, rfl⟩, kvs, hd, lv, kp⟩
      rw [List.length_map, bl] at lv
      refine ⟨⟨_, _, _, _, rfl⟩, kvs, hd, lv.df, lv.mg, fun k h1 h2 => ?_, fun b o e1 => kp b o (ne_of_none e1 hD) (sL _ _ (sm0 _ _ e1))⟩
      by_cases z : k = kk
      · rw [z]; exact lv.finish
      · exact lv.up k (by omega) h2
    rintro σ H2 ⟨⟨v4, v5, v6, v7, rfl⟩, kvs, hd, df, mg, up, sm⟩
    walk_at "rd"
    refine ⟨D, kvs, rfl, hd, fun x hx => ?_, fun bs out q hbs hso hpm hq => ?_⟩
    · obtain ⟨f, e, h, _⟩ := df.sh x hx
      exact ⟨f, e, h⟩
    obtain ⟨fl, hrow, hpw, hfl⟩ := joined_row df.nd df.sh hbs hso hpm
    refine k fl out q _ (by show Mg bits _ (fun f e => (f, e) ∈ fl); rw [hfl]; exact mg) (fun k h1 h2 => by show Irr (fun f e => (f, e) ∈ fl) k; rw [hfl]; exact up k (by omega) h2) upd_same (hrow.keep fun q1 f e h => gn h hq) hpw (by rw [← hrow.len, hpm.length_eq, List.length_map, ← Paired.length hbs]; exact df.len) (sm_new sm hq)
def sp_family_size (K : PySem.W.Frag) (C : Addr) (TS : List (Addr × Str)) : Sp := fun vs H Q _ => ∃ (q : Addr) (f : Int) (k bits : Nat), vs = [.ref q, .int (bits : Int)] ∧ H q = some (.tup [.int f, .int (k : Int)]) ∧ k ≤ bits ∧ bits ≤ 128 ∧ Q (.int (2 ^ (bits - k))) H
theorem ok_family_size {P : Program} {w : World} {K : PySem.W.Frag} {mg : Str → Option Value} {base : Heap} (T : Txt K mg) (B : TBs T base) : FnOk P w K mg base CX0 1 T.f_family_size T.fd_family_size ["family", "bits"] (sp_family_size K T.C_Kind T.tabs) := by
  refine T.F_family_size.ok sc_family_size (fun vs H Q E h => ?_) (fun cdv A outer s H vs Q E hr h => ?_)
  · obtain ⟨q, f, k, bits, rfl, _⟩ := h
    rfl
  · obtain ⟨q, f, k, bits, rfl, h⟩ := h
    refine ⟨_, (pss_one (ps_ret (pe_op op_shl pe_int (pe_op op_sub (pv 1 (hv := Or.inl rfl)) (pe_ix (r := rIxT K) ix_tup (pv 0 (hv := Or.inl rfl)) pe_int (fun _ _ => rfl)))))), ?_⟩
    try dsimp only [cxOf, Cx.nox, Cx.wish, Cx.blk]
    rw [show L2.start ["family", "bits"] [.ref q, .int (bits : Int)] = [some (.ref q), some (.int (bits : Int))] from rfl]
    obtain ⟨hq, kb, b2, kk⟩ := h
    walk_at "rd"
    rw [show (bits : Int) - (k : Int) = ((bits - k : Nat) : Int) by omega]
    refine w_I (cpow (n := 1) (by omega) (by decide)) ?_
    rw [Int.toNat_natCast, Int.one_mul]
    exact kk
def sp_total_size (K : PySem.W.Frag) (C : Addr) (TS : List (Addr × Str)) : Sp := fun vs H Q _ => ∃ (q : Addr) (bits : Nat) (out : List V) (fl : FL), vs = [.ref q, .int (bits : Int)] ∧ H q = some (.lst out) ∧ PRow H out fl ∧ fl.length ≤ 2000 ∧ (∀ p ∈ fl, p.2 ≤ bits) ∧ bits ≤ 128 ∧ ∀ H', Same H H' → Q (.int (fl.map fun p => (2 : Int) ^ (bits - p.2)).sum) H'
theorem ok_total_size {P : Program} {w : World} {K : PySem.W.Frag} {mg : Str → Option Value} {base : Heap} (T : Txt K mg) (B : TBs T base) : FnOk P w K mg base CX0 2 T.f_total_size T.fd_total_size ["families", "bits"] (sp_total_size K T.C_Kind T.tabs) := by
  have G_family_size := ok_family_size (P := P) (w := w) (base := base) T B
  refine T.F_total_size.ok sc_total_size (fun vs H Q E h => ?_) (fun cdv A outer s H vs Q E hr h => ?_)
  · obtain ⟨q, bits, out, fl, rfl, _⟩ := h
    rfl
  · obtain ⟨q, bits, out, fl, rfl, h⟩ := h
    have hr_family_size : Room 1 _ := hr.mono (by decide)
    refine ⟨_, (pss_one (ps_ret (pe_callB (id := "sum") (r := rSum K) (cr_sum rfl) (by rfl) T.n_sum (by decide +kernel) (pa_cons (pe_lc (own := [("family", 2)]) (g := gName 2) (tt := tYes) (by rfl) sc_total_size.nd (pi_list (pv 0 (hv := Or.inl rfl))) (blkOk_by (own := [("family", 2)]) (N := ["families", "bits", "family"]) (sc := defScope s_total_size) (by decide +kernel)) (fun _ _ _ _ _ => (pg_name (i := 2) sc_total_size.nd rfl (Or.inl rfl))) (fun _ _ _ _ _ => pts_nil) (fun _ _ _ _ _ => (pe_call G_family_size hr_family_size rfl T.g_family_size T.k_family_size T.b_family_size .nil pass0 (pa_cons (pv 2 (hv := Or.inl rfl)) (pa_cons (pv 1 (hv := Or.inr (Or.inl rfl))) pa_nil))))) pa_nil)))), ?_⟩
    try dsimp only [cxOf, Cx.nox, Cx.wish, Cx.blk]
    rw [show L2.start ["families", "bits", "family"] [.ref q, .int (bits : Int)] = [some (.ref q), some (.int (bits : Int)), none] from rfl]
    obtain ⟨hq, row, fl2, fb, b2, k⟩ := h
    walk_at "rd"
    refine ⟨⟨_, SqL.of hq⟩, fun D hD => lc_list (K := K) (a := q) (xs := out) (fun j H' => H' D = some (.lst (((fl.map fun p => (2 : Int) ^ (bits - p.2)).take j).map V.int)) ∧ Same H H') ⟨upd_same, sm_new (Same.refl H) hD⟩ (fun i H' _ q => SqL.of (q.2 _ _ hq)) ?_ ?_⟩
    · rintro j z H' hj ⟨hd, sm⟩
      obtain ⟨t, f, e, rfl, ht, hf⟩ := row.get hj
      have jl := (List.getElem?_eq_some_iff.mp hf).1
      walk_at "rd"
      refine ⟨rfl, ?_⟩
      walk_at "rd"
      refine iteT ?_
      walk_at "rd"
      refine ⟨t, f, e, bits, rfl, sm _ _ ht, fb _ (List.mem_of_getElem? hf), b2, ?_⟩
      refine ⟨_, hd, by rw [List.length_map, List.length_take, List.length_map]; exact Nat.lt_of_le_of_lt (show _ ≤ 2000 by omega) (by decide), ?_, sm_mut sm hD⟩
      rw [upd_same, List.take_add_one, List.getElem?_map, hf, List.map_append]; rfl
    rintro H' ⟨hd, sm⟩
    rw [row.len, List.take_of_length_le (by rw [List.length_map]; exact Nat.le_refl _)] at hd
    walk_at "rd"
    refine w_sumR hd ?_
    exact k _ sm
def sp_is_integer (K : PySem.W.Frag) (C : Addr) (TS : List (Addr × Str)) : Sp := fun vs H Q _ => ∃ (v : V) (b : Bool), vs = [v] ∧ IntQ K H v b ∧ Q (.bl b) H
theorem ok_is_integer {P : Program} {w : World} {K : PySem.W.Frag} {mg : Str → Option Value} {base : Heap} (T : Txt K mg) (B : TBs T base) : FnOk P w K mg base CX0 1 T.f_is_integer T.fd_is_integer ["value"] (sp_is_integer K T.C_Kind T.tabs) := by
  refine T.F_is_integer.ok sc_is_integer (fun vs H Q E h => ?_) (fun cdv A outer s H vs Q E hr h => ?_)
  · obtain ⟨v, b, rfl, _⟩ := h
    rfl
  · obtain ⟨v, b, rfl, h⟩ := h
    refine ⟨_, (pss_one (ps_ret (pe_and (pe_callB (id := "isinstance") (r := rIsi K) call_isi (by rfl) T.n_isinstance (by decide +kernel) (pa_cons (pv 0 (hv := Or.inl rfl)) (pa_cons (pe_bltn (v := .ty "int") (by rfl) T.n_int (by decide +kernel) rfl) pa_nil))) (pe_one (pe_not (pe_callB (id := "isinstance") (r := rIsi K) call_isi (by rfl) T.n_isinstance (by decide +kernel) (pa_cons (pv 0 (hv := Or.inl rfl)) (pa_cons (pe_bltn (v := .ty "bool") (by rfl) T.n_bool (by decide +kernel) rfl) pa_nil)))))))), ?_⟩
    try dsimp only [cxOf, Cx.nox, Cx.wish, Cx.blk]
    rw [show L2.start ["value"] [v] = [some (v)] from rfl]
    obtain ⟨⟨t, ty, e1, -, c, e2, e3⟩, k⟩ := h
    walk_at "rd"
    refine w_isi ty e1 ?_
    walk_at "rd"
    cases hb : (b || t == "bool") with
    | false =>
      rw [hb] at e3
      have e3 : false = b := e3
      refine iteF ?_
      rw [e3]; exact k
    | true =>
      rw [hb] at e3
      refine iteT ?_
      walk_at "rd"
      refine w_isi ty e2 ?_
      walk_at "rd"
      have e4 : (!c) = b := e3
      rw [e4]; exact k
def sp_is_sixty_digits (K : PySem.W.Frag) (C : Addr) (TS : List (Addr × Str)) : Sp := fun vs H Q _ => ∃ (i : Int), vs = [.int i] ∧ Q (.bl (decide (-(10 ^ 60) < i ∧ i < 10 ^ 60))) H
theorem ok_is_sixty_digits {P : Program} {w : World} {K : PySem.W.Frag} {mg : Str → Option Value} {base : Heap} (T : Txt K mg) (B : TBs T base) : FnOk P w K mg base CX0 2 T.f_is_sixty_digits T.fd_is_sixty_digits ["value"] (sp_is_sixty_digits K T.C_Kind T.tabs) := by
  have G_is_integer := ok_is_integer (P := P) (w := w) (base := base) T B
  refine T.F_is_sixty_digits.ok sc_is_sixty_digits (fun vs H Q E h => ?_) (fun cdv A outer s H vs Q E hr h => ?_)
  · obtain ⟨i, rfl, _⟩ := h
    rfl
  · obtain ⟨i, rfl, h⟩ := h
    have hr_is_integer : Room 1 _ := hr.mono (by decide)
    refine ⟨_, (pss_one (ps_ret (pe_and (pe_call G_is_integer hr_is_integer rfl T.g_is_integer T.k_is_integer T.b_is_integer .nil pass0 (pa_cons (pv 0 (hv := Or.inl rfl)) pa_nil)) (pe_one (pe_cmpR op_lt (pe_callB (id := "abs") (r := rAbsC) call_abs (by rfl) T.n_abs (by decide +kernel) (pa_cons (pv 0 (hv := Or.inl rfl)) pa_nil)) (pe_glob (v := .int 1000000000000000000000000000000000000000000000000000000000000) rfl T.g_BEYOND_SIXTY_DIGITS ⟨_, rfl⟩) (nomark _)))))), ?_⟩
    try dsimp only [cxOf, Cx.nox, Cx.wish, Cx.blk]
    rw [show L2.start ["value"] [.int i] = [some (.int i)] from rfl]
    walk_at "rd"
    refine ⟨.int i, true, rfl, IntQ.int i, ?_⟩
    walk_at "rd"
    refine iteT ?_
    walk_at "rd"
    have e : decide (ab i < 1000000000000000000000000000000000000000000000000000000000000) = decide (-(10 ^ 60) < i ∧ i < 10 ^ 60) := by
      unfold ab
      by_cases c : i < 0
      · rw [if_pos c]
        by_cases d : -(10 ^ 60) < i
        · rw [decide_eq_true (show -i < 1000000000000000000000000000000000000000000000000000000000000 by omega), decide_eq_true ⟨d, by omega⟩]
        · rw [decide_eq_false (show ¬ -i < 1000000000000000000000000000000000000000000000000000000000000 by omega), decide_eq_false fun z => d z.1]
      · rw [if_neg c]
        by_cases d : i < 10 ^ 60
        · rw [decide_eq_true (show i < 1000000000000000000000000000000000000000000000000000000000000 by omega), decide_eq_true ⟨by omega, d⟩]
        · rw [decide_eq_false (show ¬ i < 1000000000000000000000000000000000000000000000000000000000000 by omega), decide_eq_false fun z => d z.2]
    rw [e]
    exact h
def sp_factors_of_two (K : PySem.W.Frag) (C : Addr) (TS : List (Addr × Str)) : Sp := fun vs H Q _ => ∃ (n a : Int) (j : Nat), vs = [.int n] ∧ n = 2 ^ j * (2 * a + 1) ∧ Q (.int (j : Int)) H
theorem ok_factors_of_two {P : Program} {w : World} {K : PySem.W.Frag} {mg : Str → Option Value} {base : Heap} (T : Txt K mg) (B : TBs T base) : FnOk P w K mg base CX0 1 T.f_factors_of_two T.fd_factors_of_two ["n"] (sp_factors_of_two K T.C_Kind T.tabs) := by
  refine T.F_factors_of_two.ok sc_factors_of_two (fun vs H Q E h => ?_) (fun cdv A outer s H vs Q E hr h => ?_)
  · obtain ⟨n, a, j, rfl, _⟩ := h
    rfl
  · obtain ⟨n, a, j, rfl, h⟩ := h
    refine ⟨_, (pss_one (ps_ret (pe_op op_sub (pe_bits (pe_op op_and (pv 0 (hv := Or.inl rfl)) (pe_un un_neg (pv 0 (hv := Or.inl rfl))))) pe_int))), ?_⟩
    try dsimp only [cxOf, Cx.nox, Cx.wish, Cx.blk]
    rw [show L2.start ["n"] [.int n] = [some (.int n)] from rfl]
    obtain ⟨c, k⟩ := h
    walk_at "rd"
    rw [c, PySem.W.kbt_low, bits_pow, show (((j + 1 : Nat) : Int) - 1) = (j : Int) by omega]
    exact k
def sp_twos_in (K : PySem.W.Frag) (C : Addr) (TS : List (Addr × Str)) : Sp := fun vs H Q _ => ∃ (n : Int) (m : Nat), vs = [.int n, .int (m : Int)] ∧ m ≤ 1000 ∧ Q (.int (gv m n : Nat)) H
theorem ok_twos_in {P : Program} {w : World} {K : PySem.W.Frag} {mg : Str → Option Value} {base : Heap} (T : Txt K mg) (B : TBs T base) : FnOk P w K mg base CX0 2 T.f_twos_in T.fd_twos_in ["n", "most"] (sp_twos_in K T.C_Kind T.tabs) := by
  have G_factors_of_two := ok_factors_of_two (P := P) (w := w) (base := base) T B
  refine T.F_twos_in.ok sc_twos_in (fun vs H Q E h => ?_) (fun cdv A outer s H vs Q E hr h => ?_)
  · obtain ⟨n, m, rfl, _⟩ := h
    rfl
  · obtain ⟨n, m, rfl, h⟩ := h
    have hr_factors_of_two : Room 1 _ := hr.mono (by decide)
    refine ⟨_, (pss_one (ps_ret (pe_ifExp (pt_cmpR op_eq (pe_op op_mod (pv 0 (hv := Or.inl rfl)) (pe_op op_shl pe_int (pv 1 (hv := Or.inl rfl)))) pe_int (nomark _)) (pv 1 (hv := Or.inl rfl)) (pe_call G_factors_of_two hr_factors_of_two rfl T.g_factors_of_two T.k_factors_of_two T.b_factors_of_two .nil pass0 (pa_cons (pv 0 (hv := Or.inl rfl)) pa_nil))))), ?_⟩
    try dsimp only [cxOf, Cx.nox, Cx.wish, Cx.blk]
    rw [show L2.start ["n", "most"] [.int n, .int (m : Int)] = [some (.int n), some (.int (m : Int))] from rfl]
    obtain ⟨m1, k⟩ := h
    walk_at "rd"
    refine w_if ?_
    walk_at "rd"
    refine w_I (cpow (n := 1) (by omega) (by decide)) ?_
    rw [Int.toNat_natCast, Int.one_mul]
    refine w_I (p2 m) ?_
    walk_at "rd"
    refine w_dec (fun c => ?_) (fun c => ?_)
    · walk_at "rd"
      rw [gv_full.mp (Int.dvd_of_emod_eq_zero c)] at k
      exact k
    · have nz : n ≠ 0 := fun z => c (by rw [z, Int.zero_emod])
      obtain ⟨j, a, e⟩ := two_ex _ n (Nat.le_refl _) nz
      have jm : j ≤ m := Nat.le_of_not_lt fun z => c (Int.emod_eq_zero_of_dvd (by rw [e]; exact Int.dvd_trans (gpp (Nat.le_of_lt z)) (Int.dvd_mul_right _ _)))
      walk_at "rd"
      refine ⟨n, a, j, rfl, e, ?_⟩
      rw [gv_val e jm] at k
      exact k
def sp_Kind___init__ (K : PySem.W.Frag) (C : Addr) (TS : List (Addr × Str)) : Sp := fun vs H Q _ => ∃ (p : Addr) (wd : Nat) (s : Bool), vs = [.ref p, .int (wd : Int), .bl s] ∧ (∃ dx, H p = some (.ins C dx [])) ∧ 1 ≤ wd ∧ wd ≤ 128 ∧ ∀ H', Kd C H' p wd s → Kp p H H' → Q .non H'
theorem ok_Kind___init__ {P : Program} {w : World} {K : PySem.W.Frag} {mg : Str → Option Value} {base : Heap} (T : Txt K mg) (B : TBs T base) : FnOk P w K mg base CX0 2 T.f_Kind___init__ T.fd_Kind___init__ ["self", "bits", "is_signed"] (sp_Kind___init__ K T.C_Kind T.tabs) := by
  have G_is_integer := ok_is_integer (P := P) (w := w) (base := base) T B
  refine T.F_Kind___init__.ok sc_Kind___init__ (fun vs H Q E h => ?_) (fun cdv A outer s H vs Q E hr h => ?_)
  · obtain ⟨p, wd, s, rfl, _⟩ := h
    rfl
  · obtain ⟨p, wd, s, rfl, h⟩ := h
    have hr_is_integer : Room 1 _ := hr.mono (by decide)
    refine ⟨_, (pss_cons (ps_if (pt_not (PW.pt (pw_and (pt_val (pe_call G_is_integer hr_is_integer rfl T.g_is_integer T.k_is_integer T.b_is_integer .nil pass0 (pa_cons (pv 1 (hv := Or.inl rfl)) pa_nil))) (pw_and1 (pt_chain op_le op_le pe_int (pv 1 (hv := Or.inl rfl)) (pe_glob (v := .int 128) rfl T.g_MOST_BITS ⟨_, rfl⟩)))))) (pss_one ps_never) pss_nil)
      (pss_cons (ps_if (pt_not (pt_val (pe_callB (id := "isinstance") (r := rIsi K) call_isi (by rfl) T.n_isinstance (by decide +kernel) (pa_cons (pv 2 (hv := Or.inl rfl)) (pa_cons (pe_bltn (v := .ty "bool") (by rfl) T.n_bool (by decide +kernel) rfl) pa_nil))))) (pss_one ps_never) pss_nil)
      (pss_cons (ps_fld (pv 0 (hv := Or.inl rfl)) (pv 1 (hv := Or.inl rfl)) rfl)
      (pss_one (ps_fld (pv 0 (hv := Or.inl rfl)) (pv 2 (hv := Or.inl rfl)) rfl))))), ?_⟩
    try dsimp only [cxOf, Cx.nox, Cx.wish, Cx.blk]
    rw [show L2.start ["self", "bits", "is_signed"] [.ref p, .int (wd : Int), .bl s] = [some (.ref p), some (.int (wd : Int)), some (.bl s)] from rfl]
    obtain ⟨⟨dx, hp⟩, h1, h2, k⟩ := h
    walk_at "rd"
    refine ⟨_, true, rfl, IntQ.int _, ?_⟩
    walk_at "rd"
    refine iteT ?_
    walk_at "rd"
    refine w_chain ?_
    walk_at "rd"
    refine w_decT (by omega) ?_
    walk_at "rd"
    refine w_bF (by rw [decide_eq_true (show ((wd : Int) ≤ 128) by omega)]; rfl) ?_
    walk_at "rd"
    refine w_isi (b := true) (.base (.bl s)) (by decide +kernel) ?_
    walk_at "rd"
    refine iteF ?_
    walk_at "rd"
    refine ⟨p, _, dx, _, rfl, hp, T.cl_Kind, T.na_Kind_bits, (by show 0 < 1000; decide), ?_⟩
    walk_at "rd"
    refine ⟨p, _, dx, _, rfl, upd_same, T.cl_Kind, T.na_Kind_is_signed, (by show 1 < 1000; decide), ?_⟩
    refine k _ ⟨⟨dx, ?_⟩, h1, h2⟩ ((Kp.refl p H).upd.upd)
    rw [upd_same]
    show some (HO.ins _ _ (if ("bits" : Str) = "is_signed" then [(("bits" : Str), V.bl s)] else (("bits" : Str), V.int (wd : Int)) :: putF "is_signed" (V.bl s) [])) = _
    rw [if_neg (by decide +kernel)]
    rfl
def sp_check_kind (K : PySem.W.Frag) (C : Addr) (TS : List (Addr × Str)) : Sp := fun vs H Q _ => ∃ (p : Addr), vs = [.ref p] ∧ (∃ wd s, Kd C H p wd s) ∧ Q .non H
theorem ok_check_kind {P : Program} {w : World} {K : PySem.W.Frag} {mg : Str → Option Value} {base : Heap} (T : Txt K mg) (B : TBs T base) : FnOk P w K mg base CX0 1 T.f_check_kind T.fd_check_kind ["kind"] (sp_check_kind K T.C_Kind T.tabs) := by
  refine T.F_check_kind.ok sc_check_kind (fun vs H Q E h => ?_) (fun cdv A outer s H vs Q E hr h => ?_)
  · obtain ⟨p, rfl, _⟩ := h
    rfl
  · obtain ⟨p, rfl, h⟩ := h
    refine ⟨_, (pss_one (ps_if (pt_not (pt_val (pe_callB (id := "isinstance") (r := rIsi K) call_isi (by rfl) T.n_isinstance (by decide +kernel) (pa_cons (pv 0 (hv := Or.inl rfl)) (pa_cons (pe_glob (v := .ref T.C_Kind) rfl T.g_Kind rfl) pa_nil))))) (pss_one ps_never) pss_nil)), ?_⟩
    try dsimp only [cxOf, Cx.nox, Cx.wish, Cx.blk]
    rw [show L2.start ["kind"] [.ref p] = [some (.ref p)] from rfl]
    obtain ⟨⟨wd, s, hk⟩, k⟩ := h
    walk_at "rd"
    refine w_isK T hk ?_
    walk_at "rd"
    refine iteF ?_
    walk_at "rd"
    exact k
def sp_least_passing (K : PySem.W.Frag) (C : Addr) (TS : List (Addr × Str)) : CP → Sp := fun CC => fun vs H Q _ => ∃ (f : Addr) (first last : Int) (P : Int → Bool), vs = [.ref f, .int first, .int last] ∧ CC 14 f (spP TS H P first last) ∧ first ≤ last ∧ P last = true ∧ (∀ y z, first ≤ y → y ≤ z → z ≤ last → P y = true → P z = true) ∧ ∀ x H', first ≤ x → x ≤ last → P x = true → (∀ y, first ≤ y → y < x → P y = false) → Sm TS H H' → Q (.int x) H'
theorem ok_least_passing {P : Program} {w : World} {K : PySem.W.Frag} {mg : Str → Option Value} {base : Heap} (T : Txt K mg) (B : TBs T base) : FnOkC P w K mg base 15 T.f_least_passing T.fd_least_passing ["passes", "first", "last"] (sp_least_passing K T.C_Kind T.tabs) := by
  refine Fw.okC T.F_least_passing sc_least_passing (fun CC vs H Q E h => ?_) (fun cdv A outer s H vs Q hr h => ?_)
  · obtain ⟨f, first, last, P, rfl, _⟩ := h
    rfl
  · let CC : CP := Cal P w K mg base outer H s
    obtain ⟨f, first, last, P, rfl, h⟩ := h
    refine ⟨_, (pss_cons (ps_while PassesOwn.never (pt_cmpR op_lt (pv 1 (hv := Or.inl rfl)) (pv 2 (hv := Or.inl rfl)) (nomark _))
        (pss_cons (ps_set (i := 3) sc_least_passing.nd rfl (Or.inl rfl) (pe_op op_fdiv (pe_op op_add (pv 1 (hv := Or.inl rfl)) (pv 2 (hv := Or.inl rfl))) pe_int))
      (pss_one (ps_if (pt_val (pe_cal (C := CC) (k := 14) (i := 0) (fun _ _ _ z => z) (hr.mono (by decide)) rfl (Or.inl rfl) rfl (pa_cons (pv 3 (hv := Or.inl rfl)) pa_nil))) (pss_one (ps_set (i := 2) sc_least_passing.nd rfl (Or.inl rfl) (pv 3 (hv := Or.inl rfl)))) (pss_one (ps_set (i := 1) sc_least_passing.nd rfl (Or.inl rfl) (pe_op op_add (pv 3 (hv := Or.inl rfl)) pe_int)))))))
      (pss_one (ps_ret (pv 1 (hv := Or.inl rfl))))), ?_⟩
    try dsimp only [cxOf, Cx.nox, Cx.wish, Cx.blk]
    rw [show L2.start ["passes", "first", "last", "middle"] [.ref f, .int first, .int last] = [some (.ref f), some (.int first), some (.int last), none] from rfl]
    obtain ⟨hc, h1, h2, mono, k⟩ := h
    walk_at "rd"
    refine w_while (fun m σ H' => ∃ (a b : Int) (v : Option V), σ = [some (.ref f), some (.int a), some (.int b), v] ∧ m = (b - a).toNat ∧ first ≤ a ∧ a ≤ b ∧ b ≤ last ∧ P b = true ∧ (∀ y, first ≤ y → y < a → P y = false) ∧ Sm T.tabs H H')
      (last - first).toNat ⟨first, last, none, rfl, rfl, Int.le_refl _, h1, Int.le_refl _, h2, fun y z1 z2 => by omega, Sm.refl H⟩ ?_
    rintro m σ H' ⟨a, b, v, rfl, rfl, ha, hab, hb, hP, hlow, sm⟩
    walk_at "rd"
    refine w_dec (fun c => ?_) (fun c => ?_)
    · refine ⟨_, fun _ _ h => h, ?_⟩
      walk_at "rd"
      have b1 : a ≤ (a + b) / 2 := by omega
      have b2 : (a + b) / 2 < b := by omega
      refine ⟨f, _, rfl, hc, ?_⟩
      walk_at "rd"
      refine ⟨_, rfl, by omega, by omega, sm, fun H2 s2 => ?_⟩
      walk_at "rd"
      cases e : P ((a + b) / 2) with
      | true =>
        refine iteT ?_
        walk_at "rd"
        exact ⟨_, by omega, a, _, _, rfl, rfl, ha, b1, by omega, e, hlow, sm.trans s2⟩
      | false =>
        refine iteF ?_
        walk_at "rd"
        refine ⟨_, by omega, _, b, _, rfl, rfl, by omega, by omega, hb, hP, fun y z1 z2 => ?_, sm.trans s2⟩
        cases e2 : P y with
        | false => rfl
        | true =>
          have := mono y ((a + b) / 2) z1 (by omega) (by omega) e2
          rw [e] at this; cases this
    · walk_at "rd"
      have eab : a = b := by omega
      subst eab
      exact k a H' ha hb hP hlow sm
def sp_is_polynomial (K : PySem.W.Frag) (C : Addr) (TS : List (Addr × Str)) : Sp := fun vs H Q _ => ∃ (p : Addr) (cs : List Int), vs = [.ref p] ∧ H p = some (.lst (cs.map V.int)) ∧ 1 ≤ cs.length ∧ cs.length ≤ 9 ∧ (∀ c ∈ cs, SD c) ∧ ∀ H', Same H H' → Q (.bl true) H'
theorem ok_is_polynomial {P : Program} {w : World} {K : PySem.W.Frag} {mg : Str → Option Value} {base : Heap} (T : Txt K mg) (B : TBs T base) : FnOk P w K mg base CX0 3 T.f_is_polynomial T.fd_is_polynomial ["value"] (sp_is_polynomial K T.C_Kind T.tabs) := by
  have G_is_sixty_digits := ok_is_sixty_digits (P := P) (w := w) (base := base) T B
  refine T.F_is_polynomial.ok sc_is_polynomial (fun vs H Q E h => ?_) (fun cdv A outer s H vs Q E hr h => ?_)
  · obtain ⟨p, cs, rfl, _⟩ := h
    rfl
  · obtain ⟨p, cs, rfl, h⟩ := h
    have hr_is_sixty_digits : Room 2 _ := hr.mono (by decide)
    refine ⟨_, (pss_cons (ps_if (pt_not (PW.pt (pw_and (pt_val (pe_callB (id := "isinstance") (r := rIsi K) call_isi (by rfl) T.n_isinstance (by decide +kernel) (pa_cons (pv 0 (hv := Or.inl rfl)) (pa_cons (pe_bltn (v := .ty "list") (by rfl) T.n_list (by decide +kernel) rfl) pa_nil)))) (pw_and1 (pt_chain op_le op_le pe_int (pe_callB (id := "len") (r := rLenS K) call_len_seq (by rfl) T.n_len (by decide +kernel) (pa_cons (pv 0 (hv := Or.inl rfl)) pa_nil)) (pe_glob (v := .int 9) rfl T.g_MOST_COEFFICIENTS ⟨_, rfl⟩)))))) (pss_one (ps_ret pe_bl)) pss_nil)
      (pss_one (ps_ret (pe_callB (id := "all") (r := rAll K) (cr_all rfl) (by rfl) T.n_all (by decide +kernel) (pa_cons (pe_lc (own := [("coefficient", 1)]) (g := gName 1) (tt := tYes) (by rfl) sc_is_polynomial.nd (pi_list (pv 0 (hv := Or.inl rfl))) (blkOk_by (own := [("coefficient", 1)]) (N := ["value", "coefficient"]) (sc := defScope s_is_polynomial) (by decide +kernel)) (fun _ _ _ _ _ => (pg_name (i := 1) sc_is_polynomial.nd rfl (Or.inl rfl))) (fun _ _ _ _ _ => pts_nil) (fun _ _ _ _ _ => (pe_call G_is_sixty_digits hr_is_sixty_digits rfl T.g_is_sixty_digits T.k_is_sixty_digits T.b_is_sixty_digits .nil pass0 (pa_cons (pv 1 (hv := Or.inl rfl)) pa_nil)))) pa_nil))))), ?_⟩
    try dsimp only [cxOf, Cx.nox, Cx.wish, Cx.blk]
    rw [show L2.start ["value", "coefficient"] [.ref p] = [some (.ref p), none] from rfl]
    obtain ⟨hp, l1, l9, hc, k⟩ := h
    walk_at "rd"
    refine w_isi (b := true) (.base (.lst hp)) (by decide +kernel) ?_
    walk_at "rd"
    refine iteT ?_
    walk_at "rd"
    refine w_chain ?_
    walk_at "rd"
    refine w_len hp ?_
    walk_at "rd"
    rw [List.length_map, decide_eq_true (show (1 : Int) ≤ (cs.length : Int) by omega)]
    refine iteT ?_
    walk_at "rd"
    rw [decide_eq_true (show (cs.length : Int) ≤ 9 by omega)]
    refine iteF ?_
    walk_at "rd"
    refine ⟨⟨_, SqL.of hp⟩, fun D hD => lc_list (K := K) (a := p) (xs := cs.map V.int) (fun j H' => H' D = some (.lst ((List.replicate j true).map V.bl)) ∧ Same H H') ⟨upd_same, sm_new (Same.refl H) hD⟩ (fun i H' _ q => SqL.of (q.2 _ _ hp)) ?_ ?_⟩
    · rintro j z H' hj ⟨hd, sm⟩
      obtain ⟨c, hcj, rfl⟩ := map_get hj
      have sc := hc c (List.mem_of_getElem? hcj)
      walk_at "rd"
      refine ⟨rfl, ?_⟩
      walk_at "rd"
      refine iteT ?_
      walk_at "rd"
      refine ⟨c, rfl, ?_⟩
      rw [decide_eq_true (show -(10 ^ 60) < c ∧ c < 10 ^ 60 from sc)]
      have jl := (List.getElem?_eq_some_iff.mp hcj).1
      refine ⟨_, hd, by rw [List.length_map, List.length_replicate]; exact Nat.lt_of_lt_of_le (show j < 9 by omega) (by decide), ?_, sm_mut sm hD⟩
      rw [upd_same, List.replicate_succ', List.map_append]; rfl
    rintro H' ⟨hd, sm⟩
    walk_at "rd"
    refine w_all hd ?_
    rw [show (List.replicate (cs.map V.int).length true).all id = true by simp]
    exact k _ sm
def sp_check_polynomial (K : PySem.W.Frag) (C : Addr) (TS : List (Addr × Str)) : Sp := fun vs H Q _ => ∃ (kp p : Addr) (cs : List Int), vs = [.ref kp, .ref p] ∧ (∃ wd s, Kd C H kp wd s) ∧ H p = some (.lst (cs.map V.int)) ∧ 1 ≤ cs.length ∧ cs.length ≤ 9 ∧ (∀ c ∈ cs, SD c) ∧ ∀ H', Same H H' → Q .non H'
theorem ok_check_polynomial {P : Program} {w : World} {K : PySem.W.Frag} {mg : Str → Option Value} {base : Heap} (T : Txt K mg) (B : TBs T base) : FnOk P w K mg base CX0 4 T.f_check_polynomial T.fd_check_polynomial ["kind", "polynomial"] (sp_check_polynomial K T.C_Kind T.tabs) := by
  have G_check_kind := ok_check_kind (P := P) (w := w) (base := base) T B
  have G_is_polynomial := ok_is_polynomial (P := P) (w := w) (base := base) T B
  refine T.F_check_polynomial.ok sc_check_polynomial (fun vs H Q E h => ?_) (fun cdv A outer s H vs Q E hr h => ?_)
  · obtain ⟨kp, p, cs, rfl, _⟩ := h
    rfl
  · obtain ⟨kp, p, cs, rfl, h⟩ := h
    have hr_check_kind : Room 1 _ := hr.mono (by decide)
    have hr_is_polynomial : Room 3 _ := hr.mono (by decide)
    refine ⟨_, (pss_cons (ps_expr (pe_call G_check_kind hr_check_kind rfl T.g_check_kind T.k_check_kind T.b_check_kind .nil pass0 (pa_cons (pv 0 (hv := Or.inl rfl)) pa_nil)))
      (pss_one (ps_if (pt_not (pt_val (pe_call G_is_polynomial hr_is_polynomial rfl T.g_is_polynomial T.k_is_polynomial T.b_is_polynomial .nil pass0 (pa_cons (pv 1 (hv := Or.inl rfl)) pa_nil)))) (pss_one ps_never) pss_nil))), ?_⟩
    try dsimp only [cxOf, Cx.nox, Cx.wish, Cx.blk]
    rw [show L2.start ["kind", "polynomial"] [.ref kp, .ref p] = [some (.ref kp), some (.ref p)] from rfl]
    obtain ⟨⟨wd, s, hk⟩, hp, l1, l9, hc, k⟩ := h
    walk_at "rd"
    refine ⟨kp, rfl, ⟨wd, s, hk⟩, ?_⟩
    walk_at "rd"
    refine ⟨p, cs, rfl, hp, l1, l9, hc, fun H1 s1 => ?_⟩
    walk_at "rd"
    refine iteF ?_
    walk_at "rd"
    exact k _ s1
def sp__value (K : PySem.W.Frag) (C : Addr) (TS : List (Addr × Str)) : Sp := fun vs H Q _ => ∃ (p : Addr) (cs : List Int) (x : Int) (b : Nat), vs = [.ref p, .int x, .int (2 ^ b)] ∧ H p = some (.lst (cs.map V.int)) ∧ b ≤ 200 ∧ x.natAbs < 2 ^ 3000 ∧ Q (.int (pvl cs x % 2 ^ b)) H
theorem ok__value {P : Program} {w : World} {K : PySem.W.Frag} {mg : Str → Option Value} {base : Heap} (T : Txt K mg) (B : TBs T base) : FnOk P w K mg base CX0 1 T.f__value T.fd__value ["polynomial", "x", "size"] (sp__value K T.C_Kind T.tabs) := by
  refine T.F__value.ok sc__value (fun vs H Q E h => ?_) (fun cdv A outer s H vs Q E hr h => ?_)
  · obtain ⟨p, cs, x, b, rfl, _⟩ := h
    rfl
  · obtain ⟨p, cs, x, b, rfl, h⟩ := h
    refine ⟨_, (pss_cons (ps_set (i := 3) sc__value.nd rfl (Or.inl rfl) pe_int)
      (pss_cons (ps_for PassesOwn.never rfl (pi_reversed (by rfl) T.n_reversed (pa_cons (pv 0 (hv := Or.inl rfl)) pa_nil)) (pg_name (i := 4) sc__value.nd rfl (Or.inl rfl))
        (pss_one (ps_set (i := 3) sc__value.nd rfl (Or.inl rfl) (pe_op op_mod (pe_op op_add (pe_op op_mulX (pv 3 (hv := Or.inl rfl)) (pv 1 (hv := Or.inl rfl))) (pv 4 (hv := Or.inl rfl))) (pv 2 (hv := Or.inl rfl))))))
      (pss_one (ps_ret (pv 3 (hv := Or.inl rfl)))))), ?_⟩
    try dsimp only [cxOf, Cx.nox, Cx.wish, Cx.blk]
    rw [show L2.start ["polynomial", "x", "size", "total", "coefficient"] [.ref p, .int x, .int (2 ^ b)] = [some (.ref p), some (.int x), some (.int (2 ^ b)), none, none] from rfl]
    obtain ⟨hp, b2, bx, k⟩ := h
    have hb := p2 b
    walk_at "rd"
    refine w_itR ?_
    walk_at "rd"
    refine ⟨p, cs.map V.int, rfl, SqL.of hp, for_it (walk_rev (K := K) (a := p) (xs := cs.map V.int)) (fun i σ H' => (∃ v4 : Option V, σ = [some (.ref p), some (.int x), some (.int (2 ^ b)), some (.int (pvl (cs.drop (cs.length - i)) x % 2 ^ b)), v4]) ∧ H' = H) ⟨⟨none, by rw [Nat.sub_zero, List.drop_length]; show _ = [_, _, _, some (V.int (0 % 2 ^ b)), none]; rw [Int.zero_emod]⟩, rfl⟩ (fun i σ H' _ q => by rw [q.2]; exact SqL.of hp) ?_ ?_⟩
    · rintro i z σ H' H'' hi ⟨⟨v4, rfl⟩, rfl⟩ ⟨rfl, hz⟩
      rw [List.length_map] at hi hz
      obtain ⟨c, hc, rfl⟩ := map_get hz
      have ed : cs.drop (cs.length - (i + 1)) = c :: cs.drop (cs.length - i) := by
        rw [show cs.length - (i + 1) = cs.length - 1 - i by omega, List.drop_eq_getElem_cons (by omega), show cs.length - 1 - i + 1 = cs.length - i by omega]
        congr 1
        exact Option.some.inj ((List.getElem?_eq_getElem _).symm.trans hc)
      have m0 := Int.emod_nonneg (pvl (cs.drop (cs.length - i)) x) (Int.ne_of_gt hb)
      have m1 := Int.emod_lt_of_pos (pvl (cs.drop (cs.length - i)) x) hb
      have tb : (pvl (cs.drop (cs.length - i)) x % 2 ^ b).natAbs < 2 ^ 201 := by
        have c2 : (2 : Int) ^ b ≤ 2 ^ 200 := by
          have := Nat.pow_le_pow_right (n := 2) (by decide) b2
          exact_mod_cast this
        have c3 : ((2 ^ 201 : Nat) : Int) = 2 ^ 201 := Int.natCast_pow 2 201
        have c4 : (2 : Int) ^ 200 < 2 ^ 201 := by decide +kernel
        omega
      walk_at "rd"
      refine w_I (mulx_ok tb bx (by decide)) ?_
      walk_at "rd"
      refine w_I hb ?_
      walk_at "rd"
      refine ⟨⟨some (.int c), ?_⟩, rfl⟩
      have e : (pvl (cs.drop (cs.length - i)) x % 2 ^ b * x + c) % 2 ^ b = pvl (cs.drop (cs.length - (i + 1))) x % 2 ^ b := by
        rw [ed]
        show _ = (c + x * pvl (cs.drop (cs.length - i)) x) % 2 ^ b
        refine gmd.mpr ?_
        rw [show pvl (cs.drop (cs.length - i)) x % 2 ^ b * x + c - (c + x * pvl (cs.drop (cs.length - i)) x) = (pvl (cs.drop (cs.length - i)) x % 2 ^ b - pvl (cs.drop (cs.length - i)) x) * x by rw [Int.sub_mul, Int.mul_comm x]; omega]
        exact Int.dvd_trans Int.dvd_emod_sub_self (Int.dvd_mul_right _ _)
      rw [e]
    rintro σ H' ⟨⟨v4, rfl⟩, rfl⟩
    walk_at "rd"
    rw [List.length_map, Nat.sub_self, List.drop_zero]
    exact k
def sp__one_behind (K : PySem.W.Frag) (C : Addr) (TS : List (Addr × Str)) : Sp := fun vs H Q _ => ∃ (p : Addr) (cs : List Int), vs = [.ref p] ∧ H p = some (.lst (cs.map V.int)) ∧ 1 ≤ cs.length ∧ cs.length ≤ 9 ∧ ∀ q H', Same H H' → H' q = some (.lst ((shf cs).map V.int)) → Q (.ref q) H'
theorem ok__one_behind {P : Program} {w : World} {K : PySem.W.Frag} {mg : Str → Option Value} {base : Heap} (T : Txt K mg) (B : TBs T base) : FnOk P w K mg base CX0 1 T.f__one_behind T.fd__one_behind ["polynomial"] (sp__one_behind K T.C_Kind T.tabs) := by
  refine T.F__one_behind.ok sc__one_behind (fun vs H Q E h => ?_) (fun cdv A outer s H vs Q E hr h => ?_)
  · obtain ⟨p, cs, rfl, _⟩ := h
    rfl
  · obtain ⟨p, cs, rfl, h⟩ := h
    refine ⟨_, (pss_cons (ps_set (i := 1) sc__one_behind.nd rfl (Or.inl rfl) (pe_callTy (T := "list") (r := rLstOf K) call_list_of (by rfl) T.n_list (by decide +kernel) (pa_cons (pv 0 (hv := Or.inl rfl)) pa_nil)))
      (pss_cons (ps_for PassesOwn.never rfl (pi_range1 (by rfl) T.n_range (pa_cons (pe_op op_sub (pe_callB (id := "len") (r := rLenS K) call_len_seq (by rfl) T.n_len (by decide +kernel) (pa_cons (pv 1 (hv := Or.inl rfl)) pa_nil)) pe_int) pa_nil)) (pg_name (i := 2) sc__one_behind.nd rfl (Or.inl rfl))
        (pss_one (ps_for PassesOwn.never rfl (pi_range3 (by rfl) T.n_range (pa_cons (pe_op op_sub (pe_callB (id := "len") (r := rLenS K) call_len_seq (by rfl) T.n_len (by decide +kernel) (pa_cons (pv 1 (hv := Or.inl rfl)) pa_nil)) pe_int) (pa_cons (pe_op op_sub (pv 2 (hv := Or.inl rfl)) pe_int) (pa_cons (pe_un un_neg pe_int) pa_nil)))) (pg_name (i := 3) sc__one_behind.nd rfl (Or.inl rfl))
        (pss_one (ps_augS (pv 1 (hv := Or.inl rfl)) (pv 3 (hv := Or.inl rfl)) pget_list (pe_ix (r := rIxL K) ix_list (pv 1 (hv := Or.inl rfl)) (pe_op op_add (pv 3 (hv := Or.inl rfl)) pe_int) (fun _ _ => rfl)) ip_add set_list)))))
      (pss_one (ps_ret (pv 1 (hv := Or.inl rfl)))))), ?_⟩
    try dsimp only [cxOf, Cx.nox, Cx.wish, Cx.blk]
    rw [show L2.start ["polynomial", "moved", "done", "i"] [.ref p] = [some (.ref p), none, none, none] from rfl]
    obtain ⟨hp, l1, l9, k⟩ := h
    obtain ⟨N, hN⟩ : ∃ N, cs.length = N + 1 := ⟨cs.length - 1, by omega⟩
    walk_at "rd"
    refine w_lstOf hp (fun M hM => ?_)
    have hMv : (L2.upd H M (.lst (cs.map V.int))) M = some (.lst (cs.map V.int)) := upd_same
    have sM := sm_new (o := .lst (cs.map V.int)) (Same.refl H) hM
    generalize L2.upd H M _ = H0 at hMv sM ⊢
    walk_at "rd"
    refine w_len hMv ?_
    walk_at "rd"
    refine ⟨_, rfl, by rw [List.length_map]; omega, by rw [List.length_map]; omega, ?_⟩
    rw [List.length_map, show ((cs.length : Int) - 1).toNat = N by omega]
    refine for_range (lo := 0) (n := N) (fun d σ H' => (∃ v2 v3 : Option V, σ = [some (.ref p), some (.ref M), v2, v3]) ∧ ∃ as bs : List Int, as.length = d ∧ as.length + bs.length = N + 1 ∧ (∀ t, pvl cs (t + 1) = pvl as t + t ^ d * pvl bs (t + 1)) ∧ H' M = some (.lst ((as ++ bs).map V.int)) ∧ Same H H')
      ⟨⟨_, _, rfl⟩, [], cs, rfl, by rw [List.length_nil, hN]; omega, fun t => by show _ = (0 : Int) + t ^ 0 * _; rw [Int.pow_zero, Int.one_mul, Int.zero_add], hMv, sM⟩ ?_ ?_
    rotate_left
    · rintro σ H' ⟨⟨v2, v3, rfl⟩, as, bs, al, abl, e, hm, sm⟩
      walk_at "rd"
      refine k M H' sm ?_
      obtain ⟨c, rfl⟩ : ∃ c, bs = [c] := by
        match bs, (show bs.length = 1 by omega) with
        | [c], _ => exact ⟨c, rfl⟩
      have : as ++ [c] = shf cs := shf_uniq (by rw [List.length_append, List.length_singleton, hN]; omega) fun t => by
        rw [e, pv_append, al]
        show _ + _ * (c + t * 0) = _ + _ * (c + (t + 1) * 0)
        rw [Int.mul_zero, Int.mul_zero]
      rw [← this]; exact hm
    rintro d σ H1 hd ⟨⟨v2, v3, rfl⟩, as, bs, al, abl, e, hm, sm⟩
    walk_at "rd"
    refine w_iRng3j ?_
    walk_at "rd"
    refine w_len hm ?_
    walk_at "rd"
    have bl : bs.length = N + 1 - d := by omega
    refine ⟨_, _, _, N - d, rfl, by
      have := RgC.neg (i := (((as ++ bs).map V.int).length : Int) - 2) (j := 0 + (d : Int) - 1) (by rw [List.length_map, List.length_append]; omega) (by rw [List.length_map, List.length_append]; omega) (by omega) (by omega)
      rw [show ((((as ++ bs).map V.int).length : Int) - 2 - (0 + (d : Int) - 1)).toNat = N - d by rw [List.length_map, List.length_append]; omega] at this
      exact this, for_rangeC (lo := (((as ++ bs).map V.int).length : Int) - 2) (c := -1) (n := N - d) (fun i σ H' => (∃ v3 : Option V, σ = [some (.ref p), some (.ref M), some (.int (0 + (d : Int))), v3]) ∧ H' M = some (.lst ((sfxL as bs (bs.length - 1 - i)).map V.int)) ∧ Same H H') ⟨⟨_, rfl⟩, by rw [Nat.sub_zero, sfxL_last (by omega)]; exact hm, sm⟩ ?_ ?_⟩
    · rintro i σ H2 hi ⟨⟨v3, rfl⟩, hm2, s2⟩
      obtain ⟨j, hj⟩ : ∃ j, bs.length - 1 - i = j + 1 := ⟨bs.length - 1 - i - 1, by omega⟩
      rw [hj] at hm2
      have jl : j < bs.length := by omega
      rw [show (((as ++ bs).map V.int).length : Int) - 2 + (i : Int) * -1 = ((as.length + j : Nat) : Int) by rw [List.length_map, List.length_append]; omega]
      walk_at "rd"
      refine w_augS ?_
      walk_at "rd"
      refine w_getL (v := .int bs[j]) hm2 (by rw [List.getElem?_map, sfxL_at jl]; rfl) ?_
      walk_at "rd"
      refine ⟨M, _, _, .int ((sfx (bs.drop (j + 1))).headD 0), rfl, rfl, SqL.of hm2, ?_, ?_⟩
      · unfold atI ixN
        have l2 : ((sfxL as bs (j + 1)).map V.int).length = as.length + bs.length := by
          rw [List.length_map, List.length_append, List.length_append, sfx_len, List.length_take, List.length_drop]; omega
        rw [l2, if_pos (by omega), if_pos (by omega), Option.bind_some, show (((as.length + j : Nat) : Int) + 1).toNat = as.length + j + 1 by omega, List.getElem?_map, sfxL_next (by omega)]
        rfl
      walk_at "rd"
      refine ⟨_, _, rfl, rfl, ?_⟩
      refine ⟨M, _, _, as.length + j, rfl, rfl, hm2, ?_, ?_⟩
      · unfold ixN
        have l2 : ((sfxL as bs (j + 1)).map V.int).length = as.length + bs.length := by
          rw [List.length_map, List.length_append, List.length_append, sfx_len, List.length_take, List.length_drop]; omega
        rw [l2, if_pos (by omega), if_pos (by omega), Int.toNat_natCast]
      rw [← List.map_set (f := V.int), sfxL_set jl]
      refine ⟨⟨_, rfl⟩, ?_, sm_mut s2 hM⟩
      rw [show bs.length - 1 - (i + 1) = j by omega]
      exact upd_same
    rintro σ H2 ⟨⟨v3, rfl⟩, hm2, s2⟩
    rw [show bs.length - 1 - (N - d) = 0 by omega, sfxL_zero] at hm2
    obtain ⟨h0, tl, e0⟩ : ∃ h0 tl, sfx bs = h0 :: tl := by
      have := sfx_len bs
      cases e : sfx bs with
      | nil => rw [e] at this; simp at this; omega
      | cons a l => exact ⟨a, l, rfl⟩
    have tll : tl.length + 1 = bs.length := by have := sfx_len bs; rw [e0] at this; simpa using this
    refine ⟨⟨_, _, rfl⟩, as ++ [h0], tl, by rw [List.length_append, List.length_singleton, al], by rw [List.length_append, List.length_singleton]; omega, fun t => ?_, by rw [e0] at hm2; rw [List.append_assoc]; exact hm2, s2⟩
    have e2 := pv_sfx (t + 1) bs
    rw [e0] at e2
    rw [e, e2, pv_append, al]
    show pvl as t + t ^ d * (h0 + (t + 1 - 1) * pvl tl (t + 1)) = pvl as t + t ^ d * (h0 + t * 0) + t ^ (d + 1) * pvl tl (t + 1)
    rw [show t + 1 - 1 = t by omega, Int.mul_zero, Int.add_zero, Int.mul_add, Int.pow_succ, Int.mul_assoc]
    omega
def sp__doubled (K : PySem.W.Frag) (C : Addr) (TS : List (Addr × Str)) : Sp := fun vs H Q _ => ∃ (p : Addr) (cs : List Int), vs = [.ref p] ∧ H p = some (.lst (cs.map V.int)) ∧ cs.length ≤ 9 ∧ (∀ c ∈ cs, c.natAbs < 2 ^ 300) ∧ ∀ q H', Same H H' → H' q = some (.lst ((dbl 0 cs).map V.int)) → Q (.ref q) H'
theorem ok__doubled {P : Program} {w : World} {K : PySem.W.Frag} {mg : Str → Option Value} {base : Heap} (T : Txt K mg) (B : TBs T base) : FnOk P w K mg base CX0 1 T.f__doubled T.fd__doubled ["polynomial"] (sp__doubled K T.C_Kind T.tabs) := by
  refine T.F__doubled.ok sc__doubled (fun vs H Q E h => ?_) (fun cdv A outer s H vs Q E hr h => ?_)
  · obtain ⟨p, cs, rfl, _⟩ := h
    rfl
  · obtain ⟨p, cs, rfl, h⟩ := h
    refine ⟨_, (pss_one (ps_ret (pe_lc (own := [("i", 1), ("coefficient", 2)]) (g := gTup K 2 (gCons (gName 1) (gCons (gName 2) gNil))) (tt := tYes) (by rfl) sc__doubled.nd (pi_enum (by rfl) T.n_enumerate (pa_cons (pv 0 (hv := Or.inl rfl)) pa_nil)) (blkOk_by (own := [("i", 1), ("coefficient", 2)]) (N := ["polynomial", "i", "coefficient"]) (sc := defScope s__doubled) (by decide +kernel)) (fun _ _ _ _ _ => (pg_tup rfl (pgs_cons (pg_name (i := 1) sc__doubled.nd rfl (Or.inl rfl)) (pgs_cons (pg_name (i := 2) sc__doubled.nd rfl (Or.inl rfl)) pgs_nil)))) (fun _ _ _ _ _ => pts_nil) (fun _ _ _ _ _ => (pe_op op_shlW (pv 2 (hv := Or.inl rfl)) (pv 1 (hv := Or.inl rfl))))))), ?_⟩
    try dsimp only [cxOf, Cx.nox, Cx.wish, Cx.blk]
    rw [show L2.start ["polynomial", "i", "coefficient"] [.ref p] = [some (.ref p), none, none] from rfl]
    obtain ⟨hp, l9, hb, k⟩ := h
    walk_at "rd"
    refine w_itE ?_
    walk_at "rd"
    refine ⟨p, cs.map V.int, rfl, SqL.of hp, fun D hD => lc_it (walk_enum (K := K) (a := p) (xs := cs.map V.int)) (fun j H' => H' D = some (.lst (((dbl 0 cs).take j).map V.int)) ∧ Same H H') ⟨upd_same, sm_new (Same.refl H) hD⟩ (fun i H' _ q => SqL.of (q.2 _ _ hp)) ?_ ?_⟩
    · rintro j z H' H'' hj ⟨hd, sm⟩ hy
      obtain ⟨tp, u, o', rfl, htp, rfl, hu, ho⟩ := hy
      obtain rfl : V.int (j : Nat) = u := Option.some.inj hu
      obtain ⟨c, hc, rfl⟩ := map_get ho
      have jl := (List.getElem?_eq_some_iff.mp hc).1
      have hd' := gn (u := .tup [.int (j : Nat), .int c]) hd htp
      have sm' := sm_new (o := .tup [.int (j : Nat), .int c]) sm htp
      walk_at "rd"
      refine ⟨rfl, ?_⟩
      walk_at "rd"
      refine iteT ?_
      walk_at "rd"
      refine w_I (shl_ok (hb c (List.mem_of_getElem? hc)) (by omega)) ?_
      refine ⟨_, hd', by rw [List.length_map, List.length_take]; exact Nat.lt_of_le_of_lt (show _ ≤ 9 by omega) (by decide), ?_, sm_mut sm' hD⟩
      rw [upd_same, List.take_add_one, dbl_get, hc, List.map_append]
      rw [Nat.zero_add, Int.toNat_natCast]
      rfl
    rintro H' ⟨hd, sm⟩
    rw [List.length_map, List.take_of_length_le (by rw [dbl_len]; exact Nat.le_refl _)] at hd
    exact k D H' sm hd
def sp__halves (K : PySem.W.Frag) (C : Addr) (TS : List (Addr × Str)) : Sp := fun vs H Q _ => ∃ (q : Addr) (f : Int) (k l : Nat) (cs : List Int), vs = [.ref q] ∧ NdAt H q f k cs l ∧ k ≤ 200 ∧ l ≤ 200 ∧ 1 ≤ cs.length ∧ cs.length ≤ 9 ∧ (∀ c ∈ cs, 0 ≤ c ∧ c < 2 ^ l) ∧ (∃ c ∈ cs, c ≠ 0) ∧ ∀ (s : Nat) (red : List Int) r out H', (∀ c ∈ cs, (2 : Int) ^ s ∣ c) → (∃ c ∈ cs, ¬ (2 : Int) ^ (s + 1) ∣ c) → s < l → red = cs.map (fun c => c / 2 ^ s) → Same H H' → H' r = some (.lst out) → (∀ m0 m1, NdL H' out ((if pvl red 0 % 2 = 0 then [⟨f, k + 1, dbl 0 red, l - s, m0⟩] else []) ++ (if pvl red 1 % 2 = 0 then [⟨f + 2 ^ k, k + 1, dbl 0 (shf red), l - s, m1⟩] else []))) → Q (.ref r) H'
theorem ok__halves {P : Program} {w : World} {K : PySem.W.Frag} {mg : Str → Option Value} {base : Heap} (T : Txt K mg) (B : TBs T base) : FnOk P w K mg base CX0 2 T.f__halves T.fd__halves ["node"] (sp__halves K T.C_Kind T.tabs) := by
  have G__doubled := ok__doubled (P := P) (w := w) (base := base) T B
  have G__one_behind := ok__one_behind (P := P) (w := w) (base := base) T B
  have G_factors_of_two := ok_factors_of_two (P := P) (w := w) (base := base) T B
  refine T.F__halves.ok sc__halves (fun vs H Q E h => ?_) (fun cdv A outer s H vs Q E hr h => ?_)
  · obtain ⟨q, f, k, l, cs, rfl, _⟩ := h
    rfl
  · obtain ⟨q, f, k, l, cs, rfl, h⟩ := h
    have hr__doubled : Room 1 _ := hr.mono (by decide)
    have hr__one_behind : Room 1 _ := hr.mono (by decide)
    have hr_factors_of_two : Room 1 _ := hr.mono (by decide)
    refine ⟨_, (pss_cons (ps_asg (pv 0 (hv := Or.inl rfl)) (pg_tup rfl (pgs_cons (pg_name (i := 1) sc__halves.nd rfl (Or.inl rfl)) (pgs_cons (pg_name (i := 2) sc__halves.nd rfl (Or.inl rfl)) (pgs_cons (pg_name (i := 3) sc__halves.nd rfl (Or.inl rfl)) (pgs_cons (pg_name (i := 4) sc__halves.nd rfl (Or.inl rfl)) pgs_nil))))))
      (pss_cons (ps_set (i := 5) sc__halves.nd rfl (Or.inr rfl) (pe_callB (id := "min") (r := rMin K) (cr_min rfl) (by rfl) T.n_min (by decide +kernel) (pa_cons (pe_lc (own := [("coefficient", 6)]) (g := gName 6) (by rfl) sc__halves.nd (pi_list (pv 3 (hv := Or.inl rfl))) (blkOk_by (own := [("coefficient", 6)]) (N := ["node", "first", "k", "polynomial", "left", "shared", "coefficient", "reduced", "halves"]) (sc := defScope s__halves) (by decide +kernel)) (fun _ _ _ _ _ => (pg_name (i := 6) sc__halves.nd rfl (Or.inl rfl))) (fun _ _ _ _ _ => pts_one (pt_cmpR op_ne (pv 6 (hv := Or.inl rfl)) pe_int (nomark _))) (fun _ _ _ _ _ => (pe_call G_factors_of_two hr_factors_of_two rfl T.g_factors_of_two T.k_factors_of_two T.b_factors_of_two .nil pass0 (pa_cons (pv 6 (hv := Or.inl rfl)) pa_nil)))) pa_nil)))
      (pss_cons (ps_setLc (i := 7) (own := [("coefficient", 6)]) (g := gName 6) (tt := tYes) rfl sc__halves.nd rfl rfl (sw_true rfl rfl rfl (by decide +kernel)) (pi_list (pv 3 (hv := Or.inl rfl))) (blkOk_by (own := [("coefficient", 6)]) (N := ["node", "first", "k", "polynomial", "left", "shared", "coefficient", "reduced", "halves"]) (sc := defScope s__halves) (by decide +kernel)) (fun _ _ _ _ _ => (pg_name (i := 6) sc__halves.nd rfl (Or.inl rfl))) (fun _ _ _ _ _ => pts_nil) (fun _ _ _ _ _ => (pe_op op_shr (pv 6 (hv := Or.inl rfl)) (pv 5 (hv := Or.inr (Or.inl rfl))))))
      (pss_cons (ps_set (i := 8) sc__halves.nd rfl (Or.inl rfl) (pe_lst pa_nil))
      (pss_cons (ps_if (pt_cmpR op_eq (pe_op op_mod (pe_ix (r := rIxL K) ix_list (pv 7 (hv := Or.inl rfl)) pe_int (fun _ _ => rfl)) pe_int) pe_int (nomark _)) (pss_one (ps_expr (pe_bm PySem.F.plainAttrs_list PySem.F.slot_list_append PySem.F.type_list_append mt_append (pv 8 (hv := Or.inl rfl)) (pa_cons (pe_tup (pa_cons (pv 1 (hv := Or.inl rfl)) (pa_cons (pe_op op_add (pv 2 (hv := Or.inl rfl)) pe_int) (pa_cons (pe_call G__doubled hr__doubled rfl T.g__doubled T.k__doubled T.b__doubled .nil pass0 (pa_cons (pv 7 (hv := Or.inl rfl)) pa_nil)) (pa_cons (pe_op op_sub (pv 4 (hv := Or.inl rfl)) (pv 5 (hv := Or.inr (Or.inl rfl)))) pa_nil))))) pa_nil)))) pss_nil)
      (pss_cons (ps_if (pt_cmpR op_eq (pe_op op_mod (pe_callB (id := "sum") (r := rSum K) (cr_sum rfl) (by rfl) T.n_sum (by decide +kernel) (pa_cons (pv 7 (hv := Or.inl rfl)) pa_nil)) pe_int) pe_int (nomark _)) (pss_one (ps_expr (pe_bm PySem.F.plainAttrs_list PySem.F.slot_list_append PySem.F.type_list_append mt_append (pv 8 (hv := Or.inl rfl)) (pa_cons (pe_tup (pa_cons (pe_op op_add (pv 1 (hv := Or.inl rfl)) (pe_op op_shl pe_int (pv 2 (hv := Or.inl rfl)))) (pa_cons (pe_op op_add (pv 2 (hv := Or.inl rfl)) pe_int) (pa_cons (pe_call G__doubled hr__doubled rfl T.g__doubled T.k__doubled T.b__doubled .nil pass0 (pa_cons (pe_call G__one_behind hr__one_behind rfl T.g__one_behind T.k__one_behind T.b__one_behind .nil pass0 (pa_cons (pv 7 (hv := Or.inl rfl)) pa_nil)) pa_nil)) (pa_cons (pe_op op_sub (pv 4 (hv := Or.inl rfl)) (pv 5 (hv := Or.inr (Or.inl rfl)))) pa_nil))))) pa_nil)))) pss_nil)
      (pss_one (ps_ret (pv 8 (hv := Or.inl rfl)))))))))), ?_⟩
    try dsimp only [cxOf, Cx.nox, Cx.wish, Cx.blk]
    rw [show L2.start ["node", "first", "k", "polynomial", "left", "shared", "coefficient", "reduced", "halves"] [.ref q] = [some (.ref q), none, none, none, none, none, none, none, none] from rfl]
    obtain ⟨⟨D, hq, hD⟩, k2, l2, c1, c9, cb, ⟨c0, c0m, c0n⟩, kk⟩ := h
    walk_at "rd"
    refine ⟨⟨_, SqL.of hD⟩, fun L hL => lc_list (K := K) (a := D) (xs := cs.map V.int) (fun j H' => ∃ js : List Int, H' L = some (.lst (js.map V.int)) ∧ js.length ≤ j ∧ TwosOf (cs.take j) js ∧ Same H H') ⟨[], upd_same, Nat.le_refl _, ⟨fun c hc => (by cases hc), fun j hj => (by cases hj)⟩, sm_new (Same.refl H) hL⟩ (fun i H' _ q => SqL.of (q.choose_spec.2.2.2 _ _ hD)) ?_ ?_⟩
    · rintro j z H' hj ⟨js, hl, jl, tw, sm⟩
      obtain ⟨c, hc, rfl⟩ := map_get hj
      have jlt := (List.getElem?_eq_some_iff.mp hc).1
      have et : cs.take (j + 1) = cs.take j ++ [c] := by rw [List.take_add_one, hc]; rfl
      walk_at "rd"
      refine ⟨rfl, ?_⟩
      walk_at "rd"
      refine w_ndec (fun nz => ?_) (fun z0 => ?_)
      · obtain ⟨i, a, e⟩ := two_ex _ c (Nat.le_refl _) nz
        walk_at "rd"
        refine ⟨c, a, i, rfl, e, ?_⟩
        refine ⟨_, hl, by rw [List.length_map]; exact Nat.lt_of_le_of_lt jl (Nat.lt_of_lt_of_le (show j < 9 by omega) (by decide)), js ++ [(i : Int)], ?_, by rw [List.length_append, List.length_singleton]; omega, ?_, sm_mut sm hL⟩
        · rw [upd_same, List.map_append]; rfl
        · rw [et]
          refine ⟨fun d hd dn => ?_, fun y hy => ?_⟩
          · rcases List.mem_append.mp hd with hd | hd
            · obtain ⟨i', a', h1, h2⟩ := tw.1 d hd dn
              exact ⟨i', a', List.mem_append.mpr (.inl h1), h2⟩
            · rw [List.mem_singleton.mp hd]
              exact ⟨i, a, List.mem_append.mpr (.inr (List.mem_singleton.mpr rfl)), e⟩
          · rcases List.mem_append.mp hy with hy | hy
            · obtain ⟨i', a', c', h1, h2, h3⟩ := tw.2 y hy
              exact ⟨i', a', c', h1, List.mem_append.mpr (.inl h2), h3⟩
            · exact ⟨i, a, c, List.mem_singleton.mp hy, List.mem_append.mpr (.inr (List.mem_singleton.mpr rfl)), e⟩
      · refine ⟨js, hl, by omega, ?_, sm⟩
        rw [et]
        refine ⟨fun d hd dn => ?_, fun y hy => ?_⟩
        · rcases List.mem_append.mp hd with hd | hd
          · exact tw.1 d hd dn
          · exact absurd ((List.mem_singleton.mp hd).trans z0) dn
        · obtain ⟨i', a', c', h1, h2, h3⟩ := tw.2 y hy
          exact ⟨i', a', c', h1, List.mem_append.mpr (.inl h2), h3⟩
    rintro H1 ⟨js, hl, jl, tw, s1⟩
    rw [List.length_map, List.take_length] at tw
    have jne : 0 < js.length := by
      obtain ⟨i, a, h1, _⟩ := tw.1 c0 c0m c0n
      exact List.length_pos_of_mem h1
    walk_at "rd"
    refine w_minL (SqL.of hl) jne (fun m hm hle => ?_)
    obtain ⟨s, rfl, sd, so⟩ := twos_min tw hm hle
    have sl : s < l := by
      refine Nat.lt_of_not_le fun z => ?_
      obtain ⟨b1, b2⟩ := cb c0 c0m
      have := Int.le_of_dvd (by omega) (Int.dvd_trans (gpp z) (sd c0 c0m))
      omega
    obtain ⟨red, hred⟩ : ∃ red, red = cs.map (fun c => c / 2 ^ s) := ⟨_, rfl⟩
    have rl : red.length = cs.length := by rw [hred, List.length_map]
    have hD1 := s1 _ _ hD
    walk_at "rd"
    refine ⟨⟨_, SqL.of hD1⟩, fun R hR => lc_list (K := K) (a := D) (xs := cs.map V.int) (fun j H' => H' R = some (.lst ((red.take j).map V.int)) ∧ Same H1 H') ⟨upd_same, sm_new (Same.refl H1) hR⟩ (fun i H' _ q => SqL.of (q.2 _ _ hD1)) ?_ ?_⟩
    · rintro j z H' hj ⟨hr, sm⟩
      obtain ⟨c, hc, rfl⟩ := map_get hj
      have jlt := (List.getElem?_eq_some_iff.mp hc).1
      walk_at "rd"
      refine ⟨rfl, ?_⟩
      walk_at "rd"
      refine iteT ?_
      walk_at "rd"
      refine w_I (by show (0 : Int) ≤ _; omega) ?_
      refine ⟨_, hr, by rw [List.length_map, List.length_take]; exact Nat.lt_of_le_of_lt (show _ ≤ 9 by omega) (by decide), ?_, sm_mut sm hR⟩
      rw [upd_same, List.take_add_one, hred, List.getElem?_map, hc, List.map_append, Int.toNat_natCast]
      rfl
    rintro H2 ⟨hr, s2⟩
    rw [List.length_map, List.take_of_length_le (by omega)] at hr
    have s2 := s1.trans s2
    clear hl jl tw s1 jne hm hle hD1
    obtain ⟨r0, rt, er⟩ : ∃ r0 rt, red = r0 :: rt := by
      cases e : red with
      | nil => rw [e] at rl; simp at rl; omega
      | cons a t => exact ⟨a, t, rfl⟩
    have rb : ∀ c ∈ red, c.natAbs < 2 ^ 200 := fun c hc => by
      rw [hred] at hc
      obtain ⟨d, hd, rfl⟩ := List.mem_map.mp hc
      obtain ⟨b1, b2⟩ := cb d hd
      have h1 : d / 2 ^ s ≤ d := Int.ediv_le_self _ b1
      have h0 : 0 ≤ d / 2 ^ s := Int.ediv_nonneg b1 (Int.le_of_lt (gpos s))
      have c2 : (2 : Int) ^ l ≤ 2 ^ 200 := by
        have := Nat.pow_le_pow_right (n := 2) (by decide) l2
        exact_mod_cast this
      have c3 : ((2 ^ 200 : Nat) : Int) = 2 ^ 200 := Int.natCast_pow 2 200
      omega
    have sb : ∀ c ∈ shf red, c.natAbs < 2 ^ 300 := fun c hc => by
      have := shf_bound (M := 2 ^ 200) (fun c hc => Nat.le_of_lt (rb c hc)) c hc
      have p9 : 2 ^ red.length ≤ 2 ^ 9 := Nat.pow_le_pow_right (by decide) (by omega)
      have := Nat.mul_le_mul_right (2 ^ 200) p9
      have c9' : (2 : Nat) ^ 9 * 2 ^ 200 < 2 ^ 300 := by decide +kernel
      omega
    walk_at "rd"
    refine ⟨by show 0 ≤ sizeLine; decide, fun R2 hR2 => ?_⟩
    have hr' := gn (u := .lst []) hr hR2
    have s3 := sm_new (o := .lst []) s2 hR2
    have hR2' : (L2.upd H2 R2 (.lst [])) R2 = some (.lst []) := upd_same
    have nH2 : H R2 = none := by
      cases z : H R2 with
      | none => rfl
      | some o => rw [s2 _ _ z] at hR2; cases hR2
    generalize L2.upd H2 R2 _ = H3 at hr' s3 hR2' ⊢
    have hr'' := hr'
    rw [er] at hr''
    have e0 : r0 = pvl red 0 := by rw [er, pv_zero]; rfl
    have noR : R ≠ R2 := fun z => by rw [z] at hr; rw [hr] at hR2; cases hR2
    walk_at "rd"
    have at0 : atI ((r0 :: rt).map V.int) 0 = some (.int r0) := by
      unfold atI ixN
      rw [if_pos (by decide), if_pos (by rw [List.length_map, List.length_cons]; omega)]; rfl
    refine w_ixL (xs := (r0 :: rt).map V.int) hr'' at0 ?_
    walk_at "rd"
    obtain ⟨A, hA⟩ : ∃ A : Nat → List Nd, A = fun m0 => if pvl red 0 % 2 = 0 then [⟨f, k + 1, dbl 0 red, l - s, m0⟩] else [] := ⟨_, rfl⟩
    refine w_stJ (fun σ' H' => σ' = [some (.ref q), some (.int f), some (.int (k : Int)), some (.ref D), some (.int (l : Int)), some (.int (s : Int)), none, some (.ref R), some (.ref R2)] ∧ H' R = some (.lst (red.map V.int)) ∧ (∃ out, H' R2 = some (.lst out) ∧ out.length ≤ 1 ∧ ∀ m0, NdL H' out (A m0)) ∧ Same H H') (fun ev D' qq => ?_) (fun od D' qq => ?_) ?_
    · walk_at "rd"
      refine w_bm ?_
      walk_at "rd"
      refine ⟨.inl ⟨rfl, _, SqL.of hR2'⟩, ?_⟩
      walk_at "rd"
      refine ⟨R, red, rfl, hr', by omega, fun c hc => Nat.lt_trans (rb c hc) (Nat.pow_lt_pow_right (by decide) (by decide)), fun E H4 s4 hE => ?_⟩
      walk_at "rd"
      refine ⟨by show 4 ≤ sizeLine; decide, fun q4 hq4 => ?_⟩
      walk_at "rd"
      have n4 : q4 ≠ R2 := fun z => by rw [z] at hq4; rw [s4 _ _ hR2'] at hq4; cases hq4
      refine ⟨R2, _, _, rfl, rfl, gn (s4 _ _ hR2') hq4, by decide, ?_⟩
      have nE : E ≠ R2 := fun z => by rw [z] at hE; rw [s4 _ _ hR2'] at hE; have := HO.lst.inj (Option.some.inj hE); have := congrArg List.length this; rw [List.length_map, dbl_len, rl] at this; simp at this; omega
      refine qq _ _ ⟨rfl, by rw [upd_ne noR]; exact gn (s4 _ _ hr') hq4, ⟨[.ref q4], upd_same, by simp, fun m0 => ?_⟩, fun b o e => by rw [upd_ne (ne_of_none e nH2)]; exact gn (s4 _ _ (s3 _ _ e)) hq4⟩
      rw [hA]
      show NdL _ _ (if pvl red 0 % 2 = 0 then _ else _)
      rw [if_pos (by rw [← e0]; exact ev)]
      refine .cons ⟨E, ?_, ?_⟩ .nil
      · rw [upd_ne n4, upd_same]
        show _ = some (HO.tup [V.int f, V.int ((k + 1 : Nat) : Int), V.ref E, V.int ((l - s : Nat) : Int)])
        rw [show ((k + 1 : Nat) : Int) = (k : Int) + 1 by omega, show ((l - s : Nat) : Int) = (l : Int) - (s : Int) by omega]
      · rw [upd_ne nE]; exact gn hE hq4
    · walk_at "rd"
      refine qq _ _ ⟨rfl, hr', ⟨[], hR2', by simp, fun m0 => ?_⟩, s3⟩
      rw [hA]
      show NdL _ _ (if pvl red 0 % 2 = 0 then _ else _)
      rw [if_neg (by rw [← e0]; exact od)]; exact .nil
    rintro σ H5 ⟨rfl, hr5, ⟨out, hR5, ol, nd⟩, s5⟩
    walk_at "rd"
    refine w_sumR hr5 ?_
    rw [← pv_one]
    walk_at "rd"
    refine w_stJ (fun σ' H' => σ' = [some (.ref q), some (.int f), some (.int (k : Int)), some (.ref D), some (.int (l : Int)), some (.int (s : Int)), none, some (.ref R), some (.ref R2)] ∧ (∃ out, H' R2 = some (.lst out) ∧ ∀ m0 m1, NdL H' out (A m0 ++ (if pvl red 1 % 2 = 0 then [⟨f + 2 ^ k, k + 1, dbl 0 (shf red), l - s, m1⟩] else []))) ∧ Same H H') (fun ev D' qq => ?_) (fun od D' qq => ?_) ?_
    · walk_at "rd"
      refine w_bm ?_
      walk_at "rd"
      refine ⟨.inl ⟨rfl, _, SqL.of hR5⟩, ?_⟩
      walk_at "rd"
      refine w_I (cpow (n := 1) (by omega) (by decide)) ?_
      rw [Int.toNat_natCast, Int.one_mul]
      walk_at "rd"
      refine ⟨R, red, rfl, hr5, by omega, by omega, fun F H6 s6 hF => ?_⟩
      walk_at "rd"
      refine ⟨F, shf red, rfl, hF, by rw [shf_len]; omega, sb, fun E H7 s7 hE => ?_⟩
      walk_at "rd"
      refine ⟨by show 4 ≤ sizeLine; decide, fun q4 hq4 => ?_⟩
      walk_at "rd"
      have hR7 := s7 _ _ (s6 _ _ hR5)
      have n4 : q4 ≠ R2 := fun z => by rw [z] at hq4; rw [hR7] at hq4; cases hq4
      refine ⟨R2, _, _, rfl, rfl, gn hR7 hq4, Nat.lt_of_le_of_lt ol (by decide), ?_⟩
      have nE : E ≠ R2 := fun z => by
        rw [z] at hE; rw [hR7] at hE
        have e1 := HO.lst.inj (Option.some.inj hE)
        have e2 := nd 0
        rw [e1] at e2
        cases e3 : (dbl 0 (shf red)) with
        | nil =>
          have l0 : (dbl 0 (shf red)).length = red.length := by rw [dbl_len, shf_len]
          rw [e3] at l0
          have l0 : 0 = red.length := l0
          omega
        | cons a t => rw [e3] at e2; cases e2
      have s67 := s6.trans s7
      have old : ∀ b o, H5 b = some o → b ≠ R2 → (L2.upd (L2.upd H7 q4 (.tup [.int (f + 2 ^ k), .int ((k : Int) + 1), .ref E, .int ((l : Int) - (s : Int))])) R2 (.lst (out ++ [.ref q4]))) b = some o := fun b o e nb => by
        rw [upd_ne nb]; exact gn (s67 _ _ e) hq4
      refine qq _ _ ⟨rfl, ⟨out ++ [.ref q4], upd_same, fun m0 m1 => ?_⟩, fun b o e => old b o (s5 _ _ e) (ne_of_none e nH2)⟩
      rw [if_pos ev]
      refine NdL.app (NdL.keepL (nd m0) hR5 old fun n hn => (nd m0).noInt hn _) (.cons ⟨E, ?_, ?_⟩ .nil)
      · rw [upd_ne n4, upd_same]
        show _ = some (HO.tup [V.int (f + 2 ^ k), V.int ((k + 1 : Nat) : Int), V.ref E, V.int ((l - s : Nat) : Int)])
        rw [show ((k + 1 : Nat) : Int) = (k : Int) + 1 by omega, show ((l - s : Nat) : Int) = (l : Int) - (s : Int) by omega]
      · rw [upd_ne nE]; exact gn hE hq4
    · walk_at "rd"
      refine qq _ _ ⟨rfl, ⟨out, hR5, fun m0 m1 => ?_⟩, s5⟩
      rw [if_neg od, List.append_nil]; exact nd m0
    rintro σ H6 ⟨rfl, ⟨out2, hR6, nd2⟩, s6⟩
    walk_at "rd"
    refine kk s red R2 out2 H6 sd so sl hred s6 hR6 fun m0 m1 => ?_
    have := nd2 m0 m1
    rw [hA] at this
    exact this
def sp_root_families (K : PySem.W.Frag) (C : Addr) (TS : List (Addr × Str)) : Sp := fun vs H Q _ => ∃ (p : Addr) (cs : List Int) (bits : Nat), vs = [.ref p, .int (bits : Int)] ∧ H p = some (.lst (cs.map V.int)) ∧ 1 ≤ cs.length ∧ cs.length ≤ 9 ∧ bits ≤ 128 ∧ ∀ q H', FamRow H' q bits (fun x => (2 : Int) ^ bits ∣ pvl cs x) → Same H H' → Q (.ref q) H'
theorem ok_root_families {P : Program} {w : World} {K : PySem.W.Frag} {mg : Str → Option Value} {base : Heap} (T : Txt K mg) (B : TBs T base) : FnOk P w K mg base CX0 3 T.f_root_families T.fd_root_families ["polynomial", "bits"] (sp_root_families K T.C_Kind T.tabs) := by
  have G__halves := ok__halves (P := P) (w := w) (base := base) T B
  have G_joined := ok_joined (P := P) (w := w) (base := base) T B
  refine T.F_root_families.ok sc_root_families (fun vs H Q E h => ?_) (fun cdv A outer s H vs Q E hr h => ?_)
  · obtain ⟨p, cs, bits, rfl, _⟩ := h
    rfl
  · obtain ⟨p, cs, bits, rfl, h⟩ := h
    have hr__halves : Room 2 _ := hr.mono (by decide)
    have hr_joined : Room 1 _ := hr.mono (by decide)
    refine ⟨_, (pss_cons (ps_set (i := 2) sc_root_families.nd rfl (Or.inl rfl) (pe_lst (pa_cons (pe_tup (pa_cons pe_int (pa_cons pe_int (pa_cons (pv 0 (hv := Or.inl rfl)) (pa_cons (pv 1 (hv := Or.inl rfl)) pa_nil))))) pa_nil)))
      (pss_cons (ps_set (i := 3) sc_root_families.nd rfl (Or.inl rfl) (pe_lst pa_nil))
      (pss_cons (ps_while PassesOwn.never (pt_truth (pv 2 (hv := Or.inl rfl)) (by intro _; rfl))
        (pss_cons (ps_set (i := 4) sc_root_families.nd rfl (Or.inl rfl) (pe_lst pa_nil))
      (pss_cons (ps_for PassesOwn.never rfl (pi_list (pv 2 (hv := Or.inl rfl))) (pg_tup rfl (pgs_cons (pg_name (i := 5) sc_root_families.nd rfl (Or.inl rfl)) (pgs_cons (pg_name (i := 6) sc_root_families.nd rfl (Or.inl rfl)) (pgs_cons (pg_name (i := 7) sc_root_families.nd rfl (Or.inl rfl)) (pgs_cons (pg_name (i := 8) sc_root_families.nd rfl (Or.inr rfl)) pgs_nil)))))
        (pss_cons (ps_setLc (i := 9) (own := [("coefficient", 10)]) (g := gName 10) (tt := tYes) rfl sc_root_families.nd rfl rfl (sw_true rfl rfl rfl (by decide +kernel)) (pi_list (pv 7 (hv := Or.inl rfl))) (blkOk_by (own := [("coefficient", 10)]) (N := ["polynomial", "bits", "nodes", "found", "below", "first", "k", "coefficients", "left", "rest", "coefficient"]) (sc := defScope s_root_families) (by decide +kernel)) (fun _ _ _ _ _ => (pg_name (i := 10) sc_root_families.nd rfl (Or.inl rfl))) (fun _ _ _ _ _ => pts_nil) (fun _ _ _ _ _ => (pe_op op_mod (pv 10 (hv := Or.inl rfl)) (pe_op op_shl pe_int (pv 8 (hv := Or.inr (Or.inl rfl)))))))
      (pss_one (ps_if (pt_val (pe_callB (id := "any") (r := rAnyI K) (cr_anyI rfl) (by rfl) T.n_any (by decide +kernel) (pa_cons (pv 9 (hv := Or.inl rfl)) pa_nil))) (pss_one (ps_expr (pe_bm PySem.F.plainAttrs_list PySem.F.slot_list_extend PySem.F.type_list_extend mt_extend (pv 4 (hv := Or.inl rfl)) (pa_cons (pe_call G__halves hr__halves rfl T.g__halves T.k__halves T.b__halves .nil pass0 (pa_cons (pe_tup (pa_cons (pv 5 (hv := Or.inl rfl)) (pa_cons (pv 6 (hv := Or.inl rfl)) (pa_cons (pv 9 (hv := Or.inl rfl)) (pa_cons (pv 8 (hv := Or.inr (Or.inl rfl))) pa_nil))))) pa_nil)) pa_nil)))) (pss_one (ps_expr (pe_bm PySem.F.plainAttrs_list PySem.F.slot_list_append PySem.F.type_list_append mt_append (pv 3 (hv := Or.inl rfl)) (pa_cons (pe_tup (pa_cons (pv 5 (hv := Or.inl rfl)) (pa_cons (pv 6 (hv := Or.inl rfl)) pa_nil))) pa_nil))))))))
      (pss_one (ps_set (i := 2) sc_root_families.nd rfl (Or.inl rfl) (pv 4 (hv := Or.inl rfl)))))))
      (pss_one (ps_ret (pe_call G_joined hr_joined rfl T.g_joined T.k_joined T.b_joined .nil pass0 (pa_cons (pv 3 (hv := Or.inl rfl)) (pa_cons (pv 1 (hv := Or.inl rfl)) pa_nil)))))))), ?_⟩
    try dsimp only [cxOf, Cx.nox, Cx.wish, Cx.blk]
    rw [show L2.start ["polynomial", "bits", "nodes", "found", "below", "first", "k", "coefficients", "left", "rest", "coefficient"] [.ref p, .int (bits : Int)] = [some (.ref p), some (.int (bits : Int)), none, none, none, none, none, none, none, none, none] from rfl]
    obtain ⟨hp, l1, l9, b2, k⟩ := h
    walk_at "rd"
    refine ⟨by show 4 ≤ sizeLine; decide, fun q0 hq0 => ?_⟩
    walk_at "rd"
    refine ⟨by show 1 ≤ sizeLine; decide, fun L0 hL0 => ?_⟩
    walk_at "rd"
    refine ⟨by show 0 ≤ sizeLine; decide, fun F hF => ?_⟩
    have sA := sm_new (o := .lst [V.ref q0]) (sm_new (o := .tup [V.int 0, V.int 0, V.ref p, V.int (bits : Int)]) (Same.refl H) hq0) hL0
    have nFH : H F = none := by
      cases z : H F with
      | none => rfl
      | some o => rw [sA _ _ z] at hF; cases hF
    have sB := sm_new (o := .lst []) sA hF
    have hq0' := gn (u := .lst []) (gn (u := .lst [V.ref q0]) (upd_same (H := H) (a := q0) (o := .tup [V.int 0, V.int 0, V.ref p, V.int (bits : Int)])) hL0) hF
    have hL0' := gn (u := .lst []) (upd_same (H := L2.upd H q0 (.tup [V.int 0, V.int 0, V.ref p, V.int (bits : Int)])) (a := L0) (o := .lst [V.ref q0])) hF
    have hF' : (L2.upd (L2.upd (L2.upd H q0 (.tup [V.int 0, V.int 0, V.ref p, V.int (bits : Int)])) L0 (.lst [V.ref q0])) F (.lst [])) F = some (.lst []) := upd_same
    generalize L2.upd (L2.upd (L2.upd H q0 _) L0 _) F _ = H0 at sB hq0' hL0' hF' ⊢
    walk_at "rd"
    refine w_while (fun m σ H' => (∃ (g : Nat) (NL : Addr) (outs fo : List V) (ns : List Nd) (fl : FL) (v4 v5 v6 v7 v8 v9 v10 : Option V), σ = [some (.ref p), some (.int (bits : Int)), some (.ref NL), some (.ref F), v4, v5, v6, v7, v8, v9, v10] ∧ m = bits + 2 - g ∧ g ≤ bits + 1 ∧ H' NL = some (.lst outs) ∧ NdL H' outs ns ∧ H' F = some (.lst fo) ∧ PRow H' fo fl ∧ fl.length ≤ 8 * g ∧ RInv bits cs g fl [] ns) ∧ Same H H') (bits + 2)
      ⟨⟨0, L0, [.ref q0], [], _, [], none, none, none, none, none, none, none, rfl, rfl, by omega, hL0', .cons ⟨p, hq0', sB _ _ hp⟩ .nil, hF', .nil, Nat.le_refl _, .start l9⟩, sB⟩ ?_
    rintro m σ H1 ⟨⟨g, NL, outs, fo, ns, fl, v4, v5, v6, v7, v8, v9, v10, rfl, rfl, hK, hNL, nd, hFo, row, fln, rI⟩, s1⟩
    walk_at "rd"
    refine w_truL (SqL.of hNL) ?_
    cases ns with
    | nil =>
      have e0 : outs = [] := List.eq_nil_of_length_eq_zero (by rw [nd.len]; rfl)
      subst e0
      show if (!([] : List V).isEmpty) = true then _ else _
      refine iteF ?_
      obtain ⟨wf, ap, cv⟩ := rI.fin
      have eS : SetOf H1 fo = famL fl := by
        funext f e
        refine propext ⟨fun ⟨q, hq, hv⟩ => ?_, fun h => ?_⟩
        · obtain ⟨i, hi⟩ := List.getElem?_of_mem hq
          obtain ⟨q', f', e', eq, hq', hf⟩ := row.get hi
          obtain rfl := V.ref.inj eq
          rw [hq'] at hv
          have e3 := HO.tup.inj (Option.some.inj hv)
          have e4 : f' = f := V.int.inj (List.cons.inj e3).1
          have e5 : (e' : Int) = e := V.int.inj (List.cons.inj (List.cons.inj e3).2).1
          rw [← e4, show e = e' by omega]
          exact List.mem_of_getElem? hf
        · obtain ⟨i, hi⟩ := List.getElem?_of_mem h
          obtain ⟨q, hq, hv⟩ := row.hit hi
          exact ⟨q, List.mem_of_getElem? hq, hv⟩
      walk_at "rd"
      refine ⟨F, bits, fo, rfl, b2, hFo, by rw [row.len]; omega, fun r hr => ?_, fun gl out q H2 mg ir hout row2 pw glen s2 => ?_⟩
      · obtain ⟨i, hi⟩ := List.getElem?_of_mem hr
        obtain ⟨q, f, e, rfl, hq, hf⟩ := row.get hi
        exact ⟨q, f, e, rfl, hq, (wf f e (List.mem_of_getElem? hf)).1⟩
      rw [eS] at mg
      exact k q H2 ⟨out, gl, hout, row2, ⟨pw, ⟨mg.wf wf, mg.apart ap, ir⟩⟩, fun x => by rw [mg.cover x, cv x], by have := row.len; omega⟩ (s1.trans s2)
    | cons n0 nt =>
      have gb := rI.deep
      have few := rI.few
      have ol : outs.length = nt.length + 1 := nd.len
      have one : (!outs.isEmpty) = true := by
        cases outs with
        | nil => simp at ol
        | cons a t => rfl
      rw [one]
      refine iteT ?_
      refine ⟨_, fun _ _ h => h, ?_⟩
      walk_at "rd"
      refine ⟨by show 0 ≤ sizeLine; decide, fun B hB => ?_⟩
      have nBH : H B = none := by
        cases z : H B with
        | none => rfl
        | some o => rw [s1 _ _ z] at hB; cases hB
      walk_at "rd"
      refine ⟨⟨_, SqL.of (gn hNL hB)⟩, for_list (K := K) (a := NL) (xs := outs) (fun j σ H' => (∃ v5 v6 v7 v8 v9 v10 : Option V, σ = [some (.ref p), some (.int (bits : Int)), some (.ref NL), some (.ref F), some (.ref B), v5, v6, v7, v8, v9, v10]) ∧ (∃ (fo bo : List V) (fl : FL) (bl : List Nd), H' NL = some (.lst outs) ∧ NdL H' outs (n0 :: nt) ∧ H' B = some (.lst bo) ∧ NdL H' bo bl ∧ H' F = some (.lst fo) ∧ PRow H' fo fl ∧ fl.length ≤ 8 * g + j ∧ RInv bits cs g fl bl ((n0 :: nt).drop j)) ∧ Same H H') ⟨⟨_, _, _, _, _, _, rfl⟩, ⟨fo, [], fl, [], gn hNL hB, nd.same (sm_new (Same.refl H1) hB), upd_same, .nil, gn hFo hB, row.keep (fun q f e h => gn h hB), by omega, rI⟩, sm_new s1 hB⟩ (fun i σ H' _ q => SqL.of (q.2.1.choose_spec.choose_spec.choose_spec.choose_spec.1)) ?_ ?_⟩
      rotate_left
      · rintro σ H2 ⟨⟨v5, v6, v7, v8, v9, v10, rfl⟩, ⟨fo2, bo, fl2, bl, hNL2, nd2, hB2, ndb, hF2, row2, fln2, rI2⟩, s2⟩
        walk_at "rd"
        have r3 : RInv bits cs g fl2 bl [] := by
          have : ((n0 :: nt).drop outs.length) = [] := List.drop_eq_nil_of_le (by rw [List.length_cons]; omega)
          rw [this] at rI2; exact rI2
        refine ⟨bits + 2 - (g + 1), by omega, ⟨g + 1, B, bo, fo2, bl, fl2, _, _, _, _, _, _, _, rfl, rfl, by omega, hB2, ndb, hF2, row2, ?_, r3.next⟩, s2⟩
        rw [List.length_cons] at few
        omega
      rintro j z σ H2 hj ⟨⟨v5, v6, v7, v8, v9, v10, rfl⟩, ⟨fo2, bo, fl2, bl, hNL2, nd2, hB2, ndb, hF2, row2, fln2, rI2⟩, s2⟩
      obtain ⟨q, n, rfl, ⟨D, hq, hD⟩, hn⟩ := nd2.get hj
      have jl := (List.getElem?_eq_some_iff.mp hn).1
      have ed : (n0 :: nt).drop j = n :: (n0 :: nt).drop (j + 1) := by
        rw [List.drop_eq_getElem_cons jl]
        congr 1
        exact Option.some.inj ((List.getElem?_eq_getElem _).symm.trans hn)
      rw [ed] at rI2
      obtain ⟨ok, ek⟩ := rI2.okn n List.mem_cons_self
      have ln := ok.len
      have kb := ok.deep
      have lb : n.l ≤ bits + 1 := by
        rcases ok.lv with ⟨_, e⟩ | ⟨_, _, e, _⟩ <;> omega
      have hpl := p2 n.l
      clear ed
      walk_at "rd"
      refine ⟨⟨_, SqL.of hD⟩, fun R hR => lc_list (K := K) (a := D) (xs := n.cs.map V.int) (fun i H' => H' R = some (.lst (((n.cs.map (· % 2 ^ n.l)).take i).map V.int)) ∧ Same H2 H') ⟨upd_same, sm_new (Same.refl H2) hR⟩ (fun i H' _ q => SqL.of (q.2 _ _ hD)) ?_ ?_⟩
      · rintro i z H' hi ⟨hr, sm⟩
        obtain ⟨c, hc, rfl⟩ := map_get hi
        have il := (List.getElem?_eq_some_iff.mp hc).1
        walk_at "rd"
        refine ⟨rfl, ?_⟩
        walk_at "rd"
        refine iteT ?_
        walk_at "rd"
        refine w_I (cpow (n := 1) (by omega) (by decide)) ?_
        rw [Int.toNat_natCast, Int.one_mul]
        refine w_I hpl ?_
        refine ⟨_, hr, by rw [List.length_map, List.length_take, List.length_map]; exact Nat.lt_of_le_of_lt (show _ ≤ 9 by omega) (by decide), ?_, sm_mut sm hR⟩
        rw [upd_same, List.take_add_one, List.getElem?_map, hc, List.map_append]
        rfl
      rintro H3 ⟨hr, s3⟩
      rw [List.length_map, List.take_of_length_le (by rw [List.length_map]; exact Nat.le_refl _)] at hr
      obtain ⟨rest, hrest⟩ : ∃ rest, rest = n.cs.map (· % 2 ^ n.l) := ⟨_, rfl⟩
      rw [← hrest] at hr
      have rb : ∀ c ∈ rest, 0 ≤ c ∧ c < 2 ^ n.l := fun c hc => by
        rw [hrest] at hc
        obtain ⟨d, _, rfl⟩ := List.mem_map.mp hc
        exact ⟨Int.emod_nonneg _ (Int.ne_of_gt hpl), Int.emod_lt_of_pos _ hpl⟩
      have rlen : rest.length = cs.length := by rw [hrest, List.length_map, ln]
      have cl := rI2.cl l1
      have nd3 := nd2.same s3
      have ndb3 := ndb.same s3
      have row3 := row2.same s3
      have hB3 := s3 _ _ hB2
      have hF3 := s3 _ _ hF2
      have hNL3 := s3 _ _ hNL2
      have ndc : ∀ m ∈ n0 :: nt, 1 ≤ m.cs.length := fun m hm => by rw [(rI.okn m hm).1.len]; exact l1
      have few2 := rI2.few
      rw [List.length_cons] at few2
      have bol : bo.length ≤ 8 := by rw [ndb.len]; omega
      have nNB : NL ≠ B := fun z => by rw [← z, hNL] at hB; cases hB
      have nNF : NL ≠ F := fun z => by
        rw [z, hF3] at hNL3
        have e := HO.lst.inj (Option.some.inj hNL3)
        rw [e] at row3
        obtain ⟨q1, n1, e1, ⟨D1, h1, _⟩, _⟩ := nd3.get (i := 0) (x := outs[0]'(by omega)) (List.getElem?_eq_getElem _)
        obtain ⟨q2, f2, e2, h2, h3, _⟩ := row3.get (i := 0) (x := outs[0]'(by omega)) (List.getElem?_eq_getElem _)
        rw [e1] at h2
        obtain rfl := V.ref.inj h2
        rw [h1] at h3; cases h3
      walk_at "rd"
      refine w_anyI hr ?_
      walk_at "rd"
      cases hany : rest.any (fun m => m != 0) with
      | true =>
        refine iteT ?_
        have nz : ∃ c ∈ rest, c ≠ 0 := by
          obtain ⟨c, hc, h⟩ := List.any_eq_true.mp hany
          exact ⟨c, hc, by simpa using h⟩
        walk_at "rd"
        refine w_bm ?_
        walk_at "rd"
        refine ⟨.inl ⟨rfl, _, SqL.of hB3⟩, ?_⟩
        walk_at "rd"
        refine ⟨by show 4 ≤ sizeLine; decide, fun q4 hq4 => ?_⟩
        have s4 := sm_new (o := .tup [.int n.f, .int (n.k : Int), .ref R, .int (n.l : Int)]) (Same.refl H3) hq4
        have hq4' : (L2.upd H3 q4 (.tup [.int n.f, .int (n.k : Int), .ref R, .int (n.l : Int)])) q4 = some (.tup [.int n.f, .int (n.k : Int), .ref R, .int (n.l : Int)]) := upd_same
        generalize L2.upd H3 q4 _ = H4 at s4 hq4' ⊢
        walk_at "rd"
        refine ⟨q4, n.f, n.k, n.l, rest, rfl, ⟨R, hq4', s4 _ _ hr⟩, by omega, by omega, by omega, by omega, rb, nz, fun s red r out H5 sd so sl hred s5 hout ndN => ?_⟩
        have hredn : red = n.cs.map fun c => c % 2 ^ n.l / 2 ^ s := by rw [hred, hrest, List.map_map]; rfl
        obtain ⟨m0, m1, rI3⟩ := rI2.go sl (fun c hc => sd _ (by rw [hrest]; exact List.mem_map.mpr ⟨c, hc, rfl⟩)) (by
          obtain ⟨c, hc, h⟩ := so
          rw [hrest] at hc
          obtain ⟨d, hd, rfl⟩ := List.mem_map.mp hc
          exact ⟨d, hd, h⟩) hredn
        have ndN := ndN m0 m1
        rw [← ek] at rI3
        have s345 := s4.trans s5
        have outl : out.length ≤ 8 := by
          rw [ndN.len]
          have := rI3.few
          rw [List.length_append] at this
          omega
        walk_at "rd"
        refine ⟨B, r, bo, out, rfl, rfl, s345 _ _ hB3, hout, Nat.le_trans (show bo.length + out.length ≤ 16 by omega) (by decide), ?_⟩
        have old : ∀ b o, b ≠ B → H5 b = some o → (L2.upd H5 B (.lst (bo ++ out))) b = some o := fun b o nb e => by rw [upd_ne nb]; exact e
        have hB5 := s345 _ _ hB3
        have noh := ndb.noHead
        have cl3 := rI3.cl l1
        have nFB : F ≠ B := fun z => by rw [← z, hFo] at hB; cases hB
        refine ⟨⟨_, _, _, _, _, _, rfl⟩, ⟨fo2, bo ++ out, fl2, _, old _ _ nNB (s345 _ _ hNL3), (nd3.same s345).keepO hB5 noh ndc old, upd_same, NdL.app ((ndb3.same s345).keepO hB5 noh cl.1 old) (ndN.keepO hB5 noh (fun m hm => cl3.1 m (List.mem_append.mpr (.inr hm))) old), old _ _ nFB (s345 _ _ hF3), (row3.same s345).keepO hB5 old, by omega, by rw [ek] at rI3 ⊢; exact rI3⟩, fun b o e => old _ _ (ne_of_none e nBH) (s345 _ _ (s3 _ _ (s2 _ _ e)))⟩
      | false =>
        refine iteF ?_
        have az : ∀ c ∈ n.cs, (2 : Int) ^ n.l ∣ c := fun c hc => by
          refine Int.dvd_of_emod_eq_zero ?_
          have := List.any_eq_false.mp hany (c % 2 ^ n.l) (by rw [hrest]; exact List.mem_map.mpr ⟨c, hc, rfl⟩)
          simpa using this
        walk_at "rd"
        refine w_bm ?_
        walk_at "rd"
        refine ⟨.inl ⟨rfl, _, SqL.of hF3⟩, ?_⟩
        walk_at "rd"
        refine ⟨by show 2 ≤ sizeLine; decide, fun q4 hq4 => ?_⟩
        have s4 := sm_new (o := .tup [.int n.f, .int (n.k : Int)]) (Same.refl H3) hq4
        have hq4' : (L2.upd H3 q4 (.tup [.int n.f, .int (n.k : Int)])) q4 = some (.tup [.int n.f, .int (n.k : Int)]) := upd_same
        generalize L2.upd H3 q4 _ = H4 at s4 hq4' ⊢
        have hF4 := s4 _ _ hF3
        walk_at "rd"
        refine ⟨F, _, _, rfl, rfl, hF4, by rw [row2.len]; exact Nat.lt_of_le_of_lt (show fl2.length ≤ 8 * 129 + 9 by omega) (by decide), ?_⟩
        have old : ∀ b o, b ≠ F → H4 b = some o → (L2.upd H4 F (.lst (fo2 ++ [.ref q4]))) b = some o := fun b o nb e => by rw [upd_ne nb]; exact e
        have noh := row2.noHead
        have nBF : B ≠ F := fun z => by rw [z, hFo] at hB; cases hB
        have nqF : q4 ≠ F := fun z => by rw [z, hF4] at hq4'; cases hq4'
        refine ⟨⟨_, _, _, _, _, _, rfl⟩, ⟨fo2 ++ [.ref q4], bo, fl2 ++ [(n.f, n.k)], bl, old _ _ nNF (s4 _ _ hNL3), (nd3.same s4).keepO hF4 noh ndc old, old _ _ nBF (s4 _ _ hB3), (ndb3.same s4).keepO hF4 noh cl.1 old, upd_same, PRow.add ((row3.same s4).keepO hF4 old) (old _ _ nqF hq4'), by rw [List.length_append, List.length_singleton]; omega, rI2.found az⟩, fun b o e => old _ _ (ne_of_none e nFH) (s4 _ _ (s3 _ _ (s2 _ _ e)))⟩
def sp_roots (K : PySem.W.Frag) (C : Addr) (TS : List (Addr × Str)) : Sp := fun vs H Q _ => ∃ (kp p : Addr) (cs : List Int) (wd : Nat) (s : Bool), vs = [.ref kp, .ref p] ∧ Kd C H kp wd s ∧ H p = some (.lst (cs.map V.int)) ∧ 1 ≤ cs.length ∧ cs.length ≤ 9 ∧ (∀ c ∈ cs, SD c) ∧ ∀ q H', FamRow H' q wd (fun x => (2 : Int) ^ wd ∣ pvl cs x) → Same H H' → Q (.ref q) H'
theorem ok_roots {P : Program} {w : World} {K : PySem.W.Frag} {mg : Str → Option Value} {base : Heap} (T : Txt K mg) (B : TBs T base) : FnOk P w K mg base CX0 5 T.f_roots T.fd_roots ["kind", "polynomial"] (sp_roots K T.C_Kind T.tabs) := by
  have G_check_polynomial := ok_check_polynomial (P := P) (w := w) (base := base) T B
  have G_root_families := ok_root_families (P := P) (w := w) (base := base) T B
  refine T.F_roots.ok sc_roots (fun vs H Q E h => ?_) (fun cdv A outer s H vs Q E hr h => ?_)
  · obtain ⟨kp, p, cs, wd, s, rfl, _⟩ := h
    rfl
  · obtain ⟨kp, p, cs, wd, s, rfl, h⟩ := h
    have hr_check_polynomial : Room 4 _ := hr.mono (by decide)
    have hr_root_families : Room 3 _ := hr.mono (by decide)
    refine ⟨_, (pss_cons (ps_expr (pe_call G_check_polynomial hr_check_polynomial rfl T.g_check_polynomial T.k_check_polynomial T.b_check_polynomial .nil pass0 (pa_cons (pv 0 (hv := Or.inl rfl)) (pa_cons (pv 1 (hv := Or.inl rfl)) pa_nil))))
      (pss_one (ps_ret (pe_call G_root_families hr_root_families rfl T.g_root_families T.k_root_families T.b_root_families .nil pass0 (pa_cons (pv 1 (hv := Or.inl rfl)) (pa_cons (pe_fld (pv 0 (hv := Or.inl rfl)) rfl) pa_nil)))))), ?_⟩
    try dsimp only [cxOf, Cx.nox, Cx.wish, Cx.blk]
    rw [show L2.start ["kind", "polynomial"] [.ref kp, .ref p] = [some (.ref kp), some (.ref p)] from rfl]
    obtain ⟨hk, hp, l1, l9, hc, k⟩ := h
    have w2 := hk.w2
    
    walk_at "rd"
    refine ⟨kp, p, cs, rfl, ⟨wd, s, hk⟩, hp, l1, l9, hc, fun H1 s1 => ?_⟩
    walk_at "rd"
    refine w_fb T rfl (hk.same s1) ?_
    refine ⟨p, cs, wd, rfl, s1 _ _ hp, l1, l9, w2, fun r H2 hf s2 => ?_⟩
    exact k r H2 hf (s1.trans s2)
def sp_root_total (K : PySem.W.Frag) (C : Addr) (TS : List (Addr × Str)) : Sp := fun vs H Q _ => ∃ (kp p : Addr) (cs : List Int) (wd : Nat) (s : Bool), vs = [.ref kp, .ref p] ∧ Kd C H kp wd s ∧ H p = some (.lst (cs.map V.int)) ∧ 1 ≤ cs.length ∧ cs.length ≤ 9 ∧ (∀ c ∈ cs, SD c) ∧ ∀ H', Same H H' → Q (.int (tot (rtP wd cs) (loK wd s) (hiK wd s))) H'
theorem ok_root_total {P : Program} {w : World} {K : PySem.W.Frag} {mg : Str → Option Value} {base : Heap} (T : Txt K mg) (B : TBs T base) : FnOk P w K mg base CX0 6 T.f_root_total T.fd_root_total ["kind", "polynomial"] (sp_root_total K T.C_Kind T.tabs) := by
  have G_roots := ok_roots (P := P) (w := w) (base := base) T B
  have G_total_size := ok_total_size (P := P) (w := w) (base := base) T B
  refine T.F_root_total.ok sc_root_total (fun vs H Q E h => ?_) (fun cdv A outer s H vs Q E hr h => ?_)
  · obtain ⟨kp, p, cs, wd, s, rfl, _⟩ := h
    rfl
  · obtain ⟨kp, p, cs, wd, s, rfl, h⟩ := h
    have hr_roots : Room 5 _ := hr.mono (by decide)
    have hr_total_size : Room 2 _ := hr.mono (by decide)
    refine ⟨_, (pss_one (ps_ret (pe_call G_total_size hr_total_size rfl T.g_total_size T.k_total_size T.b_total_size .nil pass0 (pa_cons (pe_call G_roots hr_roots rfl T.g_roots T.k_roots T.b_roots .nil pass0 (pa_cons (pv 0 (hv := Or.inl rfl)) (pa_cons (pv 1 (hv := Or.inl rfl)) pa_nil))) (pa_cons (pe_fld (pv 0 (hv := Or.inl rfl)) rfl) pa_nil))))), ?_⟩
    try dsimp only [cxOf, Cx.nox, Cx.wish, Cx.blk]
    rw [show L2.start ["kind", "polynomial"] [.ref kp, .ref p] = [some (.ref kp), some (.ref p)] from rfl]
    obtain ⟨hk, hp, l1, l9, hc, k⟩ := h
    have w2 := hk.w2
    walk_at "rd"
    refine ⟨kp, p, cs, wd, s, rfl, hk, hp, l1, l9, hc, fun r H1 hf s1 => ?_⟩
    obtain ⟨out, fl, hout, row, nrow, fl2, cnt⟩ := hf.cnt
    walk_at "rd"
    refine w_fb T rfl (hk.same s1) ?_
    refine ⟨r, wd, out, fl, rfl, hout, row, fl2, nrow.few, w2, fun H2 s2 => ?_⟩
    rw [← totF_size nrow.few (loK wd s), totF_tot cnt (by have := p2 wd; omega)]
    exact k _ (s1.trans s2)
def sp_least_twos (K : PySem.W.Frag) (C : Addr) (TS : List (Addr × Str)) : Sp := fun vs H Q _ => ∃ (kp p : Addr) (cs : List Int) (wd : Nat) (s : Bool), vs = [.ref kp, .ref p] ∧ Kd C H kp wd s ∧ H p = some (.lst (cs.map V.int)) ∧ 1 ≤ cs.length ∧ cs.length ≤ 9 ∧ (∀ c ∈ cs, SD c) ∧ ∀ (m : Nat) H', (∃ i : Nat, i < cs.length ∧ m = gv wd (pvl cs i)) → (∀ i : Nat, i < cs.length → m ≤ gv wd (pvl cs i)) → Same H H' → Q (.int (m : Int)) H'
theorem ok_least_twos {P : Program} {w : World} {K : PySem.W.Frag} {mg : Str → Option Value} {base : Heap} (T : Txt K mg) (B : TBs T base) : FnOk P w K mg base CX0 5 T.f_least_twos T.fd_least_twos ["kind", "polynomial"] (sp_least_twos K T.C_Kind T.tabs) := by
  have G__value := ok__value (P := P) (w := w) (base := base) T B
  have G_check_polynomial := ok_check_polynomial (P := P) (w := w) (base := base) T B
  have G_twos_in := ok_twos_in (P := P) (w := w) (base := base) T B
  refine T.F_least_twos.ok sc_least_twos (fun vs H Q E h => ?_) (fun cdv A outer s H vs Q E hr h => ?_)
  · obtain ⟨kp, p, cs, wd, s, rfl, _⟩ := h
    rfl
  · obtain ⟨kp, p, cs, wd, s, rfl, h⟩ := h
    have hr__value : Room 1 _ := hr.mono (by decide)
    have hr_check_polynomial : Room 4 _ := hr.mono (by decide)
    have hr_twos_in : Room 2 _ := hr.mono (by decide)
    refine ⟨_, (pss_cons (ps_expr (pe_call G_check_polynomial hr_check_polynomial rfl T.g_check_polynomial T.k_check_polynomial T.b_check_polynomial .nil pass0 (pa_cons (pv 0 (hv := Or.inr (Or.inl rfl))) (pa_cons (pv 1 (hv := Or.inr (Or.inl rfl))) pa_nil))))
      (pss_cons (ps_set (i := 2) sc_least_twos.nd rfl (Or.inr rfl) (pe_op op_shl pe_int (pe_fldK (K := K) rfl (pv 0 (hv := Or.inr (Or.inl rfl))) rfl)))
      (pss_one (ps_ret (pe_callB (id := "min") (r := rMin K) (cr_min rfl) (by rfl) T.n_min (by decide +kernel) (pa_cons (pe_lc (own := [("x", 3)]) (g := gName 3) (tt := tYes) (by rfl) sc_least_twos.nd (pi_range1 (by rfl) T.n_range (pa_cons (pe_callB (id := "len") (r := rLenS K) call_len_seq (by rfl) T.n_len (by decide +kernel) (pa_cons (pv 1 (hv := Or.inr (Or.inl rfl))) pa_nil)) pa_nil)) (blkOk_by (own := [("x", 3)]) (N := ["kind", "polynomial", "size", "x"]) (sc := defScope s_least_twos) (by decide +kernel)) (fun _ _ _ _ _ => (pg_name (i := 3) sc_least_twos.nd rfl (Or.inl rfl))) (fun _ _ _ _ _ => pts_nil) (fun _ _ _ _ _ => (pe_call G_twos_in hr_twos_in rfl T.g_twos_in T.k_twos_in T.b_twos_in .nil pass0 (pa_cons (pe_call G__value hr__value rfl T.g__value T.k__value T.b__value .nil pass0 (pa_cons (pv 1 (hv := Or.inr (Or.inl rfl))) (pa_cons (pv 3 (hv := Or.inl rfl)) (pa_cons (pv 2 (hv := Or.inr (Or.inl rfl))) pa_nil)))) (pa_cons (pe_fldK (K := K) rfl (pv 0 (hv := Or.inr (Or.inl rfl))) rfl) pa_nil))))) pa_nil)))))), ?_⟩
    try dsimp only [cxOf, Cx.nox, Cx.wish, Cx.blk]
    rw [show L2.start ["kind", "polynomial", "size", "x"] [.ref kp, .ref p] = [some (.ref kp), some (.ref p), none, none] from rfl]
    obtain ⟨hk, hp, l1, l9, hc, k⟩ := h
    have w2 := hk.w2
    
    walk_at "rd"
    refine ⟨kp, p, cs, rfl, ⟨wd, s, hk⟩, hp, l1, l9, hc, fun H1 s1 => ?_⟩
    walk_at "rd"
    refine w_fb T rfl (hk.same s1) ?_
    refine w_I (cpow (n := 1) (by omega) (by decide)) ?_
    rw [Int.toNat_natCast, Int.one_mul]
    walk_at "rd"
    refine w_len (s1 _ _ hp) ?_
    walk_at "rd"
    rw [List.length_map]
    refine ⟨_, rfl, by omega, by omega, fun D hD => lc_range (lo := 0) (n := cs.length) (fun j H' => H' D = some (.lst (((List.range j).map fun i => ((gv wd (pvl cs (i : Nat)) : Nat) : Int)).map V.int)) ∧ Same H1 H') ⟨upd_same, sm_new (Same.refl H1) hD⟩ ?_ ?_⟩
    · rintro j H' hj ⟨hd, sm⟩
      have s2 := s1.trans sm
      walk_at "rd"
      refine ⟨rfl, ?_⟩
      walk_at "rd"
      refine iteT ?_
      walk_at "rd"
      refine ⟨p, cs, (j : Int), wd, by rw [Int.zero_add]; rfl, s2 _ _ hp, by omega, Nat.lt_trans (show (j : Int).natAbs < 2 ^ 8 by omega) (Nat.pow_lt_pow_right (by decide) (by decide)), ?_⟩
      refine w_fb T rfl (hk.same s2) ?_
      refine ⟨_, wd, rfl, by omega, ?_⟩
      rw [gv_cong (Int.dvd_emod_sub_self : (2 : Int) ^ wd ∣ pvl cs j % 2 ^ wd - pvl cs j)]
      refine ⟨_, hd, by rw [List.length_map, List.length_map, List.length_range]; exact Nat.lt_of_lt_of_le (show j < 9 by omega) (by decide), ?_, sm_mut sm hD⟩
      rw [upd_same, List.range_succ, List.map_append, List.map_append]; rfl
    rintro H' ⟨hd, sm⟩
    walk_at "rd"
    refine w_minL (SqL.of hd) (by rw [List.length_map, List.length_range]; omega) (fun m hm hl => ?_)
    obtain ⟨i, hi, rfl⟩ := List.mem_map.mp hm
    refine k _ H' ⟨i, List.mem_range.mp hi, rfl⟩ (fun j hj => ?_) (s1.trans sm)
    have := hl _ (List.mem_map.mpr ⟨j, List.mem_range.mpr hj, rfl⟩)
    omega
def sp_most_twos (K : PySem.W.Frag) (C : Addr) (TS : List (Addr × Str)) : Sp := fun vs H Q _ => ∃ (kp p : Addr) (cs : List Int) (wd : Nat) (s : Bool), vs = [.ref kp, .ref p] ∧ Kd C H kp wd s ∧ H p = some (.lst (cs.map V.int)) ∧ 1 ≤ cs.length ∧ cs.length ≤ 9 ∧ (∀ c ∈ cs, SD c) ∧ LamX.Tabs TS H ∧ ∀ q (m e : Nat) (f : Int) (fl : FL) H', m ≤ wd → (m < wd → ∀ x, ¬ (2 : Int) ^ (m + 1) ∣ pvl cs x) → NRow m ((f, e) :: fl) → (∀ x, Cover (famL ((f, e) :: fl)) x ↔ (2 : Int) ^ m ∣ pvl cs x) → H' q = some (.tup [.int (m : Int), .int f]) → Sm TS H H' → Q (.ref q) H'
theorem ok_most_twos {P : Program} {w : World} {K : PySem.W.Frag} {mg : Str → Option Value} {base : Heap} (T : Txt K mg) (B : TBs T base) : FnOk P w K mg base CX0 16 T.f_most_twos T.fd_most_twos ["kind", "polynomial"] (sp_most_twos K T.C_Kind T.tabs) := by
  have G_check_polynomial := ok_check_polynomial (P := P) (w := w) (base := base) T B
  have G_least_passing := ok_least_passing (P := P) (w := w) (base := base) T B
  have G_root_families := ok_root_families (P := P) (w := w) (base := base) T B
  refine T.F_most_twos.ok sc_most_twos (fun vs H Q E h => ?_) (fun A outer s H vs Q E hr h => ?_)
  · obtain ⟨kp, p, cs, wd, s, rfl, _⟩ := h
    rfl
  · obtain ⟨kp, p, cs, wd, s, rfl, h⟩ := h
    have hr_check_polynomial : Room 4 _ := hr.mono (by decide)
    have hr_least_passing : Room 15 _ := hr.mono (by decide)
    have hr_root_families : Room 3 _ := hr.mono (by decide)
    refine ⟨_, (pss_cons (ps_expr (pe_call G_check_polynomial hr_check_polynomial rfl T.g_check_polynomial T.k_check_polynomial T.b_check_polynomial .nil pass0 (pa_cons (pv 0 (hv := Or.inl rfl)) (pa_cons (pv 1 (hv := Or.inr (Or.inl rfl))) pa_nil))))
      (pss_cons (ps_set (i := 2) sc_most_twos.nd rfl (Or.inr rfl) (pe_fld (pv 0 (hv := Or.inl rfl)) rfl))
      (pss_cons (ps_set (i := 3) sc_most_twos.nd rfl (Or.inl rfl) (pe_lamC (T := T.tabs) (par := "many") (kb := 3) (C := (fun _ _ _ => False)) G_least_passing hr_least_passing rfl T.g_least_passing T.k_least_passing T.b_least_passing B.tb_most_twos rfl T.mT_most_twos T.uT_most_twos (lamP_by (sc := defScope s_most_twos) (by decide +kernel)) (fun z => absurd (show ("many" : Str) ∈ (["kind", "polynomial", "bits", "over", "families"] : List Str) from z) (by decide +kernel)) rfl rfl (fun _ _ _ _ _ _ => rfl) (fun _ _ _ z => z.elim)
      (fun _ _ _ _ _ _ KN hrL => (pe_or (pe_cmpR op_gt (pv 5 (hv := Or.inl rfl)) (pv 2 (hv := Or.inr (Or.inr rfl))) (nomark _)) (pe_one (pe_notK (K := K) rfl (pe_call G_root_families (hrL.mono (by decide)) rfl T.g_root_families T.k_root_families T.b_root_families .nil pass0 (pa_cons (pv 1 (hv := Or.inr (Or.inr rfl))) (pa_cons (pv 5 (hv := Or.inl rfl)) pa_nil))))))) (pa_cons pe_int (pa_cons (pe_op op_add (pv 2 (hv := Or.inr (Or.inl rfl))) pe_int) pa_nil))))
      (pss_cons (ps_set (i := 4) sc_most_twos.nd rfl (Or.inl rfl) (pe_call G_root_families hr_root_families rfl T.g_root_families T.k_root_families T.b_root_families .nil pass0 (pa_cons (pv 1 (hv := Or.inr (Or.inl rfl))) (pa_cons (pe_op op_sub (pv 3 (hv := Or.inl rfl)) pe_int) pa_nil))))
      (pss_one (ps_ret (pe_tup (pa_cons (pe_op op_sub (pv 3 (hv := Or.inl rfl)) pe_int) (pa_cons (pe_ix (r := rIxT K) ix_tup (pe_ix (r := rIxL K) ix_list (pv 4 (hv := Or.inl rfl)) pe_int (fun _ _ => rfl)) pe_int (fun _ _ => rfl)) pa_nil))))))))), ?_⟩
    try dsimp only [cxOf, Cx.nox, Cx.wish, Cx.blk]
    rw [show L2.start ["kind", "polynomial", "bits", "over", "families"] [.ref kp, .ref p] = [some (.ref kp), some (.ref p), none, none, none] from rfl]
    obtain ⟨hk, hp, l1, l9, hc, hT, k⟩ := h
    have w2 := hk.w2
    
    walk_at "rd"
    refine ⟨kp, p, cs, rfl, ⟨wd, s, hk⟩, hp, l1, l9, hc, fun H1 s1 => ?_⟩
    walk_at "rd"
    refine w_fb T rfl (hk.same s1) ?_
    walk_at "rd"
    refine ⟨(Sm.of s1).2 hT, fun fn c' H3 s3 hco => ?_⟩
    walk_at "rd"
    intro C' hC' hlam
    walk_at "rd"
    have zb : ∀ x : Int, (2 : Int) ^ 0 ∣ pvl cs x := fun x => ⟨pvl cs x, by rw [Int.pow_zero, Int.one_mul]⟩
    have hk1 := hk.same s1
    have hp1 := s1 _ _ hp
    refine ⟨fn, 1, _, ntP wd cs, rfl, hlam 14 _ (by decide) (fun ws H4 Q4 zz => ?_), by omega, ntP_t.mpr (.inl (by omega)), fun y z y1 yz zl hy => ntP_t.mpr ?_, fun over H5 o1 o2 hP hlow s5 => ?_⟩
    · obtain ⟨m, rfl, m1, m2, s4, q⟩ := zz
      refine ⟨_, rfl, s4.at hco, ?_⟩
      dsimp only [List.cons_append, List.nil_append]
      walk_at "rd"
      unfold tOrV
      walk_at "rd"
      by_cases big : (wd : Int) < m
      · rw [decide_eq_true big]
        refine iteT ?_
        have := q H4 (Sm.refl H4)
        rw [ntP_t.mpr (.inl big)] at this
        exact this
      rw [decide_eq_false big]
      refine iteF ?_
      obtain ⟨m, rfl⟩ := Int.eq_ofNat_of_zero_le (show 0 ≤ m by omega)
      unfold tNotT
      walk_at "rd"
      have s34 := s3.trans s4
      refine ⟨p, cs, m, rfl, s34.at hp1, l1, l9, by omega, fun r H6 hf s6 => ?_⟩
      obtain ⟨out, fl, hout, row, nrow, cov, _⟩ := hf
      refine ⟨_, .inl ⟨out, SqL.of hout, rfl⟩, ?_⟩
      have := q H6 (Sm.of s6)
      refine cast (congrArg (fun b => Q4 (V.bl b) H6) ?_) this
      cases fl with
      | nil =>
        cases row
        exact ntP_t.mpr (.inr fun x d => cover_nil ((cov x).mpr d))
      | cons pp fl =>
        have hz := (cov pp.1).mp ⟨pp.1, pp.2, List.mem_cons_self, by rw [Int.sub_self]; exact Int.dvd_zero _⟩
        have ez : ntP wd cs (m : Int) = false := by
          refine Bool.eq_false_iff.mpr fun z => ?_
          rcases ntP_t.mp z with z | z
          · exact big z
          · exact z _ hz
        cases row
        exact ez
    · rcases ntP_t.mp hy with h | h
      · exact .inl (by omega)
      · exact .inr fun x d => h x (Int.dvd_trans (gppR (by omega)) d)
    obtain ⟨m, rfl⟩ := Int.eq_ofNat_of_zero_le (show 0 ≤ over by omega)
    obtain ⟨m, rfl⟩ : ∃ m', m = m' + 1 := ⟨m - 1, by omega⟩
    have s35 := s3.trans s5
    walk_at "rd"
    rw [show ((m + 1 : Nat) : Int) - 1 = (m : Int) by omega]
    refine ⟨p, cs, m, rfl, s35.at hp1, l1, l9, by omega, fun r H6 hf s6 => ?_⟩
    obtain ⟨out, fl, hout, row, nrow, cov, _⟩ := hf
    have hsm : ∃ x, (2 : Int) ^ m ∣ pvl cs x := by
      rcases Nat.eq_zero_or_pos m with z | z
      · exact ⟨0, by rw [z]; exact zb 0⟩
      · refine Classical.byContradiction fun no => ?_
        have := hlow (m : Int) (by omega) (by omega)
        rw [ntP_t.mpr (.inr fun x d => no ⟨x, d⟩)] at this
        cases this
    cases fl with
    | nil =>
      obtain ⟨x, hx⟩ := hsm
      exact (cover_nil ((cov x).mpr hx)).elim
    | cons pp fl =>
      obtain ⟨f, e⟩ := pp
      cases row with
      | cons ht row =>
      rename_i t rs
      walk_at "rd"
      refine w_ixL (v := .ref t) hout (by show atI _ ((0 : Nat) : Int) = _; exact atI_nat rfl) ?_
      walk_at "rd"
      rw [show ((m + 1 : Nat) : Int) - 1 = (m : Int) by omega]
      refine ⟨by show 2 ≤ sizeLine; decide, fun q hq => ?_⟩
      refine k q m e f fl _ (by omega) (fun lt x d => ?_) nrow cov upd_same ((((Sm.of s1).trans s35).trans (Sm.of s6)).new hq)
      rcases ntP_t.mp hP with z | z
      · omega
      · exact z x d
def sp__law_source_of (K : PySem.W.Frag) (C : Addr) (TS : List (Addr × Str)) : Sp := fun vs H Q _ => ∃ (c : Int), vs = [.int c] ∧ ∀ p H', H p = none → Same H H' → SrcAt H' p → Q (.ref p) H'
theorem ok__law_source_of {P : Program} {w : World} {K : PySem.W.Frag} {mg : Str → Option Value} {base : Heap} (T : Txt K mg) (B : TBs T base) : FnOk P w K mg base CX0 1 T.f__law_source_of T.fd__law_source_of ["_law_cell"] (sp__law_source_of K T.C_Kind T.tabs) := by
  refine T.F__law_source_of.ok sc__law_source_of (fun vs H Q E h => ?_) (fun cdv A outer s H vs Q E hr h => ?_)
  · obtain ⟨c, rfl, _⟩ := h
    rfl
  · obtain ⟨c, rfl, h⟩ := h
    refine ⟨_, (pss_cons (ps_set (i := 0) sc__law_source_of.nd rfl (Or.inl rfl) (pe_ifExp (pt_cmpR op_ge (pv 0 (hv := Or.inl rfl)) pe_int (nomark _)) (pv 0 (hv := Or.inl rfl)) (pe_op op_sub (pe_op op_sub pe_int (pe_op op_mul pe_int (pv 0 (hv := Or.inl rfl)))) pe_int)))
      (pss_one (ps_ret (pe_lst (pa_cons (pe_op op_mul (pv 0 (hv := Or.inl rfl)) (pe_callTy (T := "int") (r := rIntC) call_int1 (by rfl) T.n_int (by decide +kernel) (pa_cons (pe_cmpR op_ge (pv 0 (hv := Or.inl rfl)) (pe_op op_pow pe_int pe_int) (nomark _)) pa_nil))) (pa_cons (pe_op op_mod (pe_callTy (T := "int") (r := rIntC) call_int1 (by rfl) T.n_int (by decide +kernel) (pa_cons (pv 0 (hv := Or.inl rfl)) pa_nil)) pe_int) (pa_cons pe_int pa_nil))))))), ?_⟩
    try dsimp only [cxOf, Cx.nox, Cx.wish, Cx.blk]
    rw [show L2.start ["_law_cell"] [.int c] = [some (.int c)] from rfl]
    walk_at "rd"
    refine w_if ?_
    walk_at "rd"
    refine w_dec (fun _ => ?_) (fun _ => ?_)
    all_goals
      walk_at "rd"
      refine w_I (Or.inr ⟨by split <;> decide, by split <;> decide⟩) ?_
      walk_at "rd"
      refine ⟨by show 3 ≤ sizeLine; decide, fun p hp => ?_⟩
      exact h p _ hp (sm_new (Same.refl H) hp) ⟨_, _, _, upd_same⟩
def sp__law_next (K : PySem.W.Frag) (C : Addr) (TS : List (Addr × Str)) : Sp := fun vs H Q _ => ∃ (p : Addr) (m : Int), vs = [.ref p, .int m] ∧ SrcAt H p ∧ 0 < m ∧ m.natAbs < 2 ^ 8999 ∧ ∀ v H', 0 ≤ v → v < m → Kp p H H' → SrcAt H' p → Q (.int v) H'
theorem ok__law_next {P : Program} {w : World} {K : PySem.W.Frag} {mg : Str → Option Value} {base : Heap} (T : Txt K mg) (B : TBs T base) : FnOk P w K mg base CX0 1 T.f__law_next T.fd__law_next ["_law_source", "_law_many"] (sp__law_next K T.C_Kind T.tabs) := by
  refine T.F__law_next.ok sc__law_next (fun vs H Q E h => ?_) (fun cdv A outer s H vs Q E hr h => ?_)
  · obtain ⟨p, m, rfl, _⟩ := h
    rfl
  · obtain ⟨p, m, rfl, h⟩ := h
    refine ⟨_, (pss_cons (ps_if (pt_cmpR op_gt (pe_ix (r := rIxL K) ix_list (pv 0 (hv := Or.inl rfl)) pe_int (fun _ _ => rfl)) pe_int (nomark _)) (pss_cons (ps_set (i := 2) sc__law_next.nd rfl (Or.inl rfl) (pe_op op_mod (pe_callTy (T := "int") (r := rIntC) call_int1 (by rfl) T.n_int (by decide +kernel) (pa_cons (pe_ix (r := rIxL K) ix_list (pv 0 (hv := Or.inl rfl)) pe_int (fun _ _ => rfl)) pa_nil)) (pv 1 (hv := Or.inl rfl))))
      (pss_cons (ps_asg (pe_op op_fdivW (pe_ix (r := rIxL K) ix_list (pv 0 (hv := Or.inl rfl)) pe_int (fun _ _ => rfl)) (pv 1 (hv := Or.inl rfl))) (pg_sub (pv 0 (hv := Or.inl rfl)) pe_int set_list))
      (pss_one (ps_ret (pv 2 (hv := Or.inl rfl)))))) pss_nil)
      (pss_cons (ps_asg (pe_op op_add (pe_ix (r := rIxL K) ix_list (pv 0 (hv := Or.inl rfl)) pe_int (fun _ _ => rfl)) pe_int) (pg_sub (pv 0 (hv := Or.inl rfl)) pe_int set_list))
      (pss_cons (ps_set (i := 3) sc__law_next.nd rfl (Or.inl rfl) pe_int)
      (pss_cons (ps_set (i := 4) sc__law_next.nd rfl (Or.inl rfl) (pe_op op_mod (pe_callTy (T := "int") (r := rIntC) call_int1 (by rfl) T.n_int (by decide +kernel) (pa_cons (pe_op op_add (pe_op op_add (pe_ix (r := rIxL K) ix_list (pv 0 (hv := Or.inl rfl)) pe_int (fun _ _ => rfl)) (pe_op op_mul pe_int (pe_ix (r := rIxL K) ix_list (pv 0 (hv := Or.inl rfl)) pe_int (fun _ _ => rfl)))) pe_int) pa_nil)) (pv 3 (hv := Or.inl rfl))))
      (pss_cons (ps_set (i := 4) sc__law_next.nd rfl (Or.inl rfl) (pe_op op_mod (pe_callTy (T := "int") (r := rIntC) call_int1 (by rfl) T.n_int (by decide +kernel) (pa_cons (pe_op op_mul (pv 4 (hv := Or.inl rfl)) pe_int) pa_nil)) (pv 3 (hv := Or.inl rfl))))
      (pss_cons (ps_set (i := 4) sc__law_next.nd rfl (Or.inl rfl) (pe_op op_mod (pe_callTy (T := "int") (r := rIntC) call_int1 (by rfl) T.n_int (by decide +kernel) (pa_cons (pe_op op_mul (pv 4 (hv := Or.inl rfl)) (pe_op op_add (pe_op op_fdiv (pv 4 (hv := Or.inl rfl)) pe_int) pe_int)) pa_nil)) (pv 3 (hv := Or.inl rfl))))
      (pss_cons (ps_set (i := 4) sc__law_next.nd rfl (Or.inl rfl) (pe_op op_mod (pe_callTy (T := "int") (r := rIntC) call_int1 (by rfl) T.n_int (by decide +kernel) (pa_cons (pe_op op_mul (pv 4 (hv := Or.inl rfl)) (pe_op op_add (pe_op op_fdiv (pv 4 (hv := Or.inl rfl)) pe_int) pe_int)) pa_nil)) pe_int))
      (pss_one (ps_ret (pe_op op_mod (pe_callTy (T := "int") (r := rIntC) call_int1 (by rfl) T.n_int (by decide +kernel) (pa_cons (pe_op op_fdiv (pv 4 (hv := Or.inl rfl)) pe_int) pa_nil)) (pv 1 (hv := Or.inl rfl)))))))))))), ?_⟩
    try dsimp only [cxOf, Cx.nox, Cx.wish, Cx.blk]
    rw [show L2.start ["_law_source", "_law_many", "_law_found", "_law_prime", "_law_number"] [.ref p, .int m] = [some (.ref p), some (.int m), none, none, none] from rfl]
    obtain ⟨⟨a, b, c, hp⟩, h0, hb, k⟩ := h
    have fin : ∀ (x : Int) (H' : Hp), Kp p H H' → SrcAt H' p → Q (.int (x % m)) H' := fun x H' a b => k _ _ (Int.emod_nonneg x (Int.ne_of_gt h0)) (Int.emod_lt_of_pos x h0) a b
    clear k
    walk_at "rd"
    refine w_dec (fun _ => ?_) (fun _ => ?_)
    · walk_at "rd"
      refine w_I h0 ?_
      walk_at "rd"
      refine w_I (wide_div h0 hb (by decide) (by decide)) ?_
      walk_at "rd"
      exact fin _ _ (Kp.refl p H).upd ⟨_, _, _, upd_same⟩
    · walk_at "rd"
      have hp1 : ∀ x : Int, 0 ≤ x % 2147483647 ∧ x % 2147483647 < 2147483647 := fun x => ⟨Int.emod_nonneg x (by decide), Int.emod_lt_of_pos x (by decide)⟩
      refine w_I (CC := CMul) (Or.inl ⟨Int.lt_of_lt_of_le (by decide) (hp1 _).1, Int.lt_trans (hp1 _).2 (by decide)⟩) ?_
      walk_at "rd"
      refine w_I (CC := CMul) (Or.inl ⟨Int.lt_of_lt_of_le (by decide) (hp1 _).1, Int.lt_trans (hp1 _).2 (by decide)⟩) ?_
      walk_at "rd"
      refine w_I h0 ?_
      walk_at "rd"
      exact fin _ _ (Kp.refl p H).upd ⟨_, _, _, upd_same⟩
def sp__law_one (K : PySem.W.Frag) (C : Addr) (TS : List (Addr × Str)) : Sp := fun vs H Q _ => ∃ (p l : Addr) (ns : List Int), vs = [.ref p, .ref l] ∧ SrcAt H p ∧ H l = some (.lst (ns.map V.int)) ∧ l ≠ p ∧ 0 < ns.length ∧ ns.length ≤ 1000 ∧ ∀ v H', v ∈ ns → Kp p H H' → SrcAt H' p → Q (.int v) H'
theorem ok__law_one {P : Program} {w : World} {K : PySem.W.Frag} {mg : Str → Option Value} {base : Heap} (T : Txt K mg) (B : TBs T base) : FnOk P w K mg base CX0 2 T.f__law_one T.fd__law_one ["_law_source", "_law_some"] (sp__law_one K T.C_Kind T.tabs) := by
  have G__law_next := ok__law_next (P := P) (w := w) (base := base) T B
  refine T.F__law_one.ok sc__law_one (fun vs H Q E h => ?_) (fun cdv A outer s H vs Q E hr h => ?_)
  · obtain ⟨p, l, ns, rfl, _⟩ := h
    rfl
  · obtain ⟨p, l, ns, rfl, h⟩ := h
    have hr__law_next : Room 1 _ := hr.mono (by decide)
    refine ⟨_, (pss_one (ps_ret (pe_ix (r := rIxL K) ix_list (pv 1 (hv := Or.inl rfl)) (pe_call G__law_next hr__law_next rfl T.g__law_next T.k__law_next T.b__law_next .nil pass0 (pa_cons (pv 0 (hv := Or.inl rfl)) (pa_cons (pe_callB (id := "len") (r := rLenS K) call_len_seq (by rfl) T.n_len (by decide +kernel) (pa_cons (pv 1 (hv := Or.inl rfl)) pa_nil)) pa_nil))) (fun _ _ => rfl)))), ?_⟩
    try dsimp only [cxOf, Cx.nox, Cx.wish, Cx.blk]
    rw [show L2.start ["_law_source", "_law_some"] [.ref p, .ref l] = [some (.ref p), some (.ref l)] from rfl]
    obtain ⟨hs, hl, hn, n0, n1, k⟩ := h
    walk_at "rd"
    refine w_len hl ?_
    rw [List.length_map]
    walk_at "rd"
    refine ⟨p, _, rfl, hs, by omega, Nat.lt_trans (show ((ns.length : Nat) : Int).natAbs < 2 ^ 10 by omega) (Nat.pow_lt_pow_right (by decide) (by decide)), fun v H' h1 h2 kp hs' => ?_⟩
    obtain ⟨j, rfl⟩ := Int.eq_ofNat_of_zero_le h1
    have hj : j < ns.length := by omega
    refine w_ixL (kp _ _ hn hl) (atI_nat (v := V.int ns[j]) (by rw [List.getElem?_map, List.getElem?_eq_getElem hj]; rfl)) ?_
    exact k _ _ (List.getElem_mem hj) kp hs'
def sp__law_cell_at (K : PySem.W.Frag) (C : Addr) (TS : List (Addr × Str)) : Sp := fun vs H Q _ => ∃ (a : Addr) (ns : List Int), vs = [.ref a, .int 0] ∧ SqL K H a (ns.map V.int) ∧ ns.length ≤ 63 ∧ ∀ v H', Same H H' → Q (.int v) H'
theorem ok__law_cell_at {P : Program} {w : World} {K : PySem.W.Frag} {mg : Str → Option Value} {base : Heap} (T : Txt K mg) (B : TBs T base) : FnOk P w K mg base CX0 1 T.f__law_cell_at T.fd__law_cell_at ["_law_script", "_law_index"] (sp__law_cell_at K T.C_Kind T.tabs) := by
  refine T.F__law_cell_at.ok sc__law_cell_at (fun vs H Q E h => ?_) (fun cdv A outer s H vs Q E hr h => ?_)
  · obtain ⟨a, ns, rfl, _⟩ := h
    rfl
  · obtain ⟨a, ns, rfl, h⟩ := h
    refine ⟨_, (pss_one (ps_ret (pe_ix (r := rIxL K) ix_list (pe_op op_cat (pe_slice sl_list (pv 0 (hv := Or.inl rfl)) (po_some (pv 1 (hv := Or.inl rfl))) (po_some (pe_op op_add (pv 1 (hv := Or.inl rfl)) pe_int))) (pe_lst (pa_cons pe_int pa_nil))) pe_int (fun _ _ => rfl)))), ?_⟩
    try dsimp only [cxOf, Cx.nox, Cx.wish, Cx.blk]
    rw [show L2.start ["_law_script", "_law_index"] [.ref a, .int 0] = [some (.ref a), some (.int 0)] from rfl]
    obtain ⟨hS, n1, k⟩ := h
    walk_at "rd"
    refine w_slL hS (fun p1 h1 => ?_)
    walk_at "rd"
    refine ⟨by show 1 ≤ sizeLine; decide, fun p2 h2 => ?_⟩
    have e1 : (L2.upd (L2.upd H p1 (.lst (cutV (ns.map V.int) (some 0) (some (0 + 1))))) p2 (.lst [V.int 0])) p1 = some (.lst (cutV (ns.map V.int) (some 0) (some (0 + 1)))) := by
      rw [upd_ne (ne_of_none upd_same h2)]; exact upd_same
    have lc : (cutV (ns.map V.int) (some 0) (some (0 + 1))).length ≤ 63 := by
      unfold cutV; rw [List.length_take, List.length_drop, List.length_map]; omega
    refine w_cat e1 upd_same (by show _ + 1 ≤ sizeLine; exact Nat.le_trans (show _ ≤ 64 by omega) (by decide)) (fun p3 h3 => ?_)
    obtain ⟨v, hv⟩ : ∃ v : Int, atI (cutV (ns.map V.int) (some 0) (some (0 + 1)) ++ [V.int 0]) 0 = some (.int v) := by
      cases ns with
      | nil => exact ⟨0, rfl⟩
      | cons n r =>
        refine ⟨n, ?_⟩
        have e : cutV ((n :: r).map V.int) (some 0) (some (0 + 1)) = [V.int n] := by
          unfold cutV
          have q0 : HT.sIx ((n :: r).map V.int).length 0 (some 0) = 0 := (HT.sIx_nat _ _ 0).trans (Nat.zero_min _)
          have q1 : HT.sIx ((n :: r).map V.int).length ((n :: r).map V.int).length (some (0 + 1)) = 1 := (HT.sIx_nat _ _ 1).trans (by rw [List.length_map, List.length_cons]; omega)
          rw [q0, q1]; rfl
        rw [e]; rfl
    walk_at "rd"
    refine w_ixL upd_same hv ?_
    exact k _ _ (sm_new (sm_new (sm_new (Same.refl H) h1) h2) h3)
def sp__law_power (K : PySem.W.Frag) (C : Addr) (TS : List (Addr × Str)) : Sp := fun vs H Q _ => ∃ (n : Int), vs = [.int n] ∧ -1000 ≤ n ∧ n ≤ 1000 ∧ Q (.int (2 ^ n.toNat)) H
theorem ok__law_power {P : Program} {w : World} {K : PySem.W.Frag} {mg : Str → Option Value} {base : Heap} (T : Txt K mg) (B : TBs T base) : FnOk P w K mg base CX0 1 T.f__law_power T.fd__law_power ["_law_n"] (sp__law_power K T.C_Kind T.tabs) := by
  refine T.F__law_power.ok sc__law_power (fun vs H Q E h => ?_) (fun cdv A outer s H vs Q E hr h => ?_)
  · obtain ⟨n, rfl, _⟩ := h
    rfl
  · obtain ⟨n, rfl, h⟩ := h
    refine ⟨_, (pss_cons (ps_set (i := 1) sc__law_power.nd rfl (Or.inl rfl) pe_int)
      (pss_cons (ps_for PassesOwn.never rfl (pi_range1 (by rfl) T.n_range (pa_cons (pv 0 (hv := Or.inl rfl)) pa_nil)) (pg_name (i := 2) sc__law_power.nd rfl (Or.inl rfl))
        (pss_one (ps_set (i := 1) sc__law_power.nd rfl (Or.inl rfl) (pe_op op_mul pe_int (pv 1 (hv := Or.inl rfl))))))
      (pss_one (ps_ret (pv 1 (hv := Or.inl rfl)))))), ?_⟩
    try dsimp only [cxOf, Cx.nox, Cx.wish, Cx.blk]
    rw [show L2.start ["_law_n", "_law_found", "_law_k"] [.int n] = [some (.int n), none, none] from rfl]
    obtain ⟨hn0, hn, k⟩ := h
    walk_at "rd"
    refine ⟨_, rfl, by omega, by omega, for_range (lo := 0) (n := n.toNat) (fun i σ H' => ∃ v : Option V, σ = [some (.int n), some (.int (2 ^ i)), v] ∧ H' = H) ⟨none, rfl, rfl⟩ ?_ ?_⟩
    · rintro i σ H' hi ⟨v, rfl, rfl⟩
      walk_at "rd"
      refine ⟨some (.int (0 + (i : Int))), ?_, rfl⟩
      rw [Int.pow_succ, Int.mul_comm]
      all_goals rfl
    · rintro σ H' ⟨v, rfl, rfl⟩
      walk_at "rd"
      exact k
def sp__law_wide (K : PySem.W.Frag) (C : Addr) (TS : List (Addr × Str)) : Sp := fun vs H Q _ => ∃ (p : Addr) (m : Int), vs = [.ref p, .int m] ∧ SrcAt H p ∧ 0 < m ∧ m.natAbs < 2 ^ 8999 ∧ ∀ v H', 0 ≤ v → v < m → Kp p H H' → SrcAt H' p → Q (.int v) H'
theorem ok__law_wide {P : Program} {w : World} {K : PySem.W.Frag} {mg : Str → Option Value} {base : Heap} (T : Txt K mg) (B : TBs T base) : FnOk P w K mg base CX0 2 T.f__law_wide T.fd__law_wide ["_law_source", "_law_m"] (sp__law_wide K T.C_Kind T.tabs) := by
  have G__law_next := ok__law_next (P := P) (w := w) (base := base) T B
  refine T.F__law_wide.ok sc__law_wide (fun vs H Q E h => ?_) (fun cdv A outer s H vs Q E hr h => ?_)
  · obtain ⟨p, m, rfl, _⟩ := h
    rfl
  · obtain ⟨p, m, rfl, h⟩ := h
    have hr__law_next : Room 1 _ := hr.mono (by decide)
    refine ⟨_, (pss_cons (ps_set (i := 2) sc__law_wide.nd rfl (Or.inl rfl) (pe_call G__law_next hr__law_next rfl T.g__law_next T.k__law_next T.b__law_next .nil pass0 (pa_cons (pv 0 (hv := Or.inl rfl)) (pa_cons (pv 1 (hv := Or.inl rfl)) pa_nil))))
      (pss_cons (ps_for PassesOwn.never rfl (pi_range1 (by rfl) T.n_range (pa_cons (pe_op op_fdiv (pe_bits (pv 1 (hv := Or.inl rfl))) pe_int) pa_nil)) (pg_name (i := 3) sc__law_wide.nd rfl (Or.inl rfl))
        (pss_one (ps_set (i := 2) sc__law_wide.nd rfl (Or.inl rfl) (pe_op op_add (pe_op op_mul (pv 2 (hv := Or.inl rfl)) pe_int) (pe_call G__law_next hr__law_next rfl T.g__law_next T.k__law_next T.b__law_next .nil pass0 (pa_cons (pv 0 (hv := Or.inl rfl)) (pa_cons pe_int pa_nil)))))))
      (pss_one (ps_ret (pe_op op_mod (pe_callTy (T := "int") (r := rIntC) call_int1 (by rfl) T.n_int (by decide +kernel) (pa_cons (pv 2 (hv := Or.inl rfl)) pa_nil)) (pv 1 (hv := Or.inl rfl))))))), ?_⟩
    try dsimp only [cxOf, Cx.nox, Cx.wish, Cx.blk]
    rw [show L2.start ["_law_source", "_law_m", "_law_found", "_law_k"] [.ref p, .int m] = [some (.ref p), some (.int m), none, none] from rfl]
    obtain ⟨hs, h0, hb, k⟩ := h
    have bb := PyProof.Rows.intBits_le hb
    walk_at "rd"
    refine ⟨p, m, rfl, hs, h0, hb, fun v1 H1 _ _ kp1 hs1 => ?_⟩
    walk_at "rd"
    refine ⟨_, rfl, by omega, by omega, for_range (lo := 0) (n := ((Builtin.Int.intBits m : Int) / 30).toNat) (fun i σ H' => ∃ (f : Int) (v : Option V), σ = [some (.ref p), some (.int m), some (.int f), v] ∧ Kp p H H' ∧ SrcAt H' p) ⟨_, none, rfl, kp1, hs1⟩ ?_ ?_⟩
    · rintro i σ H' hi ⟨f, v, rfl, kp, hs'⟩
      walk_at "rd"
      refine ⟨p, _, rfl, hs', by decide, Nat.lt_trans (show (2147483648 : Int).natAbs < 2 ^ 32 by decide) (Nat.pow_lt_pow_right (by decide) (by decide)), fun v1 H1 _ _ kp1 hs1 => ?_⟩
      walk_at "rd"
      exact ⟨_, _, rfl, kp.trans kp1, hs1⟩
    · rintro σ H' ⟨f, v, rfl, kp, hs'⟩
      walk_at "rd"
      refine w_I h0 ?_
      walk_at "rd"
      exact k _ _ (Int.emod_nonneg _ (Int.ne_of_gt h0)) (Int.emod_lt_of_pos _ h0) kp hs'
def sp__law_times (K : PySem.W.Frag) (C : Addr) (TS : List (Addr × Str)) : Sp := fun vs H Q _ => ∃ (p q : Addr) (cs ds : List Int), vs = [.ref p, .ref q] ∧ H p = some (.lst (cs.map V.int)) ∧ H q = some (.lst (ds.map V.int)) ∧ 1 ≤ cs.length ∧ cs.length ≤ 20 ∧ 1 ≤ ds.length ∧ ds.length ≤ 20 ∧ n1 cs < 2 ^ 600 ∧ n1 ds < 2 ^ 600 ∧ ∀ (r : Addr) (es : List Int) H', H r = none → Same H H' → H' r = some (.lst (es.map V.int)) → es.length = cs.length + ds.length - 1 → n1 es ≤ n1 cs * n1 ds → (∀ x, pvl es x = pvl cs x * pvl ds x) → Q (.ref r) H'
theorem ok__law_times {P : Program} {w : World} {K : PySem.W.Frag} {mg : Str → Option Value} {base : Heap} (T : Txt K mg) (B : TBs T base) : FnOk P w K mg base CX0 1 T.f__law_times T.fd__law_times ["_law_one_here", "_law_other"] (sp__law_times K T.C_Kind T.tabs) := by
  refine T.F__law_times.ok sc__law_times (fun vs H Q E h => ?_) (fun cdv A outer s H vs Q E hr h => ?_)
  · obtain ⟨p, q, cs, ds, rfl, _⟩ := h
    rfl
  · obtain ⟨p, q, cs, ds, rfl, h⟩ := h
    refine ⟨_, (pss_cons (ps_set (i := 2) sc__law_times.nd rfl (Or.inl rfl) (pe_op op_rep (pe_lst (pa_cons pe_int pa_nil)) (pe_op op_sub (pe_op op_add (pe_callB (id := "len") (r := rLenS K) call_len_seq (by rfl) T.n_len (by decide +kernel) (pa_cons (pv 0 (hv := Or.inl rfl)) pa_nil)) (pe_callB (id := "len") (r := rLenS K) call_len_seq (by rfl) T.n_len (by decide +kernel) (pa_cons (pv 1 (hv := Or.inl rfl)) pa_nil))) pe_int)))
      (pss_cons (ps_for PassesOwn.never rfl (pi_enum (by rfl) T.n_enumerate (pa_cons (pv 0 (hv := Or.inl rfl)) pa_nil)) (pg_tup rfl (pgs_cons (pg_name (i := 3) sc__law_times.nd rfl (Or.inl rfl)) (pgs_cons (pg_name (i := 4) sc__law_times.nd rfl (Or.inl rfl)) pgs_nil)))
        (pss_one (ps_for PassesOwn.never rfl (pi_enum (by rfl) T.n_enumerate (pa_cons (pv 1 (hv := Or.inl rfl)) pa_nil)) (pg_tup rfl (pgs_cons (pg_name (i := 5) sc__law_times.nd rfl (Or.inl rfl)) (pgs_cons (pg_name (i := 6) sc__law_times.nd rfl (Or.inl rfl)) pgs_nil)))
        (pss_one (ps_asg (pe_op op_add (pe_ix (r := rIxL K) ix_list (pv 2 (hv := Or.inl rfl)) (pe_op op_add (pv 3 (hv := Or.inl rfl)) (pv 5 (hv := Or.inl rfl))) (fun _ _ => rfl)) (pe_op op_mulX (pv 4 (hv := Or.inl rfl)) (pv 6 (hv := Or.inl rfl)))) (pg_sub (pv 2 (hv := Or.inl rfl)) (pe_op op_add (pv 3 (hv := Or.inl rfl)) (pv 5 (hv := Or.inl rfl))) set_list))))))
      (pss_one (ps_ret (pv 2 (hv := Or.inl rfl)))))), ?_⟩
    try dsimp only [cxOf, Cx.nox, Cx.wish, Cx.blk]
    rw [show L2.start ["_law_one_here", "_law_other", "_law_found", "_law_j", "_law_p", "_law_k", "_law_q"] [.ref p, .ref q] = [some (.ref p), some (.ref q), none, none, none, none, none] from rfl]
    obtain ⟨hp, hq, c1, c20, d1, d20, hA, hB, k⟩ := h
    walk_at "rd"
    refine ⟨by show 1 ≤ sizeLine; decide, fun q1 hq1 => ?_⟩
    walk_at "rd"
    refine w_len (gn hp hq1) ?_
    walk_at "rd"
    refine w_len (gn hq hq1) ?_
    walk_at "rd"
    rw [List.length_map, List.length_map]
    obtain ⟨N, hN⟩ : ∃ N, N = cs.length + ds.length - 1 := ⟨_, rfl⟩
    rw [show (cs.length : Int) + (ds.length : Int) - 1 = (N : Int) by omega]
    refine w_rep (xs := [.int 0]) upd_same (by omega) (by omega) (by rw [Int.toNat_natCast, List.length_singleton, Nat.one_mul]; exact Nat.le_trans (show N ≤ 40 by omega) (by decide)) (fun R hR => ?_)
    have er : (List.replicate (N : Int).toNat [V.int 0]).flatten = (List.replicate N (0 : Int)).map V.int := by
      rw [Int.toNat_natCast, List.map_replicate]
      clear hN hR
      induction N with
      | zero => rfl
      | succ N ih => rw [List.replicate_succ, List.flatten_cons, ih]; rfl
    rw [er]
    have s0 := sm_new (o := .lst ((List.replicate N (0 : Int)).map V.int)) (sm_new (o := .lst [V.int 0]) (Same.refl H) hq1) hR
    have hR0 : (L2.upd (L2.upd H q1 (.lst [V.int 0])) R (.lst ((List.replicate N (0 : Int)).map V.int))) R = some (.lst ((List.replicate N (0 : Int)).map V.int)) := upd_same
    have nRH : H R = none := by
      cases z : H R with
      | none => rfl
      | some o => rw [sm_new (o := .lst [V.int 0]) (Same.refl H) hq1 _ _ z] at hR; cases hR
    generalize L2.upd (L2.upd H q1 _) R _ = H0 at s0 hR0 ⊢
    walk_at "rd"
    refine w_itE ?_
    walk_at "rd"
    refine ⟨p, cs.map V.int, rfl, SqL.of (s0 _ _ hp), for_it (walk_enum (K := K) (a := p) (xs := cs.map V.int)) (fun i σ H' => (∃ v3 v4 v5 v6 : Option V, σ = [some (.ref p), some (.ref q), some (.ref R), v3, v4, v5, v6]) ∧ (∃ es : List Int, H' R = some (.lst (es.map V.int)) ∧ es.length = N ∧ n1 es ≤ n1 (cs.take i) * n1 ds ∧ ∀ x, pvl es x = pvl (cs.take i) x * pvl ds x) ∧ Same H H') ⟨⟨_, _, _, _, rfl⟩, ⟨_, hR0, by rw [List.length_replicate], by rw [n1_rep0]; omega, fun x => by rw [pvl_rep0]; show 0 = 0 * _; rw [Int.zero_mul]⟩, s0⟩ (fun i σ H' _ z => SqL.of (z.2.2 _ _ hp)) ?_ ?_⟩
    rotate_left
    · rintro σ H1 ⟨⟨v3, v4, v5, v6, rfl⟩, ⟨es, hes, el, eb, ev⟩, s1⟩
      rw [List.length_map, List.take_length] at eb ev
      walk_at "rd"
      exact k R es H1 nRH s1 hes (by omega) eb ev
    rintro i z σ H1 H1' hi ⟨⟨v3, v4, v5, v6, rfl⟩, ⟨es, hes, el, eb, ev⟩, s1⟩ hy
    obtain ⟨tp, u, o', rfl, htp, rfl, hu, ho⟩ := hy
    obtain rfl : V.int (i : Nat) = u := Option.some.inj hu
    obtain ⟨c, hc, rfl⟩ := map_get ho
    rw [List.length_map] at hi
    have hA' := n1_mem (List.mem_of_getElem? hc)
    have s2 := sm_new (o := .tup [.int (i : Nat), .int c]) s1 htp
    have hes2 := gn (u := .tup [.int (i : Nat), .int c]) hes htp
    have htp' : (L2.upd H1 tp (.tup [.int (i : Nat), .int c])) tp = some (.tup [.int (i : Nat), .int c]) := upd_same
    generalize L2.upd H1 tp _ = H2 at s2 hes2 htp' ⊢
    walk_at "rd"
    refine w_itE ?_
    walk_at "rd"
    refine ⟨q, ds.map V.int, rfl, SqL.of (s2 _ _ hq), for_it (walk_enum (K := K) (a := q) (xs := ds.map V.int)) (fun j σ H' => (∃ v5 v6 : Option V, σ = [some (.ref p), some (.ref q), some (.ref R), some (.int (i : Nat)), some (.int c), v5, v6]) ∧ (∃ es : List Int, H' R = some (.lst (es.map V.int)) ∧ es.length = N ∧ n1 es ≤ n1 (cs.take i) * n1 ds + c.natAbs * n1 (ds.take j) ∧ ∀ x, pvl es x = pvl (cs.take i) x * pvl ds x + x ^ i * c * pvl (ds.take j) x) ∧ Same H H') ⟨⟨_, _, rfl⟩, ⟨es, hes2, el, Nat.le_trans eb (Nat.le_add_right _ _), fun x => by rw [ev]; show _ = _ + _ * 0; rw [Int.mul_zero, Int.add_zero]⟩, s2⟩ (fun i σ H' _ z => SqL.of (z.2.2 _ _ hq)) ?_ ?_⟩
    rotate_left
    · rintro σ H3 ⟨⟨v5, v6, rfl⟩, ⟨es, hes, el, eb, ev⟩, s3⟩
      rw [List.length_map, List.take_length] at eb ev
      exact ⟨⟨_, _, _, _, rfl⟩, ⟨es, hes, el, by rw [n1_take cs hc, Nat.add_mul]; exact eb, fun x => by rw [ev, pvl_take x cs hc, Int.add_mul]⟩, s3⟩
    clear hes2 htp' htp hes el eb ev es
    rintro j z σ H3 H3' hj ⟨⟨v5, v6, rfl⟩, ⟨es, hes, el, eb, ev⟩, s3⟩ hy
    obtain ⟨tq, u, o', rfl, htq, rfl, hu, ho⟩ := hy
    obtain rfl : V.int (j : Nat) = u := Option.some.inj hu
    obtain ⟨d, hd, rfl⟩ := map_get ho
    rw [List.length_map] at hj
    have hB' := n1_mem (List.mem_of_getElem? hd)
    have s4 := sm_new (o := .tup [.int (j : Nat), .int d]) s3 htq
    have hes4 := gn (u := .tup [.int (j : Nat), .int d]) hes htq
    have htq' : (L2.upd H3 tq (.tup [.int (j : Nat), .int d])) tq = some (.tup [.int (j : Nat), .int d]) := upd_same
    generalize L2.upd H3 tq _ = H4 at s4 hes4 htq' ⊢
    have ix : i + j < es.length := by omega
    walk_at "rd"
    rw [show ((i : Nat) : Int) + ((j : Nat) : Int) = ((i + j : Nat) : Int) by omega]
    refine w_ixL hes4 (atI_nat (v := V.int es[i + j]) (by rw [List.getElem?_map, List.getElem?_eq_getElem ix]; rfl)) ?_
    walk_at "rd"
    refine w_I (mulx_ok (Nat.lt_of_le_of_lt hA' hA) (Nat.lt_of_le_of_lt hB' hB) (by decide)) ?_
    walk_at "rd"
    rw [show ((i : Nat) : Int) + ((j : Nat) : Int) = ((i + j : Nat) : Int) by omega]
    refine w_setL hes4 (j := i + j) (by
      unfold ixN
      rw [List.length_map, if_pos (by omega), if_pos (by omega), Int.toNat_natCast]) ?_
    have eg : es[i + j] + c * d = es[i + j]?.getD 0 + c * d := by rw [List.getElem?_eq_getElem ix]; rfl
    refine ⟨⟨_, _, rfl⟩, ⟨es.set (i + j) (es[i + j]?.getD 0 + c * d), by rw [upd_same, List.map_set, eg], by rw [List.length_set, el], ?_, fun x => ?_⟩, fun b o e => by rw [upd_ne (ne_of_none e nRH)]; exact s4 _ _ e⟩
    · refine Nat.le_trans (n1_set es (i + j) (c * d)) ?_
      rw [n1_take ds hd, Nat.mul_add, Int.natAbs_mul]
      omega
    · rw [pvl_set x (c * d) es (i + j) ix, ev, pvl_take x ds hd, Int.mul_add, Int.pow_add, Int.add_assoc]
      congr 2
      rw [Int.mul_assoc (x ^ i), Int.mul_assoc (x ^ i), Int.mul_left_comm c]
def sp__law_moved (K : PySem.W.Frag) (C : Addr) (TS : List (Addr × Str)) : Sp := fun vs H Q _ => ∃ (q : Addr) (s : Int) (wd : Nat) (out : List V) (fl : FL), vs = [.ref q, .int s, .int (wd : Int)] ∧ H q = some (.lst out) ∧ PRow H out fl ∧ fl.length ≤ 20 ∧ wd ≤ 128 ∧ NRow wd fl ∧ ∀ r ys gl H', H' r = some (.lst ys) → PRow H' ys gl → NRow wd gl → (∀ x, Cover (famL gl) x ↔ Cover (famL fl) (x - s)) → Same H H' → Q (.ref r) H'
theorem ok__law_moved {P : Program} {w : World} {K : PySem.W.Frag} {mg : Str → Option Value} {base : Heap} (T : Txt K mg) (B : TBs T base) : FnOk P w K mg base CX0 2 T.f__law_moved T.fd__law_moved ["_law_some", "_law_shift", "_law_bits"] (sp__law_moved K T.C_Kind T.tabs) := by
  have G__law_power := ok__law_power (P := P) (w := w) (base := base) T B
  refine T.F__law_moved.ok sc__law_moved (fun vs H Q E h => ?_) (fun cdv A outer s H vs Q E hr h => ?_)
  · obtain ⟨q, s, wd, out, fl, rfl, _⟩ := h
    rfl
  · obtain ⟨q, s, wd, out, fl, rfl, h⟩ := h
    have hr__law_power : Room 1 _ := hr.mono (by decide)
    refine ⟨_, (pss_one (ps_ret (pe_callB (id := "sorted") (r := rSortedPO K) cr_sortedPO (by rfl) T.n_sorted (by decide +kernel) (pa_cons (pe_lc (own := [("_law_first", 3), ("_law_k", 4)]) (g := gTup K 2 (gCons (gName 3) (gCons (gName 4) gNil))) (tt := tYes) (by rfl) sc__law_moved.nd (pi_list (pv 0 (hv := Or.inl rfl))) (blkOk_by (own := [("_law_first", 3), ("_law_k", 4)]) (N := ["_law_some", "_law_shift", "_law_bits", "_law_first", "_law_k"]) (sc := defScope s__law_moved) (by decide +kernel)) (fun _ _ _ _ _ => (pg_tup rfl (pgs_cons (pg_name (i := 3) sc__law_moved.nd rfl (Or.inl rfl)) (pgs_cons (pg_name (i := 4) sc__law_moved.nd rfl (Or.inl rfl)) pgs_nil)))) (fun _ _ _ _ _ => pts_nil) (fun _ _ _ _ _ => (pe_tup (pa_cons (pe_op op_mod (pe_callTy (T := "int") (r := rIntC) call_int1 (by rfl) T.n_int (by decide +kernel) (pa_cons (pe_op op_add (pv 3 (hv := Or.inl rfl)) (pv 1 (hv := Or.inr (Or.inl rfl)))) pa_nil)) (pe_call G__law_power hr__law_power rfl T.g__law_power T.k__law_power T.b__law_power .nil pass0 (pa_cons (pv 4 (hv := Or.inl rfl)) pa_nil))) (pa_cons (pv 4 (hv := Or.inl rfl)) pa_nil))))) pa_nil)))), ?_⟩
    try dsimp only [cxOf, Cx.nox, Cx.wish, Cx.blk]
    rw [show L2.start ["_law_some", "_law_shift", "_law_bits", "_law_first", "_law_k"] [.ref q, .int s, .int (wd : Int)] = [some (.ref q), some (.int s), some (.int (wd : Int)), none, none] from rfl]
    obtain ⟨hq, row, l20, w2, nrow, k⟩ := h
    walk_at "rd"
    refine ⟨⟨_, SqL.of hq⟩, fun D hD => lc_list (K := K) (a := q) (xs := out) (fun j H' => (∃ ts, H' D = some (.lst ts) ∧ PRow H' ts ((fl.take j).map (mvF s))) ∧ Same H H') ⟨⟨_, upd_same, .nil⟩, sm_new (Same.refl H) hD⟩ (fun i H' _ q => SqL.of (q.2 _ _ hq)) ?_ ?_⟩
    · rintro j z H' hj ⟨⟨ts, hd, rowT⟩, sm⟩
      obtain ⟨t, f, e, rfl, ht, hf⟩ := row.get hj
      have ht' := sm _ _ ht
      have ew := nrow.few _ (List.mem_of_getElem? hf)
      have jl : j < fl.length := (List.getElem?_eq_some_iff.mp hf).1
      walk_at "rd"
      refine ⟨rfl, ?_⟩
      walk_at "rd"
      refine iteT ?_
      walk_at "rd"
      refine ⟨_, rfl, by omega, by omega, ?_⟩
      rw [Int.toNat_natCast]
      refine w_I (p2 e) ?_
      walk_at "rd"
      refine ⟨by show 2 ≤ sizeLine; decide, fun u hu => ?_⟩
      have nuD : u ≠ D := fun z => by rw [z, hd] at hu; cases hu
      have s2 := sm_new (o := .tup [.int ((f + s) % 2 ^ e), .int (e : Int)]) sm hu
      refine ⟨ts, gn hd hu, by rw [rowT.len, List.length_map, List.length_take]; exact Nat.lt_of_le_of_lt (show _ ≤ 20 by omega) (by decide), ⟨_, upd_same, ?_⟩, sm_mut s2 hD⟩
      have rowU : PRow (L2.upd H' u (.tup [.int ((f + s) % 2 ^ e), .int (e : Int)])) ts ((fl.take j).map (mvF s)) := rowT.keep fun q1 f e h => gn h hu
      rw [List.take_add_one, hf, List.map_append]
      refine PRow.add (rowU.keep fun q1 f e h => ?_) (by rw [upd_ne nuD]; exact upd_same)
      rw [upd_ne (L2.ne_of h (gn hd hu) (by intro z; cases z))]; exact h
    rintro H' ⟨⟨ts, hd, rowT⟩, sm⟩
    rw [row.len, List.take_of_length_le (Nat.le_refl _)] at rowT
    walk_at "rd"
    refine w_sortRows hd rowT (nrow.mv_nodup s) (fun l ys gl hl rowY pm so => ?_)
    obtain ⟨n2, cov⟩ := nrow.move s pm so
    exact k l ys gl _ upd_same (rowY.keep fun q1 f e h => gn h hl) n2 cov (sm_new sm hl)
def sp__law_powers_right (K : PySem.W.Frag) (C : Addr) (TS : List (Addr × Str)) : Sp := fun vs H Q _ => ∃ (kp : Addr) (wd : Nat) (s : Bool), vs = [.int (wd : Int), .ref kp] ∧ Kd C H kp wd s ∧ LamX.Tabs TS H ∧ ∀ H', Sm TS H H' → Q (.bl true) H'
theorem ok__law_powers_right {P : Program} {w : World} {K : PySem.W.Frag} {mg : Str → Option Value} {base : Heap} (T : Txt K mg) (B : TBs T base) : FnOk P w K mg base CX0 17 T.f__law_powers_right T.fd__law_powers_right ["_law_bits", "_law_kind"] (sp__law_powers_right K T.C_Kind T.tabs) := by
  have G__law_power := ok__law_power (P := P) (w := w) (base := base) T B
  have G_least_twos := ok_least_twos (P := P) (w := w) (base := base) T B
  have G_most_twos := ok_most_twos (P := P) (w := w) (base := base) T B
  have G_root_total := ok_root_total (P := P) (w := w) (base := base) T B
  have G_roots := ok_roots (P := P) (w := w) (base := base) T B
  refine T.F__law_powers_right.ok sc__law_powers_right (fun vs H Q E h => ?_) (fun cdv A outer s H vs Q E hr h => ?_)
  · obtain ⟨kp, wd, s, rfl, _⟩ := h
    rfl
  · obtain ⟨kp, wd, s, rfl, h⟩ := h
    have hr__law_power : Room 1 _ := hr.mono (by decide)
    have hr_least_twos : Room 5 _ := hr.mono (by decide)
    have hr_most_twos : Room 16 _ := hr.mono (by decide)
    have hr_root_total : Room 6 _ := hr.mono (by decide)
    have hr_roots : Room 5 _ := hr.mono (by decide)
    refine ⟨_, (pss_cons (ps_for PassesOwn.never rfl (pi_rangeL (by rfl) T.n_range (pa_cons pe_int (pa_cons pe_int pa_nil))) (pg_name (i := 2) sc__law_powers_right.nd rfl (Or.inl rfl))
        (pss_cons (ps_set (i := 3) sc__law_powers_right.nd rfl (Or.inl rfl) (pe_lst (pa_cons (pe_tup (pa_cons pe_int (pa_cons (pe_op op_fdiv (pe_op op_sub (pe_op op_add (pv 0 (hv := Or.inl rfl)) (pv 2 (hv := Or.inl rfl))) pe_int) (pv 2 (hv := Or.inl rfl))) pa_nil))) pa_nil)))
      (pss_cons (ps_if (pt_cmpR (op_neD hr.units) (pe_call G_roots hr_roots rfl T.g_roots T.k_roots T.b_roots .nil pass0 (pa_cons (pv 1 (hv := Or.inl rfl)) (pa_cons (pe_op op_cat (pe_op op_rep (pe_lst (pa_cons pe_int pa_nil)) (pv 2 (hv := Or.inl rfl))) (pe_lst (pa_cons pe_int pa_nil))) pa_nil))) (pv 3 (hv := Or.inl rfl)) (nomark _)) (pss_one (ps_ret pe_bl)) pss_nil)
      (pss_cons (ps_if (pt_cmpR op_ne (pe_call G_root_total hr_root_total rfl T.g_root_total T.k_root_total T.b_root_total .nil pass0 (pa_cons (pv 1 (hv := Or.inl rfl)) (pa_cons (pe_op op_cat (pe_op op_rep (pe_lst (pa_cons pe_int pa_nil)) (pv 2 (hv := Or.inl rfl))) (pe_lst (pa_cons pe_int pa_nil))) pa_nil))) (pe_call G__law_power hr__law_power rfl T.g__law_power T.k__law_power T.b__law_power .nil pass0 (pa_cons (pe_op op_sub (pv 0 (hv := Or.inl rfl)) (pe_ix (r := rIxT K) ix_tup (pe_ix (r := rIxL K) ix_list (pv 3 (hv := Or.inl rfl)) pe_int (fun _ _ => rfl)) pe_int (fun _ _ => rfl))) pa_nil)) (nomark _)) (pss_one (ps_ret pe_bl)) pss_nil)
      (pss_one (ps_if (PW.pt (pw_or (pt_cmpR (op_neD hr.units) (pe_call G_most_twos hr_most_twos rfl T.g_most_twos T.k_most_twos T.b_most_twos .nil pass0 (pa_cons (pv 1 (hv := Or.inl rfl)) (pa_cons (pe_op op_cat (pe_op op_rep (pe_lst (pa_cons pe_int pa_nil)) (pv 2 (hv := Or.inl rfl))) (pe_lst (pa_cons pe_int pa_nil))) pa_nil))) (pe_tup (pa_cons (pv 0 (hv := Or.inl rfl)) (pa_cons pe_int pa_nil))) (nomark _)) (pw_or1 (pt_cmpR op_ne (pe_call G_least_twos hr_least_twos rfl T.g_least_twos T.k_least_twos T.b_least_twos .nil pass0 (pa_cons (pv 1 (hv := Or.inl rfl)) (pa_cons (pe_op op_cat (pe_op op_rep (pe_lst (pa_cons pe_int pa_nil)) (pv 2 (hv := Or.inl rfl))) (pe_lst (pa_cons pe_int pa_nil))) pa_nil))) pe_int (nomark _))))) (pss_one (ps_ret pe_bl)) pss_nil))))))
      (pss_one (ps_ret pe_bl))), ?_⟩
    try dsimp only [cxOf, Cx.nox, Cx.wish, Cx.blk]
    rw [show L2.start ["_law_bits", "_law_kind", "_law_e", "_law_due"] [.int (wd : Int), .ref kp] = [some (.int (wd : Int)), some (.ref kp), none, none] from rfl]
    obtain ⟨hk, hT, k⟩ := h
    have w1 := hk.w1
    have w2 := hk.w2
    walk_at "rd"
    refine w_iRngL ?_
    walk_at "rd"
    refine ⟨1, 9, rfl, ?_⟩
    refine for_range (lo := 1) (n := 8) (fun i σ H' => (∃ v2 v3 : Option V, σ = [some (.int (wd : Int)), some (.ref kp), v2, v3]) ∧ Sm T.tabs H H') ⟨⟨_, _, rfl⟩, Sm.refl H⟩ ?_ ?_
    rotate_left
    · rintro σ H1 ⟨⟨v2, v3, rfl⟩, s1⟩
      walk_at "rd"
      exact k _ s1
    rintro i σ H1 hi ⟨⟨v2, v3, rfl⟩, s1⟩
    obtain ⟨e, he⟩ : ∃ e : Nat, e = i + 1 := ⟨_, rfl⟩
    rw [show (1 : Int) + (i : Int) = (e : Int) by omega]
    obtain ⟨c, hcq⟩ : ∃ c, c = (wd + e - 1) / e := ⟨_, rfl⟩
    have ec : ((wd : Int) + (e : Int) - 1) / (e : Int) = (c : Int) := by
      rw [show (wd : Int) + (e : Int) - 1 = ((wd + e - 1 : Nat) : Int) by omega, hcq]
      exact (Int.natCast_ediv _ _).symm
    have cw : c ≤ wd := by
      rw [hcq]
      refine Nat.div_le_of_le_mul ?_
      obtain ⟨a, rfl⟩ : ∃ a, wd = a + 1 := ⟨wd - 1, by omega⟩
      obtain ⟨b, rfl⟩ : ∃ b, e = b + 1 := ⟨e - 1, by omega⟩
      rw [Nat.mul_add, Nat.mul_one, Nat.add_mul]
      have := Nat.zero_le (b * a)
      omega
    walk_at "rd"
    refine w_I (CC := CDiv) ⟨by omega, by omega⟩ ?_
    rw [ec]
    walk_at "rd"
    refine ⟨by show 2 ≤ sizeLine; decide, fun u hu => ?_⟩
    walk_at "rd"
    refine ⟨by show 1 ≤ sizeLine; decide, fun d hd => ?_⟩
    have t1 := sm_new (o := .lst [.ref u]) (sm_new (o := .tup [.int 0, .int (c : Int)]) (Same.refl H1) hu) hd
    have hu' : (L2.upd (L2.upd H1 u (.tup [.int 0, .int (c : Int)])) d (.lst [.ref u])) u = some (.tup [.int 0, .int (c : Int)]) := gn upd_same hd
    have hd' : (L2.upd (L2.upd H1 u (.tup [.int 0, .int (c : Int)])) d (.lst [.ref u])) d = some (.lst [.ref u]) := upd_same
    generalize L2.upd (L2.upd H1 u _) d _ = H2 at t1 hu' hd' ⊢
    clear hu hd
    have s2 := s1.trans (Sm.of t1)
    obtain ⟨cs, hcs⟩ : ∃ cs : List Int, cs = List.replicate e 0 ++ [1] := ⟨_, rfl⟩
    have l1 : 1 ≤ cs.length := by rw [hcs, List.length_append, List.length_replicate]; show 1 ≤ e + 1; omega
    have l9 : cs.length ≤ 9 := by rw [hcs, List.length_append, List.length_replicate]; show e + 1 ≤ 9; omega
    have hc : ∀ x ∈ cs, SD x := fun x hx => by
      rw [hcs] at hx
      unfold SD
      rcases List.mem_append.mp hx with h | h
      · rw [(List.mem_replicate.mp h).2]; exact ⟨by decide +kernel, by decide +kernel⟩
      · rw [List.mem_singleton.mp h]; exact ⟨by decide +kernel, by decide +kernel⟩
    have ev : ∀ x, pvl cs x = x ^ e := fun x => by rw [hcs]; exact pvl_mono x e
    have e0 : pvl cs 0 = 0 := by rw [ev]; exact Int.zero_pow (by omega)
    have nr : NRow wd [((0 : Int), c)] := NRow.one (by omega) (gposR c) cw
    have cov : ∀ x, Cover (famL [((0 : Int), c)]) x ↔ (2 : Int) ^ wd ∣ pvl cs x := fun x => by
      rw [cover_one, ev, pow_dvd x (by omega), ← hcq, Int.sub_zero]
    walk_at "rd"
    refine ⟨by show 1 ≤ sizeLine; decide, fun a2 ha2 => ?_⟩
    walk_at "rd"
    refine w_rep (xs := [.int 0]) upd_same (by omega) (by omega) (by rw [Int.toNat_natCast, List.length_singleton, Nat.one_mul]; exact Nat.le_trans (show e ≤ 8 by omega) (by decide)) (fun b2 hb2 => ?_)
    rw [rep0 e]
    walk_at "rd"
    refine ⟨by show 1 ≤ sizeLine; decide, fun c2 hc2 => ?_⟩
    walk_at "rd"
    refine w_cat (gn upd_same hc2) upd_same (by rw [List.length_map, List.length_replicate]; exact Nat.le_trans (show e + 1 ≤ 9 by omega) (by decide)) (fun m2 hm2 => ?_)
    rw [mono_list e, ← hcs]
    have t2 := sm_new (o := .lst (cs.map V.int)) (sm_new (o := .lst [.int 1]) (sm_new (o := .lst ((List.replicate e (0 : Int)).map V.int)) (sm_new (o := .lst [.int 0]) (Same.refl H2) ha2) hb2) hc2) hm2
    have hm2' : (L2.upd (L2.upd (L2.upd (L2.upd H2 a2 (.lst [.int 0])) b2 (.lst ((List.replicate e (0 : Int)).map V.int))) c2 (.lst [.int 1])) m2 (.lst (cs.map V.int))) m2 = some (.lst (cs.map V.int)) := upd_same
    generalize L2.upd (L2.upd (L2.upd (L2.upd H2 a2 _) b2 _) c2 _) m2 _ = H3 at t2 hm2' ⊢
    clear ha2 hb2 hc2 hm2
    walk_at "rd"
    refine ⟨kp, m2, cs, wd, s, rfl, hk.sm (s2.trans (Sm.of t2)), hm2', l1, l9, hc, fun r1 H4 hf s4 => ?_⟩
    obtain ⟨out, hout, row⟩ := hf.list nr cov
    have s14 := s2.trans ((Sm.of t2).trans (Sm.of s4))
    have hu4 := s4 _ _ (t2 _ _ hu')
    have hd4 := s4 _ _ (t2 _ _ hd')
    walk_at "rd"
    refine w_neRow hout row hd4 (.cons hu4 .nil) ?_
    walk_at "rd"
    refine iteF ?_
    clear s4 t2 hf hout row hu' hd' s2 t1
    walk_at "rd"
    refine ⟨by show 1 ≤ sizeLine; decide, fun a3 ha3 => ?_⟩
    walk_at "rd"
    refine w_rep (xs := [.int 0]) upd_same (by omega) (by omega) (by rw [Int.toNat_natCast, List.length_singleton, Nat.one_mul]; exact Nat.le_trans (show e ≤ 8 by omega) (by decide)) (fun b3 hb3 => ?_)
    rw [rep0 e]
    walk_at "rd"
    refine ⟨by show 1 ≤ sizeLine; decide, fun c3 hc3 => ?_⟩
    walk_at "rd"
    refine w_cat (gn upd_same hc3) upd_same (by rw [List.length_map, List.length_replicate]; exact Nat.le_trans (show e + 1 ≤ 9 by omega) (by decide)) (fun m3 hm3 => ?_)
    rw [mono_list e, ← hcs]
    have t3 := sm_new (o := .lst (cs.map V.int)) (sm_new (o := .lst [.int 1]) (sm_new (o := .lst ((List.replicate e (0 : Int)).map V.int)) (sm_new (o := .lst [.int 0]) (Same.refl H4) ha3) hb3) hc3) hm3
    have hm3' : (L2.upd (L2.upd (L2.upd (L2.upd H4 a3 (.lst [.int 0])) b3 (.lst ((List.replicate e (0 : Int)).map V.int))) c3 (.lst [.int 1])) m3 (.lst (cs.map V.int))) m3 = some (.lst (cs.map V.int)) := upd_same
    generalize L2.upd (L2.upd (L2.upd (L2.upd H4 a3 _) b3 _) c3 _) m3 _ = H5 at t3 hm3' ⊢
    clear ha3 hb3 hc3 hm3
    walk_at "rd"
    refine ⟨kp, m3, cs, wd, s, rfl, hk.sm (s14.trans (Sm.of t3)), hm3', l1, l9, hc, fun H6 s6 => ?_⟩
    have s16 := s14.trans ((Sm.of t3).trans (Sm.of s6))
    have hu6 := s6 _ _ (t3 _ _ hu4)
    have hd6 := s6 _ _ (t3 _ _ hd4)
    rw [rt_tot nr cov, flsum_one]
    walk_at "rd"
    refine ⟨_, rfl, by omega, by omega, ?_⟩
    rw [show ((wd : Int) - (c : Int)).toNat = wd - c by omega]
    walk_at "rd"
    refine w_ndecT rfl ?_
    clear s6 t3 hu4 hd4 s14
    walk_at "rd"
    refine ⟨by show 1 ≤ sizeLine; decide, fun a4 ha4 => ?_⟩
    walk_at "rd"
    refine w_rep (xs := [.int 0]) upd_same (by omega) (by omega) (by rw [Int.toNat_natCast, List.length_singleton, Nat.one_mul]; exact Nat.le_trans (show e ≤ 8 by omega) (by decide)) (fun b4 hb4 => ?_)
    rw [rep0 e]
    walk_at "rd"
    refine ⟨by show 1 ≤ sizeLine; decide, fun c4 hc4 => ?_⟩
    walk_at "rd"
    refine w_cat (gn upd_same hc4) upd_same (by rw [List.length_map, List.length_replicate]; exact Nat.le_trans (show e + 1 ≤ 9 by omega) (by decide)) (fun m4 hm4 => ?_)
    rw [mono_list e, ← hcs]
    have t4 := sm_new (o := .lst (cs.map V.int)) (sm_new (o := .lst [.int 1]) (sm_new (o := .lst ((List.replicate e (0 : Int)).map V.int)) (sm_new (o := .lst [.int 0]) (Same.refl H6) ha4) hb4) hc4) hm4
    have hm4' : (L2.upd (L2.upd (L2.upd (L2.upd H6 a4 (.lst [.int 0])) b4 (.lst ((List.replicate e (0 : Int)).map V.int))) c4 (.lst [.int 1])) m4 (.lst (cs.map V.int))) m4 = some (.lst (cs.map V.int)) := upd_same
    generalize L2.upd (L2.upd (L2.upd (L2.upd H6 a4 _) b4 _) c4 _) m4 _ = H7 at t4 hm4' ⊢
    clear ha4 hb4 hc4 hm4
    walk_at "rd"
    refine ⟨kp, m4, cs, wd, s, rfl, hk.sm (s16.trans (Sm.of t4)), hm4', l1, l9, hc, (s16.trans (Sm.of t4)).2 hT, fun q m e' f fl H8 mw no n2 cov2 hq s8 => ?_⟩
    have em : m = wd := by
      refine Classical.byContradiction fun z => no (by omega) 0 ?_
      rw [e0]; exact Int.dvd_zero _
    subst em
    have efl := n2.uniq nr fun x => (cov2 x).trans (cov x).symm
    injection efl with efl _
    injection efl with ef _
    subst ef
    have s18 := s16.trans ((Sm.of t4).trans s8)
    walk_at "rd"
    refine ⟨by show 2 ≤ sizeLine; decide, fun z hz => ?_⟩
    refine w_neT2 (gn hq hz) upd_same ?_
    walk_at "rd"
    refine iteF ?_
    have s19 := s18.trans (Sm.of (sm_new (o := .tup [.int (m : Int), .int 0]) (Same.refl H8) hz))
    generalize L2.upd H8 z _ = H9 at s19 ⊢
    walk_at "rd"
    refine ⟨by show 1 ≤ sizeLine; decide, fun a5 ha5 => ?_⟩
    walk_at "rd"
    refine w_rep (xs := [.int 0]) upd_same (by omega) (by omega) (by rw [Int.toNat_natCast, List.length_singleton, Nat.one_mul]; exact Nat.le_trans (show e ≤ 8 by omega) (by decide)) (fun b5 hb5 => ?_)
    rw [rep0 e]
    walk_at "rd"
    refine ⟨by show 1 ≤ sizeLine; decide, fun c5 hc5 => ?_⟩
    walk_at "rd"
    refine w_cat (gn upd_same hc5) upd_same (by rw [List.length_map, List.length_replicate]; exact Nat.le_trans (show e + 1 ≤ 9 by omega) (by decide)) (fun m5 hm5 => ?_)
    rw [mono_list e, ← hcs]
    have t5 := sm_new (o := .lst (cs.map V.int)) (sm_new (o := .lst [.int 1]) (sm_new (o := .lst ((List.replicate e (0 : Int)).map V.int)) (sm_new (o := .lst [.int 0]) (Same.refl H9) ha5) hb5) hc5) hm5
    have hm5' : (L2.upd (L2.upd (L2.upd (L2.upd H9 a5 (.lst [.int 0])) b5 (.lst ((List.replicate e (0 : Int)).map V.int))) c5 (.lst [.int 1])) m5 (.lst (cs.map V.int))) m5 = some (.lst (cs.map V.int)) := upd_same
    generalize L2.upd (L2.upd (L2.upd (L2.upd H9 a5 _) b5 _) c5 _) m5 _ = H10 at t5 hm5' ⊢
    clear ha5 hb5 hc5 hm5
    walk_at "rd"
    refine ⟨kp, m5, cs, m, s, rfl, hk.sm (s19.trans (Sm.of t5)), hm5', l1, l9, hc, fun m' H11 hex hle s11 => ?_⟩
    have z1 := hle 1 (by rw [hcs, List.length_append, List.length_replicate]; show 1 < e + 1; omega)
    rw [ev, show (((1 : Nat) : Int)) = 1 by rfl, Int.one_pow, gv_one] at z1
    obtain rfl : m' = 0 := by omega
    walk_at "rd"
    exact ⟨⟨_, _, rfl⟩, (s19.trans (Sm.of t5)).trans (Sm.of s11)⟩
def sp__law_square_roots (K : PySem.W.Frag) (C : Addr) (TS : List (Addr × Str)) : Sp := fun vs H Q _ => ∃ (wd t : Nat), vs = [.int (wd : Int), .int (t : Int)] ∧ wd ≤ 128 ∧ 2 * t < wd ∧ ∀ q out fl H', H' q = some (.lst out) → PRow H' out fl → NRow wd fl → fl.length ≤ 2 → (∀ x, Cover (famL fl) x ↔ (2 : Int) ^ wd ∣ x * x - 2 ^ (2 * t)) → (fl.map fun p => (2 : Int) ^ (wd - p.2)).sum = (if wd - 2 * t ≤ 3 then (2 : Int) ^ (wd - (t + 1)) else 2 * 2 ^ (t + 1)) → Same H H' → Q (.ref q) H'
theorem ok__law_square_roots {P : Program} {w : World} {K : PySem.W.Frag} {mg : Str → Option Value} {base : Heap} (T : Txt K mg) (B : TBs T base) : FnOk P w K mg base CX0 2 T.f__law_square_roots T.fd__law_square_roots ["_law_bits", "_law_twos_here"] (sp__law_square_roots K T.C_Kind T.tabs) := by
  have G__law_power := ok__law_power (P := P) (w := w) (base := base) T B
  refine T.F__law_square_roots.ok sc__law_square_roots (fun vs H Q E h => ?_) (fun cdv A outer s H vs Q E hr h => ?_)
  · obtain ⟨wd, t, rfl, _⟩ := h
    rfl
  · obtain ⟨wd, t, rfl, h⟩ := h
    have hr__law_power : Room 1 _ := hr.mono (by decide)
    refine ⟨_, (pss_cons (ps_par rfl sc__law_square_roots.nd (i := 2) (j := 3) rfl rfl (by decide) rfl rfl (pa_cons (pe_op op_sub (pv 0 (hv := Or.inl rfl)) (pe_op op_mul pe_int (pv 1 (hv := Or.inl rfl)))) (pa_cons (pe_call G__law_power hr__law_power rfl T.g__law_power T.k__law_power T.b__law_power .nil pass0 (pa_cons (pv 1 (hv := Or.inl rfl)) pa_nil)) pa_nil)) (by rfl))
      (pss_cons (ps_if (pt_cmpR op_le (pv 2 (hv := Or.inl rfl)) pe_int (nomark _)) (pss_one (ps_ret (pe_lst (pa_cons (pe_tup (pa_cons (pv 3 (hv := Or.inl rfl)) (pa_cons (pe_op op_add (pv 1 (hv := Or.inl rfl)) pe_int) pa_nil))) pa_nil)))) pss_nil)
      (pss_cons (ps_set (i := 4) sc__law_square_roots.nd rfl (Or.inl rfl) (pe_call G__law_power hr__law_power rfl T.g__law_power T.k__law_power T.b__law_power .nil pass0 (pa_cons (pe_op op_sub (pe_op op_sub (pv 0 (hv := Or.inl rfl)) (pv 1 (hv := Or.inl rfl))) pe_int) pa_nil)))
      (pss_cons (ps_set (i := 5) sc__law_square_roots.nd rfl (Or.inl rfl) (pe_lst (pa_cons (pe_tup (pa_cons (pv 3 (hv := Or.inl rfl)) (pa_cons (pe_op op_sub (pe_op op_sub (pv 0 (hv := Or.inl rfl)) (pv 1 (hv := Or.inl rfl))) pe_int) pa_nil))) (pa_cons (pe_tup (pa_cons (pe_op op_sub (pv 4 (hv := Or.inl rfl)) (pv 3 (hv := Or.inl rfl))) (pa_cons (pe_op op_sub (pe_op op_sub (pv 0 (hv := Or.inl rfl)) (pv 1 (hv := Or.inl rfl))) pe_int) pa_nil))) pa_nil))))
      (pss_one (ps_ret (pe_callB (id := "sorted") (r := rSortedPO K) cr_sortedPO (by rfl) T.n_sorted (by decide +kernel) (pa_cons (pv 5 (hv := Or.inl rfl)) pa_nil)))))))), ?_⟩
    try dsimp only [cxOf, Cx.nox, Cx.wish, Cx.blk]
    rw [show L2.start ["_law_bits", "_law_twos_here", "_law_left", "_law_step", "_law_high", "_law_some"] [.int (wd : Int), .int (t : Int)] = [some (.int (wd : Int)), some (.int (t : Int)), none, none, none, none] from rfl]
    obtain ⟨w2, ht, k⟩ := h
    walk_at "rd"
    refine ⟨_, rfl, by omega, by omega, ?_⟩
    rw [Int.toNat_natCast]
    walk_at "rd"
    refine w_dec (fun c => ?_) (fun c => ?_)
    · walk_at "rd"
      refine ⟨by show 2 ≤ sizeLine; decide, fun u hu => ?_⟩
      walk_at "rd"
      refine ⟨by show 1 ≤ sizeLine; decide, fun r hr => ?_⟩
      obtain ⟨n, cov⟩ := sq_rowS ht (by omega)
      refine k r [.ref u] [((2 : Int) ^ t, t + 1)] _ upd_same (.cons (gn upd_same hr) .nil) n (by show 1 ≤ 2; omega) cov (by rw [flsum_one, if_pos (by omega)]) (sm_new (sm_new (Same.refl H) hu) hr)
    · walk_at "rd"
      refine ⟨_, rfl, by omega, by omega, ?_⟩
      have ew : (wd : Int) - (t : Int) - 1 = ((wd - t - 1 : Nat) : Int) := by omega
      rw [ew, Int.toNat_natCast]
      walk_at "rd"
      rw [ew]
      refine ⟨by show 2 ≤ sizeLine; decide, fun u hu => ?_⟩
      walk_at "rd"
      rw [ew]
      refine ⟨by show 2 ≤ sizeLine; decide, fun v hv => ?_⟩
      walk_at "rd"
      refine ⟨by show 2 ≤ sizeLine; decide, fun r hr => ?_⟩
      walk_at "rd"
      obtain ⟨n, so⟩ := sq_two (w := wd) (t := t) (by omega)
      refine w_sortRow (out := [.ref u, .ref v]) (fl := [((2 : Int) ^ t, wd - t - 1), (2 ^ (wd - t - 1) - 2 ^ t, wd - t - 1)]) upd_same (.cons (gn (gn upd_same hv) hr) (.cons (gn upd_same hr) .nil)) so (fun l hl => ?_)
      refine k l _ _ _ upd_same (.cons (gn (gn (gn upd_same hv) hr) hl) (.cons (gn (gn upd_same hr) hl) .nil)) n (by show 2 ≤ 2; omega) (sq_rowL ht (by omega)) ?_ (sm_new (sm_new (sm_new (sm_new (Same.refl H) hu) hv) hr) hl)
      rw [flsum_two, if_neg (by omega)]
      show (2 : Int) ^ (wd - (wd - t - 1)) + 2 ^ (wd - (wd - t - 1)) = _
      rw [show wd - (wd - t - 1) = t + 1 by omega]; omega
def sp__law_lines_right (K : PySem.W.Frag) (C : Addr) (TS : List (Addr × Str)) : Sp := fun vs H Q _ => ∃ (p kp : Addr) (wd : Nat) (s : Bool), vs = [.ref p, .int (wd : Int), .ref kp] ∧ SrcAt H p ∧ Kd C H kp wd s ∧ LamX.Tabs TS H ∧ ∀ H', Kq TS p H H' → SrcAt H' p → Q (.bl true) H'
theorem ok__law_lines_right {P : Program} {w : World} {K : PySem.W.Frag} {mg : Str → Option Value} {base : Heap} (T : Txt K mg) (B : TBs T base) : FnOk P w K mg base CX0 7 T.f__law_lines_right T.fd__law_lines_right ["_law_source", "_law_bits", "_law_kind"] (sp__law_lines_right K T.C_Kind T.tabs) := by
  have G__law_next := ok__law_next (P := P) (w := w) (base := base) T B
  have G__law_power := ok__law_power (P := P) (w := w) (base := base) T B
  have G__law_wide := ok__law_wide (P := P) (w := w) (base := base) T B
  have G_root_total := ok_root_total (P := P) (w := w) (base := base) T B
  have G_roots := ok_roots (P := P) (w := w) (base := base) T B
  refine T.F__law_lines_right.ok sc__law_lines_right (fun vs H Q E h => ?_) (fun cdv A outer s H vs Q E hr h => ?_)
  · obtain ⟨p, kp, wd, s, rfl, _⟩ := h
    rfl
  · obtain ⟨p, kp, wd, s, rfl, h⟩ := h
    have hr__law_next : Room 1 _ := hr.mono (by decide)
    have hr__law_power : Room 1 _ := hr.mono (by decide)
    have hr__law_wide : Room 2 _ := hr.mono (by decide)
    have hr_root_total : Room 6 _ := hr.mono (by decide)
    have hr_roots : Room 5 _ := hr.mono (by decide)
    refine ⟨_, (pss_cons (ps_for PassesOwn.never rfl (pi_range1 (by rfl) T.n_range (pa_cons pe_int pa_nil)) (pg_name (i := 3) sc__law_lines_right.nd rfl (Or.inl rfl))
        (pss_cons (ps_par rfl sc__law_lines_right.nd (i := 4) (j := 5) rfl rfl (by decide) rfl rfl (pa_cons (pe_call G__law_next hr__law_next rfl T.g__law_next T.k__law_next T.b__law_next .nil pass0 (pa_cons (pv 0 (hv := Or.inl rfl)) (pa_cons (pv 1 (hv := Or.inr (Or.inl rfl))) pa_nil))) (pa_cons (pe_op op_add (pe_op op_mul pe_int (pe_call G__law_wide hr__law_wide rfl T.g__law_wide T.k__law_wide T.b__law_wide .nil pass0 (pa_cons (pv 0 (hv := Or.inl rfl)) (pa_cons (pe_call G__law_power hr__law_power rfl T.g__law_power T.k__law_power T.b__law_power .nil pass0 (pa_cons (pe_op op_sub (pv 1 (hv := Or.inr (Or.inl rfl))) pe_int) pa_nil)) pa_nil)))) pe_int) pa_nil)) (by rfl))
      (pss_cons (ps_set (i := 6) sc__law_lines_right.nd rfl (Or.inl rfl) (pe_call G__law_wide hr__law_wide rfl T.g__law_wide T.k__law_wide T.b__law_wide .nil pass0 (pa_cons (pv 0 (hv := Or.inl rfl)) (pa_cons (pe_call G__law_power hr__law_power rfl T.g__law_power T.k__law_power T.b__law_power .nil pass0 (pa_cons (pv 1 (hv := Or.inr (Or.inl rfl))) pa_nil)) pa_nil))))
      (pss_cons (ps_set (i := 7) sc__law_lines_right.nd rfl (Or.inl rfl) (pe_lst (pa_cons (pe_op op_sub pe_int (pe_op op_mulX (pe_op op_mulX (pv 6 (hv := Or.inl rfl)) (pv 5 (hv := Or.inl rfl))) (pe_call G__law_power hr__law_power rfl T.g__law_power T.k__law_power T.b__law_power .nil pass0 (pa_cons (pv 4 (hv := Or.inl rfl)) pa_nil)))) (pa_cons (pe_op op_mulX (pv 5 (hv := Or.inl rfl)) (pe_call G__law_power hr__law_power rfl T.g__law_power T.k__law_power T.b__law_power .nil pass0 (pa_cons (pv 4 (hv := Or.inl rfl)) pa_nil))) pa_nil))))
      (pss_cons (ps_if (pt_cmpR (op_neD hr.units) (pe_lc (own := [("_law_one_here", 8)]) (g := gName 8) (by rfl) sc__law_lines_right.nd (pi_list (pv 7 (hv := Or.inl rfl))) (blkOk_by (own := [("_law_one_here", 8)]) (N := ["_law_source", "_law_bits", "_law_kind", "_law_turn", "_law_k", "_law_odd", "_law_r", "_law_line", "_law_one_here", "_law_due"]) (sc := defScope s__law_lines_right) (by decide +kernel)) (fun _ _ _ _ _ => (pg_name (i := 8) sc__law_lines_right.nd rfl (Or.inl rfl))) (fun _ _ _ _ _ => pts_one (pt_cmpR op_ge (pe_callB (id := "abs") (r := rAbsC) call_abs (by rfl) T.n_abs (by decide +kernel) (pa_cons (pv 8 (hv := Or.inl rfl)) pa_nil)) (pe_op op_pow pe_int pe_int) (nomark _))) (fun _ _ _ _ _ => (pv 8 (hv := Or.inl rfl)))) (pe_lst pa_nil) (nomark _)) (pss_one (ps_setLc (i := 7) (own := [("_law_one_here", 8)]) (g := gName 8) (tt := tYes) rfl sc__law_lines_right.nd rfl rfl (sw_true rfl rfl rfl (by decide +kernel)) (pi_list (pv 7 (hv := Or.inl rfl))) (blkOk_by (own := [("_law_one_here", 8)]) (N := ["_law_source", "_law_bits", "_law_kind", "_law_turn", "_law_k", "_law_odd", "_law_r", "_law_line", "_law_one_here", "_law_due"]) (sc := defScope s__law_lines_right) (by decide +kernel)) (fun _ _ _ _ _ => (pg_name (i := 8) sc__law_lines_right.nd rfl (Or.inl rfl))) (fun _ _ _ _ _ => pts_nil) (fun _ _ _ _ _ => (pe_op op_mod (pe_callTy (T := "int") (r := rIntC) call_int1 (by rfl) T.n_int (by decide +kernel) (pa_cons (pv 8 (hv := Or.inl rfl)) pa_nil)) (pe_call G__law_power hr__law_power rfl T.g__law_power T.k__law_power T.b__law_power .nil pass0 (pa_cons (pv 1 (hv := Or.inr (Or.inl rfl))) pa_nil)))))) pss_nil)
      (pss_cons (ps_set (i := 9) sc__law_lines_right.nd rfl (Or.inl rfl) (pe_lst (pa_cons (pe_tup (pa_cons (pe_op op_mod (pe_callTy (T := "int") (r := rIntC) call_int1 (by rfl) T.n_int (by decide +kernel) (pa_cons (pv 6 (hv := Or.inl rfl)) pa_nil)) (pe_call G__law_power hr__law_power rfl T.g__law_power T.k__law_power T.b__law_power .nil pass0 (pa_cons (pe_op op_sub (pv 1 (hv := Or.inr (Or.inl rfl))) (pv 4 (hv := Or.inl rfl))) pa_nil))) (pa_cons (pe_op op_sub (pv 1 (hv := Or.inr (Or.inl rfl))) (pv 4 (hv := Or.inl rfl))) pa_nil))) pa_nil)))
      (pss_cons (ps_if (PW.pt (pw_or (pt_cmpR (op_neD hr.units) (pe_call G_roots hr_roots rfl T.g_roots T.k_roots T.b_roots .nil pass0 (pa_cons (pv 2 (hv := Or.inl rfl)) (pa_cons (pv 7 (hv := Or.inl rfl)) pa_nil))) (pv 9 (hv := Or.inl rfl)) (nomark _)) (pw_or1 (pt_cmpR op_ne (pe_call G_root_total hr_root_total rfl T.g_root_total T.k_root_total T.b_root_total .nil pass0 (pa_cons (pv 2 (hv := Or.inl rfl)) (pa_cons (pv 7 (hv := Or.inl rfl)) pa_nil))) (pe_call G__law_power hr__law_power rfl T.g__law_power T.k__law_power T.b__law_power .nil pass0 (pa_cons (pv 4 (hv := Or.inl rfl)) pa_nil)) (nomark _))))) (pss_one (ps_ret pe_bl)) pss_nil)
      (pss_cons (ps_if (PW.pt (pw_and (pt_cmpR op_gt (pv 4 (hv := Or.inl rfl)) pe_int (nomark _)) (pw_and1 (pt_cmpR (op_neD hr.units) (pe_call G_roots hr_roots rfl T.g_roots T.k_roots T.b_roots .nil pass0 (pa_cons (pv 2 (hv := Or.inl rfl)) (pa_cons (pe_lst (pa_cons (pe_op op_add (pe_ix (r := rIxL K) ix_list (pv 7 (hv := Or.inl rfl)) pe_int (fun _ _ => rfl)) (pe_call G__law_power hr__law_power rfl T.g__law_power T.k__law_power T.b__law_power .nil pass0 (pa_cons (pe_op op_sub (pv 4 (hv := Or.inl rfl)) pe_int) pa_nil))) (pa_cons (pe_ix (r := rIxL K) ix_list (pv 7 (hv := Or.inl rfl)) pe_int (fun _ _ => rfl)) pa_nil))) pa_nil))) (pe_lst pa_nil) (nomark _))))) (pss_one (ps_ret pe_bl)) pss_nil)
      (pss_one (ps_if (PW.pt (pw_and (pt_cmpR op_gt (pv 4 (hv := Or.inl rfl)) pe_int (nomark _)) (pw_and1 (pt_cmpR op_ne (pe_call G_root_total hr_root_total rfl T.g_root_total T.k_root_total T.b_root_total .nil pass0 (pa_cons (pv 2 (hv := Or.inl rfl)) (pa_cons (pe_lst (pa_cons (pe_op op_add (pe_ix (r := rIxL K) ix_list (pv 7 (hv := Or.inl rfl)) pe_int (fun _ _ => rfl)) pe_int) (pa_cons (pe_ix (r := rIxL K) ix_list (pv 7 (hv := Or.inl rfl)) pe_int (fun _ _ => rfl)) pa_nil))) pa_nil))) pe_int (nomark _))))) (pss_one (ps_ret pe_bl)) pss_nil))))))))))
      (pss_one (ps_ret pe_bl))), ?_⟩
    try dsimp only [cxOf, Cx.nox, Cx.wish, Cx.blk]
    rw [show L2.start ["_law_source", "_law_bits", "_law_kind", "_law_turn", "_law_k", "_law_odd", "_law_r", "_law_line", "_law_one_here", "_law_due"] [.ref p, .int (wd : Int), .ref kp] = [some (.ref p), some (.int (wd : Int)), some (.ref kp), none, none, none, none, none, none, none] from rfl]
    obtain ⟨hs, hk, hT, k⟩ := h
    have w1 := hk.w1
    have w2 := hk.w2
    have d0 := LS.start hk hs hT
    clear hk hs hT
    walk_at "rd"
    refine ⟨_, rfl, by decide, by decide, for_range (lo := 0) (n := 4) (fun i σ H' => (∃ v3 v4 v5 v6 v7 v8 v9 : Option V, σ = [some (.ref p), some (.int (wd : Int)), some (.ref kp), v3, v4, v5, v6, v7, v8, v9]) ∧ Kq T.tabs p H H' ∧ LS T.C_Kind T.tabs H' kp wd s p) ⟨⟨_, _, _, _, _, _, _, rfl⟩, Kq.refl H, d0⟩ ?_ ?_⟩
    rotate_left
    · rintro σ H1 ⟨⟨v3, v4, v5, v6, v7, v8, v9, rfl⟩, q1, d1⟩
      walk_at "rd"
      exact k _ q1 d1.j
    clear d0
    rintro i σ H1 hi ⟨⟨v3, v4, v5, v6, v7, v8, v9, rfl⟩, q1, d1⟩
    walk_at "rd"
    refine ⟨p, _, rfl, d1.j, by omega, Nat.lt_trans (show (wd : Int).natAbs < 2 ^ 8 by omega) (Nat.pow_lt_pow_right (by decide) (by decide)), fun kk H2 k0 k1 kp2 j2 => ?_⟩
    obtain ⟨n, rfl⟩ := Int.eq_ofNat_of_zero_le k0
    have d2 := d1.draw kp2 j2
    have q2 := q1.trans (kp2.toS d1.j)
    clear d1 kp2 j2 q1
    walk_at "rd"
    refine ⟨_, rfl, by omega, by omega, ?_⟩
    rw [show ((wd : Int) - 1).toNat = wd - 1 by omega]
    refine ⟨p, _, rfl, d2.j, p2 _, b129p (by omega), fun od H3 o0 o1 kp3 j3 => ?_⟩
    have d3 := d2.draw kp3 j3
    have q3 := q2.trans (kp3.toS d2.j)
    clear d2 kp3 j3 q2
    walk_at "rd"
    refine ⟨_, rfl, by omega, by omega, ?_⟩
    rw [Int.toNat_natCast]
    refine ⟨p, _, rfl, d3.j, p2 _, b129p w2, fun r H4 r0 r1 kp4 j4 => ?_⟩
    have d4 := d3.draw kp4 j4
    have q4 := q3.trans (kp4.toS d3.j)
    clear d3 kp4 j4 q3
    try dsimp only [List.set]
    have hp := p2 wd
    have hn := p2 n
    have nw : (2 : Int) ^ n ≤ 2 ^ wd := by
      have := Nat.pow_le_pow_right (n := 2) (by decide) (show n ≤ wd by omega)
      exact_mod_cast this
    have e1 : (2 : Int) ^ wd = 2 ^ (wd - 1) * 2 := by rw [← Int.pow_succ]; congr 1; omega
    obtain ⟨O, hO⟩ : ∃ O, O = 2 * od + 1 := ⟨_, rfl⟩
    rw [← hO]
    have O0 : 0 < O := by omega
    have bO := b130 w2 (x := O) (by omega) (by omega)
    have br := b130 w2 (x := r) (by omega) (by omega)
    have bn := b130 w2 (x := (2 : Int) ^ n) (by omega) (by omega)
    have brO : (r * O).natAbs < 2 ^ 260 := by
      rw [Int.natAbs_mul]
      exact Nat.lt_of_lt_of_le (Nat.mul_lt_mul_of_lt_of_le (Nat.lt_of_lt_of_le br (Nat.le_refl _)) (Nat.le_of_lt bO) (by decide)) (by decide +kernel)
    walk_at "rd"
    refine w_I (mulx_ok br bO (by decide)) ?_
    walk_at "rd"
    refine ⟨_, rfl, by omega, by omega, ?_⟩
    rw [Int.toNat_natCast]
    refine w_I (mulx_ok brO bn (by decide)) ?_
    walk_at "rd"
    refine ⟨_, rfl, by omega, by omega, ?_⟩
    rw [Int.toNat_natCast]
    refine w_I (mulx_ok bO bn (by decide)) ?_
    walk_at "rd"
    refine ⟨by show 2 ≤ sizeLine; decide, fun q7 hq7 => ?_⟩
    obtain ⟨a0, ha0⟩ : ∃ a0, a0 = 0 - r * O * 2 ^ n := ⟨_, rfl⟩
    obtain ⟨b0, hb0⟩ : ∃ b0, b0 = O * 2 ^ n := ⟨_, rfl⟩
    rw [← ha0, ← hb0]
    have d5 := d4.same (sm_new (o := .lst [.int a0, .int b0]) (Same.refl H4) hq7)
    have q5 := q4.trans (Kq.of (Sm.of (sm_new (o := .lst [.int a0, .int b0]) (Same.refl H4) hq7)))
    have hl5 : (L2.upd H4 q7 (.lst [.int a0, .int b0])) q7 = some (.lst ([a0, b0].map V.int)) := upd_same
    generalize L2.upd H4 q7 _ = H5 at d5 q5 hl5 ⊢
    clear hq7 d4 q4
    walk_at "rd"
    refine ⟨⟨_, SqL.of hl5⟩, fun D hD => lc_list (K := K) (a := q7) (xs := [a0, b0].map V.int) (fun j H' => H' D = some (.lst ((([a0, b0].take j).filter fun c => decide (10 ^ 60 ≤ (c.natAbs : Int))).map V.int)) ∧ Same H5 H') ⟨upd_same, sm_new (Same.refl H5) hD⟩ (fun i H' _ q => SqL.of (q.2 _ _ hl5)) ?_ ?_⟩
    · rintro j z H' hj ⟨hd, sm⟩
      obtain ⟨c, hcj, rfl⟩ := map_get hj
      have jl : j < 2 := (List.getElem?_eq_some_iff.mp hcj).1
      walk_at "rd"
      refine ⟨rfl, ?_⟩
      walk_at "rd"
      refine w_dec (fun big => ?_) (fun small => ?_)
      · walk_at "rd"
        refine ⟨_, hd, by rw [List.length_map]; exact Nat.lt_of_le_of_lt (Nat.le_trans (List.length_filter_le _ _) (by rw [List.length_take]; show _ ≤ 2; omega)) (by decide), ?_, sm_mut sm hD⟩
        rw [upd_same, List.take_add_one, hcj, List.filter_append, List.map_append]
        have : decide ((10 : Int) ^ 60 ≤ (c.natAbs : Int)) = true := decide_eq_true (by rw [ab_nat] at big; exact big)
        simp only [Option.toList, List.filter_cons, List.filter_nil, this, if_true]
        rfl
      · walk_at "rd"
        refine ⟨?_, sm⟩
        rw [hd, List.take_add_one, hcj, List.filter_append]
        have : decide ((10 : Int) ^ 60 ≤ (c.natAbs : Int)) = false := decide_eq_false (by rw [ab_nat] at small; exact small)
        simp only [Option.toList, List.filter_cons, List.filter_nil, this, Bool.false_eq_true, if_false, List.append_nil]
    rintro H6 ⟨hd, s6⟩
    walk_at "rd"
    refine ⟨by show 0 ≤ sizeLine; decide, fun qe hqe => ?_⟩
    have d6 := d5.same (sm_new (o := .lst []) s6 hqe)
    have q6 := q5.trans (Kq.of (Sm.of (sm_new (o := .lst []) s6 hqe)))
    have hl6 : (L2.upd H6 qe (.lst [])) q7 = some (.lst ([a0, b0].map V.int)) := gn (s6 _ _ hl5) hqe
    have hd6 := gn (u := .lst []) hd hqe
    have he6 : (L2.upd H6 qe (.lst [])) qe = some (.lst []) := upd_same
    generalize L2.upd H6 qe _ = H7 at d6 q6 hl6 hd6 he6 ⊢
    clear hd s6 hqe hl5 d5 q5
    have a00 : a0 ≤ 0 := by
      have := Int.mul_nonneg (Int.mul_nonneg r0 (Int.le_of_lt O0)) (Int.le_of_lt hn)
      omega
    refine w_neIntsD hd6 he6 ?_
    refine ⟨_, rfl, ?_⟩
    refine w_stJ (fun σ' H' => ∃ (ql : Addr) (a b : Int) (v8 : Option V), σ' = [some (.ref p), some (.int (wd : Int)), some (.ref kp), some (.int (0 + (i : Int))), some (.int (n : Int)), some (.int O), some (.int r), some (.ref ql), v8, v9] ∧ H' ql = some (.lst ([a, b].map V.int)) ∧ (2 : Int) ^ wd ∣ a - a0 ∧ (2 : Int) ^ wd ∣ b - b0 ∧ SD a ∧ SD b ∧ a < 2 ^ wd ∧ Same H7 H') (fun ne Dx qx => ?_) (fun e Dx qx => ?_) ?_
    rotate_left
    · have e : (([a0, b0].take ([a0, b0].map V.int).length).filter fun c => decide (10 ^ 60 ≤ (c.natAbs : Int))) = [] := Classical.byContradiction e
      walk_at "rd"
      refine qx _ _ ⟨q7, a0, b0, _, rfl, hl6, by rw [Int.sub_self]; exact Int.dvd_zero _, by rw [Int.sub_self]; exact Int.dvd_zero _, ?_, ?_, by omega, Same.refl H7⟩
      · have := List.filter_eq_nil_iff.mp e a0 (by simp)
        exact sd_of (by have := of_decide_eq_false (Bool.eq_false_iff.mpr this); omega)
      · have := List.filter_eq_nil_iff.mp e b0 (by simp)
        exact sd_of (by have := of_decide_eq_false (Bool.eq_false_iff.mpr this); omega)
    rotate_left
    · walk_at "rd"
      refine ⟨⟨_, SqL.of hl6⟩, fun D2 hD2 => lc_list (K := K) (a := q7) (xs := [a0, b0].map V.int) (fun j H' => H' D2 = some (.lst (((([a0, b0].map (· % 2 ^ wd)).take j)).map V.int)) ∧ Same H7 H') ⟨upd_same, sm_new (Same.refl H7) hD2⟩ (fun i H' _ q => SqL.of (q.2 _ _ hl6)) ?_ ?_⟩
      · rintro j z H' hj ⟨hd, sm⟩
        obtain ⟨c, hcj, rfl⟩ := map_get hj
        have jl : j < 2 := (List.getElem?_eq_some_iff.mp hcj).1
        walk_at "rd"
        refine ⟨rfl, ?_⟩
        walk_at "rd"
        refine iteT ?_
        walk_at "rd"
        refine ⟨_, rfl, by omega, by omega, ?_⟩
        rw [Int.toNat_natCast]
        refine w_I hp ?_
        refine ⟨_, hd, by rw [List.length_map, List.length_take, List.length_map]; exact Nat.lt_of_le_of_lt (show _ ≤ 2 by show min _ 2 ≤ 2; omega) (by decide), ?_, sm_mut sm hD2⟩
        have ej : [a0 % 2 ^ wd, b0 % 2 ^ wd][j]? = some (c % 2 ^ wd) := by
          show ([a0, b0].map (· % 2 ^ wd))[j]? = _
          rw [List.getElem?_map, hcj]; rfl
        rw [upd_same, List.take_add_one, ej, List.map_append]; rfl
      rintro H8 ⟨hd, s8⟩
      walk_at "rd"
      have ma0 := Int.emod_nonneg a0 (Int.ne_of_gt hp)
      have ma1 := Int.emod_lt_of_pos a0 hp
      have mb0 := Int.emod_nonneg b0 (Int.ne_of_gt hp)
      have mb1 := Int.emod_lt_of_pos b0 hp
      exact qx _ _ ⟨D2, a0 % 2 ^ wd, b0 % 2 ^ wd, _, rfl, hd, Int.dvd_emod_sub_self, Int.dvd_emod_sub_self, b60 w2 ma0 (by omega), b60 w2 mb0 (by omega), ma1, s8⟩
    rintro σ' H8 ⟨ql, a, b, v8, rfl, hql, da, db, sa, sb, a1, s8⟩
    have d8 := d6.same s8
    have q8 := q6.trans (Kq.of (Sm.of s8))
    clear d6 q6 hl6 hd6 he6 s8
    rw [ha0] at da
    rw [hb0] at db
    have od1 : O % 2 = 1 := by omega
    have rl : ∀ x, (2 : Int) ^ wd ∣ pvl [a, b] x ↔ (2 : Int) ^ (wd - n) ∣ x - r := fun x => lin_root (by omega) od1 da db
    have pwn := p2 (wd - n)
    have rm0 := Int.emod_nonneg r (Int.ne_of_gt pwn)
    have rm1 := Int.emod_lt_of_pos r pwn
    have nr : NRow wd [(r % 2 ^ (wd - n), wd - n)] := NRow.one rm0 rm1 (by omega)
    have cov : ∀ x, Cover (famL [(r % 2 ^ (wd - n), wd - n)]) x ↔ (2 : Int) ^ wd ∣ pvl [a, b] x := fun x => by rw [cover_one, dvd_res, rl]
    have sc : ∀ c ∈ [a, b], SD c := fun c hc => by
      rcases List.mem_cons.mp hc with rfl | hc
      · exact sa
      · rw [List.mem_singleton.mp hc]; exact sb
    walk_at "rd"
    refine ⟨_, rfl, by omega, by omega, ?_⟩
    rw [show ((wd : Int) - (n : Int)).toNat = wd - n by omega]
    refine w_I pwn ?_
    walk_at "rd"
    rw [show (wd : Int) - (n : Int) = ((wd - n : Nat) : Int) by omega]
    refine ⟨by show 2 ≤ sizeLine; decide, fun u hu => ?_⟩
    walk_at "rd"
    refine ⟨by show 1 ≤ sizeLine; decide, fun v hv => ?_⟩
    have t9 := sm_new (o := .lst [.ref u]) (sm_new (o := .tup [.int (r % 2 ^ (wd - n)), .int ((wd - n : Nat) : Int)]) (Same.refl H8) hu) hv
    have hu9 : (L2.upd (L2.upd H8 u (.tup [.int (r % 2 ^ (wd - n)), .int ((wd - n : Nat) : Int)])) v (.lst [.ref u])) u = some (.tup [.int (r % 2 ^ (wd - n)), .int ((wd - n : Nat) : Int)]) := gn upd_same hv
    have hv9 : (L2.upd (L2.upd H8 u (.tup [.int (r % 2 ^ (wd - n)), .int ((wd - n : Nat) : Int)])) v (.lst [.ref u])) v = some (.lst [.ref u]) := upd_same
    generalize L2.upd (L2.upd H8 u _) v _ = H9 at t9 hu9 hv9 ⊢
    clear hu hv
    have d9 := d8.same t9
    have q9 := q8.trans (Kq.of (Sm.of t9))
    have hql9 := t9 _ _ hql
    clear d8 q8 t9 hql
    walk_at "rd"
    refine ⟨kp, ql, [a, b], wd, s, rfl, d9.k, hql9, by show 1 ≤ 2; omega, by show 2 ≤ 9; omega, sc, fun r1 H10 hf t10 => ?_⟩
    obtain ⟨out, hout, row⟩ := hf.list nr cov
    have d10 := d9.same t10
    have q10 := q9.trans (Kq.of (Sm.of t10))
    have hql10 := t10 _ _ hql9
    walk_at "rd"
    refine w_neRow hout row (t10 _ _ hv9) (.cons (t10 _ _ hu9) .nil) ?_
    walk_at "rd"
    refine iteF ?_
    clear d9 q9 t10 hql9 hf hout row
    walk_at "rd"
    refine ⟨kp, ql, [a, b], wd, s, rfl, d10.k, hql10, by show 1 ≤ 2; omega, by show 2 ≤ 9; omega, sc, fun H11 t11 => ?_⟩
    rw [rt_tot nr cov, flsum_one]
    walk_at "rd"
    refine ⟨_, rfl, by omega, by omega, ?_⟩
    rw [Int.toNat_natCast]
    walk_at "rd"
    refine w_ndecT (by show (2 : Int) ^ (wd - (wd - n)) = 2 ^ n; congr 1; omega) ?_
    have d11 := d10.same t11
    have q11 := q10.trans (Kq.of (Sm.of t11))
    have hql11 := t11 _ _ hql10
    clear d10 q10 t11 hql10
    have hl11 : H11 ql = some (.lst [.int a, .int b]) := hql11
    walk_at "rd"
    by_cases n1 : 0 < n
    rotate_left
    · rw [decide_eq_false (show ¬ (0 : Int) < (n : Int) by omega)]
      refine iteF ?_
      refine iteF ?_
      walk_at "rd"
      rw [decide_eq_false (show ¬ (0 : Int) < (n : Int) by omega)]
      refine iteF ?_
      refine iteF ?_
      walk_at "rd"
      exact ⟨⟨_, _, _, _, _, _, _, rfl⟩, q11, d11⟩
    rw [decide_eq_true (show (0 : Int) < (n : Int) by omega)]
    refine iteT ?_
    walk_at "rd"
    refine ⟨_, rfl, by omega, by omega, ?_⟩
    rw [show ((n : Int) - 1).toNat = n - 1 by omega]
    walk_at "rd"
    refine ⟨by show 2 ≤ sizeLine; decide, fun m1 hm1 => ?_⟩
    have pn1 := p2 (n - 1)
    have en1 : (2 : Int) ^ n = 2 ^ (n - 1) * 2 := by rw [← Int.pow_succ]; congr 1; omega
    have sd1 : ∀ e : Int, 0 ≤ e → e ≤ 2 ^ wd → SD (a + e) := fun e z1 z2 => by
      have c2 : (2 : Int) ^ wd ≤ 2 ^ 128 := by
        have := Nat.pow_le_pow_right (n := 2) (by decide) w2
        exact_mod_cast this
      have c4 : (2 : Int) ^ 128 * 4 < 10 ^ 60 := by decide +kernel
      unfold SD at sa ⊢
      omega
    have t12 := sm_new (o := .lst [.int (a + 2 ^ (n - 1)), .int b]) (Same.refl H11) hm1
    have hm12 : (L2.upd H11 m1 (.lst [.int (a + 2 ^ (n - 1)), .int b])) m1 = some (.lst ([a + 2 ^ (n - 1), b].map V.int)) := upd_same
    generalize L2.upd H11 m1 _ = H12 at t12 hm12 ⊢
    have d12 := d11.same t12
    have q12 := q11.trans (Kq.of (Sm.of t12))
    have hl12 := t12 _ _ hl11
    clear d11 q11 t12 hl11 hm1 hql11
    walk_at "rd"
    refine ⟨kp, m1, [a + 2 ^ (n - 1), b], wd, s, rfl, d12.k, hm12, by show 1 ≤ 2; omega, by show 2 ≤ 9; omega, fun c hc => ?_, fun r2 H13 hf t13 => ?_⟩
    · rcases List.mem_cons.mp hc with rfl | hc
      · exact sd1 _ (by omega) (by omega)
      · rw [List.mem_singleton.mp hc]; exact sb
    obtain ⟨out, hout, row⟩ := hf.list (gl := []) NRow.nil fun x => ⟨fun z => (cover_nil z).elim, fun z => (lin_none (by omega) da db (half_no n1) z).elim⟩
    cases row
    have d13 := d12.same t13
    have q13 := q12.trans (Kq.of (Sm.of t13))
    have hl13 := t13 _ _ hl12
    clear d12 q12 t13 hl12 hm12 hf
    walk_at "rd"
    refine ⟨by show 0 ≤ sizeLine; decide, fun z hz => ?_⟩
    refine w_neNil (gn hout hz) upd_same ?_
    have t14 := sm_new (o := .lst []) (Same.refl H13) hz
    generalize L2.upd H13 z _ = H14 at t14 ⊢
    have d14 := d13.same t14
    have q14 := q13.trans (Kq.of (Sm.of t14))
    have hl14 := t14 _ _ hl13
    clear d13 q13 t14 hl13 hz hout
    walk_at "rd"
    refine iteF ?_
    walk_at "rd"
    rw [decide_eq_true (show (0 : Int) < (n : Int) by omega)]
    refine iteT ?_
    walk_at "rd"
    refine ⟨by show 2 ≤ sizeLine; decide, fun m2 hm2 => ?_⟩
    have t15 := sm_new (o := .lst [.int (a + 1), .int b]) (Same.refl H14) hm2
    have hm15 : (L2.upd H14 m2 (.lst [.int (a + 1), .int b])) m2 = some (.lst ([a + 1, b].map V.int)) := upd_same
    generalize L2.upd H14 m2 _ = H15 at t15 hm15 ⊢
    have d15 := d14.same t15
    have q15 := q14.trans (Kq.of (Sm.of t15))
    clear d14 q14 t15 hl14 hm2
    walk_at "rd"
    refine ⟨kp, m2, [a + 1, b], wd, s, rfl, d15.k, hm15, by show 1 ≤ 2; omega, by show 2 ≤ 9; omega, fun c hc => ?_, fun H16 t16 => ?_⟩
    · rcases List.mem_cons.mp hc with rfl | hc
      · exact sd1 _ (by omega) (by omega)
      · rw [List.mem_singleton.mp hc]; exact sb
    rw [rt_tot (gl := []) NRow.nil fun x => ⟨fun z => (cover_nil z).elim, fun z => (lin_none (by omega) da db (one_no n1) z).elim⟩]
    walk_at "rd"
    refine w_ndecT rfl ?_
    walk_at "rd"
    exact ⟨⟨_, _, _, _, _, _, _, rfl⟩, q15.trans (Kq.of (Sm.of t16)), d15.same t16⟩
def sp__law_products_right (K : PySem.W.Frag) (C : Addr) (TS : List (Addr × Str)) : Sp := fun vs H Q _ => ∃ (p kp : Addr) (wd : Nat) (s : Bool), vs = [.ref p, .int (wd : Int), .ref kp] ∧ SrcAt H p ∧ Kd C H kp wd s ∧ LamX.Tabs TS H ∧ ∀ H', Kq TS p H H' → SrcAt H' p → Q (.bl true) H'
theorem ok__law_products_right {P : Program} {w : World} {K : PySem.W.Frag} {mg : Str → Option Value} {base : Heap} (T : Txt K mg) (B : TBs T base) : FnOk P w K mg base CX0 7 T.f__law_products_right T.fd__law_products_right ["_law_source", "_law_bits", "_law_kind"] (sp__law_products_right K T.C_Kind T.tabs) := by
  have G__law_next := ok__law_next (P := P) (w := w) (base := base) T B
  have G__law_power := ok__law_power (P := P) (w := w) (base := base) T B
  have G__law_times := ok__law_times (P := P) (w := w) (base := base) T B
  have G__law_wide := ok__law_wide (P := P) (w := w) (base := base) T B
  have G_root_total := ok_root_total (P := P) (w := w) (base := base) T B
  have G_roots := ok_roots (P := P) (w := w) (base := base) T B
  refine T.F__law_products_right.ok sc__law_products_right (fun vs H Q E h => ?_) (fun cdv A outer s H vs Q E hr h => ?_)
  · obtain ⟨p, kp, wd, s, rfl, _⟩ := h
    rfl
  · obtain ⟨p, kp, wd, s, rfl, h⟩ := h
    have hr__law_next : Room 1 _ := hr.mono (by decide)
    have hr__law_power : Room 1 _ := hr.mono (by decide)
    have hr__law_times : Room 1 _ := hr.mono (by decide)
    have hr__law_wide : Room 2 _ := hr.mono (by decide)
    have hr_root_total : Room 6 _ := hr.mono (by decide)
    have hr_roots : Room 5 _ := hr.mono (by decide)
    refine ⟨_, (pss_cons (ps_par rfl sc__law_products_right.nd (i := 3) (j := 4) rfl rfl (by decide) rfl rfl (pa_cons (pe_op op_mul pe_int (pe_call G__law_wide hr__law_wide rfl T.g__law_wide T.k__law_wide T.b__law_wide .nil pass0 (pa_cons (pv 0 (hv := Or.inl rfl)) (pa_cons (pe_op op_pow pe_int pe_int) pa_nil)))) (pa_cons (pe_op op_add (pe_op op_mul pe_int (pe_call G__law_wide hr__law_wide rfl T.g__law_wide T.k__law_wide T.b__law_wide .nil pass0 (pa_cons (pv 0 (hv := Or.inl rfl)) (pa_cons (pe_op op_pow pe_int pe_int) pa_nil)))) pe_int) pa_nil)) (by rfl))
      (pss_cons (ps_asg (pe_tup (pa_cons (pe_op op_add (pe_op op_mul pe_int (pe_call G__law_next hr__law_next rfl T.g__law_next T.k__law_next T.b__law_next .nil pass0 (pa_cons (pv 0 (hv := Or.inl rfl)) (pa_cons pe_int pa_nil)))) pe_int) (pa_cons (pe_call G__law_next hr__law_next rfl T.g__law_next T.k__law_next T.b__law_next .nil pass0 (pa_cons (pv 0 (hv := Or.inl rfl)) (pa_cons (pv 1 (hv := Or.inl rfl)) pa_nil))) pa_nil))) (pg_tup rfl (pgs_cons (pg_name (i := 5) sc__law_products_right.nd rfl (Or.inr rfl)) (pgs_cons (pg_name (i := 6) sc__law_products_right.nd rfl (Or.inr rfl)) pgs_nil))))
      (pss_cons (ps_setLc (i := 7) (own := [("_law_one_here", 8)]) (g := gName 8) (tt := tYes) rfl sc__law_products_right.nd rfl rfl (sw_true rfl rfl rfl (by decide +kernel)) (pi_list (pe_call G__law_times hr__law_times rfl T.g__law_times T.k__law_times T.b__law_times .nil pass0 (pa_cons (pe_lst (pa_cons (pe_op op_sub pe_int (pv 3 (hv := Or.inl rfl))) (pa_cons pe_int pa_nil))) (pa_cons (pe_lst (pa_cons (pe_op op_sub pe_int (pv 4 (hv := Or.inl rfl))) (pa_cons pe_int pa_nil))) pa_nil)))) (blkOk_by (own := [("_law_one_here", 8)]) (N := ["_law_source", "_law_bits", "_law_kind", "_law_r", "_law_s", "_law_odd", "_law_k", "_law_both", "_law_one_here", "_law_due", "_law_more", "_law_left"]) (sc := defScope s__law_products_right) (by decide +kernel)) (fun _ _ _ _ _ => (pg_name (i := 8) sc__law_products_right.nd rfl (Or.inl rfl))) (fun _ _ _ _ _ => pts_nil) (fun _ _ _ _ _ => (pe_op op_mulX (pv 8 (hv := Or.inl rfl)) (pv 5 (hv := Or.inr (Or.inl rfl))))))
      (pss_cons (ps_set (i := 9) sc__law_products_right.nd rfl (Or.inl rfl) (pe_callB (id := "sorted") (r := rSortedPO K) cr_sortedPO (by rfl) T.n_sorted (by decide +kernel) (pa_cons (pe_lst (pa_cons (pe_tup (pa_cons (pe_op op_mod (pe_callTy (T := "int") (r := rIntC) call_int1 (by rfl) T.n_int (by decide +kernel) (pa_cons (pv 3 (hv := Or.inl rfl)) pa_nil)) (pe_call G__law_power hr__law_power rfl T.g__law_power T.k__law_power T.b__law_power .nil pass0 (pa_cons (pv 1 (hv := Or.inl rfl)) pa_nil))) (pa_cons (pv 1 (hv := Or.inl rfl)) pa_nil))) (pa_cons (pe_tup (pa_cons (pe_op op_mod (pe_callTy (T := "int") (r := rIntC) call_int1 (by rfl) T.n_int (by decide +kernel) (pa_cons (pv 4 (hv := Or.inl rfl)) pa_nil)) (pe_call G__law_power hr__law_power rfl T.g__law_power T.k__law_power T.b__law_power .nil pass0 (pa_cons (pv 1 (hv := Or.inl rfl)) pa_nil))) (pa_cons (pv 1 (hv := Or.inl rfl)) pa_nil))) pa_nil))) pa_nil)))
      (pss_cons (ps_set (i := 9) sc__law_products_right.nd rfl (Or.inl rfl) (pe_ifExp (pt_cmpR op_gt (pv 1 (hv := Or.inl rfl)) pe_int (nomark _)) (pv 9 (hv := Or.inl rfl)) (pe_lst (pa_cons (pe_tup (pa_cons pe_int (pa_cons pe_int pa_nil))) pa_nil))))
      (pss_cons (ps_if (PW.pt (pw_or (pt_cmpR (op_neD hr.units) (pe_call G_roots hr_roots rfl T.g_roots T.k_roots T.b_roots .nil pass0 (pa_cons (pv 2 (hv := Or.inl rfl)) (pa_cons (pv 7 (hv := Or.inl rfl)) pa_nil))) (pv 9 (hv := Or.inl rfl)) (nomark _)) (pw_or1 (pt_cmpR op_ne (pe_call G_root_total hr_root_total rfl T.g_root_total T.k_root_total T.b_root_total .nil pass0 (pa_cons (pv 2 (hv := Or.inl rfl)) (pa_cons (pv 7 (hv := Or.inl rfl)) pa_nil))) pe_int (nomark _))))) (pss_one (ps_ret pe_bl)) pss_nil)
      (pss_cons (ps_setLc (i := 10) (own := [("_law_one_here", 8)]) (g := gName 8) (tt := tYes) rfl sc__law_products_right.nd rfl rfl (sw_true rfl rfl rfl (by decide +kernel)) (pi_list (pv 7 (hv := Or.inl rfl))) (blkOk_by (own := [("_law_one_here", 8)]) (N := ["_law_source", "_law_bits", "_law_kind", "_law_r", "_law_s", "_law_odd", "_law_k", "_law_both", "_law_one_here", "_law_due", "_law_more", "_law_left"]) (sc := defScope s__law_products_right) (by decide +kernel)) (fun _ _ _ _ _ => (pg_name (i := 8) sc__law_products_right.nd rfl (Or.inl rfl))) (fun _ _ _ _ _ => pts_nil) (fun _ _ _ _ _ => (pe_op op_mulX (pv 8 (hv := Or.inl rfl)) (pe_call G__law_power hr__law_power rfl T.g__law_power T.k__law_power T.b__law_power .nil pass0 (pa_cons (pe_callB (id := "min") (r := rmin2C) (call_min2 rfl) (by rfl) T.n_min (by decide +kernel) (pa_cons (pv 6 (hv := Or.inr (Or.inl rfl))) (pa_cons pe_int pa_nil))) pa_nil)))))
      (pss_cons (ps_set (i := 11) sc__law_products_right.nd rfl (Or.inl rfl) (pe_op op_sub (pv 1 (hv := Or.inl rfl)) (pe_callB (id := "min") (r := rmin2C) (call_min2 rfl) (by rfl) T.n_min (by decide +kernel) (pa_cons (pv 6 (hv := Or.inr (Or.inl rfl))) (pa_cons pe_int pa_nil)))))
      (pss_cons (ps_set (i := 9) sc__law_products_right.nd rfl (Or.inl rfl) (pe_callB (id := "sorted") (r := rSortedPO K) cr_sortedPO (by rfl) T.n_sorted (by decide +kernel) (pa_cons (pe_lst (pa_cons (pe_tup (pa_cons (pe_op op_mod (pe_callTy (T := "int") (r := rIntC) call_int1 (by rfl) T.n_int (by decide +kernel) (pa_cons (pv 3 (hv := Or.inl rfl)) pa_nil)) (pe_call G__law_power hr__law_power rfl T.g__law_power T.k__law_power T.b__law_power .nil pass0 (pa_cons (pv 11 (hv := Or.inl rfl)) pa_nil))) (pa_cons (pv 11 (hv := Or.inl rfl)) pa_nil))) (pa_cons (pe_tup (pa_cons (pe_op op_mod (pe_callTy (T := "int") (r := rIntC) call_int1 (by rfl) T.n_int (by decide +kernel) (pa_cons (pv 4 (hv := Or.inl rfl)) pa_nil)) (pe_call G__law_power hr__law_power rfl T.g__law_power T.k__law_power T.b__law_power .nil pass0 (pa_cons (pv 11 (hv := Or.inl rfl)) pa_nil))) (pa_cons (pv 11 (hv := Or.inl rfl)) pa_nil))) pa_nil))) pa_nil)))
      (pss_cons (ps_set (i := 9) sc__law_products_right.nd rfl (Or.inl rfl) (pe_ifExp (pt_cmpR op_gt (pv 11 (hv := Or.inl rfl)) pe_int (nomark _)) (pv 9 (hv := Or.inl rfl)) (pe_lst (pa_cons (pe_tup (pa_cons pe_int (pa_cons pe_int pa_nil))) pa_nil))))
      (pss_one (ps_ret (pe_cmpR (op_eqD hr.units) (pe_call G_roots hr_roots rfl T.g_roots T.k_roots T.b_roots .nil pass0 (pa_cons (pv 2 (hv := Or.inl rfl)) (pa_cons (pv 10 (hv := Or.inl rfl)) pa_nil))) (pv 9 (hv := Or.inl rfl)) (nomark _)))))))))))))), ?_⟩
    try dsimp only [cxOf, Cx.nox, Cx.wish, Cx.blk]
    rw [show L2.start ["_law_source", "_law_bits", "_law_kind", "_law_r", "_law_s", "_law_odd", "_law_k", "_law_both", "_law_one_here", "_law_due", "_law_more", "_law_left"] [.ref p, .int (wd : Int), .ref kp] = [some (.ref p), some (.int (wd : Int)), some (.ref kp), none, none, none, none, none, none, none, none, none] from rfl]
    obtain ⟨hs, hk, hT, k⟩ := h
    have w1 := hk.w1
    have w2 := hk.w2
    have d0 := LS.start hk hs hT
    clear hk hs hT
    have b9 : ((10 : Int) ^ (9 : Int).toNat).natAbs < 2 ^ 8999 := Nat.lt_trans (show ((10 : Int) ^ (9 : Int).toNat).natAbs < 2 ^ 32 by decide) (Nat.pow_lt_pow_right (by decide) (by decide))
    walk_at "rd"
    refine ⟨p, _, rfl, d0.j, by decide, b9, fun r0 H1 r00 r01 kp1 j1 => ?_⟩
    have d1 := d0.draw kp1 j1
    have q1 := kp1.toS (TS := T.tabs) d0.j
    clear d0 kp1 j1
    walk_at "rd"
    refine ⟨p, _, rfl, d1.j, by decide, b9, fun s0 H2 s00 s01 kp2 j2 => ?_⟩
    have d2 := d1.draw kp2 j2
    have q2 := q1.trans (kp2.toS d1.j)
    clear d1 kp2 j2 q1
    walk_at "rd"
    refine ⟨p, _, rfl, d2.j, by decide, Nat.lt_trans (show (1000 : Int).natAbs < 2 ^ 32 by decide) (Nat.pow_lt_pow_right (by decide) (by decide)), fun o0 H3 o00 o01 kp3 j3 => ?_⟩
    have d3 := d2.draw kp3 j3
    have q3 := q2.trans (kp3.toS d2.j)
    clear d2 kp3 j3 q2
    walk_at "rd"
    refine ⟨p, _, rfl, d3.j, by omega, Nat.lt_trans (show (wd : Int).natAbs < 2 ^ 8 by omega) (Nat.pow_lt_pow_right (by decide) (by decide)), fun kk H4 k0 k1 kp4 j4 => ?_⟩
    obtain ⟨n, rfl⟩ := Int.eq_ofNat_of_zero_le k0
    have d4 := d3.draw kp4 j4
    have q4 := q3.trans (kp4.toS d3.j)
    clear d3 kp4 j4 q3
    try dsimp only [List.set]
    walk_at "rd"
    refine ⟨by show 2 ≤ sizeLine; decide, fun z hz => ?_⟩
    have t5 := sm_new (o := .tup [.int (2 * o0 + 1), .int (n : Int)]) (Same.refl H4) hz
    have hz5 : (L2.upd H4 z (.tup [.int (2 * o0 + 1), .int (n : Int)])) z = some (.tup [.int (2 * o0 + 1), .int (n : Int)]) := upd_same
    generalize L2.upd H4 z _ = H5 at t5 hz5 ⊢
    have d5 := d4.same t5
    have q5 := q4.trans (Kq.of (Sm.of t5))
    clear d4 q4 t5 hz
    obtain ⟨R, hR⟩ : ∃ R, R = 2 * r0 := ⟨_, rfl⟩
    obtain ⟨S, hS⟩ : ∃ S, S = 2 * s0 + 1 := ⟨_, rfl⟩
    obtain ⟨O, hO⟩ : ∃ O, O = 2 * o0 + 1 := ⟨_, rfl⟩
    rw [← hR, ← hS]
    rw [← hO] at hz5
    have t9 : ((10 : Int) ^ (9 : Int).toNat) = 1000000000 := by decide
    rw [t9] at r01 s01
    walk_at "rd"
    refine ⟨by show 2 ≤ sizeLine; decide, fun m1 hm1 => ?_⟩
    walk_at "rd"
    refine ⟨by show 2 ≤ sizeLine; decide, fun m2 hm2 => ?_⟩
    have n1a : n1 [0 - R, 1] ≤ 2000000001 := by
      show (0 - R).natAbs + ((1 : Int).natAbs + 0) ≤ _
      have : (1 : Int).natAbs = 1 := rfl
      omega
    have n1b : n1 [0 - S, 1] ≤ 2000000002 := by
      show (0 - S).natAbs + ((1 : Int).natAbs + 0) ≤ _
      have : (1 : Int).natAbs = 1 := rfl
      omega
    have pvx : ∀ c x : Int, pvl [0 - c, 1] x = x - c := fun c x => by rw [pvl_lin, Int.mul_one]; omega
    refine ⟨m1, m2, [0 - R, 1], [0 - S, 1], rfl, gn upd_same hm2, upd_same, by show 1 ≤ 2; omega, by show 2 ≤ 20; omega, by show 1 ≤ 2; omega, by show 2 ≤ 20; omega, Nat.lt_of_le_of_lt n1a (by decide), Nat.lt_of_le_of_lt n1b (by decide), fun q es H6 nq t6 hes el en ev => ?_⟩
    have t56 := (sm_new (o := .lst [.int (0 - S), .int 1]) (sm_new (o := .lst [.int (0 - R), .int 1]) (Same.refl H5) hm1) hm2).trans t6
    have d6 := d5.same t56
    have q6 := q5.trans (Kq.of (Sm.of t56))
    have hz6 := t56 _ _ hz5
    have el3 : es.length = 3 := el
    have ev' : ∀ x, pvl es x = (x - R) * (x - S) := fun x => by rw [ev, pvx, pvx]
    have eb : ∀ c ∈ es, c.natAbs ≤ 2000000001 * 2000000002 := fun c hc => Nat.le_trans (n1_mem hc) (Nat.le_trans en (Nat.mul_le_mul n1a n1b))
    clear d5 q5 t6 t56 hm1 hm2 hz5 en ev nq el
    walk_at "rd"
    refine ⟨⟨_, SqL.of hes⟩, fun D hD => lc_list (K := K) (a := q) (xs := es.map V.int) (fun j H' => H' D = some (.lst (((es.map fun c => c * O).take j).map V.int)) ∧ Same H6 H') ⟨upd_same, sm_new (Same.refl H6) hD⟩ (fun i H' _ q => SqL.of (q.2 _ _ hes)) ?_ ?_⟩
    · rintro j z' H' hj ⟨hd, sm⟩
      obtain ⟨c, hcj, rfl⟩ := map_get hj
      have jl := (List.getElem?_eq_some_iff.mp hcj).1
      have cb := eb c (List.mem_of_getElem? hcj)
      walk_at "rd"
      refine ⟨rfl, ?_⟩
      walk_at "rd"
      refine iteT ?_
      walk_at "rd"
      refine w_I (mulx_ok (a := 100) (b := 20) (Nat.lt_of_le_of_lt cb (by decide)) (show O.natAbs < 2 ^ 20 by omega) (by decide)) ?_
      refine ⟨_, hd, by rw [List.length_map, List.length_take, List.length_map]; exact Nat.lt_of_le_of_lt (show _ ≤ 3 by omega) (by decide), ?_, sm_mut sm hD⟩
      rw [upd_same, List.take_add_one, List.getElem?_map, hcj, List.map_append]; rfl
    rintro H7 ⟨hd, t7⟩
    rw [List.length_map, List.take_of_length_le (by rw [List.length_map]; exact Nat.le_refl _)] at hd
    have d7 := d6.same t7
    have q7 := q6.trans (Kq.of (Sm.of t7))
    have hz7 := t7 _ _ hz6
    clear d6 q6 t7 hz6 hes
    have hp := p2 wd
    have hR2 : R % 2 = 0 := by omega
    have hS2 : S % 2 = 1 := by omega
    have hO2 : O % 2 = 1 := by omega
    walk_at "rd"
    refine ⟨_, rfl, by omega, by omega, ?_⟩
    rw [Int.toNat_natCast]
    refine w_I hp ?_
    walk_at "rd"
    refine ⟨by show 2 ≤ sizeLine; decide, fun u hu => ?_⟩
    walk_at "rd"
    refine ⟨_, rfl, by omega, by omega, ?_⟩
    rw [Int.toNat_natCast]
    refine w_I hp ?_
    walk_at "rd"
    refine ⟨by show 2 ≤ sizeLine; decide, fun v hv => ?_⟩
    walk_at "rd"
    refine ⟨by show 2 ≤ sizeLine; decide, fun m hm => ?_⟩
    walk_at "rd"
    refine w_sortRows (out := [.ref u, .ref v]) (fl := [R, S].map (resF wd)) upd_same (.cons (gn (gn upd_same hv) hm) (.cons (gn upd_same hm) .nil)) (par_nodup hR2 hS2 w1) (fun l ys gl hl row pm so => ?_)
    have t8 := sm_new (o := .lst ys) (sm_new (o := .lst [.ref u, .ref v]) (sm_new (o := .tup [.int (S % 2 ^ wd), .int (wd : Int)]) (sm_new (o := .tup [.int (R % 2 ^ wd), .int (wd : Int)]) (Same.refl H7) hu) hv) hm) hl
    have row8 := row.keep fun q1 f e h => gn (u := .lst ys) h hl
    have hl8 : (L2.upd (L2.upd (L2.upd (L2.upd H7 u (.tup [.int (R % 2 ^ wd), .int (wd : Int)])) v (.tup [.int (S % 2 ^ wd), .int (wd : Int)])) m (.lst [.ref u, .ref v])) l (.lst ys)) l = some (.lst ys) := upd_same
    generalize L2.upd (L2.upd (L2.upd (L2.upd H7 u _) v _) m _) l _ = H8 at t8 row8 hl8 ⊢
    have d8 := d7.same t8
    have q8 := q7.trans (Kq.of (Sm.of t8))
    have hz8 := t8 _ _ hz7
    have hd8 := t8 _ _ hd
    clear d7 q7 t8 hz7 hd hu hv hm hl row
    obtain ⟨nr, cov, sum⟩ := par_due hR2 hS2 w1 (Nat.le_refl wd) pm so
    walk_at "rd"
    refine w_ifJ (fun u H' => ∃ l' ys', u = V.ref l' ∧ H' l' = some (.lst ys') ∧ PRow H' ys' (if 1 < wd then gl else [((0 : Int), 0)]) ∧ Same H8 H') (fun Q hQ => ?_) ?_
    · refine w_if ?_
      walk_at "rd"
      refine w_dec (fun lt => ?_) (fun ge => ?_)
      · walk_at "rd"
        exact hQ _ _ ⟨l, ys, rfl, hl8, by rw [if_pos (by omega)]; exact row8, Same.refl H8⟩
      · walk_at "rd"
        refine ⟨by show 2 ≤ sizeLine; decide, fun u0 hu0 => ?_⟩
        walk_at "rd"
        refine ⟨by show 1 ≤ sizeLine; decide, fun v0 hv0 => ?_⟩
        exact hQ _ _ ⟨v0, [.ref u0], rfl, upd_same, by rw [if_neg (by omega)]; exact .cons (gn upd_same hv0) .nil, sm_new (sm_new (Same.refl H8) hu0) hv0⟩
    rintro _ H9 ⟨l9, ys9, rfl, hl9, row9, t9⟩
    have d9 := d8.same t9
    have q9 := q8.trans (Kq.of (Sm.of t9))
    have hz9 := t9 _ _ hz8
    have hd9 := t9 _ _ hd8
    clear d8 q8 t9 hz8 hd8 hl8 row8
    obtain ⟨fs, hfs⟩ : ∃ fs : List Int, fs = es.map fun c => c * O := ⟨_, rfl⟩
    rw [← hfs] at hd9
    have fl3 : fs.length = 3 := by rw [hfs, List.length_map, el3]
    have fb : ∀ c ∈ fs, c.natAbs < 2 ^ 100 := fun c hc => by
      rw [hfs] at hc
      obtain ⟨c0, h0, rfl⟩ := List.mem_map.mp hc
      rw [Int.natAbs_mul]
      exact Nat.lt_of_le_of_lt (Nat.mul_le_mul (eb c0 h0) (show O.natAbs ≤ 2001 by omega)) (by decide)
    have fev : ∀ x, pvl fs x = O * ((x - R) * (x - S)) := fun x => by rw [hfs, pvl_mulr, ev']
    have cov1 : ∀ x, Cover (famL (if 1 < wd then gl else [((0 : Int), 0)])) x ↔ (2 : Int) ^ wd ∣ pvl fs x := fun x => by rw [cov x, fev, odd_dvd hO2]
    have fsd : ∀ c ∈ fs, SD c := fun c hc => sd_of (Nat.lt_trans (fb c hc) (by decide))
    walk_at "rd"
    refine ⟨kp, D, fs, wd, s, rfl, d9.k, hd9, by omega, by omega, fsd, fun r1 H10 hf t10 => ?_⟩
    obtain ⟨out, hout, row⟩ := hf.list nr cov1
    have d10 := d9.same t10
    have q10 := q9.trans (Kq.of (Sm.of t10))
    have hz10 := t10 _ _ hz9
    have hd10 := t10 _ _ hd9
    walk_at "rd"
    refine w_neRow hout row (t10 _ _ hl9) (row9.same t10) ?_
    walk_at "rd"
    refine iteF ?_
    clear d9 q9 hz9 hd9 t10 hf hout row hl9 row9
    walk_at "rd"
    refine ⟨kp, D, fs, wd, s, rfl, d10.k, hd10, by omega, by omega, fsd, fun H11 t11 => ?_⟩
    rw [rt_tot nr cov1, sum]
    walk_at "rd"
    refine w_ndecT (by
      by_cases c : 1 < wd
      · rw [if_pos c, Nat.sub_self, Int.pow_zero]; rfl
      · rw [if_neg c, show wd = 1 by omega]; rfl) ?_
    have d11 := d10.same t11
    have q11 := q10.trans (Kq.of (Sm.of t11))
    have hz11 := t11 _ _ hz10
    have hd11 := t11 _ _ hd10
    clear d10 q10 hz10 hd10 t11
    try dsimp only [List.set]
    obtain ⟨m, hm⟩ : ∃ m : Nat, m = min n 60 := ⟨_, rfl⟩
    have m60 : m ≤ 60 := by omega
    have mn : m < wd := by omega
    have em : min (n : Int) 60 = (m : Int) := by omega
    have pm2 : ((2 : Int) ^ m).natAbs < 2 ^ 61 := by
      rw [Int.natAbs_pow]
      exact Nat.lt_of_le_of_lt (Nat.pow_le_pow_right (by decide) m60) (by decide)
    walk_at "rd"
    refine ⟨⟨_, SqL.of hd11⟩, fun E hE => lc_list (K := K) (a := D) (xs := fs.map V.int) (fun j H' => H' E = some (.lst (((fs.map fun c => c * 2 ^ m).take j).map V.int)) ∧ Same H11 H') ⟨upd_same, sm_new (Same.refl H11) hE⟩ (fun i H' _ q => SqL.of (q.2 _ _ hd11)) ?_ ?_⟩
    · rintro j z' H' hj ⟨hd, sm⟩
      obtain ⟨c, hcj, rfl⟩ := map_get hj
      have jl := (List.getElem?_eq_some_iff.mp hcj).1
      have cb := fb c (List.mem_of_getElem? hcj)
      walk_at "rd"
      refine ⟨rfl, ?_⟩
      walk_at "rd"
      refine iteT ?_
      walk_at "rd"
      refine w_min2 ?_
      rw [em]
      walk_at "rd"
      refine ⟨_, rfl, by omega, by omega, ?_⟩
      rw [Int.toNat_natCast]
      refine w_I (mulx_ok cb pm2 (by decide)) ?_
      refine ⟨_, hd, by rw [List.length_map, List.length_take, List.length_map]; exact Nat.lt_of_le_of_lt (show _ ≤ 3 by omega) (by decide), ?_, sm_mut sm hE⟩
      rw [upd_same, List.take_add_one, List.getElem?_map, hcj, List.map_append]; rfl
    rintro H12 ⟨hd12, t12⟩
    rw [List.length_map, List.take_of_length_le (by rw [List.length_map]; exact Nat.le_refl _)] at hd12
    have d12 := d11.same t12
    have q12 := q11.trans (Kq.of (Sm.of t12))
    clear d11 q11 t12 hd11 hz11
    obtain ⟨gs, hgs⟩ : ∃ gs : List Int, gs = fs.map fun c => c * 2 ^ m := ⟨_, rfl⟩
    rw [← hgs] at hd12
    have gl3 : gs.length = 3 := by rw [hgs, List.length_map, fl3]
    have gsd : ∀ c ∈ gs, SD c := fun c hc => by
      rw [hgs] at hc
      obtain ⟨c0, h0, rfl⟩ := List.mem_map.mp hc
      refine sd_of ?_
      rw [Int.natAbs_mul]
      exact Nat.lt_of_le_of_lt (Nat.mul_le_mul (Nat.le_of_lt (fb c0 h0)) (Nat.le_of_lt pm2)) (by decide)
    obtain ⟨L, hL⟩ : ∃ L : Nat, L = wd - m := ⟨_, rfl⟩
    have L1 : 1 ≤ L := by omega
    have Lw : L ≤ wd := by omega
    have gev : ∀ x, (2 : Int) ^ wd ∣ pvl gs x ↔ (2 : Int) ^ L ∣ (x - R) * (x - S) := fun x => by
      rw [hgs, pvl_mulr, fev, pw_dvd (by omega), ← hL, odd_dvd hO2]
    have hpL := p2 L
    walk_at "rd"
    refine w_min2 ?_
    rw [em]
    walk_at "rd"
    rw [show (wd : Int) - (m : Int) = (L : Int) by omega]
    refine ⟨_, rfl, by omega, by omega, ?_⟩
    rw [Int.toNat_natCast]
    refine w_I hpL ?_
    walk_at "rd"
    refine ⟨by show 2 ≤ sizeLine; decide, fun u hu => ?_⟩
    walk_at "rd"
    refine ⟨_, rfl, by omega, by omega, ?_⟩
    rw [Int.toNat_natCast]
    refine w_I hpL ?_
    walk_at "rd"
    refine ⟨by show 2 ≤ sizeLine; decide, fun v hv => ?_⟩
    walk_at "rd"
    refine ⟨by show 2 ≤ sizeLine; decide, fun m3 hm3 => ?_⟩
    walk_at "rd"
    clear gl pm so nr cov sum cov1
    refine w_sortRows (out := [.ref u, .ref v]) (fl := [R, S].map (resF L)) upd_same (.cons (gn (gn upd_same hv) hm3) (.cons (gn upd_same hm3) .nil)) (par_nodup hR2 hS2 L1) (fun l ys gl hl row pm so => ?_)
    have t13 := sm_new (o := .lst ys) (sm_new (o := .lst [.ref u, .ref v]) (sm_new (o := .tup [.int (S % 2 ^ L), .int (L : Int)]) (sm_new (o := .tup [.int (R % 2 ^ L), .int (L : Int)]) (Same.refl H12) hu) hv) hm3) hl
    have row13 := row.keep fun q1 f e h => gn (u := .lst ys) h hl
    have hl13 : (L2.upd (L2.upd (L2.upd (L2.upd H12 u (.tup [.int (R % 2 ^ L), .int (L : Int)])) v (.tup [.int (S % 2 ^ L), .int (L : Int)])) m3 (.lst [.ref u, .ref v])) l (.lst ys)) l = some (.lst ys) := upd_same
    generalize L2.upd (L2.upd (L2.upd (L2.upd H12 u _) v _) m3 _) l _ = H13 at t13 row13 hl13 ⊢
    have d13 := d12.same t13
    have q13 := q12.trans (Kq.of (Sm.of t13))
    have hd13 := t13 _ _ hd12
    clear d12 q12 t13 hd12 hu hv hm3 hl row
    obtain ⟨nr, cov, sum⟩ := par_due hR2 hS2 L1 Lw pm so
    walk_at "rd"
    refine w_ifJ (fun u H' => ∃ l' ys', u = V.ref l' ∧ H' l' = some (.lst ys') ∧ PRow H' ys' (if 1 < L then gl else [((0 : Int), 0)]) ∧ Same H13 H') (fun Q hQ => ?_) ?_
    · refine w_if ?_
      walk_at "rd"
      refine w_dec (fun lt => ?_) (fun ge => ?_)
      · walk_at "rd"
        exact hQ _ _ ⟨l, ys, rfl, hl13, by rw [if_pos (by omega)]; exact row13, Same.refl H13⟩
      · walk_at "rd"
        refine ⟨by show 2 ≤ sizeLine; decide, fun u0 hu0 => ?_⟩
        walk_at "rd"
        refine ⟨by show 1 ≤ sizeLine; decide, fun v0 hv0 => ?_⟩
        exact hQ _ _ ⟨v0, [.ref u0], rfl, upd_same, by rw [if_neg (by omega)]; exact .cons (gn upd_same hv0) .nil, sm_new (sm_new (Same.refl H13) hu0) hv0⟩
    rintro _ H14 ⟨l14, ys14, rfl, hl14, row14, t14⟩
    have d14 := d13.same t14
    have q14 := q13.trans (Kq.of (Sm.of t14))
    have hd14 := t14 _ _ hd13
    clear d13 q13 t14 hd13 hl13 row13
    walk_at "rd"
    refine ⟨kp, E, gs, wd, s, rfl, d14.k, hd14, by omega, by omega, gsd, fun r1 H15 hf t15 => ?_⟩
    obtain ⟨out, hout, row⟩ := hf.list nr fun x => (cov x).trans (gev x).symm
    walk_at "rd"
    refine w_eqRow hout row (t15 _ _ hl14) (row14.same t15) ?_
    walk_at "rd"
    exact k _ (q14.trans (Kq.of (Sm.of t15))) (d14.same t15).j
def sp__law_parts_right (K : PySem.W.Frag) (C : Addr) (TS : List (Addr × Str)) : Sp := fun vs H Q _ => ∃ (p kp : Addr) (wd : Nat) (s : Bool), vs = [.ref p, .int (wd : Int), .ref kp] ∧ SrcAt H p ∧ Kd C H kp wd s ∧ LamX.Tabs TS H ∧ ∀ H', Kq TS p H H' → SrcAt H' p → Q (.bl true) H'
theorem ok__law_parts_right {P : Program} {w : World} {K : PySem.W.Frag} {mg : Str → Option Value} {base : Heap} (T : Txt K mg) (B : TBs T base) : FnOk P w K mg base CX0 7 T.f__law_parts_right T.fd__law_parts_right ["_law_source", "_law_bits", "_law_kind"] (sp__law_parts_right K T.C_Kind T.tabs) := by
  have G__law_power := ok__law_power (P := P) (w := w) (base := base) T B
  have G__law_times := ok__law_times (P := P) (w := w) (base := base) T B
  have G__law_wide := ok__law_wide (P := P) (w := w) (base := base) T B
  have G_root_total := ok_root_total (P := P) (w := w) (base := base) T B
  have G_roots := ok_roots (P := P) (w := w) (base := base) T B
  refine T.F__law_parts_right.ok sc__law_parts_right (fun vs H Q E h => ?_) (fun cdv A outer s H vs Q E hr h => ?_)
  · obtain ⟨p, kp, wd, s, rfl, _⟩ := h
    rfl
  · obtain ⟨p, kp, wd, s, rfl, h⟩ := h
    have hr__law_power : Room 1 _ := hr.mono (by decide)
    have hr__law_times : Room 1 _ := hr.mono (by decide)
    have hr__law_wide : Room 2 _ := hr.mono (by decide)
    have hr_root_total : Room 6 _ := hr.mono (by decide)
    have hr_roots : Room 5 _ := hr.mono (by decide)
    refine ⟨_, (pss_cons (ps_for PassesOwn.never rfl (pi_list (pe_lst (pa_cons (pe_tup (pa_cons pe_int (pa_cons pe_int pa_nil))) (pa_cons (pe_tup (pa_cons pe_int (pa_cons pe_int pa_nil))) pa_nil)))) (pg_tup rfl (pgs_cons (pg_name (i := 3) sc__law_parts_right.nd rfl (Or.inr rfl)) (pgs_cons (pg_name (i := 4) sc__law_parts_right.nd rfl (Or.inl rfl)) pgs_nil)))
        (pss_cons (ps_setLc (i := 5) (own := [("_law_k", 6)]) (g := gName 6) (tt := tYes) rfl sc__law_parts_right.nd rfl rfl (sw_true rfl rfl rfl (by decide +kernel)) (pi_range1 (by rfl) T.n_range (pa_cons (pv 3 (hv := Or.inr (Or.inl rfl))) pa_nil)) (blkOk_by (own := [("_law_k", 6)]) (N := ["_law_source", "_law_bits", "_law_kind", "_law_count", "_law_more", "_law_some", "_law_k", "_law_product", "_law_one_here", "_law_deep", "_law_due", "_law_many", "_law_first"]) (sc := defScope s__law_parts_right) (by decide +kernel)) (fun _ _ _ _ _ => (pg_name (i := 6) sc__law_parts_right.nd rfl (Or.inl rfl))) (fun _ _ _ _ _ => pts_nil) (fun _ _ _ _ _ => (pe_op op_add (pv 6 (hv := Or.inl rfl)) (pe_op op_mul (pv 3 (hv := Or.inr (Or.inl rfl))) (pe_call G__law_wide hr__law_wide rfl T.g__law_wide T.k__law_wide T.b__law_wide .nil pass0 (pa_cons (pv 0 (hv := Or.inr (Or.inl rfl))) (pa_cons (pe_op op_pow pe_int pe_int) pa_nil)))))))
      (pss_cons (ps_set (i := 7) sc__law_parts_right.nd rfl (Or.inl rfl) (pe_lst (pa_cons pe_int pa_nil)))
      (pss_cons (ps_for PassesOwn.never rfl (pi_list (pv 5 (hv := Or.inl rfl))) (pg_name (i := 8) sc__law_parts_right.nd rfl (Or.inl rfl))
        (pss_one (ps_set (i := 7) sc__law_parts_right.nd rfl (Or.inl rfl) (pe_call G__law_times hr__law_times rfl T.g__law_times T.k__law_times T.b__law_times .nil pass0 (pa_cons (pv 7 (hv := Or.inl rfl)) (pa_cons (pe_lst (pa_cons (pe_op op_sub pe_int (pv 8 (hv := Or.inl rfl))) (pa_cons pe_int pa_nil))) pa_nil))))))
      (pss_cons (ps_set (i := 9) sc__law_parts_right.nd rfl (Or.inr rfl) (pe_op op_sub (pv 1 (hv := Or.inr (Or.inl rfl))) (pv 4 (hv := Or.inl rfl))))
      (pss_cons (ps_set (i := 10) sc__law_parts_right.nd rfl (Or.inl rfl) (pe_callB (id := "sorted") (r := rSortedPO K) cr_sortedPO (by rfl) T.n_sorted (by decide +kernel) (pa_cons (pe_lc (own := [("_law_one_here", 8)]) (g := gName 8) (tt := tYes) (by rfl) sc__law_parts_right.nd (pi_list (pv 5 (hv := Or.inl rfl))) (blkOk_by (own := [("_law_one_here", 8)]) (N := ["_law_source", "_law_bits", "_law_kind", "_law_count", "_law_more", "_law_some", "_law_k", "_law_product", "_law_one_here", "_law_deep", "_law_due", "_law_many", "_law_first"]) (sc := defScope s__law_parts_right) (by decide +kernel)) (fun _ _ _ _ _ => (pg_name (i := 8) sc__law_parts_right.nd rfl (Or.inl rfl))) (fun _ _ _ _ _ => pts_nil) (fun _ _ _ _ _ => (pe_tup (pa_cons (pe_op op_mod (pe_callTy (T := "int") (r := rIntC) call_int1 (by rfl) T.n_int (by decide +kernel) (pa_cons (pv 8 (hv := Or.inl rfl)) pa_nil)) (pe_call G__law_power hr__law_power rfl T.g__law_power T.k__law_power T.b__law_power .nil pass0 (pa_cons (pe_callB (id := "max") (r := rmax2C) (call_max2 rfl) (by rfl) T.n_max (by decide +kernel) (pa_cons pe_int (pa_cons (pv 9 (hv := Or.inr (Or.inl rfl))) pa_nil))) pa_nil))) (pa_cons (pv 9 (hv := Or.inr (Or.inl rfl))) pa_nil))))) pa_nil)))
      (pss_cons (ps_if (pt_cmpR op_lt (pv 1 (hv := Or.inr (Or.inl rfl))) (pe_op op_add (pe_op op_mul pe_int (pv 4 (hv := Or.inl rfl))) (pe_ifExp (pt_cmpR op_eq (pv 3 (hv := Or.inr (Or.inl rfl))) pe_int (nomark _)) pe_int pe_int)) (nomark _)) (pss_one (ps_set (i := 10) sc__law_parts_right.nd rfl (Or.inl rfl) (pe_lst (pa_cons (pe_tup (pa_cons pe_int (pa_cons pe_int pa_nil))) pa_nil)))) pss_nil)
      (pss_cons (ps_set (i := 11) sc__law_parts_right.nd rfl (Or.inl rfl) (pe_callB (id := "sum") (r := rSum K) (cr_sum rfl) (by rfl) T.n_sum (by decide +kernel) (pa_cons (pe_lc (own := [("_law_first", 12), ("_law_k", 6)]) (g := gTup K 2 (gCons (gName 12) (gCons (gName 6) gNil))) (tt := tYes) (by rfl) sc__law_parts_right.nd (pi_list (pv 10 (hv := Or.inl rfl))) (blkOk_by (own := [("_law_first", 12), ("_law_k", 6)]) (N := ["_law_source", "_law_bits", "_law_kind", "_law_count", "_law_more", "_law_some", "_law_k", "_law_product", "_law_one_here", "_law_deep", "_law_due", "_law_many", "_law_first"]) (sc := defScope s__law_parts_right) (by decide +kernel)) (fun _ _ _ _ _ => (pg_tup rfl (pgs_cons (pg_name (i := 12) sc__law_parts_right.nd rfl (Or.inl rfl)) (pgs_cons (pg_name (i := 6) sc__law_parts_right.nd rfl (Or.inl rfl)) pgs_nil)))) (fun _ _ _ _ _ => pts_nil) (fun _ _ _ _ _ => (pe_call G__law_power hr__law_power rfl T.g__law_power T.k__law_power T.b__law_power .nil pass0 (pa_cons (pe_op op_sub (pv 1 (hv := Or.inr (Or.inl rfl))) (pv 6 (hv := Or.inl rfl))) pa_nil)))) pa_nil)))
      (pss_one (ps_if (PW.pt (pw_or (pt_cmpR (op_neD hr.units) (pe_call G_roots hr_roots rfl T.g_roots T.k_roots T.b_roots .nil pass0 (pa_cons (pv 2 (hv := Or.inl rfl)) (pa_cons (pv 7 (hv := Or.inl rfl)) pa_nil))) (pv 10 (hv := Or.inl rfl)) (nomark _)) (pw_or1 (pt_cmpR op_ne (pe_call G_root_total hr_root_total rfl T.g_root_total T.k_root_total T.b_root_total .nil pass0 (pa_cons (pv 2 (hv := Or.inl rfl)) (pa_cons (pv 7 (hv := Or.inl rfl)) pa_nil))) (pv 11 (hv := Or.inl rfl)) (nomark _))))) (pss_one (ps_ret pe_bl)) pss_nil))))))))))
      (pss_one (ps_ret pe_bl))), ?_⟩
    try dsimp only [cxOf, Cx.nox, Cx.wish, Cx.blk]
    rw [show L2.start ["_law_source", "_law_bits", "_law_kind", "_law_count", "_law_more", "_law_some", "_law_k", "_law_product", "_law_one_here", "_law_deep", "_law_due", "_law_many", "_law_first"] [.ref p, .int (wd : Int), .ref kp] = [some (.ref p), some (.int (wd : Int)), some (.ref kp), none, none, none, none, none, none, none, none, none, none] from rfl]
    obtain ⟨hs, hk, hT, k⟩ := h
    have w1 := hk.w1
    have w2 := hk.w2
    have d0 := LS.start hk hs hT
    clear hk hs hT
    walk_at "rd"
    refine ⟨by show 2 ≤ sizeLine; decide, fun x1 hx1 => ?_⟩
    walk_at "rd"
    refine ⟨by show 2 ≤ sizeLine; decide, fun x2 hx2 => ?_⟩
    walk_at "rd"
    refine ⟨by show 2 ≤ sizeLine; decide, fun x3 hx3 => ?_⟩
    have t1 := sm_new (o := .lst [.ref x1, .ref x2]) (sm_new (o := .tup [.int 8, .int 4]) (sm_new (o := .tup [.int 4, .int 1]) (Same.refl H) hx1) hx2) hx3
    have h1 : (L2.upd (L2.upd (L2.upd H x1 (.tup [.int 4, .int 1])) x2 (.tup [.int 8, .int 4])) x3 (.lst [.ref x1, .ref x2])) x1 = some (.tup [.int 4, .int 1]) := gn (gn upd_same hx2) hx3
    have h2 : (L2.upd (L2.upd (L2.upd H x1 (.tup [.int 4, .int 1])) x2 (.tup [.int 8, .int 4])) x3 (.lst [.ref x1, .ref x2])) x2 = some (.tup [.int 8, .int 4]) := gn upd_same hx3
    have h3 : (L2.upd (L2.upd (L2.upd H x1 (.tup [.int 4, .int 1])) x2 (.tup [.int 8, .int 4])) x3 (.lst [.ref x1, .ref x2])) x3 = some (.lst [.ref x1, .ref x2]) := upd_same
    generalize L2.upd (L2.upd (L2.upd H x1 _) x2 _) x3 _ = H1 at t1 h1 h2 h3 ⊢
    have d1 := d0.same t1
    have q1 : Kq T.tabs p H H1 := Kq.of (Sm.of t1)
    have n1p : x1 ≠ p := by
      obtain ⟨_, _, _, e⟩ := d1.j
      exact L2.ne_of h1 e (by intro z; cases z)
    have n2p : x2 ≠ p := by
      obtain ⟨_, _, _, e⟩ := d1.j
      exact L2.ne_of h2 e (by intro z; cases z)
    have n3p : x3 ≠ p := by
      obtain ⟨_, _, _, e⟩ := d1.j
      exact L2.ne_of h3 e (by intro z; cases z)
    clear d0 t1 hx1 hx2 hx3
    have b5 : ((10 : Int) ^ (5 : Int).toNat).natAbs < 2 ^ 8999 := Nat.lt_trans (show ((10 : Int) ^ (5 : Int).toNat).natAbs < 2 ^ 32 by decide) (Nat.pow_lt_pow_right (by decide) (by decide))
    have t5 : ((10 : Int) ^ (5 : Int).toNat) = 100000 := by decide
    walk_at "rd"
    refine ⟨⟨_, SqL.of h3⟩, for_list (K := K) (a := x3) (xs := [.ref x1, .ref x2]) (fun i σ H' => (∃ v3 v4 v5 v6 v7 v8 v9 v10 v11 v12 : Option V, σ = [some (.ref p), some (.int (wd : Int)), some (.ref kp), v3, v4, v5, v6, v7, v8, v9, v10, v11, v12]) ∧ Kq T.tabs p H1 H' ∧ LS T.C_Kind T.tabs H' kp wd s p) ⟨⟨_, _, _, _, _, _, _, _, _, _, rfl⟩, Kq.refl H1, d1⟩ (fun i σ H' _ q => SqL.of (q.2.1.at n3p h3)) ?_ ?_⟩
    rotate_left
    · rintro σ H2 ⟨⟨v3, v4, v5, v6, v7, v8, v9, v10, v11, v12, rfl⟩, q2, d2⟩
      walk_at "rd"
      exact k _ (q1.trans q2) d2.j
    rintro i z σ H2 hi ⟨⟨v3, v4, v5, v6, v7, v8, v9, v10, v11, v12, rfl⟩, q2, d2⟩
    obtain ⟨t, C, M, rfl, ht, hCM⟩ : ∃ (t : Addr) (C M : Nat), z = .ref t ∧ H2 t = some (.tup [.int (C : Int), .int (M : Int)]) ∧ ((C = 4 ∧ M = 1) ∨ (C = 8 ∧ M = 4)) := by
      match i, hi with
      | 0, hi => exact ⟨x1, 4, 1, (Option.some.inj hi).symm, q2.at n1p h1, .inl ⟨rfl, rfl⟩⟩
      | 1, hi => exact ⟨x2, 8, 4, (Option.some.inj hi).symm, q2.at n2p h2, .inr ⟨rfl, rfl⟩⟩
    have C8 : C ≤ 8 := by omega
    clear d1
    walk_at "rd"
    refine ⟨_, rfl, by omega, by omega, fun D hD => lc_range (lo := 0) (n := C) (fun j H' => (∃ ms : List Int, H' D = some (.lst (ms.map V.int)) ∧ ms.length = j ∧ ∀ (i : Nat) (r : Int), ms[i]? = some r → ∃ u : Int, r = (i : Int) + (C : Int) * u ∧ 0 ≤ u ∧ u < 100000) ∧ Kp p H2 H' ∧ SrcAt H' p) ⟨⟨[], upd_same, rfl, fun i r hr => (by cases hr)⟩, (Kp.refl p H2).new hD, d2.j.new hD⟩ ?_ ?_⟩
    · rintro j H' hj ⟨⟨ms, hms, ml, mb⟩, kpj, jj⟩
      walk_at "rd"
      refine ⟨rfl, ?_⟩
      walk_at "rd"
      refine iteT ?_
      walk_at "rd"
      refine ⟨p, _, rfl, jj, by decide, b5, fun u H6 u0 u1 kp6 j6 => ?_⟩
      rw [t5] at u1
      have nD : D ≠ p := by
        obtain ⟨_, _, _, e⟩ := d2.j
        exact (ne_of_none e hD).symm
      walk_at "rd"
      refine w_I (CC := CMul) (.inl ⟨by omega, by omega⟩) ?_
      walk_at "rd"
      refine ⟨_, kp6 _ _ nD hms, by rw [List.length_map]; exact Nat.lt_of_lt_of_le (show ms.length < 9 by omega) (by decide), ⟨ms ++ [(j : Int) + (C : Int) * u], by rw [upd_same, List.map_append]; simp, by rw [List.length_append, List.length_singleton, ml], fun i r hr => ?_⟩, kp_mut (kpj.trans kp6) hD, j6.mut nD⟩
      rcases Nat.lt_or_ge i ms.length with c | c
      · rw [List.getElem?_append_left c] at hr
        exact mb i r hr
      · rw [List.getElem?_append_right c] at hr
        have : i - ms.length = 0 := by
          rcases Nat.eq_zero_or_pos (i - ms.length) with z | z
          · exact z
          · rw [List.getElem?_eq_none (by show 1 ≤ _; omega)] at hr; cases hr
        rw [this] at hr
        obtain rfl := Option.some.inj hr
        exact ⟨u, by rw [show i = j by omega], u0, u1⟩
    rintro H6 ⟨⟨ms, hms, ml, mb⟩, kp6, j6⟩
    have d6 := d2.draw kp6 j6
    have q6 := q2.trans (kp6.toS d2.j)
    clear d2 q2 kp6 j6 hD
    have hmod : ∀ (i : Nat) (r : Int), ms[i]? = some r → r % (C : Int) = (i : Int) := fun i r hr => by
      obtain ⟨u, e, _, _⟩ := mb i r hr
      have il := (List.getElem?_eq_some_iff.mp hr).1
      rw [e, Int.add_mul_emod_self_left]
      exact Int.emod_eq_of_lt (by omega) (by omega)
    have mbd : ∀ r ∈ ms, 0 ≤ r ∧ r < 900000 := fun r hr => by
      obtain ⟨i, hi⟩ := List.getElem?_of_mem hr
      obtain ⟨u, e, u0, u1⟩ := mb i r hi
      have il := (List.getElem?_eq_some_iff.mp hi).1
      rcases hCM with ⟨rfl, _⟩ | ⟨rfl, _⟩ <;> omega
    clear mb
    try dsimp only [List.set]
    walk_at "rd"
    refine ⟨by show 1 ≤ sizeLine; decide, fun c0 hc0 => ?_⟩
    have t7 := sm_new (o := .lst [.int 1]) (Same.refl H6) hc0
    have hc7 : (L2.upd H6 c0 (.lst [.int 1])) c0 = some (.lst (([1] : List Int).map V.int)) := upd_same
    generalize L2.upd H6 c0 _ = H7 at t7 hc7 ⊢
    have d7 := d6.same t7
    have q7 := q6.trans (Kq.of (Sm.of t7))
    have hms7 := t7 _ _ hms
    clear d6 q6 t7 hms hc0
    walk_at "rd"
    refine ⟨⟨_, SqL.of hms7⟩, for_list (K := K) (a := D) (xs := ms.map V.int) (fun i σ H' => (∃ v8 : Option V, ∃ (qc : Addr) (cs : List Int), σ = [some (.ref p), some (.int (wd : Int)), some (.ref kp), some (.int (C : Int)), some (.int (M : Int)), some (.ref D), v6, some (.ref qc), v8, v9, v10, v11, v12] ∧ H' qc = some (.lst (cs.map V.int)) ∧ cs.length = i + 1 ∧ n1 cs ≤ 2 ^ (20 * i) ∧ ∀ x, pvl cs x = prR (ms.take i) x) ∧ Same H7 H') ⟨⟨_, c0, [1], rfl, hc7, rfl, by decide, fun x => by show (1 : Int) + x * 0 = 1; omega⟩, Same.refl H7⟩ (fun i σ H' _ q => SqL.of (q.2 _ _ hms7)) ?_ ?_⟩
    · rintro i z σ H8 hi ⟨⟨v8, qc, cs, rfl, hqc, cl, cn, cev⟩, t8⟩
      obtain ⟨r, hr, rfl⟩ := map_get hi
      have il := (List.getElem?_eq_some_iff.mp hr).1
      obtain ⟨r0, r1⟩ := mbd r (List.mem_of_getElem? hr)
      walk_at "rd"
      refine ⟨by show 2 ≤ sizeLine; decide, fun m1 hm1 => ?_⟩
      have n1a : n1 [0 - r, 1] ≤ 2 ^ 20 := by
        show (0 - r).natAbs + ((1 : Int).natAbs + 0) ≤ _
        have : (1 : Int).natAbs = 1 := rfl
        omega
      have i7 : i ≤ 7 := by omega
      refine ⟨qc, m1, cs, [0 - r, 1], rfl, gn hqc hm1, upd_same, by omega, by omega, by show 1 ≤ 2; omega, by show 2 ≤ 20; omega, Nat.lt_of_le_of_lt cn (Nat.pow_lt_pow_right (by decide) (by omega)), Nat.lt_of_le_of_lt n1a (Nat.pow_lt_pow_right (by decide) (by decide)), fun q es H9 nq t9 hes el en ev => ?_⟩
      walk_at "rd"
      refine ⟨⟨_, q, es, rfl, hes, ?_, ?_, fun x => ?_⟩, (sm_new (o := .lst [.int (0 - r), .int 1]) t8 hm1).trans t9⟩
      · rw [el, cl]; show i + 1 + 2 - 1 = _; omega
      · refine Nat.le_trans en (Nat.le_trans (Nat.mul_le_mul cn n1a) ?_)
        rw [← Nat.pow_add]
        exact Nat.pow_le_pow_right (by decide) (by omega)
      · rw [ev, cev, pvl_lin, List.take_add_one, hr]
        show _ = prR (ms.take i ++ [r]) x
        rw [prR_snoc]
        congr 1
        omega
    rintro σ H8 ⟨⟨v8, qc, cs, rfl, hqc, cl, cn, cev⟩, t8⟩
    rw [List.length_map] at cl cn cev
    rw [List.take_of_length_le (by omega)] at cev
    have d8 := d7.same t8
    have q8 := q7.trans (Kq.of (Sm.of t8))
    have hms8 := t8 _ _ hms7
    clear d7 q7 t8 hms7 hc7
    have csd : ∀ c ∈ cs, SD c := fun c hc => sd_of (Nat.lt_of_le_of_lt (Nat.le_trans (n1_mem hc) (Nat.le_trans cn (Nat.pow_le_pow_right (n := 2) (by decide) (show 20 * ms.length ≤ 160 by omega)))) (by decide))
    have pall : ∀ x, (2 : Int) ^ wd ∣ pvl cs x ↔ wd < 2 * M + (if C = 4 then 2 else 0) ∨ ∃ r ∈ ms, (2 : Int) ^ (wd - M) ∣ x - r := fun x => by rw [cev]; exact parts_all hCM ml hmod x
    obtain ⟨dp, hdp⟩ : ∃ dp : Int, dp = (wd : Int) - (M : Int) := ⟨_, rfl⟩
    have M4 : M ≤ 4 := by omega
    obtain ⟨md, hmd⟩ : ∃ md : Nat, (md : Int) = max 0 dp := ⟨(max 0 dp).toNat, by omega⟩
    have pmd := p2 md
    try dsimp only [List.set]
    walk_at "rd"
    rw [← hdp]
    refine ⟨⟨_, SqL.of hms8⟩, fun E hE => lc_list (K := K) (a := D) (xs := ms.map V.int) (fun j H' => (∃ ts : List V, H' E = some (.lst ts) ∧ ts.length = j ∧ ∀ (i : Nat) (r : Int), (ms.take j)[i]? = some r → ∃ t : Addr, ts[i]? = some (.ref t) ∧ H' t = some (.tup [.int (r % 2 ^ md), .int dp])) ∧ Same H8 H') ⟨⟨[], upd_same, rfl, fun i r hr => (by cases hr)⟩, sm_new (Same.refl H8) hE⟩ (fun i H' _ q => SqL.of (q.2 _ _ hms8)) ?_ ?_⟩
    · rintro j z H' hj ⟨⟨ts, hts, tl, tb⟩, sm⟩
      obtain ⟨r, hr, rfl⟩ := map_get hj
      have jl := (List.getElem?_eq_some_iff.mp hr).1
      walk_at "rd"
      refine ⟨rfl, ?_⟩
      walk_at "rd"
      refine iteT ?_
      walk_at "rd"
      refine w_max2 ?_
      rw [← hmd]
      walk_at "rd"
      refine ⟨_, rfl, by omega, by omega, ?_⟩
      rw [Int.toNat_natCast]
      refine w_I pmd ?_
      walk_at "rd"
      refine ⟨by show 2 ≤ sizeLine; decide, fun u hu => ?_⟩
      have nuE : u ≠ E := fun z => by rw [z, hts] at hu; cases hu
      refine ⟨ts, gn hts hu, Nat.lt_of_lt_of_le (show ts.length < 9 by omega) (by decide), ⟨ts ++ [.ref u], upd_same, by rw [List.length_append, List.length_singleton, tl], fun i r' hr' => ?_⟩, sm_mut (sm_new (o := .tup [.int (r % 2 ^ md), .int dp]) sm hu) hE⟩
      rw [List.take_add_one, hr] at hr'
      rcases Nat.lt_or_ge i j with c | c
      · rw [List.getElem?_append_left (by rw [List.length_take]; omega)] at hr'
        obtain ⟨t, h1, h2⟩ := tb i r' hr'
        exact ⟨t, by rw [List.getElem?_append_left (by omega)]; exact h1, by rw [upd_ne (L2.ne_of h2 hts (by intro z; cases z))]; exact gn h2 hu⟩
      · have tk : (ms.take j).length = j := by rw [List.length_take]; omega
        rw [List.getElem?_append_right (by omega), tk] at hr'
        have : i - j = 0 := by
          rcases Nat.eq_zero_or_pos (i - j) with z | z
          · exact z
          · rw [List.getElem?_eq_none (by show 1 ≤ _; omega)] at hr'; cases hr'
        rw [this] at hr'
        obtain rfl := Option.some.inj hr'
        exact ⟨u, by rw [List.getElem?_append_right (by omega), show i - ts.length = 0 by omega]; rfl, by rw [upd_ne nuE]; exact upd_same⟩
    rintro H9 ⟨⟨ts, hts, tl, tb⟩, t9⟩
    rw [List.length_map] at tl tb
    rw [List.take_of_length_le (Nat.le_refl _)] at tb
    have d9 := d8.same t9
    have q9 := q8.trans (Kq.of (Sm.of t9))
    have hqc9 := t9 _ _ hqc
    clear d8 q8 t9 hqc hms8
    obtain ⟨X, hX⟩ : ∃ X : Nat, X = (if C = 4 then 2 else 0) := ⟨_, rfl⟩
    rw [← hX] at pall
    walk_at "rd"
    refine w_sortIf (big := ¬ wd < 2 * M + X) (fl := ms.map (resF md)) hts (fun v hv => ?_) (fun big => ?_) (fun l ys hl so => ?_)
    · obtain ⟨i, hi⟩ := List.getElem?_of_mem hv
      have il := (List.getElem?_eq_some_iff.mp hi).1
      obtain ⟨t, h1, h2⟩ := tb i ms[i] (List.getElem?_eq_getElem (by omega))
      rw [hi] at h1
      exact ⟨t, _, _, Option.some.inj h1, h2⟩
    · refine ⟨row_idx tl fun i r hr => ?_, lvl_nodup (cnt := (C : Int)) ?_ hmod⟩
      · obtain ⟨t, h1, h2⟩ := tb i r hr
        exact ⟨t, h1, by rw [show (md : Int) = dp by omega]; exact h2⟩
      · rcases hCM with ⟨rfl, rfl⟩ | ⟨rfl, rfl⟩
        · rw [if_pos rfl] at hX
          exact gppR (a := 2) (by omega)
        · rw [if_neg (by decide)] at hX
          exact gppR (a := 3) (by omega)
    have t10 := sm_new (o := .lst ys) (Same.refl H9) hl
    have so : ¬ wd < 2 * M + X → ∃ gl : FL, PRow (L2.upd H9 l (.lst ys)) ys gl ∧ gl.Perm (ms.map (resF md)) ∧ gl.Pairwise ltF := fun b => by
      obtain ⟨gl, a, b, c⟩ := so b
      exact ⟨gl, a.same t10, b, c⟩
    have hl10 : (L2.upd H9 l (.lst ys)) l = some (.lst ys) := upd_same
    generalize L2.upd H9 l _ = H10 at t10 so hl10 ⊢
    have d10 := d9.same t10
    have q10 := q9.trans (Kq.of (Sm.of t10))
    have hqc10 := t10 _ _ hqc9
    clear d9 q9 t10 hqc9 hts tb hl
    walk_at "rd"
    refine w_ifJ (fun u H' => u = .int (X : Int) ∧ H' = H10) (fun Q hQ => ?_) ?_
    · refine w_if ?_
      walk_at "rd"
      refine w_dec (fun c4 => ?_) (fun c4 => ?_)
      · walk_at "rd"
        exact hQ _ _ ⟨by rw [hX, if_pos (by omega)]; rfl, rfl⟩
      · walk_at "rd"
        exact hQ _ _ ⟨by rw [hX, if_neg (by omega)]; rfl, rfl⟩
    rintro _ H10 ⟨rfl, rfl⟩
    walk_at "rd"
    refine w_stJ (fun σ' H' => ∃ (l : Addr) (ys : List V) (gl : FL), σ' = [some (.ref p), some (.int (wd : Int)), some (.ref kp), some (.int (C : Int)), some (.int (M : Int)), some (.ref D), v6, some (.ref qc), v8, some (.int dp), some (.ref l), v11, v12] ∧ H' l = some (.lst ys) ∧ PRow H' ys gl ∧ NRow wd gl ∧ gl.length ≤ 8 ∧ (∀ x, Cover (famL gl) x ↔ (2 : Int) ^ wd ∣ pvl cs x) ∧ Same H10 H') (fun lt Dx qx => ?_) (fun ge Dx qx => ?_) ?_
    · walk_at "rd"
      refine ⟨by show 2 ≤ sizeLine; decide, fun u0 hu0 => ?_⟩
      walk_at "rd"
      refine ⟨by show 1 ≤ sizeLine; decide, fun v0 hv0 => ?_⟩
      walk_at "rd"
      obtain ⟨n1', c1'⟩ := one_row (w := wd)
      exact qx _ _ ⟨v0, [.ref u0], [((0 : Int), 0)], rfl, upd_same, .cons (gn upd_same hv0) .nil, n1', by show 1 ≤ 8; omega, fun x => ⟨fun _ => (pall x).mpr (.inl (by omega)), fun _ => c1' x⟩, sm_new (sm_new (Same.refl H10) hu0) hv0⟩
    · walk_at "rd"
      have big : ¬ wd < 2 * M + X := by omega
      obtain ⟨gl, row, pm, srt⟩ := so big
      have emd : md = wd - M := by omega
      have cd : (C : Int) ∣ 2 ^ (md - 1) := by
        rcases hCM with ⟨rfl, rfl⟩ | ⟨rfl, rfl⟩
        · rw [if_pos rfl] at hX
          exact gppR (a := 2) (by omega)
        · rw [if_neg (by decide)] at hX
          exact gppR (a := 3) (by omega)
      obtain ⟨nr, cov, _⟩ := lvl_row (w := wd) (d := md) (by omega) (by omega) cd hmod pm srt
      refine qx _ _ ⟨l, ys, gl, rfl, hl10, row, nr, by rw [pm.length_eq, List.length_map]; omega, fun x => ?_, Same.refl H10⟩
      rw [cov x, pall x, emd]
      exact ⟨.inr, fun h => h.elim (fun z => absurd z big) id⟩
    rintro σ' H11 ⟨l, ys, gl, rfl, hl11, row, nr, g8, cov, t11⟩
    have d11 := d10.same t11
    have q11 := q10.trans (Kq.of (Sm.of t11))
    have hqc11 := t11 _ _ hqc10
    clear d10 q10 t11 hqc10 hl10 so
    walk_at "rd"
    refine ⟨⟨_, SqL.of hl11⟩, fun F hF => lc_list (K := K) (a := l) (xs := ys) (fun j H' => H' F = some (.lst (((gl.map fun p => (2 : Int) ^ (wd - p.2)).take j).map V.int)) ∧ Same H11 H') ⟨upd_same, sm_new (Same.refl H11) hF⟩ (fun i H' _ q => SqL.of (q.2 _ _ hl11)) ?_ ?_⟩
    · rintro j z H' hj ⟨hd, sm⟩
      obtain ⟨t, f, e, rfl, ht, hf⟩ := row.get hj
      have ht' := sm _ _ ht
      have ew := nr.few _ (List.mem_of_getElem? hf)
      have jl := (List.getElem?_eq_some_iff.mp hf).1
      walk_at "rd"
      refine ⟨rfl, ?_⟩
      walk_at "rd"
      refine iteT ?_
      walk_at "rd"
      refine ⟨_, rfl, by omega, by omega, ?_⟩
      rw [show ((wd : Int) - (e : Int)).toNat = wd - e by omega]
      refine ⟨_, hd, by rw [List.length_map, List.length_take, List.length_map]; exact Nat.lt_of_le_of_lt (show _ ≤ 8 by omega) (by decide), ?_, sm_mut sm hF⟩
      rw [upd_same, List.take_add_one, List.getElem?_map, hf, List.map_append]; rfl
    rintro H12 ⟨hd, t12⟩
    rw [row.len, List.take_of_length_le (by rw [List.length_map]; exact Nat.le_refl _)] at hd
    walk_at "rd"
    refine w_sumR hd ?_
    have d12 := d11.same t12
    have q12 := q11.trans (Kq.of (Sm.of t12))
    have hqc12 := t12 _ _ hqc11
    have hl12 := t12 _ _ hl11
    have row12 := row.same t12
    clear d11 q11 t12 hqc11 hl11 row hd
    walk_at "rd"
    refine ⟨kp, qc, cs, wd, s, rfl, d12.k, hqc12, by omega, by omega, csd, fun r1 H13 hf t13 => ?_⟩
    obtain ⟨out, hout, rowO⟩ := hf.list nr cov
    have d13 := d12.same t13
    have q13 := q12.trans (Kq.of (Sm.of t13))
    have hqc13 := t13 _ _ hqc12
    walk_at "rd"
    refine w_neRow hout rowO (t13 _ _ hl12) (row12.same t13) ?_
    walk_at "rd"
    refine iteF ?_
    clear d12 q12 t13 hqc12 hf hout rowO hl12 row12
    walk_at "rd"
    refine ⟨kp, qc, cs, wd, s, rfl, d13.k, hqc13, by omega, by omega, csd, fun H14 t14 => ?_⟩
    rw [rt_tot nr cov]
    walk_at "rd"
    refine w_ndecT rfl ?_
    walk_at "rd"
    exact ⟨⟨_, _, _, _, _, _, _, _, _, _, rfl⟩, q13.trans (Kq.of (Sm.of t14)), d13.same t14⟩
def sp_law (K : PySem.W.Frag) (C : Addr) (TS : List (Addr × Str)) : Sp := fun vs H Q _ => ∃ (a : Addr) (ns : List Int), vs = [.ref a] ∧ SqL K H a (ns.map V.int) ∧ ns.length ≤ 63 ∧ LamX.Tabs TS H ∧ ∀ H', Q (.bl true) H'
theorem ok_law {P : Program} {w : World} {K : PySem.W.Frag} {mg : Str → Option Value} {base : Heap} (T : Txt K mg) (B : TBs T base) : FnOk P w K mg base CX0 18 T.f_law T.fd_law ["_law_script"] (sp_law K T.C_Kind T.tabs) := by
  have G_Kind___init__ := ok_Kind___init__ (P := P) (w := w) (base := base) T B
  have G__law_cell_at := ok__law_cell_at (P := P) (w := w) (base := base) T B
  have G__law_lines_right := ok__law_lines_right (P := P) (w := w) (base := base) T B
  have G__law_moved := ok__law_moved (P := P) (w := w) (base := base) T B
  have G__law_next := ok__law_next (P := P) (w := w) (base := base) T B
  have G__law_one := ok__law_one (P := P) (w := w) (base := base) T B
  have G__law_parts_right := ok__law_parts_right (P := P) (w := w) (base := base) T B
  have G__law_power := ok__law_power (P := P) (w := w) (base := base) T B
  have G__law_powers_right := ok__law_powers_right (P := P) (w := w) (base := base) T B
  have G__law_products_right := ok__law_products_right (P := P) (w := w) (base := base) T B
  have G__law_source_of := ok__law_source_of (P := P) (w := w) (base := base) T B
  have G__law_square_roots := ok__law_square_roots (P := P) (w := w) (base := base) T B
  have G_root_total := ok_root_total (P := P) (w := w) (base := base) T B
  have G_roots := ok_roots (P := P) (w := w) (base := base) T B
  refine T.F_law.ok sc_law (fun vs H Q E h => ?_) (fun cdv A outer s H vs Q E hr h => ?_)
  · obtain ⟨a, ns, rfl, _⟩ := h
    rfl
  · obtain ⟨a, ns, rfl, h⟩ := h
    have hr_Kind___init__ : Room 3 _ := hr.mono (by decide)
    have hr__law_cell_at : Room 1 _ := hr.mono (by decide)
    have hr__law_lines_right : Room 7 _ := hr.mono (by decide)
    have hr__law_moved : Room 2 _ := hr.mono (by decide)
    have hr__law_next : Room 1 _ := hr.mono (by decide)
    have hr__law_one : Room 2 _ := hr.mono (by decide)
    have hr__law_parts_right : Room 7 _ := hr.mono (by decide)
    have hr__law_power : Room 1 _ := hr.mono (by decide)
    have hr__law_powers_right : Room 17 _ := hr.mono (by decide)
    have hr__law_products_right : Room 7 _ := hr.mono (by decide)
    have hr__law_source_of : Room 1 _ := hr.mono (by decide)
    have hr__law_square_roots : Room 2 _ := hr.mono (by decide)
    have hr_root_total : Room 6 _ := hr.mono (by decide)
    have hr_roots : Room 5 _ := hr.mono (by decide)
    refine ⟨_, (pss_cons (ps_for PassesOwn.never rfl (pi_list (pe_op op_cat (pe_lst (pa_cons (pe_call G__law_cell_at hr__law_cell_at rfl T.g__law_cell_at T.k__law_cell_at T.b__law_cell_at .nil pass0 (pa_cons (pv 0 (hv := Or.inl rfl)) (pa_cons pe_int pa_nil))) pa_nil)) (pe_slice sl_list (pv 0 (hv := Or.inl rfl)) (po_some pe_int) (po_some pe_int)))) (pg_name (i := 1) sc_law.nd rfl (Or.inl rfl))
        (pss_cons (ps_set (i := 2) sc_law.nd rfl (Or.inl rfl) (pe_call G__law_source_of hr__law_source_of rfl T.g__law_source_of T.k__law_source_of T.b__law_source_of .nil pass0 (pa_cons (pv 1 (hv := Or.inl rfl)) pa_nil)))
      (pss_cons (ps_set (i := 3) sc_law.nd rfl (Or.inl rfl) (pe_op op_add pe_int (pe_call G__law_next hr__law_next rfl T.g__law_next T.k__law_next T.b__law_next .nil pass0 (pa_cons (pv 2 (hv := Or.inl rfl)) (pa_cons (pe_call G__law_one hr__law_one rfl T.g__law_one T.k__law_one T.b__law_one .nil pass0 (pa_cons (pv 2 (hv := Or.inl rfl)) (pa_cons (pe_lst (pa_cons pe_int (pa_cons pe_int pa_nil))) pa_nil))) pa_nil)))))
      (pss_cons (ps_set (i := 4) sc_law.nd rfl (Or.inl rfl) (pe_make T.mk_Kind G_Kind___init__ hr_Kind___init__ rfl T.g_Kind T.b_Kind___init__ .nil pass0 (pa_cons (pv 3 (hv := Or.inl rfl)) (pa_cons (pe_cmpR op_eq (pe_call G__law_next hr__law_next rfl T.g__law_next T.k__law_next T.b__law_next .nil pass0 (pa_cons (pv 2 (hv := Or.inl rfl)) (pa_cons pe_int pa_nil))) pe_int (nomark _)) pa_nil))))
      (pss_cons (ps_if (PW.pt (pw_or (pt_not (pt_val (pe_call G__law_powers_right hr__law_powers_right rfl T.g__law_powers_right T.k__law_powers_right T.b__law_powers_right .nil pass0 (pa_cons (pv 3 (hv := Or.inl rfl)) (pa_cons (pv 4 (hv := Or.inl rfl)) pa_nil))))) (pw_or1 (pt_not (pt_val (pe_call G__law_lines_right hr__law_lines_right rfl T.g__law_lines_right T.k__law_lines_right T.b__law_lines_right .nil pass0 (pa_cons (pv 2 (hv := Or.inl rfl)) (pa_cons (pv 3 (hv := Or.inl rfl)) (pa_cons (pv 4 (hv := Or.inl rfl)) pa_nil))))))))) (pss_one (ps_ret pe_bl)) pss_nil)
      (pss_cons (ps_if (PW.pt (pw_or (pt_not (pt_val (pe_call G__law_products_right hr__law_products_right rfl T.g__law_products_right T.k__law_products_right T.b__law_products_right .nil pass0 (pa_cons (pv 2 (hv := Or.inl rfl)) (pa_cons (pv 3 (hv := Or.inl rfl)) (pa_cons (pv 4 (hv := Or.inl rfl)) pa_nil)))))) (pw_or1 (pt_not (pt_val (pe_call G__law_parts_right hr__law_parts_right rfl T.g__law_parts_right T.k__law_parts_right T.b__law_parts_right .nil pass0 (pa_cons (pv 2 (hv := Or.inl rfl)) (pa_cons (pv 3 (hv := Or.inl rfl)) (pa_cons (pv 4 (hv := Or.inl rfl)) pa_nil))))))))) (pss_one (ps_ret pe_bl)) pss_nil)
      (pss_cons (ps_set (i := 5) sc_law.nd rfl (Or.inl rfl) (pe_call G__law_next hr__law_next rfl T.g__law_next T.k__law_next T.b__law_next .nil pass0 (pa_cons (pv 2 (hv := Or.inl rfl)) (pa_cons (pe_op op_fdiv (pe_op op_add (pv 3 (hv := Or.inl rfl)) pe_int) pe_int) pa_nil))))
      (pss_cons (ps_set (i := 6) sc_law.nd rfl (Or.inl rfl) (pe_lst (pa_cons (pe_op op_sub pe_int (pe_call G__law_power hr__law_power rfl T.g__law_power T.k__law_power T.b__law_power .nil pass0 (pa_cons (pe_op op_mul pe_int (pv 5 (hv := Or.inl rfl))) pa_nil))) (pa_cons pe_int (pa_cons pe_int pa_nil)))))
      (pss_cons (ps_set (i := 7) sc_law.nd rfl (Or.inl rfl) (pe_call G__law_square_roots hr__law_square_roots rfl T.g__law_square_roots T.k__law_square_roots T.b__law_square_roots .nil pass0 (pa_cons (pv 3 (hv := Or.inl rfl)) (pa_cons (pv 5 (hv := Or.inl rfl)) pa_nil))))
      (pss_cons (ps_if (pt_cmpR (op_neD hr.units) (pe_call G_roots hr_roots rfl T.g_roots T.k_roots T.b_roots .nil pass0 (pa_cons (pv 4 (hv := Or.inl rfl)) (pa_cons (pv 6 (hv := Or.inl rfl)) pa_nil))) (pv 7 (hv := Or.inl rfl)) (nomark _)) (pss_one (ps_ret pe_bl)) pss_nil)
      (pss_cons (ps_set (i := 8) sc_law.nd rfl (Or.inl rfl) (pe_call G__law_next hr__law_next rfl T.g__law_next T.k__law_next T.b__law_next .nil pass0 (pa_cons (pv 2 (hv := Or.inl rfl)) (pa_cons (pe_op op_pow pe_int pe_int) pa_nil))))
      (pss_cons (ps_set (i := 9) sc_law.nd rfl (Or.inl rfl) (pe_lst (pa_cons (pe_op op_sub (pe_op op_mul (pv 8 (hv := Or.inl rfl)) (pv 8 (hv := Or.inl rfl))) (pe_call G__law_power hr__law_power rfl T.g__law_power T.k__law_power T.b__law_power .nil pass0 (pa_cons (pe_op op_mul pe_int (pv 5 (hv := Or.inl rfl))) pa_nil))) (pa_cons (pe_op op_sub pe_int (pe_op op_mul pe_int (pv 8 (hv := Or.inl rfl)))) (pa_cons pe_int pa_nil)))))
      (pss_one (ps_if (pt_cmpR (op_neD hr.units) (pe_call G_roots hr_roots rfl T.g_roots T.k_roots T.b_roots .nil pass0 (pa_cons (pv 4 (hv := Or.inl rfl)) (pa_cons (pv 9 (hv := Or.inl rfl)) pa_nil))) (pe_call G__law_moved hr__law_moved rfl T.g__law_moved T.k__law_moved T.b__law_moved .nil pass0 (pa_cons (pv 7 (hv := Or.inl rfl)) (pa_cons (pv 8 (hv := Or.inl rfl)) (pa_cons (pv 3 (hv := Or.inl rfl)) pa_nil)))) (nomark _)) (pss_one (ps_ret pe_bl)) pss_nil))))))))))))))
      (pss_one (ps_ret (pe_and (pe_cmpR op_eq (pe_call G_root_total hr_root_total rfl T.g_root_total T.k_root_total T.b_root_total .nil pass0 (pa_cons (pe_make T.mk_Kind G_Kind___init__ hr_Kind___init__ rfl T.g_Kind T.b_Kind___init__ .nil pass0 (pa_cons pe_int (pa_cons pe_bl pa_nil))) (pa_cons (pe_lst (pa_cons (pe_un un_neg pe_int) (pa_cons pe_int (pa_cons pe_int pa_nil)))) pa_nil))) pe_int (nomark _)) (pe_one (pe_cmpR (op_eqD hr.units) (pe_call G_roots hr_roots rfl T.g_roots T.k_roots T.b_roots .nil pass0 (pa_cons (pe_make T.mk_Kind G_Kind___init__ hr_Kind___init__ rfl T.g_Kind T.b_Kind___init__ .nil pass0 (pa_cons pe_int (pa_cons pe_bl pa_nil))) (pa_cons (pe_lst (pa_cons pe_int (pa_cons pe_int (pa_cons pe_int pa_nil)))) pa_nil))) (pe_lst pa_nil) (nomark _))))))), ?_⟩
    try dsimp only [cxOf, Cx.nox, Cx.wish, Cx.blk]
    rw [show L2.start ["_law_script", "_law_cell", "_law_source", "_law_bits", "_law_kind", "_law_twos_here", "_law_square", "_law_due", "_law_shift", "_law_moved_here"] [.ref a] = [some (.ref a), none, none, none, none, none, none, none, none, none] from rfl]
    obtain ⟨hS, n63, hT, k⟩ := h
    walk_at "rd"
    refine ⟨a, ns, rfl, hS, n63, fun c0 H1 s1 => ?_⟩
    walk_at "rd"
    refine ⟨by show 1 ≤ sizeLine; decide, fun q1 hq1 => ?_⟩
    walk_at "rd"
    obtain ⟨ms, em, lm, _⟩ := cut_map V.int ns (some 1) (some 3)
    refine w_slL ((sm_new s1 hq1).seq hS) (fun q2 hq2 => ?_)
    rw [em]
    refine w_cat (gn upd_same hq2) upd_same (by rw [List.length_map]; exact Nat.le_trans (show 1 + ms.length ≤ 64 by omega) (by decide)) (fun q3 hq3 => ?_)
    have tt := sm_new (o := .lst ((c0 :: ms).map V.int)) (sm_new (o := .lst (ms.map V.int)) (sm_new (o := .lst [.int c0]) s1 hq1) hq2) hq3
    have hx0 : (L2.upd (L2.upd (L2.upd H1 q1 (.lst [.int c0])) q2 (.lst (ms.map V.int))) q3 (.lst ((c0 :: ms).map V.int))) q3 = some (.lst ((c0 :: ms).map V.int)) := upd_same
    have hT0 := (Sm.of (T := T.tabs) tt).2 hT
    walk_at "rd"
    refine ⟨⟨_, SqL.of upd_same⟩, for_list (K := K) (a := q3) (xs := (c0 :: ms).map V.int) (fun i σ H' => (∃ v1 v2 v3 v4 v5 v6 v7 v8 v9 : Option V, σ = [some (.ref a), v1, v2, v3, v4, v5, v6, v7, v8, v9]) ∧ H' q3 = some (.lst ((c0 :: ms).map V.int)) ∧ LamX.Tabs T.tabs H')
      ⟨⟨_, _, _, _, _, _, _, _, _, rfl⟩, hx0, hT0⟩ (fun i σ H' _ p => SqL.of p.2.1) ?_ ?_⟩
    rotate_left
    · rintro σ H2 ⟨⟨v1, v2, v3, v4, v5, v6, v7, v8, v9, rfl⟩, hx, hT2⟩
      walk_at "rd"
      intro kx dx nx ndx nex
      refine ⟨kx, 64, false, rfl, ⟨dx, upd_same⟩, by decide, by decide, fun H3 hk kp3 => ⟨rfl, ?_⟩⟩
      walk_at "rd"
      refine ⟨by show 3 ≤ sizeLine; decide, fun m hm => ?_⟩
      have hk' := hk.same (sm_new (o := .lst [.int (-1), .int 0, .int 1]) (Same.refl H3) hm)
      refine ⟨kx, m, [-1, 0, 1], 64, false, rfl, hk', upd_same, by show 1 ≤ 3; omega, by show 3 ≤ 9; omega, fun c hc => ?_, fun H4 t4 => ?_⟩
      · refine sd_of ?_
        rcases List.mem_cons.mp hc with rfl | hc
        · decide
        rcases List.mem_cons.mp hc with rfl | hc
        · decide
        · rw [List.mem_singleton.mp hc]; decide
      rw [rt_tot (sq_two (w := 64) (t := 0) (by decide)).1 fun x => by
        rw [sq_rowL (by decide) (by decide) x]
        have : pvl [-1, 0, 1] x = x * x - 2 ^ (2 * 0) := by
          show -1 + x * (0 + x * (1 + x * 0)) = _
          rw [Int.mul_zero, Int.add_zero, Int.mul_one, Int.zero_add]
          show -1 + x * x = x * x - 1
          omega
        rw [this], flsum_two]
      walk_at "rd"
      rw [decide_eq_true (show (2 : Int) ^ (64 - ((2 : Int) ^ 0, 64 - 0 - 1).snd) + 2 ^ (64 - ((2 : Int) ^ (64 - 0 - 1) - 2 ^ 0, 64 - 0 - 1).snd) = 4 by decide)]
      refine iteT ?_
      walk_at "rd"
      intro kx dx nx ndx nex
      refine ⟨kx, 128, true, rfl, ⟨dx, upd_same⟩, by decide, by decide, fun H5 hk kp5 => ⟨rfl, ?_⟩⟩
      walk_at "rd"
      refine ⟨by show 3 ≤ sizeLine; decide, fun m hm => ?_⟩
      have hk' := hk.same (sm_new (o := .lst [.int 1, .int 0, .int 1]) (Same.refl H5) hm)
      refine ⟨kx, m, [1, 0, 1], 128, true, rfl, hk', upd_same, by show 1 ≤ 3; omega, by show 3 ≤ 9; omega, fun c hc => ?_, fun r H6 hf t6 => ?_⟩
      · refine sd_of ?_
        rcases List.mem_cons.mp hc with rfl | hc
        · decide
        rcases List.mem_cons.mp hc with rfl | hc
        · decide
        · rw [List.mem_singleton.mp hc]; decide
      obtain ⟨out, hout, row⟩ := hf.list (gl := []) NRow.nil fun x => ⟨fun z => (cover_nil z).elim, fun z => by
        have e : pvl [1, 0, 1] x = 1 + x * x := by
          show 1 + x * (0 + x * (1 + x * 0)) = _
          rw [Int.mul_zero, Int.add_zero, Int.mul_one, Int.zero_add]
        have z4 : (2 : Int) ^ 2 ∣ 1 + x * x := by rw [← e]; exact Int.dvd_trans (gppR (by decide)) z
        exact (no_four z4).elim⟩
      cases row
      walk_at "rd"
      refine ⟨by show 0 ≤ sizeLine; decide, fun q hq => ?_⟩
      refine w_eqRow (fl := []) (gn hout hq) .nil upd_same .nil ?_
      exact k _
    rintro i x σ H' hi ⟨⟨v1, v2, v3, v4, v5, v6, v7, v8, v9, rfl⟩, hx, hT'⟩
    obtain ⟨c, _, rfl⟩ := map_get hi
    clear hi em hq1 hq2 hq3 s1 hS tt hx0 hT0 hT
    walk_at "rd"
    refine ⟨c, rfl, fun p H2 hp s2 hs2 => ?_⟩
    have npq : q3 ≠ p := ne_of_none hx hp
    have hx2 := s2 _ _ hx
    have hT2 := (Sm.of (T := T.tabs) s2).2 hT'
    clear hx s2 hp hT'
    walk_at "rd"
    refine ⟨by show 2 ≤ sizeLine; decide, fun q4 hq4 => ?_⟩
    have j3 := hs2.new (o := .lst [.int 8, .int 128]) hq4
    have hx3 := gn (u := .lst [.int 8, .int 128]) hx2 hq4
    have hT3 := (Sm.of (T := T.tabs) (sm_new (o := .lst [.int 8, .int 128]) (Same.refl H2) hq4)).2 hT2
    have n4 := hs2.ne hq4
    have h43 : (L2.upd H2 q4 (.lst [.int 8, .int 128])) q4 = some (.lst ([8, 128].map V.int)) := upd_same
    generalize L2.upd H2 q4 _ = H3 at j3 hx3 hT3 h43 ⊢
    clear hs2 hx2 hT2 hq4
    walk_at "rd"
    refine ⟨p, q4, [8, 128], rfl, j3, h43, n4, by show 0 < 2; omega, by show 2 ≤ 1000; omega, fun v H4 hv kp4 j4 => ?_⟩
    have v8b : v = 8 ∨ v = 128 := by simpa using hv
    have hT4 := (kp4.toS (TS := T.tabs) j3).2 hT3
    have hx4 := kp4 _ _ npq hx3
    clear h43 hx3 hT3 j3 kp4
    walk_at "rd"
    refine ⟨p, v, rfl, j4, by omega, Nat.lt_trans (show v.natAbs < 2 ^ 8 by omega) (Nat.pow_lt_pow_right (by decide) (by decide)), fun b0 H5 b00 b01 kp5 j5 => ?_⟩
    have hT5 := (kp5.toS (TS := T.tabs) j4).2 hT4
    have hx5 := kp5 _ _ npq hx4
    clear j4 hT4 hx4 kp5
    obtain ⟨wd, hwd⟩ : ∃ wd : Nat, 1 + b0 = (wd : Int) := ⟨(1 + b0).toNat, by omega⟩
    have w1 : 1 ≤ wd := by omega
    have w2 : wd ≤ 128 := by omega
    walk_at "rd"
    rw [hwd]
    walk_at "rd"
    refine ⟨p, 2, rfl, j5, by decide, Nat.lt_trans (show (2 : Int).natAbs < 2 ^ 8 by decide) (Nat.pow_lt_pow_right (by decide) (by decide)), fun g H6 g0 g1 kp6 j6 => ?_⟩
    have hT6 := (kp6.toS (TS := T.tabs) j5).2 hT5
    have hx6 := kp6 _ _ npq hx5
    clear j5 hT5 hx5 kp6
    walk_at "rd"
    intro kx dx nx ndx nex
    obtain ⟨s, hs⟩ : ∃ s, s = decide (g = 1) := ⟨_, rfl⟩
    refine ⟨kx, wd, s, by rw [hs]; rfl, ⟨dx, upd_same⟩, w1, w2, fun H7 hk kp7 => ⟨rfl, ?_⟩⟩
    have s7 : Same H6 H7 := fun b o e => kp7 b o (ne_of_none e nx) (by rw [upd_ne (ne_of_none e nx), upd_ne (ne_of_none e ndx)]; exact e)
    have d7 := LS.start hk (j6.same s7) ((Sm.of s7).2 hT6)
    have hx7 := s7 _ _ hx6
    clear j6 hT6 hx6 s7 hk kp7 nx ndx nex
    walk_at "rd"
    refine ⟨kx, wd, s, rfl, d7.k, d7.t, fun H8 s8 => ?_⟩
    have d8 := d7.sm s8
    have hx8 := s8.at hx7
    clear d7 s8 hx7
    walk_at "rd"
    refine iteF ?_
    walk_at "rd"
    refine ⟨p, kx, wd, s, rfl, d8.j, d8.k, d8.t, fun H9 q9 j9 => ?_⟩
    have d9 := LS.start (d8.k.kq d8.nk q9) j9 (q9.2 d8.t)
    have hx9 := q9.at npq hx8
    clear d8 q9 hx8 j9
    walk_at "rd"
    refine iteF ?_
    walk_at "rd"
    refine ⟨p, kx, wd, s, rfl, d9.j, d9.k, d9.t, fun H10 q10 j10 => ?_⟩
    have d10 := LS.start (d9.k.kq d9.nk q10) j10 (q10.2 d9.t)
    have hx10 := q10.at npq hx9
    clear d9 q10 hx9 j10
    walk_at "rd"
    refine iteF ?_
    walk_at "rd"
    refine ⟨p, kx, wd, s, rfl, d10.j, d10.k, d10.t, fun H11 q11 j11 => ?_⟩
    have d11 := LS.start (d10.k.kq d10.nk q11) j11 (q11.2 d10.t)
    have hx11 := q11.at npq hx10
    clear d10 q11 hx10 j11
    walk_at "rd"
    refine iteF ?_
    walk_at "rd"
    refine ⟨p, _, rfl, d11.j, by omega, Nat.lt_trans (show (((wd : Int) + 1) / 2).natAbs < 2 ^ 8 by omega) (Nat.pow_lt_pow_right (by decide) (by decide)), fun tw H12 t0 t1 kp12 j12 => ?_⟩
    obtain ⟨n, rfl⟩ := Int.eq_ofNat_of_zero_le t0
    have n2 : 2 * n < wd := by omega
    have d12 := d11.draw kp12 j12
    have hx12 := kp12 _ _ npq hx11
    clear d11 kp12 hx11 j12
    try dsimp only [List.set]
    walk_at "rd"
    refine ⟨_, rfl, by omega, by omega, ?_⟩
    rw [show (2 * (n : Int)).toNat = 2 * n by omega]
    walk_at "rd"
    refine ⟨by show 3 ≤ sizeLine; decide, fun m hm => ?_⟩
    have t13 := sm_new (o := .lst [.int (0 - 2 ^ (2 * n)), .int 0, .int 1]) (Same.refl H12) hm
    have hm13 : (L2.upd H12 m (.lst [.int (0 - 2 ^ (2 * n)), .int 0, .int 1])) m = some (.lst ([0 - 2 ^ (2 * n), 0, 1].map V.int)) := upd_same
    generalize L2.upd H12 m _ = H13 at t13 hm13 ⊢
    have d13 := d12.same t13
    have hx13 := t13 _ _ hx12
    clear d12 hx12 t13 hm
    have pn := p2 (2 * n)
    have pw : (2 : Int) ^ (2 * n) < 2 * 2 ^ wd := by
      have := Nat.pow_le_pow_right (n := 2) (by decide) (show 2 * n ≤ wd by omega)
      have h2 : (2 : Int) ^ (2 * n) ≤ 2 ^ wd := by exact_mod_cast this
      have := p2 wd
      omega
    have sdp := b60 w2 (x := (2 : Int) ^ (2 * n)) (by omega) pw
    walk_at "rd"
    refine ⟨wd, n, rfl, w2, n2, fun ql out fl H14 hql row nr l2 cov sum t14 => ?_⟩
    have d14 := d13.same t14
    have hx14 := t14 _ _ hx13
    have hm14 := t14 _ _ hm13
    clear d13 hx13 t14 hm13
    walk_at "rd"
    refine ⟨kx, m, [0 - 2 ^ (2 * n), 0, 1], wd, s, rfl, d14.k, hm14, by show 1 ≤ 3; omega, by show 3 ≤ 9; omega, fun c hc => ?_, fun r H15 hf t15 => ?_⟩
    · rcases List.mem_cons.mp hc with rfl | hc
      · unfold SD at sdp ⊢; omega
      rcases List.mem_cons.mp hc with rfl | hc
      · exact sd_of (by decide)
      · rw [List.mem_singleton.mp hc]; exact sd_of (by decide)
    obtain ⟨o1, ho1, rw1⟩ := hf.list nr fun x => by
      rw [cov x]
      have : pvl [0 - 2 ^ (2 * n), 0, 1] x = x * x - 2 ^ (2 * n) := by
        show 0 - 2 ^ (2 * n) + x * (0 + x * (1 + x * 0)) = _
        rw [Int.mul_zero, Int.add_zero, Int.mul_one, Int.zero_add]; omega
      rw [this]
    have d15 := d14.same t15
    have hx15 := t15 _ _ hx14
    have hql15 := t15 _ _ hql
    have row15 := row.same t15
    clear d14 hx14 hm14 t15 hql row hf
    walk_at "rd"
    refine w_neRow ho1 rw1 hql15 row15 ?_
    walk_at "rd"
    refine iteF ?_
    clear ho1 rw1 o1 r
    walk_at "rd"
    refine ⟨p, _, rfl, d15.j, by decide, Nat.lt_trans (show ((10 : Int) ^ (9 : Int).toNat).natAbs < 2 ^ 32 by decide) (Nat.pow_lt_pow_right (by decide) (by decide)), fun S H16 S0 S1 kp16 j16 => ?_⟩
    have t9 : ((10 : Int) ^ (9 : Int).toNat) = 1000000000 := by decide
    rw [t9] at S1
    have nlp : ql ≠ p := by
      obtain ⟨_, _, _, e⟩ := d15.j
      intro z
      rw [z, e] at hql15
      have e2 := congrArg (fun o : Option HO => match o with | some (.lst xs) => xs | _ => []) hql15
      simp only at e2
      rw [← e2] at row15
      cases row15
    have row16 := row15.keep fun q f e h => kp16 _ _ (by
      obtain ⟨_, _, _, e⟩ := d15.j
      exact L2.ne_of h e (by intro z; cases z)) h
    have hql16 := kp16 _ _ nlp hql15
    have hx16 := kp16 _ _ npq hx15
    have d16 := d15.draw kp16 j16
    clear d15 kp16 j16 hx15 hql15 row15
    try dsimp only [List.set]
    walk_at "rd"
    refine w_I (CC := CMul) (.inl ⟨by omega, by omega⟩) ?_
    walk_at "rd"
    refine ⟨_, rfl, by omega, by omega, ?_⟩
    rw [show (2 * (n : Int)).toNat = 2 * n by omega]
    walk_at "rd"
    refine ⟨by show 3 ≤ sizeLine; decide, fun m2 hm2 => ?_⟩
    have t17 := sm_new (o := .lst [.int (S * S - 2 ^ (2 * n)), .int (0 - 2 * S), .int 1]) (Same.refl H16) hm2
    have hm17 : (L2.upd H16 m2 (.lst [.int (S * S - 2 ^ (2 * n)), .int (0 - 2 * S), .int 1])) m2 = some (.lst ([S * S - 2 ^ (2 * n), 0 - 2 * S, 1].map V.int)) := upd_same
    generalize L2.upd H16 m2 _ = H17 at t17 hm17 ⊢
    have d17 := d16.same t17
    have hx17 := t17 _ _ hx16
    have hql17 := t17 _ _ hql16
    have row17 := row16.same t17
    clear d16 hx16 hql16 row16 t17 hm2
    have SS : 0 ≤ S * S ∧ S * S ≤ 1000000000 * 1000000000 := ⟨Int.mul_nonneg S0 S0, Int.mul_le_mul (by omega) (by omega) S0 (by decide)⟩
    walk_at "rd"
    refine ⟨kx, m2, [S * S - 2 ^ (2 * n), 0 - 2 * S, 1], wd, s, rfl, d17.k, hm17, by show 1 ≤ 3; omega, by show 3 ≤ 9; omega, fun c hc => ?_, fun r H18 hf t18 => ?_⟩
    · rcases List.mem_cons.mp hc with rfl | hc
      · have c2 : (2 : Int) ^ wd ≤ 2 ^ 128 := by
          have := Nat.pow_le_pow_right (n := 2) (by decide) w2
          exact_mod_cast this
        have c4 : (2 : Int) ^ 128 * 4 + 1000000000 * 1000000000 < 10 ^ 60 := by decide +kernel
        unfold SD; omega
      rcases List.mem_cons.mp hc with rfl | hc
      · unfold SD; omega
      · rw [List.mem_singleton.mp hc]; exact sd_of (by decide)
    have hql18 := t18 _ _ hql17
    have row18 := row17.same t18
    have d18 := d17.same t18
    have hx18 := t18 _ _ hx17
    clear d17 hx17 hql17 row17 t18 hm17
    walk_at "rd"
    refine ⟨ql, S, wd, out, fl, rfl, hql18, row18, by omega, w2, nr, fun r2 ys gl H19 hr2 rowY nr2 cov2 t19 => ?_⟩
    obtain ⟨o1, ho1, rw1⟩ := hf.list nr2 fun x => by
      rw [cov2 x, cov (x - S)]
      have : pvl [S * S - 2 ^ (2 * n), 0 - 2 * S, 1] x = (x - S) * (x - S) - 2 ^ (2 * n) := by
        show S * S - 2 ^ (2 * n) + x * ((0 - 2 * S) + x * (1 + x * 0)) = _
        rw [Int.mul_zero, Int.add_zero, Int.mul_one, Int.mul_add, Int.mul_sub x, Int.mul_zero, Int.sub_mul x S, Int.mul_sub x x, Int.mul_sub S, Int.mul_left_comm x 2, Int.mul_comm S x]; omega
      rw [this]
    walk_at "rd"
    refine w_neRow (t19 _ _ ho1) (rw1.same t19) hr2 rowY ?_
    walk_at "rd"
    refine iteF ?_
    walk_at "rd"
    exact ⟨⟨_, _, _, _, _, _, _, _, _, rfl⟩, t19 _ _ hx18, (Sm.of t19).2 d18.t⟩
theorem mk_txt {K : PySem.W.Frag} {h : Heap} {mg : Str → Option Value} {C_Kind f_joined f_family_size f_total_size f_is_integer f_is_sixty_digits f_factors_of_two f_twos_in f_Kind___init__ f_check_kind f_least_passing f_is_polynomial f_check_polynomial f__value f__one_behind f__doubled f__halves f_root_families f_roots f_root_total f_least_twos f_most_twos cd_most_twos P_most_twos f__law_source_of f__law_next f__law_one f__law_cell_at f__law_power f__law_wide f__law_times f__law_moved f__law_powers_right f__law_square_roots f__law_lines_right f__law_products_right f__law_parts_right f_law : Addr} (X : K.In h) (G : h.Ns mainGlobals mg)
    {od_joined an_joined od_family_size an_family_size od_total_size an_total_size od_is_integer an_is_integer od_is_sixty_digits an_is_sixty_digits od_factors_of_two an_factors_of_two od_twos_in an_twos_in od_Kind___init__ an_Kind___init__ od_check_kind an_check_kind od_least_passing an_least_passing od_is_polynomial an_is_polynomial od_check_polynomial an_check_polynomial od__value an__value od__one_behind an__one_behind od__doubled an__doubled od__halves an__halves od_root_families an_root_families od_roots an_roots od_root_total an_root_total od_least_twos an_least_twos od_most_twos an_most_twos o2_most_twos od__law_source_of an__law_source_of od__law_next an__law_next od__law_one an__law_one od__law_cell_at an__law_cell_at od__law_power an__law_power od__law_wide an__law_wide od__law_times an__law_times od__law_moved an__law_moved od__law_powers_right an__law_powers_right od__law_square_roots an__law_square_roots od__law_lines_right an__law_lines_right od__law_products_right an__law_products_right od__law_parts_right an__law_parts_right od_law an_law : Option Addr} {sl_joined sl_family_size sl_total_size sl_is_integer sl_is_sixty_digits sl_factors_of_two sl_twos_in sl_Kind___init__ sl_check_kind sl_least_passing sl_is_polynomial sl_check_polynomial sl__value sl__one_behind sl__doubled sl__halves sl_root_families sl_roots sl_root_total sl_least_twos sl_most_twos o3_most_twos sl__law_source_of sl__law_next sl__law_one sl__law_cell_at sl__law_power sl__law_wide sl__law_times sl__law_moved sl__law_powers_right sl__law_square_roots sl__law_lines_right sl__law_products_right sl__law_parts_right sl_law : Array (Option Value)} {oc_joined kV_joined dc_joined pm_joined cd_joined ct_joined oc_family_size kV_family_size dc_family_size pm_family_size cd_family_size ct_family_size oc_total_size kV_total_size dc_total_size pm_total_size cd_total_size ct_total_size oc_is_integer kV_is_integer dc_is_integer pm_is_integer cd_is_integer ct_is_integer oc_is_sixty_digits kV_is_sixty_digits dc_is_sixty_digits pm_is_sixty_digits cd_is_sixty_digits ct_is_sixty_digits oc_factors_of_two kV_factors_of_two dc_factors_of_two pm_factors_of_two cd_factors_of_two ct_factors_of_two oc_twos_in kV_twos_in dc_twos_in pm_twos_in cd_twos_in ct_twos_in oc_Kind___init__ kV_Kind___init__ dc_Kind___init__ pm_Kind___init__ cd_Kind___init__ ct_Kind___init__ oc_check_kind kV_check_kind dc_check_kind pm_check_kind cd_check_kind ct_check_kind oc_least_passing kV_least_passing dc_least_passing pm_least_passing cd_least_passing ct_least_passing oc_is_polynomial kV_is_polynomial dc_is_polynomial pm_is_polynomial cd_is_polynomial ct_is_polynomial oc_check_polynomial kV_check_polynomial dc_check_polynomial pm_check_polynomial cd_check_polynomial ct_check_polynomial oc__value kV__value dc__value pm__value cd__value ct__value oc__one_behind kV__one_behind dc__one_behind pm__one_behind cd__one_behind ct__one_behind oc__doubled kV__doubled dc__doubled pm__doubled cd__doubled ct__doubled oc__halves kV__halves dc__halves pm__halves cd__halves ct__halves oc_root_families kV_root_families dc_root_families pm_root_families cd_root_families ct_root_families oc_roots kV_roots dc_roots pm_roots cd_roots ct_roots oc_root_total kV_root_total dc_root_total pm_root_total cd_root_total ct_root_total oc_least_twos kV_least_twos dc_least_twos pm_least_twos cd_least_twos ct_least_twos oc_most_twos kV_most_twos dc_most_twos pm_most_twos ct_most_twos o1_most_twos oc__law_source_of kV__law_source_of dc__law_source_of pm__law_source_of cd__law_source_of ct__law_source_of oc__law_next kV__law_next dc__law_next pm__law_next cd__law_next ct__law_next oc__law_one kV__law_one dc__law_one pm__law_one cd__law_one ct__law_one oc__law_cell_at kV__law_cell_at dc__law_cell_at pm__law_cell_at cd__law_cell_at ct__law_cell_at oc__law_power kV__law_power dc__law_power pm__law_power cd__law_power ct__law_power oc__law_wide kV__law_wide dc__law_wide pm__law_wide cd__law_wide ct__law_wide oc__law_times kV__law_times dc__law_times pm__law_times cd__law_times ct__law_times oc__law_moved kV__law_moved dc__law_moved pm__law_moved cd__law_moved ct__law_moved oc__law_powers_right kV__law_powers_right dc__law_powers_right pm__law_powers_right cd__law_powers_right ct__law_powers_right oc__law_square_roots kV__law_square_roots dc__law_square_roots pm__law_square_roots cd__law_square_roots ct__law_square_roots oc__law_lines_right kV__law_lines_right dc__law_lines_right pm__law_lines_right cd__law_lines_right ct__law_lines_right oc__law_products_right kV__law_products_right dc__law_products_right pm__law_products_right cd__law_products_right ct__law_products_right oc__law_parts_right kV__law_parts_right dc__law_parts_right pm__law_parts_right cd__law_parts_right ct__law_parts_right oc_law kV_law dc_law pm_law cd_law ct_law : Value} {t_BEYOND_SIXTY_DIGITS t_MOST_BITS t_MOST_COEFFICIENTS : Tok} {vs_most_twos : Array Value}
    (aC_Kind : PySem.W.nsIn K mainGlobals "Kind" = some (some (.ref C_Kind)))
    (a_Kind___init__ : PySem.W.findIn K (.ref C_Kind) "__init__" = some (some (.ref f_Kind___init__)))
    (i_Kind___init__ : PySem.W.isFn K (.ref f_Kind___init__) = true)
    (pg_Kind : PySem.W.plainGet K C_Kind Str.empty = true)
    (hd_Kind : PySem.W.hasDictIn K C_Kind = true)
    (po_Kind : PySem.W.plainOver K C_Kind = true)
    (sa_Kind : PySem.W.findIn K (.ref C_Kind) "__setattr__" = some (some (.builtin "object.__setattr__")))
    (mkk_Kind : PySem.W.makesIn K C_Kind = true)
    (kc_Kind : PySem.W.keepIn K (.ref C_Kind) = true)
    (na_Kind_bits : PySem.W.findIn K (.ref C_Kind) "bits" = some none)
    (na_Kind_is_signed : PySem.W.findIn K (.ref C_Kind) "is_signed" = some none)
    (ia_Kind : PySem.W.findIn K (.ref C_Kind) "__class__" = some (some (.builtin "object.__class__")))
    (ib_Kind : PySem.W.specialIn K (.builtin "object.__class__") "__get__" = some (some (.builtin "getset_descriptor.__get__")))
    (ic_Kind : PySem.W.takesIn K (.builtin "object.__class__") = some true)
    (id_Kind : PySem.W.mroIn K C_Kind (.type "object") = some true)
    (a_joined : PySem.W.nsIn K mainGlobals "joined" = some (some (.ref f_joined)))
    (l_joined : K.lookup f_joined = some ⟨oc_joined, od_joined, .func (PySem.W.fnOf "joined" "joined" (defArgs s_joined) (defBody s_joined) (defScope s_joined) .none kV_joined dc_joined pm_joined an_joined cd_joined ct_joined), sl_joined⟩)
    (c_joined : PySem.W.codeIn K cd_joined "joined" = true)
    (k_joined : PySem.W.keepIn K (.ref f_joined) = true)
    (a_family_size : PySem.W.nsIn K mainGlobals "family_size" = some (some (.ref f_family_size)))
    (l_family_size : K.lookup f_family_size = some ⟨oc_family_size, od_family_size, .func (PySem.W.fnOf "family_size" "family_size" (defArgs s_family_size) (defBody s_family_size) (defScope s_family_size) .none kV_family_size dc_family_size pm_family_size an_family_size cd_family_size ct_family_size), sl_family_size⟩)
    (c_family_size : PySem.W.codeIn K cd_family_size "family_size" = true)
    (k_family_size : PySem.W.keepIn K (.ref f_family_size) = true)
    (a_total_size : PySem.W.nsIn K mainGlobals "total_size" = some (some (.ref f_total_size)))
    (l_total_size : K.lookup f_total_size = some ⟨oc_total_size, od_total_size, .func (PySem.W.fnOf "total_size" "total_size" (defArgs s_total_size) (defBody s_total_size) (defScope s_total_size) .none kV_total_size dc_total_size pm_total_size an_total_size cd_total_size ct_total_size), sl_total_size⟩)
    (c_total_size : PySem.W.codeIn K cd_total_size "total_size" = true)
    (k_total_size : PySem.W.keepIn K (.ref f_total_size) = true)
    (a_is_integer : PySem.W.nsIn K mainGlobals "is_integer" = some (some (.ref f_is_integer)))
    (l_is_integer : K.lookup f_is_integer = some ⟨oc_is_integer, od_is_integer, .func (PySem.W.fnOf "is_integer" "is_integer" (defArgs s_is_integer) (defBody s_is_integer) (defScope s_is_integer) .none kV_is_integer dc_is_integer pm_is_integer an_is_integer cd_is_integer ct_is_integer), sl_is_integer⟩)
    (c_is_integer : PySem.W.codeIn K cd_is_integer "is_integer" = true)
    (k_is_integer : PySem.W.keepIn K (.ref f_is_integer) = true)
    (a_is_sixty_digits : PySem.W.nsIn K mainGlobals "is_sixty_digits" = some (some (.ref f_is_sixty_digits)))
    (l_is_sixty_digits : K.lookup f_is_sixty_digits = some ⟨oc_is_sixty_digits, od_is_sixty_digits, .func (PySem.W.fnOf "is_sixty_digits" "is_sixty_digits" (defArgs s_is_sixty_digits) (defBody s_is_sixty_digits) (defScope s_is_sixty_digits) .none kV_is_sixty_digits dc_is_sixty_digits pm_is_sixty_digits an_is_sixty_digits cd_is_sixty_digits ct_is_sixty_digits), sl_is_sixty_digits⟩)
    (c_is_sixty_digits : PySem.W.codeIn K cd_is_sixty_digits "is_sixty_digits" = true)
    (k_is_sixty_digits : PySem.W.keepIn K (.ref f_is_sixty_digits) = true)
    (a_factors_of_two : PySem.W.nsIn K mainGlobals "factors_of_two" = some (some (.ref f_factors_of_two)))
    (l_factors_of_two : K.lookup f_factors_of_two = some ⟨oc_factors_of_two, od_factors_of_two, .func (PySem.W.fnOf "factors_of_two" "factors_of_two" (defArgs s_factors_of_two) (defBody s_factors_of_two) (defScope s_factors_of_two) .none kV_factors_of_two dc_factors_of_two pm_factors_of_two an_factors_of_two cd_factors_of_two ct_factors_of_two), sl_factors_of_two⟩)
    (c_factors_of_two : PySem.W.codeIn K cd_factors_of_two "factors_of_two" = true)
    (k_factors_of_two : PySem.W.keepIn K (.ref f_factors_of_two) = true)
    (a_twos_in : PySem.W.nsIn K mainGlobals "twos_in" = some (some (.ref f_twos_in)))
    (l_twos_in : K.lookup f_twos_in = some ⟨oc_twos_in, od_twos_in, .func (PySem.W.fnOf "twos_in" "twos_in" (defArgs s_twos_in) (defBody s_twos_in) (defScope s_twos_in) .none kV_twos_in dc_twos_in pm_twos_in an_twos_in cd_twos_in ct_twos_in), sl_twos_in⟩)
    (c_twos_in : PySem.W.codeIn K cd_twos_in "twos_in" = true)
    (k_twos_in : PySem.W.keepIn K (.ref f_twos_in) = true)
    (l_Kind___init__ : K.lookup f_Kind___init__ = some ⟨oc_Kind___init__, od_Kind___init__, .func (PySem.W.fnOf "__init__" "Kind.__init__" (defArgs s_Kind___init__) (defBody s_Kind___init__) (defScope s_Kind___init__) .none kV_Kind___init__ dc_Kind___init__ pm_Kind___init__ an_Kind___init__ cd_Kind___init__ ct_Kind___init__), sl_Kind___init__⟩)
    (c_Kind___init__ : PySem.W.codeIn K cd_Kind___init__ "Kind.__init__" = true)
    (k_Kind___init__ : PySem.W.keepIn K (.ref f_Kind___init__) = true)
    (a_check_kind : PySem.W.nsIn K mainGlobals "check_kind" = some (some (.ref f_check_kind)))
    (l_check_kind : K.lookup f_check_kind = some ⟨oc_check_kind, od_check_kind, .func (PySem.W.fnOf "check_kind" "check_kind" (defArgs s_check_kind) (defBody s_check_kind) (defScope s_check_kind) .none kV_check_kind dc_check_kind pm_check_kind an_check_kind cd_check_kind ct_check_kind), sl_check_kind⟩)
    (c_check_kind : PySem.W.codeIn K cd_check_kind "check_kind" = true)
    (k_check_kind : PySem.W.keepIn K (.ref f_check_kind) = true)
    (a_least_passing : PySem.W.nsIn K mainGlobals "least_passing" = some (some (.ref f_least_passing)))
    (l_least_passing : K.lookup f_least_passing = some ⟨oc_least_passing, od_least_passing, .func (PySem.W.fnOf "least_passing" "least_passing" (defArgs s_least_passing) (defBody s_least_passing) (defScope s_least_passing) .none kV_least_passing dc_least_passing pm_least_passing an_least_passing cd_least_passing ct_least_passing), sl_least_passing⟩)
    (c_least_passing : PySem.W.codeIn K cd_least_passing "least_passing" = true)
    (k_least_passing : PySem.W.keepIn K (.ref f_least_passing) = true)
    (a_is_polynomial : PySem.W.nsIn K mainGlobals "is_polynomial" = some (some (.ref f_is_polynomial)))
    (l_is_polynomial : K.lookup f_is_polynomial = some ⟨oc_is_polynomial, od_is_polynomial, .func (PySem.W.fnOf "is_polynomial" "is_polynomial" (defArgs s_is_polynomial) (defBody s_is_polynomial) (defScope s_is_polynomial) .none kV_is_polynomial dc_is_polynomial pm_is_polynomial an_is_polynomial cd_is_polynomial ct_is_polynomial), sl_is_polynomial⟩)
    (c_is_polynomial : PySem.W.codeIn K cd_is_polynomial "is_polynomial" = true)
    (k_is_polynomial : PySem.W.keepIn K (.ref f_is_polynomial) = true)
    (a_check_polynomial : PySem.W.nsIn K mainGlobals "check_polynomial" = some (some (.ref f_check_polynomial)))
    (l_check_polynomial : K.lookup f_check_polynomial = some ⟨oc_check_polynomial, od_check_polynomial, .func (PySem.W.fnOf "check_polynomial" "check_polynomial" (defArgs s_check_polynomial) (defBody s_check_polynomial) (defScope s_check_polynomial) .none kV_check_polynomial dc_check_polynomial pm_check_polynomial an_check_polynomial cd_check_polynomial ct_check_polynomial), sl_check_polynomial⟩)
    (c_check_polynomial : PySem.W.codeIn K cd_check_polynomial "check_polynomial" = true)
    (k_check_polynomial : PySem.W.keepIn K (.ref f_check_polynomial) = true)
    (a__value : PySem.W.nsIn K mainGlobals "_value" = some (some (.ref f__value)))
    (l__value : K.lookup f__value = some ⟨oc__value, od__value, .func (PySem.W.fnOf "_value" "_value" (defArgs s__value) (defBody s__value) (defScope s__value) .none kV__value dc__value pm__value an__value cd__value ct__value), sl__value⟩)
    (c__value : PySem.W.codeIn K cd__value "_value" = true)
    (k__value : PySem.W.keepIn K (.ref f__value) = true)
    (a__one_behind : PySem.W.nsIn K mainGlobals "_one_behind" = some (some (.ref f__one_behind)))
    (l__one_behind : K.lookup f__one_behind = some ⟨oc__one_behind, od__one_behind, .func (PySem.W.fnOf "_one_behind" "_one_behind" (defArgs s__one_behind) (defBody s__one_behind) (defScope s__one_behind) .none kV__one_behind dc__one_behind pm__one_behind an__one_behind cd__one_behind ct__one_behind), sl__one_behind⟩)
    (c__one_behind : PySem.W.codeIn K cd__one_behind "_one_behind" = true)
    (k__one_behind : PySem.W.keepIn K (.ref f__one_behind) = true)
    (a__doubled : PySem.W.nsIn K mainGlobals "_doubled" = some (some (.ref f__doubled)))
    (l__doubled : K.lookup f__doubled = some ⟨oc__doubled, od__doubled, .func (PySem.W.fnOf "_doubled" "_doubled" (defArgs s__doubled) (defBody s__doubled) (defScope s__doubled) .none kV__doubled dc__doubled pm__doubled an__doubled cd__doubled ct__doubled), sl__doubled⟩)
    (c__doubled : PySem.W.codeIn K cd__doubled "_doubled" = true)
    (k__doubled : PySem.W.keepIn K (.ref f__doubled) = true)
    (a__halves : PySem.W.nsIn K mainGlobals "_halves" = some (some (.ref f__halves)))
    (l__halves : K.lookup f__halves = some ⟨oc__halves, od__halves, .func (PySem.W.fnOf "_halves" "_halves" (defArgs s__halves) (defBody s__halves) (defScope s__halves) .none kV__halves dc__halves pm__halves an__halves cd__halves ct__halves), sl__halves⟩)
    (c__halves : PySem.W.codeIn K cd__halves "_halves" = true)
    (k__halves : PySem.W.keepIn K (.ref f__halves) = true)
    (a_root_families : PySem.W.nsIn K mainGlobals "root_families" = some (some (.ref f_root_families)))
    (l_root_families : K.lookup f_root_families = some ⟨oc_root_families, od_root_families, .func (PySem.W.fnOf "root_families" "root_families" (defArgs s_root_families) (defBody s_root_families) (defScope s_root_families) .none kV_root_families dc_root_families pm_root_families an_root_families cd_root_families ct_root_families), sl_root_families⟩)
    (c_root_families : PySem.W.codeIn K cd_root_families "root_families" = true)
    (k_root_families : PySem.W.keepIn K (.ref f_root_families) = true)
    (a_roots : PySem.W.nsIn K mainGlobals "roots" = some (some (.ref f_roots)))
    (l_roots : K.lookup f_roots = some ⟨oc_roots, od_roots, .func (PySem.W.fnOf "roots" "roots" (defArgs s_roots) (defBody s_roots) (defScope s_roots) .none kV_roots dc_roots pm_roots an_roots cd_roots ct_roots), sl_roots⟩)
    (c_roots : PySem.W.codeIn K cd_roots "roots" = true)
    (k_roots : PySem.W.keepIn K (.ref f_roots) = true)
    (a_root_total : PySem.W.nsIn K mainGlobals "root_total" = some (some (.ref f_root_total)))
    (l_root_total : K.lookup f_root_total = some ⟨oc_root_total, od_root_total, .func (PySem.W.fnOf "root_total" "root_total" (defArgs s_root_total) (defBody s_root_total) (defScope s_root_total) .none kV_root_total dc_root_total pm_root_total an_root_total cd_root_total ct_root_total), sl_root_total⟩)
    (c_root_total : PySem.W.codeIn K cd_root_total "root_total" = true)
    (k_root_total : PySem.W.keepIn K (.ref f_root_total) = true)
    (a_least_twos : PySem.W.nsIn K mainGlobals "least_twos" = some (some (.ref f_least_twos)))
    (l_least_twos : K.lookup f_least_twos = some ⟨oc_least_twos, od_least_twos, .func (PySem.W.fnOf "least_twos" "least_twos" (defArgs s_least_twos) (defBody s_least_twos) (defScope s_least_twos) .none kV_least_twos dc_least_twos pm_least_twos an_least_twos cd_least_twos ct_least_twos), sl_least_twos⟩)
    (c_least_twos : PySem.W.codeIn K cd_least_twos "least_twos" = true)
    (k_least_twos : PySem.W.keepIn K (.ref f_least_twos) = true)
    (a_most_twos : PySem.W.nsIn K mainGlobals "most_twos" = some (some (.ref f_most_twos)))
    (l_most_twos : K.lookup f_most_twos = some ⟨oc_most_twos, od_most_twos, .func (PySem.W.fnOf "most_twos" "most_twos" (defArgs s_most_twos) (defBody s_most_twos) (defScope s_most_twos) .none kV_most_twos dc_most_twos pm_most_twos an_most_twos (.ref cd_most_twos) ct_most_twos), sl_most_twos⟩)
    (c_most_twos : PySem.W.codeIn K (.ref cd_most_twos) "most_twos" = true)
    (lc_most_twos : K.lookup cd_most_twos = some ⟨o1_most_twos, o2_most_twos, .fields vs_most_twos, o3_most_twos⟩)
    (hv_most_twos : vs_most_twos[11]? = some (.ref P_most_twos))
    (k_most_twos : PySem.W.keepIn K (.ref f_most_twos) = true)
    (a__law_source_of : PySem.W.nsIn K mainGlobals "_law_source_of" = some (some (.ref f__law_source_of)))
    (l__law_source_of : K.lookup f__law_source_of = some ⟨oc__law_source_of, od__law_source_of, .func (PySem.W.fnOf "_law_source_of" "_law_source_of" (defArgs s__law_source_of) (defBody s__law_source_of) (defScope s__law_source_of) .none kV__law_source_of dc__law_source_of pm__law_source_of an__law_source_of cd__law_source_of ct__law_source_of), sl__law_source_of⟩)
    (c__law_source_of : PySem.W.codeIn K cd__law_source_of "_law_source_of" = true)
    (k__law_source_of : PySem.W.keepIn K (.ref f__law_source_of) = true)
    (a__law_next : PySem.W.nsIn K mainGlobals "_law_next" = some (some (.ref f__law_next)))
    (l__law_next : K.lookup f__law_next = some ⟨oc__law_next, od__law_next, .func (PySem.W.fnOf "_law_next" "_law_next" (defArgs s__law_next) (defBody s__law_next) (defScope s__law_next) .none kV__law_next dc__law_next pm__law_next an__law_next cd__law_next ct__law_next), sl__law_next⟩)
    (c__law_next : PySem.W.codeIn K cd__law_next "_law_next" = true)
    (k__law_next : PySem.W.keepIn K (.ref f__law_next) = true)
    (a__law_one : PySem.W.nsIn K mainGlobals "_law_one" = some (some (.ref f__law_one)))
    (l__law_one : K.lookup f__law_one = some ⟨oc__law_one, od__law_one, .func (PySem.W.fnOf "_law_one" "_law_one" (defArgs s__law_one) (defBody s__law_one) (defScope s__law_one) .none kV__law_one dc__law_one pm__law_one an__law_one cd__law_one ct__law_one), sl__law_one⟩)
    (c__law_one : PySem.W.codeIn K cd__law_one "_law_one" = true)
    (k__law_one : PySem.W.keepIn K (.ref f__law_one) = true)
    (a__law_cell_at : PySem.W.nsIn K mainGlobals "_law_cell_at" = some (some (.ref f__law_cell_at)))
    (l__law_cell_at : K.lookup f__law_cell_at = some ⟨oc__law_cell_at, od__law_cell_at, .func (PySem.W.fnOf "_law_cell_at" "_law_cell_at" (defArgs s__law_cell_at) (defBody s__law_cell_at) (defScope s__law_cell_at) .none kV__law_cell_at dc__law_cell_at pm__law_cell_at an__law_cell_at cd__law_cell_at ct__law_cell_at), sl__law_cell_at⟩)
    (c__law_cell_at : PySem.W.codeIn K cd__law_cell_at "_law_cell_at" = true)
    (k__law_cell_at : PySem.W.keepIn K (.ref f__law_cell_at) = true)
    (a__law_power : PySem.W.nsIn K mainGlobals "_law_power" = some (some (.ref f__law_power)))
    (l__law_power : K.lookup f__law_power = some ⟨oc__law_power, od__law_power, .func (PySem.W.fnOf "_law_power" "_law_power" (defArgs s__law_power) (defBody s__law_power) (defScope s__law_power) .none kV__law_power dc__law_power pm__law_power an__law_power cd__law_power ct__law_power), sl__law_power⟩)
    (c__law_power : PySem.W.codeIn K cd__law_power "_law_power" = true)
    (k__law_power : PySem.W.keepIn K (.ref f__law_power) = true)
    (a__law_wide : PySem.W.nsIn K mainGlobals "_law_wide" = some (some (.ref f__law_wide)))
    (l__law_wide : K.lookup f__law_wide = some ⟨oc__law_wide, od__law_wide, .func (PySem.W.fnOf "_law_wide" "_law_wide" (defArgs s__law_wide) (defBody s__law_wide) (defScope s__law_wide) .none kV__law_wide dc__law_wide pm__law_wide an__law_wide cd__law_wide ct__law_wide), sl__law_wide⟩)
    (c__law_wide : PySem.W.codeIn K cd__law_wide "_law_wide" = true)
    (k__law_wide : PySem.W.keepIn K (.ref f__law_wide) = true)
    (a__law_times : PySem.W.nsIn K mainGlobals "_law_times" = some (some (.ref f__law_times)))
    (l__law_times : K.lookup f__law_times = some ⟨oc__law_times, od__law_times, .func (PySem.W.fnOf "_law_times" "_law_times" (defArgs s__law_times) (defBody s__law_times) (defScope s__law_times) .none kV__law_times dc__law_times pm__law_times an__law_times cd__law_times ct__law_times), sl__law_times⟩)
    (c__law_times : PySem.W.codeIn K cd__law_times "_law_times" = true)
    (k__law_times : PySem.W.keepIn K (.ref f__law_times) = true)
    (a__law_moved : PySem.W.nsIn K mainGlobals "_law_moved" = some (some (.ref f__law_moved)))
    (l__law_moved : K.lookup f__law_moved = some ⟨oc__law_moved, od__law_moved, .func (PySem.W.fnOf "_law_moved" "_law_moved" (defArgs s__law_moved) (defBody s__law_moved) (defScope s__law_moved) .none kV__law_moved dc__law_moved pm__law_moved an__law_moved cd__law_moved ct__law_moved), sl__law_moved⟩)
    (c__law_moved : PySem.W.codeIn K cd__law_moved "_law_moved" = true)
    (k__law_moved : PySem.W.keepIn K (.ref f__law_moved) = true)
    (a__law_powers_right : PySem.W.nsIn K mainGlobals "_law_powers_right" = some (some (.ref f__law_powers_right)))
    (l__law_powers_right : K.lookup f__law_powers_right = some ⟨oc__law_powers_right, od__law_powers_right, .func (PySem.W.fnOf "_law_powers_right" "_law_powers_right" (defArgs s__law_powers_right) (defBody s__law_powers_right) (defScope s__law_powers_right) .none kV__law_powers_right dc__law_powers_right pm__law_powers_right an__law_powers_right cd__law_powers_right ct__law_powers_right), sl__law_powers_right⟩)
    (c__law_powers_right : PySem.W.codeIn K cd__law_powers_right "_law_powers_right" = true)
    (k__law_powers_right : PySem.W.keepIn K (.ref f__law_powers_right) = true)
    (a__law_square_roots : PySem.W.nsIn K mainGlobals "_law_square_roots" = some (some (.ref f__law_square_roots)))
    (l__law_square_roots : K.lookup f__law_square_roots = some ⟨oc__law_square_roots, od__law_square_roots, .func (PySem.W.fnOf "_law_square_roots" "_law_square_roots" (defArgs s__law_square_roots) (defBody s__law_square_roots) (defScope s__law_square_roots) .none kV__law_square_roots dc__law_square_roots pm__law_square_roots an__law_square_roots cd__law_square_roots ct__law_square_roots), sl__law_square_roots⟩)
    (c__law_square_roots : PySem.W.codeIn K cd__law_square_roots "_law_square_roots" = true)
    (k__law_square_roots : PySem.W.keepIn K (.ref f__law_square_roots) = true)
    (a__law_lines_right : PySem.W.nsIn K mainGlobals "_law_lines_right" = some (some (.ref f__law_lines_right)))
    (l__law_lines_right : K.lookup f__law_lines_right = some ⟨oc__law_lines_right, od__law_lines_right, .func (PySem.W.fnOf "_law_lines_right" "_law_lines_right" (defArgs s__law_lines_right) (defBody s__law_lines_right) (defScope s__law_lines_right) .none kV__law_lines_right dc__law_lines_right pm__law_lines_right an__law_lines_right cd__law_lines_right ct__law_lines_right), sl__law_lines_right⟩)
    (c__law_lines_right : PySem.W.codeIn K cd__law_lines_right "_law_lines_right" = true)
    (k__law_lines_right : PySem.W.keepIn K (.ref f__law_lines_right) = true)
    (a__law_products_right : PySem.W.nsIn K mainGlobals "_law_products_right" = some (some (.ref f__law_products_right)))
    (l__law_products_right : K.lookup f__law_products_right = some ⟨oc__law_products_right, od__law_products_right, .func (PySem.W.fnOf "_law_products_right" "_law_products_right" (defArgs s__law_products_right) (defBody s__law_products_right) (defScope s__law_products_right) .none kV__law_products_right dc__law_products_right pm__law_products_right an__law_products_right cd__law_products_right ct__law_products_right), sl__law_products_right⟩)
    (c__law_products_right : PySem.W.codeIn K cd__law_products_right "_law_products_right" = true)
    (k__law_products_right : PySem.W.keepIn K (.ref f__law_products_right) = true)
    (a__law_parts_right : PySem.W.nsIn K mainGlobals "_law_parts_right" = some (some (.ref f__law_parts_right)))
    (l__law_parts_right : K.lookup f__law_parts_right = some ⟨oc__law_parts_right, od__law_parts_right, .func (PySem.W.fnOf "_law_parts_right" "_law_parts_right" (defArgs s__law_parts_right) (defBody s__law_parts_right) (defScope s__law_parts_right) .none kV__law_parts_right dc__law_parts_right pm__law_parts_right an__law_parts_right cd__law_parts_right ct__law_parts_right), sl__law_parts_right⟩)
    (c__law_parts_right : PySem.W.codeIn K cd__law_parts_right "_law_parts_right" = true)
    (k__law_parts_right : PySem.W.keepIn K (.ref f__law_parts_right) = true)
    (a_law : PySem.W.nsIn K mainGlobals "law" = some (some (.ref f_law)))
    (l_law : K.lookup f_law = some ⟨oc_law, od_law, .func (PySem.W.fnOf "law" "law" (defArgs s_law) (defBody s_law) (defScope s_law) .none kV_law dc_law pm_law an_law cd_law ct_law), sl_law⟩)
    (c_law : PySem.W.codeIn K cd_law "law" = true)
    (k_law : PySem.W.keepIn K (.ref f_law) = true)
    (v_BEYOND_SIXTY_DIGITS : PySem.W.nsIn K mainGlobals "BEYOND_SIXTY_DIGITS" = some (some (.int 1000000000000000000000000000000000000000000000000000000000000 t_BEYOND_SIXTY_DIGITS)))
    (v_MOST_BITS : PySem.W.nsIn K mainGlobals "MOST_BITS" = some (some (.int 128 t_MOST_BITS)))
    (v_MOST_COEFFICIENTS : PySem.W.nsIn K mainGlobals "MOST_COEFFICIENTS" = some (some (.int 9 t_MOST_COEFFICIENTS)))
    (z_abs : PySem.W.nsIn K mainGlobals "abs" = some none)
    (z_all : PySem.W.nsIn K mainGlobals "all" = some none)
    (z_any : PySem.W.nsIn K mainGlobals "any" = some none)
    (z_bool : PySem.W.nsIn K mainGlobals "bool" = some none)
    (z_enumerate : PySem.W.nsIn K mainGlobals "enumerate" = some none)
    (z_int : PySem.W.nsIn K mainGlobals "int" = some none)
    (z_isinstance : PySem.W.nsIn K mainGlobals "isinstance" = some none)
    (z_len : PySem.W.nsIn K mainGlobals "len" = some none)
    (z_list : PySem.W.nsIn K mainGlobals "list" = some none)
    (z_max : PySem.W.nsIn K mainGlobals "max" = some none)
    (z_min : PySem.W.nsIn K mainGlobals "min" = some none)
    (z_range : PySem.W.nsIn K mainGlobals "range" = some none)
    (z_reversed : PySem.W.nsIn K mainGlobals "reversed" = some none)
    (z_sorted : PySem.W.nsIn K mainGlobals "sorted" = some none)
    (z_sum : PySem.W.nsIn K mainGlobals "sum" = some none)
    (dist : [P_most_twos].Nodup)
    : ∃ T : Txt K mg, TI T := by
  have F_joined := fun_mk (st := s_joined) l_joined c_joined k_joined
  have b_joined := F_joined.binds (ps := ["families", "bits"]) fun _ _ _ _ _ _ us hl => match us, hl with | [_, _], _ => rfl
  have F_family_size := fun_mk (st := s_family_size) l_family_size c_family_size k_family_size
  have b_family_size := F_family_size.binds (ps := ["family", "bits"]) fun _ _ _ _ _ _ us hl => match us, hl with | [_, _], _ => rfl
  have F_total_size := fun_mk (st := s_total_size) l_total_size c_total_size k_total_size
  have b_total_size := F_total_size.binds (ps := ["families", "bits"]) fun _ _ _ _ _ _ us hl => match us, hl with | [_, _], _ => rfl
  have F_is_integer := fun_mk (st := s_is_integer) l_is_integer c_is_integer k_is_integer
  have b_is_integer := F_is_integer.binds (ps := ["value"]) fun _ _ _ _ _ _ us hl => match us, hl with | [_], _ => rfl
  have F_is_sixty_digits := fun_mk (st := s_is_sixty_digits) l_is_sixty_digits c_is_sixty_digits k_is_sixty_digits
  have b_is_sixty_digits := F_is_sixty_digits.binds (ps := ["value"]) fun _ _ _ _ _ _ us hl => match us, hl with | [_], _ => rfl
  have F_factors_of_two := fun_mk (st := s_factors_of_two) l_factors_of_two c_factors_of_two k_factors_of_two
  have b_factors_of_two := F_factors_of_two.binds (ps := ["n"]) fun _ _ _ _ _ _ us hl => match us, hl with | [_], _ => rfl
  have F_twos_in := fun_mk (st := s_twos_in) l_twos_in c_twos_in k_twos_in
  have b_twos_in := F_twos_in.binds (ps := ["n", "most"]) fun _ _ _ _ _ _ us hl => match us, hl with | [_, _], _ => rfl
  have F_Kind___init__ := fun_mk (st := s_Kind___init__) l_Kind___init__ c_Kind___init__ k_Kind___init__
  have b_Kind___init__ := F_Kind___init__.binds (ps := ["self", "bits", "is_signed"]) fun _ _ _ _ _ _ us hl => match us, hl with | [_, _, _], _ => rfl
  have F_check_kind := fun_mk (st := s_check_kind) l_check_kind c_check_kind k_check_kind
  have b_check_kind := F_check_kind.binds (ps := ["kind"]) fun _ _ _ _ _ _ us hl => match us, hl with | [_], _ => rfl
  have F_least_passing := fun_mk (st := s_least_passing) l_least_passing c_least_passing k_least_passing
  have b_least_passing := F_least_passing.binds (ps := ["passes", "first", "last"]) fun _ _ _ _ _ _ us hl => match us, hl with | [_, _, _], _ => rfl
  have F_is_polynomial := fun_mk (st := s_is_polynomial) l_is_polynomial c_is_polynomial k_is_polynomial
  have b_is_polynomial := F_is_polynomial.binds (ps := ["value"]) fun _ _ _ _ _ _ us hl => match us, hl with | [_], _ => rfl
  have F_check_polynomial := fun_mk (st := s_check_polynomial) l_check_polynomial c_check_polynomial k_check_polynomial
  have b_check_polynomial := F_check_polynomial.binds (ps := ["kind", "polynomial"]) fun _ _ _ _ _ _ us hl => match us, hl with | [_, _], _ => rfl
  have F__value := fun_mk (st := s__value) l__value c__value k__value
  have b__value := F__value.binds (ps := ["polynomial", "x", "size"]) fun _ _ _ _ _ _ us hl => match us, hl with | [_, _, _], _ => rfl
  have F__one_behind := fun_mk (st := s__one_behind) l__one_behind c__one_behind k__one_behind
  have b__one_behind := F__one_behind.binds (ps := ["polynomial"]) fun _ _ _ _ _ _ us hl => match us, hl with | [_], _ => rfl
  have F__doubled := fun_mk (st := s__doubled) l__doubled c__doubled k__doubled
  have b__doubled := F__doubled.binds (ps := ["polynomial"]) fun _ _ _ _ _ _ us hl => match us, hl with | [_], _ => rfl
  have F__halves := fun_mk (st := s__halves) l__halves c__halves k__halves
  have b__halves := F__halves.binds (ps := ["node"]) fun _ _ _ _ _ _ us hl => match us, hl with | [_], _ => rfl
  have F_root_families := fun_mk (st := s_root_families) l_root_families c_root_families k_root_families
  have b_root_families := F_root_families.binds (ps := ["polynomial", "bits"]) fun _ _ _ _ _ _ us hl => match us, hl with | [_, _], _ => rfl
  have F_roots := fun_mk (st := s_roots) l_roots c_roots k_roots
  have b_roots := F_roots.binds (ps := ["kind", "polynomial"]) fun _ _ _ _ _ _ us hl => match us, hl with | [_, _], _ => rfl
  have F_root_total := fun_mk (st := s_root_total) l_root_total c_root_total k_root_total
  have b_root_total := F_root_total.binds (ps := ["kind", "polynomial"]) fun _ _ _ _ _ _ us hl => match us, hl with | [_, _], _ => rfl
  have F_least_twos := fun_mk (st := s_least_twos) l_least_twos c_least_twos k_least_twos
  have b_least_twos := F_least_twos.binds (ps := ["kind", "polynomial"]) fun _ _ _ _ _ _ us hl => match us, hl with | [_, _], _ => rfl
  have F_most_twos := funT_mk (st := s_most_twos) l_most_twos c_most_twos
  have b_most_twos := (F_most_twos.toFun k_most_twos).binds (ps := ["kind", "polynomial"]) fun _ _ _ _ _ _ us hl => match us, hl with | [_, _], _ => rfl
  have F__law_source_of := fun_mk (st := s__law_source_of) l__law_source_of c__law_source_of k__law_source_of
  have b__law_source_of := F__law_source_of.binds (ps := ["_law_cell"]) fun _ _ _ _ _ _ us hl => match us, hl with | [_], _ => rfl
  have F__law_next := fun_mk (st := s__law_next) l__law_next c__law_next k__law_next
  have b__law_next := F__law_next.binds (ps := ["_law_source", "_law_many"]) fun _ _ _ _ _ _ us hl => match us, hl with | [_, _], _ => rfl
  have F__law_one := fun_mk (st := s__law_one) l__law_one c__law_one k__law_one
  have b__law_one := F__law_one.binds (ps := ["_law_source", "_law_some"]) fun _ _ _ _ _ _ us hl => match us, hl with | [_, _], _ => rfl
  have F__law_cell_at := fun_mk (st := s__law_cell_at) l__law_cell_at c__law_cell_at k__law_cell_at
  have b__law_cell_at := F__law_cell_at.binds (ps := ["_law_script", "_law_index"]) fun _ _ _ _ _ _ us hl => match us, hl with | [_, _], _ => rfl
  have F__law_power := fun_mk (st := s__law_power) l__law_power c__law_power k__law_power
  have b__law_power := F__law_power.binds (ps := ["_law_n"]) fun _ _ _ _ _ _ us hl => match us, hl with | [_], _ => rfl
  have F__law_wide := fun_mk (st := s__law_wide) l__law_wide c__law_wide k__law_wide
  have b__law_wide := F__law_wide.binds (ps := ["_law_source", "_law_m"]) fun _ _ _ _ _ _ us hl => match us, hl with | [_, _], _ => rfl
  have F__law_times := fun_mk (st := s__law_times) l__law_times c__law_times k__law_times
  have b__law_times := F__law_times.binds (ps := ["_law_one_here", "_law_other"]) fun _ _ _ _ _ _ us hl => match us, hl with | [_, _], _ => rfl
  have F__law_moved := fun_mk (st := s__law_moved) l__law_moved c__law_moved k__law_moved
  have b__law_moved := F__law_moved.binds (ps := ["_law_some", "_law_shift", "_law_bits"]) fun _ _ _ _ _ _ us hl => match us, hl with | [_, _, _], _ => rfl
  have F__law_powers_right := fun_mk (st := s__law_powers_right) l__law_powers_right c__law_powers_right k__law_powers_right
  have b__law_powers_right := F__law_powers_right.binds (ps := ["_law_bits", "_law_kind"]) fun _ _ _ _ _ _ us hl => match us, hl with | [_, _], _ => rfl
  have F__law_square_roots := fun_mk (st := s__law_square_roots) l__law_square_roots c__law_square_roots k__law_square_roots
  have b__law_square_roots := F__law_square_roots.binds (ps := ["_law_bits", "_law_twos_here"]) fun _ _ _ _ _ _ us hl => match us, hl with | [_, _], _ => rfl
  have F__law_lines_right := fun_mk (st := s__law_lines_right) l__law_lines_right c__law_lines_right k__law_lines_right
  have b__law_lines_right := F__law_lines_right.binds (ps := ["_law_source", "_law_bits", "_law_kind"]) fun _ _ _ _ _ _ us hl => match us, hl with | [_, _, _], _ => rfl
  have F__law_products_right := fun_mk (st := s__law_products_right) l__law_products_right c__law_products_right k__law_products_right
  have b__law_products_right := F__law_products_right.binds (ps := ["_law_source", "_law_bits", "_law_kind"]) fun _ _ _ _ _ _ us hl => match us, hl with | [_, _, _], _ => rfl
  have F__law_parts_right := fun_mk (st := s__law_parts_right) l__law_parts_right c__law_parts_right k__law_parts_right
  have b__law_parts_right := F__law_parts_right.binds (ps := ["_law_source", "_law_bits", "_law_kind"]) fun _ _ _ _ _ _ us hl => match us, hl with | [_, _, _], _ => rfl
  have F_law := fun_mk (st := s_law) l_law c_law k_law
  have b_law := F_law.binds (ps := ["_law_script"]) fun _ _ _ _ _ _ us hl => match us, hl with | [_], _ => rfl
  exact ⟨{
    C_Kind := C_Kind
    cl_Kind := ⟨pg_Kind, hd_Kind, po_Kind, sa_Kind⟩
    g_Kind := PySem.W.mg_of X G aC_Kind
    na_Kind_bits := na_Kind_bits
    na_Kind_is_signed := na_Kind_is_signed
    ia_Kind := ia_Kind
    ib_Kind := ib_Kind
    ic_Kind := ic_Kind
    id_Kind := id_Kind
    mk_Kind := ⟨mkk_Kind, a_Kind___init__, i_Kind___init__, kc_Kind⟩
    f_joined := f_joined
    fd_joined := _
    F_joined := F_joined
    b_joined := b_joined
    g_joined := PySem.W.mg_of X G a_joined
    k_joined := k_joined
    f_family_size := f_family_size
    fd_family_size := _
    F_family_size := F_family_size
    b_family_size := b_family_size
    g_family_size := PySem.W.mg_of X G a_family_size
    k_family_size := k_family_size
    f_total_size := f_total_size
    fd_total_size := _
    F_total_size := F_total_size
    b_total_size := b_total_size
    g_total_size := PySem.W.mg_of X G a_total_size
    k_total_size := k_total_size
    f_is_integer := f_is_integer
    fd_is_integer := _
    F_is_integer := F_is_integer
    b_is_integer := b_is_integer
    g_is_integer := PySem.W.mg_of X G a_is_integer
    k_is_integer := k_is_integer
    f_is_sixty_digits := f_is_sixty_digits
    fd_is_sixty_digits := _
    F_is_sixty_digits := F_is_sixty_digits
    b_is_sixty_digits := b_is_sixty_digits
    g_is_sixty_digits := PySem.W.mg_of X G a_is_sixty_digits
    k_is_sixty_digits := k_is_sixty_digits
    f_factors_of_two := f_factors_of_two
    fd_factors_of_two := _
    F_factors_of_two := F_factors_of_two
    b_factors_of_two := b_factors_of_two
    g_factors_of_two := PySem.W.mg_of X G a_factors_of_two
    k_factors_of_two := k_factors_of_two
    f_twos_in := f_twos_in
    fd_twos_in := _
    F_twos_in := F_twos_in
    b_twos_in := b_twos_in
    g_twos_in := PySem.W.mg_of X G a_twos_in
    k_twos_in := k_twos_in
    f_Kind___init__ := f_Kind___init__
    fd_Kind___init__ := _
    F_Kind___init__ := F_Kind___init__
    b_Kind___init__ := b_Kind___init__
    f_check_kind := f_check_kind
    fd_check_kind := _
    F_check_kind := F_check_kind
    b_check_kind := b_check_kind
    g_check_kind := PySem.W.mg_of X G a_check_kind
    k_check_kind := k_check_kind
    f_least_passing := f_least_passing
    fd_least_passing := _
    F_least_passing := F_least_passing
    b_least_passing := b_least_passing
    g_least_passing := PySem.W.mg_of X G a_least_passing
    k_least_passing := k_least_passing
    f_is_polynomial := f_is_polynomial
    fd_is_polynomial := _
    F_is_polynomial := F_is_polynomial
    b_is_polynomial := b_is_polynomial
    g_is_polynomial := PySem.W.mg_of X G a_is_polynomial
    k_is_polynomial := k_is_polynomial
    f_check_polynomial := f_check_polynomial
    fd_check_polynomial := _
    F_check_polynomial := F_check_polynomial
    b_check_polynomial := b_check_polynomial
    g_check_polynomial := PySem.W.mg_of X G a_check_polynomial
    k_check_polynomial := k_check_polynomial
    f__value := f__value
    fd__value := _
    F__value := F__value
    b__value := b__value
    g__value := PySem.W.mg_of X G a__value
    k__value := k__value
    f__one_behind := f__one_behind
    fd__one_behind := _
    F__one_behind := F__one_behind
    b__one_behind := b__one_behind
    g__one_behind := PySem.W.mg_of X G a__one_behind
    k__one_behind := k__one_behind
    f__doubled := f__doubled
    fd__doubled := _
    F__doubled := F__doubled
    b__doubled := b__doubled
    g__doubled := PySem.W.mg_of X G a__doubled
    k__doubled := k__doubled
    f__halves := f__halves
    fd__halves := _
    F__halves := F__halves
    b__halves := b__halves
    g__halves := PySem.W.mg_of X G a__halves
    k__halves := k__halves
    f_root_families := f_root_families
    fd_root_families := _
    F_root_families := F_root_families
    b_root_families := b_root_families
    g_root_families := PySem.W.mg_of X G a_root_families
    k_root_families := k_root_families
    f_roots := f_roots
    fd_roots := _
    F_roots := F_roots
    b_roots := b_roots
    g_roots := PySem.W.mg_of X G a_roots
    k_roots := k_roots
    f_root_total := f_root_total
    fd_root_total := _
    F_root_total := F_root_total
    b_root_total := b_root_total
    g_root_total := PySem.W.mg_of X G a_root_total
    k_root_total := k_root_total
    f_least_twos := f_least_twos
    fd_least_twos := _
    F_least_twos := F_least_twos
    b_least_twos := b_least_twos
    g_least_twos := PySem.W.mg_of X G a_least_twos
    k_least_twos := k_least_twos
    c_most_twos := cd_most_twos
    P_most_twos := P_most_twos
    mT_most_twos := (.head _)
    uT_most_twos := tab_uniq (l := [(P_most_twos, ("most_twos" : Str) ++ ".<locals>." ++ "<lambda>")]) dist (.head _)
    f_most_twos := f_most_twos
    fd_most_twos := _
    F_most_twos := F_most_twos
    b_most_twos := b_most_twos
    g_most_twos := PySem.W.mg_of X G a_most_twos
    k_most_twos := k_most_twos
    f__law_source_of := f__law_source_of
    fd__law_source_of := _
    F__law_source_of := F__law_source_of
    b__law_source_of := b__law_source_of
    g__law_source_of := PySem.W.mg_of X G a__law_source_of
    k__law_source_of := k__law_source_of
    f__law_next := f__law_next
    fd__law_next := _
    F__law_next := F__law_next
    b__law_next := b__law_next
    g__law_next := PySem.W.mg_of X G a__law_next
    k__law_next := k__law_next
    f__law_one := f__law_one
    fd__law_one := _
    F__law_one := F__law_one
    b__law_one := b__law_one
    g__law_one := PySem.W.mg_of X G a__law_one
    k__law_one := k__law_one
    f__law_cell_at := f__law_cell_at
    fd__law_cell_at := _
    F__law_cell_at := F__law_cell_at
    b__law_cell_at := b__law_cell_at
    g__law_cell_at := PySem.W.mg_of X G a__law_cell_at
    k__law_cell_at := k__law_cell_at
    f__law_power := f__law_power
    fd__law_power := _
    F__law_power := F__law_power
    b__law_power := b__law_power
    g__law_power := PySem.W.mg_of X G a__law_power
    k__law_power := k__law_power
    f__law_wide := f__law_wide
    fd__law_wide := _
    F__law_wide := F__law_wide
    b__law_wide := b__law_wide
    g__law_wide := PySem.W.mg_of X G a__law_wide
    k__law_wide := k__law_wide
    f__law_times := f__law_times
    fd__law_times := _
    F__law_times := F__law_times
    b__law_times := b__law_times
    g__law_times := PySem.W.mg_of X G a__law_times
    k__law_times := k__law_times
    f__law_moved := f__law_moved
    fd__law_moved := _
    F__law_moved := F__law_moved
    b__law_moved := b__law_moved
    g__law_moved := PySem.W.mg_of X G a__law_moved
    k__law_moved := k__law_moved
    f__law_powers_right := f__law_powers_right
    fd__law_powers_right := _
    F__law_powers_right := F__law_powers_right
    b__law_powers_right := b__law_powers_right
    g__law_powers_right := PySem.W.mg_of X G a__law_powers_right
    k__law_powers_right := k__law_powers_right
    f__law_square_roots := f__law_square_roots
    fd__law_square_roots := _
    F__law_square_roots := F__law_square_roots
    b__law_square_roots := b__law_square_roots
    g__law_square_roots := PySem.W.mg_of X G a__law_square_roots
    k__law_square_roots := k__law_square_roots
    f__law_lines_right := f__law_lines_right
    fd__law_lines_right := _
    F__law_lines_right := F__law_lines_right
    b__law_lines_right := b__law_lines_right
    g__law_lines_right := PySem.W.mg_of X G a__law_lines_right
    k__law_lines_right := k__law_lines_right
    f__law_products_right := f__law_products_right
    fd__law_products_right := _
    F__law_products_right := F__law_products_right
    b__law_products_right := b__law_products_right
    g__law_products_right := PySem.W.mg_of X G a__law_products_right
    k__law_products_right := k__law_products_right
    f__law_parts_right := f__law_parts_right
    fd__law_parts_right := _
    F__law_parts_right := F__law_parts_right
    b__law_parts_right := b__law_parts_right
    g__law_parts_right := PySem.W.mg_of X G a__law_parts_right
    k__law_parts_right := k__law_parts_right
    f_law := f_law
    fd_law := _
    F_law := F_law
    b_law := b_law
    g_law := PySem.W.mg_of X G a_law
    k_law := k_law
    t_BEYOND_SIXTY_DIGITS := t_BEYOND_SIXTY_DIGITS
    g_BEYOND_SIXTY_DIGITS := PySem.W.mg_of X G v_BEYOND_SIXTY_DIGITS
    t_MOST_BITS := t_MOST_BITS
    g_MOST_BITS := PySem.W.mg_of X G v_MOST_BITS
    t_MOST_COEFFICIENTS := t_MOST_COEFFICIENTS
    g_MOST_COEFFICIENTS := PySem.W.mg_of X G v_MOST_COEFFICIENTS
    n_abs := PySem.W.mg_none_of X G z_abs
    n_all := PySem.W.mg_none_of X G z_all
    n_any := PySem.W.mg_none_of X G z_any
    n_bool := PySem.W.mg_none_of X G z_bool
    n_enumerate := PySem.W.mg_none_of X G z_enumerate
    n_int := PySem.W.mg_none_of X G z_int
    n_isinstance := PySem.W.mg_none_of X G z_isinstance
    n_len := PySem.W.mg_none_of X G z_len
    n_list := PySem.W.mg_none_of X G z_list
    n_max := PySem.W.mg_none_of X G z_max
    n_min := PySem.W.mg_none_of X G z_min
    n_range := PySem.W.mg_none_of X G z_range
    n_reversed := PySem.W.mg_none_of X G z_reversed
    n_sorted := PySem.W.mg_none_of X G z_sorted
    n_sum := PySem.W.mg_none_of X G z_sum
    bl_law := fun s v => .of_eq rfl
    tabs := [(P_most_twos, ("most_twos" : Str) ++ ".<locals>." ++ "<lambda>")] },
    { eq := rfl, ti_most_twos := tabIn_of a_most_twos l_most_twos rfl lc_most_twos hv_most_twos }⟩
theorem walk {l : PySem.W.OpenLaw} {q : Program} {loose : List Str} {XP : (Str → Option Value) → Heap → Prop} {YP : World → Heap → Prop} {d : DefRec} {K : Params → PySem.W.Frag} (hn : l.most = some 63) (hdf : d.params.defaults = []) (hnm : d.name = "law")
    (hY : ∀ (w : World) (h : Heap), YP w h → (K w.params).In h)
    (hr_most_twos : ((PyProof.Rows.recsOf q).find? (fun e => e.name == ("most_twos" : Str))).isSome = true)
    (NT : ∀ w : World, PySem.W.noTabs (K w.params) = true)
    (F : ∀ (w : World) (mg : Str → Option Value) (h : Heap), (K w.params).In h → h.Ns mainGlobals mg → ∃ T : Txt (K w.params) mg, TI T) :
    PySem.W.WalkO q loose XP YP l.row.toRowW d [] (fun f vs => PySem.call f vs) :=
  Fw.walk_tabs (n := 63) (k := 18) (x := "_law_script") (CX := fun _ => CX0) hn (by decide) hdf ⟨rfl, by decide, by decide⟩ hY
    (fun w mg fa h tb KX G hm => by
      obtain ⟨T, I⟩ := F w mg h KX G
      have e : T.f_law = fa := by
        have q := T.g_law.symm.trans (hnm ▸ hm)
        cases q; rfl
      subst e
      have q_most_twos := tb _ _ _ hr_most_twos I.ti_most_twos
      refine ⟨T.fd_law, [(T.c_most_twos, T.P_most_twos)], sp_law (K w.params) T.C_Kind T.tabs, ?_, ?_, ?_, T.bl_law, fun H a ns hl _ hH hS => ⟨a, ns, rfl, hS, hl, ?_, fun _ => rfl⟩, fun base _ _ TB => ok_law T ⟨TB _ (.head _)⟩⟩
      · intro p hp
        rcases List.mem_cons.mp hp with rfl | hp
        · exact q_most_twos.2
        cases hp
      · intro p hp
        rcases List.mem_cons.mp hp with rfl | hp
        · exact no_tab KX q_most_twos.2 (NT w)
        cases hp
      · intro p hp
        rcases List.mem_cons.mp hp with rfl | hp
        · exact q_most_twos.1
        cases hp
      · rw [I.eq]
        intro p hp
        rcases List.mem_cons.mp hp with rfl | hp
        · exact LamX.TabS.nil (hH (T.c_most_twos, T.P_most_twos) (.head _))
        cases hp)
    fun _ _ _ _ _ z => z
end Fw
open PySem PySem.W PyProof.Rows
set_option maxRecDepth 100000 in
set_option maxHeartbeats 0 in
theorem PySem.Challenge.cw_farwrap_k22_whole_great_roots_holds : PySem.Challenge.rw_farwrap_k22_whole_great_roots.Holds := by
  w_on; o_law; k_head; (case hw => w_witness2)
  k_fill
  refine Fw.walk (l := PySem.Challenge.rw_farwrap_k22_whole_great_roots) rfl rfl rfl (fun w h Y => PySem.W.km_in_of Y) (by decide +kernel) (fun _ => rfl) ?F
  case F =>
    intro w mg h KX G
    refine' Fw.mk_txt KX G ?aC_Kind ?a_Kind___init__ ?i_Kind___init__ ?pg_Kind ?hd_Kind ?po_Kind ?sa_Kind ?mkk_Kind ?kc_Kind ?na_Kind_bits ?na_Kind_is_signed ?ia_Kind ?ib_Kind ?ic_Kind ?id_Kind ?a_joined ?l_joined ?c_joined ?k_joined ?a_family_size ?l_family_size ?c_family_size ?k_family_size ?a_total_size ?l_total_size ?c_total_size ?k_total_size ?a_is_integer ?l_is_integer ?c_is_integer ?k_is_integer ?a_is_sixty_digits ?l_is_sixty_digits ?c_is_sixty_digits ?k_is_sixty_digits ?a_factors_of_two ?l_factors_of_two ?c_factors_of_two ?k_factors_of_two ?a_twos_in ?l_twos_in ?c_twos_in ?k_twos_in ?l_Kind___init__ ?c_Kind___init__ ?k_Kind___init__ ?a_check_kind ?l_check_kind ?c_check_kind ?k_check_kind ?a_least_passing ?l_least_passing ?c_least_passing ?k_least_passing ?a_is_polynomial ?l_is_polynomial ?c_is_polynomial ?k_is_polynomial ?a_check_polynomial ?l_check_polynomial ?c_check_polynomial ?k_check_polynomial ?a__value ?l__value ?c__value ?k__value ?a__one_behind ?l__one_behind ?c__one_behind ?k__one_behind ?a__doubled ?l__doubled ?c__doubled ?k__doubled ?a__halves ?l__halves ?c__halves ?k__halves ?a_root_families ?l_root_families ?c_root_families ?k_root_families ?a_roots ?l_roots ?c_roots ?k_roots ?a_root_total ?l_root_total ?c_root_total ?k_root_total ?a_least_twos ?l_least_twos ?c_least_twos ?k_least_twos ?a_most_twos ?l_most_twos ?c_most_twos ?lc_most_twos ?hv_most_twos ?k_most_twos ?a__law_source_of ?l__law_source_of ?c__law_source_of ?k__law_source_of ?a__law_next ?l__law_next ?c__law_next ?k__law_next ?a__law_one ?l__law_one ?c__law_one ?k__law_one ?a__law_cell_at ?l__law_cell_at ?c__law_cell_at ?k__law_cell_at ?a__law_power ?l__law_power ?c__law_power ?k__law_power ?a__law_wide ?l__law_wide ?c__law_wide ?k__law_wide ?a__law_times ?l__law_times ?c__law_times ?k__law_times ?a__law_moved ?l__law_moved ?c__law_moved ?k__law_moved ?a__law_powers_right ?l__law_powers_right ?c__law_powers_right ?k__law_powers_right ?a__law_square_roots ?l__law_square_roots ?c__law_square_roots ?k__law_square_roots ?a__law_lines_right ?l__law_lines_right ?c__law_lines_right ?k__law_lines_right ?a__law_products_right ?l__law_products_right ?c__law_products_right ?k__law_products_right ?a__law_parts_right ?l__law_parts_right ?c__law_parts_right ?k__law_parts_right ?a_law ?l_law ?c_law ?k_law ?v_BEYOND_SIXTY_DIGITS ?v_MOST_BITS ?v_MOST_COEFFICIENTS ?z_abs ?z_all ?z_any ?z_bool ?z_enumerate ?z_int ?z_isinstance ?z_len ?z_list ?z_max ?z_min ?z_range ?z_reversed ?z_sorted ?z_sum ?dist
    (case aC_Kind => k_is)
    (case a_Kind___init__ => k_is)
    (case i_Kind___init__ => k_is)
    (case pg_Kind => k_is)
    (case hd_Kind => k_is)
    (case po_Kind => k_is)
    (case sa_Kind => k_is)
    (case mkk_Kind => k_is)
    (case kc_Kind => k_is)
    (case na_Kind_bits => k_is)
    (case na_Kind_is_signed => k_is)
    (case ia_Kind => k_is)
    (case ib_Kind => k_is)
    (case ic_Kind => k_is)
    (case id_Kind => k_is)
    (case a_joined => k_is)
    (case l_joined => k_is)
    (case c_joined => k_is)
    (case k_joined => k_is)
    (case a_family_size => k_is)
    (case l_family_size => k_is)
    (case c_family_size => k_is)
    (case k_family_size => k_is)
    (case a_total_size => k_is)
    (case l_total_size => k_is)
    (case c_total_size => k_is)
    (case k_total_size => k_is)
    (case a_is_integer => k_is)
    (case l_is_integer => k_is)
    (case c_is_integer => k_is)
    (case k_is_integer => k_is)
    (case a_is_sixty_digits => k_is)
    (case l_is_sixty_digits => k_is)
    (case c_is_sixty_digits => k_is)
    (case k_is_sixty_digits => k_is)
    (case a_factors_of_two => k_is)
    (case l_factors_of_two => k_is)
    (case c_factors_of_two => k_is)
    (case k_factors_of_two => k_is)
    (case a_twos_in => k_is)
    (case l_twos_in => k_is)
    (case c_twos_in => k_is)
    (case k_twos_in => k_is)
    (case l_Kind___init__ => k_is)
    (case c_Kind___init__ => k_is)
    (case k_Kind___init__ => k_is)
    (case a_check_kind => k_is)
    (case l_check_kind => k_is)
    (case c_check_kind => k_is)
    (case k_check_kind => k_is)
    (case a_least_passing => k_is)
    (case l_least_passing => k_is)
    (case c_least_passing => k_is)
    (case k_least_passing => k_is)
    (case a_is_polynomial => k_is)
    (case l_is_polynomial => k_is)
    (case c_is_polynomial => k_is)
    (case k_is_polynomial => k_is)
    (case a_check_polynomial => k_is)
    (case l_check_polynomial => k_is)
    (case c_check_polynomial => k_is)
    (case k_check_polynomial => k_is)
    (case a__value => k_is)
    (case l__value => k_is)
    (case c__value => k_is)
    (case k__value => k_is)
    (case a__one_behind => k_is)
    (case l__one_behind => k_is)
    (case c__one_behind => k_is)
    (case k__one_behind => k_is)
    (case a__doubled => k_is)
    (case l__doubled => k_is)
    (case c__doubled => k_is)
    (case k__doubled => k_is)
    (case a__halves => k_is)
    (case l__halves => k_is)
    (case c__halves => k_is)
    (case k__halves => k_is)
    (case a_root_families => k_is)
    (case l_root_families => k_is)
    (case c_root_families => k_is)
    (case k_root_families => k_is)
    (case a_roots => k_is)
    (case l_roots => k_is)
    (case c_roots => k_is)
    (case k_roots => k_is)
    (case a_root_total => k_is)
    (case l_root_total => k_is)
    (case c_root_total => k_is)
    (case k_root_total => k_is)
    (case a_least_twos => k_is)
    (case l_least_twos => k_is)
    (case c_least_twos => k_is)
    (case k_least_twos => k_is)
    (case a_most_twos => k_is)
    (case l_most_twos => k_is)
    (case c_most_twos => k_is)
    (case lc_most_twos => k_is)
    (case hv_most_twos => exact rfl)
    (case k_most_twos => k_is)
    (case a__law_source_of => k_is)
    (case l__law_source_of => k_is)
    (case c__law_source_of => k_is)
    (case k__law_source_of => k_is)
    (case a__law_next => k_is)
    (case l__law_next => k_is)
    (case c__law_next => k_is)
    (case k__law_next => k_is)
    (case a__law_one => k_is)
    (case l__law_one => k_is)
    (case c__law_one => k_is)
    (case k__law_one => k_is)
    (case a__law_cell_at => k_is)
    (case l__law_cell_at => k_is)
    (case c__law_cell_at => k_is)
    (case k__law_cell_at => k_is)
    (case a__law_power => k_is)
    (case l__law_power => k_is)
    (case c__law_power => k_is)
    (case k__law_power => k_is)
    (case a__law_wide => k_is)
    (case l__law_wide => k_is)
    (case c__law_wide => k_is)
    (case k__law_wide => k_is)
    (case a__law_times => k_is)
    (case l__law_times => k_is)
    (case c__law_times => k_is)
    (case k__law_times => k_is)
    (case a__law_moved => k_is)
    (case l__law_moved => k_is)
    (case c__law_moved => k_is)
    (case k__law_moved => k_is)
    (case a__law_powers_right => k_is)
    (case l__law_powers_right => k_is)
    (case c__law_powers_right => k_is)
    (case k__law_powers_right => k_is)
    (case a__law_square_roots => k_is)
    (case l__law_square_roots => k_is)
    (case c__law_square_roots => k_is)
    (case k__law_square_roots => k_is)
    (case a__law_lines_right => k_is)
    (case l__law_lines_right => k_is)
    (case c__law_lines_right => k_is)
    (case k__law_lines_right => k_is)
    (case a__law_products_right => k_is)
    (case l__law_products_right => k_is)
    (case c__law_products_right => k_is)
    (case k__law_products_right => k_is)
    (case a__law_parts_right => k_is)
    (case l__law_parts_right => k_is)
    (case c__law_parts_right => k_is)
    (case k__law_parts_right => k_is)
    (case a_law => k_is)
    (case l_law => k_is)
    (case c_law => k_is)
    (case k_law => k_is)
    (case v_BEYOND_SIXTY_DIGITS => k_is)
    (case v_MOST_BITS => k_is)
    (case v_MOST_COEFFICIENTS => k_is)
    (case z_abs => k_is)
    (case z_all => k_is)
    (case z_any => k_is)
    (case z_bool => k_is)
    (case z_enumerate => k_is)
    (case z_int => k_is)
    (case z_isinstance => k_is)
    (case z_len => k_is)
    (case z_list => k_is)
    (case z_max => k_is)
    (case z_min => k_is)
    (case z_range => k_is)
    (case z_reversed => k_is)
    (case z_sorted => k_is)
    (case z_sum => k_is)
    (case dist => exact (by decide))
