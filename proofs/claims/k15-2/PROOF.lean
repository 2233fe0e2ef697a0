import PyProof.Rows.All
import Wide.All
import OpenK.AllK
import Wide.FinOn
import HandS.ForMost
import HandS.IsInst
import HandS.WideBits
import HandS.Style
import HandS.SortInts
import HandS.EndTab
import HandS.NoneIn
import PyProof.LongRange
import PySem.Challenge.RW_farwrap_k15_surprises_of_short_ranges
set_option Elab.async false
set_option linter.all false
set_option maxRecDepth 100000
set_option maxHeartbeats 4000000
namespace Fw
open PySem L2
def rIntC : List V → Hp → VK → Prop := fun xs H Q => (∃ i, xs = [.int i] ∧ Q (.int i) H) ∨ ∃ k, xs = [.bl k] ∧ Q (.int (if k then 1 else 0)) H
def ab (x : Int) : Int := if x < 0 then -x else x
def rIsNn : R2 := fun x y H Q => y = .non ∧ Q (.bl (decide (x = .non))) H
def rAbsC : List V → Hp → VK → Prop := fun xs H Q => ∃ i, xs = [.int i] ∧ Q (.int (if i < 0 then -i else i)) H
def rLenS (K : PySem.W.Frag) : List V → Hp → VK → Prop := fun xs H Q => ∃ p ys, xs = [.ref p] ∧ (SqL K H p ys ∨ SqT K H p ys) ∧ Q (.int ys.length) H
section
variable {X : Cx} {CX : CXT} {k : Nat} {f : Addr} {fd : FuncData} {ps ks : List Str} {sp : Sp} {E : XK} {x : Str} {p pos : Pos} {kws : List Keyword} {tk : TA} {g : List Value → List Value → List Value} {gV : List V → List V → List V}
/-- f(k = v, ..), no positional argument -/
theorem pe_callK0 (F : FnOk X.prog X.w X.K X.mg X.base CX k f fd ps sp) (hr : Room k X.A) (hg : Gl X x) (hm : X.mg x = some (.ref f)) (hk : PySem.W.keepIn X.K (.ref f) = true) (hb : KBinds X.K fd ps ks g gV) (hx : Passes CX X E)
    (hkw : PK X kws tk) (hall : (backToKw pos (keywordEach kws X.env)).all (·.1.isSome) = true := by rfl) (hks : (backToKw pos (keywordEach kws X.env)).filterMap (·.1) = ks := by rfl)
    (hdb : (x == ("__debug__" : Str)) = false := by decide)
    (hpl : ((backTo pos (starEach [] X.env)).any (·.1) || (backToKw pos (keywordEach kws X.env)).any (·.1.isNone)) = false := by rfl) :
    PE X (.Call (.Name x p) [] kws pos) (tCallK sp gV E tNil tk) := by
  refine ⟨fun pins s σ H Q I h => ?_⟩
  refine wpAny_Call_Name_kw (ld_glob I hg hm ?_ hdb)
  refine PySem.W.callWith_KW0 (h₀ := X.base) I.ok.mod.kin hk hall ?_ hpl
  have q : tk σ H fun zs H2 => sp (gV [] zs) H2 Q E := h
  refine thn (hkw.run pos pins s σ H _ I q) fun ws s2 ⟨zs, H2, I2, rz, q2⟩ => ⟨I2.kIn, ?_⟩
  rw [hks]
  exact run_fnk F hr hb hx I2 .nil rz q2
end

section
variable {K : PySem.W.Frag} {C : Addr} {σ : L2.St} {H : Hp} {Q : VK} {D : Ends} {ta tb tc te : TE} {tt tu : TT} {r : R2}
theorem w_c {v : V} (q : Q v H) : tC v σ H Q := q
theorem w_var {i : Nat} {v : V} (h : σ[i]? = some (some v)) (q : Q v H) : tVar i σ H Q := ⟨v, h, q⟩
theorem w_v0 {v : V} {r : L2.St} (q : Q v H) : tVar 0 (some v :: r) H Q := ⟨v, rfl, q⟩
theorem w_n0 {y : Option V} {v : V} {r : L2.St} {Q : L2.St → Hp → Prop} (q : Q (some v :: r) H) : gName 0 v (y :: r) H Q := q
theorem w_v1 {x0 : Option V} {v : V} {r : L2.St} (q : Q v H) : tVar 1 (x0 :: some v :: r) H Q := ⟨v, rfl, q⟩
theorem w_n1 {x0 : Option V} {y : Option V} {v : V} {r : L2.St} {Q : L2.St → Hp → Prop} (q : Q (x0 :: some v :: r) H) : gName 1 v (x0 :: y :: r) H Q := q
theorem w_v2 {x0 x1 : Option V} {v : V} {r : L2.St} (q : Q v H) : tVar 2 (x0 :: x1 :: some v :: r) H Q := ⟨v, rfl, q⟩
theorem w_n2 {x0 x1 : Option V} {y : Option V} {v : V} {r : L2.St} {Q : L2.St → Hp → Prop} (q : Q (x0 :: x1 :: some v :: r) H) : gName 2 v (x0 :: x1 :: y :: r) H Q := q
theorem w_v3 {x0 x1 x2 : Option V} {v : V} {r : L2.St} (q : Q v H) : tVar 3 (x0 :: x1 :: x2 :: some v :: r) H Q := ⟨v, rfl, q⟩
theorem w_n3 {x0 x1 x2 : Option V} {y : Option V} {v : V} {r : L2.St} {Q : L2.St → Hp → Prop} (q : Q (x0 :: x1 :: x2 :: some v :: r) H) : gName 3 v (x0 :: x1 :: x2 :: y :: r) H Q := q
theorem w_v4 {x0 x1 x2 x3 : Option V} {v : V} {r : L2.St} (q : Q v H) : tVar 4 (x0 :: x1 :: x2 :: x3 :: some v :: r) H Q := ⟨v, rfl, q⟩
theorem w_n4 {x0 x1 x2 x3 : Option V} {y : Option V} {v : V} {r : L2.St} {Q : L2.St → Hp → Prop} (q : Q (x0 :: x1 :: x2 :: x3 :: some v :: r) H) : gName 4 v (x0 :: x1 :: x2 :: x3 :: y :: r) H Q := q
theorem w_v5 {x0 x1 x2 x3 x4 : Option V} {v : V} {r : L2.St} (q : Q v H) : tVar 5 (x0 :: x1 :: x2 :: x3 :: x4 :: some v :: r) H Q := ⟨v, rfl, q⟩
theorem w_n5 {x0 x1 x2 x3 x4 : Option V} {y : Option V} {v : V} {r : L2.St} {Q : L2.St → Hp → Prop} (q : Q (x0 :: x1 :: x2 :: x3 :: x4 :: some v :: r) H) : gName 5 v (x0 :: x1 :: x2 :: x3 :: x4 :: y :: r) H Q := q
theorem w_v6 {x0 x1 x2 x3 x4 x5 : Option V} {v : V} {r : L2.St} (q : Q v H) : tVar 6 (x0 :: x1 :: x2 :: x3 :: x4 :: x5 :: some v :: r) H Q := ⟨v, rfl, q⟩
theorem w_n6 {x0 x1 x2 x3 x4 x5 : Option V} {y : Option V} {v : V} {r : L2.St} {Q : L2.St → Hp → Prop} (q : Q (x0 :: x1 :: x2 :: x3 :: x4 :: x5 :: some v :: r) H) : gName 6 v (x0 :: x1 :: x2 :: x3 :: x4 :: x5 :: y :: r) H Q := q
theorem w_v7 {x0 x1 x2 x3 x4 x5 x6 : Option V} {v : V} {r : L2.St} (q : Q v H) : tVar 7 (x0 :: x1 :: x2 :: x3 :: x4 :: x5 :: x6 :: some v :: r) H Q := ⟨v, rfl, q⟩
theorem w_n7 {x0 x1 x2 x3 x4 x5 x6 : Option V} {y : Option V} {v : V} {r : L2.St} {Q : L2.St → Hp → Prop} (q : Q (x0 :: x1 :: x2 :: x3 :: x4 :: x5 :: x6 :: some v :: r) H) : gName 7 v (x0 :: x1 :: x2 :: x3 :: x4 :: x5 :: x6 :: y :: r) H Q := q
theorem w_v8 {x0 x1 x2 x3 x4 x5 x6 x7 : Option V} {v : V} {r : L2.St} (q : Q v H) : tVar 8 (x0 :: x1 :: x2 :: x3 :: x4 :: x5 :: x6 :: x7 :: some v :: r) H Q := ⟨v, rfl, q⟩
theorem w_n8 {x0 x1 x2 x3 x4 x5 x6 x7 : Option V} {y : Option V} {v : V} {r : L2.St} {Q : L2.St → Hp → Prop} (q : Q (x0 :: x1 :: x2 :: x3 :: x4 :: x5 :: x6 :: x7 :: some v :: r) H) : gName 8 v (x0 :: x1 :: x2 :: x3 :: x4 :: x5 :: x6 :: x7 :: y :: r) H Q := q
theorem w_v9 {x0 x1 x2 x3 x4 x5 x6 x7 x8 : Option V} {v : V} {r : L2.St} (q : Q v H) : tVar 9 (x0 :: x1 :: x2 :: x3 :: x4 :: x5 :: x6 :: x7 :: x8 :: some v :: r) H Q := ⟨v, rfl, q⟩
theorem w_n9 {x0 x1 x2 x3 x4 x5 x6 x7 x8 : Option V} {y : Option V} {v : V} {r : L2.St} {Q : L2.St → Hp → Prop} (q : Q (x0 :: x1 :: x2 :: x3 :: x4 :: x5 :: x6 :: x7 :: x8 :: some v :: r) H) : gName 9 v (x0 :: x1 :: x2 :: x3 :: x4 :: x5 :: x6 :: x7 :: x8 :: y :: r) H Q := q
theorem w_v10 {x0 x1 x2 x3 x4 x5 x6 x7 x8 x9 : Option V} {v : V} {r : L2.St} (q : Q v H) : tVar 10 (x0 :: x1 :: x2 :: x3 :: x4 :: x5 :: x6 :: x7 :: x8 :: x9 :: some v :: r) H Q := ⟨v, rfl, q⟩
theorem w_n10 {x0 x1 x2 x3 x4 x5 x6 x7 x8 x9 : Option V} {y : Option V} {v : V} {r : L2.St} {Q : L2.St → Hp → Prop} (q : Q (x0 :: x1 :: x2 :: x3 :: x4 :: x5 :: x6 :: x7 :: x8 :: x9 :: some v :: r) H) : gName 10 v (x0 :: x1 :: x2 :: x3 :: x4 :: x5 :: x6 :: x7 :: x8 :: x9 :: y :: r) H Q := q
theorem w_v11 {x0 x1 x2 x3 x4 x5 x6 x7 x8 x9 x10 : Option V} {v : V} {r : L2.St} (q : Q v H) : tVar 11 (x0 :: x1 :: x2 :: x3 :: x4 :: x5 :: x6 :: x7 :: x8 :: x9 :: x10 :: some v :: r) H Q := ⟨v, rfl, q⟩
theorem w_n11 {x0 x1 x2 x3 x4 x5 x6 x7 x8 x9 x10 : Option V} {y : Option V} {v : V} {r : L2.St} {Q : L2.St → Hp → Prop} (q : Q (x0 :: x1 :: x2 :: x3 :: x4 :: x5 :: x6 :: x7 :: x8 :: x9 :: x10 :: some v :: r) H) : gName 11 v (x0 :: x1 :: x2 :: x3 :: x4 :: x5 :: x6 :: x7 :: x8 :: x9 :: x10 :: y :: r) H Q := q
theorem w_v12 {x0 x1 x2 x3 x4 x5 x6 x7 x8 x9 x10 x11 : Option V} {v : V} {r : L2.St} (q : Q v H) : tVar 12 (x0 :: x1 :: x2 :: x3 :: x4 :: x5 :: x6 :: x7 :: x8 :: x9 :: x10 :: x11 :: some v :: r) H Q := ⟨v, rfl, q⟩
theorem w_n12 {x0 x1 x2 x3 x4 x5 x6 x7 x8 x9 x10 x11 : Option V} {y : Option V} {v : V} {r : L2.St} {Q : L2.St → Hp → Prop} (q : Q (x0 :: x1 :: x2 :: x3 :: x4 :: x5 :: x6 :: x7 :: x8 :: x9 :: x10 :: x11 :: some v :: r) H) : gName 12 v (x0 :: x1 :: x2 :: x3 :: x4 :: x5 :: x6 :: x7 :: x8 :: x9 :: x10 :: x11 :: y :: r) H Q := q
theorem w_v13 {x0 x1 x2 x3 x4 x5 x6 x7 x8 x9 x10 x11 x12 : Option V} {v : V} {r : L2.St} (q : Q v H) : tVar 13 (x0 :: x1 :: x2 :: x3 :: x4 :: x5 :: x6 :: x7 :: x8 :: x9 :: x10 :: x11 :: x12 :: some v :: r) H Q := ⟨v, rfl, q⟩
theorem w_n13 {x0 x1 x2 x3 x4 x5 x6 x7 x8 x9 x10 x11 x12 : Option V} {y : Option V} {v : V} {r : L2.St} {Q : L2.St → Hp → Prop} (q : Q (x0 :: x1 :: x2 :: x3 :: x4 :: x5 :: x6 :: x7 :: x8 :: x9 :: x10 :: x11 :: x12 :: some v :: r) H) : gName 13 v (x0 :: x1 :: x2 :: x3 :: x4 :: x5 :: x6 :: x7 :: x8 :: x9 :: x10 :: x11 :: x12 :: y :: r) H Q := q
theorem w_v14 {x0 x1 x2 x3 x4 x5 x6 x7 x8 x9 x10 x11 x12 x13 : Option V} {v : V} {r : L2.St} (q : Q v H) : tVar 14 (x0 :: x1 :: x2 :: x3 :: x4 :: x5 :: x6 :: x7 :: x8 :: x9 :: x10 :: x11 :: x12 :: x13 :: some v :: r) H Q := ⟨v, rfl, q⟩
theorem w_n14 {x0 x1 x2 x3 x4 x5 x6 x7 x8 x9 x10 x11 x12 x13 : Option V} {y : Option V} {v : V} {r : L2.St} {Q : L2.St → Hp → Prop} (q : Q (x0 :: x1 :: x2 :: x3 :: x4 :: x5 :: x6 :: x7 :: x8 :: x9 :: x10 :: x11 :: x12 :: x13 :: some v :: r) H) : gName 14 v (x0 :: x1 :: x2 :: x3 :: x4 :: x5 :: x6 :: x7 :: x8 :: x9 :: x10 :: x11 :: x12 :: x13 :: y :: r) H Q := q
theorem w_v15 {x0 x1 x2 x3 x4 x5 x6 x7 x8 x9 x10 x11 x12 x13 x14 : Option V} {v : V} {r : L2.St} (q : Q v H) : tVar 15 (x0 :: x1 :: x2 :: x3 :: x4 :: x5 :: x6 :: x7 :: x8 :: x9 :: x10 :: x11 :: x12 :: x13 :: x14 :: some v :: r) H Q := ⟨v, rfl, q⟩
theorem w_n15 {x0 x1 x2 x3 x4 x5 x6 x7 x8 x9 x10 x11 x12 x13 x14 : Option V} {y : Option V} {v : V} {r : L2.St} {Q : L2.St → Hp → Prop} (q : Q (x0 :: x1 :: x2 :: x3 :: x4 :: x5 :: x6 :: x7 :: x8 :: x9 :: x10 :: x11 :: x12 :: x13 :: x14 :: some v :: r) H) : gName 15 v (x0 :: x1 :: x2 :: x3 :: x4 :: x5 :: x6 :: x7 :: x8 :: x9 :: x10 :: x11 :: x12 :: x13 :: x14 :: y :: r) H Q := q
theorem w_v16 {x0 x1 x2 x3 x4 x5 x6 x7 x8 x9 x10 x11 x12 x13 x14 x15 : Option V} {v : V} {r : L2.St} (q : Q v H) : tVar 16 (x0 :: x1 :: x2 :: x3 :: x4 :: x5 :: x6 :: x7 :: x8 :: x9 :: x10 :: x11 :: x12 :: x13 :: x14 :: x15 :: some v :: r) H Q := ⟨v, rfl, q⟩
theorem w_n16 {x0 x1 x2 x3 x4 x5 x6 x7 x8 x9 x10 x11 x12 x13 x14 x15 : Option V} {y : Option V} {v : V} {r : L2.St} {Q : L2.St → Hp → Prop} (q : Q (x0 :: x1 :: x2 :: x3 :: x4 :: x5 :: x6 :: x7 :: x8 :: x9 :: x10 :: x11 :: x12 :: x13 :: x14 :: x15 :: some v :: r) H) : gName 16 v (x0 :: x1 :: x2 :: x3 :: x4 :: x5 :: x6 :: x7 :: x8 :: x9 :: x10 :: x11 :: x12 :: x13 :: x14 :: x15 :: y :: r) H Q := q
theorem w_v17 {x0 x1 x2 x3 x4 x5 x6 x7 x8 x9 x10 x11 x12 x13 x14 x15 x16 : Option V} {v : V} {r : L2.St} (q : Q v H) : tVar 17 (x0 :: x1 :: x2 :: x3 :: x4 :: x5 :: x6 :: x7 :: x8 :: x9 :: x10 :: x11 :: x12 :: x13 :: x14 :: x15 :: x16 :: some v :: r) H Q := ⟨v, rfl, q⟩
theorem w_n17 {x0 x1 x2 x3 x4 x5 x6 x7 x8 x9 x10 x11 x12 x13 x14 x15 x16 : Option V} {y : Option V} {v : V} {r : L2.St} {Q : L2.St → Hp → Prop} (q : Q (x0 :: x1 :: x2 :: x3 :: x4 :: x5 :: x6 :: x7 :: x8 :: x9 :: x10 :: x11 :: x12 :: x13 :: x14 :: x15 :: x16 :: some v :: r) H) : gName 17 v (x0 :: x1 :: x2 :: x3 :: x4 :: x5 :: x6 :: x7 :: x8 :: x9 :: x10 :: x11 :: x12 :: x13 :: x14 :: x15 :: x16 :: y :: r) H Q := q
theorem w_v18 {x0 x1 x2 x3 x4 x5 x6 x7 x8 x9 x10 x11 x12 x13 x14 x15 x16 x17 : Option V} {v : V} {r : L2.St} (q : Q v H) : tVar 18 (x0 :: x1 :: x2 :: x3 :: x4 :: x5 :: x6 :: x7 :: x8 :: x9 :: x10 :: x11 :: x12 :: x13 :: x14 :: x15 :: x16 :: x17 :: some v :: r) H Q := ⟨v, rfl, q⟩
theorem w_n18 {x0 x1 x2 x3 x4 x5 x6 x7 x8 x9 x10 x11 x12 x13 x14 x15 x16 x17 : Option V} {y : Option V} {v : V} {r : L2.St} {Q : L2.St → Hp → Prop} (q : Q (x0 :: x1 :: x2 :: x3 :: x4 :: x5 :: x6 :: x7 :: x8 :: x9 :: x10 :: x11 :: x12 :: x13 :: x14 :: x15 :: x16 :: x17 :: some v :: r) H) : gName 18 v (x0 :: x1 :: x2 :: x3 :: x4 :: x5 :: x6 :: x7 :: x8 :: x9 :: x10 :: x11 :: x12 :: x13 :: x14 :: x15 :: x16 :: x17 :: y :: r) H Q := q
theorem w_v19 {x0 x1 x2 x3 x4 x5 x6 x7 x8 x9 x10 x11 x12 x13 x14 x15 x16 x17 x18 : Option V} {v : V} {r : L2.St} (q : Q v H) : tVar 19 (x0 :: x1 :: x2 :: x3 :: x4 :: x5 :: x6 :: x7 :: x8 :: x9 :: x10 :: x11 :: x12 :: x13 :: x14 :: x15 :: x16 :: x17 :: x18 :: some v :: r) H Q := ⟨v, rfl, q⟩
theorem w_n19 {x0 x1 x2 x3 x4 x5 x6 x7 x8 x9 x10 x11 x12 x13 x14 x15 x16 x17 x18 : Option V} {y : Option V} {v : V} {r : L2.St} {Q : L2.St → Hp → Prop} (q : Q (x0 :: x1 :: x2 :: x3 :: x4 :: x5 :: x6 :: x7 :: x8 :: x9 :: x10 :: x11 :: x12 :: x13 :: x14 :: x15 :: x16 :: x17 :: x18 :: some v :: r) H) : gName 19 v (x0 :: x1 :: x2 :: x3 :: x4 :: x5 :: x6 :: x7 :: x8 :: x9 :: x10 :: x11 :: x12 :: x13 :: x14 :: x15 :: x16 :: x17 :: x18 :: y :: r) H Q := q
theorem w_op (q : ta σ H fun x H1 => tb σ H1 fun y H2 => r x y H2 Q) : tOp r ta tb σ H Q := q
theorem w_un {r : V → Hp → VK → Prop} (q : ta σ H fun x H1 => r x H1 Q) : tUn r ta σ H Q := q
theorem w_chain {r' : R2} (q : ta σ H fun x H1 => tb σ H1 fun y H2 => r x y H2 fun z H3 => ∃ k, z = .bl k ∧ (if k = true then tc σ H3 fun w' H4 => r' y w' H4 Q else Q (.bl false) H3)) : tChain r r' ta tb tc σ H Q := q
theorem w_I {CC : Int → Int → Prop} {g : Int → Int → V} {i j : Int} (c : CC i j) (q : Q (g i j) H) : rI CC g (.int i) (.int j) H Q := ⟨i, j, rfl, rfl, c, q⟩
theorem w_I0 {g : Int → Int → V} {i j : Int} (q : Q (g i j) H) : rI0 g (.int i) (.int j) H Q := ⟨i, j, rfl, rfl, q⟩
theorem w_U {g : Int → V} {i : Int} (q : Q (g i) H) : rU g (.int i) H Q := ⟨i, rfl, q⟩
theorem w_eqI {i j : Int} (q : Q (.bl (decide (i = j))) H) : rEq (.int i) (.int j) H Q := by
  refine ⟨rfl, ?_⟩
  have e : decide (V.int i = V.int j) = decide (i = j) := by
    by_cases h : i = j
    · rw [h]; simp
    · rw [decide_eq_false h, decide_eq_false (fun z => h (V.int.inj z))]
  rw [e]; exact q
theorem w_neI {i j : Int} (q : Q (.bl (!decide (i = j))) H) : rNe (.int i) (.int j) H Q := by
  refine ⟨rfl, ?_⟩
  have e : decide (V.int i = V.int j) = decide (i = j) := by
    by_cases h : i = j
    · rw [h]; simp
    · rw [decide_eq_false h, decide_eq_false (fun z => h (V.int.inj z))]
  rw [e]; exact q
theorem w_eqB {i j : Bool} (q : Q (.bl (decide (i = j))) H) : rEq (.bl i) (.bl j) H Q := by
  refine ⟨rfl, ?_⟩
  have e : decide (V.bl i = V.bl j) = decide (i = j) := by
    by_cases h : i = j
    · rw [h]; simp
    · rw [decide_eq_false h, decide_eq_false (fun z => h (V.bl.inj z))]
  rw [e]; exact q
theorem w_neB {i j : Bool} (q : Q (.bl (!decide (i = j))) H) : rNe (.bl i) (.bl j) H Q := by
  refine ⟨rfl, ?_⟩
  have e : decide (V.bl i = V.bl j) = decide (i = j) := by
    by_cases h : i = j
    · rw [h]; simp
    · rw [decide_eq_false h, decide_eq_false (fun z => h (V.bl.inj z))]
  rw [e]; exact q
theorem w_eqS {i j : Str} (q : Q (.bl (decide (i = j))) H) : rEq (.str i) (.str j) H Q := by
  refine ⟨rfl, ?_⟩
  have e : decide (V.str i = V.str j) = decide (i = j) := by
    by_cases h : i = j
    · rw [h]; simp
    · rw [decide_eq_false h, decide_eq_false (fun z => h (V.str.inj z))]
  rw [e]; exact q
theorem w_test {Q : Bool → Hp → Prop} (q : te σ H fun x H' => ∃ k, x = .bl k ∧ Q k H') : tTest te σ H Q := q
theorem w_B {Q : Bool → Hp → Prop} (q : te σ H fun x H' => ∃ k, x = .bl k ∧ Q k H') : tB te σ H Q := q
theorem w_exb {b : Bool} {P : Bool → Prop} (q : P b) : ∃ k, V.bl b = .bl k ∧ P k := ⟨b, rfl, q⟩
theorem w_exi {i : Int} {P : Int → Prop} (q : P i) : ∃ k, V.int i = .int k ∧ P k := ⟨i, rfl, q⟩
theorem w_exr {a : Addr} {P : Addr → Prop} (q : P a) : ∃ k, V.ref a = .ref k ∧ P k := ⟨a, rfl, q⟩
theorem w_and {Q : Bool → Hp → Prop} (q : tt σ H fun c H1 => if c = true then tu σ H1 Q else Q false H1) : tAnd tt tu σ H Q := q
theorem w_or {Q : Bool → Hp → Prop} (q : tt σ H fun c H1 => if c = true then Q true H1 else tu σ H1 Q) : tOr tt tu σ H Q := q
theorem w_not {Q : Bool → Hp → Prop} (q : tt σ H fun c H1 => Q (!c) H1) : tNot tt σ H Q := q
theorem w_andV (q : ta σ H fun x H1 => ∃ c, x = .bl c ∧ if c = true then tb σ H1 Q else Q (.bl false) H1) : tAndV ta tb σ H Q := q
theorem w_orV (q : ta σ H fun x H1 => ∃ c, x = .bl c ∧ if c = true then Q (.bl true) H1 else tb σ H1 Q) : tOrV ta tb σ H Q := q
theorem w_notV (q : ta σ H fun x H1 => ∃ c, x = .bl c ∧ Q (.bl (!c)) H1) : tNotV ta σ H Q := q
/-- what evaluates to one value, whatever follows -/
theorem w_val (v : V) (hE : ∀ Q : VK, Q v H → te σ H Q) (q : Q v H) : te σ H Q := hE Q q
theorem w_if (q : tt σ H fun c H1 => if c = true then ta σ H1 Q else tb σ H1 Q) : tIf tt ta tb σ H Q := q
theorem w_nil {Q : List V → Hp → Prop} (q : Q [] H) : tNil σ H Q := q
theorem w_cons {tr : TA} {Q : List V → Hp → Prop} (q : ta σ H fun x H1 => tr σ H1 fun xs H2 => Q (x :: xs) H2) : tCons ta tr σ H Q := q
theorem w_call {sp : Sp} {E : XK} {t : TA} (q : t σ H fun vs H1 => sp (vs ++ []) H1 Q E) : tCall sp [] E t σ H Q := q
theorem w_callK {sp : Sp} {gV : List V → List V → List V} {E : XK} {t tk : TA} (q : t σ H fun vs H1 => tk σ H1 fun zs H2 => sp (gV vs zs) H2 Q E) : tCallK sp gV E t tk σ H Q := q
theorem w_make {sp : Sp} {E : XK} {t : TA} (q : t σ H fun vs H1 => ∀ x dx, H1 x = none → H1 dx = none → dx ≠ x → sp (.ref x :: (vs ++ [])) (upd (upd H1 dx (.own x)) x (.ins C dx [])) (fun v H2 => v = .non ∧ Q (.ref x) H2) E) : tMake C sp [] E t σ H Q := q
theorem w_cb {r : List V → Hp → VK → Prop} {t : TA} (q : t σ H fun vs H1 => r vs H1 Q) : tCB r t σ H Q := q
theorem w_int {i : Int} (q : Q (.int i) H) : rIntC [.int i] H Q := .inl ⟨i, rfl, q⟩
theorem w_intB {i : Bool} (q : Q (.int (if i then 1 else 0)) H) : rIntC [.bl i] H Q := .inr ⟨i, rfl, q⟩
theorem w_isNn (q : Q (.bl true) H) : rIsNn .non .non H Q := ⟨rfl, q⟩
theorem w_isNi {i : Int} (q : Q (.bl false) H) : rIsNn (.int i) .non H Q := ⟨rfl, q⟩
theorem w_abs {i : Int} (q : Q (.int (ab i)) H) : rAbsC [.int i] H Q := ⟨i, rfl, q⟩
theorem w_bits {to : TE} (q : to σ H fun x H1 => ∃ i, x = .int i ∧ Q (.int (Builtin.Int.intBits i : Nat)) H1) : tBits to σ H Q := q
theorem w_ixL {p : Addr} {xs : List V} {i : Int} {v : V} (h : H p = some (.lst xs)) (e : atI xs i = some v) (q : Q v H) : rIxL K (.ref p) (.int i) H Q := ⟨p, xs, i, v, rfl, rfl, SqL.of h, e, q⟩
theorem w_ixT {p : Addr} {xs : List V} {i : Int} {v : V} (h : H p = some (.tup xs)) (e : atI xs i = some v) (q : Q v H) : rIxT K (.ref p) (.int i) H Q := ⟨p, xs, i, v, rfl, rfl, SqT.of h, e, q⟩
theorem w_setL {p : Addr} {xs : List V} {i : Int} {v : V} {j : Nat} {Q : Hp → Prop} (h : H p = some (.lst xs)) (e : ixN xs.length i = some j) (q : Q (upd H p (.lst (xs.set j v)))) : rSetL (.ref p) (.int i) v H Q := ⟨p, xs, i, j, rfl, rfl, h, e, q⟩
theorem w_sl {r : V → Option Int → Option Int → Hp → VK → Prop} {tl th : TO} (q : te σ H fun x H1 => tl σ H1 fun l H2 => th σ H2 fun u H3 => r x l u H3 Q) : L2.tSl r te tl th σ H Q := q
theorem w_part {Q : Option Int → Hp → Prop} (q : te σ H fun x H1 => ∃ i, x = .int i ∧ Q (some i) H1) : tPart te σ H Q := q
theorem w_nopart {Q : Option Int → Hp → Prop} (q : Q none H) : tNoPart σ H Q := q
theorem w_slL {a : Addr} {xs : List V} {lo hi : Option Int} (h : SqL K H a xs) (q : ∀ p, H p = none → Q (.ref p) (upd H p (.lst (cutV xs lo hi)))) : rSlL K (.ref a) lo hi H Q := ⟨a, xs, rfl, h, q⟩
theorem w_lst {t : TA} (q : t σ H fun xs H1 => xs.length ≤ sizeLine ∧ ∀ p, H1 p = none → Q (.ref p) (upd H1 p (.lst xs))) : tLst t σ H Q := q
theorem w_tup {t : TA} (q : t σ H fun xs H1 => xs.length ≤ sizeLine ∧ ∀ p, H1 p = none → Q (.ref p) (upd H1 p (.tup xs))) : tTup t σ H Q := q
theorem w_cat {l b : Addr} {xs zs : List V} (h1 : H l = some (.lst xs)) (h2 : H b = some (.lst zs)) (n : xs.length + zs.length ≤ sizeLine) (q : ∀ p, H p = none → Q (.ref p) (upd H p (.lst (xs ++ zs)))) : rCat (.ref l) (.ref b) H Q := ⟨l, b, xs, zs, rfl, rfl, h1, h2, n, q⟩
theorem w_dnewK (q : ∀ d, H d = none → Q (.ref d) (upd H d (.dK []))) : tDNewK σ H Q := q
theorem w_eqNil {p q : Addr} (hp : H p = some (.lst [])) (hq : H q = some (.lst [])) (k : Q (.bl true) H) : rEqD K (.ref p) (.ref q) H Q := ⟨.list [], .list [], .lst (SqL.of hp) .nil, .lst (SqL.of hq) .nil, by decide, by decide, k⟩
theorem w_wipe1 {g : TG} {v : V} {vs : List Nat} {σ' : L2.St} {Q : L2.St → Hp → Prop} (e : wipe σ vs = σ') (q : g v σ' H Q) : g v (wipe σ vs) H Q := by rw [e]; exact q
theorem w_inT {p : Addr} {x : V} {xs : List V} (h : SqT K H p xs) (f1 : flatV x = true) (f2 : xs.all flatV = true) (q : Q (.bl (inV x xs)) H) : rIn K false x (.ref p) H Q := ⟨p, xs, rfl, .inr h, f1, f2, q⟩
theorem w_meth0 {C : Addr} {m : Str} {sp : Sp} {E : XK} (q : ta σ H fun x H1 => ∃ a dx fs, x = .ref a ∧ H1 a = some (.ins C dx fs) ∧ fs.lookup m = none ∧ sp (x :: ([] ++ [])) H1 Q E) : tMeth C m sp [] E ta tNil σ H Q := q
theorem w_par {i j : Nat} {t : TA} (q : t σ H fun vs H1 => ∃ v w, vs = [v, w] ∧ D.nx ((σ.set i (some v)).set j (some w)) H1) : tPar i j t D σ H := q
theorem w_exvw {a c : V} {P : V → V → Prop} (q : P a c) : ∃ v w, [a, c] = [v, w] ∧ P v w := ⟨a, c, rfl, q⟩
theorem w_while {tc : TT} {tb : TS} (W : Nat → L2.St → Hp → Prop) (m0 : Nat) (h0 : W m0 σ H) (hs : ∀ m σ H, W m σ H → tc σ H fun b H1 => if b = true then ∃ N : L2.St → Hp → Prop, (∀ σ' H', N σ' H' → ∃ m', m' < m ∧ W m' σ' H') ∧ tb { D with nx := N, ct := N, bk := D.nx } σ H1 else D.nx σ H1) : tWhile tc tb D σ H := ⟨W, ⟨m0, h0⟩, hs⟩
theorem w_rep {l : Addr} {k : Int} {xs : List V} (h : H l = some (.lst xs)) (k0 : 0 ≤ k) (k1 : k ≤ 1000) (n : xs.length * k.toNat ≤ sizeLine) (q : ∀ p, H p = none → Q (.ref p) (upd H p (.lst (List.replicate k.toNat xs).flatten))) : rRep (.ref l) (.int k) H Q := ⟨l, k, xs, rfl, rfl, h, by omega, by omega, n, q⟩
theorem w_dget {td ty : TE} (q : td σ H fun x H1 => ty σ H1 fun y H2 => ∃ a v, x = .ref a ∧ DGet H2 a y (some v) ∧ Q v H2) : tDGet td ty σ H Q := q
-- statements
theorem w_next (q : D.nx σ H) : tNext D σ H := q
theorem w_seq {t u : TS} (q : t { D with nx := u D } σ H) : tSeq t u D σ H := q
theorem w_drop (q : te σ H fun _ H1 => D.nx σ H1) : tDrop te D σ H := q
theorem w_ret (q : te σ H D.rt) : tRet te D σ H := q
theorem w_retN (q : D.rt .non H) : tRetN D σ H := q
theorem w_ifS {t u : TS} (q : tt σ H fun b H1 => if b = true then t D σ H1 else u D σ H1) : tIfS tt t u D σ H := q
theorem w_asg {g : TG} (q : te σ H fun x H1 => g x σ H1 D.nx) : tAsg te g D σ H := q
theorem w_name {i : Nat} {v : V} {Q : L2.St → Hp → Prop} (q : Q (σ.set i (some v)) H) : gName i v σ H Q := q
theorem w_gnil {Q : L2.St → Hp → Prop} (q : Q σ H) : gNil [] σ H Q := ⟨rfl, q⟩
theorem w_gcons {t : TG} {u : TGs} {v : V} {r : List V} {Q : L2.St → Hp → Prop} (q : t v σ H fun σ' H' => u r σ' H' Q) : gCons t u (v :: r) σ H Q := ⟨v, r, rfl, q⟩
theorem w_gtup {n : Nat} {t : TGs} {a : Addr} {xs : List V} {Q : L2.St → Hp → Prop} (h : H a = some (.tup xs)) (l : xs.length = n) (q : t xs σ H Q) : gTup K n t (.ref a) σ H Q := ⟨a, xs, rfl, SqT.of h, l, q⟩
theorem w_gsub {to ti : TE} {t : TSet} {v : V} {Q : L2.St → Hp → Prop} (q : to σ H fun o H1 => ti σ H1 fun i H2 => t o i v H2 fun H3 => Q σ H3) : gSub to ti t v σ H Q := q
/-- what a for asks of the thing walked -/
def ForW (g : TG) (tb : TS) (D : Ends) (σ : L2.St) (H1 : Hp) (J : It) : Prop := ∃ W : Nat → Nat → L2.St → Hp → Prop, (∃ m, W 0 m σ H1) ∧ ∀ i m σ H, W i m σ H →
    (J.stop i H ∧ D.nx σ H) ∨ (J.go i H ∧ ∃ N : L2.St → Hp → Prop, (∀ σ' H', N σ' H' → ∃ m', m' < m ∧ W (i + 1) m' σ' H') ∧ ∀ x H', J.yld i H x H' → g x σ H' fun σ2 H2 => tb { D with nx := N, ct := N, bk := D.nx } σ2 H2)
theorem w_for {wi : TI} {g : TG} {tb : TS} (q : wi σ H fun J H1 => ForW g tb D σ H1 J) : tFor wi g tb D σ H := q
def LcW (g : TG) (tt : TT) (te : TE) (vs : List Nat) (σ : L2.St) (Q : VK) (H1 : Hp) (J : It) : Prop := ∀ D, H1 D = none → ∃ W : Nat → Nat → Hp → Prop, (∃ m, W 0 m (upd H1 D (.lst []))) ∧ ∀ i m H, W i m H →
  (J.stop i H ∧ Q (.ref D) H) ∨ (J.go i H ∧ ∃ Nx : Hp → Prop, (∀ H', Nx H' → ∃ m', m' < m ∧ W (i + 1) m' H') ∧ ∀ x H', J.yld i H x H' → g x (wipe σ vs) H' fun σ2 H2 => wipe σ2 vs = wipe σ vs ∧ tt σ2 H2 fun b H3 =>
    if b = true then te σ2 H3 fun y H4 => ∃ acc, H4 D = some (.lst acc) ∧ acc.length < sizeLine ∧ Nx (upd H4 D (.lst (acc ++ [y]))) else Nx H3)
theorem w_lc {wi : TI} {g : TG} {vs : List Nat} (q : wi σ H fun J H1 => LcW g tt te vs σ Q H1 J) : tLc wi g tt te vs σ H Q := q
theorem w_yes {Q : Bool → Hp → Prop} (q : Q true H) : tYes σ H Q := q
theorem w_iList {tl : TE} {R : It → Hp → Prop} (q : tl σ H fun x H1 => ∃ a, x = .ref a ∧ (∃ xs, SqL K H1 a xs) ∧ R (Itl K a) H1) : iList K tl σ H R := q
theorem w_fld {f : Str} (q : ta σ H fun x H1 => ∃ a C dx fs v, x = .ref a ∧ H1 a = some (.ins C dx fs) ∧ Cls K C ∧ NoAttr K C f ∧ fs.lookup f = some v ∧ Q v H1) : tFld K ta f σ H Q := q
theorem w_sfld {tv : TE} {f : Str} (q : tv σ H fun y H1 => ta σ H1 fun x H2 => ∃ a C dx fs, x = .ref a ∧ H2 a = some (.ins C dx fs) ∧ Cls K C ∧ NoAttr K C f ∧ fs.length < 1000 ∧ D.nx σ (upd H2 a (.ins C dx (putF f y fs)))) : sFld K ta tv f D σ H := q
theorem w_len {p : Addr} {ys : List V} (h : H p = some (.lst ys)) (q : Q (.int (ys.length : Int)) H) : rLenS K [.ref p] H Q := ⟨p, ys, rfl, .inl (SqL.of h), q⟩
theorem w_all {p : Addr} {bs : List Bool} (h : H p = some (.lst (bs.map V.bl))) (q : Q (.bl (bs.all id)) H) : rAll K [.ref p] H Q := ⟨p, bs, rfl, SqL.of h, q⟩
theorem w_iRng1 {ta : TA} {R : It → Hp → Prop} (q : ta σ H fun vs H1 => ∃ j : Int, vs = [.int j] ∧ -(2 ^ 62) ≤ j ∧ j < 2 ^ 62 ∧ R (Itr 0 j.toNat) H1) : iRng1 ta σ H R := q
-- tests
theorem w_dec {P A B : Prop} [Decidable P] (h1 : P → A) (h2 : ¬ P → B) : if decide P = true then A else B := by
  by_cases h : P
  · rw [decide_eq_true h, if_pos rfl]; exact h1 h
  · rw [decide_eq_false h, if_neg Bool.false_ne_true]; exact h2 h
theorem w_ndec {P A B : Prop} [Decidable P] (h1 : ¬ P → A) (h2 : P → B) : if (!decide P) = true then A else B := by
  by_cases h : P
  · rw [decide_eq_true h]; exact iteF (h2 h)
  · rw [decide_eq_false h]; exact iteT (h1 h)
theorem w_decT {P A B : Prop} [Decidable P] (h : P) (q : A) : if decide P = true then A else B := by rw [decide_eq_true h, if_pos rfl]; exact q
theorem w_decF {P A B : Prop} [Decidable P] (h : ¬ P) (q : B) : if decide P = true then A else B := by rw [decide_eq_false h, if_neg Bool.false_ne_true]; exact q
theorem w_ndecT {P A B : Prop} [Decidable P] (h : P) (q : B) : if (!decide P) = true then A else B := by rw [decide_eq_true h]; exact iteF q
theorem w_ndecF {P A B : Prop} [Decidable P] (h : ¬ P) (q : A) : if (!decide P) = true then A else B := by rw [decide_eq_false h]; exact iteT q
theorem w_bT {b : Bool} {A B : Prop} (h : b = true) (q : A) : if b = true then A else B := by rw [if_pos h]; exact q
theorem w_bF {b : Bool} {A B : Prop} (h : b = false) (q : B) : if b = true then A else B := by rw [h]; exact iteF q
end

theorem map_get {α : Type} {f : α → V} {l : List α} {i : Nat} {x : V} (h : (l.map f)[i]? = some x) : ∃ z, l[i]? = some z ∧ x = f z := by
  rw [List.getElem?_map] at h
  cases e : l[i]? with
  | none => rw [e] at h; cases h
  | some z => rw [e] at h; exact ⟨z, rfl, (Option.some.inj h).symm⟩
theorem get_lt {α : Type} {l : List α} {i : Nat} {x : α} (h : l[i]? = some x) : i < l.length := (List.getElem?_eq_some_iff.mp h).1
theorem tk_more {α : Type} {l : List α} {i : Nat} {x : α} (h : l[i]? = some x) : l.take (i + 1) = l.take i ++ [x] := by
  rw [List.take_add_one, h]; rfl
/-- a new object leaves the others -/
theorem gn {H : Hp} {l q : Addr} {o u : HO} (h : H l = some o) (hn : H q = none) : (L2.upd H q u) l = some o := by
  rw [upd_ne (ne_of_none h hn)]; exact h
theorem cut_map {α : Type} (f : α → V) (ns : List α) (lo hi : Option Int) : ∃ ms : List α, cutV (ns.map f) lo hi = ms.map f ∧ ms.length ≤ ns.length ∧ ∀ m ∈ ms, m ∈ ns := by
  refine ⟨(ns.drop (HT.sIx (ns.map f).length 0 lo)).take (HT.sIx (ns.map f).length (ns.map f).length hi - HT.sIx (ns.map f).length 0 lo), ?_, ?_, fun m hm => List.mem_of_mem_drop (List.mem_of_mem_take hm)⟩
  · unfold cutV; rw [← List.map_drop, ← List.map_take]
  · rw [List.length_take, List.length_drop]; omega
theorem cut_take {α : Type} (f : α → V) (ns : List α) (n : Nat) : cutV (ns.map f) none (some (n : Int)) = (ns.take n).map f := by
  unfold cutV
  rw [HT.sIx_none, HT.sIx_nat, List.drop_zero, Nat.sub_zero, List.length_map, ← List.map_take]
  congr 1
  by_cases h : n ≤ ns.length
  · rw [Nat.min_eq_left h]
  · rw [Nat.min_eq_right (by omega), List.take_length, List.take_of_length_le (by omega)]
theorem sm_mut {H H' : Hp} {D : Addr} {o : HO} (a : Same H H') (h : H D = none) : Same H (L2.upd H' D o) := fun q u e => by
  rw [upd_ne (ne_of_none e h)]; exact a q u e
theorem cpow {j n : Nat} (h : j ≤ 1000000) (e : (n : Int).natAbs < 2 ^ 64) : CPow (n : Int) (j : Int) := ⟨Int.natCast_nonneg _, by omega, e⟩

/-! match over texts -/
structure PMs (X : Cx) (cs : List MatchCase) (t : V → TS) : Prop where
  run : ∀ (pins : List (Addr × Obj)) (s : Shared) (σ : L2.St) (H : Hp) (D : Ends) (v : V) (u : Value) (first : Bool), Inv X pins σ H s → RelV v u → t v D σ H →
    wpAny (model X.prog X.w) X.A (matchCases cs X.env u first) (SP X pins D) X.xe s
def tCaseS (x : Str) (tb : TS) (tr : V → TS) : V → TS := fun v D σ H => ∃ z, v = .str z ∧ if decide (z = x) = true then tb D σ H else tr v D σ H
def tCaseA (tb : TS) : V → TS := fun _ => tb
def tMatch (te : TE) (t : V → TS) : TS := fun D σ H => te σ H fun v H1 => t v D σ H1
section
variable {X : Cx} {body : List Stmt} {rest : List MatchCase} {tb : TS} {tr : V → TS}
theorem pm_nil : PMs X [] (fun _ => tNext) := ⟨fun pins s σ H D v u first I r q => wpAny_matchCases_nil ⟨σ, H, I, q⟩⟩
theorem pm_any {p : Pos} (hb : PSs X body tb) : PMs X (⟨.MatchAs none none p, none, body⟩ :: rest) (tCaseA tb) := by
  refine ⟨fun pins s σ H D v u first I r q => ?_⟩
  refine wpAny_matchCases_cons (wpAny_matchPattern_Capture ?_)
  exact wpAny_assignInOrder_none (hb.run pins s σ H D I q)
theorem pm_str {x : Str} {j : Nat} {p p2 : Pos} (hb : PSs X body tb) (hr : PMs X rest tr) : PMs X (⟨.MatchValue (.Constant (.str x) j p) p2, none, body⟩ :: rest) (tCaseS x tb tr) := by
  refine ⟨fun pins s σ H D v u first I r q => ?_⟩
  obtain ⟨z, rfl, q⟩ := q
  refine wpAny_matchCases_cons (wpAny_matchPattern_Value ?_)
  refine thn ((pe_str (X := X) (x := x) (j := j) (pos := p)).run pins s σ H (fun y H1 => y = .str x ∧ H1 = H) I ⟨rfl, rfl⟩) fun w s1 ⟨y, H1, I1, r1, e1, e2⟩ => ?_
  subst e1 e2
  refine thn (op_eq (X := X) pins s1 σ H1 (.str z) (.str x) u w (fun y H2 => y = .bl (decide (V.str z = V.str x)) ∧ H2 = H1) I1 r r1 ⟨rfl, rfl, rfl⟩) fun c s2 ⟨y, H2, I2, r2, e1, e2⟩ => ?_
  subst e1 e2
  cases r2
  refine wpAny_truthy_bool ?_
  have e : decide (V.str z = V.str x) = decide (z = x) := by
    by_cases h : z = x
    · rw [h]; simp
    · rw [decide_eq_false h, decide_eq_false (fun k => h (V.str.inj k))]
  rw [e]
  by_cases h : z = x
  · rw [decide_eq_true h, if_pos rfl] at q
    rw [decide_eq_true h]
    exact wpAny_assignInOrder_none (hb.run pins s2 σ H2 D I2 q)
  · rw [decide_eq_false h, if_neg Bool.false_ne_true] at q
    rw [decide_eq_false h]
    exact hr.run pins s2 σ H2 D _ u false I2 r q
theorem ps_match {e : Expr} {te : TE} {cs : List MatchCase} {t : V → TS} {pos : Pos} (he : PE X e te) (hc : PMs X cs t) : PS X (.Match e cs pos) (tMatch te t) := by
  refine ⟨fun pins s σ H D I h => wpAny_Match (thn (he.run pins s σ H _ I h) fun u s1 ⟨v, H1, I1, r1, q1⟩ => ?_)⟩
  exact hc.run pins s1 σ H1 D v u true I1 r1 q1
end
section
variable {σ : L2.St} {H : Hp} {D : Ends} {te : TE} {tb : TS} {tr : V → TS}
theorem w_match {t : V → TS} (q : te σ H fun v H1 => t v D σ H1) : tMatch te t D σ H := q
theorem w_caseA {v : V} (q : tb D σ H) : tCaseA tb v D σ H := q
theorem w_caseS {x z : Str} (q : if decide (z = x) = true then tb D σ H else tr (.str z) D σ H) : tCaseS x tb tr (.str z) D σ H := ⟨z, rfl, q⟩
theorem w_caseT {x : Str} (q : tb D σ H) : tCaseS x tb tr (.str x) D σ H := ⟨x, rfl, by rw [decide_eq_true rfl, if_pos rfl]; exact q⟩
theorem w_caseF {x z : Str} (h : z ≠ x) (q : tr (.str z) D σ H) : tCaseS x tb tr (.str z) D σ H := ⟨z, rfl, by rw [decide_eq_false h, if_neg Bool.false_ne_true]; exact q⟩
end
end Fw
namespace Fw
open PySem PySem.Spec PyProof.Rows L2 LamX
/-! ### lambdas of one parameter, handed to a def as its first argument -/
/-- a later state: what was not tracked at (HD, sD), while stk ran, still stands -/
structure Later (stk : List Env) (HD : Hp) (sD : Shared) (outer : List Env) (H : Hp) (s : Shared) : Prop where
  un : Un (frs stk) [] HD H sD.heap s.heap
  new : ∀ b ∈ frs outer, b ∈ frs stk ∨ sD.heap.objs.size ≤ b
  sz : sD.heap.objs.size ≤ s.heap.objs.size
theorem Later.refl (stk : List Env) (H : Hp) (s : Shared) : Later stk H s stk H s := ⟨Un.refl, fun _ h => .inl h, Nat.le_refl _⟩
theorem Later.trans {k1 k2 k3 : List Env} {H1 H2 H3 : Hp} {s1 s2 s3 : Shared} (a : Later k1 H1 s1 k2 H2 s2) (b : Later k2 H2 s2 k3 H3 s3) : Later k1 H1 s1 k3 H3 s3 := by
  have nf : ∀ c o, s1.heap.get? c = some o → c ∉ frs k1 → c ∉ frs k2 := fun c o e n z => (a.new c z).elim n fun l => Nat.lt_irrefl _ (Nat.lt_of_lt_of_le (Heap.lt_size e) l)
  refine ⟨⟨fun c o q n hc hx => ?_, fun c o q n hc hx => ?_, fun c o q n hx => ?_, fun c o q hx => ?_, fun c xs q => b.un.tups c xs (a.un.tups c xs q), fun c o xs q => b.un.frzs c o xs (a.un.frzs c o xs q), fun c ps q => ?_⟩, fun c hc => ?_, Nat.le_trans a.sz b.sz⟩
  · exact b.un.keep c o (a.un.keep c o q n hc hx) (a.un.free c o q n hx) (nf c o q hc) hx
  · obtain ⟨sl, e1⟩ := a.un.slot c o q n hc hx
    obtain ⟨sl', e2⟩ := b.un.any e1 (a.un.free c o q n hx) hx
    exact ⟨sl', e2⟩
  · obtain ⟨o', e1⟩ := a.un.there c o q hx
    exact b.un.free c o' e1 (a.un.free c o q n hx) hx
  · obtain ⟨o', e1⟩ := a.un.there c o q hx
    exact b.un.there c o' e1 hx
  · obtain ⟨m1, e1⟩ := a.un.tbls c ps q
    obtain ⟨m2, e2⟩ := b.un.tbls c _ e1
    exact ⟨m1 ++ m2, by rw [e2, Array.append_assoc]⟩
  · rcases b.new c hc with z | z
    · exact a.new c z
    · exact .inr (Nat.le_trans a.sz z)
theorem later_of {X : Cx} {pins : List (Addr × Obj)} {σ : L2.St} {H : Hp} {s : Shared} (I : Inv X pins σ H s) (hex : X.ex = []) : Later X.outer X.H_0 X.s_0 X.stack H s := by
  refine ⟨?_, fun b hb => (List.mem_cons.mp (I.stkSub b hb)).elim (fun e => .inr (by rw [e]; exact I.ok.above)) .inl, I.sz⟩
  have u := I.base
  rw [hex] at u
  exact u
/-- what may be called: f, with the promise sp, from level k on -/
abbrev CP := Nat → Addr → Sp → Prop
structure Cal (P : Program) (w : World) (K : PySem.W.Frag) (mg : Str → Option Value) (base : Heap) (stk : List Env) (HD : Hp) (sD : Shared) (k : Nat) (f : Addr) (sp : Sp) : Prop where
  fn : ∀ (outer : List Env) (s : Shared) (H : Hp), Later stk HD sD outer H s → PySem.W.FnAt f s.heap
  run : ∀ (A : Around) (outer : List Env) (s : Shared) (H : Hp) (us : List Value) (vs : List V) (Q : VK), Room k A → Env0 P w K mg base A outer s H → Later stk HD sD outer H s → Vals vs us → sp vs H Q E0 →
    codeAny (model P w) A (.call (.ref f) ⟨us, []⟩) (CR L2.CX0 outer P w H s Q E0) s
section
variable {P : Program} {w : World} {K : PySem.W.Frag} {mg : Str → Option Value} {base : Heap}
theorem Cal.later {k1 k2 : List Env} {H1 H2 : Hp} {s1 s2 : Shared} {k : Nat} {f : Addr} {sp : Sp} (c : Cal P w K mg base k1 H1 s1 k f sp) (l : Later k1 H1 s1 k2 H2 s2) : Cal P w K mg base k2 H2 s2 k f sp :=
  ⟨fun o s H z => c.fn o s H (l.trans z), fun A o s H us vs Q hr e z => c.run A o s H us vs Q hr e (l.trans z)⟩
theorem Cal.imp {stk : List Env} {H1 : Hp} {s1 : Shared} {k k' : Nat} {f : Addr} {sp sp' : Sp} (c : Cal P w K mg base stk H1 s1 k f sp) (hk : k ≤ k') (h : ∀ vs H Q, sp' vs H Q E0 → sp vs H Q E0) : Cal P w K mg base stk H1 s1 k' f sp' :=
  ⟨c.fn, fun A o s H us vs Q hr e z r q => c.run A o s H us vs Q (hr.mono hk) e z r (h _ _ _ q)⟩
/-- a def that may be handed what can be called -/
structure FnOkC (P : Program) (w : World) (K : PySem.W.Frag) (mg : Str → Option Value) (base : Heap) (k : Nat) (f : Addr) (fd : FuncData) (ps : List Str) (spc : CP → Sp) : Prop where
  len : ∀ C vs H Q E, spc C vs H Q E → vs.length = ps.length
  run : ∀ (A : Around) (outer : List Env) (s : Shared) (H : Hp) (args : Args) (us : List Value) (vs : List V) (Q : VK), Room k A → Env0 P w K mg base A outer s H → BindsTo s fd args (ps.zip us) → Vals vs us → spc (Cal P w K mg base outer H s) vs H Q E0 →
    codeAny (model P w) A (.call (.ref f) args) (CR L2.CX0 outer P w H s Q E0) s
theorem okC {x qual : Str} {st : Stmt} {f : Addr} {fd : FuncData} {N ps : List Str} {k : Nat} {spc : CP → Sp} (F : L2.Fun K x qual st f fd) (S : FnScope N ps (defScope st)) (len : ∀ C vs H Q E, spc C vs H Q E → vs.length = ps.length)
    (hbody : ∀ (cdv : Value) (A : Around) (outer : List Env) (s : Shared) (H : Hp) (vs : List V) (Q : VK), Room k (A.deeper (envOfC qual (defScope st) s.heap.objs.size f cdv)) → spc (Cal P w K mg base outer H s) vs H Q E0 →
      ∃ t, PSs (cxOf L2.CX0 P w K mg base N qual (defScope st) f cdv A outer s H E0).nox (defBody st) t ∧ t { nx := fun _ H' => Q .non H', rt := Q } (L2.start N vs) H) : FnOkC P w K mg base (k + 1) f fd ps spc := by
  obtain ⟨oc, od, kV, doc, pm, an, cdv, ct, osl, rfl, lk, hcd⟩ := F.ex
  refine ⟨len, fun A outer s H args us vs Q hr e0 hb r h => ?_⟩
  refine run_ofS (N := N) lk hcd S hr e0 hb r (len _ _ _ _ _ h) fun hr' => ?_
  obtain ⟨t, ht, q⟩ := hbody cdv A outer s H vs Q hr' h
  exact ⟨t, ht.nox, q⟩
end
/-- a def whose code object is known, for its lambdas -/
structure FunT (K : PySem.W.Frag) (x qual : Str) (st : Stmt) (f : Addr) (fd : FuncData) (c : Addr) : Prop where
  ex : ∃ (oc : Value) (od : Option Addr) (kV doc pm : Value) (an : Option Addr) (ct : Value) (osl : Array (Option Value)),
    fd = PySem.W.fnOf x qual (defArgs st) (defBody st) (defScope st) .none kV doc pm an (.ref c) ct ∧ K.lookup f = some ⟨oc, od, .func fd, osl⟩ ∧ PySem.W.codeIn K (.ref c) qual = true
section
variable {P : Program} {w : World} {K : PySem.W.Frag} {mg : Str → Option Value} {base : Heap}
theorem FunT.ok {x qual : Str} {st : Stmt} {f c : Addr} {fd : FuncData} {N ps : List Str} {k : Nat} {sp : Sp} (F : FunT K x qual st f fd c) (S : FnScope N ps (defScope st)) (len : ∀ vs H Q E, sp vs H Q E → vs.length = ps.length)
    (hbody : ∀ (A : Around) (outer : List Env) (s : Shared) (H : Hp) (vs : List V) (Q : VK) (E : XK), Room k (A.deeper (envOfC qual (defScope st) s.heap.objs.size f (.ref c))) → sp vs H Q E →
      ∃ t, PSs (cxOf L2.CX0 P w K mg base N qual (defScope st) f (.ref c) A outer s H E).nox (defBody st) t ∧ t { nx := fun _ H' => Q .non H', rt := Q } (L2.start N vs) H) : FnOk P w K mg base L2.CX0 (k + 1) f fd ps sp := by
  obtain ⟨oc, od, kV, doc, pm, an, ct, osl, rfl, lk, hcd⟩ := F.ex
  refine fn_of lk hcd S len fun A outer s H vs Q E hr hsp => ?_
  obtain ⟨t, h, q⟩ := hbody A outer s H vs Q E hr hsp
  exact ⟨t, h.nox, q⟩
theorem FunT.okC {x qual : Str} {st : Stmt} {f c : Addr} {fd : FuncData} {N ps : List Str} {k : Nat} {spc : CP → Sp} (F : FunT K x qual st f fd c) (S : FnScope N ps (defScope st)) (len : ∀ C vs H Q E, spc C vs H Q E → vs.length = ps.length)
    (hbody : ∀ (A : Around) (outer : List Env) (s : Shared) (H : Hp) (vs : List V) (Q : VK), Room k (A.deeper (envOfC qual (defScope st) s.heap.objs.size f (.ref c))) → spc (Cal P w K mg base outer H s) vs H Q E0 →
      ∃ t, PSs (cxOf L2.CX0 P w K mg base N qual (defScope st) f (.ref c) A outer s H E0).nox (defBody st) t ∧ t { nx := fun _ H' => Q .non H', rt := Q } (L2.start N vs) H) : FnOkC P w K mg base (k + 1) f fd ps spc := by
  obtain ⟨oc, od, kV, doc, pm, an, ct, osl, rfl, lk, hcd⟩ := F.ex
  refine ⟨len, fun A outer s H args us vs Q hr e0 hb r h => ?_⟩
  refine run_ofS (N := N) lk hcd S hr e0 hb r (len _ _ _ _ _ h) fun hr' => ?_
  obtain ⟨t, ht, q⟩ := hbody A outer s H vs Q hr' h
  exact ⟨t, ht.nox, q⟩
theorem FunT.toFun {x qual : Str} {st : Stmt} {f c : Addr} {fd : FuncData} (F : FunT K x qual st f fd c) (kp : PySem.W.keepIn K (.ref f) = true) : L2.Fun K x qual st f fd := by
  obtain ⟨oc, od, kV, doc, pm, an, ct, osl, e, lk, hcd⟩ := F.ex
  exact ⟨⟨oc, od, kV, doc, pm, an, .ref c, ct, osl, e, lk, hcd⟩, kp⟩
theorem funT_mk {x qual : Str} {st : Stmt} {f c : Addr} {oc : Value} {od an : Option Addr} {osl : Array (Option Value)} {kV doc pm ct : Value} (l : K.lookup f = some ⟨oc, od, .func (PySem.W.fnOf x qual (defArgs st) (defBody st) (defScope st) .none kV doc pm an (.ref c) ct), osl⟩)
    (h : PySem.W.codeIn K (.ref c) qual = true) : FunT K x qual st f (PySem.W.fnOf x qual (defArgs st) (defBody st) (defScope st) .none kV doc pm an (.ref c) ct) c := ⟨⟨oc, od, kV, doc, pm, an, ct, osl, rfl, l, h⟩⟩
end
/-- what can be called in X: what its def was handed -/
abbrev Kn (X : Cx) : CP := Cal X.prog X.w X.K X.mg X.base X.outer X.H_0 X.s_0
/-! ### the lambda's names -/
structure LamP (sc scope : Scope) (par : Str) : Prop where
  kind : scope.kind = .function
  co : scope.isCoroutine = false
  gen : scope.isGenerator = false
  own : ∀ y ∈ scope.names, y.2 ≠ .cell ∧ (y.2 = .local → y.1 = par)
  par : scope.names.lookup par = some .local
  free : ∀ y ∈ scope.names, y.2 = .free → sc.names.lookup y.1 = some .cell ∨ sc.names.lookup y.1 = some .free
def lamPB (sc scope : Scope) (par : Str) : Bool :=
  decide (scope.kind = .function) && !scope.isCoroutine && !scope.isGenerator && decide (scope.names.lookup par = some .local) && scope.names.all fun y => !decide (y.2 = .cell) && (!decide (y.2 = .local) || decide (y.1 = par)) && (!decide (y.2 = .free) || decide (sc.names.lookup y.1 = some .cell) || decide (sc.names.lookup y.1 = some .free))
theorem lamP_by {sc scope : Scope} {par : Str} (h : lamPB sc scope par = true) : LamP sc scope par := by
  unfold lamPB at h
  simp only [Bool.and_eq_true, Bool.or_eq_true, Bool.not_eq_true', decide_eq_true_eq, decide_eq_false_iff_not, List.all_eq_true] at h
  obtain ⟨⟨⟨⟨h1, h2⟩, h3⟩, h5⟩, h4⟩ := h
  refine ⟨h1, h2, h3, fun y hy => ⟨(h4 y hy).1.1, fun e => ?_⟩, h5, fun y hy e => ?_⟩
  · rcases (h4 y hy).1.2 with z | z
    · exact absurd e z
    · exact z
  · rcases (h4 y hy).2 with (z | z) | z
    · exact absurd e z
    · exact .inl z
    · exact .inr z
theorem LamP.has {X : Cx} {scope : Scope} {par : Str} (L : LamP X.env.scope scope par) (ok : X.Ok) : ∀ y ∈ scope.names, y.2 = .free → ∃ c, X.env.cells.lookup y.1 = some c := fun y hy e => by
  rcases L.free y hy e with k | k
  · exact ok.has _ (.inl k)
  · exact ok.has _ (.inr k)
/-- the context of the lambda's body, entered at s from the frames outer: X's names and the parameter -/
def lamCxP (X : Cx) (A : Around) (outer : List Env) (s : Shared) (H : Hp) (scope : Scope) (f c' : Addr) (par : Str) : Cx where
  prog := X.prog
  w := X.w
  K := X.K
  mg := X.mg
  base := X.base
  A := A.deeper (lamEnv X scope s.heap.objs.size f c')
  N := X.N ++ [par]
  s_0 := s
  H_0 := H
  env := lamEnv X scope s.heap.objs.size f c'
  outer := outer
  stack := lamEnv X scope s.heap.objs.size f c' :: outer
  ex := []
  fn := fun _ => false
  calm := true
  pn := []
  xe := fun e s' => wpAny (model X.prog X.w) (A.deeper (lamEnv X scope s.heap.objs.size f c')) (leaving (lamEnv X scope s.heap.objs.size f c') e) (fun _ s'' => L2.CX0 outer H s E0 e s'') (fun e' s'' => L2.CX0 outer H s E0 e' s'') s'
section
variable {X : Cx} {pins : List (Addr × Obj)} {σ : L2.St} {H HZ : Hp} {s s1 : Shared}
theorem lam_startP {A : Around} {outer : List Env} {scope : Scope} {f c' : Addr} {h₁ : Heap} {tk : Nat} {par : Str} {v : V} {u : Value} (I : Inv X pins σ H s) (L : LamP X.env.scope scope par) (hpar : par ∉ X.N) (rv : RelV v u)
    (e0 : Env0 X.prog X.w X.K X.mg X.base A outer s1 HZ) (hd : A.handled = none)
    (un : Un (frs X.stack) [] H HZ s.heap s1.heap) (hns : h₁.Ns s1.heap.objs.size fun y => ([(par, u)] : List (Str × Value)).reverse.lookup y) (kp : ∀ b o, s1.heap.get? b = some o → h₁.get? b = some o) :
    Inv (lamCxP X A outer s1 HZ scope f c' par) [] (σ ++ [some v]) HZ { s1 with heap := h₁, toks := tk } := by
  have hfree := L.has I.ok
  have cm : ∀ {y c}, (cloFrom X.env.cells scope.names []).lookup y = some c → X.env.cells.lookup y = some c := fun {y c} e => by
    rcases cloFrom_mem (PySem.mem_of_lookup e) with hm | ⟨h1, h2⟩
    · cases hm
    · obtain ⟨c1, hc⟩ := hfree _ h1 rfl
      have hc : X.env.cells.lookup y = some c1 := hc
      have e2 : c = c1 := by
        rw [h2, hc] <;> rfl
      rw [e2]
      exact hc
  have look : ∀ {y}, scope.names.lookup y = some .free → ∃ c, (cloFrom X.env.cells scope.names []).lookup y = some c := fun {y} hl => by
    have hy : (y, NameKind.free) ∈ scope.names := PySem.mem_of_lookup hl
    exact mem_lookup (cloFrom_has (cells := X.env.cells) (acc := []) hy)
  have cellK : ∀ {c : Addr} {v : Option Value}, H c = none → s.heap.IsCell c v → h₁.IsCell c v := fun {c v} n ⟨o, ho, hd⟩ => by
    obtain ⟨sl, q⟩ := un.any ho n (by simp)
    exact ⟨_, kp _ _ q, hd⟩
  have noA : ∀ b : Addr, b ∉ (lamCxP X A outer s1 HZ scope f c' par).ex := fun b z => absurd (show b ∈ ([] : List Addr) from z) (by simp)
  refine ⟨⟨e0.mod, L.kind, rfl, rfl, Nat.le_refl _, fun y z c e1 e2 => I.ok.inj y z c (cm e1) (cm e2), fun y hy => ?_, fun y c z _ => ?_, fun _ => hd, Around.frames_deeper e0.frames, .inr ⟨rfl, rfl⟩, fun b z => absurd z (noA b), e0.bs, e0.bsz, fun b _ _ => noA b,
      fun b z => absurd z (noA b), e0.funs, e0.frf⟩,
    rfl, e0.bare, Un.kept kp, ⟨_, hns, fun i y v' e1 e2 e3 => ?_⟩, fun y c e => ?_, e0.hok.fresh (Nat.le_refl _), fun y c e => ?_, fun q hq => absurd (show q ∈ ([] : List (Addr × Obj)) ++ [] from hq) (by simp), e0.hok.kept kp, ?_⟩
  · have hy : scope.names.lookup y = some .cell ∨ scope.names.lookup y = some .free := hy
    rcases hy with hy | hy
    · exact absurd rfl (L.own _ (PySem.mem_of_lookup hy)).1
    · exact look hy
  · have z : false = true := z
    cases z
  · have e3 : Vis scope y := e3
    have e1 : (X.N ++ [par])[i]? = some y := e1
    by_cases hi : i < X.N.length
    · rw [List.getElem?_append_left hi] at e1
      rw [List.getElem?_append_left (by rw [I.len]; exact hi)] at e2
      have ny : y ≠ par := fun z => hpar (by rw [← z]; exact List.mem_of_getElem? e1)
      rcases e3 with k | k | k
      · exact absurd ((L.own _ (PySem.mem_of_lookup k)).2 rfl) ny
      · exact absurd rfl (L.own _ (PySem.mem_of_lookup k)).1
      · obtain ⟨m, hn, hl⟩ := I.loc
        have hvis : Vis X.env.scope y := (L.free _ (PySem.mem_of_lookup k) rfl).elim (fun k => .inr (.inl k)) (fun k => .inr (.inr k))
        obtain ⟨w', r, q⟩ := hl i y v' e1 e2 hvis
        obtain ⟨c2, h2⟩ := look k
        refine ⟨w', r, .inr ⟨.inr k, c2, h2, ?_⟩⟩
        have c1 := cm h2
        rcases q with ⟨k', _⟩ | ⟨_, c3, e', z⟩
        · have k' : X.env.scope.names.lookup y = some .local := k'
          rcases L.free _ (PySem.mem_of_lookup k) rfl with k2 | k2 <;> rw [show X.env.scope.names.lookup y = _ from k2] at k' <;> cases k'
        · rw [c1] at e'
          cases e'
          exact cellK (I.freeC y _ c1) z
    · have hi' : i = X.N.length := by
        have := (List.getElem?_eq_some_iff.mp e1).1
        rw [List.length_append, List.length_singleton] at this
        omega
      subst hi'
      rw [List.getElem?_append_right (Nat.le_refl _), Nat.sub_self] at e1
      rw [← I.len, List.getElem?_append_right (Nat.le_refl _), Nat.sub_self] at e2
      cases e1
      cases e2
      refine ⟨u, rv, .inl ⟨L.par, ?_⟩⟩
      show ([(par, u)] : List (Str × Value)).lookup par = some u
      simp [List.lookup]
  · obtain ⟨w', z⟩ := I.cell y c (cm e)
    exact ⟨w', cellK (I.freeC y c (cm e)) z⟩
  · obtain ⟨v, o, ho, hd⟩ := I.cell y c (cm e)
    exact un.free c o ho (I.freeC y c (cm e)) (by simp)
  · show (σ ++ [some v]).length = (X.N ++ [par]).length
    rw [List.length_append, List.length_append, I.len]
    rfl
/-- the promise of a lambda: its code object, its body's reading -/
def spLam (c' : Addr) (q : Str) (σ : L2.St) (tb : TE) : Sp := fun vs H Q _ => ∃ v, vs = [v] ∧ H c' = some (CodeO c' q) ∧ tb (σ ++ [some v]) H Q
theorem lam_cal {C : CP} {scope : Scope} {par : Str} {params : Arguments} {body : Expr} {pm ctv : Value} {f c' : Addr} {kb : Nat} {tb : TE} (I : Inv X pins σ H s) (L : LamP X.env.scope scope par) (hpar : par ∉ X.N) (hex : X.ex = [])
    (hf : s.heap.get? f = some (PySem.W.kla_obj "<lambda>" (X.env.qual ++ "<lambda>") params body scope (cloFrom X.env.cells scope.names []) pm c' ctv)) (hfn : H f = none) (hfr : f ∉ frs X.stack)
    (hbind : ∀ (q : Str) (cl : List (Str × Addr)) (pm cv ctv u : Value), bindArgs (PySem.W.kla_fn "<lambda>" q params body scope cl pm cv ctv) ⟨[u], []⟩ = pure [(par, u)])
    (hC : ∀ k f sp, C k f sp → Kn X k f sp)
    (hbody : ∀ (A : Around) (outer : List Env) (s1 : Shared) (H1 : Hp), (∀ k f sp, C k f sp → Kn (lamCxP X A outer s1 H1 scope f c' par).nox k f sp) → Room kb (A.deeper (lamEnv X scope s1.heap.objs.size f c')) → PE (lamCxP X A outer s1 H1 scope f c' par).nox body tb) :
    Cal X.prog X.w X.K X.mg X.base X.stack H s (kb + 1) f (spLam c' (X.env.qual ++ "<lambda>") σ tb) := by
  have at1 : ∀ (outer : List Env) (s1 : Shared) (H1 : Hp), Later X.stack H s outer H1 s1 → s1.heap.get? f = some (PySem.W.kla_obj "<lambda>" (X.env.qual ++ "<lambda>") params body scope (cloFrom X.env.cells scope.names []) pm c' ctv) :=
    fun outer s1 H1 l => l.un.keep f _ hf hfn hfr (by simp)
  refine ⟨fun outer s1 H1 l => ⟨_, _, _, _, at1 outer s1 H1 l⟩, fun A outer s1 HZ us vs Q hr e0 l r h => ?_⟩
  obtain ⟨v, rfl, hc, ht⟩ := h
  obtain ⟨u, rfl, rv⟩ : ∃ u, us = [u] ∧ RelV v u := by
    cases r with
    | cons r1 r2 => cases r2 with | nil => exact ⟨_, rfl, r1⟩
  have of1 := at1 outer s1 HZ l
  obtain ⟨⟨oc, ws, t, hoc, hdc, hvc⟩, _, _⟩ := e0.hok c' _ hc
  have lim : s1.heap.NoLimit := e0.mod.nolimit.keeps fun b o e => (e0.bs b o e).1
  refine PySem.W.kla_callFunE hr.depth of1 rfl L.co L.gen rfl ⟨c', oc, ws, t, rfl, hoc, hdc, hvc⟩ ?_
  rw [hbind]
  refine wpAny_pure (wpAny_newFunctionEnv (fun y hy => (L.own y hy).1) (fun y hy => ?_) (fun h₁ hns hsb => ⟨lim.fresh _ hsb, ?_⟩) L.kind)
  · have e : y = (par, u) := by simpa using hy
    rw [e]
    exact L.par
  show codeAny _ _ (.expr body (lamEnv X scope s1.heap.objs.size f c')) _ _
  have kp : ∀ b o, s1.heap.get? b = some o → h₁.get? b = some o := fun b o e => hsb.extBut b o (Nat.ne_of_lt (Heap.lt_size e)) (Heap.get?_push_of_some _ e)
  have J : Inv (lamCxP X A outer s1 HZ scope f c' par) [] (σ ++ [some v]) HZ { s1 with heap := h₁, toks := s1.toks + ([(par, u)] : List (Str × Value)).length } := lam_startP I L hpar rv e0 hr.hd l.un hns kp
  have hb := hbody A outer s1 HZ (fun k f sp c => (hC k f sp c).later ((later_of I hex).trans l)) (hr.deeper _)
  refine PySem.W.kla_codeExpr (wpAny_mono (hb.nox.run [] _ _ HZ Q J ht) (fun v s' hq => ?_) fun e s' hq => hq)
  obtain ⟨w', H', J', rv', q⟩ := hq
  exact ⟨w', H', J'.os, J'.bare, J'.base, J'.hok, rv', q⟩
/-- x(e, ..), x a parameter (or a captured name) that holds what can be called -/
def tCal (C : CP) (k i : Nat) (t : TA) : TE := fun σ H Q => ∃ f sp, σ[i]? = some (some (.ref f)) ∧ C k f sp ∧ t σ H fun vs H1 => sp vs H1 Q E0
theorem pe_cal {C : CP} {k i : Nat} {a : Str} {e : Expr} {es : List Expr} {t : TA} {p pos : Pos} (hC : ∀ k f sp, C k f sp → Kn X k f sp) (hr : Room k X.A) (hN : X.N[i]? = some a) (hv : Vis X.env.scope a) (hex : X.ex = []) (ha : PA X (e :: es) t)
    (hd : (a == ("__debug__" : Str)) = false := by decide) (hcd : (a == ("__classdict__" : Str)) = false := by decide) (he : starEach (e :: es) X.env = (false, eval e X.env) :: starEach es X.env := by rfl) (hpl : (backTo pos (starEach es X.env)).any (·.1) = false := by rfl) :
    PE X (.Call (.Name a p) (e :: es) [] pos) (tCal C k i t) := by
  refine ⟨fun pins s σ H Q I h => ?_⟩
  obtain ⟨f, sp, hs, hc, ht⟩ := h
  refine wpAny_Call_Name_kw (thn ((pe_var (pos := p) (i := i) hN hv hd hcd).run pins s σ H (fun v H1 => v = .ref f ∧ H1 = H) I ⟨.ref f, hs, rfl, rfl⟩) fun u s1 ⟨v, H1, I1, r1, q1⟩ => ?_)
  obtain ⟨ev, eH⟩ := q1
  subst ev
  rw [eH] at I1
  obtain rfl : u = Value.ref f := r1
  have cal := hC k f sp hc
  refine PySem.W.callWith_F (cal.fn _ _ _ (later_of I1 hex)) (thn (ha.run pos pins s1 σ H _ I1 ht) fun us s2 ⟨vs, H2, I2, r, q⟩ => ⟨cal.fn _ _ _ (later_of I2 hex), ?_⟩) he hpl
  refine wpAny_call (codeAny_mono (cal.run X.A X.stack s2 H2 us vs Q hr I2.env0 (later_of I2 hex) r q) fun r s' hq => ?_)
  cases r with
  | error e => exact (show False from hq).elim
  | ok fl =>
    cases fl with
    | ret u => exact I2.after hq
    | next => exact False.elim hq
    | brk => exact False.elim hq
    | cont => exact False.elim hq
/-- x(e, ..), x a local name that holds one of some defs -/
def tCallV (C : Addr → Sp → Prop) (i : Nat) (t : TA) : TE := fun σ H Q => ∃ f sp, σ[i]? = some (some (.ref f)) ∧ C f sp ∧ t σ H fun vs H1 => sp vs H1 Q E0
theorem pe_callV {C : Addr → Sp → Prop} {i : Nat} {a : Str} {e : Expr} {es : List Expr} {t : TA} {p pos : Pos}
    (hC : ∀ f sp, C f sp → ∃ (k : Nat) (fd : FuncData) (ps : List Str), FnOk X.prog X.w X.K X.mg X.base L2.CX0 k f fd ps sp ∧ Room k X.A ∧ PySem.W.keepIn X.K (.ref f) = true ∧ L2.Binds X.K fd ps [])
    (hN : X.N[i]? = some a) (hv : Vis X.env.scope a) (ha : PA X (e :: es) t)
    (hd : (a == ("__debug__" : Str)) = false := by decide) (hcd : (a == ("__classdict__" : Str)) = false := by decide) (he : starEach (e :: es) X.env = (false, eval e X.env) :: starEach es X.env := by rfl) (hpl : (backTo pos (starEach es X.env)).any (·.1) = false := by rfl) :
    PE X (.Call (.Name a p) (e :: es) [] pos) (tCallV C i t) := by
  refine ⟨fun pins s σ H Q I h => ?_⟩
  obtain ⟨f, sp, hs, hc, ht⟩ := h
  refine wpAny_Call_Name_kw (thn ((pe_var (pos := p) (i := i) hN hv hd hcd).run pins s σ H (fun v H1 => v = .ref f ∧ H1 = H) I ⟨.ref f, hs, rfl, rfl⟩) fun u s1 ⟨v, H1, I1, r1, q1⟩ => ?_)
  obtain ⟨ev, eH⟩ := q1
  subst ev
  rw [eH] at I1
  obtain rfl : u = Value.ref f := r1
  obtain ⟨k, fd, ps, F, hr, hk, hb⟩ := hC f sp hc
  refine PySem.W.callWith_K (h₀ := X.base) I1.ok.mod.kin hk (thn (ha.run pos pins s1 σ H _ I1 ht) fun us s2 ⟨vs, H2, I2, r, q⟩ => ⟨I2.kIn, ?_⟩) he hpl
  exact run_fn (dvs := []) (ds := []) F hr hb .nil pass0 I2 r (by rw [List.append_nil]; exact q)
/-- all but the tables stays, the tables are told -/
def Sm (T : List (Addr × Str)) (H H' : Hp) : Prop := ExtN H H' ∧ (Tabs T H → Tabs T H')
theorem Sm.refl {T : List (Addr × Str)} (H : Hp) : Sm T H H := ⟨ExtN.refl H, fun h => h⟩
theorem Sm.trans {T : List (Addr × Str)} {H H1 H2 : Hp} (a : Sm T H H1) (b : Sm T H1 H2) : Sm T H H2 := ⟨a.1.trans b.1, fun h => b.2 (a.2 h)⟩
def tLamC (T : List (Addr × Str)) (q : Str) (spc : CP → Sp) (C : CP) (kb : Nat) (tb : TE) (t : TA) : TE := fun σ H Q => Tabs T H ∧ ∀ (f c' : Addr) (H1 : Hp), Sm T H H1 → H1 c' = some (CodeO c' q) → t σ H1 fun vs H2 =>
  ∀ C' : CP, (∀ k g sp, C k g sp → C' k g sp) → (∀ k sp, kb + 1 ≤ k → (∀ ws H3 Q3, sp ws H3 Q3 E0 → spLam c' q σ tb ws H3 Q3 E0) → C' k f sp) → spc C' (.ref f :: vs) H2 Q E0
/-- x(lambda par: body, e, ..) -/
theorem pe_lamC {T : List (Addr × Str)} {x par : Str} {g c P : Addr} {kg kb : Nat} {fd : FuncData} {ps : List Str} {spc : CP → Sp} {C : CP} {params : Arguments} {body : Expr} {scope : Scope} {tb : TE} {t : TA} {es : List Expr} {p lpos pos : Pos}
    (G : FnOkC X.prog X.w X.K X.mg X.base kg g fd ps spc) (hr : Room kg X.A) (hg : Gl X x) (hm : X.mg x = some (.ref g)) (hk : PySem.W.keepIn X.K (.ref g) = true) (hb : L2.Binds X.K fd ps [])
    (TB : TabB X.base X.mg c P) (hcode : X.env.code = .ref c) (hmT : (P, X.env.qual ++ "<lambda>") ∈ T) (hu : ∀ p ∈ T, p.1 = P → p.2 = X.env.qual ++ "<lambda>")
    (L : LamP X.env.scope scope par) (hpar : par ∉ X.N) (hex : X.ex = []) (hdef : defaultsOf params X.env = ([], []))
    (hbind : ∀ (q : Str) (cl : List (Str × Addr)) (pm cv ctv u : Value), bindArgs (PySem.W.kla_fn "<lambda>" q params body scope cl pm cv ctv) ⟨[u], []⟩ = pure [(par, u)])
    (hC : ∀ k f sp, C k f sp → Kn X k f sp)
    (hbody : ∀ (A : Around) (outer : List Env) (s1 : Shared) (H1 : Hp) (f c' : Addr), (∀ k f sp, C k f sp → Kn (lamCxP X A outer s1 H1 scope f c' par).nox k f sp) → Room kb (A.deeper (lamEnv X scope s1.heap.objs.size f c')) → PE (lamCxP X A outer s1 H1 scope f c' par).nox body tb)
    (ha : PA X es t) (hdb : (x == ("__debug__" : Str)) = false := by decide) (hpl : (backTo pos (starEach es X.env)).any (·.1) = false := by rfl) :
    PE X (.Call (.Name x p) (.Lambda params body scope lpos :: es) [] pos) (tLamC T (X.env.qual ++ "<lambda>") spc C kb tb t) := by
  refine ⟨fun pins s σ H Q I h => ?_⟩
  obtain ⟨hT, h⟩ := h
  refine wpAny_Call_Name_kw (ld_glob I hg hm ?_ hdb)
  refine PySem.W.callWith_K (h₀ := X.base) I.ok.mod.kin hk ?_ (by rfl) hpl
  show wpAny _ _ (spliced ((false, eval (.Lambda params body scope lpos) X.env) :: backTo pos (starEach es X.env))) _ _ s
  refine Calls.spliced_cons (lam_make2 (E := X.xe) I TB hcode hmT hu hT hdef (L.has I.ok) fun f c' pm' ctv H1 s' I1 eN T1 hf hfn hfr hco => ?_)
  have nfL : f ≠ X.env.locals := fun z => by
    obtain ⟨m, ⟨o, es, ep, ho, hd, _⟩, _⟩ := I1.loc
    rw [← z, hf] at ho
    cases ho
    cases hd
  have nfs : f ∉ X.fs := fun z => hfr (by
    rcases I1.ok.stk with e | ⟨e, hfm⟩
    · rw [e]; exact z
    · rw [e]
      unfold frs
      rw [List.filterMap_cons, hfm]
      exact List.mem_cons_of_mem _ z)
  have I2 : Inv X ((f, PySem.W.kla_obj "<lambda>" (X.env.qual ++ "<lambda>") params body scope (cloFrom X.env.cells scope.names []) pm' c' ctv) :: pins) σ H1 s' := I1.pins_of fun q hq => by
    rcases List.mem_cons.mp hq with e | hq
    · rw [e]
      exact ⟨hf, hfn, nfL, nfs, fun v z => by cases z⟩
    · exact I1.pin q (List.mem_append_right _ hq)
  refine thn (ha.run pos _ s' σ H1 _ I2 (h f c' H1 ⟨eN, fun _ => T1⟩ hco)) fun us s2 ⟨vs, H2, I3, r, q⟩ => ⟨I3.kIn, ?_⟩
  obtain ⟨pf, pn, _, _, _⟩ := I3.pin _ (List.mem_append_right _ (List.mem_cons_self (a := (f, PySem.W.kla_obj "<lambda>" (X.env.qual ++ "<lambda>") params body scope (cloFrom X.env.cells scope.names []) pm' c' ctv))))
  have I4 : Inv X pins σ H2 s2 := I3.pins_of fun q hq => I3.pin q (List.mem_append_right _ (List.mem_cons_of_mem _ hq))
  have cal := lam_cal (C := C) (f := f) (c' := c') (kb := kb) (tb := tb) I4 L hpar hex pf pn hfr hbind hC fun A outer s1 H1 hk hr => hbody A outer s1 H1 f c' hk hr
  have hsp := q (Cal X.prog X.w X.K X.mg X.base X.stack H2 s2) (fun k g sp z => (hC k g sp z).later (later_of I4 hex)) (fun k sp hk z => cal.imp hk z)
  have r2 : Vals (.ref f :: vs) (.ref f :: us) := .cons rfl r
  have hl : (Value.ref f :: us).length = ps.length := by rw [← r2.length]; exact G.len _ _ _ _ _ hsp
  have hbi := hb s2 (.ref f :: us) I4.kIn (by rw [List.append_nil]; exact hl)
  rw [List.append_nil] at hbi
  refine wpAny_call (codeAny_mono (G.run X.A X.stack s2 H2 ⟨.ref f :: us, []⟩ (.ref f :: us) (.ref f :: vs) Q hr I4.env0 hbi r2 hsp) fun r s' hq => ?_)
  cases r with
  | error e => exact (show False from hq).elim
  | ok fl =>
    cases fl with
    | ret u => exact I4.after hq
    | next => exact False.elim hq
    | brk => exact False.elim hq
    | cont => exact False.elim hq
end
theorem Sm.of {T : List (Addr × Str)} {H H' : Hp} (a : Same H H') : Sm T H H' := ⟨fun b o e _ => a b o e, fun h => h.ext a⟩
theorem Sm.at {T : List (Addr × Str)} {H H' : Hp} {a : Addr} {o : HO} (s : Sm T H H') (h : H a = some o) (n : ∀ ps, o ≠ .tbl ps := by intro ps z; cases z) : H' a = some o := s.1 a o h n
theorem Sm.new {T : List (Addr × Str)} {H H' : Hp} {r : Addr} {o : HO} (s : Sm T H H') (h : H' r = none) : Sm T H (upd H' r o) := s.trans (.of fun q u e => by rw [upd_ne (ne_of_none e h)]; exact e)
theorem Sm.mut {T : List (Addr × Str)} {H H' : Hp} {r : Addr} {o u : HO} (s : Sm T H H') (hn : H r = none) (h : H' r = some u) (hu : ∀ ps, u ≠ .tbl ps := by intro ps z; cases z) (hc : ∀ c q, u ≠ CodeO c q := by intro c q z; cases z) : Sm T H (upd H' r o) := by
  refine ⟨fun b w e n => ?_, fun t p hp => ?_⟩
  · rw [upd_ne (ne_of_none e hn)]
    exact s.1 b w e n
  · obtain ⟨ps, a1, a2, a3⟩ := s.2 t p hp
    refine ⟨ps, by rw [upd_ne (fun z => by rw [z, h] at a1; cases a1; exact hu ps rfl)]; exact a1, a2, fun pos cv e => ?_⟩
    obtain ⟨c, e1, e2⟩ := a3 pos cv e
    exact ⟨c, e1, by rw [upd_ne (fun z => by rw [z, h] at e2; exact hc _ _ (Option.some.inj e2))]; exact e2⟩
theorem Sm.seqT {K : PySem.W.Frag} {T : List (Addr × Str)} {H H' : Hp} {a : Addr} {xs : List V} (s : Sm T H H') (h : SqL K H a xs) : SqL K H' a xs := by
  rcases h with (h | ⟨o, h⟩) | h
  · exact .inl (.inl (s.at h))
  · exact .inl (.inr ⟨o, s.at h⟩)
  · exact .inr h
theorem tabIn_of {K : PySem.W.Frag} {x : Str} {f c P : Addr} {oc o1 : Value} {od o2 : Option Addr} {fd : FuncData} {sl o3 : Array (Option Value)} {vs : Array Value} (a : PySem.W.nsIn K mainGlobals x = some (some (.ref f))) (l : K.lookup f = some ⟨oc, od, .func fd, sl⟩) (hc : fd.code = .ref c)
    (lc : K.lookup c = some ⟨o1, o2, .fields vs, o3⟩) (hv : vs[11]? = some (.ref P)) : PySem.W.tabIn K x = some (c, P) := by
  unfold PySem.W.tabIn
  rw [a]
  simp only [l, hc, lc, hv]
theorem no_tab {K : PySem.W.Frag} {h : Heap} {P : Addr} (X : K.In h) (hP : h.get? P = some { cls := .none, data := .fields #[] }) (hK : PySem.W.noTabs K = true) : K.lookup P = none := by
  cases q : K.lookup P with
  | none => rfl
  | some o =>
    have e := X _ _ q
    rw [hP] at e
    cases e
    have h2 := List.all_eq_true.mp hK (P, _) (PySem.W.mem_of_lookupK q)
    exact absurd (show false = true from h2) Bool.false_ne_true
theorem tab_uniq : ∀ {l : List (Addr × Str)}, (l.map (·.1)).Nodup → ∀ {P : Addr} {s : Str}, (P, s) ∈ l → ∀ p ∈ l, p.1 = P → p.2 = s
  | [], _, _, _, h => by cases h
  | q :: r, nd, P, s, h => fun p hp e => by
    rw [List.map_cons, List.nodup_cons] at nd
    rcases List.mem_cons.mp h with h | h
    · rcases List.mem_cons.mp hp with hp | hp
      · rw [hp, ← h]
      · exact absurd (List.mem_map.mpr ⟨p, hp, by rw [e, ← h]⟩) nd.1
    · rcases List.mem_cons.mp hp with hp | hp
      · exact absurd (List.mem_map.mpr ⟨_, h, by rw [← e, hp]⟩) nd.1
      · exact tab_uniq nd.2 h p hp e
/-- the end, with tables -/
theorem walk_tabs {l : PySem.W.OpenLaw} {n k : Nat} {q : Program} {loose : List Str} {XP : (Str → Option Value) → Heap → Prop} {YP : World → Heap → Prop} {d : DefRec} {K : Params → PySem.W.Frag} {CX : World → CXT} {x : Str}
    (hn : l.most = some n) (hn2 : n ≤ sizeLine) (hdf : d.params.defaults = []) (hr : Room k callerA) (hY : ∀ (w : World) (h : Heap), YP w h → (K w.params).In h)
    (F : ∀ (w : World) (mg : Str → Option Value) (fa : Addr) (h : Heap), (∀ (y : Str) (c P : Addr), ((recsOf q).find? (fun e => e.name == y)).isSome = true → PySem.W.tabIn (K w.params) y = some (c, P) → PySem.W.CodeHd h c P ∧ h.get? P = some { cls := .none, data := .fields #[] }) →
      (K w.params).In h → h.Ns mainGlobals mg → mg d.name = some (.ref fa) → LawAtS l w (K w.params) (CX w) k n x mg fa h)
    (hCX : ∀ (w : World) (H : Hp) (s : Shared) (e : Value) (s' : Shared), CX w [] H s (fun _ _ _ => False) e s' → False) :
    PySem.W.WalkO q loose XP YP l.row.toRowW d [] (fun f vs => PySem.call f vs) := by
  refine Att.attach_callB hn hdf fun w s₀ s₁ mg mb fa o pm cd doc a vs ns G Y ho hd hcd hmg hobj hints hlen hbits hg => ?_
  have KX := hY w _ Y
  obtain ⟨fd, cs, sp, hT, nT, C, hb, hsp, hF⟩ := F w mg fa _ (fun y c P hr ht => by
    obtain ⟨d', hd'⟩ := Option.isSome_iff_exists.mp hr
    exact PySem.W.tab_of G.T KX hd' ht) KX G.T.g hmg
  exact law_callTs KX G.T.g G.T.b G.T.builtins G.T.nolimit hg hT nT C G.T.bmain hobj hints (Nat.le_trans hlen hn2) hr hF hb (fun H hH hS => hsp H a ns hlen hbits hH hS) fun H e s' => hCX w H s₁ e s'
end Fw
namespace Fw
/-! ### sums, counts -/
def sZ (f : Nat → Int) : Nat → Int
  | 0 => 0
  | n + 1 => sZ f n + f n
theorem sZ_congr {f g : Nat → Int} : ∀ {n : Nat}, (∀ i, i < n → f i = g i) → sZ f n = sZ g n
  | 0, _ => rfl
  | n + 1, h => by
    show sZ f n + f n = sZ g n + g n
    rw [sZ_congr (n := n) fun i hi => h i (by omega), h n (by omega)]
theorem sZ_add (f g : Nat → Int) : ∀ n : Nat, sZ (fun i => f i + g i) n = sZ f n + sZ g n
  | 0 => rfl
  | n + 1 => by
    show sZ _ n + (f n + g n) = (sZ f n + f n) + (sZ g n + g n)
    rw [sZ_add f g n]; omega
theorem sZ_sub (f g : Nat → Int) : ∀ n : Nat, sZ (fun i => f i - g i) n = sZ f n - sZ g n
  | 0 => rfl
  | n + 1 => by
    show sZ _ n + (f n - g n) = (sZ f n + f n) - (sZ g n + g n)
    rw [sZ_sub f g n]; omega
theorem sZ_zero : ∀ n : Nat, sZ (fun _ => 0) n = 0
  | 0 => rfl
  | n + 1 => by
    show sZ _ n + 0 = 0
    rw [sZ_zero n]; rfl
theorem sZ_const (c : Int) : ∀ n : Nat, sZ (fun _ => c) n = n * c
  | 0 => by simp [sZ]
  | n + 1 => by
    show sZ _ n + c = _
    rw [sZ_const c n, Int.natCast_succ, Int.add_mul, Int.one_mul]
theorem sZ_mul (c : Int) (f : Nat → Int) : ∀ n : Nat, sZ (fun i => c * f i) n = c * sZ f n
  | 0 => by simp [sZ]
  | n + 1 => by
    show sZ _ n + c * f n = c * (sZ f n + f n)
    rw [sZ_mul c f n, Int.mul_add]
theorem sZ_head (f : Nat → Int) : ∀ n : Nat, sZ f (n + 1) = f 0 + sZ (fun i => f (i + 1)) n
  | 0 => by simp [sZ]
  | n + 1 => by
    show sZ f (n + 1) + f (n + 1) = f 0 + (sZ (fun i => f (i + 1)) n + f (n + 1))
    rw [sZ_head f n]; omega
theorem sZ_rev (f : Nat → Int) : ∀ n : Nat, sZ (fun i => f (n - 1 - i)) n = sZ f n
  | 0 => rfl
  | n + 1 => by
    rw [sZ_head]
    show f (n + 1 - 1 - 0) + _ = sZ f n + f n
    have e : sZ (fun i => f (n + 1 - 1 - (i + 1))) n = sZ (fun i => f (n - 1 - i)) n := sZ_congr fun i _ => by
      show f _ = f _
      congr 1; omega
    rw [e, sZ_rev f n, Nat.add_sub_cancel, Nat.sub_zero]; omega
theorem sZ_swap (f : Nat → Nat → Int) (m : Nat) : ∀ n : Nat, sZ (fun i => sZ (fun j => f i j) m) n = sZ (fun j => sZ (fun i => f i j) n) m
  | 0 => by
    show 0 = sZ (fun _ => 0) m
    rw [sZ_zero]
  | n + 1 => by
    show sZ _ n + sZ _ m = _
    rw [sZ_swap f m n, ← sZ_add]
    rfl
theorem sZ_split (f : Nat → Int) (n : Nat) : ∀ m : Nat, sZ f (n + m) = sZ f n + sZ (fun i => f (n + i)) m
  | 0 => by show sZ f n = sZ f n + 0; omega
  | m + 1 => by
    show sZ f (n + m) + f (n + m) = sZ f n + (sZ _ m + f (n + m))
    rw [sZ_split f n m]; omega
theorem sZ_nonneg {f : Nat → Int} : ∀ {n : Nat}, (∀ i, i < n → 0 ≤ f i) → 0 ≤ sZ f n
  | 0, _ => Int.le_refl 0
  | n + 1, h => by
    have a := sZ_nonneg (f := f) (n := n) fun i hi => h i (by omega)
    have b := h n (by omega)
    show 0 ≤ sZ f n + f n
    omega
/-- n (n - 1) / 2 -/
theorem sZ_id : ∀ n : Nat, sZ (fun i => (i : Int)) n = (n : Int) * ((n : Int) - 1) / 2
  | 0 => by simp [sZ]
  | n + 1 => by
    show sZ _ n + (n : Int) = _
    rw [sZ_id n]
    have e : ((n + 1 : Nat) : Int) * (((n + 1 : Nat) : Int) - 1) = (n : Int) * ((n : Int) - 1) + 2 * n := by
      rw [Int.natCast_succ, show (n : Int) + 1 - 1 = n by omega, Int.add_mul, Int.mul_sub]
      omega
    rw [e, Int.mul_comm 2 (n : Int), Int.add_mul_ediv_right _ _ (by decide)]
/-! ### sums of quotients -/
def QS (a b m : Int) (n : Nat) : Int := sZ (fun i => (a * i + b) / m) n
theorem QS_red (a b : Int) {m : Int} (hm : 0 < m) (n : Nat) : QS a b m n = (n : Int) * ((n : Int) - 1) / 2 * (a / m) + (n : Int) * (b / m) + QS (a % m) (b % m) m n := by
  unfold QS
  have e : sZ (fun i => (a * (i : Int) + b) / m) n = sZ (fun i => ((a / m) * (i : Int) + b / m) + (a % m * (i : Int) + b % m) / m) n := sZ_congr fun i _ => by
    have ea := Int.emod_add_mul_ediv a m
    have eb := Int.emod_add_mul_ediv b m
    have z : a * (i : Int) + b = (a % m * (i : Int) + b % m) + m * ((a / m) * (i : Int) + b / m) := by
      have h1 : a * (i : Int) = (a % m + m * (a / m)) * (i : Int) := by rw [ea]
      rw [h1, Int.add_mul, Int.mul_add, Int.mul_assoc]
      omega
    show (a * (i : Int) + b) / m = _
    rw [z, Int.add_mul_ediv_left _ _ (Int.ne_of_gt hm)]
    omega
  rw [e, sZ_add, sZ_add, sZ_mul, sZ_const, sZ_id, Int.mul_comm (a / m)]
/-- how often (j + 1) m ≤ y -/
theorem sZ_le {m y : Int} (hm : 0 < m) (hy : 0 ≤ y) : ∀ n : Nat, y / m ≤ n → sZ (fun j => if ((j : Int) + 1) * m ≤ y then 1 else 0) n = y / m
  | 0, h => by
    have := Int.ediv_nonneg hy (Int.le_of_lt hm)
    show 0 = y / m
    omega
  | n + 1, h => by
    have iff : ((n : Int) + 1) * m ≤ y ↔ (n : Int) + 1 ≤ y / m := (Int.le_ediv_iff_mul_le hm).symm
    show sZ _ n + (if ((n : Int) + 1) * m ≤ y then 1 else 0) = y / m
    by_cases c : (n : Int) + 1 ≤ y / m
    · have e : y / m = (n : Int) + 1 := by omega
      rw [if_pos (iff.mpr c), e]
      have all : sZ (fun j => if ((j : Int) + 1) * m ≤ y then 1 else 0) n = sZ (fun _ => 1) n := sZ_congr fun j hj => by
        have : ((j : Int) + 1) * m ≤ y := (Int.le_ediv_iff_mul_le hm).mp (by omega)
        rw [if_pos this]
      rw [all, sZ_const]; omega
    · rw [if_neg fun z => c (iff.mp z), sZ_le hm hy n (by omega)]; omega
/-- the points below a line, row by row -/
theorem QS_turn {a b m : Int} (ha : 0 < a) (ham : a < m) (hb : 0 ≤ b) (hbm : b < m) (n : Nat) {N : Nat} (hN : (N : Int) = (a * n + b) / m) : QS a b m n = QS m ((a * n + b) % m) a N := by
  have hm : 0 < m := by omega
  unfold QS
  have hai : ∀ i : Nat, 0 ≤ a * (i : Int) := fun i => Int.mul_nonneg (Int.le_of_lt ha) (Int.natCast_nonneg i)
  have e1 : sZ (fun i => (a * (i : Int) + b) / m) n = sZ (fun i => sZ (fun j => if ((j : Int) + 1) * m ≤ a * (i : Int) + b then 1 else 0) N) n := sZ_congr fun i hi => by
    refine (sZ_le hm (by have := hai i; omega) N ?_).symm
    rw [hN]
    refine Int.ediv_le_ediv hm ?_
    have : a * (i : Int) ≤ a * (n : Int) := Int.mul_le_mul_of_nonneg_left (by omega) (Int.le_of_lt ha)
    omega
  rw [e1, sZ_swap]
  have e2 : sZ (fun j => sZ (fun i => if ((j : Int) + 1) * m ≤ a * (i : Int) + b then 1 else 0) n) N = sZ (fun j => (a * n + b - ((j : Int) + 1) * m) / a) N := sZ_congr fun j hj => by
    rw [← sZ_rev]
    have hjm : ((j : Int) + 1) * m ≤ a * n + b := (Int.le_ediv_iff_mul_le hm).mp (by omega)
    have hm1 : m ≤ ((j : Int) + 1) * m := by
      have : 1 * m ≤ ((j : Int) + 1) * m := Int.mul_le_mul_of_nonneg_right (by omega) (Int.le_of_lt hm)
      omega
    refine Eq.trans (sZ_congr fun i hi => ?_) (sZ_le ha (y := a * n + b - ((j : Int) + 1) * m) (by omega) n ?_)
    · have e : a * ((n - 1 - i : Nat) : Int) = a * n - ((i : Int) + 1) * a := by
        rw [show ((n - 1 - i : Nat) : Int) = (n : Int) - ((i : Int) + 1) by omega, Int.mul_sub, Int.mul_comm a ((i : Int) + 1)]
      show (if ((j : Int) + 1) * m ≤ a * ((n - 1 - i : Nat) : Int) + b then (1 : Int) else 0) = _
      rw [e]
      by_cases c : ((i : Int) + 1) * a ≤ a * n + b - ((j : Int) + 1) * m
      · rw [if_pos c, if_pos (by omega)]
      · rw [if_neg c, if_neg (by omega)]
    · have : (a * n + b - ((j : Int) + 1) * m) / a ≤ (a * n) / a := Int.ediv_le_ediv ha (by omega)
      rw [Int.mul_ediv_cancel_left _ (Int.ne_of_gt ha)] at this
      exact this
  rw [e2, ← sZ_rev]
  refine sZ_congr fun t ht => ?_
  have er := Int.emod_add_mul_ediv (a * n + b) m
  show (a * n + b - (((N - 1 - t : Nat) : Int) + 1) * m) / a = (m * t + (a * n + b) % m) / a
  congr 1
  rw [show ((N - 1 - t : Nat) : Int) + 1 = (N : Int) - t by omega, Int.sub_mul, hN, Int.mul_comm _ m, Int.mul_comm _ m]
  omega
theorem QS_zero {a b m : Int} (ha : 0 ≤ a) (hb : 0 ≤ b) (n : Nat) (h : a * n + b < m) : QS a b m n = 0 := by
  unfold QS
  have e : sZ (fun i => (a * (i : Int) + b) / m) n = sZ (fun _ => 0) n := sZ_congr fun i hi => by
    have h1 : a * (i : Int) ≤ a * (n : Int) := Int.mul_le_mul_of_nonneg_left (by omega) ha
    exact Int.ediv_eq_zero_of_lt (by have := Int.mul_nonneg ha (Int.natCast_nonneg i); omega) (by omega)
  rw [e, sZ_zero]
/-! ### how many x from first on -/
def cN (p : Int → Bool) (first : Int) (n : Nat) : Int := sZ (fun i => if p (first + i) = true then 1 else 0) n
def tot (p : Int → Bool) (first last : Int) : Int := cN p first (last - first + 1).toNat
theorem tot_nonneg (p : Int → Bool) (first last : Int) : 0 ≤ tot p first last := sZ_nonneg fun i _ => by
  show 0 ≤ (if p (first + i) = true then (1 : Int) else 0)
  split <;> decide
theorem tot_none {p : Int → Bool} {first last : Int} (h : last < first) : tot p first last = 0 := by
  unfold tot
  rw [show (last - first + 1).toNat = 0 by omega]
  rfl
theorem tot_step (p : Int → Bool) {first last : Int} (h : first ≤ last) : tot p first last = tot p first (last - 1) + (if p last = true then 1 else 0) := by
  unfold tot
  rw [show (last - first + 1).toNat = (last - 1 - first + 1).toNat + 1 by omega]
  show cN p first _ + (if p (first + (((last - 1 - first + 1).toNat : Nat) : Int)) = true then 1 else 0) = _
  rw [show first + (((last - 1 - first + 1).toNat : Nat) : Int) = last by omega]
theorem tot_split (p : Int → Bool) {first mid last : Int} (h1 : first - 1 ≤ mid) (h2 : mid ≤ last) : tot p first last = tot p first mid + tot p (mid + 1) last := by
  unfold tot cN
  rw [show (last - first + 1).toNat = (mid - first + 1).toNat + (last - (mid + 1) + 1).toNat by omega, sZ_split]
  congr 1
  refine sZ_congr fun i _ => ?_
  rw [show first + (((mid - first + 1).toNat + i : Nat) : Int) = mid + 1 + i by omega]
theorem tot_mono (p : Int → Bool) {first m n : Int} (h : m ≤ n) : tot p first m ≤ tot p first n := by
  by_cases c : first - 1 ≤ m
  · rw [tot_split p c h]
    have := tot_nonneg p (m + 1) n
    omega
  · rw [tot_none (p := p) (show m < first by omega)]
    exact tot_nonneg p first n
theorem tot_one (p : Int → Bool) (x : Int) : tot p x x = if p x = true then 1 else 0 := by
  rw [tot_step p (Int.le_refl x), tot_none (show x - 1 < x by omega)]; omega
theorem tot_congr {p q : Int → Bool} {first last : Int} (h : ∀ x, first ≤ x → x ≤ last → p x = q x) : tot p first last = tot q first last := by
  unfold tot cN
  refine sZ_congr fun i hi => ?_
  rw [h (first + i) (by omega) (by omega)]
theorem tot_pos {p : Int → Bool} {first last x : Int} (h1 : first ≤ x) (h2 : x ≤ last) (hp : p x = true) : 0 < tot p first last := by
  have a := tot_mono p (first := first) h2
  rw [tot_step p h1, if_pos hp] at a
  have := tot_nonneg p first (x - 1)
  omega
theorem tot_zero_iff {p : Int → Bool} {first last : Int} : tot p first last = 0 ↔ ∀ x, first ≤ x → x ≤ last → p x = false := by
  constructor
  · intro h x h1 h2
    cases e : p x with
    | false => rfl
    | true => have := tot_pos h1 h2 e; omega
  · intro h
    rw [tot_congr (q := fun _ => false) h]
    unfold tot cN
    rw [show (fun i : Nat => if (fun _ : Int => false) (first + i) = true then (1 : Int) else 0) = fun _ => 0 from rfl, sZ_zero]
theorem tot_le (p : Int → Bool) {first last : Int} (h : first ≤ last + 1) : tot p first last ≤ last - first + 1 := by
  have key : ∀ n : Nat, cN p first n ≤ n := fun n => by
    induction n with
    | zero => exact Int.le_refl 0
    | succ n ih =>
      show cN p first n + (if p (first + n) = true then 1 else 0) ≤ _
      split <;> omega
  have := key (last - first + 1).toNat
  unfold tot
  omega
theorem tot_all_iff {p : Int → Bool} {first last : Int} (h : first ≤ last + 1) : tot p first last = last - first + 1 ↔ ∀ x, first ≤ x → x ≤ last → p x = true := by
  have neg : tot p first last + tot (fun x => !p x) first last = last - first + 1 := by
    unfold tot cN
    rw [← sZ_add, sZ_congr (g := fun _ => 1) fun i _ => (by show ((if p (first + i) = true then (1 : Int) else 0) + if (!p (first + i)) = true then 1 else 0) = 1; cases p (first + i) <;> rfl), sZ_const]
    omega
  constructor
  · intro e x h1 h2
    have := tot_zero_iff.mp (show tot (fun x => !p x) first last = 0 by omega) x h1 h2
    cases q : p x with
    | true => rfl
    | false => rw [q] at this; cases this
  · intro e
    have : tot (fun x => !p x) first last = 0 := tot_zero_iff.mpr fun x h1 h2 => by
      show (!p x) = false
      rw [e x h1 h2]; rfl
    omega
theorem tot_not {p : Int → Bool} {first last : Int} (h : first ≤ last + 1) : tot (fun x => !p x) first last = last - first + 1 - tot p first last := by
  have neg : tot p first last + tot (fun x => !p x) first last = last - first + 1 := by
    unfold tot cN
    rw [← sZ_add, sZ_congr (g := fun _ => 1) fun i _ => (by show ((if p (first + i) = true then (1 : Int) else 0) + if (!p (first + i)) = true then 1 else 0) = 1; cases p (first + i) <;> rfl), sZ_const]
    omega
  omega
/-- moving along -/
theorem tot_shift (p : Int → Bool) (first last d : Int) : tot (fun x => p (x + d)) first last = tot p (first + d) (last + d) := by
  unfold tot cN
  rw [show (last + d - (first + d) + 1).toNat = (last - first + 1).toNat by omega]
  refine sZ_congr fun i _ => ?_
  show (if p (first + (i : Int) + d) = true then (1 : Int) else 0) = _
  rw [show first + (i : Int) + d = first + d + i by omega]
/-- turning round -/
theorem tot_turn (p : Int → Bool) (first last : Int) : tot (fun x => p (-x)) first last = tot p (-last) (-first) := by
  unfold tot cN
  rw [show (-first - -last + 1).toNat = (last - first + 1).toNat by omega, ← sZ_rev]
  refine sZ_congr fun i hi => ?_
  show (if p (-(first + (((last - first + 1).toNat - 1 - i : Nat) : Int))) = true then (1 : Int) else 0) = _
  rw [show -(first + (((last - first + 1).toNat - 1 - i : Nat) : Int)) = -last + i by omega]
/-! ### the results of a line within bounds -/
/-- of the integers that are equal to y modulo m, one is from lo to hi -/
def inR (m lo hi y : Int) : Bool := decide (lo ≤ hi ∧ (y - lo) % m ≤ hi - lo)
theorem inR_quot {m lo hi : Int} (hm : 0 < m) (h1 : lo ≤ hi) (h2 : hi - lo < m) (y : Int) : (y - lo) / m - (y - hi - 1) / m = if inR m lo hi y = true then 1 else 0 := by
  have d1 := Int.emod_add_mul_ediv (y - lo) m
  have r0 := Int.emod_nonneg (y - lo) (Int.ne_of_gt hm)
  have r1 := Int.emod_lt_of_pos (y - lo) hm
  unfold inR
  by_cases c : (y - lo) % m ≤ hi - lo
  · rw [if_pos (decide_eq_true ⟨h1, c⟩)]
    have e : y - hi - 1 = ((y - lo) % m + (m - (hi - lo) - 1)) + m * ((y - lo) / m - 1) := by
      rw [Int.mul_sub, Int.mul_one]; omega
    have z := Int.ediv_eq_zero_of_lt (a := (y - lo) % m + (m - (hi - lo) - 1)) (b := m) (by omega) (by omega)
    rw [e, Int.add_mul_ediv_left _ _ (Int.ne_of_gt hm), z]
    omega
  · rw [if_neg (by rw [decide_eq_true_eq]; exact fun z => c z.2)]
    have e : y - hi - 1 = ((y - lo) % m - (hi - lo) - 1) + m * ((y - lo) / m) := by omega
    have z := Int.ediv_eq_zero_of_lt (a := (y - lo) % m - (hi - lo) - 1) (b := m) (by omega) (by omega)
    rw [e, Int.add_mul_ediv_left _ _ (Int.ne_of_gt hm), z]
    omega
/-- what quotient_total tells -/
def QT (a b m first last : Int) : Int := sZ (fun i => (a * (first + i) + b) / m) (last - first + 1).toNat
theorem QT_QS (a b m first last : Int) : QT a b m first last = QS a (b + a * first) m (last - first + 1).toNat := by
  unfold QT QS
  refine sZ_congr fun i _ => ?_
  rw [Int.mul_add]
  congr 1; omega
theorem QT_between {a b m first last lo hi : Int} (hm : 0 < m) (h1 : lo ≤ hi) (h2 : hi - lo < m) : QT a (b - lo) m first last - QT a (b - hi - 1) m first last = tot (fun x => inR m lo hi (a * x + b)) first last := by
  unfold QT tot cN
  rw [← sZ_sub]
  refine sZ_congr fun i _ => ?_
  rw [← inR_quot hm h1 h2]
  rw [show a * (first + (i : Int)) + (b - lo) = a * (first + (i : Int)) + b - lo by omega, show a * (first + (i : Int)) + (b - hi - 1) = a * (first + (i : Int)) + b - hi - 1 by omega]
theorem inR_none {m lo hi : Int} (h : hi < lo) (y : Int) : inR m lo hi y = false := decide_eq_false fun z => by omega
theorem tot_never {p : Int → Bool} (h : ∀ x, p x = false) (first last : Int) : tot p first last = 0 := tot_zero_iff.mpr fun x _ _ => h x
end Fw
namespace Fw
/-! ### the wanted ones, in a row -/
def wl (p : Int → Bool) (f : Int) (n : Nat) : List Int := ((List.range n).map fun i : Nat => f + (i : Int)).filter p
theorem wl_succ (p : Int → Bool) (f : Int) (n : Nat) : wl p f (n + 1) = wl p f n ++ (if p (f + n) = true then [f + (n : Int)] else []) := by
  unfold wl
  rw [List.range_succ, List.map_append, List.filter_append, List.map_singleton]
  congr 1
  cases h : p (f + (n : Int)) with
  | true => rw [List.filter_cons_of_pos h, if_pos rfl]; rfl
  | false => rw [List.filter_cons_of_neg (by rw [h]; exact Bool.false_ne_true), if_neg Bool.false_ne_true]; rfl
theorem wl_len (p : Int → Bool) (f : Int) : ∀ n : Nat, ((wl p f n).length : Int) = cN p f n
  | 0 => rfl
  | n + 1 => by
    rw [wl_succ, List.length_append]
    show _ = cN p f n + (if p (f + n) = true then 1 else 0)
    rw [← wl_len p f n]
    split <;> simp
theorem wl_tot {p : Int → Bool} {f l : Int} {n : Nat} (h : l - f + 1 = n) : ((wl p f n).length : Int) = tot p f l := by
  rw [wl_len]
  unfold tot
  rw [show (l - f + 1).toNat = n by omega]
theorem wl_mem {p : Int → Bool} {f : Int} {n : Nat} {x : Int} : x ∈ wl p f n ↔ f ≤ x ∧ x < f + n ∧ p x = true := by
  unfold wl
  rw [List.mem_filter, List.mem_map]
  constructor
  · rintro ⟨⟨i, hi, rfl⟩, h⟩
    have := List.mem_range.mp hi
    exact ⟨by omega, by omega, h⟩
  · rintro ⟨h1, h2, h3⟩
    exact ⟨⟨(x - f).toNat, List.mem_range.mpr (by omega), by omega⟩, h3⟩
/-- number k has k ahead -/
theorem wl_get {p : Int → Bool} {f : Int} : ∀ {n k : Nat} {x : Int}, (wl p f n)[k]? = some x → f ≤ x ∧ x < f + n ∧ p x = true ∧ tot p f (x - 1) = k
  | 0, k, x, h => by simp [wl] at h
  | n + 1, k, x, h => by
    rw [wl_succ] at h
    by_cases c : k < (wl p f n).length
    · rw [List.getElem?_append_left c] at h
      obtain ⟨a, b, d, e⟩ := wl_get h
      exact ⟨a, by omega, d, e⟩
    · rw [List.getElem?_append_right (by omega)] at h
      by_cases hp : p (f + n) = true
      · rw [if_pos hp] at h
        have e0 : k - (wl p f n).length = 0 := by
          have := (List.getElem?_eq_some_iff.mp h).1
          simpa using this
        rw [e0] at h
        have ex : f + (n : Int) = x := by simpa using h
        subst ex
        refine ⟨by omega, by omega, hp, ?_⟩
        rw [← wl_tot (n := n) (by omega)]
        omega
      · rw [if_neg hp] at h
        simp at h
theorem at_unique {p : Int → Bool} {f x y j : Int} (x1 : f ≤ x) (px : p x = true) (xj : tot p f (x - 1) = j) (y1 : f ≤ y) (py : p y = true) (yj : tot p f (y - 1) = j) : x = y := by
  rcases Int.lt_trichotomy x y with h | h | h
  · have := tot_mono p (first := f) (show x ≤ y - 1 by omega)
    rw [tot_step p x1, if_pos px] at this
    omega
  · exact h
  · have := tot_mono p (first := f) (show y ≤ x - 1 by omega)
    rw [tot_step p y1, if_pos py] at this
    omega
theorem wl_at {p : Int → Bool} {f : Int} {n k : Nat} {x y : Int} (h : (wl p f n)[k]? = some x) (y1 : f ≤ y) (py : p y = true) (yj : tot p f (y - 1) = k) : y = x := by
  obtain ⟨a, _, c, d⟩ := wl_get h
  exact at_unique y1 py yj a c d
theorem wl_nil {p : Int → Bool} {f l : Int} {n : Nat} (h : l - f + 1 = n) : wl p f n = [] ↔ tot p f l = 0 := by
  rw [← wl_tot h, ← List.length_eq_zero_iff]; omega
end Fw
namespace Fw
open PySem PySem.Spec PyProof.Rows L2
/-! ### ranges of any ints -/
theorem turn_long {P : Program} {w : World} {K : PySem.W.Frag} {tg : Expr} (it : Addr) (lo : Int) (n : Nat) : Turn P w K tg (Itr lo n) [it] it (fun i h => IsLongIter h it (lo + (i : Nat) * 1) ((n : Int) - (i : Nat)) 1) where
  mem := by simp
  obj := fun i h st b hb => by
    have e : b = it := by simpa using hb
    subst e
    exact ⟨_, st, fun v z => by
      have z' : Data.fields _ = Data.cell v := z
      cases z'⟩
  keep := fun i h h' st k => k it (by simp) _ st
  item := by
    intro X hP hw hK hc i pins s σ H E I hf st hg
    subst hP hw hK
    obtain ⟨f0, f1, f2, f3, f4, f5⟩ := hf it (by simp)
    have W := Walks.longrange (prog := X.prog) (w := X.w) (I.ok.hd hc) it lo 1 n
    refine W.item i s _ _ hg st fun v h' tk hv st' kk => ?_
    obtain ⟨t, rfl⟩ := hv
    have I1 : Inv X pins σ H { s with heap := h', toks := tk } := I.turned (fun b o hb e => kk b o (by simpa using hb) e) f0 f1 f3 f4 f5
    refine ⟨_, rfl, go_of (s := { s with heap := h', toks := tk }) (n := "longrange_iterator") st' rfl rfl (by decide) ⟨.int (lo + i), H, I1, ⟨t, ?_⟩, ⟨rfl, rfl⟩, st', fun b hb => (hf b hb).1⟩⟩
    rw [Int.mul_one]
  done := by
    intro X hP hw hK hc i pins s σ H E I hf st hg
    subst hP hw hK
    obtain ⟨f0, f1, f2, f3, f4, f5⟩ := hf it (by simp)
    exact wpAny_pyNext_long_end (I.ok.hd hc) st (by have : n ≤ i := hg; omega) fun h' eb => ⟨rfl, I.turned (t' := s.toks) (fun b o hb e => eb b o hb e) f0 f1 f3 f4 f5⟩
  self := fun _ _ _ _ _ st h => wpAny_pyIter_longiter st h
section
variable {X : Cx} {tg : Expr}
theorem range_itL {pins : List (Addr × Obj)} {σ : L2.St} {H : Hp} {s : Shared} {R : It → Hp → Prop} {E : Value → Shared → Prop} {lo hi : Int} {t u v : Tok} {tk : Nat} (I : Inv X pins σ H s)
    (q : R (Itr lo (hi - lo).toNat) H) : wpAny (model X.prog X.w) X.A (pyIter (.ref s.heap.objs.size)) (PIE X pins σ tg R) E { s with heap := s.heap.push { cls := .type "range", data := .fields #[.int lo t, .int hi u, .int 1 v] }, toks := tk } := by
  have I1 : Inv X pins σ H { s with heap := s.heap.push { cls := .type "range", data := .fields #[.int lo t, .int hi u, .int 1 v] }, toks := tk } := I.kept fun b o e => Heap.get?_push_of_some _ e
  have e1 : lo + ((0 : Nat) : Int) * 1 = lo := by simp
  have e2 : (((hi - lo).toNat : Nat) : Int) - ((0 : Nat) : Int) = Builtin.Range.rangeSize lo hi 1 := by rw [rangeSize_one]; split <;> omega
  cases hsm : Builtin.Range.small lo hi 1 with
  | true =>
    refine wpAny_pyIter_range (IsRange.new ..) hsm ?_
    refine ⟨(s.heap.push { cls := .type "range", data := .fields #[.int lo t, .int hi u, .int 1 v] }).objs.size, [(s.heap.push { cls := .type "range", data := .fields #[.int lo t, .int hi u, .int 1 v] }).objs.size], _, _, H, rfl,
      I1.kept (t' := tk) fun b o e => Heap.get?_push_of_some _ e, turn_range _ lo (hi - lo).toNat, ?_, fun b hb => ?_, q⟩
    · show IsRangeIter _ _ (lo + ((0 : Nat) : Int) * 1) ((((hi - lo).toNat : Nat) : Int) - ((0 : Nat) : Int)) 1
      rw [e1, e2]
      exact Heap.get?_push_size _ rfl
    · have e : b = (s.heap.push { cls := .type "range", data := .fields #[.int lo t, .int hi u, .int 1 v] }).objs.size := by simpa using hb
      subst e
      exact I1.fpOk (Nat.le_refl _) (I1.hok.fresh (Nat.le_refl _))
  | false =>
    refine wpAny_pyIter_longrange (IsRange.new ..) hsm ?_
    refine ⟨(s.heap.push { cls := .type "range", data := .fields #[.int lo t, .int hi u, .int 1 v] }).objs.size, [(s.heap.push { cls := .type "range", data := .fields #[.int lo t, .int hi u, .int 1 v] }).objs.size], _, _, H, rfl,
      I1.kept (t' := tk) fun b o e => Heap.get?_push_of_some _ e, turn_long _ lo (hi - lo).toNat, ?_, fun b hb => ?_, q⟩
    · show IsLongIter _ _ (lo + ((0 : Nat) : Int) * 1) ((((hi - lo).toNat : Nat) : Int) - ((0 : Nat) : Int)) 1
      rw [e1, e2]
      exact Heap.get?_push_size _ rfl
    · have e : b = (s.heap.push { cls := .type "range", data := .fields #[.int lo t, .int hi u, .int 1 v] }).objs.size := by simpa using hb
      subst e
      exact I1.fpOk (Nat.le_refl _) (I1.hok.fresh (Nat.le_refl _))
def iRngL (ta : TA) : TI := fun σ H R => ta σ H fun vs H1 => ∃ i j : Int, vs = [.int i, .int j] ∧ R (Itr i (j - i).toNat) H1
theorem pi_rangeL {a b : Expr} {ta : TA} {p pos : Pos} (hg : Gl X "range") (hm : X.mg "range" = none) (ha : PA X [a, b] ta) (hs : starEach [a, b] X.env = [(false, eval a X.env), (false, eval b X.env)] := by rfl) (hs2 : starEach [b] X.env = [(false, eval b X.env)] := by rfl) :
    PI X tg (.Call (.Name "range" p) [a, b] [] pos) (iRngL ta) := by
  refine ⟨fun pins s σ H R I h => ?_⟩
  refine Call_ (ld_blt I hg hm boot_range (PyProof.Rows.callWith_type1 (thn (ha.run pos pins s σ H _ I h) fun us s1 ⟨vs, H1, I1, r1, q1⟩ => ?_) (by rw [hs, hs2]) (by rw [hs2]; rfl)))
  obtain ⟨i, j, e, q⟩ := q1
  subst e
  cases r1 with
  | cons r rr =>
    cases rr with
    | cons r' rr =>
      cases rr
      obtain ⟨t, rfl⟩ := r
      obtain ⟨t', rfl⟩ := r'
      exact call_range_2 (range_itL I1 q)
end
end Fw
local macro_rules | `(tactic| walk_at "rd") => `(tactic| repeat (first
  | (with_reducible show L2.tVar _ _ _ _; first | with_reducible refine Fw.w_v0 ?_ | with_reducible refine Fw.w_v1 ?_ | with_reducible refine Fw.w_v2 ?_ | with_reducible refine Fw.w_v3 ?_ | with_reducible refine Fw.w_v4 ?_ | with_reducible refine Fw.w_v5 ?_ | with_reducible refine Fw.w_v6 ?_ | with_reducible refine Fw.w_v7 ?_ | with_reducible refine Fw.w_v8 ?_ | with_reducible refine Fw.w_v9 ?_ | with_reducible refine Fw.w_v10 ?_ | with_reducible refine Fw.w_v11 ?_ | with_reducible refine Fw.w_v12 ?_ | with_reducible refine Fw.w_v13 ?_ | with_reducible refine Fw.w_v14 ?_ | with_reducible refine Fw.w_v15 ?_ | with_reducible refine Fw.w_v16 ?_ | with_reducible refine Fw.w_v17 ?_ | with_reducible refine Fw.w_v18 ?_ | with_reducible refine Fw.w_v19 ?_ | with_reducible refine Fw.w_var (by with_unfolding_all exact rfl) ?_)
  | with_reducible refine Fw.w_cons ?_
  | with_reducible refine Fw.w_c ?_
  | with_reducible refine Fw.w_op ?_
  | with_reducible refine Fw.w_nil ?_
  | with_reducible refine Fw.w_I0 ?_
  | with_reducible refine Fw.w_seq ?_
  | with_reducible refine Fw.w_asg ?_
  | (with_reducible show L2.gName _ _ (L2.wipe _ _) _ _; dsimp only [L2.wipe, List.set, List.map])
  | (with_reducible show L2.gTup _ _ _ _ (L2.wipe _ _) _ _; dsimp only [L2.wipe, List.set, List.map])
  | (with_reducible show L2.gName _ _ _ _ _; first | with_reducible refine Fw.w_n0 ?_ | with_reducible refine Fw.w_n1 ?_ | with_reducible refine Fw.w_n2 ?_ | with_reducible refine Fw.w_n3 ?_ | with_reducible refine Fw.w_n4 ?_ | with_reducible refine Fw.w_n5 ?_ | with_reducible refine Fw.w_n6 ?_ | with_reducible refine Fw.w_n7 ?_ | with_reducible refine Fw.w_n8 ?_ | with_reducible refine Fw.w_n9 ?_ | with_reducible refine Fw.w_n10 ?_ | with_reducible refine Fw.w_n11 ?_ | with_reducible refine Fw.w_n12 ?_ | with_reducible refine Fw.w_n13 ?_ | with_reducible refine Fw.w_n14 ?_ | with_reducible refine Fw.w_n15 ?_ | with_reducible refine Fw.w_n16 ?_ | with_reducible refine Fw.w_n17 ?_ | with_reducible refine Fw.w_n18 ?_ | with_reducible refine Fw.w_n19 ?_ | with_reducible refine Fw.w_name ?_)
  | with_reducible refine Fw.w_call ?_
  | with_reducible refine Fw.w_exb ?_
  | with_reducible refine Fw.w_test ?_
  | (with_reducible show L2.rI _ _ _ _ _ _; with_reducible refine Fw.w_I (by with_unfolding_all first | exact Or.inl ⟨by decide, by decide⟩ | exact Or.inr ⟨by decide, by decide⟩ | exact ⟨by decide, by decide⟩ | exact ⟨by decide, by decide, by decide⟩ | (show (0 : Int) < _; decide)) ?_)
  | with_reducible refine Fw.w_neI ?_
  | with_reducible refine Fw.w_ifS ?_
  | with_reducible refine Fw.w_next ?_
  | with_reducible refine Fw.w_callK ?_
  | with_reducible refine Fw.w_ret ?_
  | with_reducible refine Fw.w_cb ?_
  | with_reducible refine Fw.w_int ?_
  | (with_reducible show L2.rIxL _ _ _ _ _; with_reducible refine Fw.w_ixL (by first | assumption | exact L2.upd_same) (by with_unfolding_all rfl) ?_)
  | (with_reducible show L2.rIxT _ _ _ _ _; with_reducible refine Fw.w_ixT (by first | assumption | exact L2.upd_same) (by with_unfolding_all rfl) ?_)
  | (with_reducible show L2.rSetL _ _ _ _ _; with_reducible refine Fw.w_setL (by first | assumption | exact L2.upd_same) (by with_unfolding_all rfl) ?_)
  | (with_reducible show L2.gTup _ _ _ _ _ _ _; with_reducible refine Fw.w_gtup (by first | assumption | exact L2.upd_same) rfl ?_)
  | with_reducible refine Fw.w_U ?_
  | with_reducible refine Fw.w_un ?_
  | with_reducible refine Fw.w_eqI ?_
  | with_reducible refine Fw.w_eqB ?_
  | with_reducible refine Fw.w_neB ?_
  | with_reducible refine Fw.w_eqS ?_
  | with_reducible refine Fw.w_exi ?_
  | with_reducible refine Fw.w_exr ?_
  | with_reducible refine Fw.w_B ?_
  | with_reducible refine Fw.w_and ?_
  | with_reducible refine Fw.w_or ?_
  | with_reducible refine Fw.w_not ?_
  | with_reducible refine Fw.w_andV ?_
  | with_reducible refine Fw.w_notV ?_
  | with_reducible refine Fw.w_make ?_
  | with_reducible refine Fw.w_intB ?_
  | with_reducible refine Fw.w_abs ?_
  | with_reducible refine Fw.w_bits ?_
  | with_reducible refine Fw.w_sl ?_
  | with_reducible refine Fw.w_part ?_
  | with_reducible refine Fw.w_nopart ?_
  | with_reducible refine Fw.w_lst ?_
  | with_reducible refine Fw.w_tup ?_
  | with_reducible refine Fw.w_dnewK ?_
  | with_reducible refine Fw.w_dget ?_
  | with_reducible refine Fw.w_isNn ?_
  | with_reducible refine Fw.w_isNi ?_
  | with_reducible refine Fw.w_meth0 ?_
  | with_reducible refine Fw.w_match ?_
  | with_reducible refine Fw.w_caseA ?_
  | with_reducible refine Fw.w_caseT ?_
  | with_reducible refine Fw.w_par ?_
  | (with_reducible refine Fw.w_exvw ?_; try dsimp only [List.set])
  | with_reducible refine Fw.w_drop ?_
  | with_reducible refine Fw.w_retN ?_
  | with_reducible refine Fw.w_gnil ?_
  | with_reducible refine Fw.w_gcons ?_
  | with_reducible refine Fw.w_gsub ?_
  | with_reducible refine Fw.w_for ?_
  | with_reducible refine Fw.w_lc ?_
  | with_reducible refine Fw.w_yes ?_
  | with_reducible refine Fw.w_iList ?_
  | with_reducible refine Fw.w_iRng1 ?_
  | with_reducible refine Fw.w_sfld ?_))
namespace Fw
open PySem L2
def top (i : Nat) : Stmt := PySem.Challenge.pw_farwrap_k15_surprises_of_short_ranges.main.body.getD i (.Pass ⟨0, 0, 0, 0⟩)
abbrev s_is_integer : Stmt := top 6
abbrev s_is_sixty_digits : Stmt := top 7
abbrev s_check_sixty_digits : Stmt := top 8
abbrev s_check_word : Stmt := top 11
abbrev s_stands : Stmt := top 12
abbrev s_Kind___init__ : Stmt := inClass (top 15) 0
abbrev s_check_kind : Stmt := top 16
abbrev s_least : Stmt := top 17
abbrev s_first_wanted : Stmt := top 19
abbrev s_least_passing : Stmt := top 20
abbrev s_quotient_total : Stmt := top 22
abbrev s_total_between : Stmt := top 23
abbrev s_check_line : Stmt := top 25
abbrev s_check_range : Stmt := top 26
abbrev s_exact_at : Stmt := top 27
abbrev s__check_lines : Stmt := top 29
abbrev s__check : Stmt := top 30
abbrev s__count : Stmt := top 31
abbrev s__gap : Stmt := top 32
abbrev s__less_total : Stmt := top 33
abbrev s__equal_total : Stmt := top 34
abbrev s__total : Stmt := top 35
abbrev s__ordered_parts : Stmt := top 36
abbrev s__surprises : Stmt := top 37
abbrev s_surprises : Stmt := top 38
abbrev s_first_surprise : Stmt := top 39
abbrev s__law_deck : Stmt := top 41
abbrev s__law_deal : Stmt := top 42
abbrev s__law_choice : Stmt := top 43
abbrev s__law_great : Stmt := top 44
abbrev s__law_near : Stmt := top 45
abbrev s__law_some : Stmt := top 46
abbrev s__law_is_so : Stmt := top 47
abbrev s__law_right : Stmt := top 48
abbrev s_law : Stmt := top 49
theorem sc_is_integer : FnScope ["value"] ["value"] (defScope s_is_integer) := ⟨rfl, rfl, rfl, by decide +kernel, rfl, by decide +kernel, by decide +kernel⟩
theorem sc_is_sixty_digits : FnScope ["value"] ["value"] (defScope s_is_sixty_digits) := ⟨rfl, rfl, rfl, by decide +kernel, rfl, by decide +kernel, by decide +kernel⟩
theorem sc_check_sixty_digits : FnScope ["value", "argument"] ["value", "argument"] (defScope s_check_sixty_digits) := ⟨rfl, rfl, rfl, by decide +kernel, rfl, by decide +kernel, by decide +kernel⟩
theorem sc_check_word : FnScope ["word", "words", "argument"] ["word", "words", "argument"] (defScope s_check_word) := ⟨rfl, rfl, rfl, by decide +kernel, rfl, by decide +kernel, by decide +kernel⟩
theorem sc_stands : FnScope ["y", "relation", "z"] ["y", "relation", "z"] (defScope s_stands) := ⟨rfl, rfl, rfl, by decide +kernel, rfl, by decide +kernel, by decide +kernel⟩
theorem sc_Kind___init__ : FnScope ["self", "bits", "is_signed"] ["self", "bits", "is_signed"] (defScope s_Kind___init__) := ⟨rfl, rfl, rfl, by decide +kernel, rfl, by decide +kernel, by decide +kernel⟩
theorem sc_check_kind : FnScope ["kind"] ["kind"] (defScope s_check_kind) := ⟨rfl, rfl, rfl, by decide +kernel, rfl, by decide +kernel, by decide +kernel⟩
theorem sc_least : FnScope ["kind"] ["kind"] (defScope s_least) := ⟨rfl, rfl, rfl, by decide +kernel, rfl, by decide +kernel, by decide +kernel⟩
theorem sc_first_wanted : FnScope ["total_to", "first", "last"] ["total_to", "first", "last"] (defScope s_first_wanted) := ⟨rfl, rfl, rfl, by decide +kernel, rfl, by decide +kernel, by decide +kernel⟩
theorem sc_least_passing : FnScope ["passes", "first", "last", "middle"] ["passes", "first", "last"] (defScope s_least_passing) := ⟨rfl, rfl, rfl, by decide +kernel, rfl, by decide +kernel, by decide +kernel⟩
theorem sc_quotient_total : FnScope ["line", "size", "first", "last", "a", "b", "count", "total", "top"] ["line", "size", "first", "last"] (defScope s_quotient_total) := ⟨rfl, rfl, rfl, by decide +kernel, rfl, by decide +kernel, by decide +kernel⟩
theorem sc_total_between : FnScope ["line", "size", "first", "last", "low", "high", "a", "b"] ["line", "size", "first", "last", "low", "high"] (defScope s_total_between) := ⟨rfl, rfl, rfl, by decide +kernel, rfl, by decide +kernel, by decide +kernel⟩
theorem sc_check_line : FnScope ["line", "argument"] ["line", "argument"] (defScope s_check_line) := ⟨rfl, rfl, rfl, by decide +kernel, rfl, by decide +kernel, by decide +kernel⟩
theorem sc_check_range : FnScope ["first", "last"] ["first", "last"] (defScope s_check_range) := ⟨rfl, rfl, rfl, by decide +kernel, rfl, by decide +kernel, by decide +kernel⟩
theorem sc_exact_at : FnScope ["line", "x", "a", "b"] ["line", "x"] (defScope s_exact_at) := ⟨rfl, rfl, rfl, by decide +kernel, rfl, by decide +kernel, by decide +kernel⟩
theorem sc__check_lines : FnScope ["kind", "one", "relation", "other"] ["kind", "one", "relation", "other"] (defScope s__check_lines) := ⟨rfl, rfl, rfl, by decide +kernel, rfl, by decide +kernel, by decide +kernel⟩
theorem sc__check : FnScope ["kind", "one", "relation", "other", "first", "last"] ["kind", "one", "relation", "other", "first", "last"] (defScope s__check) := ⟨rfl, rfl, rfl, by decide +kernel, rfl, by decide +kernel, by decide +kernel⟩
theorem sc__count : FnScope ["first", "last"] ["first", "last"] (defScope s__count) := ⟨rfl, rfl, rfl, by decide +kernel, rfl, by decide +kernel, by decide +kernel⟩
theorem sc__gap : FnScope ["one", "other"] ["one", "other"] (defScope s__gap) := ⟨rfl, rfl, rfl, by decide +kernel, rfl, by decide +kernel, by decide +kernel⟩
theorem sc__less_total : FnScope ["kind", "one", "other", "first", "last", "size", "base", "one_total", "other_total"] ["kind", "one", "other", "first", "last"] (defScope s__less_total) := ⟨rfl, rfl, rfl, by decide +kernel, rfl, by decide +kernel, by decide +kernel⟩
theorem sc__equal_total : FnScope ["kind", "one", "other", "first", "last"] ["kind", "one", "other", "first", "last"] (defScope s__equal_total) := ⟨rfl, rfl, rfl, by decide +kernel, rfl, by decide +kernel, by decide +kernel⟩
theorem sc__total : FnScope ["kind", "one", "relation", "other", "first", "last"] ["kind", "one", "relation", "other", "first", "last"] (defScope s__total) := ⟨rfl, rfl, rfl, by decide +kernel, rfl, by decide +kernel, by decide +kernel⟩
theorem sc__ordered_parts : FnScope ["one", "other", "first", "last", "slope", "above", "crossing"] ["one", "other", "first", "last"] (defScope s__ordered_parts) := ⟨rfl, rfl, rfl, by decide +kernel, rfl, by decide +kernel, by decide +kernel⟩
theorem sc__surprises : FnScope ["kind", "one", "relation", "other", "first", "last", "total", "start", "end", "holding"] ["kind", "one", "relation", "other", "first", "last"] (defScope s__surprises) := ⟨rfl, rfl, rfl, by decide +kernel, rfl, by decide +kernel, by decide +kernel⟩
theorem sc_surprises : FnScope ["kind", "one", "relation", "other", "first", "last"] ["kind", "one", "relation", "other", "first", "last"] (defScope s_surprises) := ⟨rfl, rfl, rfl, by decide +kernel, rfl, by decide +kernel, by decide +kernel⟩
theorem sc_first_surprise : FnScope ["kind", "one", "relation", "other", "first", "last"] ["kind", "one", "relation", "other", "first", "last"] (defScope s_first_surprise) := ⟨rfl, rfl, rfl, by decide +kernel, rfl, by decide +kernel, by decide +kernel⟩
theorem sc__law_deck : FnScope ["_law_cell"] ["_law_cell"] (defScope s__law_deck) := ⟨rfl, rfl, rfl, by decide +kernel, rfl, by decide +kernel, by decide +kernel⟩
theorem sc__law_deal : FnScope ["_law_deck_here", "_law_many", "_law_card", "_law_mixed"] ["_law_deck_here", "_law_many"] (defScope s__law_deal) := ⟨rfl, rfl, rfl, by decide +kernel, rfl, by decide +kernel, by decide +kernel⟩
theorem sc__law_choice : FnScope ["_law_deck_here", "_law_some_here"] ["_law_deck_here", "_law_some_here"] (defScope s__law_choice) := ⟨rfl, rfl, rfl, by decide +kernel, rfl, by decide +kernel, by decide +kernel⟩
theorem sc__law_great : FnScope ["_law_deck_here", "_law_most", "_law_found", "_law_turn"] ["_law_deck_here", "_law_most"] (defScope s__law_great) := ⟨rfl, rfl, rfl, by decide +kernel, rfl, by decide +kernel, by decide +kernel⟩
theorem sc__law_near : FnScope ["_law_deck_here", "_law_bits", "_law_is_signed", "_law_size"] ["_law_deck_here"] (defScope s__law_near) := ⟨rfl, rfl, rfl, by decide +kernel, rfl, by decide +kernel, by decide +kernel⟩
theorem sc__law_some : FnScope ["_law_deck_here", "_law_size", "_law_many"] ["_law_deck_here", "_law_size"] (defScope s__law_some) := ⟨rfl, rfl, rfl, by decide +kernel, rfl, by decide +kernel, by decide +kernel⟩
theorem sc__law_is_so : FnScope ["_law_word", "_law_gap"] ["_law_word", "_law_gap"] (defScope s__law_is_so) := ⟨rfl, rfl, rfl, by decide +kernel, rfl, by decide +kernel, by decide +kernel⟩
theorem sc__law_right : FnScope ["_law_deck_here", "_law_own", "_law_least_one", "_law_size", "_law_begin", "_law_mine", "_law_its", "_law_meet_at", "_law_slope", "_law_end", "_law_table", "_law_at", "_law_exact_two", "_law_line", "_law_left", "_law_right_here", "_law_y", "_law_word", "_law_due", "_law_true_gap", "_law_gap", "_law_told"] ["_law_deck_here"] (defScope s__law_right) := ⟨rfl, rfl, rfl, by decide +kernel, rfl, by decide +kernel, by decide +kernel⟩
theorem sc_law : FnScope ["_law_script", "_law_byte", "_law_cell", "_law_deck_here", "_law_turn"] ["_law_script"] (defScope s_law) := ⟨rfl, rfl, rfl, by decide +kernel, rfl, by decide +kernel, by decide +kernel⟩

/-- a kind's object -/
def kf (w : Nat) (s : Bool) : List (Str × V) := [("bits", .int (w : Int)), ("is_signed", .bl s)]
structure Kd (C : Addr) (H : Hp) (p : Addr) (w : Nat) (s : Bool) : Prop where
  ex : ∃ dx, H p = some (.ins C dx (kf w s))
  w1 : 1 ≤ w
  w2 : w ≤ 128
theorem kf_bits (w : Nat) (s : Bool) : (kf w s).lookup ("bits" : Str) = some (.int (w : Int)) := by unfold kf; simp [List.lookup]
theorem kf_sign (w : Nat) (s : Bool) : (kf w s).lookup ("is_signed" : Str) = some (.bl s) := by
  have e : (("is_signed" : Str) == ("bits" : Str)) = false := by decide +kernel
  unfold kf; simp [List.lookup, e]
/-- the values of a kind, wrapping -/
def loK (w : Nat) (s : Bool) : Int := if s = true then -(2 ^ (w - 1)) else 0
def hiK (w : Nat) (s : Bool) : Int := loK w s + 2 ^ w - 1
def wr (w : Nat) (s : Bool) (n : Int) : Int := loK w s + (n - loK w s) % 2 ^ w
theorem p2 (w : Nat) : (0 : Int) < 2 ^ w := Int.pow_pos (by decide)
theorem p2s {w : Nat} (h : 1 ≤ w) : (2 : Int) ^ w = 2 * 2 ^ (w - 1) := by
  obtain ⟨k, rfl⟩ : ∃ k, w = k + 1 := ⟨w - 1, by omega⟩
  rw [Nat.add_sub_cancel, Int.pow_succ, Int.mul_comm]
theorem wr_lo (w : Nat) (s : Bool) (n : Int) : loK w s ≤ wr w s n := by
  have := Int.emod_nonneg (n - loK w s) (show (2 : Int) ^ w ≠ 0 from Int.ne_of_gt (p2 w))
  unfold wr; omega
theorem wr_hi (w : Nat) (s : Bool) (n : Int) : wr w s n ≤ hiK w s := by
  have := Int.emod_lt_of_pos (n - loK w s) (p2 w)
  unfold wr hiK; omega
theorem wr_id {w : Nat} {s : Bool} {n : Int} (h1 : loK w s ≤ n) (h2 : n ≤ hiK w s) : wr w s n = n := by
  unfold wr
  rw [Int.emod_eq_of_lt (by omega) (by unfold hiK at h2; omega)]
  omega
/-- what the law takes for the same -/
def pl (w : Nat) (s : Bool) (n : Int) : Int := if s = true ∧ 2 ^ (w - 1) ≤ n % 2 ^ w then n % 2 ^ w - 2 ^ w else n % 2 ^ w
theorem pl_wr {w : Nat} (hw : 1 ≤ w) (s : Bool) (n : Int) : pl w s n = wr w s n := by
  have hp := p2 (w - 1)
  have e := p2s hw
  have h0 := Int.emod_nonneg n (show (2 : Int) ^ w ≠ 0 from Int.ne_of_gt (p2 w))
  have h1 := Int.emod_lt_of_pos n (p2 w)
  cases s with
  | false =>
    have hl : loK w false = 0 := by unfold loK; rw [if_neg Bool.false_ne_true]
    unfold pl wr
    rw [if_neg (by intro z; exact Bool.false_ne_true z.1), hl, Int.sub_zero, Int.zero_add]
  | true =>
    have hl : loK w true = -(2 ^ (w - 1)) := by unfold loK; rw [if_pos rfl]
    unfold pl wr
    rw [hl]
    have ed : n % 2 ^ w = n - 2 ^ w * (n / 2 ^ w) := Int.emod_def n _
    by_cases c : 2 ^ (w - 1) ≤ n % 2 ^ w
    · rw [if_pos ⟨rfl, c⟩]
      have q : (n - -(2 ^ (w - 1))) % 2 ^ w = n % 2 ^ w - 2 ^ (w - 1) := by
        have z : n - -(2 ^ (w - 1)) = (n % 2 ^ w - 2 ^ (w - 1)) + 2 ^ w * (n / 2 ^ w + 1) := by
          rw [Int.mul_add, Int.mul_one]; omega
        rw [z, Int.add_mul_emod_self_left, Int.emod_eq_of_lt (by omega) (by omega)]
      rw [q]; omega
    · rw [if_neg (fun z => c z.2)]
      have q : (n - -(2 ^ (w - 1))) % 2 ^ w = n % 2 ^ w + 2 ^ (w - 1) := by
        have z : n - -(2 ^ (w - 1)) = (n % 2 ^ w + 2 ^ (w - 1)) + 2 ^ w * (n / 2 ^ w) := by omega
        rw [z, Int.add_mul_emod_self_left, Int.emod_eq_of_lt (by omega) (by omega)]
      rw [q]; omega
/-- all but p as it was -/
def Kp (p : Addr) (H H' : Hp) : Prop := ∀ q o, q ≠ p → H q = some o → H' q = some o
theorem Kp.refl (p : Addr) (H : Hp) : Kp p H H := fun _ _ _ h => h
theorem Kp.trans {p : Addr} {H H1 H2 : Hp} (a : Kp p H H1) (b : Kp p H1 H2) : Kp p H H2 := fun q o n h => b q o n (a q o n h)
theorem Kp.upd {p : Addr} {H H1 : Hp} {o : HO} (a : Kp p H H1) : Kp p H (upd H1 p o) := fun q u n h => by rw [upd_ne n]; exact a q u n h
theorem Kp.new {p r : Addr} {H H1 : Hp} {o : HO} (a : Kp p H H1) (h : H1 r = none) : Kp p H (L2.upd H1 r o) := fun q u n e => by
  have z := a q u n e
  rw [upd_ne (ne_of_none z h)]; exact z
theorem Kp.of_same {p : Addr} {H H' : Hp} (a : Same H H') : Kp p H H' := fun q o _ h => a q o h
theorem sm_new {H H1 : Hp} {r : Addr} {o : HO} (a : Same H H1) (h : H1 r = none) : Same H (L2.upd H1 r o) := fun q u e => by
  have z := a q u e
  rw [upd_ne (ne_of_none z h)]; exact z
theorem Kp.free {p r : Addr} {H H' : Hp} (a : Kp p H H') (hr : r ≠ p) (h : H' r = none) : H r = none := by
  cases q : H r with
  | none => rfl
  | some o => rw [a r o hr q] at h; cases h
theorem same_free {H H' : Hp} {r : Addr} (a : Same H H') (h : H' r = none) : H r = none := a.free h
/-- a source of draws -/
def SrcAt (H : Hp) (p : Addr) : Prop := ∃ a b c : Int, H p = some (.lst [.int a, .int b, .int c])
theorem SrcAt.same {H H' : Hp} {p : Addr} (h : SrcAt H p) (s : Same H H') : SrcAt H' p := by
  obtain ⟨a, b, c, e⟩ := h
  exact ⟨a, b, c, s _ _ e⟩
theorem kp_mut {p D : Addr} {H H' : Hp} {o : HO} (a : Kp p H H') (h : H D = none) : Kp p H (L2.upd H' D o) := fun q u n e => by
  rw [upd_ne (ne_of_none e h)]; exact a q u n e
theorem SrcAt.mut {H : Hp} {p D : Addr} {o : HO} (h : SrcAt H p) (n : D ≠ p) : SrcAt (L2.upd H D o) p := by
  obtain ⟨a, b, c, e⟩ := h
  exact ⟨a, b, c, by rw [upd_ne (Ne.symm n)]; exact e⟩
theorem SrcAt.ne {H : Hp} {p q : Addr} (h : SrcAt H p) (n : H q = none) : q ≠ p := by
  obtain ⟨a, b, c, e⟩ := h
  exact (ne_of_none e n).symm
theorem b9 {m : Int} (h : m.natAbs < 2 ^ 200) : m.natAbs < 2 ^ 8999 := Nat.lt_trans h (Nat.pow_lt_pow_right (by decide) (by decide))
theorem SrcAt.new {H : Hp} {p r : Addr} {o : HO} (h : SrcAt H p) (n : H r = none) : SrcAt (L2.upd H r o) p := h.same (sm_new (Same.refl H) n)
theorem Kd.same {C : Addr} {H H' : Hp} {p : Addr} {w : Nat} {s : Bool} (h : Kd C H p w s) (e : Same H H') : Kd C H' p w s := by
  obtain ⟨⟨dx, q⟩, a, b⟩ := h
  exact ⟨⟨dx, e _ _ q⟩, a, b⟩
theorem Kd.kp {C : Addr} {H H' : Hp} {p r : Addr} {w : Nat} {s : Bool} (h : Kd C H p w s) (hr : SrcAt H r) (e : Kp r H H') : Kd C H' p w s := by
  obtain ⟨⟨dx, q⟩, a, b⟩ := h
  obtain ⟨_, _, _, z⟩ := hr
  exact ⟨⟨dx, e _ _ (ne_of q z (by intro y; cases y)) q⟩, a, b⟩
/-- how a value that is asked for whether it is an integer looks -/
def IntQ (K : PySem.W.Frag) (H : Hp) (v : V) (b : Bool) : Prop := ∃ t : String, TyX K H v (.type t) ∧ kitB t "int" = some (b || t == "bool") ∧ (b = true ∨ t = "bool" → True) ∧ (∃ c, kitB t "bool" = some c ∧ ((b || t == "bool") && !c) = b)
theorem IntQ.int {K : PySem.W.Frag} {H : Hp} (i : Int) : IntQ K H (.int i) true := ⟨"int", .base (.int i), by decide +kernel, fun _ => trivial, false, by decide +kernel, rfl⟩
theorem IntQ.bl {K : PySem.W.Frag} {H : Hp} (i : Bool) : IntQ K H (.bl i) false := ⟨"bool", .base (.bl i), by decide +kernel, fun _ => trivial, true, by decide +kernel, rfl⟩
theorem IntQ.non {K : PySem.W.Frag} {H : Hp} : IntQ K H .non false := ⟨"NoneType", .base .non, by decide +kernel, fun _ => trivial, false, by decide +kernel, rfl⟩
theorem IntQ.str {K : PySem.W.Frag} {H : Hp} (z : Str) : IntQ K H (.str z) false := ⟨"str", .base (.str z), by decide +kernel, fun _ => trivial, false, by decide +kernel, rfl⟩
theorem IntQ.lst {K : PySem.W.Frag} {H : Hp} {a : Addr} {xs : List V} (h : H a = some (.lst xs)) : IntQ K H (.ref a) false := ⟨"list", .base (.lst h), by decide +kernel, fun _ => trivial, false, by decide +kernel, rfl⟩
theorem IntQ.tup {K : PySem.W.Frag} {H : Hp} {a : Addr} {xs : List V} (h : H a = some (.tup xs)) : IntQ K H (.ref a) false := ⟨"tuple", .base (.tup h), by decide +kernel, fun _ => trivial, false, by decide +kernel, rfl⟩
theorem IntQ.dK {K : PySem.W.Frag} {H : Hp} {a : Addr} {xs : List (Key × V)} (h : H a = some (.dK xs)) : IntQ K H (.ref a) false := ⟨"dict", .base (.dK h), by decide +kernel, fun _ => trivial, false, by decide +kernel, rfl⟩
/-- a row of kinds' parts: a list at D of tuples -/
structure RowAt (H : Hp) (p D : Addr) (rs : List (Addr × Nat × Bool)) : Prop where
  lst : H D = some (.lst (rs.map fun r => V.ref r.1))
  nD : D ≠ p
  tup : ∀ r ∈ rs, H r.1 = some (.tup [.int (r.2.1 : Int), .bl r.2.2]) ∧ r.1 ≠ p ∧ 1 ≤ r.2.1 ∧ r.2.1 ≤ 128
theorem RowAt.kp {H H' : Hp} {p D : Addr} {rs : List (Addr × Nat × Bool)} (h : RowAt H p D rs) (e : Kp p H H') : RowAt H' p D rs :=
  ⟨e _ _ h.nD h.lst, h.nD, fun r hr => ⟨e _ _ (h.tup r hr).2.1 (h.tup r hr).1, (h.tup r hr).2⟩⟩
/-- a list at E of kinds -/
structure KdsAt (C : Addr) (H : Hp) (p E : Addr) (ks : List (Addr × Nat × Bool)) : Prop where
  lst : H E = some (.lst (ks.map fun r => V.ref r.1))
  nE : E ≠ p
  kd : ∀ r ∈ ks, Kd C H r.1 r.2.1 r.2.2 ∧ r.1 ≠ p
theorem KdsAt.kp {C : Addr} {H H' : Hp} {p E : Addr} {ks : List (Addr × Nat × Bool)} (h : KdsAt C H p E ks) (e : Kp p H H') : KdsAt C H' p E ks :=
  ⟨e _ _ h.nE h.lst, h.nE, fun r hr => by
    obtain ⟨⟨⟨dx, q⟩, a, b⟩, n⟩ := h.kd r hr
    exact ⟨⟨⟨dx, e _ _ n q⟩, a, b⟩, n⟩⟩
def wrs (ks : List (Addr × Nat × Bool)) (n : Int) : Int := ks.foldl (fun n k => wr k.2.1 k.2.2 n) n
theorem wrs_eq : ∀ {ks rs : List (Addr × Nat × Bool)} (_ : ks.map (·.2) = rs.map (·.2)) (n : Int), wrs ks n = wrs rs n
  | [], [], _, _ => rfl
  | [], _ :: _, h, _ => by simp at h
  | _ :: _, [], h, _ => by simp at h
  | k :: ks, r :: rs, h, n => by
    rw [List.map_cons, List.map_cons, List.cons.injEq] at h
    show wrs ks (wr k.2.1 k.2.2 n) = wrs rs (wr r.2.1 r.2.2 n)
    rw [h.1]
    exact wrs_eq h.2 _
theorem wrs_more (ks : List (Addr × Nat × Bool)) (r : Addr × Nat × Bool) (n : Int) : wrs (ks ++ [r]) n = wr r.2.1 r.2.2 (wrs ks n) := by
  unfold wrs; rw [List.foldl_append]; rfl

/-! ### lines -/
def BB (n : Int) : Prop := n.natAbs < 2 ^ 300
def SD (n : Int) : Prop := -(10 ^ 60) < n ∧ n < 10 ^ 60
theorem SD.bb {n : Int} (h : SD n) : BB n := by
  obtain ⟨a, b⟩ := h
  unfold BB
  exact Nat.lt_trans (show n.natAbs < 10 ^ 60 by omega) (by decide +kernel)
theorem bbk {wd : Nat} {s : Bool} (h : wd ≤ 128) {n : Int} (h1 : loK wd s ≤ n) (h2 : n ≤ hiK wd s) : BB n := by
  have e : (2 : Int) ^ wd ≤ 2 ^ 128 := by
    have := Nat.pow_le_pow_right (n := 2) (by decide) h
    exact_mod_cast this
  have e1 : (2 : Int) ^ (wd - 1) ≤ 2 ^ 128 := by
    have := Nat.pow_le_pow_right (n := 2) (by decide) (show wd - 1 ≤ 128 by omega)
    exact_mod_cast this
  have p1 := p2 (wd - 1)
  have l0 : -(2 ^ 128) ≤ loK wd s ∧ loK wd s ≤ 0 := by unfold loK; split <;> omega
  have hh : hiK wd s ≤ 2 ^ 128 := by unfold hiK; omega
  unfold BB
  exact Nat.lt_of_le_of_lt (show n.natAbs ≤ 2 ^ 128 by omega) (by decide +kernel)
theorem bb_pow {wd : Nat} (h : wd ≤ 128) : BB (2 ^ wd) := by
  unfold BB
  rw [Int.natAbs_pow]
  exact Nat.pow_lt_pow_right (by decide) (by show wd < 300; omega)
/-- all but the source stays, the tables are told -/
def Kq (TS : List (Addr × Str)) (p : Addr) (H H' : Hp) : Prop := (∀ q o, q ≠ p → H q = some o → (∀ ps, o ≠ .tbl ps) → H' q = some o) ∧ (LamX.Tabs TS H → LamX.Tabs TS H')
section
variable {TS : List (Addr × Str)} {p : Addr} {H H1 H2 : Hp}
theorem Kq.refl (H : Hp) : Kq TS p H H := ⟨fun _ _ _ h _ => h, fun h => h⟩
theorem Kq.trans (a : Kq TS p H H1) (b : Kq TS p H1 H2) : Kq TS p H H2 := ⟨fun q o n h t => b.1 q o n (a.1 q o n h t) t, fun h => b.2 (a.2 h)⟩
theorem Kq.of (a : Sm TS H H1) : Kq TS p H H1 := ⟨fun q o _ h t => a.1 q o h t, a.2⟩
theorem Kp.toQ (a : Kp p H H1) (hl : ∃ xs, H p = some (.lst xs)) : Kq TS p H H1 := by
  obtain ⟨xs, hp⟩ := hl
  refine ⟨fun q o n h _ => a q o n h, fun t b hb => ?_⟩
  obtain ⟨ps, a1, a2, a3⟩ := t b hb
  refine ⟨ps, a _ _ (ne_of a1 hp (by intro z; cases z)) a1, a2, fun pos cv e => ?_⟩
  obtain ⟨c, e1, e2⟩ := a3 pos cv e
  exact ⟨c, e1, a _ _ (ne_of e2 hp (by unfold LamX.CodeO; intro z; cases z)) e2⟩
theorem Kq.at {a : Addr} {o : HO} (s : Kq TS p H H1) (n : a ≠ p) (h : H a = some o) (t : ∀ ps, o ≠ .tbl ps := by intro ps z; cases z) : H1 a = some o := s.1 a o n h t
theorem Kq.free {r : Addr} {xs : List V} (s : Kq TS p H H1) (hp : H1 p = some (.lst xs)) (t : ∀ ps, H r ≠ some (.tbl ps)) (h : H1 r = none) : H r = none := by
  cases q : H r with
  | none => rfl
  | some o =>
    by_cases e : r = p
    · rw [e, hp] at h; cases h
    · rw [s.1 r o e q (fun ps z => t ps (by rw [q, z]))] at h; cases h
end
/-- a source of draws, after at most n of them -/
def SrcN (n : Nat) (H : Hp) (p : Addr) : Prop := ∃ a b c : Int, H p = some (.lst [.int a, .int b, .int c]) ∧ 0 ≤ b ∧ b < 2147483648 ∧ 0 ≤ c ∧ c ≤ n
section
variable {TS : List (Addr × Str)} {p : Addr} {H H1 : Hp} {n m : Nat}
theorem SrcN.lst (h : SrcN n H p) : ∃ xs, H p = some (.lst xs) := by
  obtain ⟨a, b, c, e, _⟩ := h
  exact ⟨_, e⟩
theorem SrcN.le (h : SrcN n H p) (k : n ≤ m) : SrcN m H p := by
  obtain ⟨a, b, c, e, h1, h2, h3, h4⟩ := h
  exact ⟨a, b, c, e, h1, h2, h3, by omega⟩
theorem SrcN.sm (h : SrcN n H p) (s : Sm TS H H1) : SrcN n H1 p := by
  obtain ⟨a, b, c, e, r⟩ := h
  exact ⟨a, b, c, s.at e, r⟩
theorem SrcN.same (h : SrcN n H p) (s : Same H H1) : SrcN n H1 p := by
  obtain ⟨a, b, c, e, r⟩ := h
  exact ⟨a, b, c, s _ _ e, r⟩
theorem SrcN.new {r : Addr} {o : HO} (h : SrcN n H p) (k : H r = none) : SrcN n (upd H r o) p := h.same (sm_new (Same.refl H) k)
theorem SrcN.ne {q : Addr} (h : SrcN n H p) (k : H q = none) : q ≠ p := by
  obtain ⟨_, e⟩ := h.lst
  exact (ne_of_none e k).symm
theorem SrcN.mut {r : Addr} {o : HO} (h : SrcN n H p) (k : r ≠ p) : SrcN n (upd H r o) p := by
  obtain ⟨a, b, c, e, rest⟩ := h
  exact ⟨a, b, c, by rw [upd_ne k.symm]; exact e, rest⟩
theorem SrcN.ne_of {q : Addr} {o : HO} (h : SrcN n H p) (k : H q = some o) (t : ∀ xs, o ≠ .lst xs := by intro xs z; cases z) : q ≠ p := by
  obtain ⟨xs, e⟩ := h.lst
  exact L2.ne_of k e (t xs)
end
/-- the x whose result is from lo to hi -/
def rsP (wd : Nat) (a b lo hi : Int) : Int → Bool := fun x => inR (2 ^ wd) lo hi (a * x + b)
theorem rsP_wr {wd : Nat} {s : Bool} {a b lo hi x : Int} (h1 : loK wd s ≤ lo) (h2 : hi ≤ hiK wd s) : rsP wd a b lo hi x = decide (lo ≤ wr wd s (a * x + b) ∧ wr wd s (a * x + b) ≤ hi) := by
  have hp := p2 wd
  have a1 := wr_lo wd s (a * x + b)
  have a2 := wr_hi wd s (a * x + b)
  have em : ∃ q, a * x + b = wr wd s (a * x + b) + 2 ^ wd * q := by
    refine ⟨(a * x + b - loK wd s) / 2 ^ wd, ?_⟩
    have := Int.emod_add_mul_ediv (a * x + b - loK wd s) (2 ^ wd)
    unfold wr; omega
  obtain ⟨q, e⟩ := em
  generalize wr wd s (a * x + b) = y at a1 a2 e ⊢
  unfold rsP inR
  rw [e]
  unfold hiK at *
  by_cases c2 : lo ≤ hi
  · by_cases c : lo ≤ y
    · have z : (y + 2 ^ wd * q - lo) % 2 ^ wd = y - lo := by
        rw [show y + 2 ^ wd * q - lo = (y - lo) + 2 ^ wd * q by omega, Int.add_mul_emod_self_left, Int.emod_eq_of_lt (by omega) (by omega)]
      rw [z]
      by_cases c3 : y ≤ hi
      · rw [decide_eq_true ⟨c2, by omega⟩, decide_eq_true ⟨c, c3⟩]
      · rw [decide_eq_false fun z => by omega, decide_eq_false fun z => c3 z.2]
    · have z : (y + 2 ^ wd * q - lo) % 2 ^ wd = y - lo + 2 ^ wd := by
        rw [show y + 2 ^ wd * q - lo = (y - lo + 2 ^ wd) + 2 ^ wd * (q - 1) by rw [Int.mul_sub, Int.mul_one]; omega, Int.add_mul_emod_self_left, Int.emod_eq_of_lt (by omega) (by omega)]
      rw [z, decide_eq_false fun z => by omega, decide_eq_false fun z => c z.1]
  · rw [decide_eq_false fun z => c2 z.1, decide_eq_false fun z => by omega]
def FirstOf (p : Int → Bool) (f l : Int) (v : V) : Prop := (v = .non ∧ tot p f l = 0) ∨ ∃ x, v = .int x ∧ f ≤ x ∧ x ≤ l ∧ p x = true ∧ tot p f (x - 1) = 0
def LastOf (p : Int → Bool) (f l : Int) (v : V) : Prop := (v = .non ∧ tot p f l = 0) ∨ ∃ x, v = .int x ∧ f ≤ x ∧ x ≤ l ∧ p x = true ∧ tot p (x + 1) l = 0
def AtOf (p : Int → Bool) (f l j x : Int) : Prop := f ≤ x ∧ x ≤ l ∧ p x = true ∧ tot p f (x - 1) = j
def spP (TS : List (Addr × Str)) (H : Hp) (P : Int → Bool) (first last : Int) : Sp := fun vs H' Q _ => ∃ e : Int, vs = [.int e] ∧ first ≤ e ∧ e < last ∧ Sm TS H H' ∧ ∀ H'', Sm TS H' H'' → Q (.bl (P e)) H''
def spT (TS : List (Addr × Str)) (H : Hp) (p : Int → Bool) (first last : Int) : Sp := fun vs H' Q _ => ∃ e : Int, vs = [.int e] ∧ (e = last ∨ (first ≤ e ∧ e ≤ last)) ∧ Sm TS H H' ∧ ∀ H'', Sm TS H' H'' → Q (.int (tot p first e)) H''
def rDivC : List V → Hp → VK → Prop := fun xs H Q => ∃ i j, xs = [.int i, .int j] ∧ CDivP i j ∧ ∀ p, H p = none → Q (.ref p) (upd H p (.tup [.int (i / j), .int (i % j)]))
def rmax2C : List V → Hp → VK → Prop := fun xs H Q => ∃ i j : Int, xs = [.int i, .int j] ∧ Q (.int (if j > i then j else i)) H
def rmin2C : List V → Hp → VK → Prop := fun xs H Q => ∃ i j : Int, xs = [.int i, .int j] ∧ Q (.int (if j < i then j else i)) H
section
variable {σ : L2.St} {H : Hp} {Q : VK} {D : Ends} {te : TE}
theorem w_aug {i : Nat} {x : V} {g : Int → Int → Int} (hx : σ[i]? = some (some x)) (q : te σ H fun y H1 => ∃ u v : Int, x = .int u ∧ y = .int v ∧ D.nx (σ.set i (some (.int (g u v)))) H1) : tAug i te (ipI g) D σ H := ⟨x, hx, q⟩
theorem w_ipi {u v : Int} {P : Int → Int → Prop} (q : P u v) : ∃ a b : Int, V.int u = .int a ∧ V.int v = .int b ∧ P a b := ⟨u, v, rfl, rfl, q⟩
theorem w_max2 {i j : Int} (q : Q (.int (max i j)) H) : rmax2C [.int i, .int j] H Q := ⟨i, j, rfl, by
  have e : (if j > i then j else i) = max i j := by split <;> omega
  rw [e]; exact q⟩
theorem w_min2 {i j : Int} (q : Q (.int (min i j)) H) : rmin2C [.int i, .int j] H Q := ⟨i, j, rfl, by
  have e : (if j < i then j else i) = min i j := by split <;> omega
  rw [e]; exact q⟩
theorem w_lenT {K : PySem.W.Frag} {p : Addr} {ys : List V} (h : H p = some (.tup ys)) (q : Q (.int (ys.length : Int)) H) : rLenS K [.ref p] H Q := ⟨p, ys, rfl, .inr (SqT.of h), q⟩
end

theorem Kd.sm {C : Addr} {TS : List (Addr × Str)} {H H' : Hp} {p : Addr} {w : Nat} {s : Bool} (h : Kd C H p w s) (e : Sm TS H H') : Kd C H' p w s := by
  obtain ⟨⟨dx, q⟩, a, b⟩ := h
  exact ⟨⟨dx, e.at q⟩, a, b⟩
theorem Kd.kq {C : Addr} {TS : List (Addr × Str)} {H H' : Hp} {p r : Addr} {w : Nat} {s : Bool} (h : Kd C H p w s) (n : p ≠ r) (e : Kq TS r H H') : Kd C H' p w s := by
  obtain ⟨⟨dx, q⟩, a, b⟩ := h
  exact ⟨⟨dx, e.at n q⟩, a, b⟩

theorem loK_hi (w : Nat) (s : Bool) : hiK w s = loK w s + 2 ^ w - 1 := rfl
theorem loK_b {wd : Nat} {s : Bool} (h : wd ≤ 128) : -(2 ^ 128) ≤ loK wd s ∧ loK wd s ≤ 0 ∧ hiK wd s ≤ 2 ^ 128 ∧ 0 ≤ hiK wd s + 1 ∧ (2 : Int) ^ wd ≤ 2 ^ 128 := by
  have e : (2 : Int) ^ wd ≤ 2 ^ 128 := by
    have := Nat.pow_le_pow_right (n := 2) (by decide) h
    exact_mod_cast this
  have e1 : (2 : Int) ^ (wd - 1) ≤ 2 ^ 128 := by
    have := Nat.pow_le_pow_right (n := 2) (by decide) (show wd - 1 ≤ 128 by omega)
    exact_mod_cast this
  have p1 := p2 (wd - 1)
  have p0 := p2 wd
  have e3 : (2 : Int) ^ (wd - 1) ≤ 2 ^ wd := by
    have := Nat.pow_le_pow_right (n := 2) (by decide) (show wd - 1 ≤ wd by omega)
    exact_mod_cast this
  cases s with
  | false =>
    have l : loK wd false = 0 := by unfold loK; rw [if_neg Bool.false_ne_true]
    refine ⟨by omega, by omega, by unfold hiK; omega, by unfold hiK; omega, e⟩
  | true =>
    have l : loK wd true = -(2 ^ (wd - 1)) := by unfold loK; rw [if_pos rfl]
    refine ⟨by omega, by omega, by unfold hiK; omega, by unfold hiK; omega, e⟩
theorem bb_of {n : Int} (h1 : -(2 ^ 299) ≤ n) (h2 : n ≤ 2 ^ 299) : BB n := by
  unfold BB
  exact Nat.lt_of_le_of_lt (show n.natAbs ≤ 2 ^ 299 by omega) (by decide +kernel)
theorem p128 : (2 : Int) ^ 128 < 2 ^ 290 := by decide +kernel
theorem p290 : (2 : Int) ^ 290 * 8 ≤ 2 ^ 299 := by decide +kernel
theorem wr_q (w : Nat) (s : Bool) (n : Int) : wr w s n = n - 2 ^ w * ((n - loK w s) / 2 ^ w) := by
  have := Int.emod_add_mul_ediv (n - loK w s) (2 ^ w)
  unfold wr; omega
theorem wr_in {w : Nat} {s : Bool} {n k : Int} (h1 : loK w s + 2 ^ w * k ≤ n) (h2 : n ≤ hiK w s + 2 ^ w * k) : wr w s n = n - 2 ^ w * k := by
  unfold hiK at h2
  have e : n - loK w s = (n - loK w s - 2 ^ w * k) + 2 ^ w * k := by omega
  unfold wr
  rw [e, Int.add_mul_emod_self_left, Int.emod_eq_of_lt (by omega) (by omega)]
  omega
theorem wr_add (w : Nat) (s : Bool) (n a : Int) : wr w s (n + a) = if wr w s n + a % 2 ^ w ≤ hiK w s then wr w s n + a % 2 ^ w else wr w s n + a % 2 ^ w - 2 ^ w := by
  have hp := p2 w
  have e1 := wr_q w s n
  have e2 := Int.emod_add_mul_ediv a (2 ^ w)
  have a0 := Int.emod_nonneg a (Int.ne_of_gt hp)
  have a1 := Int.emod_lt_of_pos a hp
  have w0 := wr_lo w s n
  have w1 := wr_hi w s n
  generalize (n - loK w s) / 2 ^ w = q at e1
  generalize a / 2 ^ w = r at e2
  generalize a % 2 ^ w = c at *
  by_cases z : wr w s n + c ≤ hiK w s
  · rw [if_pos z]
    have := wr_in (w := w) (s := s) (n := n + a) (k := q + r) (by rw [Int.mul_add]; omega) (by rw [Int.mul_add]; omega)
    rw [this, Int.mul_add]; omega
  · rw [if_neg z]
    have := wr_in (w := w) (s := s) (n := n + a) (k := q + r + 1) (by rw [Int.mul_add, Int.mul_add]; unfold hiK at z; omega) (by rw [Int.mul_add, Int.mul_add]; unfold hiK at *; omega)
    rw [this, Int.mul_add, Int.mul_add]; omega
/-- the descents -/
def dsP (wd : Nat) (s : Bool) (a b : Int) : Int → Bool := fun x => decide (wr wd s (a * (x + 1) + b) < wr wd s (a * x + b))
theorem dsP_rs (wd : Nat) (s : Bool) (a b x : Int) : rsP wd a b (hiK wd s + 1 - a % 2 ^ wd) (hiK wd s) x = dsP wd s a b x := by
  have hp := p2 wd
  have a0 := Int.emod_nonneg a (Int.ne_of_gt hp)
  have a1 := Int.emod_lt_of_pos a hp
  have w0 := wr_lo wd s (a * x + b)
  have w1 := wr_hi wd s (a * x + b)
  rw [rsP_wr (s := s) (by unfold hiK; omega) (Int.le_refl _)]
  unfold dsP
  rw [show a * (x + 1) + b = (a * x + b) + a by rw [Int.mul_add]; omega, wr_add wd s (a * x + b) a]
  by_cases z : wr wd s (a * x + b) + a % 2 ^ wd ≤ hiK wd s
  · rw [if_pos z, decide_eq_false fun y => by omega, decide_eq_false fun y => by omega]
  · rw [if_neg z, decide_eq_true (show _ ∧ _ from ⟨by omega, w1⟩), decide_eq_true (by omega)]
theorem mk_same {H H1 : Hp} {kx dx : Addr} {o1 o2 : HO} (nx : H kx = none) (ndx : H dx = none) (kp : Kp kx (upd (upd H dx o1) kx o2) H1) : Same H H1 := fun b o e => kp b o (ne_of_none e nx) (by rw [upd_ne (ne_of_none e nx), upd_ne (ne_of_none e ndx)]; exact e)
section
variable {TS : List (Addr × Str)} {p : Addr} {H H1 H2 : Hp}
theorem Kq.new {r : Addr} {o : HO} (s : Kq TS p H H1) (h : H1 r = none) : Kq TS p H (upd H1 r o) := s.trans (.of ((Sm.refl H1).new h))
theorem Kq.same (s : Kq TS p H H1) (h : Same H1 H2) : Kq TS p H H2 := s.trans (.of (Sm.of h))
theorem Kq.sm (s : Kq TS p H H1) (h : Sm TS H1 H2) : Kq TS p H H2 := s.trans (.of h)
/-- p is new: the change of p is no change to what was there -/
theorem Kq.mut {r : Addr} {o u : HO} (s : Kq TS p H H1) (hn : H r = none) (h : H1 r = some u) (hu : ∀ ps, u ≠ .tbl ps := by intro ps z; cases z) (hc : ∀ c q, u ≠ LamX.CodeO c q := by intro c q z; cases z) : Kq TS p H (upd H1 r o) := by
  refine ⟨fun q w n e t => ?_, fun t b hb => ?_⟩
  · rw [upd_ne (ne_of_none e hn)]
    exact s.1 q w n e t
  · obtain ⟨ps, a1, a2, a3⟩ := s.2 t b hb
    refine ⟨ps, by rw [upd_ne (fun z => by rw [z, h] at a1; cases a1; exact hu ps rfl)]; exact a1, a2, fun pos cv e => ?_⟩
    obtain ⟨c, e1, e2⟩ := a3 pos cv e
    exact ⟨c, e1, by rw [upd_ne (fun z => by rw [z, h] at e2; exact hc _ _ (Option.some.inj e2))]; exact e2⟩
theorem Kq.out {H3 : Hp} (a : Sm TS H H1) (n : H1 p = none) (b : Sm TS H1 H2) (s : Kq TS p H2 H3) : Sm TS H H3 := ⟨fun q o e t => s.1 q o (ne_of_none (a.1 q o e t) n) (b.1 q o (a.1 q o e t) t) t, fun h => s.2 (b.2 (a.2 h))⟩
end

theorem b28 {n : Int} (h : BB n) : n.natAbs < 2 ^ 2800 := Nat.lt_of_lt_of_le h (Nat.pow_le_pow_right (by decide) (by decide))
theorem b89 {n : Int} (h : BB n) : n.natAbs < 2 ^ 8999 := Nat.lt_of_lt_of_le h (Nat.pow_le_pow_right (by decide) (by decide))
theorem bb_sm {n : Int} (h1 : -(2 ^ 64) ≤ n) (h2 : n ≤ 2 ^ 64) : BB n := by
  have : (2 : Int) ^ 64 ≤ 2 ^ 299 := by decide +kernel
  exact bb_of (by omega) (by omega)
theorem bb_ten {n : Int} (h1 : -(10 ^ 62) ≤ n) (h2 : n ≤ 10 ^ 62) : BB n := by
  have : (10 : Int) ^ 62 ≤ 2 ^ 299 := by decide +kernel
  exact bb_of (by omega) (by omega)
theorem SD.of {n : Int} (h1 : -(10 ^ 60) < n) (h2 : n < 10 ^ 60) : SD n := ⟨h1, h2⟩
theorem eqv_rfl {d : PyData} (h : d.canLay0 = true) : PyData.eqv d d = true := PySem.SeqAt.eqv_refl d h

theorem lo_val {wd : Nat} (h : 1 ≤ wd) (s : Bool) : 0 - 2 ^ wd / 2 * (if s = true then (1 : Int) else 0) = loK wd s := by
  have e := p2s h
  have hp := p2 (wd - 1)
  cases s with
  | false =>
    unfold loK
    rw [if_neg Bool.false_ne_true, if_neg Bool.false_ne_true]; omega
  | true =>
    unfold loK
    rw [if_pos rfl, if_pos rfl]; omega

theorem lay_ints : ∀ is : List Int, PyData.canLayAll0 (is.map PyData.int) = true
  | [] => rfl
  | x :: r => by
    rw [List.map_cons, PyData.canLayAll0, lay_ints r]; rfl
theorem depth_ints : ∀ is : List Int, PyData.depthAll (is.map PyData.int) = 0
  | [] => by simp only [List.map_nil, PyData.depthAll]
  | x :: r => by
    rw [List.map_cons, PyData.depthAll, depth_ints r]; simp [PyData.depth]
theorem eqv_ints : ∀ is js : List Int, PyData.eqvAll (is.map PyData.int) (js.map PyData.int) = decide (is = js)
  | [], [] => by simp [PyData.eqvAll]
  | [], _ :: _ => by simp [PyData.eqvAll]
  | _ :: _, [] => by simp [PyData.eqvAll]
  | x :: xs, y :: ys => by
    rw [List.map_cons, List.map_cons, PyData.eqvAll, eqv_ints xs ys, show PyData.eqv (.int x) (.int y) = decide (x = y) from by simp only [PyData.eqv]; rfl, ← Bool.decide_and]
    exact decide_eq_decide.mpr (by rw [List.cons.injEq])
theorem shaped_ints (is : List Int) : SeqAt.shaped (.list (is.map PyData.int)) = true := by
  unfold SeqAt.shaped
  rw [show PyData.canLay0 (.list (is.map PyData.int)) = PyData.canLayAll0 (is.map PyData.int) from by simp only [PyData.canLay0], lay_ints, show PyData.depth (.list (is.map PyData.int)) = PyData.depthAll (is.map PyData.int) + 1 from by simp only [PyData.depth], depth_ints]
  rfl
theorem dp_ints {K : PySem.W.Frag} {H : Hp} : ∀ is : List Int, DpAll K H (is.map V.int) (is.map PyData.int)
  | [] => .nil
  | x :: r => .cons (.int x) (dp_ints r)

/-! ### two lines -/
def Rel (z : Str) : Prop := z = "<" ∨ z = "<=" ∨ z = "==" ∨ z = "!=" ∨ z = ">=" ∨ z = ">"
def relB (z : Str) (y w : Int) : Bool := if z = "<" then decide (y < w) else if z = "<=" then decide (y ≤ w) else if z = "==" then decide (y = w) else if z = "!=" then !decide (y = w) else if z = ">=" then decide (w ≤ y) else decide (w < y)
theorem rel1 (y w : Int) : relB "<" y w = decide (y < w) := if_pos rfl
theorem rel2 (y w : Int) : relB "<=" y w = decide (y ≤ w) := by unfold relB; rw [if_neg (by decide +kernel), if_pos rfl]
theorem rel3 (y w : Int) : relB "==" y w = decide (y = w) := by unfold relB; rw [if_neg (by decide +kernel), if_neg (by decide +kernel), if_pos rfl]
theorem rel4 (y w : Int) : relB "!=" y w = !decide (y = w) := by unfold relB; rw [if_neg (by decide +kernel), if_neg (by decide +kernel), if_neg (by decide +kernel), if_pos rfl]
theorem rel5 (y w : Int) : relB ">=" y w = decide (w ≤ y) := by unfold relB; rw [if_neg (by decide +kernel), if_neg (by decide +kernel), if_neg (by decide +kernel), if_neg (by decide +kernel), if_pos rfl]
theorem rel6 (y w : Int) : relB ">" y w = decide (w < y) := by unfold relB; rw [if_neg (by decide +kernel), if_neg (by decide +kernel), if_neg (by decide +kernel), if_neg (by decide +kernel), if_neg (by decide +kernel)]
theorem rel_sg {z : Str} (hz : Rel z) {y w y' w' : Int} (h1 : y < w ↔ y' < w') (h2 : y = w ↔ y' = w') : relB z y w = relB z y' w' := by
  rcases hz with rfl | rfl | rfl | rfl | rfl | rfl
  · rw [rel1, rel1, decide_eq_decide.mpr h1]
  · rw [rel2, rel2]; exact decide_eq_decide.mpr (by omega)
  · rw [rel3, rel3, decide_eq_decide.mpr h2]
  · rw [rel4, rel4, decide_eq_decide.mpr h2]
  · rw [rel5, rel5]; exact decide_eq_decide.mpr (by omega)
  · rw [rel6, rel6]; exact decide_eq_decide.mpr (by omega)
/-- the x at which the results of two lines stand in a relation -/
def cmP (wd : Nat) (s : Bool) (z : Str) (a b c d : Int) : Int → Bool := fun x => relB z (wr wd s (a * x + b)) (wr wd s (c * x + d))
theorem tot_notM (p : Int → Bool) (f l : Int) : tot (fun x => !p x) f l = max 0 (l - f + 1) - tot p f l := by
  by_cases h : f ≤ l + 1
  · rw [tot_not h]
    have := tot_le p h
    omega
  · rw [tot_none (show l < f by omega), tot_none (show l < f by omega)]; omega
theorem lt_quot (wd : Nat) (s : Bool) (y v : Int) : (y - loK wd s) / 2 ^ wd - (v - loK wd s) / 2 ^ wd - (y - v) / 2 ^ wd = if relB "<" (wr wd s y) (wr wd s v) = true then 1 else 0 := by
  have hp := p2 wd
  have e1 := wr_q wd s y
  have e2 := wr_q wd s v
  have y0 := wr_lo wd s y
  have y1 := wr_hi wd s y
  have v0 := wr_lo wd s v
  have v1 := wr_hi wd s v
  unfold hiK at y1 v1
  rw [rel1]
  generalize (y - loK wd s) / 2 ^ wd = q at *
  generalize (v - loK wd s) / 2 ^ wd = r at *
  have em : 2 ^ wd * (q - r) = 2 ^ wd * q - 2 ^ wd * r := Int.mul_sub _ _ _
  have em1 : 2 ^ wd * (q - r - 1) = 2 ^ wd * q - 2 ^ wd * r - 2 ^ wd := by rw [Int.mul_sub, em, Int.mul_one]
  by_cases c : wr wd s y < wr wd s v
  · rw [if_pos (decide_eq_true c)]
    have z : (y - v) / 2 ^ wd = q - r - 1 := by
      have e : y - v = (wr wd s y - wr wd s v + 2 ^ wd) + 2 ^ wd * (q - r - 1) := by omega
      rw [e, Int.add_mul_ediv_left _ _ (Int.ne_of_gt hp), Int.ediv_eq_zero_of_lt (by omega) (by omega)]; omega
    omega
  · rw [if_neg (by rw [decide_eq_true_eq]; exact c)]
    have z : (y - v) / 2 ^ wd = q - r := by
      have e : y - v = (wr wd s y - wr wd s v) + 2 ^ wd * (q - r) := by omega
      rw [e, Int.add_mul_ediv_left _ _ (Int.ne_of_gt hp), Int.ediv_eq_zero_of_lt (by omega) (by omega)]; omega
    omega
theorem QT_lt (wd : Nat) (s : Bool) (a b c d f l : Int) : QT (a - 0) (b - loK wd s) (2 ^ wd) f l - QT (c - 0) (d - loK wd s) (2 ^ wd) f l - QT (a - c) (b - d) (2 ^ wd) f l = tot (cmP wd s "<" a b c d) f l := by
  unfold QT tot cN
  rw [← sZ_sub, ← sZ_sub]
  refine sZ_congr fun i _ => ?_
  show _ = (if relB "<" (wr wd s (a * (f + (i : Int)) + b)) (wr wd s (c * (f + (i : Int)) + d)) = true then (1 : Int) else 0)
  rw [← lt_quot, Int.sub_zero, Int.sub_zero, Int.sub_mul]
  rw [show a * (f + (i : Int)) + (b - loK wd s) = a * (f + (i : Int)) + b - loK wd s by omega, show c * (f + (i : Int)) + (d - loK wd s) = c * (f + (i : Int)) + d - loK wd s by omega, show a * (f + (i : Int)) - c * (f + (i : Int)) + (b - d) = a * (f + (i : Int)) + b - (c * (f + (i : Int)) + d) by omega]
theorem wr_eq_iff (wd : Nat) (s : Bool) (y v : Int) : wr wd s y = wr wd s v ↔ (y - v) % 2 ^ wd = 0 := by
  have hp := p2 wd
  have e1 := wr_q wd s y
  have e2 := wr_q wd s v
  have y0 := wr_lo wd s y
  have y1 := wr_hi wd s y
  have v0 := wr_lo wd s v
  have v1 := wr_hi wd s v
  unfold hiK at y1 v1
  generalize (y - loK wd s) / 2 ^ wd = q at *
  generalize (v - loK wd s) / 2 ^ wd = r at *
  have em : 2 ^ wd * (q - r) = 2 ^ wd * q - 2 ^ wd * r := Int.mul_sub _ _ _
  have em1 : 2 ^ wd * (q - r - 1) = 2 ^ wd * q - 2 ^ wd * r - 2 ^ wd := by rw [Int.mul_sub, em, Int.mul_one]
  by_cases c : wr wd s v ≤ wr wd s y
  · have e : y - v = (wr wd s y - wr wd s v) + 2 ^ wd * (q - r) := by omega
    rw [e, Int.add_mul_emod_self_left, Int.emod_eq_of_lt (by omega) (by omega)]; omega
  · have e : y - v = (wr wd s y - wr wd s v + 2 ^ wd) + 2 ^ wd * (q - r - 1) := by omega
    rw [e, Int.add_mul_emod_self_left, Int.emod_eq_of_lt (by omega) (by omega)]; omega
theorem eq_inR (wd : Nat) (s : Bool) (a b c d x : Int) : inR (2 ^ wd) 0 0 ((a - c) * x + (b - d)) = cmP wd s "==" a b c d x := by
  have hp := p2 wd
  unfold cmP inR
  rw [rel3, show (a - c) * x + (b - d) - 0 = a * x + b - (c * x + d) by rw [Int.sub_mul]; omega]
  have := Int.emod_nonneg (a * x + b - (c * x + d)) (Int.ne_of_gt hp)
  refine decide_eq_decide.mpr ?_
  rw [wr_eq_iff]; omega
theorem cm_not {z z' : Str} (h : ∀ y w, relB z' y w = !relB z y w) (wd : Nat) (s : Bool) (a b c d f l : Int) : tot (cmP wd s z' a b c d) f l = max 0 (l - f + 1) - tot (cmP wd s z a b c d) f l := by
  rw [← tot_notM]
  exact tot_congr fun x _ _ => h _ _
theorem cm_turn {z z' : Str} (h : ∀ y w, relB z' y w = relB z w y) (wd : Nat) (s : Bool) (a b c d f l : Int) : tot (cmP wd s z' a b c d) f l = tot (cmP wd s z c d a b) f l := tot_congr fun x _ _ => h _ _
theorem rn25 (y w : Int) : relB "<=" y w = !relB "<" w y := by rw [rel1, rel2, ← decide_not]; exact decide_eq_decide.mpr (by omega)
theorem rn5 (y w : Int) : relB ">=" y w = !relB "<" y w := by rw [rel1, rel5, ← decide_not]; exact decide_eq_decide.mpr (by omega)
theorem rn4 (y w : Int) : relB "!=" y w = !relB "==" y w := by rw [rel4, rel3]
theorem rn6 (y w : Int) : relB ">" y w = relB "<" w y := by rw [rel6, rel1]
/-- surprises -/
def suP (wd : Nat) (s : Bool) (z : Str) (a b c d : Int) : Int → Bool := fun x => cmP wd s z a b c d x != relB z (a * x + b) (c * x + d)
theorem su_part {wd : Nat} {s : Bool} {z : Str} {a b c d f l : Int} {e : Bool} (h : ∀ x, f ≤ x → x ≤ l → relB z (a * x + b) (c * x + d) = e) : tot (suP wd s z a b c d) f l = if e = true then max 0 (l - f + 1) - tot (cmP wd s z a b c d) f l else tot (cmP wd s z a b c d) f l := by
  cases e with
  | true =>
    rw [if_pos rfl, ← tot_notM]
    refine tot_congr fun x h1 h2 => ?_
    unfold suP
    rw [h x h1 h2]; cases cmP wd s z a b c d x <;> rfl
  | false =>
    rw [if_neg Bool.false_ne_true]
    refine tot_congr fun x h1 h2 => ?_
    unfold suP
    rw [h x h1 h2]; cases cmP wd s z a b c d x <;> rfl
def CDivNW (_ j : Int) : Prop := j ≠ 0 ∧ j.natAbs.log2 < 9000
theorem op_fdivNW {X : Cx} : OpR X (binaryOp .FloorDiv) (rI CDivNW fun i j => .int (i.fdiv j)) := opI fun _ _ _ _ _ _ _ hc q => PyProof.Rows.floordiv_int hc.1 q (.inl (PyProof.noPylong_of_log2 hc.2))
theorem divnw {i j : Int} (h : j ≠ 0) (b : BB j) : CDivNW i j := ⟨h, Nat.lt_of_lt_of_le (PySem.Flt.log2_lt_of (k := 300) (by decide) b) (by decide)⟩
/-- where two lines cross -/
theorem cross_lt {u v x : Int} (hu : u ≠ 0) (h : x < (-v).fdiv u) : (0 < u → u * x + v < 0) ∧ (u < 0 → 0 < u * x + v) := by
  constructor
  · intro hp
    rw [Int.fdiv_eq_ediv_of_nonneg _ (Int.le_of_lt hp)] at h
    have h1 := (Int.le_ediv_iff_mul_le hp (a := x + 1) (b := -v)).mp (by omega)
    rw [Int.add_mul, Int.one_mul, Int.mul_comm x u] at h1
    omega
  · intro hn
    have e : (-v).fdiv u = v.fdiv (-u) := by rw [← Int.neg_fdiv_neg, Int.neg_neg]
    rw [e, Int.fdiv_eq_ediv_of_nonneg _ (by omega)] at h
    have h1 := (Int.le_ediv_iff_mul_le (show 0 < -u by omega) (a := x + 1) (b := v)).mp (by omega)
    rw [Int.add_mul, Int.one_mul, Int.mul_neg, Int.mul_comm x u] at h1
    omega
theorem cross_gt {u v x : Int} (hu : u ≠ 0) (h : (-v).fdiv u < x) : (0 < u → 0 < u * x + v) ∧ (u < 0 → u * x + v < 0) := by
  constructor
  · intro hp
    rw [Int.fdiv_eq_ediv_of_nonneg _ (Int.le_of_lt hp)] at h
    have h1 := (Int.ediv_lt_iff_lt_mul hp (a := -v) (b := x)).mp h
    rw [Int.mul_comm x u] at h1
    omega
  · intro hn
    have e : (-v).fdiv u = v.fdiv (-u) := by rw [← Int.neg_fdiv_neg, Int.neg_neg]
    rw [e, Int.fdiv_eq_ediv_of_nonneg _ (by omega)] at h
    have h1 := (Int.ediv_lt_iff_lt_mul (show 0 < -u by omega) (a := v) (b := x)).mp h
    rw [Int.mul_neg, Int.mul_comm x u] at h1
    omega
theorem fdiv_bb {u v : Int} (hu : u ≠ 0) : (v.fdiv u).natAbs ≤ v.natAbs + 1 := by
  rcases Int.lt_or_gt_of_ne hu with h | h
  · have e : v.fdiv u = (-v).fdiv (-u) := by rw [Int.neg_fdiv_neg]
    rw [e, Int.fdiv_eq_ediv_of_nonneg _ (by omega)]
    have := Int.natAbs_ediv_le_natAbs (-v) (-u)
    omega
  · rw [Int.fdiv_eq_ediv_of_nonneg _ (Int.le_of_lt h)]
    have := Int.natAbs_ediv_le_natAbs v u
    omega
/-- the parts of a range, at each of which the lines are in one order -/
structure Parts (a b c d f l : Int) (ps : List (Int × Int)) : Prop where
  sum : ∀ p : Int → Bool, (ps.map fun r => tot p r.1 r.2).sum = tot p f l
  one : ∀ r ∈ ps, ∀ x, r.1 ≤ x → x ≤ r.2 → ((a * x + b < c * x + d ↔ a * r.1 + b < c * r.1 + d) ∧ (a * x + b = c * x + d ↔ a * r.1 + b = c * r.1 + d))
  bb : ∀ r ∈ ps, BB r.1 ∧ BB r.2
theorem parts1 {a b c d f l : Int} (h : a - c = 0) (bf : BB f) (bl : BB l) : Parts a b c d f l [(f, l)] := by
  have e : a = c := by omega
  subst e
  refine ⟨fun p => by simp, fun r hr x _ _ => by omega, fun r hr => ?_⟩
  rw [List.mem_singleton.mp hr]
  exact ⟨bf, bl⟩
theorem parts3 {a b c d f l : Int} (h : a - c ≠ 0) (sb : SD b) (sd : SD d) (sf : SD f) (sl : SD l) : Parts a b c d f l [(f, min l ((-(b - d)).fdiv (a - c) - 1)), (max f ((-(b - d)).fdiv (a - c)), min l ((-(b - d)).fdiv (a - c))), (max f ((-(b - d)).fdiv (a - c) + 1), l)] := by
  have g : ∀ x, a * x + b - (c * x + d) = (a - c) * x + (b - d) := fun x => by rw [Int.sub_mul]; omega
  have lt := fun x h' => cross_lt (u := a - c) (v := b - d) (x := x) h h'
  have gt := fun x h' => cross_gt (u := a - c) (v := b - d) (x := x) h h'
  have kb := fdiv_bb (u := a - c) (v := -(b - d)) h
  generalize (-(b - d)).fdiv (a - c) = k at *
  obtain ⟨b1, b2⟩ := sb
  obtain ⟨d1, d2⟩ := sd
  obtain ⟨f1, f2⟩ := sf
  obtain ⟨l1, l2⟩ := sl
  have p10 : (10 : Int) ^ 60 * 4 < 10 ^ 62 := by decide +kernel
  refine ⟨fun p => ?_, fun r hr x x1 x2 => ?_, fun r hr => ?_⟩
  · simp only [List.map_cons, List.map_nil, List.sum_cons, List.sum_nil]
    by_cases c1 : l < k
    · rw [show min l (k - 1) = l by omega, tot_none (p := p) (show min l k < max f k by omega), tot_none (p := p) (show l < max f (k + 1) by omega)]; omega
    · by_cases c2 : k < f
      · rw [tot_none (p := p) (show min l (k - 1) < f by omega), tot_none (p := p) (show min l k < max f k by omega), show max f (k + 1) = f by omega]; omega
      · rw [tot_split p (first := f) (mid := k - 1) (last := l) (by omega) (by omega), tot_split p (first := k - 1 + 1) (mid := k) (last := l) (by omega) (by omega), show min l (k - 1) = k - 1 by omega, show max f k = k by omega, show min l k = k by omega, show max f (k + 1) = k + 1 by omega, show k - 1 + 1 = k by omega]; omega
  · have key : ∀ y w : Int, (y < k ∧ w < k) ∨ (k < y ∧ k < w) → ((a * y + b < c * y + d ↔ a * w + b < c * w + d) ∧ (a * y + b = c * y + d ↔ a * w + b = c * w + d)) := fun y w hyw => by
      have g1 := g y
      have g2 := g w
      rcases hyw with ⟨h1, h2⟩ | ⟨h1, h2⟩
      · obtain ⟨u1, u2⟩ := lt y h1
        obtain ⟨w1, w2⟩ := lt w h2
        rcases Int.lt_or_gt_of_ne h with z | z
        · have := u2 z; have := w2 z; omega
        · have := u1 z; have := w1 z; omega
      · obtain ⟨u1, u2⟩ := gt y h1
        obtain ⟨w1, w2⟩ := gt w h2
        rcases Int.lt_or_gt_of_ne h with z | z
        · have := u2 z; have := w2 z; omega
        · have := u1 z; have := w1 z; omega
    rcases List.mem_cons.mp hr with rfl | hr
    · exact key _ _ (.inl ⟨by omega, by omega⟩)
    · rcases List.mem_cons.mp hr with rfl | hr
      · have e : x = max f k := by omega
        rw [e]
        exact ⟨Iff.rfl, Iff.rfl⟩
      · rw [List.mem_singleton.mp hr] at x1 x2 ⊢
        exact key _ _ (.inr ⟨by omega, by omega⟩)
  · have bk : BB k ∧ BB (k - 1) ∧ BB (k + 1) := ⟨bb_ten (by omega) (by omega), bb_ten (by omega) (by omega), bb_ten (by omega) (by omega)⟩
    have bf : BB f := bb_ten (by omega) (by omega)
    have bl : BB l := bb_ten (by omega) (by omega)
    have mn : ∀ u v : Int, BB u → BB v → BB (min u v) ∧ BB (max u v) := fun u v h1 h2 => by
      unfold BB at *
      constructor <;> omega
    rcases List.mem_cons.mp hr with rfl | hr
    · exact ⟨bf, (mn _ _ bl bk.2.1).1⟩
    · rcases List.mem_cons.mp hr with rfl | hr
      · exact ⟨(mn _ _ bf bk.1).2, (mn _ _ bl bk.1).1⟩
      · rw [List.mem_singleton.mp hr]
        exact ⟨(mn _ _ bf bk.2.2).2, bl⟩

theorem rel_in {z : Str} (h : Rel z) : inV (.str z) [.str "<", .str "<=", .str "==", .str "!=", .str ">=", .str ">"] = true := by
  rcases h with rfl | rfl | rfl | rfl | rfl | rfl <;> decide +kernel

theorem is0 {z : Str} (hz : Rel z) : inV (.str z) [.str "<=", .str "==", .str ">="] = relB z 0 0 := by
  rcases hz with rfl | rfl | rfl | rfl | rfl | rfl <;> decide +kernel
theorem is1 {z : Str} (hz : Rel z) {g : Int} (h : g < 0) : inV (.str z) [.str "<", .str "<=", .str "!="] = relB z g 0 := by
  rw [rel_sg hz (y := g) (w := 0) (y' := -1) (w' := 0) (by omega) (by omega)]
  rcases hz with rfl | rfl | rfl | rfl | rfl | rfl <;> decide +kernel
theorem is2 {z : Str} (hz : Rel z) {g : Int} (h : 0 < g) : inV (.str z) [.str ">", .str ">=", .str "!="] = relB z g 0 := by
  rw [rel_sg hz (y := g) (w := 0) (y' := 1) (w' := 0) (by omega) (by omega)]
  rcases hz with rfl | rfl | rfl | rfl | rfl | rfl <;> decide +kernel

theorem w_stJ {c : Prop} [Decidable c] {ta tb : TS} {σ : L2.St} {H : Hp} {D : Ends} (R : L2.St → Hp → Prop) (h1 : c → ∀ D' : Ends, (∀ σ' H', R σ' H' → D'.nx σ' H') → ta D' σ H) (h2 : ¬ c → ∀ D' : Ends, (∀ σ' H', R σ' H' → D'.nx σ' H') → tb D' σ H) (q : ∀ σ' H', R σ' H' → D.nx σ' H') : if decide c = true then ta D σ H else tb D σ H := w_dec (fun z => h1 z D q) (fun z => h2 z D q)
theorem w_bm {K : PySem.W.Frag} {T : String} {r : V → List V → Hp → VK → Prop} {to : TE} {t : TA} {σ : L2.St} {H : Hp} {Q : VK} (q : to σ H fun x H1 => tyV K T x H1 ∧ t σ H1 fun xs H2 => r x xs H2 Q) : tBM K T r to t σ H Q := q
theorem w_ifJ {tt : TT} {ta tb : TE} {σ : L2.St} {H : Hp} {Q : VK} (R : V → Hp → Prop) (h1 : ∀ Q : VK, (∀ x H', R x H' → Q x H') → tIf tt ta tb σ H Q) (q : ∀ x H', R x H' → Q x H') : tIf tt ta tb σ H Q := h1 Q q

structure TabG (H : Hp) (D : Addr) (G W : Int → Int) (f : Int) (n : Nat) (ts : List Addr) : Prop where
  lst : H D = some (.lst (ts.map V.ref))
  len : ts.length = n
  row : ∀ (i : Nat) (t : Addr), ts[i]? = some t → H t = some (.tup [.int (G (f + (i : Int))), .int (W (f + (i : Int))), .int (f + (i : Int))])
theorem TabG.sm {TS : List (Addr × Str)} {H H' : Hp} {D : Addr} {G W : Int → Int} {f : Int} {n : Nat} {ts : List Addr} (h : TabG H D G W f n ts) (s : Sm TS H H') : TabG H' D G W f n ts := ⟨s.at h.lst, h.len, fun i t e => s.at (h.row i t e)⟩
theorem TabG.more {H : Hp} {D t : Addr} {G W : Int → Int} {f : Int} {i : Nat} {ts : List Addr} (R : TabG H D G W f i ts) (ht : H t = none) (q : H D = some (.lst (ts.map V.ref))) : TabG (L2.upd (L2.upd H t (.tup [.int (G (f + (i : Int))), .int (W (f + (i : Int))), .int (f + (i : Int))])) D (.lst (ts.map V.ref ++ [.ref t]))) D G W f (i + 1) (ts ++ [t]) := by
  refine ⟨by rw [upd_same, List.map_append]; rfl, by rw [List.length_append, R.len]; rfl, fun j t' e => ?_⟩
  have nt : t ≠ D := (ne_of_none q ht).symm
  by_cases c : j < ts.length
  · rw [List.getElem?_append_left c] at e
    have z := R.row j t' e
    rw [upd_ne (ne_of z R.lst (by intro y; cases y))]
    exact gn z ht
  · rw [List.getElem?_append_right (by omega)] at e
    have e0 : j - ts.length = 0 := by
      have := (List.getElem?_eq_some_iff.mp e).1
      simpa using this
    rw [e0] at e
    have et : t = t' := by simpa using e
    subst et
    have ej : j = i := by have := R.len; omega
    subst ej
    rw [upd_ne nt]
    exact upd_same

theorem sd_of {n : Int} (h1 : -1000 ≤ n) (h2 : n ≤ 1000) : SD n := by
  have : (1000 : Int) < 10 ^ 60 := by decide +kernel
  exact ⟨by omega, by omega⟩

theorem su_100 : tot (suP 8 false "<" 3 200 1 0) 0 99 = 9 := by decide +kernel
theorem su_255 : (wl (suP 8 false "<" 1 0 1 1) 0 256)[0]? = some 255 := by decide +kernel
theorem su_at : suP 8 false "<" 1 0 1 1 255 = true := by decide +kernel
def p_kb_surprises_0_last_first_other_relation_one_kind {α : Type} (us ws : List α) : List α := match us, ws with | [], [w0, w1, w2, w3, w4, w5] => [w5, w4, w3, w2, w1, w0] | _, _ => []
def p_kb_first_surprise_0_last_first_other_relation_one_kind {α : Type} (us ws : List α) : List α := match us, ws with | [], [w0, w1, w2, w3, w4, w5] => [w5, w4, w3, w2, w1, w0] | _, _ => []
structure Txt (K : PySem.W.Frag) (mg : Str → Option Value) where
  tabs : List (Addr × Str)
  C_Kind : Addr
  cl_Kind : Cls K C_Kind
  g_Kind : mg "Kind" = some (.ref C_Kind)
  na_Kind_bits : NoAttr K C_Kind "bits"
  na_Kind_is_signed : NoAttr K C_Kind "is_signed"
  ia_Kind : PySem.W.findIn K (.ref C_Kind) "__class__" = some (some (.builtin "object.__class__"))
  ib_Kind : PySem.W.specialIn K (.builtin "object.__class__") "__get__" = some (some (.builtin "getset_descriptor.__get__"))
  ic_Kind : PySem.W.takesIn K (.builtin "object.__class__") = some true
  id_Kind : PySem.W.mroIn K C_Kind (.type "object") = some true
  f_is_integer : Addr
  fd_is_integer : FuncData
  F_is_integer : Fun K "is_integer" "is_integer" s_is_integer f_is_integer fd_is_integer
  b_is_integer : Binds K fd_is_integer ["value"] []
  g_is_integer : mg "is_integer" = some (.ref f_is_integer)
  k_is_integer : PySem.W.keepIn K (.ref f_is_integer) = true
  f_is_sixty_digits : Addr
  fd_is_sixty_digits : FuncData
  F_is_sixty_digits : Fun K "is_sixty_digits" "is_sixty_digits" s_is_sixty_digits f_is_sixty_digits fd_is_sixty_digits
  b_is_sixty_digits : Binds K fd_is_sixty_digits ["value"] []
  g_is_sixty_digits : mg "is_sixty_digits" = some (.ref f_is_sixty_digits)
  k_is_sixty_digits : PySem.W.keepIn K (.ref f_is_sixty_digits) = true
  f_check_sixty_digits : Addr
  fd_check_sixty_digits : FuncData
  F_check_sixty_digits : Fun K "check_sixty_digits" "check_sixty_digits" s_check_sixty_digits f_check_sixty_digits fd_check_sixty_digits
  b_check_sixty_digits : Binds K fd_check_sixty_digits ["value", "argument"] []
  g_check_sixty_digits : mg "check_sixty_digits" = some (.ref f_check_sixty_digits)
  k_check_sixty_digits : PySem.W.keepIn K (.ref f_check_sixty_digits) = true
  f_check_word : Addr
  fd_check_word : FuncData
  F_check_word : Fun K "check_word" "check_word" s_check_word f_check_word fd_check_word
  b_check_word : Binds K fd_check_word ["word", "words", "argument"] []
  g_check_word : mg "check_word" = some (.ref f_check_word)
  k_check_word : PySem.W.keepIn K (.ref f_check_word) = true
  f_stands : Addr
  fd_stands : FuncData
  F_stands : Fun K "stands" "stands" s_stands f_stands fd_stands
  b_stands : Binds K fd_stands ["y", "relation", "z"] []
  g_stands : mg "stands" = some (.ref f_stands)
  k_stands : PySem.W.keepIn K (.ref f_stands) = true
  f_Kind___init__ : Addr
  fd_Kind___init__ : FuncData
  F_Kind___init__ : Fun K "__init__" "Kind.__init__" s_Kind___init__ f_Kind___init__ fd_Kind___init__
  b_Kind___init__ : Binds K fd_Kind___init__ ["self", "bits", "is_signed"] []
  f_check_kind : Addr
  fd_check_kind : FuncData
  F_check_kind : Fun K "check_kind" "check_kind" s_check_kind f_check_kind fd_check_kind
  b_check_kind : Binds K fd_check_kind ["kind"] []
  g_check_kind : mg "check_kind" = some (.ref f_check_kind)
  k_check_kind : PySem.W.keepIn K (.ref f_check_kind) = true
  f_least : Addr
  fd_least : FuncData
  F_least : Fun K "least" "least" s_least f_least fd_least
  b_least : Binds K fd_least ["kind"] []
  g_least : mg "least" = some (.ref f_least)
  k_least : PySem.W.keepIn K (.ref f_least) = true
  f_first_wanted : Addr
  fd_first_wanted : FuncData
  c_first_wanted : Addr
  P_first_wanted : Addr
  F_first_wanted : FunT K "first_wanted" "first_wanted" s_first_wanted f_first_wanted fd_first_wanted c_first_wanted
  mT_first_wanted : (P_first_wanted, ("first_wanted" : Str) ++ ".<locals>." ++ "<lambda>") ∈ tabs
  uT_first_wanted : ∀ p ∈ tabs, p.1 = P_first_wanted → p.2 = ("first_wanted" : Str) ++ ".<locals>." ++ "<lambda>"
  b_first_wanted : Binds K fd_first_wanted ["total_to", "first", "last"] []
  g_first_wanted : mg "first_wanted" = some (.ref f_first_wanted)
  k_first_wanted : PySem.W.keepIn K (.ref f_first_wanted) = true
  f_least_passing : Addr
  fd_least_passing : FuncData
  F_least_passing : Fun K "least_passing" "least_passing" s_least_passing f_least_passing fd_least_passing
  b_least_passing : Binds K fd_least_passing ["passes", "first", "last"] []
  g_least_passing : mg "least_passing" = some (.ref f_least_passing)
  k_least_passing : PySem.W.keepIn K (.ref f_least_passing) = true
  f_quotient_total : Addr
  fd_quotient_total : FuncData
  F_quotient_total : Fun K "quotient_total" "quotient_total" s_quotient_total f_quotient_total fd_quotient_total
  b_quotient_total : Binds K fd_quotient_total ["line", "size", "first", "last"] []
  g_quotient_total : mg "quotient_total" = some (.ref f_quotient_total)
  k_quotient_total : PySem.W.keepIn K (.ref f_quotient_total) = true
  f_total_between : Addr
  fd_total_between : FuncData
  F_total_between : Fun K "total_between" "total_between" s_total_between f_total_between fd_total_between
  b_total_between : Binds K fd_total_between ["line", "size", "first", "last", "low", "high"] []
  g_total_between : mg "total_between" = some (.ref f_total_between)
  k_total_between : PySem.W.keepIn K (.ref f_total_between) = true
  f_check_line : Addr
  fd_check_line : FuncData
  F_check_line : Fun K "check_line" "check_line" s_check_line f_check_line fd_check_line
  b_check_line : Binds K fd_check_line ["line", "argument"] []
  g_check_line : mg "check_line" = some (.ref f_check_line)
  k_check_line : PySem.W.keepIn K (.ref f_check_line) = true
  f_check_range : Addr
  fd_check_range : FuncData
  F_check_range : Fun K "check_range" "check_range" s_check_range f_check_range fd_check_range
  b_check_range : Binds K fd_check_range ["first", "last"] []
  g_check_range : mg "check_range" = some (.ref f_check_range)
  k_check_range : PySem.W.keepIn K (.ref f_check_range) = true
  f_exact_at : Addr
  fd_exact_at : FuncData
  F_exact_at : Fun K "exact_at" "exact_at" s_exact_at f_exact_at fd_exact_at
  b_exact_at : Binds K fd_exact_at ["line", "x"] []
  g_exact_at : mg "exact_at" = some (.ref f_exact_at)
  k_exact_at : PySem.W.keepIn K (.ref f_exact_at) = true
  f__check_lines : Addr
  fd__check_lines : FuncData
  F__check_lines : Fun K "_check_lines" "_check_lines" s__check_lines f__check_lines fd__check_lines
  b__check_lines : Binds K fd__check_lines ["kind", "one", "relation", "other"] []
  g__check_lines : mg "_check_lines" = some (.ref f__check_lines)
  k__check_lines : PySem.W.keepIn K (.ref f__check_lines) = true
  f__check : Addr
  fd__check : FuncData
  F__check : Fun K "_check" "_check" s__check f__check fd__check
  b__check : Binds K fd__check ["kind", "one", "relation", "other", "first", "last"] []
  g__check : mg "_check" = some (.ref f__check)
  k__check : PySem.W.keepIn K (.ref f__check) = true
  f__count : Addr
  fd__count : FuncData
  F__count : Fun K "_count" "_count" s__count f__count fd__count
  b__count : Binds K fd__count ["first", "last"] []
  g__count : mg "_count" = some (.ref f__count)
  k__count : PySem.W.keepIn K (.ref f__count) = true
  f__gap : Addr
  fd__gap : FuncData
  F__gap : Fun K "_gap" "_gap" s__gap f__gap fd__gap
  b__gap : Binds K fd__gap ["one", "other"] []
  g__gap : mg "_gap" = some (.ref f__gap)
  k__gap : PySem.W.keepIn K (.ref f__gap) = true
  f__less_total : Addr
  fd__less_total : FuncData
  F__less_total : Fun K "_less_total" "_less_total" s__less_total f__less_total fd__less_total
  b__less_total : Binds K fd__less_total ["kind", "one", "other", "first", "last"] []
  g__less_total : mg "_less_total" = some (.ref f__less_total)
  k__less_total : PySem.W.keepIn K (.ref f__less_total) = true
  f__equal_total : Addr
  fd__equal_total : FuncData
  F__equal_total : Fun K "_equal_total" "_equal_total" s__equal_total f__equal_total fd__equal_total
  b__equal_total : Binds K fd__equal_total ["kind", "one", "other", "first", "last"] []
  g__equal_total : mg "_equal_total" = some (.ref f__equal_total)
  k__equal_total : PySem.W.keepIn K (.ref f__equal_total) = true
  f__total : Addr
  fd__total : FuncData
  F__total : Fun K "_total" "_total" s__total f__total fd__total
  b__total : Binds K fd__total ["kind", "one", "relation", "other", "first", "last"] []
  g__total : mg "_total" = some (.ref f__total)
  k__total : PySem.W.keepIn K (.ref f__total) = true
  f__ordered_parts : Addr
  fd__ordered_parts : FuncData
  F__ordered_parts : Fun K "_ordered_parts" "_ordered_parts" s__ordered_parts f__ordered_parts fd__ordered_parts
  b__ordered_parts : Binds K fd__ordered_parts ["one", "other", "first", "last"] []
  g__ordered_parts : mg "_ordered_parts" = some (.ref f__ordered_parts)
  k__ordered_parts : PySem.W.keepIn K (.ref f__ordered_parts) = true
  f__surprises : Addr
  fd__surprises : FuncData
  F__surprises : Fun K "_surprises" "_surprises" s__surprises f__surprises fd__surprises
  b__surprises : Binds K fd__surprises ["kind", "one", "relation", "other", "first", "last"] []
  g__surprises : mg "_surprises" = some (.ref f__surprises)
  k__surprises : PySem.W.keepIn K (.ref f__surprises) = true
  f_surprises : Addr
  fd_surprises : FuncData
  F_surprises : Fun K "surprises" "surprises" s_surprises f_surprises fd_surprises
  b_surprises : Binds K fd_surprises ["kind", "one", "relation", "other", "first", "last"] []
  g_surprises : mg "surprises" = some (.ref f_surprises)
  k_surprises : PySem.W.keepIn K (.ref f_surprises) = true
  f_first_surprise : Addr
  fd_first_surprise : FuncData
  c_first_surprise : Addr
  P_first_surprise : Addr
  F_first_surprise : FunT K "first_surprise" "first_surprise" s_first_surprise f_first_surprise fd_first_surprise c_first_surprise
  mT_first_surprise : (P_first_surprise, ("first_surprise" : Str) ++ ".<locals>." ++ "<lambda>") ∈ tabs
  uT_first_surprise : ∀ p ∈ tabs, p.1 = P_first_surprise → p.2 = ("first_surprise" : Str) ++ ".<locals>." ++ "<lambda>"
  b_first_surprise : Binds K fd_first_surprise ["kind", "one", "relation", "other", "first", "last"] []
  g_first_surprise : mg "first_surprise" = some (.ref f_first_surprise)
  k_first_surprise : PySem.W.keepIn K (.ref f_first_surprise) = true
  f__law_deck : Addr
  fd__law_deck : FuncData
  F__law_deck : Fun K "_law_deck" "_law_deck" s__law_deck f__law_deck fd__law_deck
  b__law_deck : Binds K fd__law_deck ["_law_cell"] []
  g__law_deck : mg "_law_deck" = some (.ref f__law_deck)
  k__law_deck : PySem.W.keepIn K (.ref f__law_deck) = true
  f__law_deal : Addr
  fd__law_deal : FuncData
  F__law_deal : Fun K "_law_deal" "_law_deal" s__law_deal f__law_deal fd__law_deal
  b__law_deal : Binds K fd__law_deal ["_law_deck_here", "_law_many"] []
  g__law_deal : mg "_law_deal" = some (.ref f__law_deal)
  k__law_deal : PySem.W.keepIn K (.ref f__law_deal) = true
  f__law_choice : Addr
  fd__law_choice : FuncData
  F__law_choice : Fun K "_law_choice" "_law_choice" s__law_choice f__law_choice fd__law_choice
  b__law_choice : Binds K fd__law_choice ["_law_deck_here", "_law_some_here"] []
  g__law_choice : mg "_law_choice" = some (.ref f__law_choice)
  k__law_choice : PySem.W.keepIn K (.ref f__law_choice) = true
  f__law_great : Addr
  fd__law_great : FuncData
  F__law_great : Fun K "_law_great" "_law_great" s__law_great f__law_great fd__law_great
  b__law_great : Binds K fd__law_great ["_law_deck_here", "_law_most"] []
  g__law_great : mg "_law_great" = some (.ref f__law_great)
  k__law_great : PySem.W.keepIn K (.ref f__law_great) = true
  f__law_near : Addr
  fd__law_near : FuncData
  F__law_near : Fun K "_law_near" "_law_near" s__law_near f__law_near fd__law_near
  b__law_near : Binds K fd__law_near ["_law_deck_here"] []
  g__law_near : mg "_law_near" = some (.ref f__law_near)
  k__law_near : PySem.W.keepIn K (.ref f__law_near) = true
  f__law_some : Addr
  fd__law_some : FuncData
  F__law_some : Fun K "_law_some" "_law_some" s__law_some f__law_some fd__law_some
  b__law_some : Binds K fd__law_some ["_law_deck_here", "_law_size"] []
  g__law_some : mg "_law_some" = some (.ref f__law_some)
  k__law_some : PySem.W.keepIn K (.ref f__law_some) = true
  f__law_is_so : Addr
  fd__law_is_so : FuncData
  F__law_is_so : Fun K "_law_is_so" "_law_is_so" s__law_is_so f__law_is_so fd__law_is_so
  b__law_is_so : Binds K fd__law_is_so ["_law_word", "_law_gap"] []
  g__law_is_so : mg "_law_is_so" = some (.ref f__law_is_so)
  k__law_is_so : PySem.W.keepIn K (.ref f__law_is_so) = true
  f__law_right : Addr
  fd__law_right : FuncData
  F__law_right : Fun K "_law_right" "_law_right" s__law_right f__law_right fd__law_right
  b__law_right : Binds K fd__law_right ["_law_deck_here"] []
  g__law_right : mg "_law_right" = some (.ref f__law_right)
  k__law_right : PySem.W.keepIn K (.ref f__law_right) = true
  f_law : Addr
  fd_law : FuncData
  F_law : Fun K "law" "law" s_law f_law fd_law
  b_law : Binds K fd_law ["_law_script"] []
  g_law : mg "law" = some (.ref f_law)
  k_law : PySem.W.keepIn K (.ref f_law) = true
  mk_Kind : Mk K C_Kind f_Kind___init__
  kb_surprises_0_last_first_other_relation_one_kind : KBinds K fd_surprises ["kind", "one", "relation", "other", "first", "last"] ["last", "first", "other", "relation", "one", "kind"] p_kb_surprises_0_last_first_other_relation_one_kind p_kb_surprises_0_last_first_other_relation_one_kind
  kb_first_surprise_0_last_first_other_relation_one_kind : KBinds K fd_first_surprise ["kind", "one", "relation", "other", "first", "last"] ["last", "first", "other", "relation", "one", "kind"] p_kb_first_surprise_0_last_first_other_relation_one_kind p_kb_first_surprise_0_last_first_other_relation_one_kind
  t_BEYOND_SIXTY_DIGITS : Tok
  g_BEYOND_SIXTY_DIGITS : mg "BEYOND_SIXTY_DIGITS" = some (.int 1000000000000000000000000000000000000000000000000000000000000 t_BEYOND_SIXTY_DIGITS)
  a_RELATIONS : Addr
  g_RELATIONS : mg "RELATIONS" = some (.ref a_RELATIONS)
  q_RELATIONS : ∀ H : Hp, SqT K H a_RELATIONS [.str "<", .str "<=", .str "==", .str "!=", .str ">=", .str ">"]
  t_MOST_BITS : Tok
  g_MOST_BITS : mg "MOST_BITS" = some (.int 128 t_MOST_BITS)
  n_abs : mg "abs" = none
  n_bool : mg "bool" = none
  n_divmod : mg "divmod" = none
  n_int : mg "int" = none
  n_isinstance : mg "isinstance" = none
  n_len : mg "len" = none
  n_max : mg "max" = none
  n_min : mg "min" = none
  n_range : mg "range" = none
  n_str : mg "str" = none
  n_tuple : mg "tuple" = none
  bl_law : ∀ (s : Shared) (v : Value), BindsTo s fd_law ⟨[v], []⟩ [("_law_script", v)]
structure TBs {K : PySem.W.Frag} {mg : Str → Option Value} (T : Txt K mg) (base : Heap) : Prop where
  tb_first_wanted : LamX.TabB base mg T.c_first_wanted T.P_first_wanted
  tb_first_surprise : LamX.TabB base mg T.c_first_surprise T.P_first_surprise
structure TI {K : PySem.W.Frag} {mg : Str → Option Value} (T : Txt K mg) : Prop where
  eq : T.tabs = [(T.P_first_wanted, ("first_wanted" : Str) ++ ".<locals>." ++ "<lambda>"), (T.P_first_surprise, ("first_surprise" : Str) ++ ".<locals>." ++ "<lambda>")]
  ti_first_wanted : PySem.W.tabIn K "first_wanted" = some (T.c_first_wanted, T.P_first_wanted)
  ti_first_surprise : PySem.W.tabIn K "first_surprise" = some (T.c_first_surprise, T.P_first_surprise)

section
variable {K : PySem.W.Frag} {mg : Str → Option Value} {H : Hp} {Q : VK} {C p : Addr} {wd : Nat} {s : Bool}
theorem w_isi {v : V} {t c : String} {b : Bool} (ty : TyX K H v (.type t)) (e : kitB t c = some b) (q : Q (.bl b) H) : rIsi K [v, .ty c] H Q := ⟨_, _, _, _, b, rfl, .ty c, ty, kit_ty e, q⟩
theorem w_isK (T : Txt K mg) (k : Kd T.C_Kind H p wd s) (q : Q (.bl true) H) : rIsi K [.ref p, .ref T.C_Kind] H Q := by
  obtain ⟨⟨dx, e⟩, _, _⟩ := k
  exact ⟨_, _, _, _, true, rfl, .own _, .base (.ins e T.cl_Kind T.ia_Kind T.ib_Kind T.ic_Kind T.id_Kind), (by unfold PySem.W.kitOne; rw [if_pos (by simp)]), q⟩
theorem w_fb {i : Nat} {σ : L2.St} (T : Txt K mg) (hs : σ[i]? = some (some (.ref p))) (k : Kd T.C_Kind H p wd s) (q : Q (.int (wd : Int)) H) : tFld K (tVar i) "bits" σ H Q := by
  obtain ⟨⟨dx, e⟩, _, _⟩ := k
  exact ⟨_, hs, p, _, dx, _, _, rfl, e, T.cl_Kind, T.na_Kind_bits, kf_bits _ _, q⟩
theorem w_fs {i : Nat} {σ : L2.St} (T : Txt K mg) (hs : σ[i]? = some (some (.ref p))) (k : Kd T.C_Kind H p wd s) (q : Q (.bl s) H) : tFld K (tVar i) "is_signed" σ H Q := by
  obtain ⟨⟨dx, e⟩, _, _⟩ := k
  exact ⟨_, hs, p, _, dx, _, _, rfl, e, T.cl_Kind, T.na_Kind_is_signed, kf_sign _ _, q⟩
end


section
variable {K : PySem.W.Frag} {H : Hp} {σ : L2.St} {Q : VK}
theorem w_iTup {tl : TE} {R : It → Hp → Prop} (q : tl σ H fun x H1 => ∃ a, x = .ref a ∧ (∃ xs, SqT K H1 a xs) ∧ R (Itt K a) H1) : iTup K tl σ H R := q
theorem w_eqD {x y : V} {d e : PyData} (hx : Dp K H x d) (hy : Dp K H y e) (sd : SeqAt.shaped d = true) (se : SeqAt.shaped e = true) (q : Q (.bl (PyData.eqv d e)) H) : rEqD K x y H Q := ⟨d, e, hx, hy, sd, se, q⟩
theorem w_neD {x y : V} {d e : PyData} (hx : Dp K H x d) (hy : Dp K H y e) (sd : SeqAt.shaped d = true) (se : SeqAt.shaped e = true) (q : Q (.bl (!PyData.eqv d e)) H) : rNeD K x y H Q := ⟨d, e, hx, hy, sd, se, q⟩
end

section
variable {K : PySem.W.Frag} {H : Hp} {σ : L2.St} {Q : VK}
theorem w_neL {a b : Addr} {is js : List Int} (ha : H a = some (.lst (is.map V.int))) (hb : H b = some (.lst (js.map V.int))) (q : Q (.bl (!decide (is = js))) H) : rNeD K (.ref a) (.ref b) H Q :=
  ⟨_, _, .lst (SqL.of ha) (dp_ints is), .lst (SqL.of hb) (dp_ints js), shaped_ints is, shaped_ints js, by
    rw [show PyData.eqv (.list (is.map PyData.int)) (.list (js.map PyData.int)) = PyData.eqvAll (is.map PyData.int) (js.map PyData.int) from by simp only [PyData.eqv], eqv_ints]
    exact q⟩
theorem w_eqL {a b : Addr} {is js : List Int} (ha : H a = some (.lst (is.map V.int))) (hb : H b = some (.lst (js.map V.int))) (q : Q (.bl (decide (is = js))) H) : rEqD K (.ref a) (.ref b) H Q :=
  ⟨_, _, .lst (SqL.of ha) (dp_ints is), .lst (SqL.of hb) (dp_ints js), shaped_ints is, shaped_ints js, by
    rw [show PyData.eqv (.list (is.map PyData.int)) (.list (js.map PyData.int)) = PyData.eqvAll (is.map PyData.int) (js.map PyData.int) from by simp only [PyData.eqv], eqv_ints]
    exact q⟩
theorem w_vals {c : Prop} [Decidable c] {ta tb : TE} (R : V → Hp → Prop) (h1 : c → ∀ Q : VK, (∀ x H', R x H' → Q x H') → ta σ H Q) (h2 : ¬ c → ∀ Q : VK, (∀ x H', R x H' → Q x H') → tb σ H Q) (q : ∀ x H', R x H' → Q x H') : if decide c = true then ta σ H Q else tb σ H Q := w_dec (fun z => h1 z Q q) (fun z => h2 z Q q)
theorem w_gunl {n : Nat} {t : TGs} {a : Addr} {xs : List V} {Q : L2.St → Hp → Prop} (h : H a = some (.lst xs)) (l : xs.length = n) (q : t xs σ H Q) : gUnl K n t (.ref a) σ H Q := ⟨a, xs, rfl, SqL.of h, l, q⟩
theorem w_iRngL {ta : TA} {R : It → Hp → Prop} (q : ta σ H fun vs H1 => ∃ i j : Int, vs = [.int i, .int j] ∧ R (Itr i (j - i).toNat) H1) : iRngL ta σ H R := q
theorem w_sum {a : Addr} {ns : List Int} (h : H a = some (.lst (ns.map V.int))) (q : Q (.int ns.sum) H) : rSum K [.ref a] H Q := ⟨a, ns, rfl, SqL.of h, q⟩
theorem w_neOpt {x y : V} (hx : x = .non ∨ ∃ i, x = .int i) (hy : y = .non ∨ ∃ i, y = .int i) (q : Q (.bl (!decide (x = y))) H) : rNe x y H Q := ⟨by
  rcases hx with rfl | ⟨i, rfl⟩ <;> rcases hy with rfl | ⟨j, rfl⟩ <;> rfl, q⟩
theorem w_eqOpt {x y : V} (hx : x = .non ∨ ∃ i, x = .int i) (hy : y = .non ∨ ∃ i, y = .int i) (q : Q (.bl (decide (x = y))) H) : rEq x y H Q := ⟨by
  rcases hx with rfl | ⟨i, rfl⟩ <;> rcases hy with rfl | ⟨j, rfl⟩ <;> rfl, q⟩
end
theorem at_m1 {xs : List V} {v : V} (h : xs[xs.length - 1]? = some v) : atI xs (-1) = some v := by
  have hne : xs ≠ [] := fun z => by rw [z] at h; cases h
  have e := (List.dropLast_concat_getLast hne).symm
  rw [e] at h ⊢
  rw [List.length_append, List.length_singleton, Nat.add_sub_cancel, List.getElem?_append_right (Nat.le_refl _), Nat.sub_self] at h
  rw [← Option.some.inj h]
  exact atI_last _ _
theorem FirstOf.opt {p : Int → Bool} {f l : Int} {v : V} (h : FirstOf p f l v) : v = .non ∨ ∃ i, v = .int i := by
  rcases h with ⟨h, _⟩ | ⟨x, h, _⟩
  · exact .inl h
  · exact .inr ⟨x, h⟩
theorem LastOf.opt {p : Int → Bool} {f l : Int} {v : V} (h : LastOf p f l v) : v = .non ∨ ∃ i, v = .int i := by
  rcases h with ⟨h, _⟩ | ⟨x, h, _⟩
  · exact .inl h
  · exact .inr ⟨x, h⟩
theorem first_nil {p : Int → Bool} {f l : Int} {n : Nat} {v : V} (h : l - f + 1 = n) (e : wl p f n = []) (hf : FirstOf p f l v) : v = .non := by
  rcases hf with ⟨h1, _⟩ | ⟨x, _, x1, x2, px, _⟩
  · exact h1
  · have : x ∈ wl p f n := wl_mem.mpr ⟨x1, by omega, px⟩
    rw [e] at this; cases this
theorem last_nil {p : Int → Bool} {f l : Int} {n : Nat} {v : V} (h : l - f + 1 = n) (e : wl p f n = []) (hf : LastOf p f l v) : v = .non := by
  rcases hf with ⟨h1, _⟩ | ⟨x, _, x1, x2, px, _⟩
  · exact h1
  · have : x ∈ wl p f n := wl_mem.mpr ⟨x1, by omega, px⟩
    rw [e] at this; cases this
theorem first_get {p : Int → Bool} {f l : Int} {n : Nat} {v : V} {y : Int} (h : l - f + 1 = n) (e : (wl p f n)[0]? = some y) (hf : FirstOf p f l v) : v = .int y := by
  rcases hf with ⟨_, h0⟩ | ⟨x, rfl, x1, x2, px, x3⟩
  · rw [(wl_nil h).mpr h0] at e; cases e
  · rw [wl_at e x1 px x3]
theorem last_get {p : Int → Bool} {f l : Int} {n : Nat} {v : V} {y : Int} (h : l - f + 1 = n) (e : (wl p f n)[(wl p f n).length - 1]? = some y) (hf : LastOf p f l v) : v = .int y := by
  rcases hf with ⟨_, h0⟩ | ⟨x, rfl, x1, x2, px, x3⟩
  · rw [(wl_nil h).mpr h0] at e; cases e
  · have t := wl_tot (p := p) h
    have s := tot_split p (first := f) (mid := x) (last := l) (by omega) x2
    rw [x3, tot_step p x1, if_pos px] at s
    have nn := tot_nonneg p f (x - 1)
    have yj : tot p f (x - 1) = (((wl p f n).length - 1 : Nat) : Int) := by omega
    rw [wl_at e x1 px yj]
theorem kbinds_of {K : PySem.W.Frag} {x qual : Str} {st : Stmt} {f : Addr} {fd : FuncData} {ps ks : List Str} {g : List Value → List Value → List Value} {gV : List V → List V → List V} (F : Fun K x qual st f fd)
    (h : ∀ (kV doc pm : Value) (an : Option Addr) (cdv ct : Value) (us ws : List Value), (g us ws).length = ps.length → bindArgs (PySem.W.fnOf x qual (defArgs st) (defBody st) (defScope st) .none kV doc pm an cdv ct) ⟨us, ks.zip ws⟩ = pure (ps.zip (g us ws)))
    (hrel : ∀ {vs : List V} {us : List Value} {zs : List V} {ws : List Value}, Vals vs us → Vals zs ws → Vals (gV vs zs) (g us ws)) : KBinds K fd ps ks g gV := by
  obtain ⟨oc, od, kV, doc, pm, an, cdv, ct, osl, rfl, lk, hcd⟩ := F.ex
  exact ⟨fun s us ws _ hl => .of_eq (h kV doc pm an cdv ct us ws hl), hrel⟩
theorem rel_kb_surprises_0_last_first_other_relation_one_kind {vs : List V} {us : List Value} {zs : List V} {ws : List Value} (r : Vals vs us) (rz : Vals zs ws) : Vals (p_kb_surprises_0_last_first_other_relation_one_kind vs zs) (p_kb_surprises_0_last_first_other_relation_one_kind us ws) := by
  cases r with
  | cons _ _ => exact .nil
  | nil =>
    cases rz with
    | nil => exact .nil
    | cons k0 z0 =>
      cases z0 with
      | nil => exact .nil
      | cons k1 z1 =>
        cases z1 with
        | nil => exact .nil
        | cons k2 z2 =>
          cases z2 with
          | nil => exact .nil
          | cons k3 z3 =>
            cases z3 with
            | nil => exact .nil
            | cons k4 z4 =>
              cases z4 with
              | nil => exact .nil
              | cons k5 z5 =>
                cases z5 with
                | cons _ _ => exact .nil
                | nil => exact (.cons k5 (.cons k4 (.cons k3 (.cons k2 (.cons k1 (.cons k0 .nil))))))
theorem rel_kb_first_surprise_0_last_first_other_relation_one_kind {vs : List V} {us : List Value} {zs : List V} {ws : List Value} (r : Vals vs us) (rz : Vals zs ws) : Vals (p_kb_first_surprise_0_last_first_other_relation_one_kind vs zs) (p_kb_first_surprise_0_last_first_other_relation_one_kind us ws) := by
  cases r with
  | cons _ _ => exact .nil
  | nil =>
    cases rz with
    | nil => exact .nil
    | cons k0 z0 =>
      cases z0 with
      | nil => exact .nil
      | cons k1 z1 =>
        cases z1 with
        | nil => exact .nil
        | cons k2 z2 =>
          cases z2 with
          | nil => exact .nil
          | cons k3 z3 =>
            cases z3 with
            | nil => exact .nil
            | cons k4 z4 =>
              cases z4 with
              | nil => exact .nil
              | cons k5 z5 =>
                cases z5 with
                | cons _ _ => exact .nil
                | nil => exact (.cons k5 (.cons k4 (.cons k3 (.cons k2 (.cons k1 (.cons k0 .nil))))))
local macro_rules | `(tactic| walk_at "kq") => `(tactic| first
  | exact Fw.Kq.refl _
  | assumption
  | (refine Fw.Kq.new ?_ (by assumption); walk_at "kq")
  | (refine Fw.Kq.trans ?_ (by assumption); walk_at "kq")
  | (refine Fw.Kq.sm ?_ (by assumption); walk_at "kq")
  | (refine Fw.Kq.same ?_ (by assumption); walk_at "kq"))
def sp_is_integer (K : PySem.W.Frag) (C : Addr) (TS : List (Addr × Str)) : Sp := fun vs H Q _ => ∃ (v : V) (b : Bool), vs = [v] ∧ IntQ K H v b ∧ Q (.bl b) H
theorem ok_is_integer {P : Program} {w : World} {K : PySem.W.Frag} {mg : Str → Option Value} {base : Heap} (T : Txt K mg) (B : TBs T base) : FnOk P w K mg base CX0 1 T.f_is_integer T.fd_is_integer ["value"] (sp_is_integer K T.C_Kind T.tabs) := by
  refine T.F_is_integer.ok sc_is_integer (fun vs H Q E h => ?_) (fun cdv A outer s H vs Q E hr h => ?_)
  · obtain ⟨v, b, rfl, _⟩ := h
    rfl
  · obtain ⟨v, b, rfl, h⟩ := h
    refine ⟨_, (pss_one (ps_ret (pe_and (pe_callB (id := "isinstance") (r := rIsi K) call_isi (by rfl) T.n_isinstance (by decide +kernel) (pa_cons (pv 0 (hv := Or.inl rfl)) (pa_cons (pe_bltn (v := .ty "int") (by rfl) T.n_int (by decide +kernel) rfl) pa_nil))) (pe_one (pe_not (pe_callB (id := "isinstance") (r := rIsi K) call_isi (by rfl) T.n_isinstance (by decide +kernel) (pa_cons (pv 0 (hv := Or.inl rfl)) (pa_cons (pe_bltn (v := .ty "bool") (by rfl) T.n_bool (by decide +kernel) rfl) pa_nil)))))))), ?_⟩
    try dsimp only [cxOf, Cx.nox, Cx.wish, Cx.blk]
    rw [show L2.start ["value"] [v] = [some (v)] from rfl]
    obtain ⟨⟨t, ty, e1, -, c, e2, e3⟩, k⟩ := h
    walk_at "rd"
    refine w_isi ty e1 ?_
    walk_at "rd"
    cases hb : (b || t == "bool") with
    | false =>
      rw [hb] at e3
      have e3 : false = b := e3
      refine iteF ?_
      rw [e3]; exact k
    | true =>
      rw [hb] at e3
      refine iteT ?_
      walk_at "rd"
      refine w_isi ty e2 ?_
      walk_at "rd"
      have e4 : (!c) = b := e3
      rw [e4]; exact k
def sp_is_sixty_digits (K : PySem.W.Frag) (C : Addr) (TS : List (Addr × Str)) : Sp := fun vs H Q _ => ∃ (i : Int), vs = [.int i] ∧ Q (.bl (decide (-(10 ^ 60) < i ∧ i < 10 ^ 60))) H
theorem ok_is_sixty_digits {P : Program} {w : World} {K : PySem.W.Frag} {mg : Str → Option Value} {base : Heap} (T : Txt K mg) (B : TBs T base) : FnOk P w K mg base CX0 2 T.f_is_sixty_digits T.fd_is_sixty_digits ["value"] (sp_is_sixty_digits K T.C_Kind T.tabs) := by
  have G_is_integer := ok_is_integer (P := P) (w := w) (base := base) T B
  refine T.F_is_sixty_digits.ok sc_is_sixty_digits (fun vs H Q E h => ?_) (fun cdv A outer s H vs Q E hr h => ?_)
  · obtain ⟨i, rfl, _⟩ := h
    rfl
  · obtain ⟨i, rfl, h⟩ := h
    have hr_is_integer : Room 1 _ := hr.mono (by decide)
    refine ⟨_, (pss_one (ps_ret (pe_and (pe_call G_is_integer hr_is_integer rfl T.g_is_integer T.k_is_integer T.b_is_integer .nil pass0 (pa_cons (pv 0 (hv := Or.inl rfl)) pa_nil)) (pe_one (pe_cmpR op_lt (pe_callB (id := "abs") (r := rAbsC) call_abs (by rfl) T.n_abs (by decide +kernel) (pa_cons (pv 0 (hv := Or.inl rfl)) pa_nil)) (pe_glob (v := .int 1000000000000000000000000000000000000000000000000000000000000) rfl T.g_BEYOND_SIXTY_DIGITS ⟨_, rfl⟩) (nomark _)))))), ?_⟩
    try dsimp only [cxOf, Cx.nox, Cx.wish, Cx.blk]
    rw [show L2.start ["value"] [.int i] = [some (.int i)] from rfl]
    walk_at "rd"
    refine ⟨.int i, true, rfl, IntQ.int i, ?_⟩
    walk_at "rd"
    refine iteT ?_
    walk_at "rd"
    have e : decide (ab i < 1000000000000000000000000000000000000000000000000000000000000) = decide (-(10 ^ 60) < i ∧ i < 10 ^ 60) := by
      unfold ab
      by_cases c : i < 0
      · rw [if_pos c]
        by_cases d : -(10 ^ 60) < i
        · rw [decide_eq_true (show -i < 1000000000000000000000000000000000000000000000000000000000000 by omega), decide_eq_true ⟨d, by omega⟩]
        · rw [decide_eq_false (show ¬ -i < 1000000000000000000000000000000000000000000000000000000000000 by omega), decide_eq_false fun z => d z.1]
      · rw [if_neg c]
        by_cases d : i < 10 ^ 60
        · rw [decide_eq_true (show i < 1000000000000000000000000000000000000000000000000000000000000 by omega), decide_eq_true ⟨by omega, d⟩]
        · rw [decide_eq_false (show ¬ i < 1000000000000000000000000000000000000000000000000000000000000 by omega), decide_eq_false fun z => d z.2]
    rw [e]
    exact h
def sp_check_sixty_digits (K : PySem.W.Frag) (C : Addr) (TS : List (Addr × Str)) : Sp := fun vs H Q _ => ∃ (i : Int) (z : Str), vs = [.int i, .str z] ∧ SD i ∧ Q .non H
theorem ok_check_sixty_digits {P : Program} {w : World} {K : PySem.W.Frag} {mg : Str → Option Value} {base : Heap} (T : Txt K mg) (B : TBs T base) : FnOk P w K mg base CX0 3 T.f_check_sixty_digits T.fd_check_sixty_digits ["value", "argument"] (sp_check_sixty_digits K T.C_Kind T.tabs) := by
  have G_is_sixty_digits := ok_is_sixty_digits (P := P) (w := w) (base := base) T B
  refine T.F_check_sixty_digits.ok sc_check_sixty_digits (fun vs H Q E h => ?_) (fun cdv A outer s H vs Q E hr h => ?_)
  · obtain ⟨i, z, rfl, _⟩ := h
    rfl
  · obtain ⟨i, z, rfl, h⟩ := h
    have hr_is_sixty_digits : Room 2 _ := hr.mono (by decide)
    refine ⟨_, (pss_one (ps_if (pt_not (pt_val (pe_call G_is_sixty_digits hr_is_sixty_digits rfl T.g_is_sixty_digits T.k_is_sixty_digits T.b_is_sixty_digits .nil pass0 (pa_cons (pv 0 (hv := Or.inl rfl)) pa_nil)))) (pss_one ps_never) pss_nil)), ?_⟩
    try dsimp only [cxOf, Cx.nox, Cx.wish, Cx.blk]
    rw [show L2.start ["value", "argument"] [.int i, .str z] = [some (.int i), some (.str z)] from rfl]
    obtain ⟨sd, k⟩ := h
    walk_at "rd"
    refine ⟨i, rfl, ?_⟩
    walk_at "rd"
    rw [decide_eq_true (show -(10 ^ 60) < i ∧ i < 10 ^ 60 from sd)]
    refine iteF ?_
    walk_at "rd"
    exact k
def sp_check_word (K : PySem.W.Frag) (C : Addr) (TS : List (Addr × Str)) : Sp := fun vs H Q _ => ∃ (z : Str) (t : Addr) (u : Str), vs = [.str z, .ref t, .str u] ∧ SqT K H t [.str "<", .str "<=", .str "==", .str "!=", .str ">=", .str ">"] ∧ Rel z ∧ Q .non H
theorem ok_check_word {P : Program} {w : World} {K : PySem.W.Frag} {mg : Str → Option Value} {base : Heap} (T : Txt K mg) (B : TBs T base) : FnOk P w K mg base CX0 1 T.f_check_word T.fd_check_word ["word", "words", "argument"] (sp_check_word K T.C_Kind T.tabs) := by
  refine T.F_check_word.ok sc_check_word (fun vs H Q E h => ?_) (fun cdv A outer s H vs Q E hr h => ?_)
  · obtain ⟨z, t, u, rfl, _⟩ := h
    rfl
  · obtain ⟨z, t, u, rfl, h⟩ := h
    refine ⟨_, (pss_one (ps_if (pt_not (PW.pt (pw_and (pt_val (pe_callB (id := "isinstance") (r := rIsi K) call_isi (by rfl) T.n_isinstance (by decide +kernel) (pa_cons (pv 0 (hv := Or.inl rfl)) (pa_cons (pe_bltn (v := .ty "str") (by rfl) T.n_str (by decide +kernel) rfl) pa_nil)))) (pw_and1 (pt_cmpR op_in_seq (pv 0 (hv := Or.inl rfl)) (pv 1 (hv := Or.inl rfl)) (by rfl)))))) (pss_one ps_never) pss_nil)), ?_⟩
    try dsimp only [cxOf, Cx.nox, Cx.wish, Cx.blk]
    rw [show L2.start ["word", "words", "argument"] [.str z, .ref t, .str u] = [some (.str z), some (.ref t), some (.str u)] from rfl]
    obtain ⟨ht, hz, k⟩ := h
    walk_at "rd"
    refine w_isi (b := true) (.base (.str z)) (by decide +kernel) ?_
    walk_at "rd"
    refine iteT ?_
    walk_at "rd"
    refine w_inT ht rfl (by decide +kernel) ?_
    rw [rel_in hz]
    walk_at "rd"
    refine iteF ?_
    walk_at "rd"
    exact k
def sp_stands (K : PySem.W.Frag) (C : Addr) (TS : List (Addr × Str)) : Sp := fun vs H Q _ => ∃ (y : Int) (z : Str) (w' : Int), vs = [.int y, .str z, .int w'] ∧ Rel z ∧ Q (.bl (relB z y w')) H
theorem ok_stands {P : Program} {w : World} {K : PySem.W.Frag} {mg : Str → Option Value} {base : Heap} (T : Txt K mg) (B : TBs T base) : FnOk P w K mg base CX0 1 T.f_stands T.fd_stands ["y", "relation", "z"] (sp_stands K T.C_Kind T.tabs) := by
  refine T.F_stands.ok sc_stands (fun vs H Q E h => ?_) (fun cdv A outer s H vs Q E hr h => ?_)
  · obtain ⟨y, z, w', rfl, _⟩ := h
    rfl
  · obtain ⟨y, z, w', rfl, h⟩ := h
    refine ⟨_, (pss_one (ps_match (pv 1 (hv := Or.inl rfl))
      (pm_str (pss_one (ps_ret (pe_cmpR op_lt (pv 0 (hv := Or.inl rfl)) (pv 2 (hv := Or.inl rfl)) (nomark _))))
      (pm_str (pss_one (ps_ret (pe_cmpR op_le (pv 0 (hv := Or.inl rfl)) (pv 2 (hv := Or.inl rfl)) (nomark _))))
      (pm_str (pss_one (ps_ret (pe_cmpR op_eq (pv 0 (hv := Or.inl rfl)) (pv 2 (hv := Or.inl rfl)) (nomark _))))
      (pm_str (pss_one (ps_ret (pe_cmpR op_ne (pv 0 (hv := Or.inl rfl)) (pv 2 (hv := Or.inl rfl)) (nomark _))))
      (pm_str (pss_one (ps_ret (pe_cmpR op_ge (pv 0 (hv := Or.inl rfl)) (pv 2 (hv := Or.inl rfl)) (nomark _))))
      (pm_any (pss_one (ps_ret (pe_cmpR op_gt (pv 0 (hv := Or.inl rfl)) (pv 2 (hv := Or.inl rfl)) (nomark _)))))))))))), ?_⟩
    try dsimp only [cxOf, Cx.nox, Cx.wish, Cx.blk]
    rw [show L2.start ["y", "relation", "z"] [.int y, .str z, .int w'] = [some (.int y), some (.str z), some (.int w')] from rfl]
    obtain ⟨hz, k⟩ := h
    rcases hz with rfl | rfl | rfl | rfl | rfl | rfl
    · rw [rel1] at k
      walk_at "rd"
      exact k
    · rw [rel2] at k
      walk_at "rd"
      refine w_caseF (by decide +kernel) ?_
      walk_at "rd"
      exact k
    · rw [rel3] at k
      walk_at "rd"
      refine w_caseF (by decide +kernel) ?_
      refine w_caseF (by decide +kernel) ?_
      walk_at "rd"
      exact k
    · rw [rel4] at k
      walk_at "rd"
      refine w_caseF (by decide +kernel) ?_
      refine w_caseF (by decide +kernel) ?_
      refine w_caseF (by decide +kernel) ?_
      walk_at "rd"
      exact k
    · rw [rel5] at k
      walk_at "rd"
      refine w_caseF (by decide +kernel) ?_
      refine w_caseF (by decide +kernel) ?_
      refine w_caseF (by decide +kernel) ?_
      refine w_caseF (by decide +kernel) ?_
      walk_at "rd"
      exact k
    · rw [rel6] at k
      walk_at "rd"
      refine w_caseF (by decide +kernel) ?_
      refine w_caseF (by decide +kernel) ?_
      refine w_caseF (by decide +kernel) ?_
      refine w_caseF (by decide +kernel) ?_
      refine w_caseF (by decide +kernel) ?_
      walk_at "rd"
      exact k
def sp_Kind___init__ (K : PySem.W.Frag) (C : Addr) (TS : List (Addr × Str)) : Sp := fun vs H Q _ => ∃ (p : Addr) (wd : Nat) (s : Bool), vs = [.ref p, .int (wd : Int), .bl s] ∧ (∃ dx, H p = some (.ins C dx [])) ∧ 1 ≤ wd ∧ wd ≤ 128 ∧ ∀ H', Kd C H' p wd s → Kp p H H' → Q .non H'
theorem ok_Kind___init__ {P : Program} {w : World} {K : PySem.W.Frag} {mg : Str → Option Value} {base : Heap} (T : Txt K mg) (B : TBs T base) : FnOk P w K mg base CX0 2 T.f_Kind___init__ T.fd_Kind___init__ ["self", "bits", "is_signed"] (sp_Kind___init__ K T.C_Kind T.tabs) := by
  have G_is_integer := ok_is_integer (P := P) (w := w) (base := base) T B
  refine T.F_Kind___init__.ok sc_Kind___init__ (fun vs H Q E h => ?_) (fun cdv A outer s H vs Q E hr h => ?_)
  · obtain ⟨p, wd, s, rfl, _⟩ := h
    rfl
  · obtain ⟨p, wd, s, rfl, h⟩ := h
    have hr_is_integer : Room 1 _ := hr.mono (by decide)
    refine ⟨_, (pss_cons (ps_if (pt_not (PW.pt (pw_and (pt_val (pe_call G_is_integer hr_is_integer rfl T.g_is_integer T.k_is_integer T.b_is_integer .nil pass0 (pa_cons (pv 1 (hv := Or.inl rfl)) pa_nil))) (pw_and1 (pt_chain op_le op_le pe_int (pv 1 (hv := Or.inl rfl)) (pe_glob (v := .int 128) rfl T.g_MOST_BITS ⟨_, rfl⟩)))))) (pss_one ps_never) pss_nil)
      (pss_cons (ps_if (pt_not (pt_val (pe_callB (id := "isinstance") (r := rIsi K) call_isi (by rfl) T.n_isinstance (by decide +kernel) (pa_cons (pv 2 (hv := Or.inl rfl)) (pa_cons (pe_bltn (v := .ty "bool") (by rfl) T.n_bool (by decide +kernel) rfl) pa_nil))))) (pss_one ps_never) pss_nil)
      (pss_cons (ps_fld (pv 0 (hv := Or.inl rfl)) (pv 1 (hv := Or.inl rfl)) rfl)
      (pss_one (ps_fld (pv 0 (hv := Or.inl rfl)) (pv 2 (hv := Or.inl rfl)) rfl))))), ?_⟩
    try dsimp only [cxOf, Cx.nox, Cx.wish, Cx.blk]
    rw [show L2.start ["self", "bits", "is_signed"] [.ref p, .int (wd : Int), .bl s] = [some (.ref p), some (.int (wd : Int)), some (.bl s)] from rfl]
    obtain ⟨⟨dx, hp⟩, h1, h2, k⟩ := h
    walk_at "rd"
    refine ⟨_, true, rfl, IntQ.int _, ?_⟩
    walk_at "rd"
    refine iteT ?_
    walk_at "rd"
    refine w_chain ?_
    walk_at "rd"
    refine w_decT (by omega) ?_
    walk_at "rd"
    refine w_bF (by rw [decide_eq_true (show ((wd : Int) ≤ 128) by omega)]; rfl) ?_
    walk_at "rd"
    refine w_isi (b := true) (.base (.bl s)) (by decide +kernel) ?_
    walk_at "rd"
    refine iteF ?_
    walk_at "rd"
    refine ⟨p, _, dx, _, rfl, hp, T.cl_Kind, T.na_Kind_bits, (by show 0 < 1000; decide), ?_⟩
    walk_at "rd"
    refine ⟨p, _, dx, _, rfl, upd_same, T.cl_Kind, T.na_Kind_is_signed, (by show 1 < 1000; decide), ?_⟩
    refine k _ ⟨⟨dx, ?_⟩, h1, h2⟩ ((Kp.refl p H).upd.upd)
    rw [upd_same]
    show some (HO.ins _ _ (if ("bits" : Str) = "is_signed" then [(("bits" : Str), V.bl s)] else (("bits" : Str), V.int (wd : Int)) :: putF "is_signed" (V.bl s) [])) = _
    rw [if_neg (by decide +kernel)]
    rfl
def sp_check_kind (K : PySem.W.Frag) (C : Addr) (TS : List (Addr × Str)) : Sp := fun vs H Q _ => ∃ (p : Addr), vs = [.ref p] ∧ (∃ wd s, Kd C H p wd s) ∧ Q .non H
theorem ok_check_kind {P : Program} {w : World} {K : PySem.W.Frag} {mg : Str → Option Value} {base : Heap} (T : Txt K mg) (B : TBs T base) : FnOk P w K mg base CX0 1 T.f_check_kind T.fd_check_kind ["kind"] (sp_check_kind K T.C_Kind T.tabs) := by
  refine T.F_check_kind.ok sc_check_kind (fun vs H Q E h => ?_) (fun cdv A outer s H vs Q E hr h => ?_)
  · obtain ⟨p, rfl, _⟩ := h
    rfl
  · obtain ⟨p, rfl, h⟩ := h
    refine ⟨_, (pss_one (ps_if (pt_not (pt_val (pe_callB (id := "isinstance") (r := rIsi K) call_isi (by rfl) T.n_isinstance (by decide +kernel) (pa_cons (pv 0 (hv := Or.inl rfl)) (pa_cons (pe_glob (v := .ref T.C_Kind) rfl T.g_Kind rfl) pa_nil))))) (pss_one ps_never) pss_nil)), ?_⟩
    try dsimp only [cxOf, Cx.nox, Cx.wish, Cx.blk]
    rw [show L2.start ["kind"] [.ref p] = [some (.ref p)] from rfl]
    obtain ⟨⟨wd, s, hk⟩, k⟩ := h
    walk_at "rd"
    refine w_isK T hk ?_
    walk_at "rd"
    refine iteF ?_
    walk_at "rd"
    exact k
def sp_least (K : PySem.W.Frag) (C : Addr) (TS : List (Addr × Str)) : Sp := fun vs H Q _ => ∃ (p : Addr) (wd : Nat) (s : Bool), vs = [.ref p] ∧ Kd C H p wd s ∧ Q (.int (loK wd s)) H
theorem ok_least {P : Program} {w : World} {K : PySem.W.Frag} {mg : Str → Option Value} {base : Heap} (T : Txt K mg) (B : TBs T base) : FnOk P w K mg base CX0 2 T.f_least T.fd_least ["kind"] (sp_least K T.C_Kind T.tabs) := by
  have G_check_kind := ok_check_kind (P := P) (w := w) (base := base) T B
  refine T.F_least.ok sc_least (fun vs H Q E h => ?_) (fun cdv A outer s H vs Q E hr h => ?_)
  · obtain ⟨p, wd, s, rfl, _⟩ := h
    rfl
  · obtain ⟨p, wd, s, rfl, h⟩ := h
    have hr_check_kind : Room 1 _ := hr.mono (by decide)
    refine ⟨_, (pss_cons (ps_expr (pe_call G_check_kind hr_check_kind rfl T.g_check_kind T.k_check_kind T.b_check_kind .nil pass0 (pa_cons (pv 0 (hv := Or.inl rfl)) pa_nil)))
      (pss_one (ps_ret (pe_ifExp (pt_val (pe_fld (pv 0 (hv := Or.inl rfl)) rfl)) (pe_un un_neg (pe_op op_shl pe_int (pe_op op_sub (pe_fld (pv 0 (hv := Or.inl rfl)) rfl) pe_int))) pe_int)))), ?_⟩
    try dsimp only [cxOf, Cx.nox, Cx.wish, Cx.blk]
    rw [show L2.start ["kind"] [.ref p] = [some (.ref p)] from rfl]
    obtain ⟨hk, k⟩ := h
    walk_at "rd"
    refine ⟨p, rfl, ⟨wd, s, hk⟩, ?_⟩
    walk_at "rd"
    refine w_if ?_
    walk_at "rd"
    refine w_fs T rfl hk ?_
    walk_at "rd"
    cases s with
    | false =>
      refine iteF ?_
      walk_at "rd"
      have e : loK wd false = 0 := by unfold loK; rw [if_neg Bool.false_ne_true]
      rw [e] at k
      exact k
    | true =>
      refine iteT ?_
      walk_at "rd"
      refine w_fb T rfl hk ?_
      walk_at "rd"
      have h1 := hk.w1
      have h2 := hk.w2
      have e : (wd : Int) - 1 = ((wd - 1 : Nat) : Int) := by omega
      rw [e]
      refine w_I (cpow (n := 1) (by omega) (by decide)) ?_
      walk_at "rd"
      rw [Int.toNat_natCast, Int.one_mul]
      have e : loK wd true = -(2 ^ (wd - 1)) := by unfold loK; rw [if_pos rfl]
      rw [e] at k
      exact k
def sp_least_passing (K : PySem.W.Frag) (C : Addr) (TS : List (Addr × Str)) : CP → Sp := fun CC => fun vs H Q _ => ∃ (f : Addr) (first last : Int) (P : Int → Bool), vs = [.ref f, .int first, .int last] ∧ CC 14 f (spP TS H P first last) ∧ first ≤ last ∧ P last = true ∧ (∀ y z, first ≤ y → y ≤ z → z ≤ last → P y = true → P z = true) ∧ ∀ x H', first ≤ x → x ≤ last → P x = true → (∀ y, first ≤ y → y < x → P y = false) → Sm TS H H' → Q (.int x) H'
theorem ok_least_passing {P : Program} {w : World} {K : PySem.W.Frag} {mg : Str → Option Value} {base : Heap} (T : Txt K mg) (B : TBs T base) : FnOkC P w K mg base 15 T.f_least_passing T.fd_least_passing ["passes", "first", "last"] (sp_least_passing K T.C_Kind T.tabs) := by
  refine Fw.okC T.F_least_passing sc_least_passing (fun CC vs H Q E h => ?_) (fun cdv A outer s H vs Q hr h => ?_)
  · obtain ⟨f, first, last, P, rfl, _⟩ := h
    rfl
  · let CC : CP := Cal P w K mg base outer H s
    obtain ⟨f, first, last, P, rfl, h⟩ := h
    refine ⟨_, (pss_cons (ps_while PassesOwn.never (pt_cmpR op_lt (pv 1 (hv := Or.inl rfl)) (pv 2 (hv := Or.inl rfl)) (nomark _))
        (pss_cons (ps_set (i := 3) sc_least_passing.nd rfl (Or.inl rfl) (pe_op op_fdiv (pe_op op_add (pv 1 (hv := Or.inl rfl)) (pv 2 (hv := Or.inl rfl))) pe_int))
      (pss_one (ps_if (pt_val (pe_cal (C := CC) (k := 14) (i := 0) (fun _ _ _ z => z) (hr.mono (by decide)) rfl (Or.inl rfl) rfl (pa_cons (pv 3 (hv := Or.inl rfl)) pa_nil))) (pss_one (ps_set (i := 2) sc_least_passing.nd rfl (Or.inl rfl) (pv 3 (hv := Or.inl rfl)))) (pss_one (ps_set (i := 1) sc_least_passing.nd rfl (Or.inl rfl) (pe_op op_add (pv 3 (hv := Or.inl rfl)) pe_int)))))))
      (pss_one (ps_ret (pv 1 (hv := Or.inl rfl))))), ?_⟩
    try dsimp only [cxOf, Cx.nox, Cx.wish, Cx.blk]
    rw [show L2.start ["passes", "first", "last", "middle"] [.ref f, .int first, .int last] = [some (.ref f), some (.int first), some (.int last), none] from rfl]
    obtain ⟨hc, h1, h2, mono, k⟩ := h
    walk_at "rd"
    refine w_while (fun m σ H' => ∃ (a b : Int) (v : Option V), σ = [some (.ref f), some (.int a), some (.int b), v] ∧ m = (b - a).toNat ∧ first ≤ a ∧ a ≤ b ∧ b ≤ last ∧ P b = true ∧ (∀ y, first ≤ y → y < a → P y = false) ∧ Sm T.tabs H H')
      (last - first).toNat ⟨first, last, none, rfl, rfl, Int.le_refl _, h1, Int.le_refl _, h2, fun y z1 z2 => by omega, Sm.refl H⟩ ?_
    rintro m σ H' ⟨a, b, v, rfl, rfl, ha, hab, hb, hP, hlow, sm⟩
    walk_at "rd"
    refine w_dec (fun c => ?_) (fun c => ?_)
    · refine ⟨_, fun _ _ h => h, ?_⟩
      walk_at "rd"
      have b1 : a ≤ (a + b) / 2 := by omega
      have b2 : (a + b) / 2 < b := by omega
      refine ⟨f, _, rfl, hc, ?_⟩
      walk_at "rd"
      refine ⟨_, rfl, by omega, by omega, sm, fun H2 s2 => ?_⟩
      walk_at "rd"
      cases e : P ((a + b) / 2) with
      | true =>
        refine iteT ?_
        walk_at "rd"
        exact ⟨_, by omega, a, _, _, rfl, rfl, ha, b1, by omega, e, hlow, sm.trans s2⟩
      | false =>
        refine iteF ?_
        walk_at "rd"
        refine ⟨_, by omega, _, b, _, rfl, rfl, by omega, by omega, hb, hP, fun y z1 z2 => ?_, sm.trans s2⟩
        cases e2 : P y with
        | false => rfl
        | true =>
          have := mono y ((a + b) / 2) z1 (by omega) (by omega) e2
          rw [e] at this; cases this
    · walk_at "rd"
      have eab : a = b := by omega
      subst eab
      exact k a H' ha hb hP hlow sm
def sp_first_wanted (K : PySem.W.Frag) (C : Addr) (TS : List (Addr × Str)) : CP → Sp := fun CC => fun vs H Q _ => ∃ (f : Addr) (first last : Int) (p : Int → Bool), vs = [.ref f, .int first, .int last] ∧ CC 12 f (spT TS H p first last) ∧ LamX.Tabs TS H ∧ ∀ v H', FirstOf p first last v → Sm TS H H' → Q v H'
theorem ok_first_wanted {P : Program} {w : World} {K : PySem.W.Frag} {mg : Str → Option Value} {base : Heap} (T : Txt K mg) (B : TBs T base) : FnOkC P w K mg base 16 T.f_first_wanted T.fd_first_wanted ["total_to", "first", "last"] (sp_first_wanted K T.C_Kind T.tabs) := by
  have G_least_passing := ok_least_passing (P := P) (w := w) (base := base) T B
  refine T.F_first_wanted.okC sc_first_wanted (fun CC vs H Q E h => ?_) (fun A outer s H vs Q hr h => ?_)
  · obtain ⟨f, first, last, p, rfl, _⟩ := h
    rfl
  · let CC : CP := Cal P w K mg base outer H s
    obtain ⟨f, first, last, p, rfl, h⟩ := h
    have hr_least_passing : Room 15 _ := hr.mono (by decide)
    refine ⟨_, (pss_cons (ps_if (pt_cmpR op_eq (pe_cal (C := CC) (k := 12) (i := 0) (fun _ _ _ z => z) (hr.mono (by decide)) rfl (Or.inr (Or.inl rfl)) rfl (pa_cons (pv 2 (hv := Or.inl rfl)) pa_nil)) pe_int (nomark _)) (pss_one (ps_ret pe_non)) pss_nil)
      (pss_one (ps_ret (pe_lamC (T := T.tabs) (par := "end") (kb := 12) (C := CC) G_least_passing hr_least_passing rfl T.g_least_passing T.k_least_passing T.b_least_passing B.tb_first_wanted rfl T.mT_first_wanted T.uT_first_wanted (lamP_by (sc := defScope s_first_wanted) (by decide +kernel)) (fun z => absurd (show ("end" : Str) ∈ (["total_to", "first", "last"] : List Str) from z) (by decide +kernel)) rfl rfl (fun _ _ _ _ _ _ => rfl) (fun _ _ _ z => z)
      (fun _ _ _ _ _ _ KN hrL => (pe_cmpR op_gt (pe_cal (C := CC) (k := 12) (i := 0) KN (hrL.mono (by decide)) rfl (Or.inr (Or.inr rfl)) rfl (pa_cons (pv 3 (hv := Or.inl rfl)) pa_nil)) pe_int (nomark _))) (pa_cons (pv 1 (hv := Or.inl rfl)) (pa_cons (pv 2 (hv := Or.inl rfl)) pa_nil)))))), ?_⟩
    try dsimp only [cxOf, Cx.nox, Cx.wish, Cx.blk]
    rw [show L2.start ["total_to", "first", "last"] [.ref f, .int first, .int last] = [some (.ref f), some (.int first), some (.int last)] from rfl]
    obtain ⟨hc, hT, k⟩ := h
    walk_at "rd"
    refine ⟨f, _, rfl, hc, ?_⟩
    walk_at "rd"
    refine ⟨_, rfl, .inl rfl, Sm.refl H, fun H0 s0 => ?_⟩
    walk_at "rd"
    refine w_dec (fun c => ?_) (fun c => ?_)
    · walk_at "rd"
      exact k _ _ (.inl ⟨rfl, c⟩) s0
    have hle : first ≤ last := by
      by_cases z : last < first
      · exact absurd (tot_none z) c
      · omega
    have hT' := s0.2 hT
    walk_at "rd"
    refine ⟨hT', fun fl c' H1 s1 hco => ?_⟩
    walk_at "rd"
    intro C' hC' hl
    refine ⟨fl, first, last, (fun e => decide (0 < tot p first e)), rfl, hl 14 _ (by decide) (fun ws H3 Q3 z => ?_), hle, ?_, ?_, fun x H' x1 x2 x3 x4 s2 => k _ _ (.inr ⟨x, rfl, x1, x2, ?_, ?_⟩) ((s0.trans s1).trans s2)⟩
    · obtain ⟨e, rfl, e1, e2, s3, q⟩ := z
      refine ⟨_, rfl, s3.at hco, ?_⟩
      dsimp only [List.cons_append, List.nil_append]
      walk_at "rd"
      refine ⟨f, _, rfl, hc, ?_⟩
      walk_at "rd"
      refine ⟨e, rfl, .inr ⟨e1, by omega⟩, (s0.trans s1).trans s3, fun H4 s4 => ?_⟩
      walk_at "rd"
      exact q _ s4
    · have := tot_nonneg p first last
      exact decide_eq_true (by omega)
    · intro y z y1 yz z1 h
      have h := of_decide_eq_true h
      have := tot_mono p (first := first) yz
      exact decide_eq_true (by omega)
    · have h := of_decide_eq_true x3
      cases e : p x with
      | true => rfl
      | false =>
        by_cases c : first ≤ x - 1
        · have q := of_decide_eq_false (x4 (x - 1) c (by omega))
          rw [tot_step p x1, e] at h
          simp at h
          omega
        · rw [tot_step p x1, e, tot_none (show x - 1 < first by omega)] at h
          simp at h
    · by_cases c : first ≤ x - 1
      · have q := of_decide_eq_false (x4 (x - 1) c (by omega))
        have := tot_nonneg p first (x - 1)
        omega
      · exact tot_none (by omega)
def sp_quotient_total (K : PySem.W.Frag) (C : Addr) (TS : List (Addr × Str)) : Sp := fun vs H Q _ => ∃ (l : Addr) (a b m first last : Int), vs = [.ref l, .int m, .int first, .int last] ∧ H l = some (.tup [.int a, .int b]) ∧ 0 < m ∧ BB m ∧ BB a ∧ b.natAbs < 2 ^ 302 ∧ BB first ∧ BB last ∧ ∀ H', Same H H' → Q (.int (QT a b m first last)) H'
theorem ok_quotient_total {P : Program} {w : World} {K : PySem.W.Frag} {mg : Str → Option Value} {base : Heap} (T : Txt K mg) (B : TBs T base) : FnOk P w K mg base CX0 1 T.f_quotient_total T.fd_quotient_total ["line", "size", "first", "last"] (sp_quotient_total K T.C_Kind T.tabs) := by
  refine T.F_quotient_total.ok sc_quotient_total (fun vs H Q E h => ?_) (fun cdv A outer s H vs Q E hr h => ?_)
  · obtain ⟨l, a, b, m, first, last, rfl, _⟩ := h
    rfl
  · obtain ⟨l, a, b, m, first, last, rfl, h⟩ := h
    refine ⟨_, (pss_cons (ps_asg (pv 0 (hv := Or.inl rfl)) (pg_tup rfl (pgs_cons (pg_name (i := 4) sc_quotient_total.nd rfl (Or.inl rfl)) (pgs_cons (pg_name (i := 5) sc_quotient_total.nd rfl (Or.inl rfl)) pgs_nil))))
      (pss_cons (ps_set (i := 6) sc_quotient_total.nd rfl (Or.inl rfl) (pe_op op_add (pe_op op_sub (pv 3 (hv := Or.inl rfl)) (pv 2 (hv := Or.inl rfl))) pe_int))
      (pss_cons (ps_if (pt_cmpR op_le (pv 6 (hv := Or.inl rfl)) pe_int (nomark _)) (pss_one (ps_ret pe_int)) pss_nil)
      (pss_cons (ps_aug (i := 5) sc_quotient_total.nd rfl (Or.inl rfl) (pe_op op_mulX (pv 4 (hv := Or.inl rfl)) (pv 2 (hv := Or.inl rfl))) ip_add)
      (pss_cons (ps_set (i := 7) sc_quotient_total.nd rfl (Or.inl rfl) pe_int)
      (pss_one (ps_while PassesOwn.never (pt_val pe_bl)
        (pss_cons (ps_aug (i := 7) sc_quotient_total.nd rfl (Or.inl rfl) (pe_op op_add (pe_op op_mulX (pe_op op_fdiv (pe_op op_mulX (pv 6 (hv := Or.inl rfl)) (pe_op op_sub (pv 6 (hv := Or.inl rfl)) pe_int)) pe_int) (pe_op op_fdivW (pv 4 (hv := Or.inl rfl)) (pv 1 (hv := Or.inl rfl)))) (pe_op op_mulX (pv 6 (hv := Or.inl rfl)) (pe_op op_fdivW (pv 5 (hv := Or.inl rfl)) (pv 1 (hv := Or.inl rfl))))) ip_add)
      (pss_cons (ps_par rfl sc_quotient_total.nd (i := 4) (j := 5) rfl rfl (by decide) rfl rfl (pa_cons (pe_op op_mod (pv 4 (hv := Or.inl rfl)) (pv 1 (hv := Or.inl rfl))) (pa_cons (pe_op op_mod (pv 5 (hv := Or.inl rfl)) (pv 1 (hv := Or.inl rfl))) pa_nil)) (by rfl))
      (pss_cons (ps_set (i := 8) sc_quotient_total.nd rfl (Or.inl rfl) (pe_op op_add (pe_op op_mulX (pv 4 (hv := Or.inl rfl)) (pv 6 (hv := Or.inl rfl))) (pv 5 (hv := Or.inl rfl))))
      (pss_cons (ps_if (pt_cmpR op_lt (pv 8 (hv := Or.inl rfl)) (pv 1 (hv := Or.inl rfl)) (nomark _)) (pss_one (ps_ret (pv 7 (hv := Or.inl rfl)))) pss_nil)
      (pss_cons (ps_asg (pe_callB (id := "divmod") (r := rDivC) call_divmodW (by rfl) T.n_divmod (by decide +kernel) (pa_cons (pv 8 (hv := Or.inl rfl)) (pa_cons (pv 1 (hv := Or.inl rfl)) pa_nil))) (pg_tup rfl (pgs_cons (pg_name (i := 6) sc_quotient_total.nd rfl (Or.inl rfl)) (pgs_cons (pg_name (i := 5) sc_quotient_total.nd rfl (Or.inl rfl)) pgs_nil))))
      (pss_one (ps_par rfl sc_quotient_total.nd (i := 4) (j := 1) rfl rfl (by decide) rfl rfl (pa_cons (pv 1 (hv := Or.inl rfl)) (pa_cons (pv 4 (hv := Or.inl rfl)) pa_nil)) (by rfl))))))))))))))), ?_⟩
    try dsimp only [cxOf, Cx.nox, Cx.wish, Cx.blk]
    rw [show L2.start ["line", "size", "first", "last", "a", "b", "count", "total", "top"] [.ref l, .int m, .int first, .int last] = [some (.ref l), some (.int m), some (.int first), some (.int last), none, none, none, none, none] from rfl]
    obtain ⟨hl, m0, bm, ba, bb, bf, bl, k⟩ := h
    unfold BB at bm ba bf bl
    have h302 : (2 : Nat) ^ 302 = 4 * 2 ^ 300 := by decide +kernel
    walk_at "rd"
    refine w_dec (fun c => ?_) (fun c => ?_)
    · walk_at "rd"
      have e : QT a b m first last = 0 := by unfold QT; rw [show (last - first + 1).toNat = 0 by omega]; rfl
      rw [e] at k
      exact k _ (Same.refl H)
    obtain ⟨n, hn⟩ := Int.eq_ofNat_of_zero_le (show 0 ≤ last - first + 1 by omega)
    have n0 : 0 < n := by omega
    have nb : n < 2 ^ 302 := by omega
    rw [hn]
    have bmul : (a * first).natAbs < 2 ^ (300 + 300) := wide_lt ba bf
    have h600 : (2 : Nat) ^ (300 + 300) + 2 ^ 302 < 2 ^ 601 := by decide +kernel
    walk_at "rd"
    refine w_aug rfl ?_
    walk_at "rd"
    refine w_I (mulx_ok ba bf (by decide)) ?_
    refine ⟨_, _, rfl, rfl, ?_⟩
    walk_at "rd"
    rw [QT_QS, hn, Int.toNat_natCast] at k
    refine w_while (fun ms σ H' => ∃ (a' b' m' t : Int) (n' : Nat) (v : Option V), σ = [some (.ref l), some (.int m'), some (.int first), some (.int last), some (.int a'), some (.int b'), some (.int (n' : Int)), some (.int t), v] ∧ ms = m'.toNat ∧ 0 < m' ∧ BB m' ∧ BB a' ∧ b'.natAbs < 2 ^ 601 ∧ 0 < n' ∧ n' < 2 ^ 302 ∧ t + QS a' b' m' n' = QS a (b + a * first) m n ∧ Same H H')
      m.toNat ⟨a, b + a * first, m, 0, n, none, rfl, rfl, m0, bm, ba, by omega, n0, nb, by omega, Same.refl H⟩ ?_
    rintro ms σ H' ⟨a', b', m', t, n', v, rfl, rfl, m0', bm', ba', bb', n0', nb', heq, sm⟩
    unfold BB at bm' ba'
    walk_at "rd"
    refine iteT ?_
    refine ⟨_, fun _ _ h => h, ?_⟩
    walk_at "rd"
    refine w_aug rfl ?_
    have bn : ((n' : Int)).natAbs < 2 ^ 302 := by omega
    have bn1 : ((n' : Int) - 1).natAbs < 2 ^ 302 := by omega
    have bnn : ((n' : Int) * ((n' : Int) - 1)).natAbs < 2 ^ (302 + 302) := wide_lt bn bn1
    have q1 := Int.natAbs_ediv_le_natAbs a' m'
    have q2 := Int.natAbs_ediv_le_natAbs b' m'
    have bnn2 : ((n' : Int) * ((n' : Int) - 1) / 2).natAbs < 2 ^ (302 + 302) := Nat.lt_of_le_of_lt (Int.natAbs_ediv_le_natAbs _ 2) bnn
    walk_at "rd"
    refine w_I (mulx_ok bn bn1 (by decide)) ?_
    walk_at "rd"
    refine w_I (wide_div m0' bm' (by decide) (by decide)) ?_
    walk_at "rd"
    refine w_I (mulx_ok bnn2 (Nat.lt_of_le_of_lt q1 ba') (by decide)) ?_
    walk_at "rd"
    refine w_I (wide_div m0' bm' (by decide) (by decide)) ?_
    walk_at "rd"
    refine w_I (mulx_ok bn (Nat.lt_of_le_of_lt q2 bb') (by decide)) ?_
    walk_at "rd"
    refine ⟨_, _, rfl, rfl, ?_⟩
    walk_at "rd"
    refine w_I m0' ?_
    walk_at "rd"
    refine w_I m0' ?_
    walk_at "rd"
    have r0 := Int.emod_nonneg a' (Int.ne_of_gt m0')
    have r1 := Int.emod_lt_of_pos a' m0'
    have s0 := Int.emod_nonneg b' (Int.ne_of_gt m0')
    have s1 := Int.emod_lt_of_pos b' m0'
    have bam : (a' % m').natAbs < 2 ^ 300 := by omega
    have bbm : (b' % m').natAbs < 2 ^ 300 := by omega
    refine w_I (mulx_ok bam bn (by decide)) ?_
    have bam2 : (a' % m' * (n' : Int)).natAbs < 2 ^ (300 + 302) := wide_lt bam bn
    walk_at "rd"
    have red := QS_red a' b' m0' n'
    refine w_dec (fun c2 => ?_) (fun c2 => ?_)
    · walk_at "rd"
      have z := QS_zero r0 s0 n' c2
      have e : t + ((n' : Int) * ((n' : Int) - 1) / 2 * (a' / m') + (n' : Int) * (b' / m')) = QS a (b + a * first) m n := by omega
      rw [e]
      exact k _ sm
    have ap : 0 < a' % m' := by
      rcases Int.lt_or_le 0 (a' % m') with z | z
      · exact z
      · have z0 : a' % m' = 0 := by omega
        rw [z0, Int.zero_mul] at c2; omega
    have anb : 0 ≤ a' % m' * (n' : Int) := Int.mul_nonneg r0 (by omega)
    have top0 : 0 ≤ a' % m' * (n' : Int) + b' % m' := by omega
    have topb : (a' % m' * (n' : Int) + b' % m').natAbs < 2 ^ 603 := by
      have : (2 : Nat) ^ (300 + 302) + 2 ^ 300 < 2 ^ 603 := by decide +kernel
      omega
    walk_at "rd"
    refine ⟨_, _, rfl, divp_ok m0' ?_, fun pr hpr => ?_⟩
    · have := PyProof.Rows.intBits_le topb
      omega
    have hq0 : 0 ≤ (a' % m' * (n' : Int) + b' % m') / m' := Int.ediv_nonneg top0 (Int.le_of_lt m0')
    obtain ⟨n2, hn2⟩ := Int.eq_ofNat_of_zero_le hq0
    have n2p : 0 < n2 := by
      have : 1 ≤ (a' % m' * (n' : Int) + b' % m') / m' := (Int.le_ediv_iff_mul_le m0').mpr (by omega)
      omega
    have n2b : n2 ≤ n' := by
      have h1 : (a' % m' * (n' : Int) + b' % m') / m' < (n' : Int) + 1 := (Int.ediv_lt_iff_lt_mul m0').mpr (by
        have : a' % m' * (n' : Int) ≤ m' * (n' : Int) := Int.mul_le_mul_of_nonneg_right (by omega) (by omega)
        rw [Int.add_mul, Int.one_mul, Int.mul_comm (n' : Int) m']; omega)
      omega
    rw [hn2]
    have u0 := Int.emod_nonneg (a' % m' * (n' : Int) + b' % m') (Int.ne_of_gt m0')
    have u1 := Int.emod_lt_of_pos (a' % m' * (n' : Int) + b' % m') m0'
    have turn := QS_turn ap r1 s0 s1 n' hn2.symm
    have h601 : (2 : Nat) ^ 300 < 2 ^ 601 := by decide +kernel
    walk_at "rd"
    refine ⟨(a' % m').toNat, by omega, m', _, a' % m', _, n2, _, rfl, rfl, ap, bam, bm', ?_, n2p, by omega, ?_, sm_new sm hpr⟩
    · omega
    · omega
def sp_total_between (K : PySem.W.Frag) (C : Addr) (TS : List (Addr × Str)) : Sp := fun vs H Q _ => ∃ (l : Addr) (a b m first last lo hi : Int), vs = [.ref l, .int m, .int first, .int last, .int lo, .int hi] ∧ H l = some (.tup [.int a, .int b]) ∧ 0 < m ∧ BB m ∧ BB a ∧ BB b ∧ BB first ∧ BB last ∧ BB lo ∧ BB hi ∧ (lo ≤ hi → hi - lo < m) ∧ ∀ H', Same H H' → Q (.int (tot (fun x => inR m lo hi (a * x + b)) first last)) H'
theorem ok_total_between {P : Program} {w : World} {K : PySem.W.Frag} {mg : Str → Option Value} {base : Heap} (T : Txt K mg) (B : TBs T base) : FnOk P w K mg base CX0 2 T.f_total_between T.fd_total_between ["line", "size", "first", "last", "low", "high"] (sp_total_between K T.C_Kind T.tabs) := by
  have G_quotient_total := ok_quotient_total (P := P) (w := w) (base := base) T B
  refine T.F_total_between.ok sc_total_between (fun vs H Q E h => ?_) (fun cdv A outer s H vs Q E hr h => ?_)
  · obtain ⟨l, a, b, m, first, last, lo, hi, rfl, _⟩ := h
    rfl
  · obtain ⟨l, a, b, m, first, last, lo, hi, rfl, h⟩ := h
    have hr_quotient_total : Room 1 _ := hr.mono (by decide)
    refine ⟨_, (pss_cons (ps_if (pt_cmpR op_lt (pv 5 (hv := Or.inl rfl)) (pv 4 (hv := Or.inl rfl)) (nomark _)) (pss_one (ps_ret pe_int)) pss_nil)
      (pss_cons (ps_asg (pv 0 (hv := Or.inl rfl)) (pg_tup rfl (pgs_cons (pg_name (i := 6) sc_total_between.nd rfl (Or.inl rfl)) (pgs_cons (pg_name (i := 7) sc_total_between.nd rfl (Or.inl rfl)) pgs_nil))))
      (pss_one (ps_ret (pe_op op_sub (pe_call G_quotient_total hr_quotient_total rfl T.g_quotient_total T.k_quotient_total T.b_quotient_total .nil pass0 (pa_cons (pe_tup (pa_cons (pv 6 (hv := Or.inl rfl)) (pa_cons (pe_op op_sub (pv 7 (hv := Or.inl rfl)) (pv 4 (hv := Or.inl rfl))) pa_nil))) (pa_cons (pv 1 (hv := Or.inl rfl)) (pa_cons (pv 2 (hv := Or.inl rfl)) (pa_cons (pv 3 (hv := Or.inl rfl)) pa_nil))))) (pe_call G_quotient_total hr_quotient_total rfl T.g_quotient_total T.k_quotient_total T.b_quotient_total .nil pass0 (pa_cons (pe_tup (pa_cons (pv 6 (hv := Or.inl rfl)) (pa_cons (pe_op op_sub (pe_op op_sub (pv 7 (hv := Or.inl rfl)) (pv 5 (hv := Or.inl rfl))) pe_int) pa_nil))) (pa_cons (pv 1 (hv := Or.inl rfl)) (pa_cons (pv 2 (hv := Or.inl rfl)) (pa_cons (pv 3 (hv := Or.inl rfl)) pa_nil)))))))))), ?_⟩
    try dsimp only [cxOf, Cx.nox, Cx.wish, Cx.blk]
    rw [show L2.start ["line", "size", "first", "last", "low", "high", "a", "b"] [.ref l, .int m, .int first, .int last, .int lo, .int hi] = [some (.ref l), some (.int m), some (.int first), some (.int last), some (.int lo), some (.int hi), none, none] from rfl]
    obtain ⟨hl, m0, bm, ba, bb, bf, bl, blo, bhi, hlt, k⟩ := h
    walk_at "rd"
    refine w_dec (fun c => ?_) (fun c => ?_)
    · walk_at "rd"
      rw [tot_never (fun x => inR_none c (a * x + b))] at k
      exact k _ (Same.refl H)
    walk_at "rd"
    have e := QT_between (a := a) (b := b) (first := first) (last := last) m0 (show lo ≤ hi by omega) (hlt (by omega))
    have h302 : (2 : Nat) ^ 302 = 4 * 2 ^ 300 := by decide +kernel
    unfold BB at bb blo bhi
    refine ⟨by show 2 ≤ sizeLine; decide, fun q1 hq1 => ?_⟩
    walk_at "rd"
    refine ⟨q1, a, b - lo, m, first, last, rfl, upd_same, m0, bm, ba, by omega, bf, bl, fun H1 s1 => ?_⟩
    walk_at "rd"
    refine ⟨by show 2 ≤ sizeLine; decide, fun q2 hq2 => ?_⟩
    walk_at "rd"
    refine ⟨q2, a, b - hi - 1, m, first, last, rfl, upd_same, m0, bm, ba, by omega, bf, bl, fun H2 s2 => ?_⟩
    walk_at "rd"
    rw [e]
    exact k _ (((sm_new (Same.refl H) hq1).trans s1).trans ((sm_new (Same.refl H1) hq2).trans s2))
def sp_check_line (K : PySem.W.Frag) (C : Addr) (TS : List (Addr × Str)) : Sp := fun vs H Q _ => ∃ (l : Addr) (z : Str) (a b : Int), vs = [.ref l, .str z] ∧ H l = some (.tup [.int a, .int b]) ∧ SD a ∧ SD b ∧ Q .non H
theorem ok_check_line {P : Program} {w : World} {K : PySem.W.Frag} {mg : Str → Option Value} {base : Heap} (T : Txt K mg) (B : TBs T base) : FnOk P w K mg base CX0 3 T.f_check_line T.fd_check_line ["line", "argument"] (sp_check_line K T.C_Kind T.tabs) := by
  have G_is_sixty_digits := ok_is_sixty_digits (P := P) (w := w) (base := base) T B
  refine T.F_check_line.ok sc_check_line (fun vs H Q E h => ?_) (fun cdv A outer s H vs Q E hr h => ?_)
  · obtain ⟨l, z, a, b, rfl, _⟩ := h
    rfl
  · obtain ⟨l, z, a, b, rfl, h⟩ := h
    have hr_is_sixty_digits : Room 2 _ := hr.mono (by decide)
    refine ⟨_, (pss_cons (ps_if (pt_not (PW.pt (pw_and (pt_val (pe_callB (id := "isinstance") (r := rIsi K) call_isi (by rfl) T.n_isinstance (by decide +kernel) (pa_cons (pv 0 (hv := Or.inl rfl)) (pa_cons (pe_bltn (v := .ty "tuple") (by rfl) T.n_tuple (by decide +kernel) rfl) pa_nil)))) (pw_and1 (pt_cmpR op_eq (pe_callB (id := "len") (r := rLenS K) call_len_seq (by rfl) T.n_len (by decide +kernel) (pa_cons (pv 0 (hv := Or.inl rfl)) pa_nil)) pe_int (nomark _)))))) (pss_one ps_never) pss_nil)
      (pss_one (ps_if (pt_not (PW.pt (pw_and (pt_val (pe_call G_is_sixty_digits hr_is_sixty_digits rfl T.g_is_sixty_digits T.k_is_sixty_digits T.b_is_sixty_digits .nil pass0 (pa_cons (pe_ix (r := rIxT K) ix_tup (pv 0 (hv := Or.inl rfl)) pe_int (fun _ _ => rfl)) pa_nil))) (pw_and1 (pt_val (pe_call G_is_sixty_digits hr_is_sixty_digits rfl T.g_is_sixty_digits T.k_is_sixty_digits T.b_is_sixty_digits .nil pass0 (pa_cons (pe_ix (r := rIxT K) ix_tup (pv 0 (hv := Or.inl rfl)) pe_int (fun _ _ => rfl)) pa_nil))))))) (pss_one ps_never) pss_nil))), ?_⟩
    try dsimp only [cxOf, Cx.nox, Cx.wish, Cx.blk]
    rw [show L2.start ["line", "argument"] [.ref l, .str z] = [some (.ref l), some (.str z)] from rfl]
    obtain ⟨hl, sa, sb, k⟩ := h
    walk_at "rd"
    refine w_isi (b := true) (.base (.tup hl)) (by decide +kernel) ?_
    walk_at "rd"
    refine iteT ?_
    walk_at "rd"
    refine w_lenT hl ?_
    walk_at "rd"
    refine w_bF (by simp) ?_
    walk_at "rd"
    refine ⟨a, rfl, ?_⟩
    walk_at "rd"
    rw [decide_eq_true (show -(10 ^ 60) < a ∧ a < 10 ^ 60 from sa)]
    refine iteT ?_
    walk_at "rd"
    refine ⟨b, rfl, ?_⟩
    walk_at "rd"
    rw [decide_eq_true (show -(10 ^ 60) < b ∧ b < 10 ^ 60 from sb)]
    refine iteF ?_
    walk_at "rd"
    exact k
def sp_check_range (K : PySem.W.Frag) (C : Addr) (TS : List (Addr × Str)) : Sp := fun vs H Q _ => ∃ (i j : Int), vs = [.int i, .int j] ∧ SD i ∧ SD j ∧ Q .non H
theorem ok_check_range {P : Program} {w : World} {K : PySem.W.Frag} {mg : Str → Option Value} {base : Heap} (T : Txt K mg) (B : TBs T base) : FnOk P w K mg base CX0 4 T.f_check_range T.fd_check_range ["first", "last"] (sp_check_range K T.C_Kind T.tabs) := by
  have G_check_sixty_digits := ok_check_sixty_digits (P := P) (w := w) (base := base) T B
  refine T.F_check_range.ok sc_check_range (fun vs H Q E h => ?_) (fun cdv A outer s H vs Q E hr h => ?_)
  · obtain ⟨i, j, rfl, _⟩ := h
    rfl
  · obtain ⟨i, j, rfl, h⟩ := h
    have hr_check_sixty_digits : Room 3 _ := hr.mono (by decide)
    refine ⟨_, (pss_cons (ps_expr (pe_call G_check_sixty_digits hr_check_sixty_digits rfl T.g_check_sixty_digits T.k_check_sixty_digits T.b_check_sixty_digits .nil pass0 (pa_cons (pv 0 (hv := Or.inl rfl)) (pa_cons pe_str pa_nil))))
      (pss_one (ps_expr (pe_call G_check_sixty_digits hr_check_sixty_digits rfl T.g_check_sixty_digits T.k_check_sixty_digits T.b_check_sixty_digits .nil pass0 (pa_cons (pv 1 (hv := Or.inl rfl)) (pa_cons pe_str pa_nil)))))), ?_⟩
    try dsimp only [cxOf, Cx.nox, Cx.wish, Cx.blk]
    rw [show L2.start ["first", "last"] [.int i, .int j] = [some (.int i), some (.int j)] from rfl]
    obtain ⟨si, sj, k⟩ := h
    walk_at "rd"
    refine ⟨i, _, rfl, si, ?_⟩
    walk_at "rd"
    refine ⟨j, _, rfl, sj, ?_⟩
    walk_at "rd"
    exact k
def sp_exact_at (K : PySem.W.Frag) (C : Addr) (TS : List (Addr × Str)) : Sp := fun vs H Q _ => ∃ (l : Addr) (a b x : Int), vs = [.ref l, .int x] ∧ H l = some (.tup [.int a, .int b]) ∧ BB a ∧ BB x ∧ Q (.int (a * x + b)) H
theorem ok_exact_at {P : Program} {w : World} {K : PySem.W.Frag} {mg : Str → Option Value} {base : Heap} (T : Txt K mg) (B : TBs T base) : FnOk P w K mg base CX0 1 T.f_exact_at T.fd_exact_at ["line", "x"] (sp_exact_at K T.C_Kind T.tabs) := by
  refine T.F_exact_at.ok sc_exact_at (fun vs H Q E h => ?_) (fun cdv A outer s H vs Q E hr h => ?_)
  · obtain ⟨l, a, b, x, rfl, _⟩ := h
    rfl
  · obtain ⟨l, a, b, x, rfl, h⟩ := h
    refine ⟨_, (pss_cons (ps_asg (pv 0 (hv := Or.inl rfl)) (pg_tup rfl (pgs_cons (pg_name (i := 2) sc_exact_at.nd rfl (Or.inl rfl)) (pgs_cons (pg_name (i := 3) sc_exact_at.nd rfl (Or.inl rfl)) pgs_nil))))
      (pss_one (ps_ret (pe_op op_add (pe_op op_mulX (pv 2 (hv := Or.inl rfl)) (pv 1 (hv := Or.inl rfl))) (pv 3 (hv := Or.inl rfl)))))), ?_⟩
    try dsimp only [cxOf, Cx.nox, Cx.wish, Cx.blk]
    rw [show L2.start ["line", "x", "a", "b"] [.ref l, .int x] = [some (.ref l), some (.int x), none, none] from rfl]
    obtain ⟨hl, ba, bx, k⟩ := h
    walk_at "rd"
    refine w_I (mulx_ok ba bx (by decide)) ?_
    walk_at "rd"
    exact k
def sp__check_lines (K : PySem.W.Frag) (C : Addr) (TS : List (Addr × Str)) : Sp := fun vs H Q _ => ∃ (kp l1 : Addr) (z : Str) (l2 : Addr), vs = [.ref kp, .ref l1, .str z, .ref l2] ∧ (∃ wd s, Kd C H kp wd s) ∧ (∃ a b c d, H l1 = some (.tup [.int a, .int b]) ∧ H l2 = some (.tup [.int c, .int d]) ∧ SD a ∧ SD b ∧ SD c ∧ SD d) ∧ Rel z ∧ Q .non H
theorem ok__check_lines {P : Program} {w : World} {K : PySem.W.Frag} {mg : Str → Option Value} {base : Heap} (T : Txt K mg) (B : TBs T base) : FnOk P w K mg base CX0 4 T.f__check_lines T.fd__check_lines ["kind", "one", "relation", "other"] (sp__check_lines K T.C_Kind T.tabs) := by
  have G_check_kind := ok_check_kind (P := P) (w := w) (base := base) T B
  have G_check_line := ok_check_line (P := P) (w := w) (base := base) T B
  have G_check_word := ok_check_word (P := P) (w := w) (base := base) T B
  refine T.F__check_lines.ok sc__check_lines (fun vs H Q E h => ?_) (fun cdv A outer s H vs Q E hr h => ?_)
  · obtain ⟨kp, l1, z, l2, rfl, _⟩ := h
    rfl
  · obtain ⟨kp, l1, z, l2, rfl, h⟩ := h
    have hr_check_kind : Room 1 _ := hr.mono (by decide)
    have hr_check_line : Room 3 _ := hr.mono (by decide)
    have hr_check_word : Room 1 _ := hr.mono (by decide)
    refine ⟨_, (pss_cons (ps_expr (pe_call G_check_kind hr_check_kind rfl T.g_check_kind T.k_check_kind T.b_check_kind .nil pass0 (pa_cons (pv 0 (hv := Or.inl rfl)) pa_nil)))
      (pss_cons (ps_expr (pe_call G_check_line hr_check_line rfl T.g_check_line T.k_check_line T.b_check_line .nil pass0 (pa_cons (pv 1 (hv := Or.inl rfl)) (pa_cons pe_str pa_nil))))
      (pss_cons (ps_expr (pe_call G_check_word hr_check_word rfl T.g_check_word T.k_check_word T.b_check_word .nil pass0 (pa_cons (pv 2 (hv := Or.inl rfl)) (pa_cons (pe_glob (v := .ref T.a_RELATIONS) rfl T.g_RELATIONS rfl) (pa_cons pe_str pa_nil)))))
      (pss_one (ps_expr (pe_call G_check_line hr_check_line rfl T.g_check_line T.k_check_line T.b_check_line .nil pass0 (pa_cons (pv 3 (hv := Or.inl rfl)) (pa_cons pe_str pa_nil)))))))), ?_⟩
    try dsimp only [cxOf, Cx.nox, Cx.wish, Cx.blk]
    rw [show L2.start ["kind", "one", "relation", "other"] [.ref kp, .ref l1, .str z, .ref l2] = [some (.ref kp), some (.ref l1), some (.str z), some (.ref l2)] from rfl]
    obtain ⟨hk, ⟨a, b, c, d, h1, h2, sa, sb, sc, sd⟩, hz, k⟩ := h
    walk_at "rd"
    refine ⟨kp, rfl, hk, ?_⟩
    walk_at "rd"
    refine ⟨l1, _, a, b, rfl, h1, sa, sb, ?_⟩
    walk_at "rd"
    refine ⟨z, _, _, rfl, T.q_RELATIONS H, hz, ?_⟩
    walk_at "rd"
    refine ⟨l2, _, c, d, rfl, h2, sc, sd, ?_⟩
    walk_at "rd"
    exact k
def sp__check (K : PySem.W.Frag) (C : Addr) (TS : List (Addr × Str)) : Sp := fun vs H Q _ => ∃ (kp l1 : Addr) (z : Str) (l2 : Addr) (first last : Int), vs = [.ref kp, .ref l1, .str z, .ref l2, .int first, .int last] ∧ (∃ wd s, Kd C H kp wd s) ∧ (∃ a b c d, H l1 = some (.tup [.int a, .int b]) ∧ H l2 = some (.tup [.int c, .int d]) ∧ SD a ∧ SD b ∧ SD c ∧ SD d) ∧ Rel z ∧ SD first ∧ SD last ∧ Q .non H
theorem ok__check {P : Program} {w : World} {K : PySem.W.Frag} {mg : Str → Option Value} {base : Heap} (T : Txt K mg) (B : TBs T base) : FnOk P w K mg base CX0 5 T.f__check T.fd__check ["kind", "one", "relation", "other", "first", "last"] (sp__check K T.C_Kind T.tabs) := by
  have G__check_lines := ok__check_lines (P := P) (w := w) (base := base) T B
  have G_check_range := ok_check_range (P := P) (w := w) (base := base) T B
  refine T.F__check.ok sc__check (fun vs H Q E h => ?_) (fun cdv A outer s H vs Q E hr h => ?_)
  · obtain ⟨kp, l1, z, l2, first, last, rfl, _⟩ := h
    rfl
  · obtain ⟨kp, l1, z, l2, first, last, rfl, h⟩ := h
    have hr__check_lines : Room 4 _ := hr.mono (by decide)
    have hr_check_range : Room 4 _ := hr.mono (by decide)
    refine ⟨_, (pss_cons (ps_expr (pe_call G__check_lines hr__check_lines rfl T.g__check_lines T.k__check_lines T.b__check_lines .nil pass0 (pa_cons (pv 0 (hv := Or.inl rfl)) (pa_cons (pv 1 (hv := Or.inl rfl)) (pa_cons (pv 2 (hv := Or.inl rfl)) (pa_cons (pv 3 (hv := Or.inl rfl)) pa_nil))))))
      (pss_one (ps_expr (pe_call G_check_range hr_check_range rfl T.g_check_range T.k_check_range T.b_check_range .nil pass0 (pa_cons (pv 4 (hv := Or.inl rfl)) (pa_cons (pv 5 (hv := Or.inl rfl)) pa_nil)))))), ?_⟩
    try dsimp only [cxOf, Cx.nox, Cx.wish, Cx.blk]
    rw [show L2.start ["kind", "one", "relation", "other", "first", "last"] [.ref kp, .ref l1, .str z, .ref l2, .int first, .int last] = [some (.ref kp), some (.ref l1), some (.str z), some (.ref l2), some (.int first), some (.int last)] from rfl]
    obtain ⟨hk, hl, hz, sf, sl, k⟩ := h
    walk_at "rd"
    refine ⟨kp, l1, z, l2, rfl, hk, hl, hz, ?_⟩
    walk_at "rd"
    refine ⟨_, _, rfl, sf, sl, ?_⟩
    walk_at "rd"
    exact k
def sp__count (K : PySem.W.Frag) (C : Addr) (TS : List (Addr × Str)) : Sp := fun vs H Q _ => ∃ (f l : Int), vs = [.int f, .int l] ∧ Q (.int (max 0 (l - f + 1))) H
theorem ok__count {P : Program} {w : World} {K : PySem.W.Frag} {mg : Str → Option Value} {base : Heap} (T : Txt K mg) (B : TBs T base) : FnOk P w K mg base CX0 1 T.f__count T.fd__count ["first", "last"] (sp__count K T.C_Kind T.tabs) := by
  refine T.F__count.ok sc__count (fun vs H Q E h => ?_) (fun cdv A outer s H vs Q E hr h => ?_)
  · obtain ⟨f, l, rfl, _⟩ := h
    rfl
  · obtain ⟨f, l, rfl, h⟩ := h
    refine ⟨_, (pss_one (ps_ret (pe_callB (id := "max") (r := rmax2C) (call_max2 rfl) (by rfl) T.n_max (by decide +kernel) (pa_cons pe_int (pa_cons (pe_op op_add (pe_op op_sub (pv 1 (hv := Or.inl rfl)) (pv 0 (hv := Or.inl rfl))) pe_int) pa_nil))))), ?_⟩
    try dsimp only [cxOf, Cx.nox, Cx.wish, Cx.blk]
    rw [show L2.start ["first", "last"] [.int f, .int l] = [some (.int f), some (.int l)] from rfl]
    walk_at "rd"
    refine w_max2 ?_
    exact h
def sp__gap (K : PySem.W.Frag) (C : Addr) (TS : List (Addr × Str)) : Sp := fun vs H Q _ => ∃ (l1 l2 : Addr) (a b c d : Int), vs = [.ref l1, .ref l2] ∧ H l1 = some (.tup [.int a, .int b]) ∧ H l2 = some (.tup [.int c, .int d]) ∧ ∀ t, H t = none → Q (.ref t) (upd H t (.tup [.int (a - c), .int (b - d)]))
theorem ok__gap {P : Program} {w : World} {K : PySem.W.Frag} {mg : Str → Option Value} {base : Heap} (T : Txt K mg) (B : TBs T base) : FnOk P w K mg base CX0 1 T.f__gap T.fd__gap ["one", "other"] (sp__gap K T.C_Kind T.tabs) := by
  refine T.F__gap.ok sc__gap (fun vs H Q E h => ?_) (fun cdv A outer s H vs Q E hr h => ?_)
  · obtain ⟨l1, l2, a, b, c, d, rfl, _⟩ := h
    rfl
  · obtain ⟨l1, l2, a, b, c, d, rfl, h⟩ := h
    refine ⟨_, (pss_one (ps_ret (pe_tup (pa_cons (pe_op op_sub (pe_ix (r := rIxT K) ix_tup (pv 0 (hv := Or.inl rfl)) pe_int (fun _ _ => rfl)) (pe_ix (r := rIxT K) ix_tup (pv 1 (hv := Or.inl rfl)) pe_int (fun _ _ => rfl))) (pa_cons (pe_op op_sub (pe_ix (r := rIxT K) ix_tup (pv 0 (hv := Or.inl rfl)) pe_int (fun _ _ => rfl)) (pe_ix (r := rIxT K) ix_tup (pv 1 (hv := Or.inl rfl)) pe_int (fun _ _ => rfl))) pa_nil))))), ?_⟩
    try dsimp only [cxOf, Cx.nox, Cx.wish, Cx.blk]
    rw [show L2.start ["one", "other"] [.ref l1, .ref l2] = [some (.ref l1), some (.ref l2)] from rfl]
    obtain ⟨h1, h2, k⟩ := h
    walk_at "rd"
    refine ⟨by show 2 ≤ sizeLine; decide, fun t ht => ?_⟩
    exact k t ht
def sp__less_total (K : PySem.W.Frag) (C : Addr) (TS : List (Addr × Str)) : Sp := fun vs H Q _ => ∃ (kp l1 l2 : Addr) (first last : Int) (a b c d : Int) (wd : Nat) (s : Bool), vs = [.ref kp, .ref l1, .ref l2, .int first, .int last] ∧ Kd C H kp wd s ∧ H l1 = some (.tup [.int a, .int b]) ∧ H l2 = some (.tup [.int c, .int d]) ∧ SD a ∧ SD b ∧ SD c ∧ SD d ∧ BB first ∧ BB last ∧ ∀ H', Same H H' → Q (.int (tot (cmP wd s "<" a b c d) first last)) H'
theorem ok__less_total {P : Program} {w : World} {K : PySem.W.Frag} {mg : Str → Option Value} {base : Heap} (T : Txt K mg) (B : TBs T base) : FnOk P w K mg base CX0 3 T.f__less_total T.fd__less_total ["kind", "one", "other", "first", "last"] (sp__less_total K T.C_Kind T.tabs) := by
  have G__gap := ok__gap (P := P) (w := w) (base := base) T B
  have G_least := ok_least (P := P) (w := w) (base := base) T B
  have G_quotient_total := ok_quotient_total (P := P) (w := w) (base := base) T B
  refine T.F__less_total.ok sc__less_total (fun vs H Q E h => ?_) (fun cdv A outer s H vs Q E hr h => ?_)
  · obtain ⟨kp, l1, l2, first, last, a, b, c, d, wd, s, rfl, _⟩ := h
    rfl
  · obtain ⟨kp, l1, l2, first, last, a, b, c, d, wd, s, rfl, h⟩ := h
    have hr__gap : Room 1 _ := hr.mono (by decide)
    have hr_least : Room 2 _ := hr.mono (by decide)
    have hr_quotient_total : Room 1 _ := hr.mono (by decide)
    refine ⟨_, (pss_cons (ps_set (i := 5) sc__less_total.nd rfl (Or.inl rfl) (pe_op op_shl pe_int (pe_fld (pv 0 (hv := Or.inl rfl)) rfl)))
      (pss_cons (ps_set (i := 6) sc__less_total.nd rfl (Or.inl rfl) (pe_tup (pa_cons pe_int (pa_cons (pe_call G_least hr_least rfl T.g_least T.k_least T.b_least .nil pass0 (pa_cons (pv 0 (hv := Or.inl rfl)) pa_nil)) pa_nil))))
      (pss_cons (ps_set (i := 7) sc__less_total.nd rfl (Or.inl rfl) (pe_call G_quotient_total hr_quotient_total rfl T.g_quotient_total T.k_quotient_total T.b_quotient_total .nil pass0 (pa_cons (pe_call G__gap hr__gap rfl T.g__gap T.k__gap T.b__gap .nil pass0 (pa_cons (pv 1 (hv := Or.inl rfl)) (pa_cons (pv 6 (hv := Or.inl rfl)) pa_nil))) (pa_cons (pv 5 (hv := Or.inl rfl)) (pa_cons (pv 3 (hv := Or.inl rfl)) (pa_cons (pv 4 (hv := Or.inl rfl)) pa_nil))))))
      (pss_cons (ps_set (i := 8) sc__less_total.nd rfl (Or.inl rfl) (pe_call G_quotient_total hr_quotient_total rfl T.g_quotient_total T.k_quotient_total T.b_quotient_total .nil pass0 (pa_cons (pe_call G__gap hr__gap rfl T.g__gap T.k__gap T.b__gap .nil pass0 (pa_cons (pv 2 (hv := Or.inl rfl)) (pa_cons (pv 6 (hv := Or.inl rfl)) pa_nil))) (pa_cons (pv 5 (hv := Or.inl rfl)) (pa_cons (pv 3 (hv := Or.inl rfl)) (pa_cons (pv 4 (hv := Or.inl rfl)) pa_nil))))))
      (pss_one (ps_ret (pe_op op_sub (pe_op op_sub (pv 7 (hv := Or.inl rfl)) (pv 8 (hv := Or.inl rfl))) (pe_call G_quotient_total hr_quotient_total rfl T.g_quotient_total T.k_quotient_total T.b_quotient_total .nil pass0 (pa_cons (pe_call G__gap hr__gap rfl T.g__gap T.k__gap T.b__gap .nil pass0 (pa_cons (pv 1 (hv := Or.inl rfl)) (pa_cons (pv 2 (hv := Or.inl rfl)) pa_nil))) (pa_cons (pv 5 (hv := Or.inl rfl)) (pa_cons (pv 3 (hv := Or.inl rfl)) (pa_cons (pv 4 (hv := Or.inl rfl)) pa_nil)))))))))))), ?_⟩
    try dsimp only [cxOf, Cx.nox, Cx.wish, Cx.blk]
    rw [show L2.start ["kind", "one", "other", "first", "last", "size", "base", "one_total", "other_total"] [.ref kp, .ref l1, .ref l2, .int first, .int last] = [some (.ref kp), some (.ref l1), some (.ref l2), some (.int first), some (.int last), none, none, none, none] from rfl]
    obtain ⟨hk, h1, h2, sa, sb, sc, sd, bf, bl, k⟩ := h
    have w2 := hk.w2
    have hp := p2 wd
    have hm := bb_pow w2
    obtain ⟨z1, z2, z3, z4, z5⟩ := loK_b (s := s) w2
    have z6 := p128
    have z7 := p290
    have p10 : (10 : Int) ^ 60 * 4 < 10 ^ 62 := by decide +kernel
    have p11 : (10 : Int) ^ 62 ≤ 2 ^ 299 := by decide +kernel
    obtain ⟨a1, a2⟩ := sa
    obtain ⟨b1, b2⟩ := sb
    obtain ⟨c1, c2⟩ := sc
    obtain ⟨d1, d2⟩ := sd
    have b302 : ∀ n : Int, -(2 ^ 299) * 2 ≤ n → n ≤ 2 ^ 299 * 2 → n.natAbs < 2 ^ 302 := fun n x1 x2 => Nat.lt_of_le_of_lt (show n.natAbs ≤ 2 ^ 299 * 2 by omega) (by decide +kernel)
    walk_at "rd"
    refine w_fb T rfl hk ?_
    walk_at "rd"
    refine w_I (cpow (n := 1) (by omega) (by decide)) ?_
    rw [Int.toNat_natCast, Int.one_mul]
    walk_at "rd"
    refine ⟨kp, wd, s, rfl, hk, ?_⟩
    walk_at "rd"
    refine ⟨by show 2 ≤ sizeLine; decide, fun t ht => ?_⟩
    walk_at "rd"
    refine ⟨l1, t, a, b, 0, loK wd s, rfl, gn h1 ht, upd_same, fun g1 hg1 => ?_⟩
    walk_at "rd"
    refine ⟨g1, a - 0, b - loK wd s, 2 ^ wd, first, last, rfl, upd_same, hp, hm, bb_of (by omega) (by omega), b302 _ (by omega) (by omega), bf, bl, fun H1 s1 => ?_⟩
    have s1' : Same H H1 := (sm_new (sm_new (Same.refl H) ht) hg1).trans s1
    have ht1 := s1 _ _ (gn upd_same hg1)
    walk_at "rd"
    refine ⟨l2, t, c, d, 0, loK wd s, rfl, s1' _ _ h2, ht1, fun g2 hg2 => ?_⟩
    walk_at "rd"
    refine ⟨g2, c - 0, d - loK wd s, 2 ^ wd, first, last, rfl, upd_same, hp, hm, bb_of (by omega) (by omega), b302 _ (by omega) (by omega), bf, bl, fun H2 s2 => ?_⟩
    have s2' : Same H H2 := s1'.trans ((sm_new (Same.refl H1) hg2).trans s2)
    walk_at "rd"
    refine ⟨l1, l2, a, b, c, d, rfl, s2' _ _ h1, s2' _ _ h2, fun g3 hg3 => ?_⟩
    walk_at "rd"
    refine ⟨g3, a - c, b - d, 2 ^ wd, first, last, rfl, upd_same, hp, hm, bb_of (by omega) (by omega), b302 _ (by omega) (by omega), bf, bl, fun H3 s3 => ?_⟩
    walk_at "rd"
    rw [QT_lt]
    exact k _ (s2'.trans ((sm_new (Same.refl H2) hg3).trans s3))
def sp__equal_total (K : PySem.W.Frag) (C : Addr) (TS : List (Addr × Str)) : Sp := fun vs H Q _ => ∃ (kp l1 l2 : Addr) (first last : Int) (a b c d : Int) (wd : Nat) (s : Bool), vs = [.ref kp, .ref l1, .ref l2, .int first, .int last] ∧ Kd C H kp wd s ∧ H l1 = some (.tup [.int a, .int b]) ∧ H l2 = some (.tup [.int c, .int d]) ∧ SD a ∧ SD b ∧ SD c ∧ SD d ∧ BB first ∧ BB last ∧ ∀ H', Same H H' → Q (.int (tot (cmP wd s "==" a b c d) first last)) H'
theorem ok__equal_total {P : Program} {w : World} {K : PySem.W.Frag} {mg : Str → Option Value} {base : Heap} (T : Txt K mg) (B : TBs T base) : FnOk P w K mg base CX0 3 T.f__equal_total T.fd__equal_total ["kind", "one", "other", "first", "last"] (sp__equal_total K T.C_Kind T.tabs) := by
  have G__gap := ok__gap (P := P) (w := w) (base := base) T B
  have G_total_between := ok_total_between (P := P) (w := w) (base := base) T B
  refine T.F__equal_total.ok sc__equal_total (fun vs H Q E h => ?_) (fun cdv A outer s H vs Q E hr h => ?_)
  · obtain ⟨kp, l1, l2, first, last, a, b, c, d, wd, s, rfl, _⟩ := h
    rfl
  · obtain ⟨kp, l1, l2, first, last, a, b, c, d, wd, s, rfl, h⟩ := h
    have hr__gap : Room 1 _ := hr.mono (by decide)
    have hr_total_between : Room 2 _ := hr.mono (by decide)
    refine ⟨_, (pss_one (ps_ret (pe_call G_total_between hr_total_between rfl T.g_total_between T.k_total_between T.b_total_between .nil pass0 (pa_cons (pe_call G__gap hr__gap rfl T.g__gap T.k__gap T.b__gap .nil pass0 (pa_cons (pv 1 (hv := Or.inl rfl)) (pa_cons (pv 2 (hv := Or.inl rfl)) pa_nil))) (pa_cons (pe_op op_shl pe_int (pe_fld (pv 0 (hv := Or.inl rfl)) rfl)) (pa_cons (pv 3 (hv := Or.inl rfl)) (pa_cons (pv 4 (hv := Or.inl rfl)) (pa_cons pe_int (pa_cons pe_int pa_nil))))))))), ?_⟩
    try dsimp only [cxOf, Cx.nox, Cx.wish, Cx.blk]
    rw [show L2.start ["kind", "one", "other", "first", "last"] [.ref kp, .ref l1, .ref l2, .int first, .int last] = [some (.ref kp), some (.ref l1), some (.ref l2), some (.int first), some (.int last)] from rfl]
    obtain ⟨hk, h1, h2, sa, sb, sc, sd, bf, bl, k⟩ := h
    have w2 := hk.w2
    have hp := p2 wd
    have hm := bb_pow w2
    have p10 : (10 : Int) ^ 60 * 4 < 10 ^ 62 := by decide +kernel
    obtain ⟨a1, a2⟩ := sa
    obtain ⟨b1, b2⟩ := sb
    obtain ⟨c1, c2⟩ := sc
    obtain ⟨d1, d2⟩ := sd
    walk_at "rd"
    refine ⟨l1, l2, a, b, c, d, rfl, h1, h2, fun t ht => ?_⟩
    walk_at "rd"
    refine w_fb T rfl (hk.same (sm_new (Same.refl H) ht)) ?_
    walk_at "rd"
    refine w_I (cpow (n := 1) (by omega) (by decide)) ?_
    rw [Int.toNat_natCast, Int.one_mul]
    walk_at "rd"
    refine ⟨t, a - c, b - d, 2 ^ wd, first, last, 0, 0, rfl, upd_same, hp, hm, bb_ten (by omega) (by omega), bb_ten (by omega) (by omega), bf, bl, bb_sm (by decide) (by decide), bb_sm (by decide) (by decide), fun _ => by omega, fun H1 s1 => ?_⟩
    rw [tot_congr (q := cmP wd s "==" a b c d) fun x _ _ => eq_inR wd s a b c d x]
    exact k _ ((sm_new (Same.refl H) ht).trans s1)
def sp__total (K : PySem.W.Frag) (C : Addr) (TS : List (Addr × Str)) : Sp := fun vs H Q _ => ∃ (kp l1 : Addr) (z : Str) (l2 : Addr) (first last : Int) (a b c d : Int) (wd : Nat) (s : Bool), vs = [.ref kp, .ref l1, .str z, .ref l2, .int first, .int last] ∧ Kd C H kp wd s ∧ H l1 = some (.tup [.int a, .int b]) ∧ H l2 = some (.tup [.int c, .int d]) ∧ SD a ∧ SD b ∧ SD c ∧ SD d ∧ Rel z ∧ BB first ∧ BB last ∧ ∀ H', Same H H' → Q (.int (tot (cmP wd s z a b c d) first last)) H'
theorem ok__total {P : Program} {w : World} {K : PySem.W.Frag} {mg : Str → Option Value} {base : Heap} (T : Txt K mg) (B : TBs T base) : FnOk P w K mg base CX0 4 T.f__total T.fd__total ["kind", "one", "relation", "other", "first", "last"] (sp__total K T.C_Kind T.tabs) := by
  have G__count := ok__count (P := P) (w := w) (base := base) T B
  have G__equal_total := ok__equal_total (P := P) (w := w) (base := base) T B
  have G__less_total := ok__less_total (P := P) (w := w) (base := base) T B
  refine T.F__total.ok sc__total (fun vs H Q E h => ?_) (fun cdv A outer s H vs Q E hr h => ?_)
  · obtain ⟨kp, l1, z, l2, first, last, a, b, c, d, wd, s, rfl, _⟩ := h
    rfl
  · obtain ⟨kp, l1, z, l2, first, last, a, b, c, d, wd, s, rfl, h⟩ := h
    have hr__count : Room 1 _ := hr.mono (by decide)
    have hr__equal_total : Room 3 _ := hr.mono (by decide)
    have hr__less_total : Room 3 _ := hr.mono (by decide)
    refine ⟨_, (pss_one (ps_match (pv 2 (hv := Or.inl rfl))
      (pm_str (pss_one (ps_ret (pe_call G__less_total hr__less_total rfl T.g__less_total T.k__less_total T.b__less_total .nil pass0 (pa_cons (pv 0 (hv := Or.inl rfl)) (pa_cons (pv 1 (hv := Or.inl rfl)) (pa_cons (pv 3 (hv := Or.inl rfl)) (pa_cons (pv 4 (hv := Or.inl rfl)) (pa_cons (pv 5 (hv := Or.inl rfl)) pa_nil))))))))
      (pm_str (pss_one (ps_ret (pe_op op_sub (pe_call G__count hr__count rfl T.g__count T.k__count T.b__count .nil pass0 (pa_cons (pv 4 (hv := Or.inl rfl)) (pa_cons (pv 5 (hv := Or.inl rfl)) pa_nil))) (pe_call G__less_total hr__less_total rfl T.g__less_total T.k__less_total T.b__less_total .nil pass0 (pa_cons (pv 0 (hv := Or.inl rfl)) (pa_cons (pv 3 (hv := Or.inl rfl)) (pa_cons (pv 1 (hv := Or.inl rfl)) (pa_cons (pv 4 (hv := Or.inl rfl)) (pa_cons (pv 5 (hv := Or.inl rfl)) pa_nil)))))))))
      (pm_str (pss_one (ps_ret (pe_call G__equal_total hr__equal_total rfl T.g__equal_total T.k__equal_total T.b__equal_total .nil pass0 (pa_cons (pv 0 (hv := Or.inl rfl)) (pa_cons (pv 1 (hv := Or.inl rfl)) (pa_cons (pv 3 (hv := Or.inl rfl)) (pa_cons (pv 4 (hv := Or.inl rfl)) (pa_cons (pv 5 (hv := Or.inl rfl)) pa_nil))))))))
      (pm_str (pss_one (ps_ret (pe_op op_sub (pe_call G__count hr__count rfl T.g__count T.k__count T.b__count .nil pass0 (pa_cons (pv 4 (hv := Or.inl rfl)) (pa_cons (pv 5 (hv := Or.inl rfl)) pa_nil))) (pe_call G__equal_total hr__equal_total rfl T.g__equal_total T.k__equal_total T.b__equal_total .nil pass0 (pa_cons (pv 0 (hv := Or.inl rfl)) (pa_cons (pv 1 (hv := Or.inl rfl)) (pa_cons (pv 3 (hv := Or.inl rfl)) (pa_cons (pv 4 (hv := Or.inl rfl)) (pa_cons (pv 5 (hv := Or.inl rfl)) pa_nil)))))))))
      (pm_str (pss_one (ps_ret (pe_op op_sub (pe_call G__count hr__count rfl T.g__count T.k__count T.b__count .nil pass0 (pa_cons (pv 4 (hv := Or.inl rfl)) (pa_cons (pv 5 (hv := Or.inl rfl)) pa_nil))) (pe_call G__less_total hr__less_total rfl T.g__less_total T.k__less_total T.b__less_total .nil pass0 (pa_cons (pv 0 (hv := Or.inl rfl)) (pa_cons (pv 1 (hv := Or.inl rfl)) (pa_cons (pv 3 (hv := Or.inl rfl)) (pa_cons (pv 4 (hv := Or.inl rfl)) (pa_cons (pv 5 (hv := Or.inl rfl)) pa_nil)))))))))
      (pm_any (pss_one (ps_ret (pe_call G__less_total hr__less_total rfl T.g__less_total T.k__less_total T.b__less_total .nil pass0 (pa_cons (pv 0 (hv := Or.inl rfl)) (pa_cons (pv 3 (hv := Or.inl rfl)) (pa_cons (pv 1 (hv := Or.inl rfl)) (pa_cons (pv 4 (hv := Or.inl rfl)) (pa_cons (pv 5 (hv := Or.inl rfl)) pa_nil)))))))))))))))), ?_⟩
    try dsimp only [cxOf, Cx.nox, Cx.wish, Cx.blk]
    rw [show L2.start ["kind", "one", "relation", "other", "first", "last"] [.ref kp, .ref l1, .str z, .ref l2, .int first, .int last] = [some (.ref kp), some (.ref l1), some (.str z), some (.ref l2), some (.int first), some (.int last)] from rfl]
    obtain ⟨hk, h1, h2, sa, sb, sc, sd, hz, bf, bl, k⟩ := h
    rcases hz with rfl | rfl | rfl | rfl | rfl | rfl
    · walk_at "rd"
      exact ⟨kp, l1, l2, first, last, a, b, c, d, wd, s, rfl, hk, h1, h2, sa, sb, sc, sd, bf, bl, k⟩
    · walk_at "rd"
      refine w_caseF (by decide +kernel) ?_
      walk_at "rd"
      refine ⟨_, _, rfl, ?_⟩
      walk_at "rd"
      refine ⟨kp, l2, l1, first, last, c, d, a, b, wd, s, rfl, hk, h2, h1, sc, sd, sa, sb, bf, bl, fun H' s' => ?_⟩
      walk_at "rd"
      have e : tot (cmP wd s "<=" a b c d) first last = max 0 (last - first + 1) - tot (cmP wd s "<" c d a b) first last := by
        rw [← tot_notM]
        exact tot_congr fun x _ _ => rn25 _ _
      rw [← e]
      exact k _ s'
    · walk_at "rd"
      refine w_caseF (by decide +kernel) ?_
      refine w_caseF (by decide +kernel) ?_
      walk_at "rd"
      exact ⟨kp, l1, l2, first, last, a, b, c, d, wd, s, rfl, hk, h1, h2, sa, sb, sc, sd, bf, bl, k⟩
    · walk_at "rd"
      refine w_caseF (by decide +kernel) ?_
      refine w_caseF (by decide +kernel) ?_
      refine w_caseF (by decide +kernel) ?_
      walk_at "rd"
      refine ⟨_, _, rfl, ?_⟩
      walk_at "rd"
      refine ⟨kp, l1, l2, first, last, a, b, c, d, wd, s, rfl, hk, h1, h2, sa, sb, sc, sd, bf, bl, fun H' s' => ?_⟩
      walk_at "rd"
      rw [← cm_not rn4]
      exact k _ s'
    · walk_at "rd"
      refine w_caseF (by decide +kernel) ?_
      refine w_caseF (by decide +kernel) ?_
      refine w_caseF (by decide +kernel) ?_
      refine w_caseF (by decide +kernel) ?_
      walk_at "rd"
      refine ⟨_, _, rfl, ?_⟩
      walk_at "rd"
      refine ⟨kp, l1, l2, first, last, a, b, c, d, wd, s, rfl, hk, h1, h2, sa, sb, sc, sd, bf, bl, fun H' s' => ?_⟩
      walk_at "rd"
      rw [← cm_not rn5]
      exact k _ s'
    · walk_at "rd"
      refine w_caseF (by decide +kernel) ?_
      refine w_caseF (by decide +kernel) ?_
      refine w_caseF (by decide +kernel) ?_
      refine w_caseF (by decide +kernel) ?_
      refine w_caseF (by decide +kernel) ?_
      walk_at "rd"
      refine ⟨kp, l2, l1, first, last, c, d, a, b, wd, s, rfl, hk, h2, h1, sc, sd, sa, sb, bf, bl, fun H' s' => ?_⟩
      rw [← cm_turn rn6]
      exact k _ s'
def sp__ordered_parts (K : PySem.W.Frag) (C : Addr) (TS : List (Addr × Str)) : Sp := fun vs H Q _ => ∃ (l1 l2 : Addr) (first last : Int) (a b c d : Int), vs = [.ref l1, .ref l2, .int first, .int last] ∧ H l1 = some (.tup [.int a, .int b]) ∧ H l2 = some (.tup [.int c, .int d]) ∧ SD a ∧ SD b ∧ SD c ∧ SD d ∧ SD first ∧ SD last ∧ ∀ (q : Addr) (H' : Hp) (ps : List (Addr × Int × Int)), Same H H' → H' q = some (.lst (ps.map fun r => V.ref r.1)) → (∀ r ∈ ps, H' r.1 = some (.tup [.int r.2.1, .int r.2.2])) → ps.length ≤ 3 → Parts a b c d first last (ps.map (·.2)) → Q (.ref q) H'
theorem ok__ordered_parts {P : Program} {w : World} {K : PySem.W.Frag} {mg : Str → Option Value} {base : Heap} (T : Txt K mg) (B : TBs T base) : FnOk P w K mg base CX0 2 T.f__ordered_parts T.fd__ordered_parts ["one", "other", "first", "last"] (sp__ordered_parts K T.C_Kind T.tabs) := by
  have G__gap := ok__gap (P := P) (w := w) (base := base) T B
  refine T.F__ordered_parts.ok sc__ordered_parts (fun vs H Q E h => ?_) (fun cdv A outer s H vs Q E hr h => ?_)
  · obtain ⟨l1, l2, first, last, a, b, c, d, rfl, _⟩ := h
    rfl
  · obtain ⟨l1, l2, first, last, a, b, c, d, rfl, h⟩ := h
    have hr__gap : Room 1 _ := hr.mono (by decide)
    refine ⟨_, (pss_cons (ps_asg (pe_call G__gap hr__gap rfl T.g__gap T.k__gap T.b__gap .nil pass0 (pa_cons (pv 0 (hv := Or.inl rfl)) (pa_cons (pv 1 (hv := Or.inl rfl)) pa_nil))) (pg_tup rfl (pgs_cons (pg_name (i := 4) sc__ordered_parts.nd rfl (Or.inl rfl)) (pgs_cons (pg_name (i := 5) sc__ordered_parts.nd rfl (Or.inl rfl)) pgs_nil))))
      (pss_cons (ps_if (pt_cmpR op_eq (pv 4 (hv := Or.inl rfl)) pe_int (nomark _)) (pss_one (ps_ret (pe_lst (pa_cons (pe_tup (pa_cons (pv 2 (hv := Or.inl rfl)) (pa_cons (pv 3 (hv := Or.inl rfl)) pa_nil))) pa_nil)))) pss_nil)
      (pss_cons (ps_set (i := 6) sc__ordered_parts.nd rfl (Or.inl rfl) (pe_op op_fdivNW (pe_un un_neg (pv 5 (hv := Or.inl rfl))) (pv 4 (hv := Or.inl rfl))))
      (pss_one (ps_ret (pe_lst (pa_cons (pe_tup (pa_cons (pv 2 (hv := Or.inl rfl)) (pa_cons (pe_callB (id := "min") (r := rmin2C) (call_min2 rfl) (by rfl) T.n_min (by decide +kernel) (pa_cons (pv 3 (hv := Or.inl rfl)) (pa_cons (pe_op op_sub (pv 6 (hv := Or.inl rfl)) pe_int) pa_nil))) pa_nil))) (pa_cons (pe_tup (pa_cons (pe_callB (id := "max") (r := rmax2C) (call_max2 rfl) (by rfl) T.n_max (by decide +kernel) (pa_cons (pv 2 (hv := Or.inl rfl)) (pa_cons (pv 6 (hv := Or.inl rfl)) pa_nil))) (pa_cons (pe_callB (id := "min") (r := rmin2C) (call_min2 rfl) (by rfl) T.n_min (by decide +kernel) (pa_cons (pv 3 (hv := Or.inl rfl)) (pa_cons (pv 6 (hv := Or.inl rfl)) pa_nil))) pa_nil))) (pa_cons (pe_tup (pa_cons (pe_callB (id := "max") (r := rmax2C) (call_max2 rfl) (by rfl) T.n_max (by decide +kernel) (pa_cons (pv 2 (hv := Or.inl rfl)) (pa_cons (pe_op op_add (pv 6 (hv := Or.inl rfl)) pe_int) pa_nil))) (pa_cons (pv 3 (hv := Or.inl rfl)) pa_nil))) pa_nil))))))))), ?_⟩
    try dsimp only [cxOf, Cx.nox, Cx.wish, Cx.blk]
    rw [show L2.start ["one", "other", "first", "last", "slope", "above", "crossing"] [.ref l1, .ref l2, .int first, .int last] = [some (.ref l1), some (.ref l2), some (.int first), some (.int last), none, none, none] from rfl]
    obtain ⟨h1, h2, sa, sb, sc, sd, sf, sl, k⟩ := h
    walk_at "rd"
    refine ⟨l1, l2, a, b, c, d, rfl, h1, h2, fun t ht => ?_⟩
    have ht' : (L2.upd H t (.tup [.int (a - c), .int (b - d)])) t = some (.tup [.int (a - c), .int (b - d)]) := upd_same
    walk_at "rd"
    refine w_dec (fun c0 => ?_) (fun c0 => ?_)
    · walk_at "rd"
      refine ⟨by show 2 ≤ sizeLine; decide, fun t1 ht1 => ?_⟩
      walk_at "rd"
      refine ⟨by show 1 ≤ sizeLine; decide, fun q hq => ?_⟩
      refine k q _ [(t1, first, last)] (sm_new (sm_new (sm_new (Same.refl H) ht) ht1) hq) upd_same (fun r hr => ?_) (by simp) (parts1 c0 sf.bb sl.bb)
      rw [List.mem_singleton.mp hr]
      exact gn upd_same hq
    · walk_at "rd"
      have hb : BB (a - c) := by
        have p10 : (10 : Int) ^ 60 * 4 < 10 ^ 62 := by decide +kernel
        obtain ⟨a1, a2⟩ := sa
        obtain ⟨c1, c2⟩ := sc
        exact bb_ten (by omega) (by omega)
      refine w_I (divnw c0 hb) ?_
      walk_at "rd"
      refine w_min2 ?_
      walk_at "rd"
      refine ⟨by show 2 ≤ sizeLine; decide, fun t1 ht1 => ?_⟩
      walk_at "rd"
      refine w_max2 ?_
      walk_at "rd"
      refine w_min2 ?_
      walk_at "rd"
      refine ⟨by show 2 ≤ sizeLine; decide, fun t2 ht2 => ?_⟩
      walk_at "rd"
      refine w_max2 ?_
      walk_at "rd"
      refine ⟨by show 2 ≤ sizeLine; decide, fun t3 ht3 => ?_⟩
      walk_at "rd"
      refine ⟨by show 3 ≤ sizeLine; decide, fun q hq => ?_⟩
      refine k q _ [(t1, first, min last ((-(b - d)).fdiv (a - c) - 1)), (t2, max first ((-(b - d)).fdiv (a - c)), min last ((-(b - d)).fdiv (a - c))), (t3, max first ((-(b - d)).fdiv (a - c) + 1), last)] (sm_new (sm_new (sm_new (sm_new (sm_new (Same.refl H) ht) ht1) ht2) ht3) hq) upd_same (fun r hr => ?_) (by simp) (parts3 c0 sb sd sf sl)
      rcases List.mem_cons.mp hr with rfl | hr
      · exact gn (gn (gn upd_same ht2) ht3) hq
      · rcases List.mem_cons.mp hr with rfl | hr
        · exact gn (gn upd_same ht3) hq
        · rw [List.mem_singleton.mp hr]
          exact gn upd_same hq
def sp__surprises (K : PySem.W.Frag) (C : Addr) (TS : List (Addr × Str)) : Sp := fun vs H Q _ => ∃ (kp l1 : Addr) (z : Str) (l2 : Addr) (first last : Int) (a b c d : Int) (wd : Nat) (s : Bool), vs = [.ref kp, .ref l1, .str z, .ref l2, .int first, .int last] ∧ Kd C H kp wd s ∧ H l1 = some (.tup [.int a, .int b]) ∧ H l2 = some (.tup [.int c, .int d]) ∧ SD a ∧ SD b ∧ SD c ∧ SD d ∧ Rel z ∧ SD first ∧ SD last ∧ ∀ H', Same H H' → Q (.int (tot (suP wd s z a b c d) first last)) H'
theorem ok__surprises {P : Program} {w : World} {K : PySem.W.Frag} {mg : Str → Option Value} {base : Heap} (T : Txt K mg) (B : TBs T base) : FnOk P w K mg base CX0 5 T.f__surprises T.fd__surprises ["kind", "one", "relation", "other", "first", "last"] (sp__surprises K T.C_Kind T.tabs) := by
  have G__count := ok__count (P := P) (w := w) (base := base) T B
  have G__ordered_parts := ok__ordered_parts (P := P) (w := w) (base := base) T B
  have G__total := ok__total (P := P) (w := w) (base := base) T B
  have G_exact_at := ok_exact_at (P := P) (w := w) (base := base) T B
  have G_stands := ok_stands (P := P) (w := w) (base := base) T B
  refine T.F__surprises.ok sc__surprises (fun vs H Q E h => ?_) (fun cdv A outer s H vs Q E hr h => ?_)
  · obtain ⟨kp, l1, z, l2, first, last, a, b, c, d, wd, s, rfl, _⟩ := h
    rfl
  · obtain ⟨kp, l1, z, l2, first, last, a, b, c, d, wd, s, rfl, h⟩ := h
    have hr__count : Room 1 _ := hr.mono (by decide)
    have hr__ordered_parts : Room 2 _ := hr.mono (by decide)
    have hr__total : Room 4 _ := hr.mono (by decide)
    have hr_exact_at : Room 1 _ := hr.mono (by decide)
    have hr_stands : Room 1 _ := hr.mono (by decide)
    refine ⟨_, (pss_cons (ps_set (i := 6) sc__surprises.nd rfl (Or.inl rfl) pe_int)
      (pss_cons (ps_for PassesOwn.never rfl (pi_list (pe_call G__ordered_parts hr__ordered_parts rfl T.g__ordered_parts T.k__ordered_parts T.b__ordered_parts .nil pass0 (pa_cons (pv 1 (hv := Or.inl rfl)) (pa_cons (pv 3 (hv := Or.inl rfl)) (pa_cons (pv 4 (hv := Or.inl rfl)) (pa_cons (pv 5 (hv := Or.inl rfl)) pa_nil)))))) (pg_tup rfl (pgs_cons (pg_name (i := 7) sc__surprises.nd rfl (Or.inl rfl)) (pgs_cons (pg_name (i := 8) sc__surprises.nd rfl (Or.inl rfl)) pgs_nil)))
        (pss_cons (ps_set (i := 9) sc__surprises.nd rfl (Or.inl rfl) (pe_call G__total hr__total rfl T.g__total T.k__total T.b__total .nil pass0 (pa_cons (pv 0 (hv := Or.inl rfl)) (pa_cons (pv 1 (hv := Or.inl rfl)) (pa_cons (pv 2 (hv := Or.inl rfl)) (pa_cons (pv 3 (hv := Or.inl rfl)) (pa_cons (pv 7 (hv := Or.inl rfl)) (pa_cons (pv 8 (hv := Or.inl rfl)) pa_nil))))))))
      (pss_one (ps_if (pt_val (pe_call G_stands hr_stands rfl T.g_stands T.k_stands T.b_stands .nil pass0 (pa_cons (pe_call G_exact_at hr_exact_at rfl T.g_exact_at T.k_exact_at T.b_exact_at .nil pass0 (pa_cons (pv 1 (hv := Or.inl rfl)) (pa_cons (pv 7 (hv := Or.inl rfl)) pa_nil))) (pa_cons (pv 2 (hv := Or.inl rfl)) (pa_cons (pe_call G_exact_at hr_exact_at rfl T.g_exact_at T.k_exact_at T.b_exact_at .nil pass0 (pa_cons (pv 3 (hv := Or.inl rfl)) (pa_cons (pv 7 (hv := Or.inl rfl)) pa_nil))) pa_nil))))) (pss_one (ps_aug (i := 6) sc__surprises.nd rfl (Or.inl rfl) (pe_op op_sub (pe_call G__count hr__count rfl T.g__count T.k__count T.b__count .nil pass0 (pa_cons (pv 7 (hv := Or.inl rfl)) (pa_cons (pv 8 (hv := Or.inl rfl)) pa_nil))) (pv 9 (hv := Or.inl rfl))) ip_add)) (pss_one (ps_aug (i := 6) sc__surprises.nd rfl (Or.inl rfl) (pv 9 (hv := Or.inl rfl)) ip_add))))))
      (pss_one (ps_ret (pv 6 (hv := Or.inl rfl)))))), ?_⟩
    try dsimp only [cxOf, Cx.nox, Cx.wish, Cx.blk]
    rw [show L2.start ["kind", "one", "relation", "other", "first", "last", "total", "start", "end", "holding"] [.ref kp, .ref l1, .str z, .ref l2, .int first, .int last] = [some (.ref kp), some (.ref l1), some (.str z), some (.ref l2), some (.int first), some (.int last), none, none, none, none] from rfl]
    obtain ⟨hk, h1, h2, sa, sb, sc, sd, hz, sf, sl, k⟩ := h
    walk_at "rd"
    refine ⟨l1, l2, first, last, a, b, c, d, rfl, h1, h2, sa, sb, sc, sd, sf, sl, fun q H1 ps s1 hq hps n3 PT => ?_⟩
    walk_at "rd"
    refine ⟨⟨_, SqL.of hq⟩, for_list (K := K) (a := q) (xs := ps.map fun r => V.ref r.1) (fun i σ H' => (∃ v1 v2 v3 : Option V, σ = [some (.ref kp), some (.ref l1), some (.str z), some (.ref l2), some (.int first), some (.int last), some (.int ((((ps.take i).map (·.2)).map fun r => tot (suP wd s z a b c d) r.1 r.2).sum)), v1, v2, v3]) ∧ Same H1 H')
      ⟨⟨none, none, none, rfl⟩, Same.refl H1⟩ (fun i σ H' _ p => SqL.of (p.2 _ _ hq)) ?_ ?_⟩
    · rintro i x σ H' hi ⟨⟨v1, v2, v3, rfl⟩, s2⟩
      obtain ⟨r, hr, rfl⟩ := map_get hi
      have rm := List.mem_of_getElem? hr
      have s12 := s1.trans s2
      obtain ⟨br1, br2⟩ := PT.bb r.2 (List.mem_map.mpr ⟨r, rm, rfl⟩)
      have one := PT.one r.2 (List.mem_map.mpr ⟨r, rm, rfl⟩)
      have hrt := s2 _ _ (hps r rm)
      have more : (((ps.take (i + 1)).map (·.2)).map fun r => tot (suP wd s z a b c d) r.1 r.2).sum = (((ps.take i).map (·.2)).map fun r => tot (suP wd s z a b c d) r.1 r.2).sum + tot (suP wd s z a b c d) r.2.1 r.2.2 := by
        rw [tk_more hr, List.map_append, List.map_append, List.sum_append]; simp
      have part := su_part (wd := wd) (s := s) (z := z) (a := a) (b := b) (c := c) (d := d) (f := r.2.1) (l := r.2.2) (e := relB z (a * r.2.1 + b) (c * r.2.1 + d)) fun x x1 x2 => rel_sg hz (one x x1 x2).1 (one x x1 x2).2
      walk_at "rd"
      refine ⟨kp, l1, z, l2, r.2.1, r.2.2, a, b, c, d, wd, s, rfl, hk.same s12, s12 _ _ h1, s12 _ _ h2, sa, sb, sc, sd, hz, br1, br2, fun H3 s3 => ?_⟩
      have s13 := s12.trans s3
      walk_at "rd"
      refine ⟨l1, a, b, r.2.1, rfl, s13 _ _ h1, sa.bb, br1, ?_⟩
      walk_at "rd"
      refine ⟨l2, c, d, r.2.1, rfl, s13 _ _ h2, sc.bb, br1, ?_⟩
      walk_at "rd"
      refine ⟨_, z, _, rfl, hz, ?_⟩
      walk_at "rd"
      cases he : relB z (a * r.2.1 + b) (c * r.2.1 + d) with
      | true =>
        rw [he, if_pos rfl] at part
        refine iteT ?_
        walk_at "rd"
        refine w_aug rfl ?_
        walk_at "rd"
        refine ⟨_, _, rfl, ?_⟩
        walk_at "rd"
        refine ⟨_, _, rfl, rfl, ?_⟩
        refine ⟨⟨some (.int r.2.1), some (.int r.2.2), some (.int (tot (cmP wd s z a b c d) r.2.1 r.2.2)), ?_⟩, s2.trans s3⟩
        rw [more, part]
        rfl
      | false =>
        rw [he, if_neg Bool.false_ne_true] at part
        refine iteF ?_
        walk_at "rd"
        refine w_aug rfl ?_
        walk_at "rd"
        refine ⟨_, _, rfl, rfl, ?_⟩
        refine ⟨⟨some (.int r.2.1), some (.int r.2.2), some (.int (tot (cmP wd s z a b c d) r.2.1 r.2.2)), ?_⟩, s2.trans s3⟩
        rw [more, part]
        rfl
    · rintro σ H' ⟨⟨v1, v2, v3, rfl⟩, s2⟩
      walk_at "rd"
      rw [List.length_map, List.take_length, PT.sum]
      exact k _ (s1.trans s2)
def sp_surprises (K : PySem.W.Frag) (C : Addr) (TS : List (Addr × Str)) : Sp := fun vs H Q _ => ∃ (kp l1 : Addr) (z : Str) (l2 : Addr) (first last : Int) (a b c d : Int) (wd : Nat) (s : Bool), vs = [.ref kp, .ref l1, .str z, .ref l2, .int first, .int last] ∧ Kd C H kp wd s ∧ H l1 = some (.tup [.int a, .int b]) ∧ H l2 = some (.tup [.int c, .int d]) ∧ SD a ∧ SD b ∧ SD c ∧ SD d ∧ Rel z ∧ SD first ∧ SD last ∧ ∀ H', Same H H' → Q (.int (tot (suP wd s z a b c d) first last)) H'
theorem ok_surprises {P : Program} {w : World} {K : PySem.W.Frag} {mg : Str → Option Value} {base : Heap} (T : Txt K mg) (B : TBs T base) : FnOk P w K mg base CX0 6 T.f_surprises T.fd_surprises ["kind", "one", "relation", "other", "first", "last"] (sp_surprises K T.C_Kind T.tabs) := by
  have G__check := ok__check (P := P) (w := w) (base := base) T B
  have G__surprises := ok__surprises (P := P) (w := w) (base := base) T B
  refine T.F_surprises.ok sc_surprises (fun vs H Q E h => ?_) (fun cdv A outer s H vs Q E hr h => ?_)
  · obtain ⟨kp, l1, z, l2, first, last, a, b, c, d, wd, s, rfl, _⟩ := h
    rfl
  · obtain ⟨kp, l1, z, l2, first, last, a, b, c, d, wd, s, rfl, h⟩ := h
    have hr__check : Room 5 _ := hr.mono (by decide)
    have hr__surprises : Room 5 _ := hr.mono (by decide)
    refine ⟨_, (pss_cons (ps_expr (pe_call G__check hr__check rfl T.g__check T.k__check T.b__check .nil pass0 (pa_cons (pv 0 (hv := Or.inl rfl)) (pa_cons (pv 1 (hv := Or.inl rfl)) (pa_cons (pv 2 (hv := Or.inl rfl)) (pa_cons (pv 3 (hv := Or.inl rfl)) (pa_cons (pv 4 (hv := Or.inl rfl)) (pa_cons (pv 5 (hv := Or.inl rfl)) pa_nil))))))))
      (pss_one (ps_ret (pe_call G__surprises hr__surprises rfl T.g__surprises T.k__surprises T.b__surprises .nil pass0 (pa_cons (pv 0 (hv := Or.inl rfl)) (pa_cons (pv 1 (hv := Or.inl rfl)) (pa_cons (pv 2 (hv := Or.inl rfl)) (pa_cons (pv 3 (hv := Or.inl rfl)) (pa_cons (pv 4 (hv := Or.inl rfl)) (pa_cons (pv 5 (hv := Or.inl rfl)) pa_nil)))))))))), ?_⟩
    try dsimp only [cxOf, Cx.nox, Cx.wish, Cx.blk]
    rw [show L2.start ["kind", "one", "relation", "other", "first", "last"] [.ref kp, .ref l1, .str z, .ref l2, .int first, .int last] = [some (.ref kp), some (.ref l1), some (.str z), some (.ref l2), some (.int first), some (.int last)] from rfl]
    obtain ⟨hk, h1, h2, sa, sb, sc, sd, hz, sf, sl, k⟩ := h
    walk_at "rd"
    refine ⟨kp, l1, z, l2, first, last, rfl, ⟨wd, s, hk⟩, ⟨a, b, c, d, h1, h2, sa, sb, sc, sd⟩, hz, sf, sl, ?_⟩
    walk_at "rd"
    exact ⟨kp, l1, z, l2, first, last, a, b, c, d, wd, s, rfl, hk, h1, h2, sa, sb, sc, sd, hz, sf, sl, k⟩
def sp_first_surprise (K : PySem.W.Frag) (C : Addr) (TS : List (Addr × Str)) : Sp := fun vs H Q _ => ∃ (kp l1 : Addr) (z : Str) (l2 : Addr) (first last : Int) (a b c d : Int) (wd : Nat) (s : Bool), vs = [.ref kp, .ref l1, .str z, .ref l2, .int first, .int last] ∧ Kd C H kp wd s ∧ H l1 = some (.tup [.int a, .int b]) ∧ H l2 = some (.tup [.int c, .int d]) ∧ SD a ∧ SD b ∧ SD c ∧ SD d ∧ Rel z ∧ SD first ∧ SD last ∧ LamX.Tabs TS H ∧ ∀ v H', FirstOf (suP wd s z a b c d) first last v → Sm TS H H' → Q v H'
theorem ok_first_surprise {P : Program} {w : World} {K : PySem.W.Frag} {mg : Str → Option Value} {base : Heap} (T : Txt K mg) (B : TBs T base) : FnOk P w K mg base CX0 17 T.f_first_surprise T.fd_first_surprise ["kind", "one", "relation", "other", "first", "last"] (sp_first_surprise K T.C_Kind T.tabs) := by
  have G__check := ok__check (P := P) (w := w) (base := base) T B
  have G__surprises := ok__surprises (P := P) (w := w) (base := base) T B
  have G_first_wanted := ok_first_wanted (P := P) (w := w) (base := base) T B
  refine T.F_first_surprise.ok sc_first_surprise (fun vs H Q E h => ?_) (fun A outer s H vs Q E hr h => ?_)
  · obtain ⟨kp, l1, z, l2, first, last, a, b, c, d, wd, s, rfl, _⟩ := h
    rfl
  · obtain ⟨kp, l1, z, l2, first, last, a, b, c, d, wd, s, rfl, h⟩ := h
    have hr__check : Room 5 _ := hr.mono (by decide)
    have hr__surprises : Room 5 _ := hr.mono (by decide)
    have hr_first_wanted : Room 16 _ := hr.mono (by decide)
    refine ⟨_, (pss_cons (ps_expr (pe_call G__check hr__check rfl T.g__check T.k__check T.b__check .nil pass0 (pa_cons (pv 0 (hv := Or.inr (Or.inl rfl))) (pa_cons (pv 1 (hv := Or.inr (Or.inl rfl))) (pa_cons (pv 2 (hv := Or.inr (Or.inl rfl))) (pa_cons (pv 3 (hv := Or.inr (Or.inl rfl))) (pa_cons (pv 4 (hv := Or.inr (Or.inl rfl))) (pa_cons (pv 5 (hv := Or.inl rfl)) pa_nil))))))))
      (pss_one (ps_ret (pe_lamC (T := T.tabs) (par := "end") (kb := 5) (C := (fun _ _ _ => False)) G_first_wanted hr_first_wanted rfl T.g_first_wanted T.k_first_wanted T.b_first_wanted B.tb_first_surprise rfl T.mT_first_surprise T.uT_first_surprise (lamP_by (sc := defScope s_first_surprise) (by decide +kernel)) (fun z => absurd (show ("end" : Str) ∈ (["kind", "one", "relation", "other", "first", "last"] : List Str) from z) (by decide +kernel)) rfl rfl (fun _ _ _ _ _ _ => rfl) (fun _ _ _ z => z.elim)
      (fun _ _ _ _ _ _ KN hrL => (pe_call G__surprises (hrL.mono (by decide)) rfl T.g__surprises T.k__surprises T.b__surprises .nil pass0 (pa_cons (pv 0 (hv := Or.inr (Or.inr rfl))) (pa_cons (pv 1 (hv := Or.inr (Or.inr rfl))) (pa_cons (pv 2 (hv := Or.inr (Or.inr rfl))) (pa_cons (pv 3 (hv := Or.inr (Or.inr rfl))) (pa_cons (pv 4 (hv := Or.inr (Or.inr rfl))) (pa_cons (pv 6 (hv := Or.inl rfl)) pa_nil)))))))) (pa_cons (pv 4 (hv := Or.inr (Or.inl rfl))) (pa_cons (pv 5 (hv := Or.inl rfl)) pa_nil)))))), ?_⟩
    try dsimp only [cxOf, Cx.nox, Cx.wish, Cx.blk]
    rw [show L2.start ["kind", "one", "relation", "other", "first", "last"] [.ref kp, .ref l1, .str z, .ref l2, .int first, .int last] = [some (.ref kp), some (.ref l1), some (.str z), some (.ref l2), some (.int first), some (.int last)] from rfl]
    obtain ⟨hk, h1, h2, sa, sb, sc, sd, hz, sf, sl, hT, k⟩ := h
    walk_at "rd"
    refine ⟨kp, l1, z, l2, first, last, rfl, ⟨wd, s, hk⟩, ⟨a, b, c, d, h1, h2, sa, sb, sc, sd⟩, hz, sf, sl, ?_⟩
    walk_at "rd"
    refine ⟨hT, fun fl c' H1 s1 hco => ?_⟩
    walk_at "rd"
    intro C' hC' hlam
    refine ⟨fl, first, last, suP wd s z a b c d, rfl, hlam 12 _ (by decide) (fun ws H3 Q3 zz => ?_), s1.2 hT, fun v H' hv s2 => k _ _ hv (s1.trans s2)⟩
    obtain ⟨e, rfl, e1, s3, q⟩ := zz
    refine ⟨_, rfl, s3.at hco, ?_⟩
    dsimp only [List.cons_append, List.nil_append]
    walk_at "rd"
    have se : SD e := by
      rcases e1 with e1 | ⟨e1, e2⟩
      · rw [e1]; exact sl
      · exact ⟨by have := sf.1; omega, by have := sl.2; omega⟩
    exact ⟨kp, l1, z, l2, first, e, a, b, c, d, wd, s, rfl, (hk.sm s1).sm s3, s3.at (s1.at h1), s3.at (s1.at h2), sa, sb, sc, sd, hz, sf, se, fun H4 s4 => q _ (Sm.of s4)⟩
def sp__law_deck (K : PySem.W.Frag) (C : Addr) (TS : List (Addr × Str)) : Sp := fun vs H Q _ => ∃ (c : Int), vs = [.int c] ∧ ∀ p H', H p = none → Same H H' → SrcN 3 H' p → Q (.ref p) H'
theorem ok__law_deck {P : Program} {w : World} {K : PySem.W.Frag} {mg : Str → Option Value} {base : Heap} (T : Txt K mg) (B : TBs T base) : FnOk P w K mg base CX0 1 T.f__law_deck T.fd__law_deck ["_law_cell"] (sp__law_deck K T.C_Kind T.tabs) := by
  refine T.F__law_deck.ok sc__law_deck (fun vs H Q E h => ?_) (fun cdv A outer s H vs Q E hr h => ?_)
  · obtain ⟨c, rfl, _⟩ := h
    rfl
  · obtain ⟨c, rfl, h⟩ := h
    refine ⟨_, (pss_one (ps_ret (pe_lst (pa_cons (pe_op op_mul (pv 0 (hv := Or.inl rfl)) (pe_callTy (T := "int") (r := rIntC) call_int1 (by rfl) T.n_int (by decide +kernel) (pa_cons (pe_cmpR op_ge (pv 0 (hv := Or.inl rfl)) (pe_op op_pow pe_int pe_int) (nomark _)) pa_nil))) (pa_cons (pe_op op_mod (pe_callTy (T := "int") (r := rIntC) call_int1 (by rfl) T.n_int (by decide +kernel) (pa_cons (pv 0 (hv := Or.inl rfl)) pa_nil)) pe_int) (pa_cons pe_int pa_nil)))))), ?_⟩
    try dsimp only [cxOf, Cx.nox, Cx.wish, Cx.blk]
    rw [show L2.start ["_law_cell"] [.int c] = [some (.int c)] from rfl]
    walk_at "rd"
    refine w_I (Or.inr ⟨by split <;> decide, by split <;> decide⟩) ?_
    walk_at "rd"
    refine ⟨by show 3 ≤ sizeLine; decide, fun p hp => ?_⟩
    have h1 := Int.emod_nonneg c (show (2147483587 : Int) ≠ 0 by decide)
    have h2 := Int.emod_lt_of_pos c (show (0 : Int) < 2147483587 by decide)
    exact h p _ hp (sm_new (Same.refl H) hp) ⟨_, _, _, upd_same, h1, by omega, by decide, by decide⟩
def sp__law_deal (K : PySem.W.Frag) (C : Addr) (TS : List (Addr × Str)) : Sp := fun vs H Q _ => ∃ (p : Addr) (m : Int) (n : Nat), vs = [.ref p, .int m] ∧ SrcN n H p ∧ n < 2 ^ 40 ∧ 0 < m ∧ m.natAbs < 2 ^ 8999 ∧ ∀ v H', 0 ≤ v → v < m → Kp p H H' → SrcN (n + 1) H' p → Q (.int v) H'
theorem ok__law_deal {P : Program} {w : World} {K : PySem.W.Frag} {mg : Str → Option Value} {base : Heap} (T : Txt K mg) (B : TBs T base) : FnOk P w K mg base CX0 1 T.f__law_deal T.fd__law_deal ["_law_deck_here", "_law_many"] (sp__law_deal K T.C_Kind T.tabs) := by
  refine T.F__law_deal.ok sc__law_deal (fun vs H Q E h => ?_) (fun cdv A outer s H vs Q E hr h => ?_)
  · obtain ⟨p, m, n, rfl, _⟩ := h
    rfl
  · obtain ⟨p, m, n, rfl, h⟩ := h
    refine ⟨_, (pss_cons (ps_if (pt_cmpR op_gt (pe_ix (r := rIxL K) ix_list (pv 0 (hv := Or.inl rfl)) pe_int (fun _ _ => rfl)) pe_int (nomark _)) (pss_cons (ps_set (i := 2) sc__law_deal.nd rfl (Or.inl rfl) (pe_op op_mod (pe_callTy (T := "int") (r := rIntC) call_int1 (by rfl) T.n_int (by decide +kernel) (pa_cons (pe_ix (r := rIxL K) ix_list (pv 0 (hv := Or.inl rfl)) pe_int (fun _ _ => rfl)) pa_nil)) (pv 1 (hv := Or.inl rfl))))
      (pss_cons (ps_asg (pe_op op_fdivW (pe_ix (r := rIxL K) ix_list (pv 0 (hv := Or.inl rfl)) pe_int (fun _ _ => rfl)) (pv 1 (hv := Or.inl rfl))) (pg_sub (pv 0 (hv := Or.inl rfl)) pe_int set_list))
      (pss_one (ps_ret (pv 2 (hv := Or.inl rfl)))))) pss_nil)
      (pss_cons (ps_asg (pe_op op_add (pe_ix (r := rIxL K) ix_list (pv 0 (hv := Or.inl rfl)) pe_int (fun _ _ => rfl)) pe_int) (pg_sub (pv 0 (hv := Or.inl rfl)) pe_int set_list))
      (pss_cons (ps_set (i := 3) sc__law_deal.nd rfl (Or.inl rfl) (pe_op op_mod (pe_callTy (T := "int") (r := rIntC) call_int1 (by rfl) T.n_int (by decide +kernel) (pa_cons (pe_op op_pow (pe_op op_add (pe_op op_add (pe_ix (r := rIxL K) ix_list (pv 0 (hv := Or.inl rfl)) pe_int (fun _ _ => rfl)) (pe_op op_mul pe_int (pe_ix (r := rIxL K) ix_list (pv 0 (hv := Or.inl rfl)) pe_int (fun _ _ => rfl)))) pe_int) pe_int) pa_nil)) pe_int))
      (pss_cons (ps_set (i := 3) sc__law_deal.nd rfl (Or.inl rfl) (pe_op op_mod (pe_callTy (T := "int") (r := rIntC) call_int1 (by rfl) T.n_int (by decide +kernel) (pa_cons (pe_op op_mul (pe_op op_add (pv 3 (hv := Or.inl rfl)) (pe_op op_mul pe_int (pe_ix (r := rIxL K) ix_list (pv 0 (hv := Or.inl rfl)) pe_int (fun _ _ => rfl)))) (pe_op op_add (pe_op op_fdiv (pv 3 (hv := Or.inl rfl)) pe_int) pe_int)) pa_nil)) pe_int))
      (pss_one (ps_ret (pe_op op_mod (pe_callTy (T := "int") (r := rIntC) call_int1 (by rfl) T.n_int (by decide +kernel) (pa_cons (pe_op op_fdiv (pe_op op_mod (pe_callTy (T := "int") (r := rIntC) call_int1 (by rfl) T.n_int (by decide +kernel) (pa_cons (pe_op op_mul (pv 3 (hv := Or.inl rfl)) (pe_op op_add (pe_op op_fdiv (pv 3 (hv := Or.inl rfl)) pe_int) pe_int)) pa_nil)) pe_int) pe_int) pa_nil)) (pv 1 (hv := Or.inl rfl))))))))), ?_⟩
    try dsimp only [cxOf, Cx.nox, Cx.wish, Cx.blk]
    rw [show L2.start ["_law_deck_here", "_law_many", "_law_card", "_law_mixed"] [.ref p, .int m] = [some (.ref p), some (.int m), none, none] from rfl]
    obtain ⟨⟨a, b, c, hp, b0, b1, c0, c1⟩, n40, h0, hb, k⟩ := h
    have fin : ∀ (x : Int) (H' : Hp), Kp p H H' → SrcN (n + 1) H' p → Q (.int (x % m)) H' := fun x H' a b => k _ _ (Int.emod_nonneg x (Int.ne_of_gt h0)) (Int.emod_lt_of_pos x h0) a b
    clear k
    walk_at "rd"
    refine w_dec (fun _ => ?_) (fun _ => ?_)
    · walk_at "rd"
      refine w_I h0 ?_
      walk_at "rd"
      refine w_I (wide_div h0 hb (by decide) (by decide)) ?_
      walk_at "rd"
      exact fin _ _ (Kp.refl p H).upd ⟨_, _, _, upd_same, b0, b1, c0, by omega⟩
    · have n40' : n < 1099511627776 := n40
      walk_at "rd"
      have hp1 : ∀ x : Int, 0 ≤ x % 2147483629 ∧ x % 2147483629 < 2147483629 := fun x => ⟨Int.emod_nonneg x (by decide), Int.emod_lt_of_pos x (by decide)⟩
      have hp2 : ∀ x : Int, 0 ≤ x % 2147483579 ∧ x % 2147483579 < 2147483579 := fun x => ⟨Int.emod_nonneg x (by decide), Int.emod_lt_of_pos x (by decide)⟩
      refine w_I (CC := CPow) ⟨by decide, by decide, by omega⟩ ?_
      walk_at "rd"
      refine w_I (CC := CMul) (Or.inr ⟨?_, ?_⟩) ?_
      · have := hp1 ((b + 70003 * (c + 1) + 5) ^ (3 : Int).toNat); omega
      · have := hp1 ((b + 70003 * (c + 1) + 5) ^ (3 : Int).toNat); omega
      walk_at "rd"
      refine w_I (CC := CMul) (Or.inl ⟨Int.lt_of_lt_of_le (by decide) (hp2 _).1, Int.lt_trans (hp2 _).2 (by decide)⟩) ?_
      walk_at "rd"
      refine w_I h0 ?_
      walk_at "rd"
      exact fin _ _ (Kp.refl p H).upd ⟨_, _, _, upd_same, b0, b1, by omega, by omega⟩
def sp__law_choice (K : PySem.W.Frag) (C : Addr) (TS : List (Addr × Str)) : Sp := fun vs H Q _ => ∃ (p l : Addr) (n : Nat) (xs : List V), vs = [.ref p, .ref l] ∧ SrcN n H p ∧ n < 2 ^ 40 ∧ H l = some (.lst xs) ∧ l ≠ p ∧ 0 < xs.length ∧ xs.length ≤ 1000 ∧ ∀ v H', v ∈ xs → Kp p H H' → SrcN (n + 1) H' p → Q v H'
theorem ok__law_choice {P : Program} {w : World} {K : PySem.W.Frag} {mg : Str → Option Value} {base : Heap} (T : Txt K mg) (B : TBs T base) : FnOk P w K mg base CX0 2 T.f__law_choice T.fd__law_choice ["_law_deck_here", "_law_some_here"] (sp__law_choice K T.C_Kind T.tabs) := by
  have G__law_deal := ok__law_deal (P := P) (w := w) (base := base) T B
  refine T.F__law_choice.ok sc__law_choice (fun vs H Q E h => ?_) (fun cdv A outer s H vs Q E hr h => ?_)
  · obtain ⟨p, l, n, xs, rfl, _⟩ := h
    rfl
  · obtain ⟨p, l, n, xs, rfl, h⟩ := h
    have hr__law_deal : Room 1 _ := hr.mono (by decide)
    refine ⟨_, (pss_one (ps_ret (pe_ix (r := rIxL K) ix_list (pv 1 (hv := Or.inl rfl)) (pe_call G__law_deal hr__law_deal rfl T.g__law_deal T.k__law_deal T.b__law_deal .nil pass0 (pa_cons (pv 0 (hv := Or.inl rfl)) (pa_cons (pe_callB (id := "len") (r := rLenS K) call_len_seq (by rfl) T.n_len (by decide +kernel) (pa_cons (pv 1 (hv := Or.inl rfl)) pa_nil)) pa_nil))) (fun _ _ => rfl)))), ?_⟩
    try dsimp only [cxOf, Cx.nox, Cx.wish, Cx.blk]
    rw [show L2.start ["_law_deck_here", "_law_some_here"] [.ref p, .ref l] = [some (.ref p), some (.ref l)] from rfl]
    obtain ⟨hs, n40, hl, hn, n0, n1, k⟩ := h
    walk_at "rd"
    refine w_len hl ?_
    walk_at "rd"
    refine ⟨p, _, n, rfl, hs, n40, by omega, Nat.lt_trans (show ((xs.length : Nat) : Int).natAbs < 2 ^ 10 by omega) (Nat.pow_lt_pow_right (by decide) (by decide)), fun v H' h1 h2 kp hs' => ?_⟩
    obtain ⟨j, rfl⟩ := Int.eq_ofNat_of_zero_le h1
    have hj : j < xs.length := by omega
    refine w_ixL (kp _ _ hn hl) (atI_nat (v := xs[j]) (List.getElem?_eq_getElem hj)) ?_
    exact k _ _ (List.getElem_mem hj) kp hs'
def sp__law_great (K : PySem.W.Frag) (C : Addr) (TS : List (Addr × Str)) : Sp := fun vs H Q _ => ∃ (p : Addr) (m : Int) (n : Nat), vs = [.ref p, .int m] ∧ SrcN n H p ∧ n + 100 < 2 ^ 40 ∧ 0 < m ∧ m.natAbs < 2 ^ 2800 ∧ ∀ v H', 0 ≤ v → v < m → Kp p H H' → SrcN (n + 100) H' p → Q (.int v) H'
theorem ok__law_great {P : Program} {w : World} {K : PySem.W.Frag} {mg : Str → Option Value} {base : Heap} (T : Txt K mg) (B : TBs T base) : FnOk P w K mg base CX0 2 T.f__law_great T.fd__law_great ["_law_deck_here", "_law_most"] (sp__law_great K T.C_Kind T.tabs) := by
  have G__law_deal := ok__law_deal (P := P) (w := w) (base := base) T B
  refine T.F__law_great.ok sc__law_great (fun vs H Q E h => ?_) (fun cdv A outer s H vs Q E hr h => ?_)
  · obtain ⟨p, m, n, rfl, _⟩ := h
    rfl
  · obtain ⟨p, m, n, rfl, h⟩ := h
    have hr__law_deal : Room 1 _ := hr.mono (by decide)
    refine ⟨_, (pss_cons (ps_set (i := 2) sc__law_great.nd rfl (Or.inl rfl) pe_int)
      (pss_cons (ps_for PassesOwn.never rfl (pi_range1 (by rfl) T.n_range (pa_cons (pe_op op_add (pe_op op_fdiv (pe_bits (pv 1 (hv := Or.inl rfl))) pe_int) pe_int) pa_nil)) (pg_name (i := 3) sc__law_great.nd rfl (Or.inl rfl))
        (pss_one (ps_set (i := 2) sc__law_great.nd rfl (Or.inl rfl) (pe_op op_add (pe_op op_mul (pv 2 (hv := Or.inl rfl)) (pe_op op_pow pe_int pe_int)) (pe_call G__law_deal hr__law_deal rfl T.g__law_deal T.k__law_deal T.b__law_deal .nil pass0 (pa_cons (pv 0 (hv := Or.inl rfl)) (pa_cons (pe_op op_pow pe_int pe_int) pa_nil)))))))
      (pss_one (ps_ret (pe_op op_mod (pe_callTy (T := "int") (r := rIntC) call_int1 (by rfl) T.n_int (by decide +kernel) (pa_cons (pv 2 (hv := Or.inl rfl)) pa_nil)) (pv 1 (hv := Or.inl rfl))))))), ?_⟩
    try dsimp only [cxOf, Cx.nox, Cx.wish, Cx.blk]
    rw [show L2.start ["_law_deck_here", "_law_most", "_law_found", "_law_turn"] [.ref p, .int m] = [some (.ref p), some (.int m), none, none] from rfl]
    obtain ⟨hs, n40, h0, hb, k⟩ := h
    have bb := PyProof.Rows.intBits_le hb
    walk_at "rd"
    refine ⟨_, rfl, by omega, by omega, for_range (lo := 0) (n := ((Builtin.Int.intBits m : Int) / 29 + 1).toNat) (fun i σ H' => ∃ (f : Int) (v : Option V), σ = [some (.ref p), some (.int m), some (.int f), v] ∧ Kp p H H' ∧ SrcN (n + i) H' p) ⟨0, none, rfl, Kp.refl p H, hs⟩ ?_ ?_⟩
    · rintro i σ H' hi ⟨f, v, rfl, kp, hs'⟩
      walk_at "rd"
      refine ⟨p, _, n + i, rfl, hs', by omega, by decide, Nat.lt_of_lt_of_le (show ((10 : Int) ^ (9 : Int).toNat).natAbs < 2 ^ 32 by decide) (Nat.pow_le_pow_right (by decide) (by decide)), fun v1 H1 _ _ kp1 hs1 => ?_⟩
      walk_at "rd"
      exact ⟨_, _, rfl, kp.trans kp1, hs1⟩
    · rintro σ H' ⟨f, v, rfl, kp, hs'⟩
      walk_at "rd"
      refine w_I h0 ?_
      walk_at "rd"
      exact k _ _ (Int.emod_nonneg _ (Int.ne_of_gt h0)) (Int.emod_lt_of_pos _ h0) kp (hs'.le (by omega))
def sp__law_near (K : PySem.W.Frag) (C : Addr) (TS : List (Addr × Str)) : Sp := fun vs H Q _ => ∃ (p : Addr) (n : Nat), vs = [.ref p] ∧ SrcN n H p ∧ n + 2 < 2 ^ 40 ∧ ∀ (t kx : Addr) (wd : Nat) (s : Bool) H', 1 ≤ wd → wd ≤ 8 → Kd C H' kx wd s → kx ≠ p → H' t = some (.tup [.ref kx, .int (loK wd s), .int (2 ^ wd)]) → Kp p H H' → SrcN (n + 2) H' p → Q (.ref t) H'
theorem ok__law_near {P : Program} {w : World} {K : PySem.W.Frag} {mg : Str → Option Value} {base : Heap} (T : Txt K mg) (B : TBs T base) : FnOk P w K mg base CX0 4 T.f__law_near T.fd__law_near ["_law_deck_here"] (sp__law_near K T.C_Kind T.tabs) := by
  have G_Kind___init__ := ok_Kind___init__ (P := P) (w := w) (base := base) T B
  have G__law_deal := ok__law_deal (P := P) (w := w) (base := base) T B
  refine T.F__law_near.ok sc__law_near (fun vs H Q E h => ?_) (fun cdv A outer s H vs Q E hr h => ?_)
  · obtain ⟨p, n, rfl, _⟩ := h
    rfl
  · obtain ⟨p, n, rfl, h⟩ := h
    have hr_Kind___init__ : Room 3 _ := hr.mono (by decide)
    have hr__law_deal : Room 1 _ := hr.mono (by decide)
    refine ⟨_, (pss_cons (ps_par rfl sc__law_near.nd (i := 1) (j := 2) rfl rfl (by decide) rfl rfl (pa_cons (pe_op op_add pe_int (pe_call G__law_deal hr__law_deal rfl T.g__law_deal T.k__law_deal T.b__law_deal .nil pass0 (pa_cons (pv 0 (hv := Or.inl rfl)) (pa_cons pe_int pa_nil)))) (pa_cons (pe_cmpR op_eq (pe_call G__law_deal hr__law_deal rfl T.g__law_deal T.k__law_deal T.b__law_deal .nil pass0 (pa_cons (pv 0 (hv := Or.inl rfl)) (pa_cons pe_int pa_nil))) pe_int (nomark _)) pa_nil)) (by rfl))
      (pss_cons (ps_set (i := 3) sc__law_near.nd rfl (Or.inl rfl) (pe_op op_shl pe_int (pv 1 (hv := Or.inl rfl))))
      (pss_one (ps_ret (pe_tup (pa_cons (pe_make T.mk_Kind G_Kind___init__ hr_Kind___init__ rfl T.g_Kind T.b_Kind___init__ .nil pass0 (pa_cons (pv 1 (hv := Or.inl rfl)) (pa_cons (pv 2 (hv := Or.inl rfl)) pa_nil))) (pa_cons (pe_op op_sub pe_int (pe_op op_mul (pe_op op_fdiv (pv 3 (hv := Or.inl rfl)) pe_int) (pe_callTy (T := "int") (r := rIntC) call_int1 (by rfl) T.n_int (by decide +kernel) (pa_cons (pv 2 (hv := Or.inl rfl)) pa_nil)))) (pa_cons (pv 3 (hv := Or.inl rfl)) pa_nil)))))))), ?_⟩
    try dsimp only [cxOf, Cx.nox, Cx.wish, Cx.blk]
    rw [show L2.start ["_law_deck_here", "_law_bits", "_law_is_signed", "_law_size"] [.ref p] = [some (.ref p), none, none, none] from rfl]
    obtain ⟨hs, n40, k⟩ := h
    walk_at "rd"
    refine ⟨p, _, n, rfl, hs, by omega, by decide, b89 (bb_sm (by decide) (by decide)), fun v1 H1 v10 v11 kp1 hs1 => ?_⟩
    walk_at "rd"
    refine ⟨p, _, _, rfl, hs1, by omega, by decide, b89 (bb_sm (by decide) (by decide)), fun v2 H2 v20 v21 kp2 hs2 => ?_⟩
    obtain ⟨wd, hwd⟩ : ∃ wd : Nat, 1 + v1 = (wd : Int) := ⟨(1 + v1).toNat, by omega⟩
    obtain ⟨s, hsg⟩ : ∃ s : Bool, s = decide (v2 = 1) := ⟨_, rfl⟩
    walk_at "rd"
    rw [hwd, ← hsg]
    refine w_I (cpow (n := 1) (by omega) (by decide)) ?_
    rw [Int.toNat_natCast, Int.one_mul]
    walk_at "rd"
    intro kx dx nx ndx nex
    refine ⟨kx, wd, s, rfl, ⟨dx, upd_same⟩, by omega, by omega, fun H3 hk kp3 => ⟨rfl, ?_⟩⟩
    have sm3 := mk_same nx ndx kp3
    walk_at "rd"
    refine w_I (CC := CMul) (Or.inr ⟨by split <;> decide, by split <;> decide⟩) ?_
    walk_at "rd"
    rw [lo_val (by omega) s]
    refine ⟨by show 3 ≤ sizeLine; decide, fun t ht => ?_⟩
    exact k t kx wd s _ (by omega) (by omega) (hk.same (sm_new (Same.refl H3) ht)) (hs2.ne nx) upd_same (((kp1.trans kp2).trans (Kp.of_same sm3)).new ht) ((hs2.same sm3).new ht)
def sp__law_some (K : PySem.W.Frag) (C : Addr) (TS : List (Addr × Str)) : Sp := fun vs H Q _ => ∃ (p : Addr) (m : Int) (n : Nat), vs = [.ref p, .int m] ∧ SrcN n H p ∧ n + 110 < 2 ^ 40 ∧ 0 < m ∧ m ≤ 10 ^ 57 ∧ ∀ v H', -(10 ^ 59) < v → v < 10 ^ 59 → Kp p H H' → SrcN (n + 110) H' p → Q (.int v) H'
theorem ok__law_some {P : Program} {w : World} {K : PySem.W.Frag} {mg : Str → Option Value} {base : Heap} (T : Txt K mg) (B : TBs T base) : FnOk P w K mg base CX0 3 T.f__law_some T.fd__law_some ["_law_deck_here", "_law_size"] (sp__law_some K T.C_Kind T.tabs) := by
  have G__law_choice := ok__law_choice (P := P) (w := w) (base := base) T B
  have G__law_deal := ok__law_deal (P := P) (w := w) (base := base) T B
  have G__law_great := ok__law_great (P := P) (w := w) (base := base) T B
  refine T.F__law_some.ok sc__law_some (fun vs H Q E h => ?_) (fun cdv A outer s H vs Q E hr h => ?_)
  · obtain ⟨p, m, n, rfl, _⟩ := h
    rfl
  · obtain ⟨p, m, n, rfl, h⟩ := h
    have hr__law_choice : Room 2 _ := hr.mono (by decide)
    have hr__law_deal : Room 1 _ := hr.mono (by decide)
    have hr__law_great : Room 2 _ := hr.mono (by decide)
    refine ⟨_, (pss_cons (ps_set (i := 2) sc__law_some.nd rfl (Or.inl rfl) (pe_call G__law_choice hr__law_choice rfl T.g__law_choice T.k__law_choice T.b__law_choice .nil pass0 (pa_cons (pv 0 (hv := Or.inl rfl)) (pa_cons (pe_lst (pa_cons (pe_call G__law_deal hr__law_deal rfl T.g__law_deal T.k__law_deal T.b__law_deal .nil pass0 (pa_cons (pv 0 (hv := Or.inl rfl)) (pa_cons pe_int pa_nil))) (pa_cons (pe_op op_sub (pe_op op_add (pe_op op_mul (pv 1 (hv := Or.inl rfl)) (pe_call G__law_deal hr__law_deal rfl T.g__law_deal T.k__law_deal T.b__law_deal .nil pass0 (pa_cons (pv 0 (hv := Or.inl rfl)) (pa_cons pe_int pa_nil)))) (pe_call G__law_deal hr__law_deal rfl T.g__law_deal T.k__law_deal T.b__law_deal .nil pass0 (pa_cons (pv 0 (hv := Or.inl rfl)) (pa_cons pe_int pa_nil)))) pe_int) pa_nil))) pa_nil))))
      (pss_cons (ps_set (i := 2) sc__law_some.nd rfl (Or.inl rfl) (pe_call G__law_choice hr__law_choice rfl T.g__law_choice T.k__law_choice T.b__law_choice .nil pass0 (pa_cons (pv 0 (hv := Or.inl rfl)) (pa_cons (pe_lst (pa_cons (pv 2 (hv := Or.inl rfl)) (pa_cons (pv 2 (hv := Or.inl rfl)) (pa_cons (pe_call G__law_great hr__law_great rfl T.g__law_great T.k__law_great T.b__law_great .nil pass0 (pa_cons (pv 0 (hv := Or.inl rfl)) (pa_cons (pe_op op_pow pe_int pe_int) pa_nil))) pa_nil)))) pa_nil))))
      (pss_one (ps_ret (pe_op op_mul (pv 2 (hv := Or.inl rfl)) (pe_call G__law_choice hr__law_choice rfl T.g__law_choice T.k__law_choice T.b__law_choice .nil pass0 (pa_cons (pv 0 (hv := Or.inl rfl)) (pa_cons (pe_lst (pa_cons pe_int (pa_cons (pe_un un_neg pe_int) pa_nil))) pa_nil)))))))), ?_⟩
    try dsimp only [cxOf, Cx.nox, Cx.wish, Cx.blk]
    rw [show L2.start ["_law_deck_here", "_law_size", "_law_many"] [.ref p, .int m] = [some (.ref p), some (.int m), none] from rfl]
    obtain ⟨hs, n40, m0, m1, k⟩ := h
    have p57 : (10 : Int) ^ 57 * 10 < 10 ^ 59 := by decide +kernel
    have p58 : (1000 : Int) < 10 ^ 57 := by decide +kernel
    have p59 : (10 : Int) ^ 59 < 10 ^ 62 := by decide +kernel
    have bm : BB m := bb_ten (by omega) (by omega)
    walk_at "rd"
    refine ⟨p, _, n, rfl, hs, by omega, by decide, b89 (bb_sm (by decide) (by decide)), fun v1 H1 v10 v11 kp1 hs1 => ?_⟩
    walk_at "rd"
    refine ⟨p, _, _, rfl, hs1, by omega, by decide, b89 (bb_sm (by decide) (by decide)), fun v2 H2 v20 v21 kp2 hs2 => ?_⟩
    walk_at "rd"
    have mv : 0 ≤ m * v2 ∧ m * v2 ≤ m * 4 := ⟨Int.mul_nonneg (by omega) (by omega), Int.mul_le_mul_of_nonneg_left (by omega) (by omega)⟩
    refine w_I (CC := CMul) (Or.inr ⟨by omega, by omega⟩) ?_
    walk_at "rd"
    refine ⟨p, _, _, rfl, hs2, by omega, by decide, b89 (bb_sm (by decide) (by decide)), fun v3 H3 v30 v31 kp3 hs3 => ?_⟩
    walk_at "rd"
    refine ⟨by show 2 ≤ sizeLine; decide, fun c1 hc1 => ?_⟩
    walk_at "rd"
    refine ⟨p, c1, _, _, rfl, hs3.new hc1, by omega, upd_same, hs3.ne hc1, by simp, by simp, fun v H4 hv kp4 hs4 => ?_⟩
    obtain ⟨u, rfl, u0, u1⟩ : ∃ u : Int, v = .int u ∧ -3 < u ∧ u < 10 ^ 59 := by
      rcases List.mem_cons.mp hv with e | e
      · exact ⟨v1, e, by omega, by omega⟩
      · exact ⟨_, List.mem_singleton.mp e, by omega, by omega⟩
    walk_at "rd"
    refine ⟨p, _, _, rfl, hs4, by omega, by decide +kernel, b28 (bb_ten (by decide +kernel) (by decide +kernel)), fun v5 H5 v50 v51 kp5 hs5 => ?_⟩
    have v51 : v5 < 10 ^ 59 := v51
    walk_at "rd"
    refine ⟨by show 3 ≤ sizeLine; decide, fun c2 hc2 => ?_⟩
    walk_at "rd"
    refine ⟨p, c2, _, _, rfl, hs5.new hc2, by omega, upd_same, hs5.ne hc2, by simp, by simp, fun v H6 hv kp6 hs6 => ?_⟩
    obtain ⟨g, rfl, g0, g1⟩ : ∃ g : Int, v = .int g ∧ -3 < g ∧ g < 10 ^ 59 := by
      rcases List.mem_cons.mp hv with e | e
      · exact ⟨u, e, by omega, by omega⟩
      · rcases List.mem_cons.mp e with e | e
        · exact ⟨u, e, by omega, by omega⟩
        · exact ⟨v5, List.mem_singleton.mp e, by omega, by omega⟩
    walk_at "rd"
    refine ⟨by show 2 ≤ sizeLine; decide, fun c3 hc3 => ?_⟩
    walk_at "rd"
    refine ⟨p, c3, _, _, rfl, hs6.new hc3, by omega, upd_same, hs6.ne hc3, by simp, by simp, fun v H7 hv kp7 hs7 => ?_⟩
    have fin : Kp p H H7 := ((((kp1.trans kp2).trans (kp3.new hc1)).trans kp4).trans ((kp5.new hc2).trans kp6)).trans (((Kp.refl p H6).new hc3).trans kp7)
    rcases List.mem_cons.mp hv with e | e
    · subst e
      refine w_I (CC := CMul) (Or.inr ⟨by decide, by decide⟩) ?_
      rw [Int.mul_one]
      exact k _ _ (by omega) g1 fin (hs7.le (by omega))
    · rw [List.mem_singleton.mp e]
      refine w_I (CC := CMul) (Or.inr ⟨by decide, by decide⟩) ?_
      rw [show g * -1 = -g by omega]
      exact k _ _ (by omega) (by omega) fin (hs7.le (by omega))
def sp__law_is_so (K : PySem.W.Frag) (C : Addr) (TS : List (Addr × Str)) : Sp := fun vs H Q _ => ∃ (z : Str) (g : Int), vs = [.str z, .int g] ∧ Rel z ∧ ∀ H', Sm TS H H' → Q (.bl (relB z g 0)) H'
theorem ok__law_is_so {P : Program} {w : World} {K : PySem.W.Frag} {mg : Str → Option Value} {base : Heap} (T : Txt K mg) (B : TBs T base) : FnOk P w K mg base CX0 1 T.f__law_is_so T.fd__law_is_so ["_law_word", "_law_gap"] (sp__law_is_so K T.C_Kind T.tabs) := by
  refine T.F__law_is_so.ok sc__law_is_so (fun vs H Q E h => ?_) (fun cdv A outer s H vs Q E hr h => ?_)
  · obtain ⟨z, g, rfl, _⟩ := h
    rfl
  · obtain ⟨z, g, rfl, h⟩ := h
    refine ⟨_, (pss_cons (ps_if (pt_cmpR op_eq (pv 1 (hv := Or.inl rfl)) pe_int (nomark _)) (pss_one (ps_ret (pe_cmpR op_in_seq (pv 0 (hv := Or.inl rfl)) (pe_tup (pa_cons pe_str (pa_cons pe_str (pa_cons pe_str pa_nil)))) (by rfl)))) pss_nil)
      (pss_one (ps_ret (pe_cmpR op_in_seq (pv 0 (hv := Or.inl rfl)) (pe_ifExp (pt_cmpR op_lt (pv 1 (hv := Or.inl rfl)) pe_int (nomark _)) (pe_tup (pa_cons pe_str (pa_cons pe_str (pa_cons pe_str pa_nil)))) (pe_tup (pa_cons pe_str (pa_cons pe_str (pa_cons pe_str pa_nil))))) (by rfl))))), ?_⟩
    try dsimp only [cxOf, Cx.nox, Cx.wish, Cx.blk]
    rw [show L2.start ["_law_word", "_law_gap"] [.str z, .int g] = [some (.str z), some (.int g)] from rfl]
    obtain ⟨hz, k⟩ := h
    walk_at "rd"
    refine w_dec (fun c => ?_) (fun c => ?_)
    · subst c
      walk_at "rd"
      refine ⟨by show 3 ≤ sizeLine; decide, fun t ht => ?_⟩
      refine w_inT (SqT.of upd_same) rfl (by decide +kernel) ?_
      rw [is0 hz]
      exact k _ ((Sm.refl H).new ht)
    · walk_at "rd"
      refine w_if ?_
      walk_at "rd"
      refine w_dec (fun c2 => ?_) (fun c2 => ?_)
      · walk_at "rd"
        refine ⟨by show 3 ≤ sizeLine; decide, fun t ht => ?_⟩
        refine w_inT (SqT.of upd_same) rfl (by decide +kernel) ?_
        rw [is1 hz c2]
        exact k _ ((Sm.refl H).new ht)
      · walk_at "rd"
        refine ⟨by show 3 ≤ sizeLine; decide, fun t ht => ?_⟩
        refine w_inT (SqT.of upd_same) rfl (by decide +kernel) ?_
        rw [is2 (g := g) hz (by omega)]
        exact k _ ((Sm.refl H).new ht)
def sp__law_right (K : PySem.W.Frag) (C : Addr) (TS : List (Addr × Str)) : Sp := fun vs H Q _ => ∃ (p : Addr) (n : Nat), vs = [.ref p] ∧ SrcN n H p ∧ n < 2 ^ 38 ∧ LamX.Tabs TS H ∧ ∀ H', Kq TS p H H' → SrcN (n + 2000) H' p → Q (.bl true) H'
theorem ok__law_right {P : Program} {w : World} {K : PySem.W.Frag} {mg : Str → Option Value} {base : Heap} (T : Txt K mg) (B : TBs T base) : FnOk P w K mg base CX0 18 T.f__law_right T.fd__law_right ["_law_deck_here"] (sp__law_right K T.C_Kind T.tabs) := by
  have G__law_deal := ok__law_deal (P := P) (w := w) (base := base) T B
  have G__law_is_so := ok__law_is_so (P := P) (w := w) (base := base) T B
  have G__law_near := ok__law_near (P := P) (w := w) (base := base) T B
  have G__law_some := ok__law_some (P := P) (w := w) (base := base) T B
  have G_first_surprise := ok_first_surprise (P := P) (w := w) (base := base) T B
  have G_surprises := ok_surprises (P := P) (w := w) (base := base) T B
  refine T.F__law_right.ok sc__law_right (fun vs H Q E h => ?_) (fun cdv A outer s H vs Q E hr h => ?_)
  · obtain ⟨p, n, rfl, _⟩ := h
    rfl
  · obtain ⟨p, n, rfl, h⟩ := h
    have hr__law_deal : Room 1 _ := hr.mono (by decide)
    have hr__law_is_so : Room 1 _ := hr.mono (by decide)
    have hr__law_near : Room 4 _ := hr.mono (by decide)
    have hr__law_some : Room 3 _ := hr.mono (by decide)
    have hr_first_surprise : Room 17 _ := hr.mono (by decide)
    have hr_surprises : Room 6 _ := hr.mono (by decide)
    refine ⟨_, (pss_cons (ps_asg (pe_call G__law_near hr__law_near rfl T.g__law_near T.k__law_near T.b__law_near .nil pass0 (pa_cons (pv 0 (hv := Or.inl rfl)) pa_nil)) (pg_tup rfl (pgs_cons (pg_name (i := 1) sc__law_right.nd rfl (Or.inl rfl)) (pgs_cons (pg_name (i := 2) sc__law_right.nd rfl (Or.inr rfl)) (pgs_cons (pg_name (i := 3) sc__law_right.nd rfl (Or.inr rfl)) pgs_nil)))))
      (pss_cons (ps_set (i := 4) sc__law_right.nd rfl (Or.inl rfl) (pe_call G__law_some hr__law_some rfl T.g__law_some T.k__law_some T.b__law_some .nil pass0 (pa_cons (pv 0 (hv := Or.inl rfl)) (pa_cons (pv 3 (hv := Or.inr (Or.inl rfl))) pa_nil))))
      (pss_cons (ps_par rfl sc__law_right.nd (i := 5) (j := 6) rfl rfl (by decide) rfl rfl (pa_cons (pe_tup (pa_cons (pe_call G__law_some hr__law_some rfl T.g__law_some T.k__law_some T.b__law_some .nil pass0 (pa_cons (pv 0 (hv := Or.inl rfl)) (pa_cons (pv 3 (hv := Or.inr (Or.inl rfl))) pa_nil))) (pa_cons (pe_call G__law_some hr__law_some rfl T.g__law_some T.k__law_some T.b__law_some .nil pass0 (pa_cons (pv 0 (hv := Or.inl rfl)) (pa_cons (pv 3 (hv := Or.inr (Or.inl rfl))) pa_nil))) pa_nil))) (pa_cons (pe_tup (pa_cons (pe_call G__law_some hr__law_some rfl T.g__law_some T.k__law_some T.b__law_some .nil pass0 (pa_cons (pv 0 (hv := Or.inl rfl)) (pa_cons (pv 3 (hv := Or.inr (Or.inl rfl))) pa_nil))) (pa_cons (pe_call G__law_some hr__law_some rfl T.g__law_some T.k__law_some T.b__law_some .nil pass0 (pa_cons (pv 0 (hv := Or.inl rfl)) (pa_cons (pv 3 (hv := Or.inr (Or.inl rfl))) pa_nil))) pa_nil))) pa_nil)) (by rfl))
      (pss_cons (ps_if (pt_cmpR op_eq (pe_call G__law_deal hr__law_deal rfl T.g__law_deal T.k__law_deal T.b__law_deal .nil pass0 (pa_cons (pv 0 (hv := Or.inl rfl)) (pa_cons pe_int pa_nil))) pe_int (nomark _)) (pss_cons (ps_par rfl sc__law_right.nd (i := 7) (j := 8) rfl rfl (by decide) rfl rfl (pa_cons (pe_op op_add (pv 4 (hv := Or.inl rfl)) (pe_call G__law_deal hr__law_deal rfl T.g__law_deal T.k__law_deal T.b__law_deal .nil pass0 (pa_cons (pv 0 (hv := Or.inl rfl)) (pa_cons pe_int pa_nil)))) (pa_cons (pe_op op_sub (pe_call G__law_deal hr__law_deal rfl T.g__law_deal T.k__law_deal T.b__law_deal .nil pass0 (pa_cons (pv 0 (hv := Or.inl rfl)) (pa_cons pe_int pa_nil))) pe_int) pa_nil)) (by rfl))
      (pss_cons (ps_set (i := 5) sc__law_right.nd rfl (Or.inl rfl) (pe_tup (pa_cons (pe_op op_sub (pe_call G__law_deal hr__law_deal rfl T.g__law_deal T.k__law_deal T.b__law_deal .nil pass0 (pa_cons (pv 0 (hv := Or.inl rfl)) (pa_cons pe_int pa_nil))) pe_int) (pa_cons (pe_op op_fdivW (pe_call G__law_some hr__law_some rfl T.g__law_some T.k__law_some T.b__law_some .nil pass0 (pa_cons (pv 0 (hv := Or.inl rfl)) (pa_cons (pe_op op_mul (pv 3 (hv := Or.inr (Or.inl rfl))) pe_int) pa_nil))) (pe_op op_pow pe_int pe_int)) pa_nil))))
      (pss_cons (ps_set (i := 6) sc__law_right.nd rfl (Or.inl rfl) (pe_tup (pa_cons (pv 8 (hv := Or.inl rfl)) (pa_cons (pe_op op_sub (pe_op op_add (pe_op op_add (pe_op op_mulX (pe_op op_sub (pe_ix (r := rIxT K) ix_tup (pv 5 (hv := Or.inl rfl)) pe_int (fun _ _ => rfl)) (pv 8 (hv := Or.inl rfl))) (pv 7 (hv := Or.inl rfl))) (pe_ix (r := rIxT K) ix_tup (pv 5 (hv := Or.inl rfl)) pe_int (fun _ _ => rfl))) (pe_call G__law_deal hr__law_deal rfl T.g__law_deal T.k__law_deal T.b__law_deal .nil pass0 (pa_cons (pv 0 (hv := Or.inl rfl)) (pa_cons pe_int pa_nil)))) pe_int) pa_nil))))
      (pss_cons (ps_set (i := 4) sc__law_right.nd rfl (Or.inl rfl) (pe_ifExp (pt_cmpR op_lt (pe_callB (id := "max") (r := rmax2C) (call_max2 rfl) (by rfl) T.n_max (by decide +kernel) (pa_cons (pe_callB (id := "abs") (r := rAbsC) call_abs (by rfl) T.n_abs (by decide +kernel) (pa_cons (pe_ix (r := rIxT K) ix_tup (pv 5 (hv := Or.inl rfl)) pe_int (fun _ _ => rfl)) pa_nil)) (pa_cons (pe_callB (id := "abs") (r := rAbsC) call_abs (by rfl) T.n_abs (by decide +kernel) (pa_cons (pe_ix (r := rIxT K) ix_tup (pv 6 (hv := Or.inl rfl)) pe_int (fun _ _ => rfl)) pa_nil)) pa_nil))) (pe_op op_pow pe_int pe_int) (nomark _)) (pv 4 (hv := Or.inl rfl)) pe_int))
      (pss_one (ps_set (i := 6) sc__law_right.nd rfl (Or.inl rfl) (pe_ifExp (pt_cmpR op_lt (pe_callB (id := "max") (r := rmax2C) (call_max2 rfl) (by rfl) T.n_max (by decide +kernel) (pa_cons (pe_callB (id := "abs") (r := rAbsC) call_abs (by rfl) T.n_abs (by decide +kernel) (pa_cons (pe_ix (r := rIxT K) ix_tup (pv 5 (hv := Or.inl rfl)) pe_int (fun _ _ => rfl)) pa_nil)) (pa_cons (pe_callB (id := "abs") (r := rAbsC) call_abs (by rfl) T.n_abs (by decide +kernel) (pa_cons (pe_ix (r := rIxT K) ix_tup (pv 6 (hv := Or.inl rfl)) pe_int (fun _ _ => rfl)) pa_nil)) pa_nil))) (pe_op op_pow pe_int pe_int) (nomark _)) (pv 6 (hv := Or.inl rfl)) (pv 5 (hv := Or.inl rfl))))))))) pss_nil)
      (pss_cons (ps_set (i := 9) sc__law_right.nd rfl (Or.inl rfl) (pe_op op_sub (pe_op op_add (pv 4 (hv := Or.inl rfl)) (pe_call G__law_deal hr__law_deal rfl T.g__law_deal T.k__law_deal T.b__law_deal .nil pass0 (pa_cons (pv 0 (hv := Or.inl rfl)) (pa_cons pe_int pa_nil)))) pe_int))
      (pss_cons (ps_set (i := 10) sc__law_right.nd rfl (Or.inl rfl) (pe_lst pa_nil))
      (pss_cons (ps_for PassesOwn.never rfl (pi_rangeL (by rfl) T.n_range (pa_cons (pv 4 (hv := Or.inl rfl)) (pa_cons (pe_op op_add (pv 9 (hv := Or.inl rfl)) pe_int) pa_nil))) (pg_name (i := 11) sc__law_right.nd rfl (Or.inr rfl))
        (pss_cons (ps_setLc (i := 12) (own := [("_law_line", 13)]) (g := gName 13) (tt := tYes) rfl sc__law_right.nd rfl rfl (sw_true rfl rfl rfl (by decide +kernel)) (pi_tup (pe_tup (pa_cons (pv 5 (hv := Or.inl rfl)) (pa_cons (pv 6 (hv := Or.inl rfl)) pa_nil)))) (blkOk_by (own := [("_law_line", 13)]) (N := ["_law_deck_here", "_law_own", "_law_least_one", "_law_size", "_law_begin", "_law_mine", "_law_its", "_law_meet_at", "_law_slope", "_law_end", "_law_table", "_law_at", "_law_exact_two", "_law_line", "_law_left", "_law_right_here", "_law_y", "_law_word", "_law_due", "_law_true_gap", "_law_gap", "_law_told"]) (sc := defScope s__law_right) (by decide +kernel)) (fun _ _ _ _ _ => (pg_name (i := 13) sc__law_right.nd rfl (Or.inl rfl))) (fun _ _ _ _ _ => pts_nil) (fun _ _ _ _ _ => (pe_op op_add (pe_op op_mulX (pe_ix (r := rIxT K) ix_tup (pv 13 (hv := Or.inl rfl)) pe_int (fun _ _ => rfl)) (pv 11 (hv := Or.inr (Or.inl rfl)))) (pe_ix (r := rIxT K) ix_tup (pv 13 (hv := Or.inl rfl)) pe_int (fun _ _ => rfl)))))
      (pss_cons (ps_asg (pe_lc (own := [("_law_y", 16)]) (g := gName 16) (tt := tYes) (by rfl) sc__law_right.nd (pi_list (pv 12 (hv := Or.inl rfl))) (blkOk_by (own := [("_law_y", 16)]) (N := ["_law_deck_here", "_law_own", "_law_least_one", "_law_size", "_law_begin", "_law_mine", "_law_its", "_law_meet_at", "_law_slope", "_law_end", "_law_table", "_law_at", "_law_exact_two", "_law_line", "_law_left", "_law_right_here", "_law_y", "_law_word", "_law_due", "_law_true_gap", "_law_gap", "_law_told"]) (sc := defScope s__law_right) (by decide +kernel)) (fun _ _ _ _ _ => (pg_name (i := 16) sc__law_right.nd rfl (Or.inl rfl))) (fun _ _ _ _ _ => pts_nil) (fun _ _ _ _ _ => (pe_op op_mod (pe_callTy (T := "int") (r := rIntC) call_int1 (by rfl) T.n_int (by decide +kernel) (pa_cons (pe_op op_sub (pv 16 (hv := Or.inl rfl)) (pv 2 (hv := Or.inr (Or.inl rfl)))) pa_nil)) (pv 3 (hv := Or.inr (Or.inl rfl)))))) (pg_unl rfl (pgs_cons (pg_name (i := 14) sc__law_right.nd rfl (Or.inl rfl)) (pgs_cons (pg_name (i := 15) sc__law_right.nd rfl (Or.inl rfl)) pgs_nil))))
      (pss_one (ps_expr (pe_bm PySem.F.plainAttrs_list PySem.F.slot_list_append PySem.F.type_list_append mt_append (pv 10 (hv := Or.inl rfl)) (pa_cons (pe_tup (pa_cons (pe_op op_sub (pe_ix (r := rIxL K) ix_list (pv 12 (hv := Or.inl rfl)) pe_int (fun _ _ => rfl)) (pe_ix (r := rIxL K) ix_list (pv 12 (hv := Or.inl rfl)) pe_int (fun _ _ => rfl))) (pa_cons (pe_op op_sub (pv 14 (hv := Or.inl rfl)) (pv 15 (hv := Or.inl rfl))) (pa_cons (pv 11 (hv := Or.inr (Or.inl rfl))) pa_nil)))) pa_nil)))))))
      (pss_cons (ps_for PassesOwn.never rfl (pi_tup (pe_tup (pa_cons pe_str (pa_cons pe_str (pa_cons pe_str (pa_cons pe_str (pa_cons pe_str (pa_cons pe_str pa_nil)))))))) (pg_name (i := 17) sc__law_right.nd rfl (Or.inr rfl))
        (pss_cons (ps_setLc (i := 18) (own := [("_law_true_gap", 19), ("_law_gap", 20), ("_law_at", 11)]) (g := gTup K 3 (gCons (gName 19) (gCons (gName 20) (gCons (gName 11) gNil)))) rfl sc__law_right.nd rfl rfl (sw_true rfl rfl rfl (by decide +kernel)) (pi_list (pv 10 (hv := Or.inl rfl))) (blkOk_by (own := [("_law_true_gap", 19), ("_law_gap", 20), ("_law_at", 11)]) (N := ["_law_deck_here", "_law_own", "_law_least_one", "_law_size", "_law_begin", "_law_mine", "_law_its", "_law_meet_at", "_law_slope", "_law_end", "_law_table", "_law_at", "_law_exact_two", "_law_line", "_law_left", "_law_right_here", "_law_y", "_law_word", "_law_due", "_law_true_gap", "_law_gap", "_law_told"]) (sc := defScope s__law_right) (by decide +kernel)) (fun _ _ _ _ _ => (pg_tup rfl (pgs_cons (pg_name (i := 19) sc__law_right.nd rfl (Or.inl rfl)) (pgs_cons (pg_name (i := 20) sc__law_right.nd rfl (Or.inl rfl)) (pgs_cons (pg_name (i := 11) sc__law_right.nd rfl (Or.inl rfl)) pgs_nil))))) (fun _ _ _ _ _ => pts_one (pt_cmpR op_ne (pe_call G__law_is_so hr__law_is_so rfl T.g__law_is_so T.k__law_is_so T.b__law_is_so .nil pass0 (pa_cons (pv 17 (hv := Or.inr (Or.inl rfl))) (pa_cons (pv 19 (hv := Or.inl rfl)) pa_nil))) (pe_call G__law_is_so hr__law_is_so rfl T.g__law_is_so T.k__law_is_so T.b__law_is_so .nil pass0 (pa_cons (pv 17 (hv := Or.inr (Or.inl rfl))) (pa_cons (pv 20 (hv := Or.inl rfl)) pa_nil))) (nomark _))) (fun _ _ _ _ _ => (pv 11 (hv := Or.inl rfl))))
      (pss_cons (ps_if (pt_cmpR op_ne (pe_call G_surprises hr_surprises rfl T.g_surprises T.k_surprises T.b_surprises .nil pass0 (pa_cons (pv 1 (hv := Or.inl rfl)) (pa_cons (pv 5 (hv := Or.inl rfl)) (pa_cons (pv 17 (hv := Or.inr (Or.inl rfl))) (pa_cons (pv 6 (hv := Or.inl rfl)) (pa_cons (pv 4 (hv := Or.inl rfl)) (pa_cons (pv 9 (hv := Or.inl rfl)) pa_nil))))))) (pe_callB (id := "len") (r := rLenS K) call_len_seq (by rfl) T.n_len (by decide +kernel) (pa_cons (pv 18 (hv := Or.inl rfl)) pa_nil)) (nomark _)) (pss_one (ps_ret pe_bl)) pss_nil)
      (pss_cons (ps_if (pt_cmpR op_ne (pe_call G_first_surprise hr_first_surprise rfl T.g_first_surprise T.k_first_surprise T.b_first_surprise .nil pass0 (pa_cons (pv 1 (hv := Or.inl rfl)) (pa_cons (pv 5 (hv := Or.inl rfl)) (pa_cons (pv 17 (hv := Or.inr (Or.inl rfl))) (pa_cons (pv 6 (hv := Or.inl rfl)) (pa_cons (pv 4 (hv := Or.inl rfl)) (pa_cons (pv 9 (hv := Or.inl rfl)) pa_nil))))))) (pe_ix (r := rIxL K) ix_list (pe_op op_cat (pv 18 (hv := Or.inl rfl)) (pe_lst (pa_cons pe_non pa_nil))) pe_int (fun _ _ => rfl)) (nomark _)) (pss_one (ps_ret pe_bl)) pss_nil)
      (pss_one (ps_if (pt_cmpR op_ne (pe_callK0 G_surprises hr_surprises rfl T.g_surprises T.k_surprises T.kb_surprises_0_last_first_other_relation_one_kind pass0 (pk_cons (pv 9 (hv := Or.inl rfl)) (pk_cons (pv 4 (hv := Or.inl rfl)) (pk_cons (pv 6 (hv := Or.inl rfl)) (pk_cons (pv 17 (hv := Or.inr (Or.inl rfl))) (pk_cons (pv 5 (hv := Or.inl rfl)) (pk_cons (pv 1 (hv := Or.inl rfl)) pk_nil))))))) (pe_callB (id := "len") (r := rLenS K) call_len_seq (by rfl) T.n_len (by decide +kernel) (pa_cons (pv 18 (hv := Or.inl rfl)) pa_nil)) (nomark _)) (pss_one (ps_ret pe_bl)) pss_nil))))))
      (pss_cons (ps_set (i := 21) sc__law_right.nd rfl (Or.inl rfl) (pe_callK0 G_first_surprise hr_first_surprise rfl T.g_first_surprise T.k_first_surprise T.kb_first_surprise_0_last_first_other_relation_one_kind pass0 (pk_cons (pv 9 (hv := Or.inl rfl)) (pk_cons (pv 4 (hv := Or.inl rfl)) (pk_cons (pv 6 (hv := Or.inl rfl)) (pk_cons pe_str (pk_cons (pv 5 (hv := Or.inl rfl)) (pk_cons (pv 1 (hv := Or.inl rfl)) pk_nil))))))))
      (pss_one (ps_ret (pe_cmpR op_eq (pv 21 (hv := Or.inl rfl)) (pe_call G_first_surprise hr_first_surprise rfl T.g_first_surprise T.k_first_surprise T.b_first_surprise .nil pass0 (pa_cons (pv 1 (hv := Or.inl rfl)) (pa_cons (pv 5 (hv := Or.inl rfl)) (pa_cons pe_str (pa_cons (pv 6 (hv := Or.inl rfl)) (pa_cons (pv 4 (hv := Or.inl rfl)) (pa_cons (pv 9 (hv := Or.inl rfl)) pa_nil))))))) (nomark _))))))))))))), ?_⟩
    try dsimp only [cxOf, Cx.nox, Cx.wish, Cx.blk]
    rw [show L2.start ["_law_deck_here", "_law_own", "_law_least_one", "_law_size", "_law_begin", "_law_mine", "_law_its", "_law_meet_at", "_law_slope", "_law_end", "_law_table", "_law_at", "_law_exact_two", "_law_line", "_law_left", "_law_right_here", "_law_y", "_law_word", "_law_due", "_law_true_gap", "_law_gap", "_law_told"] [.ref p] = [some (.ref p), none, none, none, none, none, none, none, none, none, none, none, none, none, none, none, none, none, none, none, none, none] from rfl]
    obtain ⟨hs, n38, hT, k⟩ := h
    walk_at "rd"
    refine ⟨p, n, rfl, hs, by omega, fun t kx wd s H1 w1 w8 hk nk ht kp1 hs1 => ?_⟩
    have s1 : Kq T.tabs p H H1 := kp1.toQ hs.lst
    have hp := p2 wd
    have w2 : wd ≤ 128 := by omega
    obtain ⟨z1, z2, z3, z4, z5⟩ := loK_b (s := s) w2
    have p256 : (2 : Int) ^ wd ≤ 256 := by
      have := Nat.pow_le_pow_right (n := 2) (by decide) w8
      have e : (2 : Nat) ^ 8 = 256 := by decide
      rw [e] at this
      exact_mod_cast this
    have q57 : (256 : Int) ≤ 10 ^ 57 := by decide +kernel
    have q59 : (10 : Int) ^ 59 * 2 < 10 ^ 60 := by decide +kernel
    have q60 : (10 : Int) ^ 60 * 10 < 10 ^ 62 := by decide +kernel
    have q61 : (10000 : Int) < 10 ^ 57 := by decide +kernel
    walk_at "rd"
    refine ⟨p, 2 ^ wd, _, rfl, hs1, by omega, hp, by omega, fun f H2 f1 f2 kp2 hs2 => ?_⟩
    have s2 : Kq T.tabs p H1 H2 := kp2.toQ hs1.lst
    walk_at "rd"
    refine ⟨p, 2 ^ wd, _, rfl, hs2, by omega, hp, by omega, fun a H3 a1 a2 kp3 hs3 => ?_⟩
    have s3 : Kq T.tabs p H2 H3 := kp3.toQ hs2.lst
    walk_at "rd"
    refine ⟨p, 2 ^ wd, _, rfl, hs3, by omega, hp, by omega, fun b H4 b1 b2 kp4 hs4 => ?_⟩
    have s4 : Kq T.tabs p H3 H4 := kp4.toQ hs3.lst
    walk_at "rd"
    refine ⟨by show 2 ≤ sizeLine; decide, fun m1 hm1 => ?_⟩
    have s5 := ((s1.trans s2).trans (s3.trans s4)).new (o := .tup [.int a, .int b]) hm1
    have s15 := (s2.trans (s3.trans s4)).new (o := .tup [.int a, .int b]) hm1
    have hs5 := hs4.new (o := .tup [.int a, .int b]) hm1
    have hm1' : (L2.upd H4 m1 (.tup [.int a, .int b])) m1 = some (.tup [.int a, .int b]) := upd_same
    have nm1 := hs4.ne hm1
    walk_at "rd"
    generalize L2.upd H4 m1 _ = H5 at s5 s15 hs5 hm1' ⊢
    refine ⟨p, 2 ^ wd, _, rfl, hs5, by omega, hp, by omega, fun c H6 c1 c2 kp6 hs6 => ?_⟩
    have s6 : Kq T.tabs p H5 H6 := kp6.toQ hs5.lst
    walk_at "rd"
    refine ⟨p, 2 ^ wd, _, rfl, hs6, by omega, hp, by omega, fun d H7 d1 d2 kp7 hs7 => ?_⟩
    have s7 : Kq T.tabs p H6 H7 := kp7.toQ hs6.lst
    walk_at "rd"
    refine ⟨by show 2 ≤ sizeLine; decide, fun m2 hm2 => ?_⟩
    have s57 := (s6.trans s7).new (o := .tup [.int c, .int d]) hm2
    have hs8 := hs7.new (o := .tup [.int c, .int d]) hm2
    have hm2' : (L2.upd H7 m2 (.tup [.int c, .int d])) m2 = some (.tup [.int c, .int d]) := upd_same
    have nm2 := hs7.ne hm2
    have hm1'' := s57.at nm1 hm1'
    have s8 := s5.trans s57
    have s18 := s15.trans s57
    walk_at "rd"
    generalize L2.upd H7 m2 _ = H8 at s8 s18 hs8 hm2' hm1'' ⊢
    have hkA := hk.kq nk s18
    have hT8 := s8.2 hT
    obtain ⟨nA, hnA⟩ : ∃ m, m = n + 700 := ⟨_, rfl⟩
    have hsA : SrcN nA H8 p := hs8.le (by omega)
    clear hs8 hs7 hs6 hs5 hs4 hs3 hs2 hs1 s57 s7 s6 s15 s5 s4 s3 s2 s1 hk hm1' s18
    have SDf : SD f := ⟨by omega, by omega⟩
    have SDa : SD a := ⟨by omega, by omega⟩
    have SDb : SD b := ⟨by omega, by omega⟩
    have SDc : SD c := ⟨by omega, by omega⟩
    have SDd : SD d := ⟨by omega, by omega⟩
    refine ⟨p, _, _, rfl, hsA, by omega, by decide, b89 (bb_sm (by decide) (by decide)), fun u H9 u0 u1 kp9 hs9 => ?_⟩
    have s9 : Kq T.tabs p H8 H9 := kp9.toQ hsA.lst
    walk_at "rd"
    refine w_stJ (fun σ' H' => (∃ (m1 m2 : Addr) (f a b c d : Int) (v7 v8 : Option V), σ' = [some (.ref p), some (.ref kx), some (.int (loK wd s)), some (.int (2 ^ wd)), some (.int f), some (.ref m1), some (.ref m2), v7, v8, none, none, none, none, none, none, none, none, none, none, none, none, none] ∧
      -(10 ^ 59) < f ∧ f < 10 ^ 59 ∧ SD a ∧ SD b ∧ SD c ∧ SD d ∧ H' m1 = some (.tup [.int a, .int b]) ∧ H' m2 = some (.tup [.int c, .int d]) ∧ m1 ≠ p ∧ m2 ≠ p) ∧ Kq T.tabs p H8 H' ∧ SrcN (nA + 300) H' p) (fun cu D' q => ?_) (fun cu D' q => ?_) ?_
    · walk_at "rd"
      refine ⟨p, _, _, rfl, hs9, by omega, by decide, b89 (bb_sm (by decide) (by decide)), fun u1 H11 u10 u11 kp11 hs11 => ?_⟩
      have s11 : Kq T.tabs p H9 H11 := kp11.toQ hs9.lst
      walk_at "rd"
      refine ⟨p, _, _, rfl, hs11, by omega, by decide, b89 (bb_sm (by decide) (by decide)), fun u2 H12 u20 u21 kp12 hs12 => ?_⟩
      have s12 : Kq T.tabs p H11 H12 := kp12.toQ hs11.lst
      walk_at "rd"
      refine ⟨p, _, _, rfl, hs12, by omega, by decide, b89 (bb_sm (by decide) (by decide)), fun u3 H13 u30 u31 kp13 hs13 => ?_⟩
      have s13 : Kq T.tabs p H12 H13 := kp13.toQ hs12.lst
      walk_at "rd"
      refine ⟨p, 2 ^ wd * 9, _, rfl, hs13, by omega, by omega, by omega, fun e H14 e1 e2 kp14 hs14 => ?_⟩
      have s14 : Kq T.tabs p H13 H14 := kp14.toQ hs13.lst
      walk_at "rd"
      have k20 : (10 : Int) ^ Int.toNat 20 = 100000000000000000000 := by decide +kernel
      rw [k20]
      obtain ⟨ee, hee⟩ : ∃ ee : Int, ee = e / 100000000000000000000 := ⟨_, rfl⟩
      rw [← hee]
      have SDe : SD ee := ⟨by omega, by omega⟩
      have bA : BB (u3 - 4 - (u2 - 4)) := bb_ten (by omega) (by omega)
      have bM : BB (f + u1) := bb_ten (by omega) (by omega)
      refine ⟨by show 2 ≤ sizeLine; decide, fun r1 hr1 => ?_⟩
      have s15 := ((s9.trans s11).trans ((s12.trans s13).trans s14)).new (o := .tup [.int (u3 - 4), .int ee]) hr1
      have hs15 := hs14.new (o := .tup [.int (u3 - 4), .int ee]) hr1
      have nr1 := hs14.ne hr1
      have hr1' : (L2.upd H14 r1 (.tup [.int (u3 - 4), .int ee])) r1 = some (.tup [.int (u3 - 4), .int ee]) := upd_same
      generalize L2.upd H14 r1 _ = H15 at s15 hs15 hr1' ⊢
      walk_at "rd"
      refine w_I (mulx_ok bA bM (by decide)) ?_
      walk_at "rd"
      refine ⟨p, _, _, rfl, hs15, by omega, by decide, b89 (bb_sm (by decide) (by decide)), fun u4 H16 u40 u41 kp16 hs16 => ?_⟩
      have s16 : Kq T.tabs p H15 H16 := kp16.toQ hs15.lst
      have hr1'' := s16.at nr1 hr1'
      walk_at "rd"
      refine ⟨by show 2 ≤ sizeLine; decide, fun r2 hr2 => ?_⟩
      obtain ⟨dd, hdd⟩ : ∃ dd : Int, dd = (u3 - 4 - (u2 - 4)) * (f + u1) + ee + u4 - 1 := ⟨_, rfl⟩
      rw [← hdd]
      have s17 := (s15.trans s16).new (o := .tup [.int (u2 - 4), .int dd]) hr2
      have hs17 := hs16.new (o := .tup [.int (u2 - 4), .int dd]) hr2
      have nr2 := hs16.ne hr2
      have hq1 := gn (u := .tup [.int (u2 - 4), .int dd]) hr1'' hr2
      have hq2 : (L2.upd H16 r2 (.tup [.int (u2 - 4), .int dd])) r2 = some (.tup [.int (u2 - 4), .int dd]) := upd_same
      generalize L2.upd H16 r2 _ = H17 at s17 hs17 hq1 hq2 ⊢
      clear hr1'' hr1' s16 s15 s14 s13 s12 s11
      walk_at "rd"
      refine w_ifJ (fun v H' => (∃ f' : Int, v = .int f' ∧ -(10 ^ 59) < f' ∧ f' < 10 ^ 59) ∧ H17 = H') (fun Q hQ => ?_) ?_
      · refine w_if ?_
        walk_at "rd"
        refine w_max2 ?_
        walk_at "rd"
        refine w_dec (fun _ => ?_) (fun _ => ?_)
        · walk_at "rd"
          exact hQ _ _ ⟨⟨f, rfl, f1, f2⟩, rfl⟩
        · walk_at "rd"
          exact hQ _ _ ⟨⟨0, rfl, by decide +kernel, by decide +kernel⟩, rfl⟩
      rintro v0 _ ⟨⟨f', rfl, f1', f2'⟩, rfl⟩
      walk_at "rd"
      refine w_ifJ (fun v H' => (∃ (m : Addr) (c' d' : Int), v = .ref m ∧ m ≠ p ∧ H17 m = some (.tup [.int c', .int d']) ∧ SD c' ∧ SD d') ∧ H17 = H') (fun Q hQ => ?_) ?_
      · refine w_if ?_
        walk_at "rd"
        refine w_max2 ?_
        walk_at "rd"
        refine w_dec (fun z => ?_) (fun _ => ?_)
        · walk_at "rd"
          rw [show (10 : Int) ^ Int.toNat 60 = 10 ^ 60 by decide +kernel] at z
          have z1 : ab dd < 10 ^ 60 := by omega
          unfold ab at z1
          have SDd' : SD dd := by
            split at z1
            · exact ⟨by omega, by omega⟩
            · exact ⟨by omega, by omega⟩
          exact hQ _ _ ⟨⟨r2, _, _, rfl, nr2, hq2, ⟨by omega, by omega⟩, SDd'⟩, rfl⟩
        · walk_at "rd"
          exact hQ _ _ ⟨⟨r1, _, _, rfl, nr1, hq1, ⟨by omega, by omega⟩, SDe⟩, rfl⟩
      rintro v0 _ ⟨⟨m, c', d', rfl, nm, hm, SDc', SDd'⟩, rfl⟩
      walk_at "rd"
      exact q _ _ ⟨⟨r1, m, f', u3 - 4, ee, c', d', _, _, rfl, f1', f2', ⟨by omega, by omega⟩, SDe, SDc', SDd', hq1, hm, nr1, nm⟩, s17, hs17.le (by omega)⟩
    · walk_at "rd"
      exact q _ _ ⟨⟨m1, m2, f, a, b, c, d, _, _, rfl, f1, f2, SDa, SDb, SDc, SDd, s9.at nm1 hm1'', s9.at nm2 hm2', nm1, nm2⟩, s9, hs9.le (by omega)⟩
    clear hm1'' hm2' nm1 nm2 SDf SDa SDb SDc SDd s9 hs9 kp9
    rintro σ H10 ⟨⟨m1, m2, f, a, b, c, d, v7, v8, rfl, f1, f2, SDa, SDb, SDc, SDd, h1, h2, n1, n2⟩, s10, hs10⟩
    walk_at "rd"
    refine ⟨p, _, _, rfl, hs10, by omega, by decide, b89 (bb_sm (by decide) (by decide)), fun dv H11 dv0 dv1 kp11 hs11 => ?_⟩
    have s11' : Kq T.tabs p H10 H11 := kp11.toQ hs10.lst
    obtain ⟨N, rfl⟩ := Int.eq_ofNat_of_zero_le dv0
    obtain ⟨l, hl⟩ : ∃ l, l = f + (N : Int) - 1 := ⟨_, rfl⟩
    have h1 := s11'.at n1 h1
    have h2 := s11'.at n2 h2
    have s11 := s8.trans (s10.trans s11')
    have hkB := hkA.kq nk (s10.trans s11')
    have hTB := s11.2 hT
    clear s11' s10 hs10 hkA hsA
    walk_at "rd"
    rw [← hl]
    have hdl : l - f + 1 = (N : Int) := by omega
    have sf : SD f := ⟨by omega, by omega⟩
    have sl : SD l := ⟨by omega, by omega⟩
    refine ⟨by show 0 ≤ sizeLine; decide, fun D hD => ?_⟩
    have sD := (Sm.refl (T := T.tabs) H11).new (o := .lst []) hD
    have hDl : (L2.upd H11 D (.lst [])) D = some (.lst ([].map V.ref)) := upd_same
    walk_at "rd"
    refine w_iRngL ?_
    walk_at "rd"
    refine ⟨f, l + 1, rfl, ?_⟩
    rw [show (l + 1 - f).toNat = N by omega]
    obtain ⟨lo, hlo⟩ : ∃ lo, lo = loK wd s := ⟨_, rfl⟩
    refine for_range (lo := f) (n := N) (fun i σ H' => (∃ (v11 v12 v13 v14 v15 v16 v19 v20 : Option V), σ = [some (.ref p), some (.ref kx), some (.int (loK wd s)), some (.int (2 ^ wd)), some (.int f), some (.ref m1), some (.ref m2), v7, v8, some (.int l), some (.ref D), v11, v12, v13, v14, v15, v16, none, none, v19, v20, none]) ∧ ∃ ts, TabG H' D (fun x => a * x + b - (c * x + d)) (fun x => (a * x + b - lo) % 2 ^ wd - (c * x + d - lo) % 2 ^ wd) f i ts ∧ Sm T.tabs H11 H')
      ⟨⟨_, _, _, _, _, _, _, _, rfl⟩, [], ⟨hDl, rfl, fun i t e => by simp at e⟩, sD⟩ ?_ ?_
    · rintro i σ H' hi ⟨⟨v11, v12, v13, v14, v15, v16, v19, v20, rfl⟩, ts, R, s20⟩
      have bx : BB (f + (i : Int)) := bb_ten (by omega) (by omega)
      have g1 := s20.at h1
      have g2 := s20.at h2
      walk_at "rd"
      refine w_iTup ?_
      walk_at "rd"
      refine ⟨by show 2 ≤ sizeLine; decide, fun t5 ht5 => ?_⟩
      have s21 := (Sm.refl (T := T.tabs) H').new (o := .tup [.ref m1, .ref m2]) ht5
      have ht5' : (L2.upd H' t5 (.tup [.ref m1, .ref m2])) t5 = some (.tup [.ref m1, .ref m2]) := upd_same
      generalize L2.upd H' t5 _ = HA at s21 ht5' ⊢
      obtain ⟨E1, hE1⟩ : ∃ E1, E1 = a * (f + (i : Int)) + b := ⟨_, rfl⟩
      obtain ⟨E2, hE2⟩ : ∃ E2, E2 = c * (f + (i : Int)) + d := ⟨_, rfl⟩
      refine ⟨t5, rfl, ⟨_, SqT.of ht5'⟩, fun D6 hD6 => lc_tup (K := K) (a := t5) (xs := [.ref m1, .ref m2]) (fun j H'' => H'' D6 = some (.lst ((List.take j [E1, E2]).map V.int)) ∧ Sm T.tabs HA H'') ⟨upd_same, (Sm.refl HA).new hD6⟩ (fun i H' _ q => SqT.of (q.2.at ht5')) ?_ ?_⟩
      · rintro j y H'' hj ⟨hd6, s22⟩
        have g1 := s22.at (s21.at g1)
        have g2 := s22.at (s21.at g2)
        rcases j with _ | _ | j
        · obtain rfl := Option.some.inj hj
          walk_at "rd"
          refine ⟨rfl, ?_⟩
          walk_at "rd"
          refine iteT ?_
          walk_at "rd"
          refine w_I (mulx_ok SDa.bb bx (by decide)) ?_
          walk_at "rd"
          rw [← hE1]
          exact ⟨_, hd6, by show 0 < sizeLine; decide, upd_same, s22.mut hD6 hd6⟩
        · obtain rfl := Option.some.inj hj
          walk_at "rd"
          refine ⟨rfl, ?_⟩
          walk_at "rd"
          refine iteT ?_
          walk_at "rd"
          refine w_I (mulx_ok SDc.bb bx (by decide)) ?_
          walk_at "rd"
          rw [← hE2]
          exact ⟨_, hd6, by show 1 < sizeLine; decide, upd_same, s22.mut hD6 hd6⟩
        · cases hj
      rintro HB ⟨hd6, s22⟩
      have hd6 : HB D6 = some (.lst ([E1, E2].map V.int)) := hd6
      walk_at "rd"
      obtain ⟨F1, hF1⟩ : ∃ F1, F1 = (E1 - loK wd s) % 2 ^ wd := ⟨_, rfl⟩
      obtain ⟨F2, hF2⟩ : ∃ F2, F2 = (E2 - loK wd s) % 2 ^ wd := ⟨_, rfl⟩
      refine ⟨⟨_, SqL.of hd6⟩, fun D7 hD7 => lc_list (K := K) (a := D6) (xs := [E1, E2].map V.int) (fun j H'' => H'' D7 = some (.lst ((List.take j [F1, F2]).map V.int)) ∧ Sm T.tabs HB H'') ⟨upd_same, (Sm.refl HB).new hD7⟩ (fun i H' _ q => SqL.of (q.2.at hd6)) ?_ ?_⟩
      · rintro j y H'' hj ⟨hd7, s23⟩
        rcases j with _ | _ | j
        · obtain rfl := Option.some.inj hj
          walk_at "rd"
          refine ⟨rfl, ?_⟩
          walk_at "rd"
          refine iteT ?_
          walk_at "rd"
          refine w_I hp ?_
          walk_at "rd"
          rw [← hF1]
          exact ⟨_, hd7, by show 0 < sizeLine; decide, upd_same, s23.mut hD7 hd7⟩
        · obtain rfl := Option.some.inj hj
          walk_at "rd"
          refine ⟨rfl, ?_⟩
          walk_at "rd"
          refine iteT ?_
          walk_at "rd"
          refine w_I hp ?_
          walk_at "rd"
          rw [← hF2]
          exact ⟨_, hd7, by show 1 < sizeLine; decide, upd_same, s23.mut hD7 hd7⟩
        · cases hj
      rintro HC ⟨hd7, s23⟩
      have hd7 : HC D7 = some (.lst ([F1, F2].map V.int)) := hd7
      have hd6 := s23.at hd6
      have sC := (s21.trans s22).trans s23
      have R' := R.sm sC
      walk_at "rd"
      refine w_gunl (xs := [.int F1, .int F2]) hd7 rfl ?_
      walk_at "rd"
      refine w_bm ?_
      walk_at "rd"
      refine ⟨.inl ⟨rfl, _, SqL.of R'.lst⟩, ?_⟩
      walk_at "rd"
      refine ⟨by show 3 ≤ sizeLine; decide, fun t6 ht6 => ?_⟩
      subst hF1 hF2 hE1 hE2 hlo
      walk_at "rd"
      refine ⟨D, _, _, rfl, rfl, gn R'.lst ht6, by rw [List.length_map, R'.len]; exact small1000 (by omega), ?_⟩
      walk_at "rd"
      exact ⟨⟨_, _, _, _, _, _, _, _, rfl⟩, ts ++ [t6], R'.more ht6 R'.lst, ((s20.trans sC).new ht6).mut hD (gn R'.lst ht6)⟩
    rintro σ H12 ⟨⟨v11, v12, v13, v14, v15, v16, v19, v20, rfl⟩, ts, R, s20⟩
    subst hlo
    walk_at "rd"
    refine w_iTup ?_
    walk_at "rd"
    refine ⟨by show 6 ≤ sizeLine; decide, fun t7 ht7 => ?_⟩
    have s20 := s20.new (o := .tup [.str "<", .str "<=", .str "==", .str "!=", .str ">=", .str ">"]) ht7
    have R := R.sm ((Sm.refl (T := T.tabs) H12).new (o := .tup [.str "<", .str "<=", .str "==", .str "!=", .str ">=", .str ">"]) ht7)
    have ht7' : (L2.upd H12 t7 (.tup [.str "<", .str "<=", .str "==", .str "!=", .str ">=", .str ">"])) t7 = some (.tup ([("<" : Str), "<=", "==", "!=", ">=", ">"].map V.str)) := upd_same
    walk_at "rd"
    generalize L2.upd H12 t7 _ = H13 at s20 R ht7' ⊢
    obtain ⟨Ws, hWs⟩ : ∃ Ws : List Str, Ws = [("<" : Str), "<=", "==", "!=", ">=", ">"] := ⟨_, rfl⟩
    rw [← hWs] at ht7'
    have hkC := hkB.sm s20
    have q1 := s20.at h1
    have q2 := s20.at h2
    have hTC := s20.2 hTB
    refine ⟨⟨_, SqT.of ht7'⟩, for_tup (K := K) (a := t7) (xs := Ws.map V.str) (fun i σ H' => (∃ (v11 v12 v13 v14 v15 v16 v17 v18 v19 v20 : Option V), σ = [some (.ref p), some (.ref kx), some (.int (loK wd s)), some (.int (2 ^ wd)), some (.int f), some (.ref m1), some (.ref m2), v7, v8, some (.int l), some (.ref D), v11, v12, v13, v14, v15, v16, v17, v18, v19, v20, none]) ∧ Sm T.tabs H13 H')
      ⟨⟨_, _, _, _, _, _, _, _, _, _, rfl⟩, Sm.refl H13⟩ (fun i σ H' _ q => SqT.of (q.2.at ht7')) ?_ ?_⟩
    · rintro i y σ H' hi ⟨⟨v11, v12, v13, v14, v15, v16, v17, v18, v19, v20, rfl⟩, s21⟩
      obtain ⟨z, hz', rfl⟩ := map_get hi
      have hz : Rel z := by
        have := List.mem_of_getElem? hz'
        rw [hWs] at this
        simpa [Rel] using this
      walk_at "rd"
      have R' := R.sm s21
      have hkD := hkC.sm s21
      have q1 := s21.at q1
      have q2 := s21.at q2
      have hTD := s21.2 hTC
      obtain ⟨P, hP⟩ : ∃ P, P = suP wd s z a b c d := ⟨_, rfl⟩
      have Px : ∀ x, P x = (relB z (a * x + b - (c * x + d)) 0 != relB z ((a * x + b - loK wd s) % 2 ^ wd - (c * x + d - loK wd s) % 2 ^ wd) 0) := fun x => by
        rw [hP]
        have w1 : wr wd s (a * x + b) = loK wd s + (a * x + b - loK wd s) % 2 ^ wd := rfl
        have w2' : wr wd s (c * x + d) = loK wd s + (c * x + d - loK wd s) % 2 ^ wd := rfl
        show (relB z (wr wd s (a * x + b)) (wr wd s (c * x + d)) != relB z (a * x + b) (c * x + d)) = _
        generalize (a * x + b - loK wd s) % 2 ^ wd = A1 at w1 ⊢
        generalize (c * x + d - loK wd s) % 2 ^ wd = A2 at w2' ⊢
        rw [rel_sg hz (y := a * x + b - (c * x + d)) (w := 0) (y' := a * x + b) (w' := c * x + d) (by omega) (by omega), rel_sg hz (y := A1 - A2) (w := 0) (y' := wr wd s (a * x + b)) (w' := wr wd s (c * x + d)) (by omega) (by omega)]
        cases relB z (wr wd s (a * x + b)) (wr wd s (c * x + d)) <;> cases relB z (a * x + b) (c * x + d) <;> rfl
      refine ⟨⟨_, SqL.of R'.lst⟩, fun D8 hD8 => lc_list (K := K) (a := D) (xs := ts.map V.ref) (fun j H'' => H'' D8 = some (.lst ((wl P f j).map V.int)) ∧ Sm T.tabs H' H'') ⟨upd_same, (Sm.refl H').new hD8⟩ (fun i H' _ q => SqL.of (q.2.at R'.lst)) ?_ ?_⟩
      · rintro j y H'' hj ⟨hd, s22⟩
        obtain ⟨t, ht, rfl⟩ := map_get hj
        have row : H'' t = some (.tup [.int (a * (f + (j : Int)) + b - (c * (f + (j : Int)) + d)), .int ((a * (f + (j : Int)) + b - loK wd s) % 2 ^ wd - (c * (f + (j : Int)) + d - loK wd s) % 2 ^ wd), .int (f + (j : Int))]) := s22.at (R'.row j t ht)
        have jl : j < N := by have := get_lt ht; have := R'.len; omega
        have wl0 : (wl P f j).length ≤ j := by
          unfold wl
          exact Nat.le_trans (List.length_filter_le _ _) (by rw [List.length_map, List.length_range]; exact Nat.le_refl _)
        have keep : P (f + (j : Int)) = true → wl P f (j + 1) = wl P f j ++ [f + (j : Int)] := fun z => by rw [wl_succ, if_pos z]
        have drop : P (f + (j : Int)) = false → wl P f (j + 1) = wl P f j := fun z => by rw [wl_succ, z, if_neg Bool.false_ne_true, List.append_nil]
        walk_at "rd"
        refine ⟨rfl, ?_⟩
        walk_at "rd"
        refine ⟨z, _, rfl, hz, fun H1 s1 => ?_⟩
        walk_at "rd"
        refine ⟨z, _, rfl, hz, fun H2 s2 => ?_⟩
        walk_at "rd"
        have hd := s2.at (s1.at hd)
        have s22 := s22.trans (s1.trans s2)
        have pe : P (f + (j : Int)) = !decide (relB z (a * (f + (j : Int)) + b - (c * (f + (j : Int)) + d)) 0 = relB z ((a * (f + (j : Int)) + b - loK wd s) % 2 ^ wd - (c * (f + (j : Int)) + d - loK wd s) % 2 ^ wd) 0) := by
          rw [Px]
          cases relB z (a * (f + (j : Int)) + b - (c * (f + (j : Int)) + d)) 0 <;> cases relB z ((a * (f + (j : Int)) + b - loK wd s) % 2 ^ wd - (c * (f + (j : Int)) + d - loK wd s) % 2 ^ wd) 0 <;> rfl
        rw [← pe]
        cases hp2 : P (f + (j : Int)) with
        | true =>
          refine iteT ?_
          walk_at "rd"
          refine ⟨_, hd, by rw [List.length_map]; exact small1000 (by omega), ?_, s22.mut hD8 hd⟩
          rw [upd_same, keep hp2, List.map_append]
          rfl
        | false =>
          refine iteF ?_
          rw [drop hp2]
          exact ⟨hd, s22⟩
      rintro H15 ⟨hd, s22⟩
      rw [List.length_map, R'.len] at hd
      obtain ⟨is, his⟩ : ∃ is, is = wl P f N := ⟨_, rfl⟩
      have il : (is.length : Int) = tot P f l := by rw [his]; exact wl_tot hdl
      have ild : is.length ≤ 61 := by
        have := tot_le P (first := f) (last := l) (by omega)
        omega
      rw [← his] at hd
      walk_at "rd"
      refine ⟨kx, m1, z, m2, f, l, a, b, c, d, wd, s, rfl, hkD.sm s22, s22.at q1, s22.at q2, SDa, SDb, SDc, SDd, hz, sf, sl, fun H16 s23 => ?_⟩
      rw [← hP]
      have hd := s23 _ _ hd
      have s24 := s22.trans (Sm.of s23)
      walk_at "rd"
      refine w_len hd ?_
      rw [List.length_map]
      walk_at "rd"
      refine w_ndecT il.symm ?_
      walk_at "rd"
      refine ⟨kx, m1, z, m2, f, l, a, b, c, d, wd, s, rfl, hkD.sm s24, s24.at q1, s24.at q2, SDa, SDb, SDc, SDd, hz, sf, sl, s24.2 hTD, fun v H17 hv s25 => ?_⟩
      rw [← hP] at hv
      have hd := s25.at hd
      have s26 := s24.trans s25
      walk_at "rd"
      refine ⟨by show 1 ≤ sizeLine; decide, fun qn hqn => ?_⟩
      have hd := gn (u := .lst [.non]) hd hqn
      have s26 := s26.new (o := .lst [.non]) hqn
      have hqn' : (L2.upd H17 qn (.lst [.non])) qn = some (.lst [.non]) := upd_same
      generalize L2.upd H17 qn (.lst [.non]) = H18 at hd s26 hqn' ⊢
      refine w_cat hd hqn' (by rw [List.length_map]; exact Nat.le_of_lt (small1000 (by show is.length + 1 ≤ 1000; omega))) (fun qc hqc => ?_)
      have hqc' : (L2.upd H18 qc (.lst (is.map V.int ++ [.non]))) qc = some (.lst (is.map V.int ++ [.non])) := upd_same
      have hd := gn (u := .lst (is.map V.int ++ [.non])) hd hqc
      have s26 := s26.new (o := .lst (is.map V.int ++ [.non])) hqc
      generalize L2.upd H18 qc _ = H19 at hd s26 hqc' ⊢
      have e0 : (is.map V.int ++ [V.non])[0]? = some v := by
        rcases is with _ | ⟨i0, r⟩
        · rw [first_nil hdl his.symm hv]; rfl
        · rw [first_get hdl (by rw [← his]; rfl) hv]; rfl
      walk_at "rd"
      refine w_ixL (i := 0) hqc' (atI_nat (j := 0) e0) ?_
      walk_at "rd"
      refine w_neOpt hv.opt hv.opt ?_
      walk_at "rd"
      refine w_ndecT rfl ?_
      walk_at "rd"
      refine ⟨kx, m1, z, m2, f, l, a, b, c, d, wd, s, rfl, hkD.sm s26, s26.at q1, s26.at q2, SDa, SDb, SDc, SDd, hz, sf, sl, fun H20 s27 => ?_⟩
      rw [← hP]
      have hd := s27 _ _ hd
      have s28 := s26.trans (Sm.of s27)
      walk_at "rd"
      refine w_len hd ?_
      rw [List.length_map]
      walk_at "rd"
      refine w_ndecT il.symm ?_
      walk_at "rd"
      exact ⟨⟨_, _, _, _, _, _, _, _, _, _, rfl⟩, s21.trans s28⟩
    rintro σ H14 ⟨⟨v11, v12, v13, v14, v15, v16, v17, v18, v19, v20, rfl⟩, s21⟩
    have s22 := s20.trans s21
    have hkE := hkC.sm s21
    have q1 := s21.at q1
    have q2 := s21.at q2
    have hTE := s21.2 hTC
    have hle : Rel "<=" := .inr (.inl rfl)
    walk_at "rd"
    refine ⟨kx, m1, _, m2, f, l, a, b, c, d, wd, s, rfl, hkE, q1, q2, SDa, SDb, SDc, SDd, hle, sf, sl, hTE, fun v H15 hv s23 => ?_⟩
    walk_at "rd"
    refine ⟨kx, m1, _, m2, f, l, a, b, c, d, wd, s, rfl, hkE.sm s23, s23.at q1, s23.at q2, SDa, SDb, SDc, SDd, hle, sf, sl, s23.2 hTE, fun v' H16 hv' s24 => ?_⟩
    walk_at "rd"
    have ev : v' = v := by
      rcases hv with ⟨e1, t1⟩ | ⟨x, e1, x1, x2, px, x3⟩ <;> rcases hv' with ⟨e2, t2⟩ | ⟨y, e2, y1, y2, py, y3⟩
      · rw [e1, e2]
      · have := tot_zero_iff.mp t1 y y1 y2
        rw [py] at this; cases this
      · have := tot_zero_iff.mp t2 x x1 x2
        rw [px] at this; cases this
      · rcases Int.lt_trichotomy x y with h | h | h
        · have := tot_zero_iff.mp y3 x x1 (by omega)
          rw [px] at this; cases this
        · rw [e1, e2, h]
        · have := tot_zero_iff.mp x3 y y1 (by omega)
          rw [py] at this; cases this
    subst ev
    refine w_eqOpt hv.opt hv.opt ?_
    rw [decide_eq_true rfl]
    have s25 := Kq.sm s11 (s22.trans (s23.trans s24))
    exact k _ s25 ((hs11.sm (s22.trans (s23.trans s24))).le (by omega))
def sp_law (K : PySem.W.Frag) (C : Addr) (TS : List (Addr × Str)) : Sp := fun vs H Q _ => ∃ (a : Addr) (ns : List Int), vs = [.ref a] ∧ SqL K H a (ns.map V.int) ∧ ns.length ≤ 63 ∧ LamX.Tabs TS H ∧ ∀ H', Q (.bl true) H'
theorem ok_law {P : Program} {w : World} {K : PySem.W.Frag} {mg : Str → Option Value} {base : Heap} (T : Txt K mg) (B : TBs T base) : FnOk P w K mg base CX0 19 T.f_law T.fd_law ["_law_script"] (sp_law K T.C_Kind T.tabs) := by
  have G_Kind___init__ := ok_Kind___init__ (P := P) (w := w) (base := base) T B
  have G__law_deck := ok__law_deck (P := P) (w := w) (base := base) T B
  have G__law_right := ok__law_right (P := P) (w := w) (base := base) T B
  have G_first_surprise := ok_first_surprise (P := P) (w := w) (base := base) T B
  have G_surprises := ok_surprises (P := P) (w := w) (base := base) T B
  refine T.F_law.ok sc_law (fun vs H Q E h => ?_) (fun cdv A outer s H vs Q E hr h => ?_)
  · obtain ⟨a, ns, rfl, _⟩ := h
    rfl
  · obtain ⟨a, ns, rfl, h⟩ := h
    have hr_Kind___init__ : Room 3 _ := hr.mono (by decide)
    have hr__law_deck : Room 1 _ := hr.mono (by decide)
    have hr__law_right : Room 18 _ := hr.mono (by decide)
    have hr_first_surprise : Room 17 _ := hr.mono (by decide)
    have hr_surprises : Room 6 _ := hr.mono (by decide)
    refine ⟨_, (pss_cons (ps_set (i := 1) sc_law.nd rfl (Or.inl rfl) (pe_make T.mk_Kind G_Kind___init__ hr_Kind___init__ rfl T.g_Kind T.b_Kind___init__ .nil pass0 (pa_cons pe_int (pa_cons pe_bl pa_nil))))
      (pss_cons (ps_for PassesOwn.never rfl (pi_list (pe_op op_cat (pe_slice sl_list (pv 0 (hv := Or.inl rfl)) po_none (po_some pe_int)) (pe_lst (pa_cons pe_int pa_nil)))) (pg_name (i := 2) sc_law.nd rfl (Or.inl rfl))
        (pss_cons (ps_set (i := 3) sc_law.nd rfl (Or.inl rfl) (pe_call G__law_deck hr__law_deck rfl T.g__law_deck T.k__law_deck T.b__law_deck .nil pass0 (pa_cons (pv 2 (hv := Or.inl rfl)) pa_nil)))
      (pss_one (ps_for PassesOwn.never rfl (pi_range1 (by rfl) T.n_range (pa_cons pe_int pa_nil)) (pg_name (i := 4) sc_law.nd rfl (Or.inl rfl))
        (pss_one (ps_if (pt_not (pt_val (pe_call G__law_right hr__law_right rfl T.g__law_right T.k__law_right T.b__law_right .nil pass0 (pa_cons (pv 3 (hv := Or.inl rfl)) pa_nil)))) (pss_one (ps_ret pe_bl)) pss_nil))))))
      (pss_cons (ps_if (pt_cmpR op_ne (pe_call G_surprises hr_surprises rfl T.g_surprises T.k_surprises T.b_surprises .nil pass0 (pa_cons (pv 1 (hv := Or.inl rfl)) (pa_cons (pe_tup (pa_cons pe_int (pa_cons pe_int pa_nil))) (pa_cons pe_str (pa_cons (pe_tup (pa_cons pe_int (pa_cons pe_int pa_nil))) (pa_cons pe_int (pa_cons pe_int pa_nil))))))) pe_int (nomark _)) (pss_one (ps_ret pe_bl)) pss_nil)
      (pss_one (ps_ret (pe_cmpR op_eq (pe_call G_first_surprise hr_first_surprise rfl T.g_first_surprise T.k_first_surprise T.b_first_surprise .nil pass0 (pa_cons (pv 1 (hv := Or.inl rfl)) (pa_cons (pe_tup (pa_cons pe_int (pa_cons pe_int pa_nil))) (pa_cons pe_str (pa_cons (pe_tup (pa_cons pe_int (pa_cons pe_int pa_nil))) (pa_cons pe_int (pa_cons pe_int pa_nil))))))) pe_int (nomark _))))))), ?_⟩
    try dsimp only [cxOf, Cx.nox, Cx.wish, Cx.blk]
    rw [show L2.start ["_law_script", "_law_byte", "_law_cell", "_law_deck_here", "_law_turn"] [.ref a] = [some (.ref a), none, none, none, none] from rfl]
    obtain ⟨hS, n63, hT, k⟩ := h
    walk_at "rd"
    intro kb db nkb ndb neb
    refine ⟨kb, 8, false, rfl, ⟨db, upd_same⟩, by decide, by decide, fun Ha hka kpa => ⟨rfl, ?_⟩⟩
    have sa := mk_same nkb ndb kpa
    have hS := sa.seq hS
    have hT := (Sm.of (T := T.tabs) sa).2 hT
    walk_at "rd"
    have e3 := cut_take V.int ns 4
    refine w_slL hS (fun q1 hq1 => ?_)
    rw [show (some (4 : Int)) = some ((4 : Nat) : Int) from rfl, e3]
    clear e3
    have lm : (ns.take 4).length ≤ 4 := by rw [List.length_take]; omega
    generalize ns.take 4 = ms at lm
    walk_at "rd"
    refine ⟨by show 1 ≤ sizeLine; decide, fun q2 hq2 => ?_⟩
    refine w_cat (gn upd_same hq2) upd_same (by rw [List.length_map]; exact Nat.le_trans (show ms.length + 1 ≤ 64 by omega) (by decide)) (fun q3 hq3 => ?_)
    have s0 : Sm T.tabs Ha (L2.upd (L2.upd (L2.upd Ha q1 (.lst (ms.map V.int))) q2 (.lst [V.int 0])) q3 (.lst (ms.map V.int ++ [V.int 0]))) := (((Sm.refl Ha).new hq1).new hq2).new hq3
    have hx0 : (L2.upd (L2.upd (L2.upd Ha q1 (.lst (ms.map V.int))) q2 (.lst [V.int 0])) q3 (.lst (ms.map V.int ++ [V.int 0]))) q3 = some (.lst ((ms ++ [0]).map V.int)) := by
      rw [upd_same, List.map_append]; rfl
    generalize L2.upd (L2.upd (L2.upd Ha q1 _) q2 _) q3 _ = H0 at s0 hx0 ⊢
    walk_at "rd"
    refine ⟨⟨_, SqL.of hx0⟩, for_list (K := K) (a := q3) (xs := (ms ++ [0]).map V.int) (fun i σ H' => (∃ v1 v2 v3 : Option V, σ = [some (.ref a), some (.ref kb), v1, v2, v3]) ∧ Sm T.tabs H0 H')
      ⟨⟨_, _, _, rfl⟩, Sm.refl H0⟩ (fun i σ H' _ p => SqL.of (p.2.at hx0)) ?_ ?_⟩
    · rintro i x σ H' hi ⟨⟨v1, v2, v3, rfl⟩, s1⟩
      obtain ⟨c, _, rfl⟩ := map_get hi
      walk_at "rd"
      refine ⟨c, rfl, fun p H2 hp s2 hs2 => ?_⟩
      have hT2 := (s1.trans (Sm.of s2)).2 (s0.2 hT)
      walk_at "rd"
      refine ⟨3, rfl, by decide, by decide, for_range (lo := 0) (n := 3) (fun i σ H' => (∃ v : Option V, σ = [some (.ref a), some (.ref kb), some (.int c), some (.ref p), v]) ∧ Kq T.tabs p H2 H' ∧ SrcN (3 + 2000 * i) H' p) ⟨⟨_, rfl⟩, Kq.refl H2, hs2⟩ ?_ ?_⟩
      · rintro i σ H' hi ⟨⟨v, rfl⟩, s3, hs3⟩
        walk_at "rd"
        refine ⟨p, _, rfl, hs3, by omega, s3.2 hT2, fun H4 s4 hs4 => ?_⟩
        walk_at "rd"
        refine iteF ?_
        walk_at "rd"
        exact ⟨⟨_, rfl⟩, s3.trans s4, hs4.le (by omega)⟩
      · rintro σ H' ⟨⟨v, rfl⟩, s3, hs3⟩
        exact ⟨⟨_, _, _, rfl⟩, Kq.out s1 hp (Sm.of s2) s3⟩
    · rintro σ H' ⟨⟨v1, v2, v3, rfl⟩, s1⟩
      walk_at "rd"
      have hka := (hka.sm s0).sm s1
      have hT1 := s1.2 (s0.2 hT)
      have hlt : Rel "<" := .inl rfl
      refine ⟨by show 2 ≤ sizeLine; decide, fun t1 ht1 => ?_⟩
      have s2 := (Sm.refl (T := T.tabs) H').new (o := .tup [.int 3, .int 200]) ht1
      have h1 : (L2.upd H' t1 (.tup [.int 3, .int 200])) t1 = some (.tup [.int 3, .int 200]) := upd_same
      generalize L2.upd H' t1 _ = H2 at s2 h1 ⊢
      walk_at "rd"
      refine ⟨by show 2 ≤ sizeLine; decide, fun t2 ht2 => ?_⟩
      have s3 := s2.new (o := .tup [.int 1, .int 0]) ht2
      have h1 := gn (u := .tup [.int 1, .int 0]) h1 ht2
      have h2 : (L2.upd H2 t2 (.tup [.int 1, .int 0])) t2 = some (.tup [.int 1, .int 0]) := upd_same
      generalize L2.upd H2 t2 _ = H3 at s3 h1 h2 ⊢
      walk_at "rd"
      refine ⟨kb, t1, _, t2, 0, 99, 3, 200, 1, 0, 8, false, rfl, hka.sm s3, h1, h2, sd_of (by decide) (by decide), sd_of (by decide) (by decide), sd_of (by decide) (by decide), sd_of (by decide) (by decide), hlt, sd_of (by decide) (by decide), sd_of (by decide) (by decide), fun H4 s4 => ?_⟩
      rw [su_100]
      have s4 := s3.trans (Sm.of s4)
      walk_at "rd"
      refine w_ndecT rfl ?_
      walk_at "rd"
      refine ⟨by show 2 ≤ sizeLine; decide, fun t3 ht3 => ?_⟩
      have s5 := s4.new (o := .tup [.int 1, .int 0]) ht3
      have h3 : (L2.upd H4 t3 (.tup [.int 1, .int 0])) t3 = some (.tup [.int 1, .int 0]) := upd_same
      generalize L2.upd H4 t3 _ = H5 at s5 h3 ⊢
      walk_at "rd"
      refine ⟨by show 2 ≤ sizeLine; decide, fun t4 ht4 => ?_⟩
      have s6 := s5.new (o := .tup [.int 1, .int 1]) ht4
      have h3 := gn (u := .tup [.int 1, .int 1]) h3 ht4
      have h4 : (L2.upd H5 t4 (.tup [.int 1, .int 1])) t4 = some (.tup [.int 1, .int 1]) := upd_same
      generalize L2.upd H5 t4 _ = H6 at s6 h3 h4 ⊢
      walk_at "rd"
      refine ⟨kb, t3, _, t4, 0, 999, 1, 0, 1, 1, 8, false, rfl, hka.sm s6, h3, h4, sd_of (by decide) (by decide), sd_of (by decide) (by decide), sd_of (by decide) (by decide), sd_of (by decide) (by decide), hlt, sd_of (by decide) (by decide), sd_of (by decide) (by decide), s6.2 hT1, fun v H7 hv s7 => ?_⟩
      have ev : v = .int 255 := by
        rcases hv with ⟨e1, t1⟩ | ⟨x, e1, x1, x2, px, x3⟩
        · have := tot_zero_iff.mp t1 255 (by decide) (by decide)
          rw [su_at] at this; cases this
        · rw [e1, wl_at su_255 x1 px (by rw [x3]; rfl)]
      subst ev
      walk_at "rd"
      exact k _
theorem mk_txt {K : PySem.W.Frag} {h : Heap} {mg : Str → Option Value} {C_Kind f_is_integer f_is_sixty_digits f_check_sixty_digits f_check_word f_stands f_Kind___init__ f_check_kind f_least f_first_wanted cd_first_wanted P_first_wanted f_least_passing f_quotient_total f_total_between f_check_line f_check_range f_exact_at f__check_lines f__check f__count f__gap f__less_total f__equal_total f__total f__ordered_parts f__surprises f_surprises f_first_surprise cd_first_surprise P_first_surprise f__law_deck f__law_deal f__law_choice f__law_great f__law_near f__law_some f__law_is_so f__law_right f_law a_RELATIONS : Addr} (X : K.In h) (G : h.Ns mainGlobals mg)
    {od_is_integer an_is_integer od_is_sixty_digits an_is_sixty_digits od_check_sixty_digits an_check_sixty_digits od_check_word an_check_word od_stands an_stands od_Kind___init__ an_Kind___init__ od_check_kind an_check_kind od_least an_least od_first_wanted an_first_wanted o2_first_wanted od_least_passing an_least_passing od_quotient_total an_quotient_total od_total_between an_total_between od_check_line an_check_line od_check_range an_check_range od_exact_at an_exact_at od__check_lines an__check_lines od__check an__check od__count an__count od__gap an__gap od__less_total an__less_total od__equal_total an__equal_total od__total an__total od__ordered_parts an__ordered_parts od__surprises an__surprises od_surprises an_surprises od_first_surprise an_first_surprise o2_first_surprise od__law_deck an__law_deck od__law_deal an__law_deal od__law_choice an__law_choice od__law_great an__law_great od__law_near an__law_near od__law_some an__law_some od__law_is_so an__law_is_so od__law_right an__law_right od_law an_law dd_RELATIONS : Option Addr} {sl_is_integer sl_is_sixty_digits sl_check_sixty_digits sl_check_word sl_stands sl_Kind___init__ sl_check_kind sl_least sl_first_wanted o3_first_wanted sl_least_passing sl_quotient_total sl_total_between sl_check_line sl_check_range sl_exact_at sl__check_lines sl__check sl__count sl__gap sl__less_total sl__equal_total sl__total sl__ordered_parts sl__surprises sl_surprises sl_first_surprise o3_first_surprise sl__law_deck sl__law_deal sl__law_choice sl__law_great sl__law_near sl__law_some sl__law_is_so sl__law_right sl_law sl_RELATIONS : Array (Option Value)} {oc_is_integer kV_is_integer dc_is_integer pm_is_integer cd_is_integer ct_is_integer oc_is_sixty_digits kV_is_sixty_digits dc_is_sixty_digits pm_is_sixty_digits cd_is_sixty_digits ct_is_sixty_digits oc_check_sixty_digits kV_check_sixty_digits dc_check_sixty_digits pm_check_sixty_digits cd_check_sixty_digits ct_check_sixty_digits oc_check_word kV_check_word dc_check_word pm_check_word cd_check_word ct_check_word oc_stands kV_stands dc_stands pm_stands cd_stands ct_stands oc_Kind___init__ kV_Kind___init__ dc_Kind___init__ pm_Kind___init__ cd_Kind___init__ ct_Kind___init__ oc_check_kind kV_check_kind dc_check_kind pm_check_kind cd_check_kind ct_check_kind oc_least kV_least dc_least pm_least cd_least ct_least oc_first_wanted kV_first_wanted dc_first_wanted pm_first_wanted ct_first_wanted o1_first_wanted oc_least_passing kV_least_passing dc_least_passing pm_least_passing cd_least_passing ct_least_passing oc_quotient_total kV_quotient_total dc_quotient_total pm_quotient_total cd_quotient_total ct_quotient_total oc_total_between kV_total_between dc_total_between pm_total_between cd_total_between ct_total_between oc_check_line kV_check_line dc_check_line pm_check_line cd_check_line ct_check_line oc_check_range kV_check_range dc_check_range pm_check_range cd_check_range ct_check_range oc_exact_at kV_exact_at dc_exact_at pm_exact_at cd_exact_at ct_exact_at oc__check_lines kV__check_lines dc__check_lines pm__check_lines cd__check_lines ct__check_lines oc__check kV__check dc__check pm__check cd__check ct__check oc__count kV__count dc__count pm__count cd__count ct__count oc__gap kV__gap dc__gap pm__gap cd__gap ct__gap oc__less_total kV__less_total dc__less_total pm__less_total cd__less_total ct__less_total oc__equal_total kV__equal_total dc__equal_total pm__equal_total cd__equal_total ct__equal_total oc__total kV__total dc__total pm__total cd__total ct__total oc__ordered_parts kV__ordered_parts dc__ordered_parts pm__ordered_parts cd__ordered_parts ct__ordered_parts oc__surprises kV__surprises dc__surprises pm__surprises cd__surprises ct__surprises oc_surprises kV_surprises dc_surprises pm_surprises cd_surprises ct_surprises oc_first_surprise kV_first_surprise dc_first_surprise pm_first_surprise ct_first_surprise o1_first_surprise oc__law_deck kV__law_deck dc__law_deck pm__law_deck cd__law_deck ct__law_deck oc__law_deal kV__law_deal dc__law_deal pm__law_deal cd__law_deal ct__law_deal oc__law_choice kV__law_choice dc__law_choice pm__law_choice cd__law_choice ct__law_choice oc__law_great kV__law_great dc__law_great pm__law_great cd__law_great ct__law_great oc__law_near kV__law_near dc__law_near pm__law_near cd__law_near ct__law_near oc__law_some kV__law_some dc__law_some pm__law_some cd__law_some ct__law_some oc__law_is_so kV__law_is_so dc__law_is_so pm__law_is_so cd__law_is_so ct__law_is_so oc__law_right kV__law_right dc__law_right pm__law_right cd__law_right ct__law_right oc_law kV_law dc_law pm_law cd_law ct_law : Value} {t_BEYOND_SIXTY_DIGITS t_MOST_BITS : Tok} {vs_first_wanted vs_first_surprise its_RELATIONS : Array Value} {n_RELATIONS : Nat}
    (aC_Kind : PySem.W.nsIn K mainGlobals "Kind" = some (some (.ref C_Kind)))
    (a_Kind___init__ : PySem.W.findIn K (.ref C_Kind) "__init__" = some (some (.ref f_Kind___init__)))
    (i_Kind___init__ : PySem.W.isFn K (.ref f_Kind___init__) = true)
    (pg_Kind : PySem.W.plainGet K C_Kind Str.empty = true)
    (hd_Kind : PySem.W.hasDictIn K C_Kind = true)
    (po_Kind : PySem.W.plainOver K C_Kind = true)
    (sa_Kind : PySem.W.findIn K (.ref C_Kind) "__setattr__" = some (some (.builtin "object.__setattr__")))
    (mkk_Kind : PySem.W.makesIn K C_Kind = true)
    (kc_Kind : PySem.W.keepIn K (.ref C_Kind) = true)
    (na_Kind_bits : PySem.W.findIn K (.ref C_Kind) "bits" = some none)
    (na_Kind_is_signed : PySem.W.findIn K (.ref C_Kind) "is_signed" = some none)
    (ia_Kind : PySem.W.findIn K (.ref C_Kind) "__class__" = some (some (.builtin "object.__class__")))
    (ib_Kind : PySem.W.specialIn K (.builtin "object.__class__") "__get__" = some (some (.builtin "getset_descriptor.__get__")))
    (ic_Kind : PySem.W.takesIn K (.builtin "object.__class__") = some true)
    (id_Kind : PySem.W.mroIn K C_Kind (.type "object") = some true)
    (a_is_integer : PySem.W.nsIn K mainGlobals "is_integer" = some (some (.ref f_is_integer)))
    (l_is_integer : K.lookup f_is_integer = some ⟨oc_is_integer, od_is_integer, .func (PySem.W.fnOf "is_integer" "is_integer" (defArgs s_is_integer) (defBody s_is_integer) (defScope s_is_integer) .none kV_is_integer dc_is_integer pm_is_integer an_is_integer cd_is_integer ct_is_integer), sl_is_integer⟩)
    (c_is_integer : PySem.W.codeIn K cd_is_integer "is_integer" = true)
    (k_is_integer : PySem.W.keepIn K (.ref f_is_integer) = true)
    (a_is_sixty_digits : PySem.W.nsIn K mainGlobals "is_sixty_digits" = some (some (.ref f_is_sixty_digits)))
    (l_is_sixty_digits : K.lookup f_is_sixty_digits = some ⟨oc_is_sixty_digits, od_is_sixty_digits, .func (PySem.W.fnOf "is_sixty_digits" "is_sixty_digits" (defArgs s_is_sixty_digits) (defBody s_is_sixty_digits) (defScope s_is_sixty_digits) .none kV_is_sixty_digits dc_is_sixty_digits pm_is_sixty_digits an_is_sixty_digits cd_is_sixty_digits ct_is_sixty_digits), sl_is_sixty_digits⟩)
    (c_is_sixty_digits : PySem.W.codeIn K cd_is_sixty_digits "is_sixty_digits" = true)
    (k_is_sixty_digits : PySem.W.keepIn K (.ref f_is_sixty_digits) = true)
    (a_check_sixty_digits : PySem.W.nsIn K mainGlobals "check_sixty_digits" = some (some (.ref f_check_sixty_digits)))
    (l_check_sixty_digits : K.lookup f_check_sixty_digits = some ⟨oc_check_sixty_digits, od_check_sixty_digits, .func (PySem.W.fnOf "check_sixty_digits" "check_sixty_digits" (defArgs s_check_sixty_digits) (defBody s_check_sixty_digits) (defScope s_check_sixty_digits) .none kV_check_sixty_digits dc_check_sixty_digits pm_check_sixty_digits an_check_sixty_digits cd_check_sixty_digits ct_check_sixty_digits), sl_check_sixty_digits⟩)
    (c_check_sixty_digits : PySem.W.codeIn K cd_check_sixty_digits "check_sixty_digits" = true)
    (k_check_sixty_digits : PySem.W.keepIn K (.ref f_check_sixty_digits) = true)
    (a_check_word : PySem.W.nsIn K mainGlobals "check_word" = some (some (.ref f_check_word)))
    (l_check_word : K.lookup f_check_word = some ⟨oc_check_word, od_check_word, .func (PySem.W.fnOf "check_word" "check_word" (defArgs s_check_word) (defBody s_check_word) (defScope s_check_word) .none kV_check_word dc_check_word pm_check_word an_check_word cd_check_word ct_check_word), sl_check_word⟩)
    (c_check_word : PySem.W.codeIn K cd_check_word "check_word" = true)
    (k_check_word : PySem.W.keepIn K (.ref f_check_word) = true)
    (a_stands : PySem.W.nsIn K mainGlobals "stands" = some (some (.ref f_stands)))
    (l_stands : K.lookup f_stands = some ⟨oc_stands, od_stands, .func (PySem.W.fnOf "stands" "stands" (defArgs s_stands) (defBody s_stands) (defScope s_stands) .none kV_stands dc_stands pm_stands an_stands cd_stands ct_stands), sl_stands⟩)
    (c_stands : PySem.W.codeIn K cd_stands "stands" = true)
    (k_stands : PySem.W.keepIn K (.ref f_stands) = true)
    (l_Kind___init__ : K.lookup f_Kind___init__ = some ⟨oc_Kind___init__, od_Kind___init__, .func (PySem.W.fnOf "__init__" "Kind.__init__" (defArgs s_Kind___init__) (defBody s_Kind___init__) (defScope s_Kind___init__) .none kV_Kind___init__ dc_Kind___init__ pm_Kind___init__ an_Kind___init__ cd_Kind___init__ ct_Kind___init__), sl_Kind___init__⟩)
    (c_Kind___init__ : PySem.W.codeIn K cd_Kind___init__ "Kind.__init__" = true)
    (k_Kind___init__ : PySem.W.keepIn K (.ref f_Kind___init__) = true)
    (a_check_kind : PySem.W.nsIn K mainGlobals "check_kind" = some (some (.ref f_check_kind)))
    (l_check_kind : K.lookup f_check_kind = some ⟨oc_check_kind, od_check_kind, .func (PySem.W.fnOf "check_kind" "check_kind" (defArgs s_check_kind) (defBody s_check_kind) (defScope s_check_kind) .none kV_check_kind dc_check_kind pm_check_kind an_check_kind cd_check_kind ct_check_kind), sl_check_kind⟩)
    (c_check_kind : PySem.W.codeIn K cd_check_kind "check_kind" = true)
    (k_check_kind : PySem.W.keepIn K (.ref f_check_kind) = true)
    (a_least : PySem.W.nsIn K mainGlobals "least" = some (some (.ref f_least)))
    (l_least : K.lookup f_least = some ⟨oc_least, od_least, .func (PySem.W.fnOf "least" "least" (defArgs s_least) (defBody s_least) (defScope s_least) .none kV_least dc_least pm_least an_least cd_least ct_least), sl_least⟩)
    (c_least : PySem.W.codeIn K cd_least "least" = true)
    (k_least : PySem.W.keepIn K (.ref f_least) = true)
    (a_first_wanted : PySem.W.nsIn K mainGlobals "first_wanted" = some (some (.ref f_first_wanted)))
    (l_first_wanted : K.lookup f_first_wanted = some ⟨oc_first_wanted, od_first_wanted, .func (PySem.W.fnOf "first_wanted" "first_wanted" (defArgs s_first_wanted) (defBody s_first_wanted) (defScope s_first_wanted) .none kV_first_wanted dc_first_wanted pm_first_wanted an_first_wanted (.ref cd_first_wanted) ct_first_wanted), sl_first_wanted⟩)
    (c_first_wanted : PySem.W.codeIn K (.ref cd_first_wanted) "first_wanted" = true)
    (lc_first_wanted : K.lookup cd_first_wanted = some ⟨o1_first_wanted, o2_first_wanted, .fields vs_first_wanted, o3_first_wanted⟩)
    (hv_first_wanted : vs_first_wanted[11]? = some (.ref P_first_wanted))
    (k_first_wanted : PySem.W.keepIn K (.ref f_first_wanted) = true)
    (a_least_passing : PySem.W.nsIn K mainGlobals "least_passing" = some (some (.ref f_least_passing)))
    (l_least_passing : K.lookup f_least_passing = some ⟨oc_least_passing, od_least_passing, .func (PySem.W.fnOf "least_passing" "least_passing" (defArgs s_least_passing) (defBody s_least_passing) (defScope s_least_passing) .none kV_least_passing dc_least_passing pm_least_passing an_least_passing cd_least_passing ct_least_passing), sl_least_passing⟩)
    (c_least_passing : PySem.W.codeIn K cd_least_passing "least_passing" = true)
    (k_least_passing : PySem.W.keepIn K (.ref f_least_passing) = true)
    (a_quotient_total : PySem.W.nsIn K mainGlobals "quotient_total" = some (some (.ref f_quotient_total)))
    (l_quotient_total : K.lookup f_quotient_total = some ⟨oc_quotient_total, od_quotient_total, .func (PySem.W.fnOf "quotient_total" "quotient_total" (defArgs s_quotient_total) (defBody s_quotient_total) (defScope s_quotient_total) .none kV_quotient_total dc_quotient_total pm_quotient_total an_quotient_total cd_quotient_total ct_quotient_total), sl_quotient_total⟩)
    (c_quotient_total : PySem.W.codeIn K cd_quotient_total "quotient_total" = true)
    (k_quotient_total : PySem.W.keepIn K (.ref f_quotient_total) = true)
    (a_total_between : PySem.W.nsIn K mainGlobals "total_between" = some (some (.ref f_total_between)))
    (l_total_between : K.lookup f_total_between = some ⟨oc_total_between, od_total_between, .func (PySem.W.fnOf "total_between" "total_between" (defArgs s_total_between) (defBody s_total_between) (defScope s_total_between) .none kV_total_between dc_total_between pm_total_between an_total_between cd_total_between ct_total_between), sl_total_between⟩)
    (c_total_between : PySem.W.codeIn K cd_total_between "total_between" = true)
    (k_total_between : PySem.W.keepIn K (.ref f_total_between) = true)
    (a_check_line : PySem.W.nsIn K mainGlobals "check_line" = some (some (.ref f_check_line)))
    (l_check_line : K.lookup f_check_line = some ⟨oc_check_line, od_check_line, .func (PySem.W.fnOf "check_line" "check_line" (defArgs s_check_line) (defBody s_check_line) (defScope s_check_line) .none kV_check_line dc_check_line pm_check_line an_check_line cd_check_line ct_check_line), sl_check_line⟩)
    (c_check_line : PySem.W.codeIn K cd_check_line "check_line" = true)
    (k_check_line : PySem.W.keepIn K (.ref f_check_line) = true)
    (a_check_range : PySem.W.nsIn K mainGlobals "check_range" = some (some (.ref f_check_range)))
    (l_check_range : K.lookup f_check_range = some ⟨oc_check_range, od_check_range, .func (PySem.W.fnOf "check_range" "check_range" (defArgs s_check_range) (defBody s_check_range) (defScope s_check_range) .none kV_check_range dc_check_range pm_check_range an_check_range cd_check_range ct_check_range), sl_check_range⟩)
    (c_check_range : PySem.W.codeIn K cd_check_range "check_range" = true)
    (k_check_range : PySem.W.keepIn K (.ref f_check_range) = true)
    (a_exact_at : PySem.W.nsIn K mainGlobals "exact_at" = some (some (.ref f_exact_at)))
    (l_exact_at : K.lookup f_exact_at = some ⟨oc_exact_at, od_exact_at, .func (PySem.W.fnOf "exact_at" "exact_at" (defArgs s_exact_at) (defBody s_exact_at) (defScope s_exact_at) .none kV_exact_at dc_exact_at pm_exact_at an_exact_at cd_exact_at ct_exact_at), sl_exact_at⟩)
    (c_exact_at : PySem.W.codeIn K cd_exact_at "exact_at" = true)
    (k_exact_at : PySem.W.keepIn K (.ref f_exact_at) = true)
    (a__check_lines : PySem.W.nsIn K mainGlobals "_check_lines" = some (some (.ref f__check_lines)))
    (l__check_lines : K.lookup f__check_lines = some ⟨oc__check_lines, od__check_lines, .func (PySem.W.fnOf "_check_lines" "_check_lines" (defArgs s__check_lines) (defBody s__check_lines) (defScope s__check_lines) .none kV__check_lines dc__check_lines pm__check_lines an__check_lines cd__check_lines ct__check_lines), sl__check_lines⟩)
    (c__check_lines : PySem.W.codeIn K cd__check_lines "_check_lines" = true)
    (k__check_lines : PySem.W.keepIn K (.ref f__check_lines) = true)
    (a__check : PySem.W.nsIn K mainGlobals "_check" = some (some (.ref f__check)))
    (l__check : K.lookup f__check = some ⟨oc__check, od__check, .func (PySem.W.fnOf "_check" "_check" (defArgs s__check) (defBody s__check) (defScope s__check) .none kV__check dc__check pm__check an__check cd__check ct__check), sl__check⟩)
    (c__check : PySem.W.codeIn K cd__check "_check" = true)
    (k__check : PySem.W.keepIn K (.ref f__check) = true)
    (a__count : PySem.W.nsIn K mainGlobals "_count" = some (some (.ref f__count)))
    (l__count : K.lookup f__count = some ⟨oc__count, od__count, .func (PySem.W.fnOf "_count" "_count" (defArgs s__count) (defBody s__count) (defScope s__count) .none kV__count dc__count pm__count an__count cd__count ct__count), sl__count⟩)
    (c__count : PySem.W.codeIn K cd__count "_count" = true)
    (k__count : PySem.W.keepIn K (.ref f__count) = true)
    (a__gap : PySem.W.nsIn K mainGlobals "_gap" = some (some (.ref f__gap)))
    (l__gap : K.lookup f__gap = some ⟨oc__gap, od__gap, .func (PySem.W.fnOf "_gap" "_gap" (defArgs s__gap) (defBody s__gap) (defScope s__gap) .none kV__gap dc__gap pm__gap an__gap cd__gap ct__gap), sl__gap⟩)
    (c__gap : PySem.W.codeIn K cd__gap "_gap" = true)
    (k__gap : PySem.W.keepIn K (.ref f__gap) = true)
    (a__less_total : PySem.W.nsIn K mainGlobals "_less_total" = some (some (.ref f__less_total)))
    (l__less_total : K.lookup f__less_total = some ⟨oc__less_total, od__less_total, .func (PySem.W.fnOf "_less_total" "_less_total" (defArgs s__less_total) (defBody s__less_total) (defScope s__less_total) .none kV__less_total dc__less_total pm__less_total an__less_total cd__less_total ct__less_total), sl__less_total⟩)
    (c__less_total : PySem.W.codeIn K cd__less_total "_less_total" = true)
    (k__less_total : PySem.W.keepIn K (.ref f__less_total) = true)
    (a__equal_total : PySem.W.nsIn K mainGlobals "_equal_total" = some (some (.ref f__equal_total)))
    (l__equal_total : K.lookup f__equal_total = some ⟨oc__equal_total, od__equal_total, .func (PySem.W.fnOf "_equal_total" "_equal_total" (defArgs s__equal_total) (defBody s__equal_total) (defScope s__equal_total) .none kV__equal_total dc__equal_total pm__equal_total an__equal_total cd__equal_total ct__equal_total), sl__equal_total⟩)
    (c__equal_total : PySem.W.codeIn K cd__equal_total "_equal_total" = true)
    (k__equal_total : PySem.W.keepIn K (.ref f__equal_total) = true)
    (a__total : PySem.W.nsIn K mainGlobals "_total" = some (some (.ref f__total)))
    (l__total : K.lookup f__total = some ⟨oc__total, od__total, .func (PySem.W.fnOf "_total" "_total" (defArgs s__total) (defBody s__total) (defScope s__total) .none kV__total dc__total pm__total an__total cd__total ct__total), sl__total⟩)
    (c__total : PySem.W.codeIn K cd__total "_total" = true)
    (k__total : PySem.W.keepIn K (.ref f__total) = true)
    (a__ordered_parts : PySem.W.nsIn K mainGlobals "_ordered_parts" = some (some (.ref f__ordered_parts)))
    (l__ordered_parts : K.lookup f__ordered_parts = some ⟨oc__ordered_parts, od__ordered_parts, .func (PySem.W.fnOf "_ordered_parts" "_ordered_parts" (defArgs s__ordered_parts) (defBody s__ordered_parts) (defScope s__ordered_parts) .none kV__ordered_parts dc__ordered_parts pm__ordered_parts an__ordered_parts cd__ordered_parts ct__ordered_parts), sl__ordered_parts⟩)
    (c__ordered_parts : PySem.W.codeIn K cd__ordered_parts "_ordered_parts" = true)
    (k__ordered_parts : PySem.W.keepIn K (.ref f__ordered_parts) = true)
    (a__surprises : PySem.W.nsIn K mainGlobals "_surprises" = some (some (.ref f__surprises)))
    (l__surprises : K.lookup f__surprises = some ⟨oc__surprises, od__surprises, .func (PySem.W.fnOf "_surprises" "_surprises" (defArgs s__surprises) (defBody s__surprises) (defScope s__surprises) .none kV__surprises dc__surprises pm__surprises an__surprises cd__surprises ct__surprises), sl__surprises⟩)
    (c__surprises : PySem.W.codeIn K cd__surprises "_surprises" = true)
    (k__surprises : PySem.W.keepIn K (.ref f__surprises) = true)
    (a_surprises : PySem.W.nsIn K mainGlobals "surprises" = some (some (.ref f_surprises)))
    (l_surprises : K.lookup f_surprises = some ⟨oc_surprises, od_surprises, .func (PySem.W.fnOf "surprises" "surprises" (defArgs s_surprises) (defBody s_surprises) (defScope s_surprises) .none kV_surprises dc_surprises pm_surprises an_surprises cd_surprises ct_surprises), sl_surprises⟩)
    (c_surprises : PySem.W.codeIn K cd_surprises "surprises" = true)
    (k_surprises : PySem.W.keepIn K (.ref f_surprises) = true)
    (a_first_surprise : PySem.W.nsIn K mainGlobals "first_surprise" = some (some (.ref f_first_surprise)))
    (l_first_surprise : K.lookup f_first_surprise = some ⟨oc_first_surprise, od_first_surprise, .func (PySem.W.fnOf "first_surprise" "first_surprise" (defArgs s_first_surprise) (defBody s_first_surprise) (defScope s_first_surprise) .none kV_first_surprise dc_first_surprise pm_first_surprise an_first_surprise (.ref cd_first_surprise) ct_first_surprise), sl_first_surprise⟩)
    (c_first_surprise : PySem.W.codeIn K (.ref cd_first_surprise) "first_surprise" = true)
    (lc_first_surprise : K.lookup cd_first_surprise = some ⟨o1_first_surprise, o2_first_surprise, .fields vs_first_surprise, o3_first_surprise⟩)
    (hv_first_surprise : vs_first_surprise[11]? = some (.ref P_first_surprise))
    (k_first_surprise : PySem.W.keepIn K (.ref f_first_surprise) = true)
    (a__law_deck : PySem.W.nsIn K mainGlobals "_law_deck" = some (some (.ref f__law_deck)))
    (l__law_deck : K.lookup f__law_deck = some ⟨oc__law_deck, od__law_deck, .func (PySem.W.fnOf "_law_deck" "_law_deck" (defArgs s__law_deck) (defBody s__law_deck) (defScope s__law_deck) .none kV__law_deck dc__law_deck pm__law_deck an__law_deck cd__law_deck ct__law_deck), sl__law_deck⟩)
    (c__law_deck : PySem.W.codeIn K cd__law_deck "_law_deck" = true)
    (k__law_deck : PySem.W.keepIn K (.ref f__law_deck) = true)
    (a__law_deal : PySem.W.nsIn K mainGlobals "_law_deal" = some (some (.ref f__law_deal)))
    (l__law_deal : K.lookup f__law_deal = some ⟨oc__law_deal, od__law_deal, .func (PySem.W.fnOf "_law_deal" "_law_deal" (defArgs s__law_deal) (defBody s__law_deal) (defScope s__law_deal) .none kV__law_deal dc__law_deal pm__law_deal an__law_deal cd__law_deal ct__law_deal), sl__law_deal⟩)
    (c__law_deal : PySem.W.codeIn K cd__law_deal "_law_deal" = true)
    (k__law_deal : PySem.W.keepIn K (.ref f__law_deal) = true)
    (a__law_choice : PySem.W.nsIn K mainGlobals "_law_choice" = some (some (.ref f__law_choice)))
    (l__law_choice : K.lookup f__law_choice = some ⟨oc__law_choice, od__law_choice, .func (PySem.W.fnOf "_law_choice" "_law_choice" (defArgs s__law_choice) (defBody s__law_choice) (defScope s__law_choice) .none kV__law_choice dc__law_choice pm__law_choice an__law_choice cd__law_choice ct__law_choice), sl__law_choice⟩)
    (c__law_choice : PySem.W.codeIn K cd__law_choice "_law_choice" = true)
    (k__law_choice : PySem.W.keepIn K (.ref f__law_choice) = true)
    (a__law_great : PySem.W.nsIn K mainGlobals "_law_great" = some (some (.ref f__law_great)))
    (l__law_great : K.lookup f__law_great = some ⟨oc__law_great, od__law_great, .func (PySem.W.fnOf "_law_great" "_law_great" (defArgs s__law_great) (defBody s__law_great) (defScope s__law_great) .none kV__law_great dc__law_great pm__law_great an__law_great cd__law_great ct__law_great), sl__law_great⟩)
    (c__law_great : PySem.W.codeIn K cd__law_great "_law_great" = true)
    (k__law_great : PySem.W.keepIn K (.ref f__law_great) = true)
    (a__law_near : PySem.W.nsIn K mainGlobals "_law_near" = some (some (.ref f__law_near)))
    (l__law_near : K.lookup f__law_near = some ⟨oc__law_near, od__law_near, .func (PySem.W.fnOf "_law_near" "_law_near" (defArgs s__law_near) (defBody s__law_near) (defScope s__law_near) .none kV__law_near dc__law_near pm__law_near an__law_near cd__law_near ct__law_near), sl__law_near⟩)
    (c__law_near : PySem.W.codeIn K cd__law_near "_law_near" = true)
    (k__law_near : PySem.W.keepIn K (.ref f__law_near) = true)
    (a__law_some : PySem.W.nsIn K mainGlobals "_law_some" = some (some (.ref f__law_some)))
    (l__law_some : K.lookup f__law_some = some ⟨oc__law_some, od__law_some, .func (PySem.W.fnOf "_law_some" "_law_some" (defArgs s__law_some) (defBody s__law_some) (defScope s__law_some) .none kV__law_some dc__law_some pm__law_some an__law_some cd__law_some ct__law_some), sl__law_some⟩)
    (c__law_some : PySem.W.codeIn K cd__law_some "_law_some" = true)
    (k__law_some : PySem.W.keepIn K (.ref f__law_some) = true)
    (a__law_is_so : PySem.W.nsIn K mainGlobals "_law_is_so" = some (some (.ref f__law_is_so)))
    (l__law_is_so : K.lookup f__law_is_so = some ⟨oc__law_is_so, od__law_is_so, .func (PySem.W.fnOf "_law_is_so" "_law_is_so" (defArgs s__law_is_so) (defBody s__law_is_so) (defScope s__law_is_so) .none kV__law_is_so dc__law_is_so pm__law_is_so an__law_is_so cd__law_is_so ct__law_is_so), sl__law_is_so⟩)
    (c__law_is_so : PySem.W.codeIn K cd__law_is_so "_law_is_so" = true)
    (k__law_is_so : PySem.W.keepIn K (.ref f__law_is_so) = true)
    (a__law_right : PySem.W.nsIn K mainGlobals "_law_right" = some (some (.ref f__law_right)))
    (l__law_right : K.lookup f__law_right = some ⟨oc__law_right, od__law_right, .func (PySem.W.fnOf "_law_right" "_law_right" (defArgs s__law_right) (defBody s__law_right) (defScope s__law_right) .none kV__law_right dc__law_right pm__law_right an__law_right cd__law_right ct__law_right), sl__law_right⟩)
    (c__law_right : PySem.W.codeIn K cd__law_right "_law_right" = true)
    (k__law_right : PySem.W.keepIn K (.ref f__law_right) = true)
    (a_law : PySem.W.nsIn K mainGlobals "law" = some (some (.ref f_law)))
    (l_law : K.lookup f_law = some ⟨oc_law, od_law, .func (PySem.W.fnOf "law" "law" (defArgs s_law) (defBody s_law) (defScope s_law) .none kV_law dc_law pm_law an_law cd_law ct_law), sl_law⟩)
    (c_law : PySem.W.codeIn K cd_law "law" = true)
    (k_law : PySem.W.keepIn K (.ref f_law) = true)
    (v_BEYOND_SIXTY_DIGITS : PySem.W.nsIn K mainGlobals "BEYOND_SIXTY_DIGITS" = some (some (.int 1000000000000000000000000000000000000000000000000000000000000 t_BEYOND_SIXTY_DIGITS)))
    (v_RELATIONS : PySem.W.nsIn K mainGlobals "RELATIONS" = some (some (.ref a_RELATIONS)))
    (lt_RELATIONS : K.lookup a_RELATIONS = some ⟨.type "tuple", dd_RELATIONS, .seq its_RELATIONS n_RELATIONS, sl_RELATIONS⟩)
    (sz_RELATIONS : its_RELATIONS.size ≤ sizeLine)
    (vt_RELATIONS : Vals [.str "<", .str "<=", .str "==", .str "!=", .str ">=", .str ">"] its_RELATIONS.toList)
    (v_MOST_BITS : PySem.W.nsIn K mainGlobals "MOST_BITS" = some (some (.int 128 t_MOST_BITS)))
    (z_abs : PySem.W.nsIn K mainGlobals "abs" = some none)
    (z_bool : PySem.W.nsIn K mainGlobals "bool" = some none)
    (z_divmod : PySem.W.nsIn K mainGlobals "divmod" = some none)
    (z_int : PySem.W.nsIn K mainGlobals "int" = some none)
    (z_isinstance : PySem.W.nsIn K mainGlobals "isinstance" = some none)
    (z_len : PySem.W.nsIn K mainGlobals "len" = some none)
    (z_max : PySem.W.nsIn K mainGlobals "max" = some none)
    (z_min : PySem.W.nsIn K mainGlobals "min" = some none)
    (z_range : PySem.W.nsIn K mainGlobals "range" = some none)
    (z_str : PySem.W.nsIn K mainGlobals "str" = some none)
    (z_tuple : PySem.W.nsIn K mainGlobals "tuple" = some none)
    (dist : [P_first_wanted, P_first_surprise].Nodup)
    : ∃ T : Txt K mg, TI T := by
  have F_is_integer := fun_mk (st := s_is_integer) l_is_integer c_is_integer k_is_integer
  have b_is_integer := F_is_integer.binds (ps := ["value"]) fun _ _ _ _ _ _ us hl => match us, hl with | [_], _ => rfl
  have F_is_sixty_digits := fun_mk (st := s_is_sixty_digits) l_is_sixty_digits c_is_sixty_digits k_is_sixty_digits
  have b_is_sixty_digits := F_is_sixty_digits.binds (ps := ["value"]) fun _ _ _ _ _ _ us hl => match us, hl with | [_], _ => rfl
  have F_check_sixty_digits := fun_mk (st := s_check_sixty_digits) l_check_sixty_digits c_check_sixty_digits k_check_sixty_digits
  have b_check_sixty_digits := F_check_sixty_digits.binds (ps := ["value", "argument"]) fun _ _ _ _ _ _ us hl => match us, hl with | [_, _], _ => rfl
  have F_check_word := fun_mk (st := s_check_word) l_check_word c_check_word k_check_word
  have b_check_word := F_check_word.binds (ps := ["word", "words", "argument"]) fun _ _ _ _ _ _ us hl => match us, hl with | [_, _, _], _ => rfl
  have F_stands := fun_mk (st := s_stands) l_stands c_stands k_stands
  have b_stands := F_stands.binds (ps := ["y", "relation", "z"]) fun _ _ _ _ _ _ us hl => match us, hl with | [_, _, _], _ => rfl
  have F_Kind___init__ := fun_mk (st := s_Kind___init__) l_Kind___init__ c_Kind___init__ k_Kind___init__
  have b_Kind___init__ := F_Kind___init__.binds (ps := ["self", "bits", "is_signed"]) fun _ _ _ _ _ _ us hl => match us, hl with | [_, _, _], _ => rfl
  have F_check_kind := fun_mk (st := s_check_kind) l_check_kind c_check_kind k_check_kind
  have b_check_kind := F_check_kind.binds (ps := ["kind"]) fun _ _ _ _ _ _ us hl => match us, hl with | [_], _ => rfl
  have F_least := fun_mk (st := s_least) l_least c_least k_least
  have b_least := F_least.binds (ps := ["kind"]) fun _ _ _ _ _ _ us hl => match us, hl with | [_], _ => rfl
  have F_first_wanted := funT_mk (st := s_first_wanted) l_first_wanted c_first_wanted
  have b_first_wanted := (F_first_wanted.toFun k_first_wanted).binds (ps := ["total_to", "first", "last"]) fun _ _ _ _ _ _ us hl => match us, hl with | [_, _, _], _ => rfl
  have F_least_passing := fun_mk (st := s_least_passing) l_least_passing c_least_passing k_least_passing
  have b_least_passing := F_least_passing.binds (ps := ["passes", "first", "last"]) fun _ _ _ _ _ _ us hl => match us, hl with | [_, _, _], _ => rfl
  have F_quotient_total := fun_mk (st := s_quotient_total) l_quotient_total c_quotient_total k_quotient_total
  have b_quotient_total := F_quotient_total.binds (ps := ["line", "size", "first", "last"]) fun _ _ _ _ _ _ us hl => match us, hl with | [_, _, _, _], _ => rfl
  have F_total_between := fun_mk (st := s_total_between) l_total_between c_total_between k_total_between
  have b_total_between := F_total_between.binds (ps := ["line", "size", "first", "last", "low", "high"]) fun _ _ _ _ _ _ us hl => match us, hl with | [_, _, _, _, _, _], _ => rfl
  have F_check_line := fun_mk (st := s_check_line) l_check_line c_check_line k_check_line
  have b_check_line := F_check_line.binds (ps := ["line", "argument"]) fun _ _ _ _ _ _ us hl => match us, hl with | [_, _], _ => rfl
  have F_check_range := fun_mk (st := s_check_range) l_check_range c_check_range k_check_range
  have b_check_range := F_check_range.binds (ps := ["first", "last"]) fun _ _ _ _ _ _ us hl => match us, hl with | [_, _], _ => rfl
  have F_exact_at := fun_mk (st := s_exact_at) l_exact_at c_exact_at k_exact_at
  have b_exact_at := F_exact_at.binds (ps := ["line", "x"]) fun _ _ _ _ _ _ us hl => match us, hl with | [_, _], _ => rfl
  have F__check_lines := fun_mk (st := s__check_lines) l__check_lines c__check_lines k__check_lines
  have b__check_lines := F__check_lines.binds (ps := ["kind", "one", "relation", "other"]) fun _ _ _ _ _ _ us hl => match us, hl with | [_, _, _, _], _ => rfl
  have F__check := fun_mk (st := s__check) l__check c__check k__check
  have b__check := F__check.binds (ps := ["kind", "one", "relation", "other", "first", "last"]) fun _ _ _ _ _ _ us hl => match us, hl with | [_, _, _, _, _, _], _ => rfl
  have F__count := fun_mk (st := s__count) l__count c__count k__count
  have b__count := F__count.binds (ps := ["first", "last"]) fun _ _ _ _ _ _ us hl => match us, hl with | [_, _], _ => rfl
  have F__gap := fun_mk (st := s__gap) l__gap c__gap k__gap
  have b__gap := F__gap.binds (ps := ["one", "other"]) fun _ _ _ _ _ _ us hl => match us, hl with | [_, _], _ => rfl
  have F__less_total := fun_mk (st := s__less_total) l__less_total c__less_total k__less_total
  have b__less_total := F__less_total.binds (ps := ["kind", "one", "other", "first", "last"]) fun _ _ _ _ _ _ us hl => match us, hl with | [_, _, _, _, _], _ => rfl
  have F__equal_total := fun_mk (st := s__equal_total) l__equal_total c__equal_total k__equal_total
  have b__equal_total := F__equal_total.binds (ps := ["kind", "one", "other", "first", "last"]) fun _ _ _ _ _ _ us hl => match us, hl with | [_, _, _, _, _], _ => rfl
  have F__total := fun_mk (st := s__total) l__total c__total k__total
  have b__total := F__total.binds (ps := ["kind", "one", "relation", "other", "first", "last"]) fun _ _ _ _ _ _ us hl => match us, hl with | [_, _, _, _, _, _], _ => rfl
  have F__ordered_parts := fun_mk (st := s__ordered_parts) l__ordered_parts c__ordered_parts k__ordered_parts
  have b__ordered_parts := F__ordered_parts.binds (ps := ["one", "other", "first", "last"]) fun _ _ _ _ _ _ us hl => match us, hl with | [_, _, _, _], _ => rfl
  have F__surprises := fun_mk (st := s__surprises) l__surprises c__surprises k__surprises
  have b__surprises := F__surprises.binds (ps := ["kind", "one", "relation", "other", "first", "last"]) fun _ _ _ _ _ _ us hl => match us, hl with | [_, _, _, _, _, _], _ => rfl
  have F_surprises := fun_mk (st := s_surprises) l_surprises c_surprises k_surprises
  have b_surprises := F_surprises.binds (ps := ["kind", "one", "relation", "other", "first", "last"]) fun _ _ _ _ _ _ us hl => match us, hl with | [_, _, _, _, _, _], _ => rfl
  have F_first_surprise := funT_mk (st := s_first_surprise) l_first_surprise c_first_surprise
  have b_first_surprise := (F_first_surprise.toFun k_first_surprise).binds (ps := ["kind", "one", "relation", "other", "first", "last"]) fun _ _ _ _ _ _ us hl => match us, hl with | [_, _, _, _, _, _], _ => rfl
  have F__law_deck := fun_mk (st := s__law_deck) l__law_deck c__law_deck k__law_deck
  have b__law_deck := F__law_deck.binds (ps := ["_law_cell"]) fun _ _ _ _ _ _ us hl => match us, hl with | [_], _ => rfl
  have F__law_deal := fun_mk (st := s__law_deal) l__law_deal c__law_deal k__law_deal
  have b__law_deal := F__law_deal.binds (ps := ["_law_deck_here", "_law_many"]) fun _ _ _ _ _ _ us hl => match us, hl with | [_, _], _ => rfl
  have F__law_choice := fun_mk (st := s__law_choice) l__law_choice c__law_choice k__law_choice
  have b__law_choice := F__law_choice.binds (ps := ["_law_deck_here", "_law_some_here"]) fun _ _ _ _ _ _ us hl => match us, hl with | [_, _], _ => rfl
  have F__law_great := fun_mk (st := s__law_great) l__law_great c__law_great k__law_great
  have b__law_great := F__law_great.binds (ps := ["_law_deck_here", "_law_most"]) fun _ _ _ _ _ _ us hl => match us, hl with | [_, _], _ => rfl
  have F__law_near := fun_mk (st := s__law_near) l__law_near c__law_near k__law_near
  have b__law_near := F__law_near.binds (ps := ["_law_deck_here"]) fun _ _ _ _ _ _ us hl => match us, hl with | [_], _ => rfl
  have F__law_some := fun_mk (st := s__law_some) l__law_some c__law_some k__law_some
  have b__law_some := F__law_some.binds (ps := ["_law_deck_here", "_law_size"]) fun _ _ _ _ _ _ us hl => match us, hl with | [_, _], _ => rfl
  have F__law_is_so := fun_mk (st := s__law_is_so) l__law_is_so c__law_is_so k__law_is_so
  have b__law_is_so := F__law_is_so.binds (ps := ["_law_word", "_law_gap"]) fun _ _ _ _ _ _ us hl => match us, hl with | [_, _], _ => rfl
  have F__law_right := fun_mk (st := s__law_right) l__law_right c__law_right k__law_right
  have b__law_right := F__law_right.binds (ps := ["_law_deck_here"]) fun _ _ _ _ _ _ us hl => match us, hl with | [_], _ => rfl
  have F_law := fun_mk (st := s_law) l_law c_law k_law
  have b_law := F_law.binds (ps := ["_law_script"]) fun _ _ _ _ _ _ us hl => match us, hl with | [_], _ => rfl
  exact ⟨{
    C_Kind := C_Kind
    cl_Kind := ⟨pg_Kind, hd_Kind, po_Kind, sa_Kind⟩
    g_Kind := PySem.W.mg_of X G aC_Kind
    na_Kind_bits := na_Kind_bits
    na_Kind_is_signed := na_Kind_is_signed
    ia_Kind := ia_Kind
    ib_Kind := ib_Kind
    ic_Kind := ic_Kind
    id_Kind := id_Kind
    mk_Kind := ⟨mkk_Kind, a_Kind___init__, i_Kind___init__, kc_Kind⟩
    f_is_integer := f_is_integer
    fd_is_integer := _
    F_is_integer := F_is_integer
    b_is_integer := b_is_integer
    g_is_integer := PySem.W.mg_of X G a_is_integer
    k_is_integer := k_is_integer
    f_is_sixty_digits := f_is_sixty_digits
    fd_is_sixty_digits := _
    F_is_sixty_digits := F_is_sixty_digits
    b_is_sixty_digits := b_is_sixty_digits
    g_is_sixty_digits := PySem.W.mg_of X G a_is_sixty_digits
    k_is_sixty_digits := k_is_sixty_digits
    f_check_sixty_digits := f_check_sixty_digits
    fd_check_sixty_digits := _
    F_check_sixty_digits := F_check_sixty_digits
    b_check_sixty_digits := b_check_sixty_digits
    g_check_sixty_digits := PySem.W.mg_of X G a_check_sixty_digits
    k_check_sixty_digits := k_check_sixty_digits
    f_check_word := f_check_word
    fd_check_word := _
    F_check_word := F_check_word
    b_check_word := b_check_word
    g_check_word := PySem.W.mg_of X G a_check_word
    k_check_word := k_check_word
    f_stands := f_stands
    fd_stands := _
    F_stands := F_stands
    b_stands := b_stands
    g_stands := PySem.W.mg_of X G a_stands
    k_stands := k_stands
    f_Kind___init__ := f_Kind___init__
    fd_Kind___init__ := _
    F_Kind___init__ := F_Kind___init__
    b_Kind___init__ := b_Kind___init__
    f_check_kind := f_check_kind
    fd_check_kind := _
    F_check_kind := F_check_kind
    b_check_kind := b_check_kind
    g_check_kind := PySem.W.mg_of X G a_check_kind
    k_check_kind := k_check_kind
    f_least := f_least
    fd_least := _
    F_least := F_least
    b_least := b_least
    g_least := PySem.W.mg_of X G a_least
    k_least := k_least
    c_first_wanted := cd_first_wanted
    P_first_wanted := P_first_wanted
    mT_first_wanted := (.head _)
    uT_first_wanted := tab_uniq (l := [(P_first_wanted, ("first_wanted" : Str) ++ ".<locals>." ++ "<lambda>"), (P_first_surprise, ("first_surprise" : Str) ++ ".<locals>." ++ "<lambda>")]) dist (.head _)
    f_first_wanted := f_first_wanted
    fd_first_wanted := _
    F_first_wanted := F_first_wanted
    b_first_wanted := b_first_wanted
    g_first_wanted := PySem.W.mg_of X G a_first_wanted
    k_first_wanted := k_first_wanted
    f_least_passing := f_least_passing
    fd_least_passing := _
    F_least_passing := F_least_passing
    b_least_passing := b_least_passing
    g_least_passing := PySem.W.mg_of X G a_least_passing
    k_least_passing := k_least_passing
    f_quotient_total := f_quotient_total
    fd_quotient_total := _
    F_quotient_total := F_quotient_total
    b_quotient_total := b_quotient_total
    g_quotient_total := PySem.W.mg_of X G a_quotient_total
    k_quotient_total := k_quotient_total
    f_total_between := f_total_between
    fd_total_between := _
    F_total_between := F_total_between
    b_total_between := b_total_between
    g_total_between := PySem.W.mg_of X G a_total_between
    k_total_between := k_total_between
    f_check_line := f_check_line
    fd_check_line := _
    F_check_line := F_check_line
    b_check_line := b_check_line
    g_check_line := PySem.W.mg_of X G a_check_line
    k_check_line := k_check_line
    f_check_range := f_check_range
    fd_check_range := _
    F_check_range := F_check_range
    b_check_range := b_check_range
    g_check_range := PySem.W.mg_of X G a_check_range
    k_check_range := k_check_range
    f_exact_at := f_exact_at
    fd_exact_at := _
    F_exact_at := F_exact_at
    b_exact_at := b_exact_at
    g_exact_at := PySem.W.mg_of X G a_exact_at
    k_exact_at := k_exact_at
    f__check_lines := f__check_lines
    fd__check_lines := _
    F__check_lines := F__check_lines
    b__check_lines := b__check_lines
    g__check_lines := PySem.W.mg_of X G a__check_lines
    k__check_lines := k__check_lines
    f__check := f__check
    fd__check := _
    F__check := F__check
    b__check := b__check
    g__check := PySem.W.mg_of X G a__check
    k__check := k__check
    f__count := f__count
    fd__count := _
    F__count := F__count
    b__count := b__count
    g__count := PySem.W.mg_of X G a__count
    k__count := k__count
    f__gap := f__gap
    fd__gap := _
    F__gap := F__gap
    b__gap := b__gap
    g__gap := PySem.W.mg_of X G a__gap
    k__gap := k__gap
    f__less_total := f__less_total
    fd__less_total := _
    F__less_total := F__less_total
    b__less_total := b__less_total
    g__less_total := PySem.W.mg_of X G a__less_total
    k__less_total := k__less_total
    f__equal_total := f__equal_total
    fd__equal_total := _
    F__equal_total := F__equal_total
    b__equal_total := b__equal_total
    g__equal_total := PySem.W.mg_of X G a__equal_total
    k__equal_total := k__equal_total
    f__total := f__total
    fd__total := _
    F__total := F__total
    b__total := b__total
    g__total := PySem.W.mg_of X G a__total
    k__total := k__total
    f__ordered_parts := f__ordered_parts
    fd__ordered_parts := _
    F__ordered_parts := F__ordered_parts
    b__ordered_parts := b__ordered_parts
    g__ordered_parts := PySem.W.mg_of X G a__ordered_parts
    k__ordered_parts := k__ordered_parts
    f__surprises := f__surprises
    fd__surprises := _
    F__surprises := F__surprises
    b__surprises := b__surprises
    g__surprises := PySem.W.mg_of X G a__surprises
    k__surprises := k__surprises
    f_surprises := f_surprises
    fd_surprises := _
    F_surprises := F_surprises
    b_surprises := b_surprises
    g_surprises := PySem.W.mg_of X G a_surprises
    k_surprises := k_surprises
    c_first_surprise := cd_first_surprise
    P_first_surprise := P_first_surprise
    mT_first_surprise := (.tail _ (.head _))
    uT_first_surprise := tab_uniq (l := [(P_first_wanted, ("first_wanted" : Str) ++ ".<locals>." ++ "<lambda>"), (P_first_surprise, ("first_surprise" : Str) ++ ".<locals>." ++ "<lambda>")]) dist (.tail _ (.head _))
    f_first_surprise := f_first_surprise
    fd_first_surprise := _
    F_first_surprise := F_first_surprise
    b_first_surprise := b_first_surprise
    g_first_surprise := PySem.W.mg_of X G a_first_surprise
    k_first_surprise := k_first_surprise
    f__law_deck := f__law_deck
    fd__law_deck := _
    F__law_deck := F__law_deck
    b__law_deck := b__law_deck
    g__law_deck := PySem.W.mg_of X G a__law_deck
    k__law_deck := k__law_deck
    f__law_deal := f__law_deal
    fd__law_deal := _
    F__law_deal := F__law_deal
    b__law_deal := b__law_deal
    g__law_deal := PySem.W.mg_of X G a__law_deal
    k__law_deal := k__law_deal
    f__law_choice := f__law_choice
    fd__law_choice := _
    F__law_choice := F__law_choice
    b__law_choice := b__law_choice
    g__law_choice := PySem.W.mg_of X G a__law_choice
    k__law_choice := k__law_choice
    f__law_great := f__law_great
    fd__law_great := _
    F__law_great := F__law_great
    b__law_great := b__law_great
    g__law_great := PySem.W.mg_of X G a__law_great
    k__law_great := k__law_great
    f__law_near := f__law_near
    fd__law_near := _
    F__law_near := F__law_near
    b__law_near := b__law_near
    g__law_near := PySem.W.mg_of X G a__law_near
    k__law_near := k__law_near
    f__law_some := f__law_some
    fd__law_some := _
    F__law_some := F__law_some
    b__law_some := b__law_some
    g__law_some := PySem.W.mg_of X G a__law_some
    k__law_some := k__law_some
    f__law_is_so := f__law_is_so
    fd__law_is_so := _
    F__law_is_so := F__law_is_so
    b__law_is_so := b__law_is_so
    g__law_is_so := PySem.W.mg_of X G a__law_is_so
    k__law_is_so := k__law_is_so
    f__law_right := f__law_right
    fd__law_right := _
    F__law_right := F__law_right
    b__law_right := b__law_right
    g__law_right := PySem.W.mg_of X G a__law_right
    k__law_right := k__law_right
    f_law := f_law
    fd_law := _
    F_law := F_law
    b_law := b_law
    g_law := PySem.W.mg_of X G a_law
    k_law := k_law
    t_BEYOND_SIXTY_DIGITS := t_BEYOND_SIXTY_DIGITS
    g_BEYOND_SIXTY_DIGITS := PySem.W.mg_of X G v_BEYOND_SIXTY_DIGITS
    a_RELATIONS := a_RELATIONS
    g_RELATIONS := PySem.W.mg_of X G v_RELATIONS
    q_RELATIONS := fun H => .inr ⟨_, _, _, lt_RELATIONS, rfl, rfl, sz_RELATIONS, vt_RELATIONS⟩
    t_MOST_BITS := t_MOST_BITS
    g_MOST_BITS := PySem.W.mg_of X G v_MOST_BITS
    n_abs := PySem.W.mg_none_of X G z_abs
    n_bool := PySem.W.mg_none_of X G z_bool
    n_divmod := PySem.W.mg_none_of X G z_divmod
    n_int := PySem.W.mg_none_of X G z_int
    n_isinstance := PySem.W.mg_none_of X G z_isinstance
    n_len := PySem.W.mg_none_of X G z_len
    n_max := PySem.W.mg_none_of X G z_max
    n_min := PySem.W.mg_none_of X G z_min
    n_range := PySem.W.mg_none_of X G z_range
    n_str := PySem.W.mg_none_of X G z_str
    n_tuple := PySem.W.mg_none_of X G z_tuple
    kb_surprises_0_last_first_other_relation_one_kind := kbinds_of F_surprises (fun _ _ _ _ _ _ us ws hl => match us, ws, hl with | [], [_, _, _, _, _, _], _ => rfl) rel_kb_surprises_0_last_first_other_relation_one_kind
    kb_first_surprise_0_last_first_other_relation_one_kind := kbinds_of (F_first_surprise.toFun k_first_surprise) (fun _ _ _ _ _ _ us ws hl => match us, ws, hl with | [], [_, _, _, _, _, _], _ => rfl) rel_kb_first_surprise_0_last_first_other_relation_one_kind
    bl_law := fun s v => .of_eq rfl
    tabs := [(P_first_wanted, ("first_wanted" : Str) ++ ".<locals>." ++ "<lambda>"), (P_first_surprise, ("first_surprise" : Str) ++ ".<locals>." ++ "<lambda>")] },
    { eq := rfl, ti_first_wanted := tabIn_of a_first_wanted l_first_wanted rfl lc_first_wanted hv_first_wanted, ti_first_surprise := tabIn_of a_first_surprise l_first_surprise rfl lc_first_surprise hv_first_surprise }⟩
theorem walk {l : PySem.W.OpenLaw} {q : Program} {loose : List Str} {XP : (Str → Option Value) → Heap → Prop} {YP : World → Heap → Prop} {d : DefRec} {K : Params → PySem.W.Frag} (hn : l.most = some 63) (hdf : d.params.defaults = []) (hnm : d.name = "law")
    (hY : ∀ (w : World) (h : Heap), YP w h → (K w.params).In h)
    (hr_first_wanted : ((PyProof.Rows.recsOf q).find? (fun e => e.name == ("first_wanted" : Str))).isSome = true)
    (hr_first_surprise : ((PyProof.Rows.recsOf q).find? (fun e => e.name == ("first_surprise" : Str))).isSome = true)
    (NT : ∀ w : World, PySem.W.noTabs (K w.params) = true)
    (F : ∀ (w : World) (mg : Str → Option Value) (h : Heap), (K w.params).In h → h.Ns mainGlobals mg → ∃ T : Txt (K w.params) mg, TI T) :
    PySem.W.WalkO q loose XP YP l.row.toRowW d [] (fun f vs => PySem.call f vs) :=
  Fw.walk_tabs (n := 63) (k := 19) (x := "_law_script") (CX := fun _ => CX0) hn (by decide) hdf ⟨rfl, by decide, by decide⟩ hY
    (fun w mg fa h tb KX G hm => by
      obtain ⟨T, I⟩ := F w mg h KX G
      have e : T.f_law = fa := by
        have q := T.g_law.symm.trans (hnm ▸ hm)
        cases q; rfl
      subst e
      have q_first_wanted := tb _ _ _ hr_first_wanted I.ti_first_wanted
      have q_first_surprise := tb _ _ _ hr_first_surprise I.ti_first_surprise
      refine ⟨T.fd_law, [(T.c_first_wanted, T.P_first_wanted), (T.c_first_surprise, T.P_first_surprise)], sp_law (K w.params) T.C_Kind T.tabs, ?_, ?_, ?_, T.bl_law, fun H a ns hl _ hH hS => ⟨a, ns, rfl, hS, hl, ?_, fun _ => rfl⟩, fun base _ _ TB => ok_law T ⟨TB _ (.head _), TB _ (.tail _ (.head _))⟩⟩
      · intro p hp
        rcases List.mem_cons.mp hp with rfl | hp
        · exact q_first_wanted.2
        rcases List.mem_cons.mp hp with rfl | hp
        · exact q_first_surprise.2
        cases hp
      · intro p hp
        rcases List.mem_cons.mp hp with rfl | hp
        · exact no_tab KX q_first_wanted.2 (NT w)
        rcases List.mem_cons.mp hp with rfl | hp
        · exact no_tab KX q_first_surprise.2 (NT w)
        cases hp
      · intro p hp
        rcases List.mem_cons.mp hp with rfl | hp
        · exact q_first_wanted.1
        rcases List.mem_cons.mp hp with rfl | hp
        · exact q_first_surprise.1
        cases hp
      · rw [I.eq]
        intro p hp
        rcases List.mem_cons.mp hp with rfl | hp
        · exact LamX.TabS.nil (hH (T.c_first_wanted, T.P_first_wanted) (.head _))
        rcases List.mem_cons.mp hp with rfl | hp
        · exact LamX.TabS.nil (hH (T.c_first_surprise, T.P_first_surprise) (.tail _ (.head _)))
        cases hp)
    fun _ _ _ _ _ z => z
end Fw
open PySem PySem.W PyProof.Rows
set_option maxRecDepth 100000 in
set_option maxHeartbeats 0 in
theorem PySem.Challenge.cw_farwrap_k15_surprises_of_short_ranges_holds : PySem.Challenge.rw_farwrap_k15_surprises_of_short_ranges.Holds := by
  w_on; o_law; k_head; (case hw => w_witness2)
  k_fill
  refine Fw.walk (l := PySem.Challenge.rw_farwrap_k15_surprises_of_short_ranges) rfl rfl rfl (fun w h Y => PySem.W.km_in_of Y) (by decide +kernel) (by decide +kernel) (fun _ => rfl) ?F
  case F =>
    intro w mg h KX G
    refine' Fw.mk_txt KX G ?aC_Kind ?a_Kind___init__ ?i_Kind___init__ ?pg_Kind ?hd_Kind ?po_Kind ?sa_Kind ?mkk_Kind ?kc_Kind ?na_Kind_bits ?na_Kind_is_signed ?ia_Kind ?ib_Kind ?ic_Kind ?id_Kind ?a_is_integer ?l_is_integer ?c_is_integer ?k_is_integer ?a_is_sixty_digits ?l_is_sixty_digits ?c_is_sixty_digits ?k_is_sixty_digits ?a_check_sixty_digits ?l_check_sixty_digits ?c_check_sixty_digits ?k_check_sixty_digits ?a_check_word ?l_check_word ?c_check_word ?k_check_word ?a_stands ?l_stands ?c_stands ?k_stands ?l_Kind___init__ ?c_Kind___init__ ?k_Kind___init__ ?a_check_kind ?l_check_kind ?c_check_kind ?k_check_kind ?a_least ?l_least ?c_least ?k_least ?a_first_wanted ?l_first_wanted ?c_first_wanted ?lc_first_wanted ?hv_first_wanted ?k_first_wanted ?a_least_passing ?l_least_passing ?c_least_passing ?k_least_passing ?a_quotient_total ?l_quotient_total ?c_quotient_total ?k_quotient_total ?a_total_between ?l_total_between ?c_total_between ?k_total_between ?a_check_line ?l_check_line ?c_check_line ?k_check_line ?a_check_range ?l_check_range ?c_check_range ?k_check_range ?a_exact_at ?l_exact_at ?c_exact_at ?k_exact_at ?a__check_lines ?l__check_lines ?c__check_lines ?k__check_lines ?a__check ?l__check ?c__check ?k__check ?a__count ?l__count ?c__count ?k__count ?a__gap ?l__gap ?c__gap ?k__gap ?a__less_total ?l__less_total ?c__less_total ?k__less_total ?a__equal_total ?l__equal_total ?c__equal_total ?k__equal_total ?a__total ?l__total ?c__total ?k__total ?a__ordered_parts ?l__ordered_parts ?c__ordered_parts ?k__ordered_parts ?a__surprises ?l__surprises ?c__surprises ?k__surprises ?a_surprises ?l_surprises ?c_surprises ?k_surprises ?a_first_surprise ?l_first_surprise ?c_first_surprise ?lc_first_surprise ?hv_first_surprise ?k_first_surprise ?a__law_deck ?l__law_deck ?c__law_deck ?k__law_deck ?a__law_deal ?l__law_deal ?c__law_deal ?k__law_deal ?a__law_choice ?l__law_choice ?c__law_choice ?k__law_choice ?a__law_great ?l__law_great ?c__law_great ?k__law_great ?a__law_near ?l__law_near ?c__law_near ?k__law_near ?a__law_some ?l__law_some ?c__law_some ?k__law_some ?a__law_is_so ?l__law_is_so ?c__law_is_so ?k__law_is_so ?a__law_right ?l__law_right ?c__law_right ?k__law_right ?a_law ?l_law ?c_law ?k_law ?v_BEYOND_SIXTY_DIGITS ?v_RELATIONS ?lt_RELATIONS ?sz_RELATIONS ?vt_RELATIONS ?v_MOST_BITS ?z_abs ?z_bool ?z_divmod ?z_int ?z_isinstance ?z_len ?z_max ?z_min ?z_range ?z_str ?z_tuple ?dist
    (case aC_Kind => k_is)
    (case a_Kind___init__ => k_is)
    (case i_Kind___init__ => k_is)
    (case pg_Kind => k_is)
    (case hd_Kind => k_is)
    (case po_Kind => k_is)
    (case sa_Kind => k_is)
    (case mkk_Kind => k_is)
    (case kc_Kind => k_is)
    (case na_Kind_bits => k_is)
    (case na_Kind_is_signed => k_is)
    (case ia_Kind => k_is)
    (case ib_Kind => k_is)
    (case ic_Kind => k_is)
    (case id_Kind => k_is)
    (case a_is_integer => k_is)
    (case l_is_integer => k_is)
    (case c_is_integer => k_is)
    (case k_is_integer => k_is)
    (case a_is_sixty_digits => k_is)
    (case l_is_sixty_digits => k_is)
    (case c_is_sixty_digits => k_is)
    (case k_is_sixty_digits => k_is)
    (case a_check_sixty_digits => k_is)
    (case l_check_sixty_digits => k_is)
    (case c_check_sixty_digits => k_is)
    (case k_check_sixty_digits => k_is)
    (case a_check_word => k_is)
    (case l_check_word => k_is)
    (case c_check_word => k_is)
    (case k_check_word => k_is)
    (case a_stands => k_is)
    (case l_stands => k_is)
    (case c_stands => k_is)
    (case k_stands => k_is)
    (case l_Kind___init__ => k_is)
    (case c_Kind___init__ => k_is)
    (case k_Kind___init__ => k_is)
    (case a_check_kind => k_is)
    (case l_check_kind => k_is)
    (case c_check_kind => k_is)
    (case k_check_kind => k_is)
    (case a_least => k_is)
    (case l_least => k_is)
    (case c_least => k_is)
    (case k_least => k_is)
    (case a_first_wanted => k_is)
    (case l_first_wanted => k_is)
    (case c_first_wanted => k_is)
    (case lc_first_wanted => k_is)
    (case hv_first_wanted => exact rfl)
    (case k_first_wanted => k_is)
    (case a_least_passing => k_is)
    (case l_least_passing => k_is)
    (case c_least_passing => k_is)
    (case k_least_passing => k_is)
    (case a_quotient_total => k_is)
    (case l_quotient_total => k_is)
    (case c_quotient_total => k_is)
    (case k_quotient_total => k_is)
    (case a_total_between => k_is)
    (case l_total_between => k_is)
    (case c_total_between => k_is)
    (case k_total_between => k_is)
    (case a_check_line => k_is)
    (case l_check_line => k_is)
    (case c_check_line => k_is)
    (case k_check_line => k_is)
    (case a_check_range => k_is)
    (case l_check_range => k_is)
    (case c_check_range => k_is)
    (case k_check_range => k_is)
    (case a_exact_at => k_is)
    (case l_exact_at => k_is)
    (case c_exact_at => k_is)
    (case k_exact_at => k_is)
    (case a__check_lines => k_is)
    (case l__check_lines => k_is)
    (case c__check_lines => k_is)
    (case k__check_lines => k_is)
    (case a__check => k_is)
    (case l__check => k_is)
    (case c__check => k_is)
    (case k__check => k_is)
    (case a__count => k_is)
    (case l__count => k_is)
    (case c__count => k_is)
    (case k__count => k_is)
    (case a__gap => k_is)
    (case l__gap => k_is)
    (case c__gap => k_is)
    (case k__gap => k_is)
    (case a__less_total => k_is)
    (case l__less_total => k_is)
    (case c__less_total => k_is)
    (case k__less_total => k_is)
    (case a__equal_total => k_is)
    (case l__equal_total => k_is)
    (case c__equal_total => k_is)
    (case k__equal_total => k_is)
    (case a__total => k_is)
    (case l__total => k_is)
    (case c__total => k_is)
    (case k__total => k_is)
    (case a__ordered_parts => k_is)
    (case l__ordered_parts => k_is)
    (case c__ordered_parts => k_is)
    (case k__ordered_parts => k_is)
    (case a__surprises => k_is)
    (case l__surprises => k_is)
    (case c__surprises => k_is)
    (case k__surprises => k_is)
    (case a_surprises => k_is)
    (case l_surprises => k_is)
    (case c_surprises => k_is)
    (case k_surprises => k_is)
    (case a_first_surprise => k_is)
    (case l_first_surprise => k_is)
    (case c_first_surprise => k_is)
    (case lc_first_surprise => k_is)
    (case hv_first_surprise => exact rfl)
    (case k_first_surprise => k_is)
    (case a__law_deck => k_is)
    (case l__law_deck => k_is)
    (case c__law_deck => k_is)
    (case k__law_deck => k_is)
    (case a__law_deal => k_is)
    (case l__law_deal => k_is)
    (case c__law_deal => k_is)
    (case k__law_deal => k_is)
    (case a__law_choice => k_is)
    (case l__law_choice => k_is)
    (case c__law_choice => k_is)
    (case k__law_choice => k_is)
    (case a__law_great => k_is)
    (case l__law_great => k_is)
    (case c__law_great => k_is)
    (case k__law_great => k_is)
    (case a__law_near => k_is)
    (case l__law_near => k_is)
    (case c__law_near => k_is)
    (case k__law_near => k_is)
    (case a__law_some => k_is)
    (case l__law_some => k_is)
    (case c__law_some => k_is)
    (case k__law_some => k_is)
    (case a__law_is_so => k_is)
    (case l__law_is_so => k_is)
    (case c__law_is_so => k_is)
    (case k__law_is_so => k_is)
    (case a__law_right => k_is)
    (case l__law_right => k_is)
    (case c__law_right => k_is)
    (case k__law_right => k_is)
    (case a_law => k_is)
    (case l_law => k_is)
    (case c_law => k_is)
    (case k_law => k_is)
    (case v_BEYOND_SIXTY_DIGITS => k_is)
    (case v_RELATIONS => k_is)
    (case lt_RELATIONS => k_is)
    (case sz_RELATIONS => exact (by decide))
    (case vt_RELATIONS => exact (.cons ⟨_, rfl⟩ (.cons ⟨_, rfl⟩ (.cons ⟨_, rfl⟩ (.cons ⟨_, rfl⟩ (.cons ⟨_, rfl⟩ (.cons ⟨_, rfl⟩ .nil)))))))
    (case v_MOST_BITS => k_is)
    (case z_abs => k_is)
    (case z_bool => k_is)
    (case z_divmod => k_is)
    (case z_int => k_is)
    (case z_isinstance => k_is)
    (case z_len => k_is)
    (case z_max => k_is)
    (case z_min => k_is)
    (case z_range => k_is)
    (case z_str => k_is)
    (case z_tuple => k_is)
    (case dist => exact (by decide))
