import PyProof.Rows.All
import Wide.All
import OpenK.AllK
import Wide.FinOn
import PySem.Challenge.RW_rulevoices_k06_whole_parts
import HandS.Zip
import HandS.DictTup
import HandS.ForMost
import HandS.AnyAll
import HandS.GenList
import PyProof.TupleOfGen
import PyProof.JoinWalk
import HandS.JoinGen
import HandS.Lambda
import HandS.TupAny
import HandS.Dict
import HandS.Iter
import HandS.TupSets
import HandS.DictComp
import HandS.Style
import PyProof.P3In
import PyProof.StrBlock2
import HandS.Text
import HandS.IsInst
import PyProof.Rows.StrTemp
import HandS.EndTab
import HandS.Words
import KE.GoesEnum
import HandS.CallLocal
import HandS.More
import PyProof.SumAny
import KE.KMathGC
import HandS.DictSub
import KE.KRevSl
import PyProof.Rows.SumAny
import HandS.SortInts
import HandS.Small
import HandS.TupLen
import HandS.SetBool
import HandS.Strs
import HandS.Conv
import HandS.ExcOwn
import KE.KDflt
import HandS.ExcIs
import HandS.TupMul
import HandS.ExcCtx
import HandS.Hot
import HandS.HotCalls
import PyProof.ZipIter
import PyProof.CallType
import PyProof.Walk
import PyProof.WalkLemmas
import PyProof.RangeIter
import PyProof.RulesTry
import PyProof.TupleOfSeq
import HandS.ListItems
import PyProof.NeKinds
set_option Elab.async false
set_option linter.all false
set_option maxRecDepth 100000
set_option maxHeartbeats 1000000
namespace LZ
open PySem
open PySem.Sem (wp)
open RZ
section
variable {prog : Program} {w : World} {A : Around} {E : Value → Shared → Prop} {s : Shared}
theorem nextOf_ascii_item {it : Addr} {x : Str} {t : Tok} {i c : Nat} {Q : Value → Shared → Prop} (hit : s.heap.IsStrIter it "str_ascii_iterator" x t i) (hx : x.cps[i]? = some c)
    (hQ : ∀ h', h'.IsStrIter it "str_ascii_iterator" x t (i + 1) → Heap.SameBut it s.heap h' → Q (.str ⟨#[c]⟩ s.toks) { s with heap := h', toks := s.toks + 1 }) :
    wpAny (model prog w) A (Builtin.SmallTypes.nextOf (.ref it)) Q E s := by
  obtain ⟨o, ho, hc, hd⟩ := id hit
  unfold Builtin.SmallTypes.nextOf
  refine wpAny_bind (wpAny_callSpecial?_slot (name := Str.ofString "__next__") hit.typeIs F.slot_str_ascii_iterator_next
    (wpAny_call_entry F.slot_str_ascii_iterator_next hit.typeIs F.entry_str_ascii_iterator_next ?_ (F.args_str_ascii_iterator_next_1 _)))
  show wpAny _ _ (field (.ref it) 0 >>= _) _ _ s
  refine wpAny_bind (wpAny_field ho hd (x := .str x t) rfl ?_)
  show wpAny _ _ (field (.ref it) 1 >>= _) _ _ s
  refine wpAny_bind (wpAny_field ho hd (x := .int i 0) rfl ?_)
  simp only [Int.toNat_natCast, hx]
  refine wpAny_bind (wpAny_setField ho hd (by simp) (wpAny_bind (wpAny_mkStr (wpAny_pure ⟨_, rfl, wpAny_pure (hQ _ ?_ (Heap.SameBut.update ..))⟩) (by show 1 ≤ sizeLine; decide))))
  exact ⟨_, Heap.get?_update_self _ ho (Obj.isFreed_of_fields (Obj.data_mapFields hd _)), (Obj.cls_mapFields ..).trans hc, by
    rw [Obj.data_mapFields hd]; simp [rawInt]⟩
/-- what lies apart -/
structure Apart (z TI TO i1 i2 l : Addr) : Prop where
  TIz : TI ≠ z
  TOz : TO ≠ z
  i1z : i1 ≠ z
  i2z : i2 ≠ z
  TIi1 : TI ≠ i1
  TIi2 : TI ≠ i2
  TITO : TI ≠ TO
  TOi1 : TO ≠ i1
  TOi2 : TO ≠ i2
  i12 : i1 ≠ i2
  lz : l ≠ z
  lTO : l ≠ TO
  li1 : l ≠ i1
  li2 : l ≠ i2
abbrev IsZ (h : Heap) (z TI TO : Addr) (f0 : Value) (f1 : Bool) : Prop :=
  h.get? z = some { cls := .type "zip", dict := none, data := .fields #[f0, .bool f1, .bool false, .ref TI, .ref TO], slots := #[] }
/-- the first turn: the zip's own tuple is free -/
theorem first_item {z TI TO i1 i2 l : Addr} {k1 k2 : Nat} {xs : Array Value} {x a b : Value} {y : Str} {t : Tok} {c : Nat} {Q : Value → Shared → Prop} (D : Apart z TI TO i1 i2 l)
    (hz : IsZ s.heap z TI TO .none false) (hTI : IsPair s.heap TI (.ref i1) (.ref i2)) (hTO : IsPair s.heap TO a b)
    (h1 : s.heap.IsListIter i1 l k1) (h2 : s.heap.IsStrIter i2 "str_ascii_iterator" y t k2) (hl : s.heap.IsList l xs) (hx : xs[k1]? = some x) (hy : y.cps[k2]? = some c)
    (hQ : ∀ h', IsZ h' z TI TO (rawInt s.heap.objs.size) false → h'.IsListIter i1 l (k1 + 1) → h'.IsStrIter i2 "str_ascii_iterator" y t (k2 + 1) → IsPair h' s.heap.objs.size x (.str ⟨#[c]⟩ s.toks) → h'.objs.size = s.heap.objs.size + 1 →
      (∀ d o, d ≠ z → d ≠ TO → d ≠ i1 → d ≠ i2 → s.heap.get? d = some o → h'.get? d = some o) → Q (.ref s.heap.objs.size) { s with heap := h', toks := s.toks + 1 }) :
    wpAny (model prog w) A (Builtin.«zip.__next__» ⟨[.ref z], []⟩) (fun fin s' => ∃ v, fin = .done (.ret v) ∧ Q v s') E s := by
  show wpAny _ _ (field (.ref z) 2 >>= _) _ _ _
  refine wpAny_bind (wpAny_field hz rfl (x := .bool false) rfl ?_)
  show wpAny _ _ (field (.ref z) 3 >>= _) _ _ _
  refine wpAny_bind (wpAny_field hz rfl (x := .ref TI) rfl ?_)
  refine wpAny_bind (wpAny_seqItems hTI rfl ?_)
  show wpAny _ _ (Builtin.SmallTypes.ownedTupleIsFree (.ref z) >>= _) _ _ _
  refine wpAny_bind ?_
  unfold Builtin.SmallTypes.ownedTupleIsFree
  refine wpAny_bind (wpAny_field hz rfl (x := .none) rfl (wpAny_pure ?_))
  simp only [if_true]
  refine wpAny_bind (wpAny_rule ?_)
  refine wpAny_bind (wpAny_field hz rfl (x := .ref TO) rfl ?_)
  refine wpAny_bind (wpAny_setField_rec hz (by simp) fun h₁ hz₁ hs₁ => ?_)
  replace hz₁ : IsZ h₁ z TI TO .ellipsis false := hz₁
  refine wpAny_bind ?_
  simp only [List.zipIdx_cons, List.zipIdx_nil, List.forIn_cons, List.forIn_nil]
  refine wpAny_bind (wpAny_bind (wpAny_onRaise ?_))
  show wpAny _ _ (Builtin.SmallTypes.nextOf (.ref i1) >>= _) _ _ _
  refine wpAny_bind (wpAny_nextOf_list_item (h1.extBut hs₁.extBut D.i1z) (hl.extBut hs₁.extBut D.lz) hx fun h₂ h1₂ hs₂ => wpAny_pure ?_)
  have hTO₂ : IsPair h₂ TO a b := hs₂.extBut _ _ D.TOi1 (hs₁.extBut _ _ D.TOz hTO)
  refine wpAny_bind (wpAny_seqItems hTO₂ rfl ?_)
  refine wpAny_bind (wpAny_updateSeq_pair hTO₂ fun h₃ hTO₃ hs₃ => ?_)
  replace hTO₃ : IsPair h₃ TO x b := hTO₃
  refine wpAny_bind (wpAny_letGo (wpAny_pure ?_))
  refine wpAny_bind (wpAny_bind (wpAny_onRaise ?_))
  show wpAny _ _ (Builtin.SmallTypes.nextOf (.ref i2) >>= _) _ _ _
  refine wpAny_bind (nextOf_ascii_item (((h2.extBut hs₁.extBut D.i2z).extBut hs₂.extBut D.i12.symm).extBut hs₃.extBut D.TOi2.symm) hy fun h₄ h2₄ hs₄ => wpAny_pure ?_)
  have hTO₄ : IsPair h₄ TO x b := hs₄.extBut _ _ D.TOi2 hTO₃
  refine wpAny_bind (wpAny_seqItems hTO₄ rfl ?_)
  refine wpAny_bind (wpAny_updateSeq_pair hTO₄ fun h₅ hTO₅ hs₅ => ?_)
  replace hTO₅ : IsPair h₅ TO x (.str ⟨#[c]⟩ s.toks) := hTO₅
  refine wpAny_bind (wpAny_letGo (wpAny_pure (wpAny_pure ?_)))
  refine wpAny_bind (wpAny_seqItems hTO₅ rfl ?_)
  refine wpAny_bind (wpAny_newTuple ?_)
  have hsz : h₅.objs.size = s.heap.objs.size := by rw [hs₅.1, hs₄.1, hs₃.1, hs₂.1, hs₁.1]
  have hz₅ : IsZ h₅ z TI TO .ellipsis false := hs₅.extBut _ _ D.TOz.symm (hs₄.extBut _ _ D.i2z.symm (hs₃.extBut _ _ D.TOz.symm (hs₂.extBut _ _ D.i1z.symm hz₁)))
  have hk₅ : ∀ c o, c ≠ z → c ≠ TO → c ≠ i1 → c ≠ i2 → s.heap.get? c = some o → h₅.get? c = some o := fun c o c1 c2 c3 c4 e =>
    hs₅.extBut _ _ c2 (hs₄.extBut _ _ c4 (hs₃.extBut _ _ c2 (hs₂.extBut _ _ c3 (hs₁.extBut _ _ c1 e))))
  have h1₅ : h₅.IsListIter i1 l (k1 + 1) := ((h1₂.extBut hs₃.extBut D.TOi1.symm).extBut hs₄.extBut D.i12).extBut hs₅.extBut D.TOi1.symm
  have h2₅ : h₅.IsStrIter i2 "str_ascii_iterator" y t (k2 + 1) := h2₄.extBut hs₅.extBut D.TOi2.symm
  have hzlt : z < h₅.objs.size := Heap.lt_size hz₅
  show wpAny _ _ (Builtin.SmallTypes.ownedTupleHandOut (.ref z) (.ref h₅.objs.size) >>= _) _ _ _
  refine wpAny_bind ?_
  unfold Builtin.SmallTypes.ownedTupleHandOut
  have hz₆ : IsZ (h₅.push { cls := .type "tuple", data := .seq #[x, .str ⟨#[c]⟩ s.toks] }) z TI TO .ellipsis false := Heap.get?_push_of_some _ hz₅
  refine wpAny_bind (wpAny_setField_rec hz₆ (by simp) fun h₇ hz₇ hs₇ => ?_)
  replace hz₇ : IsZ h₇ z TI TO (rawInt h₅.objs.size) false := hz₇
  refine wpAny_setField_rec hz₇ (by simp) fun h₈ hz₈ hs₈ => ?_
  replace hz₈ : IsZ h₈ z TI TO (rawInt h₅.objs.size) false := hz₈
  have up : ∀ c o, c ≠ z → h₅.get? c = some o → h₈.get? c = some o := fun c o c1 e => hs₈.extBut _ _ c1 (hs₇.extBut _ _ c1 (Heap.get?_push_of_some _ e))
  have hT₈ : IsPair h₈ h₅.objs.size x (.str ⟨#[c]⟩ s.toks) := hs₈.extBut _ _ (Nat.ne_of_gt hzlt) (hs₇.extBut _ _ (Nat.ne_of_gt hzlt) (Heap.get?_push_size _ rfl))
  have hz8 : h₈.objs.size = h₅.objs.size + 1 := by rw [hs₈.1, hs₇.1, Heap.size_push]
  rw [hsz] at hz₈ hT₈ hz8
  refine wpAny_pure ⟨_, rfl, ?_⟩
  show Q (.ref h₅.objs.size) _
  rw [hsz]
  exact hQ h₈ hz₈ (h1₅.at fun o e => up _ o D.i1z e) (let ⟨o, e, r⟩ := h2₅; ⟨o, up _ o D.i2z e, r⟩) hT₈ hz8 fun c o c1 c2 c3 c4 e => up c o c1 (hk₅ c o c1 c2 c3 c4 e)
/-- a later turn: the tuple handed out before is alive, a new one is made -/
theorem later_item {z TI TO i1 i2 l p : Addr} {k1 k2 : Nat} {f : Bool} {op : Obj} {xs : Array Value} {x : Value} {y : Str} {t : Tok} {c : Nat} {Q : Value → Shared → Prop} (D : Apart z TI TO i1 i2 l)
    (hz : IsZ s.heap z TI TO (rawInt p) f) (hTI : IsPair s.heap TI (.ref i1) (.ref i2)) (hp : s.heap.get? p = some op) (hpz : p ≠ z)
    (h1 : s.heap.IsListIter i1 l k1) (h2 : s.heap.IsStrIter i2 "str_ascii_iterator" y t k2) (hl : s.heap.IsList l xs) (hx : xs[k1]? = some x) (hy : y.cps[k2]? = some c)
    (hQ : ∀ h', IsZ h' z TI TO (rawInt p) true → h'.IsListIter i1 l (k1 + 1) → h'.IsStrIter i2 "str_ascii_iterator" y t (k2 + 1) → IsPair h' s.heap.objs.size x (.str ⟨#[c]⟩ s.toks) → h'.objs.size = s.heap.objs.size + 1 →
      (∀ d o, d ≠ z → d ≠ i1 → d ≠ i2 → s.heap.get? d = some o → h'.get? d = some o) → Q (.ref s.heap.objs.size) { s with heap := h', toks := s.toks + 1 }) :
    wpAny (model prog w) A (Builtin.«zip.__next__» ⟨[.ref z], []⟩) (fun fin s' => ∃ v, fin = .done (.ret v) ∧ Q v s') E s := by
  show wpAny _ _ (field (.ref z) 2 >>= _) _ _ _
  refine wpAny_bind (wpAny_field hz rfl (x := .bool false) rfl ?_)
  show wpAny _ _ (field (.ref z) 3 >>= _) _ _ _
  refine wpAny_bind (wpAny_field hz rfl (x := .ref TI) rfl ?_)
  refine wpAny_bind (wpAny_seqItems hTI rfl ?_)
  show wpAny _ _ (Builtin.SmallTypes.ownedTupleIsFree (.ref z) >>= _) _ _ _
  refine wpAny_bind ?_
  unfold Builtin.SmallTypes.ownedTupleIsFree
  refine wpAny_bind (wpAny_field hz rfl (x := rawInt p) rfl ?_)
  show wpAny _ _ (loadIfAlive ((p : Int).toNat) >>= _) _ _ _
  rw [Int.toNat_natCast]
  refine wpAny_bind (PySem.W.kdx_alive hp ?_)
  simp only [Option.isNone_some, Bool.false_eq_true, if_false]
  refine wpAny_bind (wpAny_field hz rfl (x := .bool f) rfl ?_)
  have fin : ∀ (h₀ h₂ h₄ : Heap), IsZ h₀ z TI TO (rawInt p) true → Heap.SameBut z s.heap h₀ → h₂.IsListIter i1 l (k1 + 1) → Heap.SameBut i1 h₀ h₂ → h₄.IsStrIter i2 "str_ascii_iterator" y t (k2 + 1) → Heap.SameBut i2 h₂ h₄ →
      Q (.ref h₄.objs.size) { s with heap := h₄.push { cls := .type "tuple", data := .seq #[x, .str ⟨#[c]⟩ s.toks] }, toks := s.toks + 1 } := by
    intro h₀ h₂ h₄ hz₀ hs₀ h1₂ hs₂ h2₄ hs₄
    have hsz : h₄.objs.size = s.heap.objs.size := by rw [hs₄.1, hs₂.1, hs₀.1]
    have up : ∀ d o, h₄.get? d = some o → (h₄.push { cls := .type "tuple", data := .seq #[x, .str ⟨#[c]⟩ s.toks] }).get? d = some o := fun d o e => Heap.get?_push_of_some _ e
    have hT : IsPair (h₄.push { cls := .type "tuple", data := .seq #[x, .str ⟨#[c]⟩ s.toks] }) h₄.objs.size x (.str ⟨#[c]⟩ s.toks) := Heap.get?_push_size _ rfl
    rw [hsz] at hT ⊢
    exact hQ _ (up _ _ (hs₄.extBut _ _ D.i2z.symm (hs₂.extBut _ _ D.i1z.symm hz₀))) ((h1₂.extBut hs₄.extBut D.i12).at fun o e => up _ o e) (let ⟨o, e, r⟩ := h2₄; ⟨o, up _ o e, r⟩) hT (by rw [Heap.size_push, hsz]) fun d o d1 d2 d3 e => up _ _ (hs₄.extBut _ _ d3 (hs₂.extBut _ _ d2 (hs₀.extBut _ _ d1 e)))
  cases f with
  | true =>
    rw [if_neg (show ¬ ((Value.bool true != Value.bool true) = true) from Bool.false_ne_true)]
    refine wpAny_pure ?_
    have hz₀ := hz
    have hs₀ := Heap.SameBut.refl z s.heap
    simp only [Bool.false_eq_true, if_false]
    refine wpAny_bind ?_
    simp only [List.forIn_toArray, List.forIn_cons, List.forIn_nil]
    refine wpAny_bind (wpAny_bind (wpAny_holding ?_))
    show wpAny _ _ (Builtin.SmallTypes.nextOf (.ref i1) >>= _) _ _ _
    refine wpAny_bind (wpAny_nextOf_list_item (h1.extBut hs₀.extBut D.i1z) (hl.extBut hs₀.extBut D.lz) hx fun h₂ h1₂ hs₂ => wpAny_pure ?_)
    refine wpAny_pure ?_
    refine wpAny_bind (wpAny_bind (wpAny_holding ?_))
    show wpAny _ _ (Builtin.SmallTypes.nextOf (.ref i2) >>= _) _ _ _
    refine wpAny_bind (nextOf_ascii_item ((h2.extBut hs₀.extBut D.i2z).extBut hs₂.extBut D.i12.symm) hy fun h₄ h2₄ hs₄ => wpAny_pure ?_)
    refine wpAny_pure (wpAny_pure ?_)
    refine wpAny_bind (wpAny_newTuple ?_ (hsz := by show 2 ≤ sizeLine; decide))
    exact wpAny_pure ⟨_, rfl, fin _ h₂ h₄ hz₀ hs₀ h1₂ hs₂ h2₄ hs₄⟩
  | false =>
    rw [if_pos (show (Value.bool false != Value.bool true) = true from rfl)]
    refine wpAny_bind (wpAny_setField_rec hz (by simp) fun h₀ hz₀ hs₀ => ?_)
    replace hs₀ : Heap.SameBut z s.heap h₀ := hs₀
    replace hz₀ : IsZ h₀ z TI TO (rawInt p) true := hz₀
    refine wpAny_pure ?_
    simp only [Bool.false_eq_true, if_false]
    refine wpAny_bind ?_
    simp only [List.forIn_toArray, List.forIn_cons, List.forIn_nil]
    refine wpAny_bind (wpAny_bind (wpAny_holding ?_))
    show wpAny _ _ (Builtin.SmallTypes.nextOf (.ref i1) >>= _) _ _ _
    refine wpAny_bind (wpAny_nextOf_list_item (h1.extBut hs₀.extBut D.i1z) (hl.extBut hs₀.extBut D.lz) hx fun h₂ h1₂ hs₂ => wpAny_pure ?_)
    refine wpAny_pure ?_
    refine wpAny_bind (wpAny_bind (wpAny_holding ?_))
    show wpAny _ _ (Builtin.SmallTypes.nextOf (.ref i2) >>= _) _ _ _
    refine wpAny_bind (nextOf_ascii_item ((h2.extBut hs₀.extBut D.i2z).extBut hs₂.extBut D.i12.symm) hy fun h₄ h2₄ hs₄ => wpAny_pure ?_)
    refine wpAny_pure (wpAny_pure ?_)
    refine wpAny_bind (wpAny_newTuple ?_ (hsz := by show 2 ≤ sizeLine; decide))
    exact wpAny_pure ⟨_, rfl, fin _ h₂ h₄ hz₀ hs₀ h1₂ hs₂ h2₄ hs₄⟩
/-- the end: the list is through -/
theorem later_end {z TI TO i1 i2 l p : Addr} {k1 : Nat} {f : Bool} {op : Obj} {xs : Array Value} {Q : Fin → Shared → Prop} (hh : A.handled = none) (D : Apart z TI TO i1 i2 l)
    (hz : IsZ s.heap z TI TO (rawInt p) f) (hTI : IsPair s.heap TI (.ref i1) (.ref i2)) (hp : s.heap.get? p = some op) (hpz : p ≠ z)
    (h1 : s.heap.IsListIter i1 l k1) (hl : s.heap.IsList l xs) (hx : xs[k1]? = none)
    (hE : ∀ h' e, (∀ d o, d ≠ z → d ≠ i1 → s.heap.get? d = some o → h'.get? d = some o) → (∃ o, h'.get? e = some o ∧ o.cls = .type "StopIteration") → E (.ref e) { s with heap := h' }) :
    wpAny (model prog w) A (Builtin.«zip.__next__» ⟨[.ref z], []⟩) Q E s := by
  show wpAny _ _ (field (.ref z) 2 >>= _) _ _ _
  refine wpAny_bind (wpAny_field hz rfl (x := .bool false) rfl ?_)
  show wpAny _ _ (field (.ref z) 3 >>= _) _ _ _
  refine wpAny_bind (wpAny_field hz rfl (x := .ref TI) rfl ?_)
  refine wpAny_bind (wpAny_seqItems hTI rfl ?_)
  show wpAny _ _ (Builtin.SmallTypes.ownedTupleIsFree (.ref z) >>= _) _ _ _
  refine wpAny_bind ?_
  unfold Builtin.SmallTypes.ownedTupleIsFree
  refine wpAny_bind (wpAny_field hz rfl (x := rawInt p) rfl ?_)
  show wpAny _ _ (loadIfAlive ((p : Int).toNat) >>= _) _ _ _
  rw [Int.toNat_natCast]
  refine wpAny_bind (PySem.W.kdx_alive hp ?_)
  simp only [Option.isNone_some, Bool.false_eq_true, if_false]
  refine wpAny_bind (wpAny_field hz rfl (x := .bool f) rfl ?_)
  cases f with
  | true =>
    rw [if_neg (show ¬ ((Value.bool true != Value.bool true) = true) from Bool.false_ne_true)]
    refine wpAny_pure ?_
    simp only [Bool.false_eq_true, if_false]
    refine wpAny_bind ?_
    simp only [List.forIn_toArray, List.forIn_cons, List.forIn_nil]
    refine wpAny_bind (wpAny_bind (wpAny_holding ?_))
    show wpAny _ _ (Builtin.SmallTypes.nextOf (.ref i1) >>= _) _ _ _
    exact wpAny_bind (wpAny_nextOf_list_end hh h1 hl hx fun h' e hk he => hE h' e (fun d o _ d2 q => hk d o d2 q) he)
  | false =>
    rw [if_pos (show (Value.bool false != Value.bool true) = true from rfl)]
    refine wpAny_bind (wpAny_setField_rec hz (by simp) fun h₀ hz₀ hs₀ => ?_)
    replace hs₀ : Heap.SameBut z s.heap h₀ := hs₀
    refine wpAny_pure ?_
    simp only [Bool.false_eq_true, if_false]
    refine wpAny_bind ?_
    simp only [List.forIn_toArray, List.forIn_cons, List.forIn_nil]
    refine wpAny_bind (wpAny_bind (wpAny_holding ?_))
    show wpAny _ _ (Builtin.SmallTypes.nextOf (.ref i1) >>= _) _ _ _
    exact wpAny_bind (wpAny_nextOf_list_end hh (h1.extBut hs₀.extBut D.i1z) (hl.extBut hs₀.extBut D.lz) hx fun h' e hk he => hE h' e (fun d o d1 d2 q => hk d o d2 (hs₀.extBut d o d1 q)) he)
/-- the zip's state: not begun, or a tuple of it is kept -/
def ZSt (h : Heap) (z TI TO S : Addr) (i : Nat) : Prop := (i = 0 ∧ ∃ a b, IsZ h z TI TO .none false ∧ IsPair h TO a b) ∨ (0 < i ∧ ∃ (p : Addr) (f : Bool) (op : Obj), IsZ h z TI TO (rawInt p) f ∧ h.get? p = some op ∧ p ≠ z ∧ p ≠ S ∧ TO < p ∧ z < p)
theorem nxtZ {z TI TO S i1 i2 l : Addr} {i : Nat} {xs : Array Value} {x : Value} {y : Str} {t : Tok} {c : Nat} {Q : Option Value → Shared → Prop} (D : Apart z TI TO i1 i2 l) (hst : ZSt s.heap z TI TO S i) (hS : S < s.heap.objs.size) (hTOl : TO < s.heap.objs.size)
    (hTI : IsPair s.heap TI (.ref i1) (.ref i2)) (hi1 : ∀ p, z < p → p ≠ i1) (hi2 : ∀ p, z < p → p ≠ i2)
    (h1 : s.heap.IsListIter i1 l i) (h2 : s.heap.IsStrIter i2 "str_ascii_iterator" y t i) (hl : s.heap.IsList l xs) (hx : xs[i]? = some x) (hy : y.cps[i]? = some c)
    (hQ : ∀ h', ZSt h' z TI TO S (i + 1) → h'.IsListIter i1 l (i + 1) → h'.IsStrIter i2 "str_ascii_iterator" y t (i + 1) → IsPair h' s.heap.objs.size x (.str ⟨#[c]⟩ s.toks) → h'.objs.size = s.heap.objs.size + 1 →
      (∀ d o, d ≠ z → d ≠ TO → d ≠ i1 → d ≠ i2 → s.heap.get? d = some o → h'.get? d = some o) → Q (some (.ref s.heap.objs.size)) { s with heap := h', toks := s.toks + 1 }) :
    wpAny (model prog w) A (pyNext (.ref z)) Q E s := by
  rcases hst with ⟨rfl, a, b, hz, hTO⟩ | ⟨hi, p, f, op, hz, hp, hpz, hpS, hpT, hzp⟩
  · have hT : s.TypeIs (.ref z) "zip" := ⟨_, hz, rfl⟩
    have hzl : z < s.heap.objs.size := Heap.lt_size hz
    unfold pyNext
    exact wpAny_bind (wpAny_attempt (wpAny_callSpecial?_slot (name := Str.ofString "__next__") hT F.slot_zip_next
      (wpAny_call_entry F.slot_zip_next hT F.entry_zip_next
        (first_item D hz hTI hTO h1 h2 hl hx hy fun h' a1 a2 a3 a4 a5 a6 => wpAny_pure (hQ h' (.inr ⟨by omega, _, false, _, a1, a4, Nat.ne_of_gt hzl, Nat.ne_of_gt hS, hTOl, hzl⟩) a2 a3 a4 a5 a6)) (F.args_zip_next_1 _))))
  · have hT : s.TypeIs (.ref z) "zip" := ⟨_, hz, rfl⟩
    unfold pyNext
    exact wpAny_bind (wpAny_attempt (wpAny_callSpecial?_slot (name := Str.ofString "__next__") hT F.slot_zip_next
      (wpAny_call_entry F.slot_zip_next hT F.entry_zip_next
        (later_item D hz hTI hp hpz h1 h2 hl hx hy fun h' a1 a2 a3 a4 a5 a6 => wpAny_pure (hQ h' (.inr ⟨by omega, p, true, op, a1, a6 p op hpz (hi1 p hzp) (hi2 p hzp) hp, hpz, hpS, hpT, hzp⟩) a2 a3 a4 a5 fun d o d1 _ d3 d4 e => a6 d o d1 d3 d4 e)) (F.args_zip_next_1 _))))
theorem finZ {z TI TO S i1 i2 l : Addr} {i : Nat} {xs : Array Value} {Q : Option Value → Shared → Prop} (hh : A.handled = none) (D : Apart z TI TO i1 i2 l) (hi : 0 < i) (hst : ZSt s.heap z TI TO S i) (hTI : IsPair s.heap TI (.ref i1) (.ref i2))
    (h1 : s.heap.IsListIter i1 l i) (hl : s.heap.IsList l xs) (hx : xs[i]? = none)
    (hQ : ∀ h', (∀ d o, d ≠ z → d ≠ i1 → s.heap.get? d = some o → h'.get? d = some o) → Q none { s with heap := h' }) : wpAny (model prog w) A (pyNext (.ref z)) Q E s := by
  rcases hst with ⟨rfl, _⟩ | ⟨_, p, f, op, hz, hp, hpz, _⟩
  · omega
  · have hT : s.TypeIs (.ref z) "zip" := ⟨_, hz, rfl⟩
    unfold pyNext
    refine wpAny_bind (wpAny_attempt (wpAny_callSpecial?_slot (name := Str.ofString "__next__") hT F.slot_zip_next
      (wpAny_call_entry F.slot_zip_next hT F.entry_zip_next (later_end hh D hz hTI hp hpz h1 hl hx fun h' e hk he => ?_) (F.args_zip_next_1 _))))
    obtain ⟨o, ho, hc⟩ := he
    refine wpAny_bind (wpAny_isInstance (T := "StopIteration") (b := true) ⟨o, ho, hc⟩ isSubtype_stop ?_)
    exact wpAny_pure (hQ _ hk)
end
end LZ
set_option Elab.async false
set_option linter.all false
set_option maxRecDepth 100000
set_option maxHeartbeats 1000000
namespace LZ
open PySem
open PySem.Sem (wp)
open RZ
abbrev zH1 (h : Heap) (l : Addr) : Heap := h.push { cls := .type "list_iterator", data := .fields #[.ref l, .int 0 0] }
abbrev zH2 (h : Heap) (l : Addr) (y : Str) (t : Tok) : Heap := (zH1 h l).push { cls := .type "str_ascii_iterator", data := .fields #[.str y t, .int 0 0] }
abbrev zH3 (h : Heap) (l : Addr) (y : Str) (t : Tok) : Heap := (zH2 h l y t).push { cls := .type "tuple", data := .seq #[.ref h.objs.size, .ref (zH1 h l).objs.size] }
abbrev zH4 (h : Heap) (l : Addr) (y : Str) (t : Tok) : Heap := (zH3 h l y t).push { cls := .type "tuple", data := .seq #[.none, .none] }
abbrev zH5 (h : Heap) (l : Addr) (y : Str) (t : Tok) : Heap := (zH4 h l y t).push { cls := .type "zip", data := .fields #[.none, .bool false, .bool false, .ref (zH2 h l y t).objs.size, .ref (zH3 h l y t).objs.size] }
theorem meets_new (l : Addr) (y : Str) (t : Tok) (xs : Array Value) (ha : y.cps.all (· < 128) = true) :
    Meets (Builtin.«zip.__new__» ⟨[.type "zip", .ref l, .str y t], []⟩) (fun _ R s => s.heap.IsList l xs ∧
      R (.ok (.ret (.ref (zH4 s.heap l y t).objs.size))) { s with heap := zH5 s.heap l y t }) :=
  .of_wp fun prog w A R s h => by
    obtain ⟨hp, g, d, tk, os⟩ := s; obtain ⟨hl1, h⟩ := h
    have hsub := sub_zip
    have hL1 : Heap.IsList (Shared.heap ⟨hp, g, d, tk, os⟩) l xs := hl1
    wp_walk using wpAny_pyIter_list hL1, wpAny_pyIter_ascii ha
    exact ⟨_, rfl, h⟩
section
variable {prog : Program} {w : World} {A : Around} {E : Value → Shared → Prop} {s : Shared}
theorem call_zip {l : Addr} {y : Str} {t : Tok} {xs : Array Value} {Q : Value → Shared → Prop} (ha : y.cps.all (· < 128) = true) (hl : s.heap.IsList l xs)
    (h : ∀ h', IsZ h' (s.heap.objs.size + 4) (s.heap.objs.size + 2) (s.heap.objs.size + 3) .none false → IsPair h' (s.heap.objs.size + 2) (.ref s.heap.objs.size) (.ref (s.heap.objs.size + 1)) →
      IsPair h' (s.heap.objs.size + 3) .none .none → h'.IsListIter s.heap.objs.size l 0 → h'.IsStrIter (s.heap.objs.size + 1) "str_ascii_iterator" y t 0 → h'.objs.size = s.heap.objs.size + 5 →
      (∀ c o, s.heap.get? c = some o → h'.get? c = some o) → Q (.ref (s.heap.objs.size + 4)) { s with heap := h' }) :
    wpAny (model prog w) A (call (.type "zip") [.ref l, .str y t]) Q E s := by
  refine callType_new F.called_zip (by decide) (F.typeCall_zip_2 _ _) (F.newCall_zip_2 _ _) (fun obj => F.args_object_init_3 obj _ _) F.entry_zip_new
    (meets_new l y t xs ha) ⟨hl, ?_⟩
  have z1 : (zH1 s.heap l).objs.size = s.heap.objs.size + 1 := Heap.size_push ..
  have z2 : (zH2 s.heap l y t).objs.size = s.heap.objs.size + 2 := by rw [Heap.size_push, z1]
  have z3 : (zH3 s.heap l y t).objs.size = s.heap.objs.size + 3 := by rw [Heap.size_push, z2]
  have z4 : (zH4 s.heap l y t).objs.size = s.heap.objs.size + 4 := by rw [Heap.size_push, z3]
  have z5 : (zH5 s.heap l y t).objs.size = s.heap.objs.size + 5 := by rw [Heap.size_push, z4]
  have g5 : (zH5 s.heap l y t).get? (zH4 s.heap l y t).objs.size = some _ := Heap.get?_push_size _ rfl
  have g4 : (zH5 s.heap l y t).get? (zH3 s.heap l y t).objs.size = some _ := Heap.get?_push_of_some _ (Heap.get?_push_size _ rfl)
  have g3 : (zH5 s.heap l y t).get? (zH2 s.heap l y t).objs.size = some _ := Heap.get?_push_of_some _ (Heap.get?_push_of_some _ (Heap.get?_push_size _ rfl))
  have g2 : (zH5 s.heap l y t).get? (zH1 s.heap l).objs.size = some _ := Heap.get?_push_of_some _ (Heap.get?_push_of_some _ (Heap.get?_push_of_some _ (Heap.get?_push_size _ rfl)))
  have g1 : (zH5 s.heap l y t).get? s.heap.objs.size = some _ := Heap.get?_push_of_some _ (Heap.get?_push_of_some _ (Heap.get?_push_of_some _ (Heap.get?_push_of_some _ (Heap.get?_push_size _ rfl))))
  show _ ∧ _
  rw [z2, z3, z4] at g5
  rw [z1, z2] at g3
  rw [z3] at g4
  rw [z1] at g2
  rw [z4]
  exact ⟨⟨_, g5, rfl⟩, h _ g5 g3 g4 ⟨_, g1, rfl, rfl⟩ ⟨_, g2, rfl, rfl⟩ z5 fun c o x =>
    Heap.get?_push_of_some _ (Heap.get?_push_of_some _ (Heap.get?_push_of_some _ (Heap.get?_push_of_some _ (Heap.get?_push_of_some _ x))))⟩
end
/-- the tuples made: rising addresses, each a pair of the list's item and a sign -/
structure Made (xs : Array Value) (y : Str) (lo : Addr) (h : Heap) (as : List Addr) : Prop where
  rise : as.Pairwise (· < ·)
  above : ∀ a ∈ as, lo < a
  pairs : ∀ (j : Nat) (a : Addr), as[j]? = some a → ∃ x c tk, xs[j]? = some x ∧ y.cps[j]? = some c ∧ IsPair h a x (.str ⟨#[c]⟩ tk)
theorem Made.there {xs : Array Value} {y : Str} {lo : Addr} {h : Heap} {as : List Addr} (g : Made xs y lo h as) {a : Addr} (ha : a ∈ as) : a < h.objs.size := by
  obtain ⟨j, hj⟩ := List.mem_iff_getElem?.mp ha
  obtain ⟨_, _, _, _, _, e⟩ := g.pairs j a hj
  exact Heap.lt_size e
section
variable {prog : Program} {w : World} {A : Around} {s : Shared} {R : Result → Shared → Prop} {xs : Array Value} {y : Str} {t : Tok}
theorem loopZ {S z TI TO i1 i2 l : Addr} (hh : A.handled = none) (D : Apart z TI TO i1 i2 l) (hSz : z < S) (hST : S ≠ TI) (hSO : S ≠ TO) (hS1 : S ≠ i1) (hS2 : S ≠ i2) (hSl : l ≠ S) (hOz : TO < z) (h1z : i1 < z) (h2z : i2 < z) (hn : xs.size ≤ sizeLine) (hxy : y.cps.size = xs.size) (hpos : 0 < xs.size) (res : Value) {h₁ : Heap}
    (hR : ∀ h' tk acc c as, (∀ b o, b ≠ S → b ≠ z → b ≠ TO → b ≠ i1 → b ≠ i2 → h₁.get? b = some o → h'.get? b = some o) → h'.get? S = some { cls := .type "list", dict := none, data := .seq acc c, slots := #[] } → as.length = xs.size → Made xs y S h' as →
      acc.toList = as.map Value.ref → R (.ok (.ret res)) { s with heap := h', toks := tk }) :
    ∀ (k i : Nat) (h : Heap) (tk c : Nat) (acc : Array Value) (as : List Addr), xs.size - i = k → i ≤ xs.size → ZSt h z TI TO S i → IsPair h TI (.ref i1) (.ref i2) → h.IsListIter i1 l i → h.IsStrIter i2 "str_ascii_iterator" y t i → h.IsList l xs →
      (∀ b o, b ≠ S → b ≠ z → b ≠ TO → b ≠ i1 → b ≠ i2 → h₁.get? b = some o → h.get? b = some o) →
      h.get? S = some { cls := .type "list", dict := none, data := .seq acc c, slots := #[] } → acc.toList = as.map Value.ref → as.length = i → Made xs y S h as → z < h.objs.size → TO < h.objs.size →
      codeAny (model prog w) A (.builtin "list.extend.loop" ⟨[.ref S, .ref z, res], []⟩) R { s with heap := h, toks := tk } := by
  intro k
  induction k with
  | zero =>
    intro i h tk c acc as hk hi hst hTI hI1 hI2 hl hkeep hS hacc hal hG hzs hTs
    refine codeAny_builtin PySem.F.entry_extend_loop ?_
    rw [Around.under_plainId PySem.F.plain_extend_loop _]
    show wpAny _ A.in1 (pyNext (.ref z) >>= _) _ _ _
    have hi' : i = xs.size := by omega
    refine wpAny_bind (finZ (s := { s with heap := h, toks := tk }) (A := A.in1) hh D (by omega) hst hTI hI1 hl (Array.getElem?_eq_none (by omega)) fun h' he => ?_)
    refine wpAny_pure (hR h' tk acc c as (fun b o h1 h2 h3 h4 h5 e => he b o h2 h4 (hkeep b o h1 h2 h3 h4 h5 e)) (he S _ (Nat.ne_of_gt hSz) hS1 hS) (by omega) ⟨hG.rise, hG.above, fun j a hj => ?_⟩ hacc)
    obtain ⟨x, c, tk', e1, e2, e3⟩ := hG.pairs j a hj
    have ha := hG.above a (List.mem_of_getElem? hj)
    exact ⟨x, c, tk', e1, e2, he a _ (Nat.ne_of_gt (Nat.lt_trans hSz ha)) (Nat.ne_of_gt (Nat.lt_trans h1z (Nat.lt_trans hSz ha))) e3⟩
  | succ k ih =>
    intro i h tk c acc as hk hi hst hTI hI1 hI2 hl hkeep hS hacc hal hG hzs hTs
    have hlt : i < xs.size := by omega
    have hsz : acc.size = i := by rw [← Array.length_toList, hacc, List.length_map, hal]
    have hSl' : S < h.objs.size := Heap.lt_size hS
    refine codeAny_builtin PySem.F.entry_extend_loop ?_
    rw [Around.under_plainId PySem.F.plain_extend_loop _]
    show wpAny _ A.in1 (pyNext (.ref z) >>= _) _ _ _
    refine wpAny_bind (nxtZ (s := { s with heap := h, toks := tk }) (S := S) D hst hSl' hTs hTI (fun p hp => Nat.ne_of_gt (Nat.lt_trans h1z hp)) (fun p hp => Nat.ne_of_gt (Nat.lt_trans h2z hp)) hI1 hI2 hl (Array.getElem?_eq_getElem hlt) (Array.getElem?_eq_getElem (by omega : i < y.cps.size)) fun h' hst' hI1' hI2' ht hz hkp => ?_)
    dsimp only at ht hz hkp ⊢
    have hS' := hkp S _ (Nat.ne_of_gt hSz) hSO hS1 hS2 hS
    have up : ∀ b o, b ≠ S → h'.get? b = some o → (h'.update S (Obj.mapSeq (·.push (Value.ref h.objs.size)))).get? b = some o := fun b o hb e => (Heap.get?_update_other _ _ (Ne.symm hb)).trans e
    show wpAny _ A.in1 (updateSeq S (·.push (Value.ref h.objs.size)) >>= _) _ _ _
    refine wpAny_bind ?_
    have hst2 : ZSt (h'.update S (Obj.mapSeq (·.push (Value.ref h.objs.size)))) z TI TO S (i + 1) := by
      rcases hst' with ⟨q, _⟩ | ⟨q, p, f, op, a1, a2, a3, a4, a5, a6⟩
      · omega
      · exact .inr ⟨q, p, f, op, up _ _ (Nat.ne_of_lt hSz) a1, up _ _ a4 a2, a3, a4, a5, a6⟩
    refine wpAny_updateSeq hS' rfl (wpAny_pure ⟨plainId_quiet PySem.F.plain_extend_loop _, ih (i + 1) _ (tk + 1) _ (acc.push (Value.ref h.objs.size)) (as ++ [h.objs.size]) (by omega) hlt hst2 (up _ _ (Ne.symm hST) (hkp _ _ D.TIz D.TITO D.TIi1 D.TIi2 hTI)) (hI1'.at fun o e => up _ o (Ne.symm hS1) e) (let ⟨o, e, r⟩ := hI2'; ⟨o, up _ o (Ne.symm hS2) e, r⟩) (hl.at fun o e => up _ o hSl (hkp _ o D.lz D.lTO D.li1 D.li2 e))
      (fun b o h1 h2 h3 h4 h5 e => up b o h1 (hkp b o h2 h3 h4 h5 (hkeep b o h1 h2 h3 h4 h5 e))) (Heap.get?_update_self _ hS' rfl) (by rw [Array.toList_push, hacc, List.map_append]; rfl) (by rw [List.length_append, hal]; rfl) ⟨?_, ?_, ?_⟩ ?_ ?_⟩) (by rw [hsz]; omega) (by show (acc.push (Value.ref h.objs.size)).size ≤ sizeLine + 1; rw [Array.size_push, hsz]; omega)
    · refine List.pairwise_append.mpr ⟨hG.rise, List.pairwise_singleton _ _, fun a ha b hb => ?_⟩
      rw [List.mem_singleton.mp hb]
      exact hG.there ha
    · intro a ha
      rcases List.mem_append.mp ha with ha | ha
      · exact hG.above a ha
      · rw [List.mem_singleton.mp ha]; exact hSl'
    · intro j b hj
      rcases Nat.lt_trichotomy j as.length with h1 | h1 | h1
      · rw [List.getElem?_append_left h1] at hj
        obtain ⟨x', c', tk', e1, e2, e3⟩ := hG.pairs j b hj
        have hb := hG.above b (List.mem_of_getElem? hj)
        exact ⟨x', c', tk', e1, e2, up b _ (Nat.ne_of_gt hb) (hkp b _ (Nat.ne_of_gt (Nat.lt_trans hSz hb)) (Nat.ne_of_gt (Nat.lt_trans hOz (Nat.lt_trans hSz hb))) (Nat.ne_of_gt (Nat.lt_trans h1z (Nat.lt_trans hSz hb))) (Nat.ne_of_gt (Nat.lt_trans h2z (Nat.lt_trans hSz hb))) e3)⟩
      · subst h1
        have hb : h.objs.size = b := by simpa using hj
        subst hb
        subst hal
        exact ⟨_, _, _, Array.getElem?_eq_getElem hlt, Array.getElem?_eq_getElem (by omega), up _ _ (Nat.ne_of_gt hSl') ht⟩
      · have hnone : (as ++ [h.objs.size])[j]? = none := List.getElem?_eq_none (by rw [List.length_append, List.length_singleton]; omega)
        rw [hnone] at hj; cases hj
    · have e : (h'.update S (Obj.mapSeq (·.push (Value.ref h.objs.size)))).get? h.objs.size = _ := up _ _ (Nat.ne_of_gt hSl') ht
      exact Nat.lt_trans hzs (Heap.lt_size e)
    · have e : (h'.update S (Obj.mapSeq (·.push (Value.ref h.objs.size)))).get? h.objs.size = _ := up _ _ (Nat.ne_of_gt hSl') ht
      exact Nat.lt_trans hTs (Heap.lt_size e)
end
end LZ
set_option Elab.async false
set_option linter.all false
set_option maxRecDepth 100000
set_option maxHeartbeats 1000000
namespace LZ
open PySem
open PySem.Sem (wp)
open RZ L2
theorem nolen_zip : typeLookup (.type "zip") "__len__" = pure none := by rw [typeLookup_type, builtinLookup_eq_fast]; kernel_rfl
theorem nohint_zip : typeLookup (.type "zip") "__length_hint__" = pure none := by rw [typeLookup_type, builtinLookup_eq_fast]; kernel_rfl
section
variable {prog : Program} {w : World} {A : Around} {E : Value → Shared → Prop} {s : Shared} {xs : Array Value} {y : Str} {t : Tok}
theorem call_list {z TI TO i1 i2 l : Addr} {Q : Value → Shared → Prop} (hh : A.handled = none) (D : Apart z TI TO i1 i2 l) (hOz : TO < z) (h1z : i1 < z) (h2z : i2 < z) (hn : xs.size ≤ sizeLine) (hxy : y.cps.size = xs.size) (hpos : 0 < xs.size)
    (hz : IsZ s.heap z TI TO .none false) (hTI : IsPair s.heap TI (.ref i1) (.ref i2)) (hTO : IsPair s.heap TO .none .none) (h1 : s.heap.IsListIter i1 l 0) (h2 : s.heap.IsStrIter i2 "str_ascii_iterator" y t 0) (hl : s.heap.IsList l xs)
    (hself : ∀ (s' : Shared) (A' : Around) (E' : Value → Shared → Prop) (Q' : Value → Shared → Prop), IsZ s'.heap z TI TO .none false → Q' (.ref z) s' → wpAny (model prog w) A' (pyIter (.ref z)) Q' E' s')
    (hQ : ∀ h' tk acc c as, (∀ b o, b ≠ z → b ≠ TO → b ≠ i1 → b ≠ i2 → s.heap.get? b = some o → h'.get? b = some o) → h'.get? s.heap.objs.size = some { cls := .type "list", dict := none, data := .seq acc c, slots := #[] } → as.length = xs.size → Made xs y s.heap.objs.size h' as →
      acc.toList = as.map Value.ref → Q (.ref s.heap.objs.size) { s with heap := h', toks := tk }) :
    wpAny (model prog w) A (call (.type "list") [.ref z]) Q E s := by
  have hzS : z < s.heap.objs.size := Heap.lt_size hz
  have hTIS : TI < s.heap.objs.size := Heap.lt_size hTI
  have hTOS : TO < s.heap.objs.size := Heap.lt_size hTO
  have hi1S : i1 < s.heap.objs.size := let ⟨_, e, _⟩ := h1; Heap.lt_size e
  have hi2S : i2 < s.heap.objs.size := let ⟨_, e, _⟩ := h2; Heap.lt_size e
  have hlS : l < s.heap.objs.size := let ⟨_, e, _⟩ := hl; Heap.lt_size e
  refine callType_codes (Q₁ := fun obj s₁ => obj = .ref s.heap.objs.size ∧ s₁ = { s with heap := s.heap.push { cls := .type "list", data := .seq #[] } }) F.called_list (F.typeCall_list_1 _) F.entry_list_init
    (code_list_new _ ⟨rfl, rfl⟩) fun obj s₁ h₁ => ?_
  obtain ⟨rfl, rfl⟩ := h₁
  have hS : (s.heap.push { cls := .type "list", data := .seq #[] }).get? s.heap.objs.size = some { cls := .type "list", data := .seq #[] } := Heap.get?_push_size _ rfl
  refine ⟨⟨_, hS, rfl⟩, F.args_list_init_2 _ _, ?_⟩
  show wpAny _ A.in1.in1 (do let old ← Builtin.List.listItems (.ref s.heap.objs.size); Builtin.List.listUpdate (.ref s.heap.objs.size) (fun _ => #[]); letGo old.toList.reverse; Builtin.List.listExtendWith (.ref s.heap.objs.size) (.ref z) .none) _ _ _
  refine wpAny_bind ?_
  unfold Builtin.List.listItems
  refine wpAny_bind (wpAny_seqItems hS rfl (wpAny_pure ?_))
  show wpAny _ A.in1.in1 (updateSeq s.heap.objs.size (fun _ => #[]) >>= fun _ => letGo (#[] : Array Value).toList.reverse >>= fun _ => Builtin.List.listExtendWith (.ref s.heap.objs.size) (.ref z) .none) _ _ _
  refine wpAny_bind (wpAny_updateSeq hS rfl ?_)
  have hS2 := Heap.get?_update_self (Obj.mapSeq (fun _ => (#[] : Array Value))) hS rfl
  refine wpAny_bind (wpAny_letGo ?_)
  unfold Builtin.List.listExtendWith
  have up : ∀ (h : Heap) (f : Obj → Obj), (∀ b o, s.heap.get? b = some o → h.get? b = some o) → ∀ b o, s.heap.get? b = some o → (h.update s.heap.objs.size f).get? b = some o := fun h f q b o e =>
    (Heap.get?_update_other _ _ (Ne.symm (Nat.ne_of_lt (Heap.lt_size e)))).trans (q b o e)
  have k1 : ∀ b o, s.heap.get? b = some o → (s.heap.push { cls := .type "list", data := .seq #[] }).get? b = some o := fun b o e => Heap.get?_push_of_some _ e
  have k2 := up _ (Obj.mapSeq (fun _ => (#[] : Array Value))) k1
  have ty : ∀ {h : Heap}, (∀ b o, s.heap.get? b = some o → h.get? b = some o) → ∀ {s' : Shared}, s'.heap = h → s'.TypeIs (.ref z) "zip" := fun {h} q {s'} e => ⟨_, by rw [e]; exact q _ _ hz, rfl⟩
  refine wpAny_bind (wpAny_typeOf (ty k2 rfl) ?_)
  have e1 : Builtin.List.listSameRef (.ref s.heap.objs.size) (.ref z) = false := by simp [Builtin.List.listSameRef, Nat.ne_of_gt hzS]
  have e2 : (Value.type "zip" == Value.type "list") = false := by decide
  have e3 : (Value.type "zip" == Value.type "tuple") = false := by decide
  simp only [e1, e2, e3, Bool.or_false, Bool.false_eq_true, if_false]
  refine wpAny_bind (hself _ _ _ _ (k2 _ _ hz) ?_)
  refine wpAny_bind (wpAny_holding ?_)
  unfold Builtin.List.listLengthHint
  refine wpAny_bind (wpAny_specialOf (ty k2 rfl) nolen_zip ?_)
  show wpAny _ A.in1.in1 (specialOf (Value.ref z) (Str.ofString "__length_hint__") >>= _) _ _ _
  refine wpAny_bind (wpAny_specialOf (ty k2 rfl) nohint_zip ?_)
  refine wpAny_pure ?_
  show wpAny _ A.in1.in1 (rule "list.extend.makes-room" >>= fun _ => Builtin.List.listTouch (.ref s.heap.objs.size) >>= fun _ =>
    again (.builtin "list.extend.loop" ⟨[.ref s.heap.objs.size, .ref z, .none], []⟩)) _ _ _
  refine wpAny_bind (wpAny_rule ?_)
  refine wpAny_bind ?_
  show wpAny _ A.in1.in1 (updateSeq s.heap.objs.size (·.push .none) >>= fun _ => updateSeq s.heap.objs.size (·.pop)) _ _ _
  refine wpAny_bind (wpAny_updateSeq hS2 rfl ?_)
  have hS3 := Heap.get?_update_self (Obj.mapSeq (·.push Value.none)) hS2 rfl
  refine wpAny_updateSeq (hz := by seq_fits) hS3 rfl ?_
  have hS4 := Heap.get?_update_self (Obj.mapSeq (·.pop)) hS3 rfl
  have k4 := up _ (Obj.mapSeq (·.pop)) (up _ (Obj.mapSeq (·.push Value.none)) k2)
  refine wpAny_pure ⟨plainId_quiet F.plain_extend_loop _, ?_⟩
  have hsz4 : s.heap.objs.size < _ := Heap.lt_size hS4
  exact loopZ (prog := prog) (w := w) (A := A.in1) (s := s) (h₁ := s.heap) (t := t) hh D hzS (Nat.ne_of_gt hTIS) (Nat.ne_of_gt hTOS) (Nat.ne_of_gt hi1S) (Nat.ne_of_gt hi2S) (Nat.ne_of_lt hlS) hOz h1z h2z hn hxy hpos .none
    (fun h' tk acc c as hk hS' hla hG hacc => ⟨rfl, hQ h' tk acc c as (fun b o b1 b2 b3 b4 e => hk b o (Nat.ne_of_lt (Heap.lt_size e)) b1 b2 b3 b4 e) hS' hla hG hacc⟩)
    xs.size 0 _ _ _ #[] [] (Nat.sub_zero _) (Nat.zero_le _) (.inl ⟨rfl, _, _, k4 _ _ hz, k4 _ _ hTO⟩) (k4 _ _ hTI) (h1.at fun o e => k4 _ o e) (let ⟨o, e, r⟩ := h2; ⟨o, k4 _ o e, r⟩) (hl.at fun o e => k4 _ o e)
    (fun b o _ _ _ _ _ e => k4 b o e) hS4 rfl rfl ⟨List.Pairwise.nil, (fun _ ha => nomatch ha), (fun j a hj => by simp at hj)⟩ (Heap.lt_size (k4 _ _ hz)) (Heap.lt_size (k4 _ _ hTO))
end
end LZ
set_option Elab.async false
set_option linter.all false
set_option maxRecDepth 100000
set_option maxHeartbeats 1000000
namespace GX
open PySem PySem.Spec PyProof.Rows L2 GenW

theorem over_L {A : Around} {it acc : Value} {env : Env} {elt : Expr} {gs : List Comprehension} {sc : Scope} {pos : Pos} : A.over (.compLoop (.GeneratorExp elt gs sc pos) 0 it acc env) [] = A.deeper env := by rfl

/-- the context of a generator expression's own frame, made at s -/
abbrev gcx (X : L2.Cx) (s : Shared) (H : Hp) (cenv : Env) (A : Around) (fp : List Addr) : L2.Cx :=
  { X with s_0 := s, H_0 := H, env := cenv, A := A, outer := X.stack, stack := cenv :: X.stack, ex := fp, fn := fun _ => false, pn := [], xe := fun _ _ => False }

/-- the names of a generator expression: its own (with their places in N), or captured -/
structure GOk (N : List Str) (sc scope : Scope) (own : List (Str × Nat)) : Prop where
  kind : scope.kind = .function
  co : scope.isCoroutine = false
  cell : ∀ y ∈ scope.names, y.2 ≠ .cell
  dot : scope.names.lookup (".0" : Str) = some NameKind.local
  ix : ∀ p ∈ own, N[p.2]? = some p.1
  free : ∀ y ∈ scope.names, y.2 = .free → sc.names.lookup y.1 = some .cell ∨ sc.names.lookup y.1 = some .free
  own : ∀ y ∈ scope.names, y.2 = .local → y.1 ∈ own.map (·.1) ∨ y.1 ∉ N

section
variable {X : L2.Cx} {pins : List (Addr × Obj)} {σ : L2.St} {H : Hp} {s : Shared}
theorem GOk.has {scope : Scope} {own : List (Str × Nat)} (ok : GOk X.N X.env.scope scope own) (I : Inv X pins σ H s) : ∀ y ∈ scope.names, y.2 = .free → ∃ c, X.env.cells.lookup y.1 = some c := fun y hy e => by
  rcases ok.free y hy e with k | k
  · exact I.ok.has _ (.inl k)
  · exact I.ok.has _ (.inr k)

/-- the frame, as it stands whenever the generator is woken -/
theorem gen_start {scope : Scope} {own : List (Str × Nat)} {fp : List Addr} {code it : Value} {A : Around} {h' : Heap} {go : Obj} {s2 : Shared}
    (I : Inv X pins σ H s) (ok : GOk X.N X.env.scope scope own) (hN : X.N.Nodup) (hfp : ∀ b ∈ fp, FpOk X pins H b ∧ b < s.heap.objs.size)
    (hn' : h'.Ns s.heap.objs.size (fun y => if y = ".0" then some it else none)) (hs' : Heap.SameBut s.heap.objs.size (s.heap.push { cls := .type "frame", data := .dict #[] }) h')
    (hgo : ∀ v, go.data ≠ .cell v) (hgp : ∀ h : Heap, (h.push go).get? h.objs.size = some go)
    (hh : A.handled = none) (hfr : A.frames = some (genEnv scope (cloFrom X.env.cells scope.names []) s.heap.objs.size code builtinsNs X.env :: X.stack))
    (hk : ∀ b o, (h'.push go).get? b = some o → s2.heap.get? b = some o) (hos : s2.os = s.os) (hb : AllBare s2.gens) :
    Inv (gcx X s H (genEnv scope (cloFrom X.env.cells scope.names []) s.heap.objs.size code builtinsNs X.env) A fp) [(h'.objs.size, go)] (wipe σ (own.map (·.2))) H s2 := by
  have hfree := ok.has I
  generalize hcenv : genEnv scope (cloFrom X.env.cells scope.names []) s.heap.objs.size code builtinsNs X.env = cenv at hfr ⊢
  have hsz : h'.objs.size = s.heap.objs.size + 1 := by rw [hs'.1, Heap.size_push]
  have kp1 : ∀ b o, s.heap.get? b = some o → h'.get? b = some o := fun b o e => hs'.extBut b o (Nat.ne_of_lt (Heap.lt_size e)) (Heap.get?_push_of_some _ e)
  have kp : ∀ b o, s.heap.get? b = some o → s2.heap.get? b = some o := fun b o e => hk b o (Heap.get?_push_of_some _ (kp1 b o e))
  have hL : cenv.locals = s.heap.objs.size := by rw [← hcenv] <;> rfl
  have hcl : cenv.cells = cloFrom X.env.cells scope.names [] := by rw [← hcenv] <;> rfl
  have hsc : cenv.scope = scope := by rw [← hcenv] <;> rfl
  have cm : ∀ {y c}, (y, c) ∈ cloFrom X.env.cells scope.names [] → X.env.cells.lookup y = some c ∧ c < s.heap.objs.size := fun {y c} hm => by
    rcases cloFrom_mem hm with hm | ⟨h1, rfl⟩
    · cases hm
    · obtain ⟨c, hc⟩ := hfree _ h1 rfl
      rw [hc]
      obtain ⟨w, z⟩ := I.cell _ _ hc
      exact ⟨rfl, z.lt⟩
  have mem : ∀ {y c}, cenv.cells.lookup y = some c → X.env.cells.lookup y = some c ∧ c < s.heap.objs.size := fun {y c} e => by
    rw [hcl] at e
    exact cm (PySem.mem_of_lookup e)
  have look : ∀ {y}, scope.names.lookup y = some .free → ∃ c, cenv.cells.lookup y = some c ∧ X.env.cells.lookup y = some c := fun {y} hl => by
    have hy : (y, NameKind.free) ∈ scope.names := PySem.mem_of_lookup hl
    obtain ⟨c', e'⟩ := mem_lookup (cloFrom_has (cells := X.env.cells) (acc := []) hy)
    rw [← hcl] at e'
    exact ⟨c', e', (mem e').1⟩
  have okG : (gcx X s H cenv A fp).Ok := by
    refine ⟨I.ok.mod, by show cenv.scope.kind = _; rw [hsc]; exact ok.kind, by show cenv.globals = _; rw [← hcenv]; exact I.ok.glob, by show cenv.builtins = _; rw [← hcenv] <;> rfl, by show s.heap.objs.size ≤ cenv.locals; rw [hL]; exact Nat.le_refl _,
      fun y z c e1 e2 => ?_, fun y hy => ?_, fun y c z e => ?_, fun _ => hh, hfr, .inr ⟨rfl, by show cenv.frame = some cenv.locals; rw [← hcenv] <;> rfl⟩, fun b hb => ⟨?_, fun y c e z => ?_⟩, I.bs, Nat.le_trans I.ok.bsz I.sz, fun b o e hb => ?_, fun b hb z => ?_, I.stack, I.stkFree⟩
    · exact I.ok.inj y z c (mem e1).1 (mem e2).1
    · have hy : cenv.scope.names.lookup y = some .cell ∨ cenv.scope.names.lookup y = some .free := hy
      rw [hsc] at hy
      rcases hy with hy | hy
      · exact absurd rfl (ok.cell _ (PySem.mem_of_lookup hy))
      · obtain ⟨c, h1, _⟩ := look hy
        exact ⟨c, h1⟩
    · exact absurd (show false = true from z) Bool.false_ne_true
    · show b ≠ cenv.locals
      rw [hL]; exact Nat.ne_of_lt (hfp b hb).2
    · exact (hfp b hb).1.2.2.2.2.1 y c (mem e).1 z
    · rcases (hfp b hb).1.2.2.2.1 with z | z
      · exact I.ok.noex b o e z
      · exact absurd (Nat.lt_of_lt_of_le (Heap.lt_size e) (Nat.le_trans I.ok.bsz z)) (Nat.lt_irrefl _)
    · rcases List.mem_cons.mp (I.stkSub b z) with z | z
      · exact (hfp b hb).1.2.1 z
      · exact (hfp b hb).1.2.2.1 z
  refine ⟨okG, hos, hb, Un.kept kp, ⟨fun y => if y = ".0" then some it else none, ?_, fun i y av e1 e2 e3 => ?_⟩, fun y c e => ?_, ?_, fun y c e => ?_, fun p hp => ?_, I.hok.kept kp, by rw [wipe_length]; exact I.len⟩
  · show Heap.Ns _ cenv.locals _
    rw [hL]
    exact Heap.Ns.keeps hn' fun b o e => hk b o (Heap.get?_push_of_some _ e)
  · obtain ⟨e2, hne⟩ := wipe_some e2
    have e3 : Vis cenv.scope y := e3
    have hfr : scope.names.lookup y = some .free := by
      unfold Vis at e3
      rw [hsc] at e3
      rcases e3 with k | k | k
      · rcases ok.own _ (PySem.mem_of_lookup k) rfl with e' | e'
        · obtain ⟨p, hp, hpy⟩ := List.mem_map.mp e'
          have e4 := ok.ix p hp
          have e5 : p.1 = y := hpy
          rw [e5] at e4
          exact absurd (List.mem_map.mpr ⟨p, hp, nodup_ix hN e4 e1⟩) hne
        · exact absurd (List.mem_of_getElem? e1) e'
      · exact absurd rfl (ok.cell _ (PySem.mem_of_lookup k))
      · exact k
    obtain ⟨m, hn, hl⟩ := I.loc
    have hvis : Vis X.env.scope y := (ok.free _ (PySem.mem_of_lookup hfr) rfl).elim (fun k => .inr (.inl k)) (fun k => .inr (.inr k))
    obtain ⟨w, r, q⟩ := hl i y av e1 e2 hvis
    refine ⟨w, r, .inr ⟨.inr (by show cenv.scope.names.lookup y = _; rw [hsc]; exact hfr), ?_⟩⟩
    obtain ⟨c, h1, h2⟩ := look hfr
    rcases q with ⟨k, _⟩ | ⟨_, c', e', z⟩
    · have k : X.env.scope.names.lookup y = some .local := k
      rcases ok.free _ (PySem.mem_of_lookup hfr) rfl with k' | k' <;> rw [show X.env.scope.names.lookup y = _ from k'] at k <;> cases k
    · rw [h2] at e'; cases e'
      exact ⟨c, h1, z.keeps kp⟩
  · obtain ⟨h1, _⟩ := mem e
    obtain ⟨w, z⟩ := I.cell y c h1
    exact ⟨w, z.keeps kp⟩
  · show H cenv.locals = none
    rw [hL]; exact I.hok.fresh (Nat.le_refl _)
  · exact I.freeC y c (mem e).1
  · have hp : p = (h'.objs.size, go) := by
      have : p ∈ [(h'.objs.size, go)] := hp
      simpa using this
    subst hp
    refine ⟨hk _ _ (hgp _), I.hok.fresh (by show s.heap.objs.size ≤ h'.objs.size; omega), ?_, fun hm => ?_, hgo⟩
    · show h'.objs.size ≠ cenv.locals
      rw [hL, hsz]; exact Nat.succ_ne_self _
    · have hm : h'.objs.size ∈ frs X.stack := hm
      rcases List.mem_cons.mp (I.stkSub _ hm) with z | z
      · have h3 : X.env.locals < s.heap.objs.size := I.lt
        rw [← z] at h3
        have h4 : s.heap.objs.size < h'.objs.size := by rw [hsz]; exact Nat.lt_succ_self _
        exact absurd (Nat.lt_trans h3 h4) (Nat.lt_irrefl _)
      · exact I.nofs (a := h'.objs.size) (by rw [hsz]; exact Nat.le_succ _) z
end
end GX
set_option Elab.async false
set_option linter.all false
set_option maxRecDepth 100000
set_option maxHeartbeats 1000000
namespace GX
open PySem PySem.Spec PyProof.Rows L2 GenW

/-- amid a walk: the iterator at turn i, the pins that the consumer knows -/
def SG (Z : L2.Cx) (σ0 : L2.St) (fp : List Addr) (tn : Nat → Heap → Prop) {κ : Type} (PO : κ → List (Addr × Obj) → Prop) (i : Nat) (k : κ) (H : Hp) (s : Shared) : Prop :=
  tn i s.heap ∧ (∀ b ∈ fp, H b = none) ∧ ∃ pins, PO k pins ∧ Inv Z pins σ0 H s ∧ ∀ b ∈ fp, ∀ p ∈ pins, p.1 ≠ b

structure GTurn {κ : Type} (J : It) (g : TG) (tt : TT) (te : TE) (vs : List Nat) (σ0 : L2.St) (W : Nat → Nat → κ → Hp → Prop) (Zd : κ → Hp → Prop) (Yd : Nat → Nat → κ → V → Hp → Prop) : Prop where
  turn : ∀ i m k H, W i m k H → (J.stop i H ∧ Zd k H) ∨ (J.go i H ∧ ∀ x H', J.yld i H x H' → g x σ0 H' fun σ2 H2 => wipe σ2 vs = σ0 ∧ tt σ2 H2 fun b H3 =>
    if b = true then te σ2 H3 fun y H4 => Yd i m k y H4 else ∃ m', m' < m ∧ W (i + 1) m' k H3)

section
variable {Z : L2.Cx} {A : Around} {R : GenEnd} {Y : Protocol} {κ : Type} {J : It} {tg elt iter : Expr} {ifs : List Expr} {scope : Scope} {pos : Pos} {it : Addr} {fp : List Addr} {tn : Nat → Heap → Prop} {σ0 : L2.St} {g : TG} {tt : TT} {te : TE} {vs : List Nat}
  {PO : κ → List (Addr × Obj) → Prop} {W : Nat → Nat → κ → Hp → Prop} {Zd : κ → Hp → Prop} {Yd : Nat → Nat → κ → V → Hp → Prop} {Fu : Nat → κ → Nat → Prop}

theorem seg_gx (hA : Z.A = A.deeper Z.env) (hxe : Z.xe = fun _ _ => False) (hc : Z.calm = true) (hpn : Z.pn = []) (hex : Z.ex = fp) (hco : Z.env.scope.isCoroutine = false)
    (T : Turn Z.prog Z.w Z.K tg J fp it tn) (pg : PG Z tg g) (pt : PTs Z ifs tt) (pe : PE Z elt te)
    (gt : GTurn J g tt te vs σ0 W Zd Yd)
    (hF : ∀ n k m m', Fu n k m → m' < m → Fu n k m')
    (hpos : ∀ n i m k y H, Fu n k m → Yd i m k y H → 0 < n)
    (hZ : ∀ n s₀ s k m pins H, Fu n k m → PO k pins → Inv Z pins σ0 H s → Zd k H → R n s₀ (.ok .next) s)
    (hY : ∀ n s₀ v s i m k y H kap, Fu (n + 1) k m → SG Z σ0 fp tn PO (i + 1) k H s → RelV y v → Yd i m k y H →
      (∀ s' k' m' H', m' < m → Fu n k' m' → W (i + 1) m' k' H' → SG Z σ0 fp tn PO (i + 1) k' H' s' → kap (.send .none) s') → Y n s₀ v s kap) :
    ∀ (m n i : Nat) (k : κ) (H : Hp) (s₀ s : Shared), Fu n k m → W i m k H → SG Z σ0 fp tn PO i k H s →
      Seg (model Z.prog Z.w) A R Y n s₀ (.compLoop (.GeneratorExp elt [⟨tg, iter, ifs, 0⟩] scope pos) 0 (.ref it) .none Z.env)
        ((model Z.prog Z.w).den (.compLoop (.GeneratorExp elt [⟨tg, iter, ifs, 0⟩] scope pos) 0 (.ref it) .none Z.env)) [] s := by
  intro m
  induction m using Nat.strongRecOn with
  | ind m ih =>
    intro n i k H s₀ s hfu hw hS
    obtain ⟨st, nfp, pins, hPO, I, hpf⟩ := hS
    have fpok : ∀ {pins : List (Addr × Obj)} {σ' : L2.St} {H' : Hp} {s' : Shared}, Inv Z pins σ' H' s' → (∀ b ∈ fp, H' b = none) → (∀ b ∈ fp, ∀ p ∈ pins, p.1 ≠ b) → ∀ b ∈ fp, FpOk Z pins H' b := fun {pins σ' H' s'} I' hn hq b hb =>
      ⟨hn b hb, (I'.ok.exf b (by rw [hex]; exact hb)).1, I'.ok.exfs b (by rw [hex]; exact hb), .inl (by rw [hex]; exact hb), fun x c e => (I'.ok.exf b (by rw [hex]; exact hb)).2 x c e, fun p hp => by
        rw [hpn] at hp
        exact hq b hb p (by simpa using hp)⟩
    have ov : A.over (.compLoop (.GeneratorExp elt [⟨tg, iter, ifs, 0⟩] scope pos) 0 (.ref it) .none Z.env) [] = Z.A := by rw [hA]; exact over_L
    show Seg _ A _ _ _ s₀ _ ((compTurn (.GeneratorExp elt [⟨tg, iter, ifs, 0⟩] scope pos) 0 (.ref it) .none Z.env).onRaise (leaving Z.env)) [] s
    rw [compTurn_gen, Sem.onRaise_eq_wrap]
    refine seg_bind_wrap (wpAny_standAt ?_)
    rcases gt.turn i m k H hw with ⟨stop, zd⟩ | ⟨go, step⟩
    · have td := T.done Z rfl rfl rfl hc i pins s _ H (fun _ _ => False) I (fpok I nfp hpf) st stop
      refine seg_bind_wrap ?_
      rw [ov]
      refine thnF td fun r s6 ⟨hr, I6⟩ => ?_
      subst hr
      exact seg_end (.ok .next) (hZ n s₀ s6 k m pins H hfu hPO I6 zd)
    · have ti := T.item Z rfl rfl rfl hc i pins s _ H (fun _ _ => False) I (fpok I nfp hpf) st go
      refine seg_bind_wrap ?_
      rw [ov]
      refine thnF ti fun r s6 ⟨u, hr, h6⟩ => ?_
      subst hr
      refine seg_bind_wrap ?_
      rw [ov]
      refine thnF h6 fun _ s7 ⟨x, H7, I7, r7, y7, st7, n7⟩ => ?_
      have I7' := I7.pinned (fpok I7 n7 hpf) (T.obj _ _ st7)
      refine seg_bind_wrap ?_
      rw [ov]
      have hxe' : ∀ e s', Z.xe e s' → False := fun e s' z => by rw [hxe] at z; exact z
      refine wpAny_mono (pg.run _ s7 _ H7 x u _ I7' r7 (step x H7 y7)) (fun _ s8 ⟨σ8, H8, I8, hw8, q8⟩ => ?_) fun e s' z => (hxe' e s' z).elim
      refine seg_bind_wrap ?_
      rw [ov]
      refine wpAny_mono (pt.run _ s8 σ8 H8 _ I8 q8) (fun b s9 ⟨H9, I9, q9⟩ => ?_) fun e s' z => (hxe' e s' z).elim
      have fin : ∀ {s' : Shared} {H' : Hp}, Inv Z (pins ++ pinsAt fp s7.heap) σ8 H' s' → SG Z σ0 fp tn PO (i + 1) k H' s' := fun {s' H'} I' => by
        have pin' : ∀ b ∈ fp, ∀ o, s7.heap.get? b = some o → s'.heap.get? b = some o ∧ H' b = none := fun b hb o e =>
          let z := I'.pin (b, o) (List.mem_append_right _ (List.mem_append_right _ (mem_pinsAt hb e)))
          ⟨z.1, z.2.1⟩
        have hl : σ0.length = σ8.length := by rw [← hw8, wipe_length]
        refine ⟨T.keep _ _ _ st7 fun b hb o e => (pin' b hb o e).1, fun b hb => ?_, pins, hPO, (I'.unpinned (pins := pins)).weak hl (fun j v e => ?_), hpf⟩
        · obtain ⟨o, e, _⟩ := T.obj _ _ st7 b hb
          exact (pin' b hb o e).2
        · rw [← hw8] at e
          exact (wipe_some e).1
      cases b with
      | false =>
        simp only [Bool.false_eq_true, if_false] at q9 ⊢
        obtain ⟨m', hm, w'⟩ := q9
        exact seg_again rfl (ih m' hm n (i + 1) k H9 s₀ s9 (hF n k m m' hfu hm) w' (fin I9))
      | true =>
        simp only [if_true] at q9 ⊢
        have hy : ∀ v, yieldOut Z.env v = yieldValue v := fun v => by simp only [yieldOut, hco, Bool.false_eq_true, if_false]
        simp only [hy]
        rw [Sem.bind_eq_wrap', Sem.bind_eq_wrap', Sem.wrap_wrap, Sem.wrap_wrap]
        refine seg_wrap ?_
        rw [ov]
        refine wpAny_mono (pe.run _ s9 σ8 H9 _ I9 q9) (fun z s10 ⟨yv, H10, I10, r10, q10⟩ => ?_) fun e s' z => (hxe' e s' z).elim
        have hn := hpos n i m k yv H10 hfu q10
        obtain ⟨n, rfl⟩ : ∃ n', n = n' + 1 := ⟨n - 1, by omega⟩
        refine seg_at (seg_yield rfl rfl rfl (hY n s₀ z s10 i m k yv H10 _ hfu (fin I10) r10 q10 fun s' k' m' H' hm' hfu' w' hS' => ?_))
        exact seg_again rfl (ih m' hm' n (i + 1) k' H' s' s' hfu' w' hS')
theorem seg_gx0 (hA : Z.A = A.deeper Z.env) (hh : A.handled = none) (T : Turn Z.prog Z.w Z.K tg J fp it tn) {n i : Nat} {s₀ s : Shared} (st : tn i s.heap)
    (loop : Seg (model Z.prog Z.w) A R Y n s₀ (.compLoop (.GeneratorExp elt [⟨tg, iter, ifs, 0⟩] scope pos) 0 (.ref it) .none Z.env)
        ((model Z.prog Z.w).den (.compLoop (.GeneratorExp elt [⟨tg, iter, ifs, 0⟩] scope pos) 0 (.ref it) .none Z.env)) [] s) :
      Seg (model Z.prog Z.w) A R Y n s₀ (.compStart (.GeneratorExp elt [⟨tg, iter, ifs, 0⟩] scope pos) 0 (.ref it) .none Z.env)
        ((model Z.prog Z.w).den (.compStart (.GeneratorExp elt [⟨tg, iter, ifs, 0⟩] scope pos) 0 (.ref it) .none Z.env)) [] s := by
  show Seg _ A R Y n s₀ _ ((compStart (.GeneratorExp elt [⟨tg, iter, ifs, 0⟩] scope pos) 0 (.ref it) .none Z.env).onRaise (leaving Z.env)) [] s
  unfold compStart
  rw [Sem.onRaise_eq_wrap]
  show Seg _ A R Y n s₀ _ ((ask >>= _).wrap _ _ _ _) [] s
  refine seg_bind_wrap (wpAny_askSetting ?_)
  split
  · exact seg_again rfl loop
  · first
      | exact seg_bind_wrap (wpAny_rule (seg_bind_wrap (wpAny_standAt (seg_bind_wrap (T.self _ i s _ _ st (seg_again rfl loop))))))
      | (refine seg_bind_wrap (wpAny_rule ?_); show Seg _ A _ _ _ s₀ _ ((standAt iter.pos >>= _).wrap _ _ _ _) [] s; exact seg_bind_wrap (wpAny_standAt (seg_bind_wrap (T.self _ i s _ _ st (seg_again rfl loop)))))
end
end GX
set_option Elab.async false
set_option linter.all false
set_option maxRecDepth 100000
set_option maxHeartbeats 1000000
namespace GX
open PySem PySem.Spec PyProof.Rows L2 GenW GxR

/-- a generator that has not begun: how it goes on when it is woken -/
structure Made (X : L2.Cx) (pins : List (Addr × Obj)) (σ : L2.St) (own : List (Str × Nat)) (tg elt iter : Expr) (ifs : List Expr) (scope : Scope) (pos : Pos) (J : It) (H : Hp) (a g : Nat) (sc s5 : Shared) (cenv : Env) (fp : List Addr) (it : Addr) (tn : Nat → Heap → Prop) (go : Obj) : Prop where
  inv : Inv X pins σ H sc
  turn : Turn X.prog X.w X.K tg J fp it tn
  fpok : ∀ b ∈ fp, FpOk X pins H b ∧ b < sc.heap.objs.size
  sz : sc.heap.objs.size < a
  sz5 : s5.heap.objs.size = a + 1
  st : s5.gens[g]? = some (.fresh (.compStart (.GeneratorExp elt [⟨tg, iter, ifs, 0⟩] scope pos) 0 (.ref it) .none cenv))
  os : s5.os = sc.os
  bare : AllBare s5.gens
  lim : s5.heap.NoLimit
  kept : ∀ b o, sc.heap.get? b = some o → s5.heap.get? b = some o
  at5 : s5.heap.get? a = some go
  gen : ∀ h : Heap, h.get? a = some go → h.IsGen a g
  cell : ∀ v, go.data ≠ .cell v
  scope : cenv.scope = scope
  wake : ∀ (A : Around) (s2 : Shared), A.handled = none → A.frames = some X.stack → (∀ b o, s5.heap.get? b = some o → s2.heap.get? b = some o) → s2.os = sc.os → AllBare s2.gens →
    tn 0 s2.heap ∧ Inv (gcx X sc H cenv (A.deeper cenv) fp) [(a, go)] (wipe σ (own.map (·.2))) H s2

section
variable {X : L2.Cx} {pins : List (Addr × Obj)} {σ : L2.St} {H : Hp} {s : Shared}
theorem gx_make {c P : Addr} {elt iter tg : Expr} {ifs : List Expr} {gpos : Pos} {scope : Scope} {own : List (Str × Nat)} {wi : TI} {k : Nat} {Q' : Value → Shared → Prop} {R : It → Hp → Prop}
    (hr : Room k X.A) (TB : TabB X.base X.mg c P) (hcode : X.env.code = .ref c) (ok : GOk X.N X.env.scope scope own) (hN : X.N.Nodup) (hi : PI X tg iter wi)
    (hs : ∀ v, genFold iter X.env v = pure v) (I : Inv X pins σ H s) (h : wi σ H fun J H1 => TabG H1 P ∧ ∀ H2, Tabbed P H1 H2 → R J H2)
    (hQ : ∀ J H2 a g sc s5 C code fp it tn go, R J H2 →
      Made X pins σ own tg elt iter ifs scope gpos J H2 a g sc s5 (genEnv scope (cloFrom X.env.cells scope.names []) C code builtinsNs X.env) fp it tn go → Q' (.ref a) s5) :
    wpAny (model X.prog X.w) X.A (eval (.GeneratorExp elt [⟨tg, iter, ifs, 0⟩] scope gpos) X.env) Q' X.xe s := by
  have hfree := ok.has I
  refine wpAny_GeneratorExp_make ok.co (closure_ok hfree) ok.cell ok.dot ok.kind (by have := hr.dp; omega) ?_ hs
  refine thn (hi.run pins s σ H _ I h) fun xv s1 h1 => thn h1 fun itv s2 h2 => ?_
  obtain ⟨it, fp, tn, J, H1, e, I2, T, st2, f2, ⟨ps, hP, ht⟩, hR⟩ := h2
  subst e
  have hPs : s2.heap.get? P = some { cls := .none, data := .fields ps } := I2.hok P _ hP
  have hPlt : P < s2.heap.objs.size := Heap.lt_size hPs
  have cd : PySem.W.CodeHd s2.heap c P := TB.code.keeps fun b u e => I2.bk b u e
  have lim2 : s2.heap.NoLimit := I2.nolimit
  have cont : ∀ (code : Value) (h3 : Heap) (tk : Nat) (more : Array Value), Heap.ExtBut P s2.heap h3 → s2.heap.objs.size ≤ h3.objs.size → h3.get? P = some { cls := .none, data := .fields (ps ++ more) } → TriplesOk (ps ++ more).toList →
      wpAny (model X.prog X.w) X.A (builtinsFor X.env.globals X.env.builtins) (fun bi s₄ =>
        ∀ h', h'.Ns s₄.heap.objs.size (fun y => if y = ".0" then some (.ref it) else none) → Heap.SameBut s₄.heap.objs.size (s₄.heap.push { cls := .type "frame", data := .dict #[] }) h' →
          Q' (.ref h'.objs.size) { s₄ with
            gens := s₄.gens.push (.fresh (.compStart (.GeneratorExp elt [⟨tg, iter, ifs, 0⟩] scope gpos) 0 (.ref it) .none (genEnv scope (cloFrom X.env.cells scope.names []) s₄.heap.objs.size code bi X.env))),
            toks := s₄.toks + 1 + 1 + 1,
            heap := h'.push { cls := .type "generator", data := .fields #[.int s₄.gens.size 0, .str "<genexpr>" (s₄.toks + 1), .str (X.env.qual ++ "<genexpr>") (s₄.toks + 1 + 1)] } }) X.xe { s2 with heap := h3, toks := tk } := by
    intro code h3 tk more hx hsz hP3 ht3
    obtain ⟨bm, ob, e1, e2, e3, e4, e5, e6, e7, e8⟩ := TB.bm
    have keep3 : ∀ b u, b ≠ P → s2.heap.get? b = some u → h3.get? b = some u := fun b u hb e => hx b u hb e
    refine wpAny_builtinsFor (m := X.mg) (by rw [I2.ok.glob]; exact (I2.mod.glob.keeps I2.bk).extBut hx TB.gP) e1 e2 (keep3 _ _ e4 (I2.bk _ _ e5)) e6 e7 e8 ?_
    have I3 : Inv X pins σ (upd H1 P (.tbl (ps ++ more))) { s2 with heap := h3, gens := s2.gens, drawn := s2.drawn, toks := tk } := inv_tab I2 hP keep3 hP3 I2.bare
    have hT : Tabbed P H1 (upd H1 P (.tbl (ps ++ more))) := ⟨⟨ps ++ more, upd_same, ht3⟩, fun b hb => upd_ne hb⟩
    have fne : ∀ b ∈ fp, b ≠ P := fun b hb z => by
      have := (f2 b hb).1
      rw [z, hP] at this
      cases this
    have f3 : ∀ b ∈ fp, FpOk X pins (upd H1 P (.tbl (ps ++ more))) b ∧ b < h3.objs.size := fun b hb => by
      refine ⟨⟨by rw [upd_ne (fne b hb)]; exact (f2 b hb).1, (f2 b hb).2⟩, ?_⟩
      obtain ⟨o, e, _⟩ := T.obj _ _ st2 b hb
      exact Nat.lt_of_lt_of_le (Heap.lt_size e) hsz
    have st3 : tn 0 h3 := T.keep _ _ _ st2 fun b hb o e => keep3 b o (fne b hb) e
    intro h' hn' hs'
    have hsz' : h'.objs.size = h3.objs.size + 1 := by rw [hs'.1, Heap.size_push]
    have kp1 : ∀ b o, h3.get? b = some o → h'.get? b = some o := fun b o e => hs'.extBut b o (Nat.ne_of_lt (Heap.lt_size e)) (Heap.get?_push_of_some _ e)
    refine hQ J (upd H1 P (.tbl (ps ++ more))) h'.objs.size s2.gens.size { s2 with heap := h3, toks := tk } _ h3.objs.size code fp it tn
      { cls := .type "generator", data := .fields #[.int s2.gens.size 0, .str "<genexpr>" (tk + 1), .str (X.env.qual ++ "<genexpr>") (tk + 1 + 1)] } (hR _ hT)
      ⟨I3, T, f3, by show h3.objs.size < _; rw [hsz']; exact Nat.lt_succ_self _, Heap.size_push .., Array.getElem?_push_size .., rfl, AllBare.push I3.bare rfl, (I3.nolimit.keeps kp1).push _, fun b o e => Heap.get?_push_of_some _ (kp1 b o e),
        Heap.get?_push_size _ rfl, fun h e => ⟨_, _, _, e, rfl, rfl, rfl⟩, (fun v q => by cases q), rfl, fun A s3 hh hfr hk hos hb => ⟨?_, ?_⟩⟩
    · exact T.keep _ _ _ st3 fun b _ o e => hk b o (Heap.get?_push_of_some _ (kp1 b o e))
    · exact gen_start (s := { s2 with heap := h3, toks := tk }) I3 ok hN f3 hn' hs' (fun v q => by cases q) (fun h => Heap.get?_push_size _ rfl) hh (by show Option.map _ A.frames = _; rw [hfr] <;> rfl) hk hos hb
  refine ⟨lim2, ?_⟩
  cases hf : codeAmong gpos ps.toList with
  | none =>
    refine wpAny_genexprCodeX hcode (cd.code hPs ht) (cd.tab hPs) hf fun c' h' tk hx hge hlt hco' _ htab' _ => ?_
    obtain ⟨o1, vs, f1, tf, fl, tg, inF, tx, tt, op, _, _, _, _, _, _, _, _, _, htr, _⟩ := hco'
    exact cont _ h' tk _ hx (Nat.le_trans hge (Nat.le_of_lt hlt)) htab'.2 htr
  | some cv =>
    refine wpAny_genexprCode_hit hcode (cd.code hPs ht) hf ?_
    exact cont cv s2.heap s2.toks #[] (Heap.ExtBut.refl _ _) (Nat.le_refl _) (by simpa using hPs) (by simpa using ht)
end
end GX
set_option Elab.async false
set_option linter.all false
set_option maxRecDepth 100000
set_option maxHeartbeats 1000000
namespace GX
open PySem PySem.Spec PyProof.Rows L2 GenW GxR

/-- between two turns nothing is changed -/
structure Bet (s s' : Shared) : Prop where
  os : s'.os = s.os
  bare : AllBare s'.gens
  kept : ∀ b o, s.heap.get? b = some o → s'.heap.get? b = some o
def YA (X : L2.Cx) (sc : Shared) (H : Hp) (fp : List Addr) (a g : Nat) (stp : Bool) (Qs : Hp → Prop) : Protocol := fun n s₀ v s kap =>
  s.os = sc.os ∧ AllBare s.gens ∧ s.heap.NoLimit ∧ s.heap.IsGen a g ∧ ∃ b H', v = Value.bool b ∧ Un (frs X.stack) fp H H' sc.heap s.heap ∧ HOk X.prog X.w H' s.heap ∧
    if b = stp then Qs H' else ∀ s', Bet s s' → kap (.send .none) s'
def EA (X : L2.Cx) (sc : Shared) (H : Hp) (fp : List Addr) (Qe : Hp → Prop) (n : Nat) (s₀ s : Shared) : Prop :=
  s.os = sc.os ∧ AllBare s.gens ∧ ∃ H', Un (frs X.stack) fp H H' sc.heap s.heap ∧ HOk X.prog X.w H' s.heap ∧ Qe H'
def RA (X : L2.Cx) (sc : Shared) (H : Hp) (fp : List Addr) (Qe : Hp → Prop) : GenEnd := fun n s₀ r s => r = .ok .next ∧ EA X sc H fp Qe n s₀ s

section
variable {X : L2.Cx} {sc : Shared} {H : Hp} {fp : List Addr} {a g : Nat} {Qs Qe : Hp → Prop} {A : Around} {R : Result → Shared → Prop}
theorem all_loop (hh : A.handled = none) (hd : A.depth < recursionLimit)
    (hstop : ∀ s' H', s'.os = sc.os → AllBare s'.gens → Un (frs X.stack) fp H H' sc.heap s'.heap → HOk X.prog X.w H' s'.heap → Qs H' → R (.ok (.ret (.bool false))) s')
    (hend : ∀ s' H', s'.os = sc.os → AllBare s'.gens → Un (frs X.stack) fp H H' sc.heap s'.heap → HOk X.prog X.w H' s'.heap → Qe H' → R (.ok (.ret (.bool true))) s') :
    ∀ (m : Nat) (s : Shared), s.heap.IsGen a g → s.heap.NoLimit →
      (∃ gs, s.gens[g]? = some gs ∧ gs.Goes (model X.prog X.w) A.in1.in1 (RA X sc H fp Qe) (YA X sc H fp a g false Qs) m (.send .none) (s.setGen g .running)) →
      codeAny (model X.prog X.w) A (.builtin "all.loop" ⟨[.ref a], []⟩) R s := by
  intro m
  induction m with
  | zero =>
    intro s hg hl ⟨gs, hgs, hgo⟩
    refine codeAny_builtin F.entry_all_loop ?_
    rw [Around.under_plainId F.plain_all_loop _]
    show wpAny _ A.in1 (pyNext (.ref a) >>= _) _ _ s
    refine wpAny_bind (wpAny_pyNext_genexpQ (A := A.in1) (P := EA X sc H fp Qe) hh hl hd hg hgs hgo (fun v s₁ gs' hbare hv => ?_) (fun s₁ hp h' hk => ?_))
    · obtain ⟨os1, hb1, hl1, hg1, b, H', rfl, un, hok, hq⟩ := hv
      refine wpAny_bind (wpAny_holding (wpAny_truthy_bool ?_))
      refine wpAny_bind (wpAny_letGo ?_)
      cases b with
      | true =>
        rw [if_neg (by decide)] at hq
        exact (hq s₁ ⟨rfl, hb1, fun _ _ e => e⟩).elim
      | false =>
        rw [if_pos rfl] at hq
        simp only [Bool.false_eq_true, if_false]
        refine wpAny_bind (wpAny_rule (wpAny_pure ?_))
        exact hstop _ H' os1 (allBare_setGen hb1 hbare) un hok hq
    · obtain ⟨os1, hb1, H', un, hok, hq⟩ := hp
      refine wpAny_bind (wpAny_rule (wpAny_pure ?_))
      exact hend _ H' os1 (allBare_setGen hb1 rfl) (un.trans (Un.kept hk)) (hok.kept hk) hq
  | succ m ih =>
    intro s hg hl ⟨gs, hgs, hgo⟩
    have hgl : g < s.gens.size := (Array.getElem?_eq_some_iff.mp hgs).1
    refine codeAny_builtin F.entry_all_loop ?_
    rw [Around.under_plainId F.plain_all_loop _]
    show wpAny _ A.in1 (pyNext (.ref a) >>= _) _ _ s
    refine wpAny_bind (wpAny_gsz (n := g + 1) hgl (wpAny_pyNext_genexpQ (A := A.in1) (P := EA X sc H fp Qe) hh hl hd hg hgs hgo (fun v s₁ gs' hbare hv => ?_) (fun s₁ hp h' hk => ?_)))
    · intro hsz
      obtain ⟨os1, hb1, hl1, hg1, b, H', rfl, un, hok, hq⟩ := hv
      refine wpAny_bind (wpAny_holding (wpAny_truthy_bool ?_))
      refine wpAny_bind (wpAny_letGo ?_)
      cases b with
      | true =>
        rw [if_neg (by decide)] at hq
        simp only [if_true]
        have hsz1 : g < s₁.gens.size := by
          have q : (s₁.setGen g gs').gens.size = s₁.gens.size := setGen_size _ _ _
          have hsz' : g + 1 ≤ (s₁.setGen g gs').gens.size := hsz
          omega
        refine wpAny_pure ⟨plainId_quiet F.plain_all_loop _, ih (s₁.setGen g gs') hg1 hl1 ⟨gs', setGen_at hsz1, ?_⟩⟩
        exact hq _ ⟨rfl, allBare_setGen (s := s₁.setGen g gs') (allBare_setGen hb1 hbare) rfl, fun _ _ e => e⟩
      | false =>
        rw [if_pos rfl] at hq
        simp only [Bool.false_eq_true, if_false]
        refine wpAny_bind (wpAny_rule (wpAny_pure ?_))
        exact hstop _ H' os1 (allBare_setGen hb1 hbare) un hok hq
    · intro hsz
      obtain ⟨os1, hb1, H', un, hok, hq⟩ := hp
      refine wpAny_bind (wpAny_rule (wpAny_pure ?_))
      exact hend _ H' os1 (allBare_setGen hb1 rfl) (un.trans (Un.kept hk)) (hok.kept hk) hq
end
end GX
set_option Elab.async false
set_option linter.all false
set_option maxRecDepth 100000
set_option maxHeartbeats 1000000
namespace GX
open PySem PySem.Spec PyProof.Rows L2 GenW GxR

theorem room_gen {k : Nat} {A A' : Around} {env : Env} (hr : Room (k + 1) A) (h1 : A'.handled = A.handled) (h2 : A'.depth = A.depth) (h3 : A'.units ≤ A.units + 10) : Room k (A'.deeper env) :=
  ⟨h1.trans hr.hd, by have := hr.dp; show A'.depth + 1 + 3 * k + 5 < _; omega, by have := hr.un; show A'.units + 3 + 16 * k + 200 < _; omega⟩
theorem room_gen2 {k : Nat} {A : Around} {env : Env} (hr : Room (k + 1) A) : Room k (A.in1.in1.deeper env) := room_gen hr rfl rfl (by show A.units + 1 + 1 ≤ _; omega)

/-- one turn of a generator expression whose items are bools: stp ends it -/
def GT2 (J : It) (g : TG) (tt : TT) (te : TE) (vs : List Nat) (σ0 : L2.St) (stp : Bool) (Qs Qe : Hp → Prop) (W : Nat → Nat → Hp → Prop) : Prop :=
  ∀ i m H, W i m H → (J.stop i H ∧ Qe H) ∨ (J.go i H ∧ ∀ x H', J.yld i H x H' → g x σ0 H' fun σ2 H2 => wipe σ2 vs = σ0 ∧ tt σ2 H2 fun b H3 =>
    if b = true then te σ2 H3 fun y H4 => 0 < m ∧ ∃ b, y = .bl b ∧ (b = stp → Qs H4) ∧ (b ≠ stp → ∃ m', m' < m ∧ W (i + 1) m' H4) else ∃ m', m' < m ∧ W (i + 1) m' H3)
def tGx (P : Addr) (wi : TI) (body : It → L2.St → Hp → VK → Prop) : TE := fun σ H Q => wi σ H fun J H1 => TabG H1 P ∧ ∀ H2, Tabbed P H1 H2 → body J σ H2 Q
def bAll (g : TG) (tt : TT) (te : TE) (vs : List Nat) : It → L2.St → Hp → VK → Prop := fun J σ H Q => ∃ W, (∃ m, W 0 m H) ∧ GT2 J g tt te vs (wipe σ vs) false (Q (.bl false)) (Q (.bl true)) W
def bAny (g : TG) (tt : TT) (te : TE) (vs : List Nat) : It → L2.St → Hp → VK → Prop := fun J σ H Q => ∃ W, (∃ m, W 0 m H) ∧ GT2 J g tt te vs (wipe σ vs) true (Q (.bl true)) (Q (.bl false)) W

section
variable {X : L2.Cx} {pins : List (Addr × Obj)} {σ : L2.St} {H : Hp}
theorem sg_bet {Z : L2.Cx} {σ0 : L2.St} {fp : List Addr} {tn : Nat → Heap → Prop} {κ : Type} {PO : κ → List (Addr × Obj) → Prop} {i : Nat} {k : κ} {H : Hp} {s s' : Shared} {J : It} {tg : Expr} {it : Addr} (T : Turn Z.prog Z.w Z.K tg J fp it tn)
    (h : SG Z σ0 fp tn PO i k H s) (b : Bet s s') : SG Z σ0 fp tn PO i k H s' := by
  obtain ⟨st, n, pins, po, I, q⟩ := h
  exact ⟨T.keep _ _ _ st fun c _ o e => b.kept c o e, n, pins, po, I.call' (ch := []) b.os (Un.kept b.kept) (I.hok.kept b.kept) b.bare (fun c hc => absurd hc (by simp)), q⟩

/-- what a consumer of bools is given -/
theorem made_bools {J : It} {elt tg iter : Expr} {ifs : List Expr} {scope : Scope} {own : List (Str × Nat)} {gpos : Pos} {a g' : Nat} {sc s5 : Shared} {cenv : Env} {fp : List Addr} {it : Addr} {tn : Nat → Heap → Prop} {go : Obj} {g : TG} {tt : TT} {te : TE} {stp : Bool} {Qs Qe : Hp → Prop} {W : Nat → Nat → Hp → Prop} {m0 : Nat} {A : Around}
    (M : Made X pins σ own tg elt iter ifs scope gpos J H a g' sc s5 cenv fp it tn go) (hc : X.calm = true) (hh : A.handled = none) (hfr : A.frames = some X.stack) (hco : scope.isCoroutine = false)
    (hg : PG (gcx X sc H cenv (A.deeper cenv) fp) tg g) (ht : PTs (gcx X sc H cenv (A.deeper cenv) fp) ifs tt) (he : PE (gcx X sc H cenv (A.deeper cenv) fp) elt te)
    (hw : W 0 m0 H) (gt : GT2 J g tt te (own.map (·.2)) (wipe σ (own.map (·.2))) stp Qs Qe W) :
    (∃ gs, s5.gens[g']? = some gs ∧ gs.Goes (model X.prog X.w) A (RA X sc H fp Qe) (YA X sc H fp a g' stp Qs) m0 (.send .none) (s5.setGen g' .running)) := by
  refine ⟨_, M.st, rfl, ?_⟩
  obtain ⟨st2, I2⟩ := M.wake A (s5.setGen g' .running) hh hfr (fun _ _ e => e) M.os (allBare_setGen M.bare rfl)
  have S0 : SG (gcx X sc H cenv (A.deeper cenv) fp) (wipe σ (own.map (·.2))) fp tn (fun (_ : Unit) p => p = [(a, go)]) 0 () H (s5.setGen g' .running) := by
    refine ⟨st2, fun b hb => (M.fpok b hb).1.1, _, rfl, I2, fun b hb p hp z => ?_⟩
    have e : p = (a, go) := by simpa using hp
    subst e
    have h1 := (M.fpok b hb).2
    have h2 := M.sz
    rw [← z] at h1
    exact absurd (Nat.lt_trans h1 h2) (Nat.lt_irrefl _)
  have T' : Turn (gcx X sc H cenv (A.deeper cenv) fp).prog (gcx X sc H cenv (A.deeper cenv) fp).w (gcx X sc H cenv (A.deeper cenv) fp).K tg J fp it tn := M.turn
  refine seg_gx0 (Z := gcx X sc H cenv (A.deeper cenv) fp) rfl hh M.turn st2 ?_
  refine seg_gx (Z := gcx X sc H cenv (A.deeper cenv) fp) (κ := Unit) (σ0 := wipe σ (own.map (·.2))) (vs := own.map (·.2)) (PO := fun (_ : Unit) p => p = [(a, go)]) (Fu := fun n _ m => m ≤ n) (W := fun i m _ H => W i m H) (Zd := fun _ H => Qe H)
    (Yd := fun i m _ y H4 => 0 < m ∧ ∃ b, y = .bl b ∧ (b = stp → Qs H4) ∧ (b ≠ stp → ∃ m', m' < m ∧ W (i + 1) m' H4))
    rfl rfl hc rfl rfl (by show cenv.scope.isCoroutine = false; rw [M.scope]; exact hco) M.turn hg ht he ⟨fun i m k H hw => gt i m H hw⟩
    (fun n k m m' h1 h2 => by omega) (fun n i m k y H h1 h2 => by have := h2.1; omega) ?_ ?_ m0 m0 0 () H _ _ (Nat.le_refl _) hw S0
  · rintro n s₀ s k m pins' H' hfu rfl I hq
    exact ⟨rfl, I.os, I.bare, H', I.base, I.hok, hq⟩
  · rintro n s₀ v s i m k y H' kap hfu S r ⟨hm, b, rfl, q1, q2⟩ hk
    obtain ⟨st, nf, pins', rfl, I, hpf⟩ := id S
    have hv : v = Value.bool b := r
    refine ⟨I.os, I.bare, I.nolimit, M.gen _ (I.pin (a, go) (by simp)).1, b, H', hv, I.base, I.hok, ?_⟩
    by_cases hb : b = stp
    · rw [if_pos hb]
      exact q1 hb
    · rw [if_neg hb]
      intro s' hbet
      obtain ⟨m', hm', w'⟩ := q2 hb
      exact hk s' () m' H' hm' (by omega) w' (sg_bet T' S hbet)

theorem out_inv {fp : List Addr} {sc s' : Shared} {H' : Hp} (I : Inv X pins σ H sc) (hfp : ∀ b ∈ fp, FpOk X pins H b ∧ b < sc.heap.objs.size) (os : s'.os = sc.os) (hb : AllBare s'.gens) (un : Un (frs X.stack) fp H H' sc.heap s'.heap) (hok : HOk X.prog X.w H' s'.heap) : Inv X pins σ H' s' :=
  I.call' (ch := fp) os un hok hb fun b hb => ⟨(hfp b hb).1.2.2.2.1, (hfp b hb).1.2.1, (hfp b hb).1.2.2.2.2.1, (hfp b hb).1.2.2.2.2.2⟩

abbrev GCtx (X : L2.Cx) (scope : Scope) (C : Addr) (code : Value) : Env := genEnv scope (cloFrom X.env.cells scope.names []) C code builtinsNs X.env
theorem pe_all {c P : Addr} {elt iter tg : Expr} {ifs : List Expr} {p pos gpos : Pos} {scope : Scope} {own : List (Str × Nat)} {wi : TI} {g : TG} {tt : TT} {te : TE} {k : Nat}
    (hr : Room (k + 1) X.A) (hc : X.calm = true) (hgl : Gl X "all") (hm : X.mg "all" = none) (hb : bootBuiltins "all" = some (.builtin "all")) (TB : TabB X.base X.mg c P) (hcode : X.env.code = .ref c)
    (ok : GOk X.N X.env.scope scope own) (hN : X.N.Nodup) (hi : PI X tg iter wi)
    (hg : ∀ s H C code A' fp, PG (gcx X s H (GCtx X scope C code) A' fp) tg g)
    (ht : ∀ s H C code A' fp, Room k A' → PTs (gcx X s H (GCtx X scope C code) A' fp) ifs tt)
    (he : ∀ s H C code A' fp, Room k A' → PE (gcx X s H (GCtx X scope C code) A' fp) elt te)
    (hs : ∀ v, genFold iter X.env v = pure v := by intro _; rfl)
    (hst : starEach [.GeneratorExp elt [⟨tg, iter, ifs, 0⟩] scope gpos] X.env = (false, eval (.GeneratorExp elt [⟨tg, iter, ifs, 0⟩] scope gpos) X.env) :: starEach [] X.env := by rfl) :
    PE X (.Call (.Name "all" p) [.GeneratorExp elt [⟨tg, iter, ifs, 0⟩] scope gpos] [] pos) (tGx P wi (bAll g tt te (own.map (·.2)))) := by
  refine ⟨fun pins s σ H Q I h => ?_⟩
  refine wpAny_Call_Name_kw (ld_blt I hgl hm hb ?_)
  refine PyProof.Rows.callWith_builtin1 ?_ hst (by rfl)
  rw [hst]
  show wpAny _ _ (spliced ((false, eval (.GeneratorExp elt [⟨tg, iter, ifs, 0⟩] scope gpos) X.env) :: backTo pos (starEach [] X.env))) _ _ s
  refine Calls.spliced_cons (gx_make hr TB hcode ok hN hi hs I h fun J H2 a g' sc s5 C code fp it tn go hR M => ?_)
  refine Calls.spliced_nil ?_
  obtain ⟨W, ⟨m0, hw⟩, gt⟩ := hR
  refine call_function_tree F.kind_all F.plain_all F.entry_all (F.args_all1 _) ?_
  unfold Builtin.«all»
  refine wpAny_bind (m := oneArg "all" _) (wpAny_pure ?_)
  refine wpAny_bind (wpAny_pyIter_gen (M.gen _ M.at5) ?_)
  refine wpAny_pure ⟨plainId_quiet F.plain_all_loop _, ?_⟩
  refine all_loop (X := X) (sc := sc) (H := H2) (fp := fp) (Qs := Q (.bl false)) (Qe := Q (.bl true)) (g := g') hr.hd (by have := hr.dp; show X.A.depth < _; omega)
    (fun s' H' os hb un hok hq => ⟨.bl false, H', out_inv M.inv M.fpok os hb un hok, rfl, hq⟩) (fun s' H' os hb un hok hq => ⟨.bl true, H', out_inv M.inv M.fpok os hb un hok, rfl, hq⟩)
    m0 s5 (M.gen _ M.at5) M.lim ?_
  exact made_bools M hc hr.hd M.inv.ok.frames ok.co (hg ..) (ht _ _ _ _ _ _ (room_gen2 hr)) (he _ _ _ _ _ _ (room_gen2 hr)) hw gt
end
end GX
set_option Elab.async false
set_option linter.all false
set_option maxRecDepth 100000
set_option maxHeartbeats 1000000
namespace GX
open PySem PySem.Spec PyProof.Rows L2 GenW GxR

/-- one turn of a generator expression whose items are all taken; ys: what is out -/
def GTL (J : It) (g : TG) (tt : TT) (te : TE) (vs : List Nat) (σ0 : L2.St) (Qe : List V → Hp → Prop) (W : Nat → Nat → List V → Hp → Prop) : Prop :=
  ∀ i m ys H, W i m ys H → (J.stop i H ∧ Qe ys H) ∨ (J.go i H ∧ ∀ x H', J.yld i H x H' → g x σ0 H' fun σ2 H2 => wipe σ2 vs = σ0 ∧ tt σ2 H2 fun b H3 =>
    if b = true then te σ2 H3 fun y H4 => ys.length < sizeLine ∧ ∃ m', m' < m ∧ W (i + 1) m' (ys ++ [y]) H4 else ∃ m', m' < m ∧ W (i + 1) m' ys H3)
def bLst (g : TG) (tt : TT) (te : TE) (vs : List Nat) (Qe : List V → Hp → VK → Prop) : It → L2.St → Hp → VK → Prop := fun J σ H Q => ∃ W, (∃ m, W 0 m [] H) ∧ GTL J g tt te vs (wipe σ vs) (fun ys H' => Qe ys H' Q) W

section
variable {X : L2.Cx} {pins : List (Addr × Obj)} {σ : L2.St} {H : Hp}
theorem slept_inv {Z : L2.Cx} {σ0 : L2.St} {H : Hp} {s s' : Shared} {S a : Addr} {go : Obj} {acc : Array Value} {c : Nat} {v : Value} (hpn : Z.pn = []) (h0 : Z.s_0.heap.objs.size ≤ S) (hSa : a ≠ S) (I : Inv Z [(S, lstObj acc c), (a, go)] σ0 H s) (z : Slept S v s s') :
    ∃ c', Inv Z [(S, lstObj (acc.push v) c'), (a, go)] σ0 H s' := by
  obtain ⟨e1, e2, e3, e4, _⟩ := I.pin (S, lstObj acc c) (by simp)
  have I0 : Inv Z [(a, go)] σ0 H s := I.pins_of fun p hp => I.pin p (List.mem_append_right _ (List.mem_cons_of_mem _ hp))
  obtain ⟨c', eS⟩ := z.own acc c e1
  have J1 : Inv Z [(a, go)] σ0 H { s with heap := s'.heap, toks := s'.toks } := I0.turned (it := S) (fun b o hb e => z.keep b o hb e) e2 e3 (.inr h0) (fun x cc e hz => by
    obtain ⟨w, o, ho, hd⟩ := I0.cell x cc e
    rw [hz] at ho
    have e1' : s.heap.get? S = some (lstObj acc c) := e1
    rw [e1'] at ho
    cases ho
    cases hd) (fun p hp hz => by
      rw [hpn] at hp
      have : p = (a, go) := by simpa using hp
      subst this
      exact hSa hz)
  have J2 : Inv Z [(a, go)] σ0 H s' := J1.call' (ch := []) z.os Un.refl J1.hok z.bare fun c hc => absurd hc (by simp)
  refine ⟨c', J2.pins_of fun p hp => ?_⟩
  rcases List.mem_cons.mp hp with hp | hp
  · subst hp
    exact ⟨eS, e2, e3, e4, fun v q => by cases q⟩
  · exact J2.pin p (List.mem_append_right _ hp)

theorem made_list {J : It} {elt tg iter : Expr} {ifs : List Expr} {scope : Scope} {own : List (Str × Nat)} {gpos : Pos} {a g' : Nat} {sc s5 s2 : Shared} {cenv : Env} {fp : List Addr} {it : Addr} {tn : Nat → Heap → Prop} {go : Obj} {g : TG} {tt : TT} {te : TE} {Qe : List V → Hp → Prop} {W : Nat → Nat → List V → Hp → Prop} {m0 : Nat} {A : Around} {S : Addr} {c0 : Nat}
    (M : Made X pins σ own tg elt iter ifs scope gpos J H a g' sc s5 cenv fp it tn go) (hc : X.calm = true) (hh : A.handled = none) (hfr : A.frames = some X.stack) (hco : scope.isCoroutine = false)
    (hg : PG (gcx X sc H cenv (A.deeper cenv) fp) tg g) (ht : PTs (gcx X sc H cenv (A.deeper cenv) fp) ifs tt) (he : PE (gcx X sc H cenv (A.deeper cenv) fp) elt te)
    (hw : W 0 m0 [] H) (gt : GTL J g tt te (own.map (·.2)) (wipe σ (own.map (·.2))) Qe W)
    (hS : s5.heap.objs.size ≤ S) (hk2 : ∀ b o, s5.heap.get? b = some o → s2.heap.get? b = some o) (hos : s2.os = sc.os) (hb2 : AllBare s2.gens) (hg2 : s2.gens = s5.gens) (heS : s2.heap.get? S = some (lstObj #[] c0)) :
    (∃ gs, s2.gens[g']? = some gs ∧ gs.Goes (model X.prog X.w) A (REnd X.prog X.w X.stack H sc fp S a g' Qe (fun _ _ _ => False)) (YItem sc S a g') sizeLine (.send .none) (s2.setGen g' .running)) := by
  have hst := M.st
  rw [← hg2] at hst
  refine ⟨_, hst, rfl, ?_⟩
  obtain ⟨st2, I2⟩ := M.wake A (s2.setGen g' .running) hh hfr hk2 hos (allBare_setGen hb2 rfl)
  have hSa : a ≠ S := by
    have h1 := M.sz5
    intro z
    rw [← z, h1] at hS
    exact absurd hS (Nat.not_succ_le_self _)
  have hSc : sc.heap.objs.size ≤ S := by
    have h1 := M.sz5
    have h2 := M.sz
    exact Nat.le_trans (Nat.le_of_lt h2) (Nat.le_trans (by rw [h1]; exact Nat.le_succ _) hS)
  have young : ∀ b, sc.heap.objs.size < b → H b = none ∧ b ≠ cenv.locals → True := fun _ _ _ => trivial
  have I3 : Inv (gcx X sc H cenv (A.deeper cenv) fp) [(S, lstObj #[] c0), (a, go)] (wipe σ (own.map (·.2))) H (s2.setGen g' .running) := I2.pins_of fun p hp => by
    rcases List.mem_cons.mp hp with hp | hp
    · subst hp
      refine ⟨heS, M.inv.hok.fresh hSc, fun z => ?_, fun hm => ?_, fun v q => by cases q⟩
      · obtain ⟨m, ⟨o, es, ep, ho, hd, _⟩, _⟩ := I2.loc
        have z' : S = cenv.locals := z
        have ho' : s2.heap.get? cenv.locals = some o := ho
        rw [← z', heS] at ho'
        cases ho'
        cases hd
      · have hm : S ∈ frs X.stack := hm
        rcases List.mem_cons.mp (M.inv.stkSub _ hm) with z | z
        · exact absurd (Nat.lt_of_lt_of_le M.inv.lt (z ▸ hSc)) (Nat.lt_irrefl _)
        · exact M.inv.nofs hSc z
    · exact I2.pin p (List.mem_append_right _ hp)
  have hpf : ∀ (acc : Array Value) (c : Nat), ∀ b ∈ fp, ∀ p ∈ [(S, lstObj acc c), (a, go)], p.1 ≠ b := fun acc c b hb p hp z => by
    have h1 := (M.fpok b hb).2
    rcases List.mem_cons.mp hp with hp | hp
    · subst hp
      rw [← z] at h1
      exact absurd (Nat.lt_of_lt_of_le h1 hSc) (Nat.lt_irrefl _)
    · have e : p = (a, go) := by simpa using hp
      subst e
      rw [← z] at h1
      exact absurd (Nat.lt_trans h1 M.sz) (Nat.lt_irrefl _)
  have S0 : SG (gcx X sc H cenv (A.deeper cenv) fp) (wipe σ (own.map (·.2))) fp tn (fun (ys : List V) p => ∃ acc c, p = [(S, lstObj acc c), (a, go)] ∧ Vals ys acc.toList) 0 [] H (s2.setGen g' .running) :=
    ⟨st2, fun b hb => (M.fpok b hb).1.1, _, ⟨#[], c0, rfl, .nil⟩, I3, hpf _ _⟩
  refine seg_gx0 (Z := gcx X sc H cenv (A.deeper cenv) fp) rfl hh M.turn st2 ?_
  refine seg_gx (Z := gcx X sc H cenv (A.deeper cenv) fp) (κ := List V) (σ0 := wipe σ (own.map (·.2))) (vs := own.map (·.2)) (PO := fun (ys : List V) p => ∃ acc c, p = [(S, lstObj acc c), (a, go)] ∧ Vals ys acc.toList) (Fu := fun n ys m => n + ys.length = sizeLine) (W := W) (Zd := Qe)
    (Yd := fun i m ys y H4 => ys.length < sizeLine ∧ ∃ m', m' < m ∧ W (i + 1) m' (ys ++ [y]) H4)
    rfl rfl hc rfl rfl (by show cenv.scope.isCoroutine = false; rw [M.scope]; exact hco) M.turn hg ht he ⟨fun i m k H hw => gt i m k H hw⟩
    (fun n k m m' h1 h2 => h1) (fun n i m k y H h1 h2 => by have := h2.1; omega) ?_ ?_ m0 sizeLine 0 [] H _ _ (Nat.add_zero _) hw S0
  · rintro n s₀ s ys m pins' H' hfu ⟨acc, c, rfl, rv⟩ I hq
    obtain ⟨e1, e2, _⟩ := I.pin (S, lstObj acc c) (by simp)
    exact .inl ⟨.inr rfl, H', ys, acc, c, I.os, I.bare, I.base, I.hok, e2, e1, rv, by omega, hq⟩
  · rintro n s₀ v s i m ys y H' kap hfu Sg r ⟨hl, m', hm', w'⟩ hk
    obtain ⟨st, nf, pins', ⟨acc, c, rfl, rv⟩, I, hpf'⟩ := Sg
    obtain ⟨e1, e2, _⟩ := I.pin (S, lstObj acc c) (by simp)
    have hsz : acc.size = ys.length := by
      have e1 := rv.length
      have e2 : acc.toList.length = acc.size := by simp
      omega
    refine ⟨I.os, I.bare, I.nolimit, M.gen _ (I.pin (a, go) (by simp)).1, ⟨acc, c, e1, by omega⟩, fun s' z => ?_⟩
    obtain ⟨c', J2⟩ := slept_inv rfl hSc hSa I z
    refine hk s' (ys ++ [y]) m' H' hm' (by rw [List.length_append]; simp only [List.length_cons, List.length_nil]; omega) w' ⟨M.turn.keep _ _ _ st fun b hb o e => z.keep b o (fun q => hpf' b hb (S, lstObj acc c) (by simp) q.symm) e, nf, _, ⟨acc.push v, c', rfl, ?_⟩, J2, hpf _ _⟩
    rw [Array.toList_push]
    exact rv.append (.cons r .nil)
end
end GX
set_option Elab.async false
set_option linter.all false
set_option maxRecDepth 100000
set_option maxHeartbeats 1000000
namespace GX
open PySem PySem.Spec PyProof.Rows L2 GenW GxR

/-- what a consumer of all items needs: the generator, when it stands at s5, with every list S that comes -/
structure Full (X : L2.Cx) (H : Hp) (a g : Nat) (sc s5 : Shared) (fp : List Addr) (A : Around) (Qe : List V → Hp → Prop) : Prop where
  hh : A.handled = none
  dp : A.depth < recursionLimit
  gen : s5.heap.IsGen a g
  lim : s5.heap.NoLimit
  os : s5.os = sc.os
  bare : AllBare s5.gens
  lt : a < s5.heap.objs.size
  go : ∀ (S c0 : Nat) (s2 : Shared), s5.heap.objs.size ≤ S → (∀ b o, s5.heap.get? b = some o → s2.heap.get? b = some o) → s2.os = sc.os → s2.gens = s5.gens → s2.heap.get? S = some (lstObj #[] c0) →
    (∃ gs, s2.gens[g]? = some gs ∧ gs.Goes (model X.prog X.w) A (REnd X.prog X.w X.stack H sc fp S a g Qe (fun _ _ _ => False)) (YItem sc S a g) sizeLine (.send .none) (s2.setGen g .running))

section
variable {X : L2.Cx} {H : Hp} {a g : Nat} {sc s5 : Shared} {fp : List Addr} {Qe : List V → Hp → Prop} {A : Around} {E : Value → Shared → Prop}
theorem collect_gx {Qc : List Value → Shared → Prop} (M : Full X H a g sc s5 fp A.in1.in1 Qe)
    (hQ : ∀ (s' : Shared) (vs : List Value) (ys : List V) (H' : Hp), s5.heap.objs.size ≤ s'.heap.objs.size → Vals ys vs → ys.length ≤ sizeLine → s'.os = sc.os → AllBare s'.gens → Un (frs X.stack) fp H H' sc.heap s'.heap → HOk X.prog X.w H' s'.heap → Qe ys H' → Qc vs s') :
    wpAny (model X.prog X.w) A (collect (.ref a)) Qc E s5 := by
  have hSI : s5.heap.objs.size ≠ a := Nat.ne_of_gt M.lt
  have hcl : cStatics < s5.heap.objs.size := let ⟨_, hn, _⟩ := M.lim; hn.lt
  have gty : ∀ {h : Heap}, (∀ b o, s5.heap.get? b = some o → h.get? b = some o) → h.IsGen a g := fun {h} q => M.gen.keeps q
  have k1 : ∀ b o, s5.heap.get? b = some o → (s5.heap.push { cls := .type "list", data := .seq ([] : List Value).toArray }).get? b = some o := fun b o e => Heap.get?_push_of_some _ e
  unfold collect
  refine wpAny_bind (wpAny_runValue (codeAny_builtin F.entry_proto_collect ?_))
  rw [Around.under_plainId F.plain_proto_collect _]
  show wpAny _ A.in1 (newList [] >>= fun l => again (.builtin "list.__iadd__" ⟨[l, .ref a], []⟩)) _ _ s5
  refine wpAny_bind (wpAny_newObj_type ?_)
  refine wpAny_pure ⟨plainId_quiet F.plain_list_iadd _, codeAny_builtin F.entry_list_iadd ?_⟩
  rw [Around.under_plainId F.plain_list_iadd _]
  show wpAny _ A.in1 (Builtin.List.listExtendWith (.ref s5.heap.objs.size) (.ref a) (.ref s5.heap.objs.size)) _ _ _
  unfold Builtin.List.listExtendWith
  refine wpAny_bind (wpAny_typeOf (Heap.IsGen.typeIs (s := { s5 with heap := _ }) (gty k1)) ?_)
  have h1 : Builtin.List.listSameRef (.ref s5.heap.objs.size) (.ref a) = false := by simp [Builtin.List.listSameRef, hSI]
  have h2 : (Value.type "generator" == Value.type "list") = false := by decide
  have h3 : (Value.type "generator" == Value.type "tuple") = false := by decide
  simp only [h1, h2, h3, Bool.or_false, Bool.false_eq_true, if_false]
  refine wpAny_bind (wpAny_pyIter_gen (s := { s5 with heap := _ }) (gty k1) ?_)
  refine wpAny_bind (wpAny_holding ?_)
  unfold Builtin.List.listLengthHint
  refine wpAny_bind (wpAny_specialOf (Heap.IsGen.typeIs (s := { s5 with heap := _ }) (gty k1)) F.gen_no_len ?_)
  show wpAny _ A.in1 (specialOf (Value.ref a) (Str.ofString "__length_hint__") >>= _) _ _ _
  refine wpAny_bind (wpAny_specialOf (Heap.IsGen.typeIs (s := { s5 with heap := _ }) (gty k1)) F.gen_no_hint ?_)
  refine wpAny_pure ?_
  show wpAny _ A.in1 (rule "list.extend.makes-room" >>= fun _ => Builtin.List.listTouch (.ref s5.heap.objs.size) >>= fun _ =>
    again (.builtin "list.extend.loop" ⟨[.ref s5.heap.objs.size, .ref a, .ref s5.heap.objs.size], []⟩)) _ _ _
  refine wpAny_bind (wpAny_rule ?_)
  have hS₁ : (s5.heap.push { cls := .type "list", data := .seq ([] : List Value).toArray }).get? s5.heap.objs.size = some { cls := .type "list", data := .seq ([] : List Value).toArray } := Heap.get?_push_size _ rfl
  refine wpAny_bind ?_
  show wpAny _ A.in1 (updateSeq s5.heap.objs.size (·.push .none) >>= fun _ => updateSeq s5.heap.objs.size (·.pop)) _ _ _
  refine wpAny_bind (wpAny_updateSeq hS₁ rfl ?_)
  have hS₂ := Heap.get?_update_self (Obj.mapSeq (·.push Value.none)) hS₁ rfl
  refine wpAny_updateSeq hS₂ rfl ?_
  have hS₃ := Heap.get?_update_self (Obj.mapSeq (·.pop)) hS₂ rfl
  have oth : ∀ b o, b ≠ s5.heap.objs.size → (s5.heap.push { cls := .type "list", data := .seq ([] : List Value).toArray }).get? b = some o →
      (((s5.heap.push { cls := .type "list", data := .seq ([] : List Value).toArray }).update s5.heap.objs.size (Obj.mapSeq (·.push Value.none))).update s5.heap.objs.size (Obj.mapSeq (·.pop))).get? b = some o :=
    fun b o hb e => (Heap.get?_update_other _ _ (Ne.symm hb)).trans ((Heap.get?_update_other _ _ (Ne.symm hb)).trans e)
  have k4 : ∀ b o, s5.heap.get? b = some o → (((s5.heap.push { cls := .type "list", data := .seq ([] : List Value).toArray }).update s5.heap.objs.size (Obj.mapSeq (·.push Value.none))).update s5.heap.objs.size (Obj.mapSeq (·.pop))).get? b = some o :=
    fun b o e => oth b o (Nat.ne_of_lt (Heap.lt_size e)) (k1 b o e)
  refine wpAny_pure ⟨plainId_quiet F.plain_extend_loop _, ?_⟩
  refine drain (P := X.prog) (w := X.w) (outer := X.stack) (H := H) (sc := sc) (ex := fp) (Q := Qe) (EX := fun _ _ _ => False) (A := A) (S := s5.heap.objs.size) (g := g) M.hh M.dp hSI (Nat.ne_of_gt hcl)
    (fun s' acc c H' ys q1 q2 q3 q4 q5 q6 q7 q8 q9 => ?_) (fun e s' hc => ?_)
    sizeLine _ (gty k4) (M.lim.keeps k4) (M.go _ _ { s5 with heap := _ } (Nat.le_refl _) k4 M.os rfl hS₃)
  · show wpAny _ A (load s5.heap.objs.size >>= _) _ _ s'
    refine wpAny_bind (wpAny_load q1 ?_)
    exact wpAny_pure (hQ s' acc.toList ys H' (Nat.le_of_lt (Heap.lt_size q1)) q2 q3 q4 q5 q6 q7 q9)
  · obtain ⟨aa, B, H', cls, d, _, fl, _, _, _, _, _, hW⟩ := hc
    exact hW.elim

theorem code_tuple_gx {Q₁ : Value → Shared → Prop} (M : Full X H a g sc s5 fp A.in1.in1.in1 Qe)
    (hQ : ∀ (s' : Shared) (vs : List Value) (ys : List V) (H' : Hp), s5.heap.objs.size ≤ s'.heap.objs.size → Vals ys vs → ys.length ≤ sizeLine → s'.os = sc.os → AllBare s'.gens → Un (frs X.stack) fp H H' sc.heap s'.heap → HOk X.prog X.w H' s'.heap → Qe ys H' →
      Q₁ (.ref s'.heap.objs.size) { s' with heap := s'.heap.push { cls := .type "tuple", data := .seq vs.toArray } }) :
    codeAny (model X.prog X.w) A (.call (.builtin "tuple.__new__") ⟨[.type "tuple", .ref a], []⟩) (wants Q₁ E) s5 := by
  refine codeAny_of_tree ?_
  show wpAny _ A.in1 (do checkBuiltinCall "tuple.__new__" ⟨[.type "tuple", .ref a], []⟩; again (.builtin "tuple.__new__" ⟨[.type "tuple", .ref a], []⟩)) _ _ s5
  refine wpAny_bind (wpAny_of_eq (F.newCall_tuple_1 _) (wpAny_pure ⟨plainId_quiet F.plain_tuple_new _, codeAny_builtin F.entry_tuple_new ?_⟩))
  rw [Around.under_plainId F.plain_tuple_new _]
  have hsub := sub_tuple_self
  have hinit := init_tuple_lookup
  have hmh := madeHere_tuple
  have hTI := M.gen.typeIs
  wp_walk using wpAny_typeOf hTI, collect_gx M
  intro s' acc ys H' hsz r hl q1 q2 q3 q4 q5
  show wpAny _ _ (Builtin.Tuple.tupleExact acc.toArray >>= fun v => ret v) _ _ _
  unfold Builtin.Tuple.tupleExact
  refine wpAny_bind (wpAny_newObj_type ?_ (by show acc.toArray.size ≤ sizeLine; rw [List.size_toArray, ← r.length]; exact hl))
  exact wpAny_pure (hQ s' acc ys H' hsz r hl q1 q2 q3 q4 q5)
theorem call_tuple_gx {Q : Value → Shared → Prop} (M : Full X H a g sc s5 fp A.in1.in1.in1.in1 Qe)
    (hQ : ∀ (s' : Shared) (vs : List Value) (ys : List V) (H' : Hp), s5.heap.objs.size ≤ s'.heap.objs.size → Vals ys vs → ys.length ≤ sizeLine → s'.os = sc.os → AllBare s'.gens → Un (frs X.stack) fp H H' sc.heap s'.heap → HOk X.prog X.w H' s'.heap → Qe ys H' →
      Q (.ref s'.heap.objs.size) { s' with heap := s'.heap.push { cls := .type "tuple", data := .seq vs.toArray } }) :
    wpAny (model X.prog X.w) A (call (.type "tuple") [.ref a]) Q E s5 := by
  refine callType_codes (Q₁ := fun obj s₁ => s₁.TypeIs obj "tuple" ∧ Q obj s₁) F.called_tuple (F.typeCall_tuple_1 _) F.entry_object_init
    (code_tuple_gx M fun s' vs ys H' h1 h2 h3 h4 h5 h6 h7 h8 => ⟨⟨_, Heap.get?_push_size _ rfl, rfl⟩, hQ s' vs ys H' h1 h2 h3 h4 h5 h6 h7 h8⟩) fun obj s₁ h₁ => ?_
  exact ⟨h₁.1, F.args_object_init_2 obj _, object_init_meets F.called_tuple.init.lookup F.called_tuple.made (by decide) X.prog X.w A.in1 _ s₁ ⟨h₁.1, rfl, h₁.2⟩⟩
end
end GX
set_option Elab.async false
set_option linter.all false
set_option maxRecDepth 100000
set_option maxHeartbeats 1000000
namespace GX
open PySem PySem.Spec PyProof.Rows L2 GenW GxR

def eTup : List V → Hp → VK → Prop := fun ys H' Q => ∀ p, H' p = none → Q (.ref p) (upd H' p (.tup ys))
def eJoin (sep : Str) : List V → Hp → VK → Prop := fun ys H' Q => ∃ zs : List Str, ys = zs.map V.str ∧ JoinOk sep zs = true ∧ Q (.str (Txt.join sep zs)) H'

section
variable {X : L2.Cx} {pins : List (Addr × Obj)} {σ : L2.St} {H : Hp}
theorem full_of {J : It} {elt tg iter : Expr} {ifs : List Expr} {scope : Scope} {own : List (Str × Nat)} {gpos : Pos} {a g' : Nat} {sc s5 : Shared} {cenv : Env} {fp : List Addr} {it : Addr} {tn : Nat → Heap → Prop} {go : Obj} {g : TG} {tt : TT} {te : TE} {Qe : List V → Hp → Prop} {W : Nat → Nat → List V → Hp → Prop} {m0 : Nat} {A : Around}
    (M : Made X pins σ own tg elt iter ifs scope gpos J H a g' sc s5 cenv fp it tn go) (hc : X.calm = true) (hh : A.handled = none) (hdp : A.depth < recursionLimit) (hfr : A.frames = some X.stack) (hco : scope.isCoroutine = false)
    (hg : PG (gcx X sc H cenv (A.deeper cenv) fp) tg g) (ht : PTs (gcx X sc H cenv (A.deeper cenv) fp) ifs tt) (he : PE (gcx X sc H cenv (A.deeper cenv) fp) elt te)
    (hw : W 0 m0 [] H) (gt : GTL J g tt te (own.map (·.2)) (wipe σ (own.map (·.2))) Qe W) : Full X H a g' sc s5 fp A Qe :=
  ⟨hh, hdp, M.gen _ M.at5, M.lim, M.os, M.bare, Heap.lt_size M.at5, fun S c0 s2 hS hk hos hg2 heS => made_list M hc hh hfr hco hg ht he hw gt hS hk hos (by rw [hg2]; exact M.bare) hg2 heS⟩

theorem strs_of : ∀ {zs : List Str} {vs : List Value}, Vals (zs.map V.str) vs → ∃ l : List (Str × Tok), strValues l = vs ∧ l.map (·.1) = zs
  | [], _, h => by cases h; exact ⟨[], rfl, rfl⟩
  | z :: zs, _, h => by
    cases h with
    | cons r t =>
      obtain ⟨tk, rfl⟩ := r
      obtain ⟨l, e1, e2⟩ := strs_of t
      subst e1
      exact ⟨(z, tk) :: l, rfl, by rw [List.map_cons, e2]⟩

end
end GX
set_option Elab.async false
set_option linter.all false
set_option maxRecDepth 100000
set_option maxHeartbeats 1000000
namespace DL
open PySem PySem.Spec PyProof.Rows L2 GX GenW GxR

def NT (H : Hp) (ys : List V) (Q : VK) : Prop := ∀ p (ob : Obj), H p = none → ob.dict = none → Q (.ref p) (upd H p (.frz ob (.tup ys)))
section
variable {X : L2.Cx} {pins : List (Addr × Obj)} {σ : L2.St} {H : Hp} {s : Shared}
theorem laidT {Q : VK} {ys : List V} {its : List Value} {h' : Heap} {t' : Nat} (I : Inv X pins σ H s) (r : Vals ys its) (z : ys.length ≤ sizeLine) (k : ∀ b u, s.heap.get? b = some u → h'.get? b = some u) (hp : s.heap.objs.size ≤ h'.objs.size) (q : NT H ys Q) :
    EP X pins σ Q (.ref h'.objs.size) { s with heap := h'.push { cls := .type "tuple", data := .seq its.toArray }, toks := t' } := by
  refine ⟨.ref h'.objs.size, _, I.laid (t' := t') (o := .frz { cls := .type "tuple", data := .seq its.toArray } (.tup ys)) (fun b u e => Heap.get?_push_of_some _ (k b u e)) hp ?_, rfl, q _ _ (I.hok.fresh hp) rfl⟩
  exact ⟨Heap.get?_push_size _ rfl, z, its, r, _, Heap.get?_push_size _ rfl, rfl, _, rfl⟩

def tTupF (t : TA) : TE := fun σ H Q => t σ H fun xs H1 => xs.length ≤ sizeLine ∧ NT H1 xs Q
theorem pe_tupF {es : List Expr} {t : TA} {pos : Pos} {x1} (h : PA X es t) : PE X (.Tuple es x1 pos) (tTupF t) := by
  refine ⟨fun pins s σ H Q I hq => ?_⟩
  refine wpAny_Tuple_spliced (thn (h.run pos pins s σ H _ I hq) fun us s1 ⟨xs, H1, I1, r, z, q⟩ => ⟨by rw [← r.length]; exact z, ?_⟩)
  exact laidT (t' := s1.toks) I1 r z (fun _ _ e => e) (Nat.le_refl _) q
def rCatF (K : PySem.W.Frag) : R2 := fun x y H Q => ∃ a b xs ys, x = .ref a ∧ y = .ref b ∧ SqT K H a xs ∧ SqT K H b ys ∧ xs.length + ys.length ≤ sizeLine ∧
  (xs = [] → Q (.ref b) H) ∧ (xs ≠ [] → ys = [] → Q (.ref a) H) ∧ (xs ≠ [] → ys ≠ [] → NT H (xs ++ ys) Q)
theorem op_catF : OpR X (binaryOp .Add) (rCatF X.K) := by
  intro pins s σ H x y v u Q I rx ry h
  obtain ⟨a, b, xs, ys, rfl, rfl, ha, hb, hz, q0, q1, q2⟩ := h
  cases rx
  cases ry
  obtain ⟨its, r1, p1, _⟩ := I.tuple ha
  obtain ⟨its2, r2, p2, _⟩ := I.tuple hb
  by_cases hx : xs = []
  · subst hx
    cases r1
    exact cat_tup0 p1 p2 ⟨.ref b, H, I, rfl, q0 rfl⟩
  · refine HT.cat_tup p1 p2 (fun z => hx (r1.nil_iff.mp z)) (fun z => ⟨.ref a, H, I, rfl, q1 hx (r2.nil_iff.mp z)⟩) (fun z => ?_) (by rw [← r1.length, ← r2.length]; exact hz)
    exact laidT (t' := s.toks) I (r1.append r2) (by rw [List.length_append]; exact hz) (fun _ _ e => e) (Nat.le_refl _) (q2 hx fun w => z (r2.nil_iff.mpr w))
def rSlF (K : PySem.W.Frag) : V → Option Int → Option Int → Hp → VK → Prop := fun x lo hi H Q => ∃ a xs, x = .ref a ∧ SqT K H a xs ∧
  (HT.sIx xs.length 0 lo = 0 ∧ HT.sIx xs.length xs.length hi = xs.length → Q (.ref a) H) ∧ (¬ (HT.sIx xs.length 0 lo = 0 ∧ HT.sIx xs.length xs.length hi = xs.length) → NT H (cutV xs lo hi) Q)
theorem sl_tupF : SlR X (rSlF X.K) := by
  intro pins s σ H x v vl vu lo hi sl Q I rx hs pl pu h
  obtain ⟨a, xs, rfl, hx, q1, q2⟩ := h
  cases rx
  obtain ⟨its, r, ht, hz⟩ := I.tuple hx
  have hlen : its.toArray.size = xs.length := by rw [List.size_toArray]; exact r.length.symm
  by_cases hw : HT.sIx xs.length 0 lo = 0 ∧ HT.sIx xs.length xs.length hi = xs.length
  · refine ⟨"tuple", _, PyProof.Rows.slot_tuple_getitem.lookup, ht.typeIs, ?_⟩
    exact getItem_tuple_whole ht hs pl pu (by rw [hlen]; exact hw) ⟨.ref a, H, I, rfl, q1 hw⟩
  · refine ⟨"tuple", _, PyProof.Rows.slot_tuple_getitem.lookup, ht.typeIs, ?_⟩
    refine HT.getItem_tuple_cut ht hs pl pu (by rw [hlen]; exact hw) ?_ (by rw [hlen]; exact hz)
    rw [hlen]
    exact laidT (t' := s.toks) I ((r.drop (HT.sIx xs.length 0 lo)).take (HT.sIx xs.length xs.length hi - HT.sIx xs.length 0 lo)) (Nat.le_trans (cutV_length xs lo hi) hz) (fun _ _ e => e) (Nat.le_refl _) (q2 hw)
theorem call_tupF : CallR X (.type "tuple") (fun xs H Q => ∃ p ys, xs = [.ref p] ∧ SqL X.K H p ys ∧ NT H ys Q) := by
  intro pins s σ H xs us Q I r h
  obtain ⟨p, ys, rfl, hq, q⟩ := h
  obtain ⟨u, rfl, rx⟩ := vals1 r
  cases rx
  obtain ⟨its, r', pl, hz⟩ := I.list hq
  have hlen := r'.length
  refine call_tuple_list pl.isList (fun h' kp => ?_) (by simp only [List.size_toArray] <;> omega)
  have I1 : Inv X pins σ H { s with heap := h' } := I.kept (t' := s.toks) kp
  exact laidT (s := { s with heap := h' }) (t' := s.toks) I1 r' hz (fun _ _ e => e) (Nat.le_refl _) q

/-- a tuple with no dict of its own: known as it stands, or written -/
def TupX (K : PySem.W.Frag) (H : Hp) (a : Addr) (us : List V) : Prop :=
  (∃ o : Obj, H a = some (.frz o (.tup us)) ∧ o.dict = none) ∨
    ∃ (o : Obj) (its : Array Value) (n : Nat), K.lookup a = some o ∧ o.cls = .type "tuple" ∧ o.dict = none ∧ o.data = .seq its n ∧ its.size ≤ sizeLine ∧ Vals us its.toList
theorem TupX.at {a : Addr} {us : List V} (I : Inv X pins σ H s) (h : TupX X.K H a us) : ∃ (o : Obj) (its : List Value) (n : Nat), s.heap.get? a = some o ∧ o.cls = .type "tuple" ∧ o.dict = none ∧ o.data = .seq its.toArray n ∧ its.length ≤ sizeLine ∧ Vals us its := by
  rcases h with ⟨o, h, hd⟩ | ⟨o, its, n, h1, h2, h3, h4, h5, h6⟩
  · obtain ⟨e, z, its, r, o2, e2, c2, n, d2⟩ := I.hok a _ h
    rw [e] at e2
    cases e2
    exact ⟨o, its, n, e, c2, hd, d2, by rw [← r.length]; exact z, r⟩
  · exact ⟨o, its.toList, n, I.kIn a o h1, h2, h3, by rw [h4], by simpa using h5, h6⟩
def tBMT (K : PySem.W.Frag) (r : V → List V → Hp → VK → Prop) (to : TE) (t : TA) : TE := fun σ H Q => to σ H fun x H1 => (∃ a us, x = .ref a ∧ TupX K H1 a us) ∧ t σ H1 fun xs H2 => r x xs H2 Q
end
def eTupF : List V → Hp → VK → Prop := fun ys H' Q => NT H' ys Q
section
variable {X : L2.Cx} {pins : List (Addr × Obj)} {σ : L2.St} {H : Hp}
theorem pe_tupGF {c P : Addr} {elt iter tg : Expr} {ifs : List Expr} {p pos gpos : Pos} {scope : Scope} {own : List (Str × Nat)} {wi : TI} {g : TG} {tt : TT} {te : TE} {k : Nat}
    (hr : Room (k + 1) X.A) (hc : X.calm = true) (hgl : Gl X "tuple") (hm : X.mg "tuple" = none) (hb : bootBuiltins "tuple" = some (.type "tuple")) (TB : TabB X.base X.mg c P) (hcode : X.env.code = .ref c)
    (ok : GOk X.N X.env.scope scope own) (hN : X.N.Nodup) (hi : PI X tg iter wi)
    (hg : ∀ s H C code A' fp, PG (gcx X s H (GCtx X scope C code) A' fp) tg g)
    (ht : ∀ s H C code A' fp, Room k A' → PTs (gcx X s H (GCtx X scope C code) A' fp) ifs tt)
    (he : ∀ s H C code A' fp, Room k A' → PE (gcx X s H (GCtx X scope C code) A' fp) elt te)
    (hs : ∀ v, genFold iter X.env v = pure v := by intro _; rfl)
    (hst : starEach [.GeneratorExp elt [⟨tg, iter, ifs, 0⟩] scope gpos] X.env = (false, eval (.GeneratorExp elt [⟨tg, iter, ifs, 0⟩] scope gpos) X.env) :: starEach [] X.env := by rfl) :
    PE X (.Call (.Name "tuple" p) [.GeneratorExp elt [⟨tg, iter, ifs, 0⟩] scope gpos] [] pos) (tGx P wi (bLst g tt te (own.map (·.2)) eTupF)) := by
  refine ⟨fun pins s σ H Q I h => ?_⟩
  refine wpAny_Call_Name_kw (ld_blt I hgl hm hb ?_)
  refine PyProof.Rows.callWith_type1 ?_ hst (by rfl)
  rw [hst]
  show wpAny _ _ (spliced ((false, eval (.GeneratorExp elt [⟨tg, iter, ifs, 0⟩] scope gpos) X.env) :: backTo pos (starEach [] X.env))) _ _ s
  refine Calls.spliced_cons (gx_make hr TB hcode ok hN hi hs I h fun J H2 a g' sc s5 C code fp it tn go hR M => ?_)
  refine Calls.spliced_nil ?_
  obtain ⟨W, ⟨m0, hw⟩, gt⟩ := hR
  refine call_tuple_gx (X := X) (H := H2) (g := g') (sc := sc) (fp := fp) (full_of M hc hr.hd (by have := hr.dp; show X.A.depth < _; omega) M.inv.ok.frames ok.co (hg ..) (ht _ _ _ _ _ _ (room_gen hr rfl rfl (by show X.A.units + 1 + 1 + 1 + 1 ≤ _; omega))) (he _ _ _ _ _ _ (room_gen hr rfl rfl (by show X.A.units + 1 + 1 + 1 + 1 ≤ _; omega))) hw gt)
    fun s' vs ys H' hsz r hl os hb un hok hq => ?_
  exact laidT (t' := s'.toks) (out_inv M.inv M.fpok os hb un hok) r hl (fun _ _ e => e) (Nat.le_refl _) hq
end
end DL
set_option Elab.async false
set_option linter.all false
set_option maxRecDepth 100000
set_option maxHeartbeats 1000000
namespace DL
open PySem PySem.Spec PyProof.Rows L2

/-- something stands there -/
def alive (D : Addr) : HO := .ext fun h => ∃ o, h.get? D = some o
theorem alive_ok {P : Program} {w : World} {H : Hp} {h : Heap} {D : Addr} {o : Obj} (e : h.get? D = some o) : ObjOk P w H h D (alive D) := ⟨⟨o, e⟩, ⟨o, e⟩, fun h1 h2 ⟨o1, e1⟩ k => ⟨o1, k o1 e1⟩⟩
/-- the object of a dict with such keys, hs their hash -/
def TDo (hs : List Key → Int) (D : Addr) (o : Obj) (xs : List (List Key × Addr × Value)) : Prop :=
  (D == sysModules) = false ∧ o.ExactDict ∧ xs.length ≤ sizeLine ∧ (xs.map (·.1)).Nodup ∧ ∃ (es : Array DictEntry) (ep : Nat), o.data = .dict es ep ∧ es.toList = xs.map fun x => (⟨hs x.1, .ref x.2.1, x.2.2⟩ : DictEntry)
/-- the hash of such keys -/
def hsOf (P : Program) (w : World) : List Key → Int := (tupleKind (mixKind P w)).hash
/-- the hash of a set's members, and whether the text's order holds -/
structure SetSp where
  hs : List Int → Int
  fl : Bool
  deriving Inhabited
/-- the object of a set of tuples of ints -/
def SetOb (sp : SetSp) (o : Obj) (L : List (Addr × List Int)) : Prop :=
  ∃ (es : Array (Int × Value)) (ep : Nat) (t : SetTable), o.ExactSet ∧ o.data = .set es ep t ∧ es.toList = L.map (fun p => (sp.hs p.2, Value.ref p.1)) ∧ TabOk t (L.map fun p => sp.hs p.2) ∧ (L.map (·.2)).Nodup ∧ t.plain = true ∧ (sp.fl = true ∨ t.led = true) ∧ L.length * 5 < t.mask * 3 ∧ L.length < 64
def spOf (P : Program) (w : World) : SetSp := ⟨thash P w, w.params.followText "set-order"⟩
section
variable {P : Program} {w : World} {H : Hp} {h : Heap} {D : Addr} {o : Obj} {xs : List (List Key × Addr × Value)}
theorem TDo.of (hd : (D == sysModules) = false) (hz : xs.length ≤ sizeLine) (m : h.DictOfH (tupleKind (mixKind P w)) D xs) : ∃ o, h.get? D = some o ∧ TDo (hsOf P w) D o xs := by
  obtain ⟨o, es, ep, ho, hx, hdt, he, _, hn⟩ := m
  exact ⟨o, ho, hd, hx, hz, hn, es, ep, hdt, he⟩
theorem TDo.dict (t : TDo (hsOf P w) D o xs) (ho : h.get? D = some o) (hk : ∀ x ∈ xs, (tupleKind (mixKind P w)).is h x.1 x.2.1) : h.DictOfH (tupleKind (mixKind P w)) D xs := by
  obtain ⟨hd, hx, hz, hn, es, ep, hdt, he⟩ := t
  exact ⟨o, es, ep, ho, hx, hdt, he, hk, hn⟩
theorem items_mix : ∀ {ks : List Key} {us : List Value}, Vals (ks.map kV) us → ItemsAre (mixKind P w) ks us
  | [], _, .nil => .nil
  | k :: ks, _, .cons r t => .cons (kV_is r) (items_mix t)
end
section
variable {X : L2.Cx} {pins : List (Addr × Obj)} {σ : L2.St} {H : Hp} {s : Shared} {b D : Addr} {k : List Key}
theorem key_is (I : Inv X pins σ H s) (h : SqT X.K H b (k.map kV)) : (tupleKind (mixKind X.prog X.w)).is s.heap k b := by
  obtain ⟨its, r, ⟨o, ho, hc, n, hd⟩, _⟩ := I.tuple h
  exact ⟨o, its.toArray, n, ho, hc, hd, by simpa using items_mix r⟩
end
section
variable {P : Program} {w : World} {h : Heap} {a : Addr} {o : Obj} {L : List (Addr × List Int)} {es : Array (Int × Value)} {ep : Nat} {t : SetTable}
theorem SetOb.of (R : SetTR P w h a L es ep t) : ∃ o, h.get? a = some o ∧ SetOb (spOf P w) o L := by
  obtain ⟨o, ho, hx, hd⟩ := R.ob
  exact ⟨o, ho, es, ep, t, hx, hd, R.rows, R.tab, R.nd, R.plain, R.led, R.room, R.few⟩
end
end DL
set_option Elab.async false
set_option linter.all false
set_option maxRecDepth 100000
set_option maxHeartbeats 1000000
namespace DL
open PySem PySem.Spec PyProof.Rows L2

/-- plain data -/
inductive D where
  | non | bl (b : Bool) | int (i : Int) | str (z : List Nat) | ty (n : String)
  | tup (xs : List D) | wt (xs : List D) | lst (xs : List D) | dS (kvs : List (List Nat × D)) | dT (hs : List Key → Int) (kvs : List (List (List Nat) × D))
  | st (sp : SetSp) (ks : List (List Int))
  | row | fn (j : Nat) (a : Addr)
  deriving Inhabited

/-- the drawn row -/
structure S where
  script : List Int
  place : Int
  seed : Int
  rest : Int

/-- an exception: its class's name, what its attribute index holds -/
structure Exn where
  cls : Str
  idx : Option D

inductive Res (α : Type) where
  | ok (a : α) (s : S)
  | exc (x : Exn) (s : S)
  | bad
abbrev M (α : Type) := S → Res α
def mpure {α : Type} (a : α) : M α := fun s => .ok a s
def mbad {α : Type} : M α := fun _ => .bad
def mbind {α β : Type} (m : M α) (k : α → M β) : M β := fun s => match m s with
  | .ok a s' => k a s'
  | .exc x s' => .exc x s'
  | .bad => .bad
def mopt {α : Type} (o : Option α) : M α := fun s => match o with
  | some a => .ok a s
  | none => .bad
def ST (z : List Nat) : Str := ⟨z.toArray⟩
theorem ST_len (z : List Nat) : (ST z).length = z.length := by simp [ST, Str.length]
theorem ST_toList (z : List Nat) : (ST z).cps.toList = z := by simp [ST]
theorem ST_inj {a b : List Nat} (h : ST a = ST b) : a = b := by
  have := congrArg (fun s : Str => s.cps.toList) h
  simpa [ST] using this

/-- flat data -/
inductive Atom (R : Addr) : V → D → Prop
  | non : Atom R .non .non
  | bl {b : Bool} : Atom R (.bl b) (.bl b)
  | int {i : Int} : Atom R (.int i) (.int i)
  | str {z : List Nat} : Atom R (.str (ST z)) (.str z)
  | ty {n : String} : Atom R (.ty n) (.ty n)
  | row : Atom R (.ref R) .row
  | fn {j : Nat} {a : Addr} : Atom R (.ref a) (.fn j a)

def kS : List Nat × D → Key := fun p => .inr (ST p.1)
def kT : List (List Nat) × D → List Key := fun p => p.1.map fun z => .inr (ST z)

theorem TupX.sq {K : PySem.W.Frag} {H : Hp} {a : Addr} {us : List V} (h : TupX K H a us) : SqT K H a us := by
  rcases h with ⟨o, h, _⟩ | ⟨o, its, n, h1, h2, h3, h4, h5, h6⟩
  · exact .inl (.inr ⟨o, h⟩)
  · exact .inr ⟨o, its, n, h1, h2, h4, h5, h6⟩
/-- these values stand for these data; nothing of it stands where B says -/
inductive Rs (K : PySem.W.Frag) (H : Hp) (R : Addr) (B : Addr → Prop) : List V → List D → Prop
  | nil : Rs K H R B [] []
  | atom {v : V} {d : D} {vs : List V} {ds : List D} : Atom R v d → Rs K H R B vs ds → Rs K H R B (v :: vs) (d :: ds)
  | tup {a : Addr} {us vs : List V} {es ds : List D} : TupX K H a us → ¬ B a → Rs K H R B us es → Rs K H R B vs ds → Rs K H R B (.ref a :: vs) (.tup es :: ds)
  | wt {a : Addr} {us vs : List V} {es ds : List D} : SqT K H a us → ¬ B a → Rs K H R B us es → Rs K H R B vs ds → Rs K H R B (.ref a :: vs) (.wt es :: ds)
  | lst {a : Addr} {us vs : List V} {es ds : List D} : H a = some (.lst us) → ¬ B a → Rs K H R B us es → Rs K H R B vs ds → Rs K H R B (.ref a :: vs) (.lst es :: ds)
  | dS {a : Addr} {o : Obj} {kvs : List (Key × V)} {es : List (List Nat × D)} {vs : List V} {ds : List D} : H a = some (.frz o (.dK kvs)) → ¬ B a → kvs.map (·.1) = es.map kS → Rs K H R B (kvs.map (·.2)) (es.map (·.2)) → Rs K H R B vs ds → Rs K H R B (.ref a :: vs) (.dS es :: ds)
  | dT {hs : List Key → Int} {a : Addr} {o : Obj} {xs : List (List Key × Addr × Value)} {us : List V} {es : List (List (List Nat) × D)} {vs : List V} {ds : List D} : H a = some (.frz o (alive a)) → ¬ B a → (TDo hs a o xs ∧ xs.map (·.1) = es.map kT ∧ Vals us (xs.map (·.2.2))) →
      Rs K H R B (xs.map fun x => .ref x.2.1) (es.map fun e => .tup (e.1.map .str)) → Rs K H R B us (es.map (·.2)) → Rs K H R B vs ds → Rs K H R B (.ref a :: vs) (.dT hs es :: ds)
  | st {sp : SetSp} {a : Addr} {o : Obj} {L : List (Addr × List Int)} {ks : List (List Int)} {vs : List V} {ds : List D} : H a = some (.frz o (alive a)) → ¬ B a → (SetOb sp o L ∧ ∀ k, k ∈ L.map (·.2) ↔ k ∈ ks) →
      Rs K H R B (L.map fun p => .ref p.1) (L.map fun p => .tup (p.2.map .int)) → Rs K H R B vs ds → Rs K H R B (.ref a :: vs) (.st sp ks :: ds)
abbrev R1 (K : PySem.W.Frag) (H : Hp) (R : Addr) (B : Addr → Prop) (v : V) (d : D) : Prop := Rs K H R B [v] [d]

def DataHO : HO → Prop
  | .lst _ => True
  | .tup _ => True
  | .dK _ => True
  | .dT _ => True
  | _ => False
/-- what may be read at H may be read at H' -/
def RdLe (B : Addr → Prop) (H H' : Hp) : Prop := (∀ a u, ¬ B a → DataHO u → Rd H a u → Rd H' a u) ∧ (∀ a o u, ¬ B a → H a = some (.frz o u) → H' a = some (.frz o u)) ∧ ∀ a us, ¬ B a → H a = some (.lst us) → H' a = some (.lst us)
section
variable {K : PySem.W.Frag} {H H' : Hp} {R : Addr} {B B' : Addr → Prop} {v : V} {d : D} {vs us : List V} {ds es : List D}
theorem RdLe.sqL {a : Addr} {xs : List V} (r : RdLe B H H') (n : ¬ B a) (h : SqL K H a xs) : SqL K H' a xs := by
  rcases h with h | h
  · exact .inl (r.1 a _ n trivial h)
  · exact .inr h
theorem RdLe.sqT {a : Addr} {xs : List V} (r : RdLe B H H') (n : ¬ B a) (h : SqT K H a xs) : SqT K H' a xs := by
  rcases h with h | h
  · exact .inl (r.1 a _ n trivial h)
  · exact .inr h
theorem RdLe.tupX {a : Addr} {xs : List V} (r : RdLe B H H') (n : ¬ B a) (h : TupX K H a xs) : TupX K H' a xs := by
  rcases h with ⟨o, h, hd⟩ | h
  · exact .inl ⟨o, r.2.1 a o _ n h, hd⟩
  · exact .inr h
theorem Rs.mono (r : RdLe B H H') (h : Rs K H R B vs ds) : Rs K H' R B vs ds := by
  induction h with
  | nil => exact .nil
  | atom a _ ih => exact .atom a ih
  | tup s n _ _ ih1 ih2 => exact .tup (r.tupX n s) n ih1 ih2
  | wt s n _ _ ih1 ih2 => exact .wt (r.sqT n s) n ih1 ih2
  | lst s n _ _ ih1 ih2 => exact .lst (r.2.2 _ _ n s) n ih1 ih2
  | dS s n e _ _ ih1 ih2 => exact .dS (r.2.1 _ _ _ n s) n e ih1 ih2
  | dT s n e _ _ _ ih1 ih2 ih3 => exact .dT (r.2.1 _ _ _ n s) n e ih1 ih2 ih3
  | st s n e _ _ ih1 ih2 => exact .st (r.2.1 _ _ _ n s) n e ih1 ih2
theorem Rs.less (hb : ∀ a, B' a → B a) (h : Rs K H R B vs ds) : Rs K H R B' vs ds := by
  induction h with
  | nil => exact .nil
  | atom a _ ih => exact .atom a ih
  | tup s n _ _ ih1 ih2 => exact .tup s (fun z => n (hb _ z)) ih1 ih2
  | wt s n _ _ ih1 ih2 => exact .wt s (fun z => n (hb _ z)) ih1 ih2
  | lst s n _ _ ih1 ih2 => exact .lst s (fun z => n (hb _ z)) ih1 ih2
  | dS s n e _ _ ih1 ih2 => exact .dS s (fun z => n (hb _ z)) e ih1 ih2
  | dT s n e _ _ _ ih1 ih2 ih3 => exact .dT s (fun z => n (hb _ z)) e ih1 ih2 ih3
  | st s n e _ _ ih1 ih2 => exact .st s (fun z => n (hb _ z)) e ih1 ih2
theorem Rs.length (h : Rs K H R B vs ds) : vs.length = ds.length := by
  induction h <;> simp_all
theorem Rs.split (h : Rs K H R B (v :: vs) (d :: ds)) : R1 K H R B v d ∧ Rs K H R B vs ds := by
  cases h with
  | atom a t => exact ⟨.atom a .nil, t⟩
  | tup s n x t => exact ⟨.tup s n x .nil, t⟩
  | wt s n x t => exact ⟨.wt s n x .nil, t⟩
  | lst s n x t => exact ⟨.lst s n x .nil, t⟩
  | dS s n e x t => exact ⟨.dS s n e x .nil, t⟩
  | dT s n e y x t => exact ⟨.dT s n e y x .nil, t⟩
  | st s n e x t => exact ⟨.st s n e x .nil, t⟩
theorem Rs.cons (h : R1 K H R B v d) (t : Rs K H R B vs ds) : Rs K H R B (v :: vs) (d :: ds) := by
  cases h with
  | atom a _ => exact .atom a t
  | tup s n x _ => exact .tup s n x t
  | wt s n x _ => exact .wt s n x t
  | lst s n x _ => exact .lst s n x t
  | dS s n e x _ => exact .dS s n e x t
  | dT s n e y x _ => exact .dT s n e y x t
  | st s n e x _ => exact .st s n e x t
theorem Rs.append : ∀ {vs us : List V} {ds es : List D}, Rs K H R B vs ds → Rs K H R B us es → Rs K H R B (vs ++ us) (ds ++ es)
  | [], us, ds, es, h, t => by cases h; exact t
  | v :: vs, us, ds, es, h, t => by
    cases ds with
    | nil => cases h
    | cons d ds =>
      obtain ⟨a, b⟩ := h.split
      exact Rs.cons a (Rs.append b t)
theorem Rs.get : ∀ {vs : List V} {ds : List D} {i : Nat} {d : D}, Rs K H R B vs ds → ds[i]? = some d → ∃ v, vs[i]? = some v ∧ R1 K H R B v d
  | [], ds, i, d, h, e => by cases h; simp at e
  | v :: vs, [], i, d, h, e => by cases h
  | v :: vs, d' :: ds, 0, d, h, e => by
    simp at e; subst e
    exact ⟨v, rfl, h.split.1⟩
  | v :: vs, d' :: ds, i + 1, d, h, e => by
    obtain ⟨w, h1, h2⟩ := Rs.get (i := i) (d := d) h.split.2 (by simpa using e)
    exact ⟨w, by simpa using h1, h2⟩
theorem Rs.getV : ∀ {vs : List V} {ds : List D} {i : Nat} {v : V}, Rs K H R B vs ds → vs[i]? = some v → ∃ d, ds[i]? = some d ∧ R1 K H R B v d := fun {vs ds i v} h e => by
  have hl := h.length
  have hi : i < vs.length := (List.getElem?_eq_some_iff.mp e).1
  obtain ⟨v', e', r⟩ := h.get (i := i) (d := ds[i]'(by omega)) (List.getElem?_eq_getElem _)
  rw [e] at e'
  cases e'
  exact ⟨_, List.getElem?_eq_getElem _, r⟩
theorem Rs.drop : ∀ {vs : List V} {ds : List D} (n : Nat), Rs K H R B vs ds → Rs K H R B (vs.drop n) (ds.drop n)
  | _, _, 0, h => h
  | [], ds, n + 1, h => by cases h; exact .nil
  | v :: vs, [], n + 1, h => by cases h
  | v :: vs, d :: ds, n + 1, h => Rs.drop n h.split.2
theorem Rs.take : ∀ {vs : List V} {ds : List D} (n : Nat), Rs K H R B vs ds → Rs K H R B (vs.take n) (ds.take n)
  | _, _, 0, h => by simp; exact .nil
  | [], ds, n + 1, h => by cases h; exact .nil
  | v :: vs, [], n + 1, h => by cases h
  | v :: vs, d :: ds, n + 1, h => by
    simp only [List.take_succ_cons]
    exact Rs.cons h.split.1 (Rs.take n h.split.2)
end

/-- what a def's run knows: the row's place, what is kept away from, the heap at the entry -/
structure G where
  R : Addr
  B : Addr → Prop
  H0 : Hp

/-- the tables: those of generator expressions, and those that tell lambdas of a name -/
structure Tb where
  gs : List Addr
  ls : List (Addr × Str)
instance : Membership Addr Tb := ⟨fun T P => P ∈ T.gs⟩
@[simp] theorem Tb.mem_mk {P : Addr} {a : List Addr} {b : List (Addr × Str)} : P ∈ (⟨a, b⟩ : Tb) ↔ P ∈ a := Iff.rfl
theorem codeO_ext (c : Addr) (q : Str) : ∃ φ, LamX.CodeO c q = .ext φ := by unfold LamX.CodeO; exact ⟨_, rfl⟩
/-- what keeps the tables that tell lambdas -/
theorem tabs_keep {ls : List (Addr × Str)} {H H' : Hp} (t : LamX.Tabs ls H) (k1 : ∀ p ∈ ls, ∀ ps, H p.1 = some (.tbl ps) → H' p.1 = some (.tbl ps)) (k2 : ∀ c φ, H c = some (.ext φ) → H' c = some (.ext φ)) : LamX.Tabs ls H' := fun p hp => by
  obtain ⟨ps, h1, h2, h3⟩ := t p hp
  refine ⟨ps, k1 p hp ps h1, h2, fun pos cv hc => ?_⟩
  obtain ⟨c, e1, e2⟩ := h3 pos cv hc
  obtain ⟨φ, eφ⟩ := codeO_ext c p.2
  exact ⟨c, e1, by rw [eφ] at e2 ⊢; exact k2 c φ e2⟩
structure Wo (K : PySem.W.Frag) (T : Tb) (g : G) (H : Hp) (z : S) : Prop where
  row : ∃ SA, ¬ g.B SA ∧ SqL K H SA (z.script.map V.int) ∧ H g.R = some (.lst [.ref SA, .int z.place, .int z.seed, .int z.rest])
  tabs : ∀ P ∈ T, GxR.TabG H P
  bad : g.B g.R
  dom : ∀ a, g.B a → H a ≠ none
  kn : ∀ a, g.B a → K.lookup a = none
  lam : LamX.Tabs T.ls H
  dis : ∀ p ∈ T.ls, ¬ p.1 ∈ T
structure Ext (R : Addr) (H H' : Hp) : Prop where
  keep : ∀ a o, H a = some o → a ≠ R → (∀ ps, o ≠ .tbl ps) → H' a = some o
  dom : ∀ a, H a ≠ none → H' a ≠ none
  row : ∀ x xs, H R = some (.lst (x :: xs)) → ∃ ys, H' R = some (.lst (x :: ys))
section
variable {K : PySem.W.Frag} {T : Tb} {g : G} {H H' H2 : Hp} {z : S} {R : Addr} {B : Addr → Prop}
theorem Ext.refl : Ext R H H := ⟨fun _ _ e _ _ => e, fun _ e => e, fun _ xs e => ⟨xs, e⟩⟩
theorem Ext.trans (a : Ext R H H') (b : Ext R H' H2) : Ext R H H2 := ⟨fun c o e h1 h2 => b.keep c o (a.keep c o e h1 h2) h1 h2, fun c h => b.dom c (a.dom c h), fun x xs e => (a.row x xs e).elim fun ys e2 => b.row x ys e2⟩
theorem Ext.rd (a : Ext R H H') (hB : B R) : RdLe B H H' := ⟨fun c u n du r => by
  have hc : c ≠ R := fun e => n (by rw [e]; exact hB)
  rcases r with r | ⟨o, r⟩
  · exact .inl (a.keep c _ r hc (fun ps e => by rw [e] at du; exact du))
  · exact .inr ⟨o, a.keep c _ r hc (fun ps e => by cases e)⟩, fun c o us n e => a.keep c _ e (fun z => n (by rw [z]; exact hB)) (fun ps z => by cases z), fun c us n e => a.keep c _ e (fun z => n (by rw [z]; exact hB)) (fun ps z => by cases z)⟩
theorem Ext.new {p : Addr} {o : HO} (hp : H p = none) : Ext R H (upd H p o) :=
  ⟨fun a u e _ _ => by rw [upd_ne (ne_of_none e hp)]; exact e, fun a h => by
    by_cases e : a = p
    · rw [e, upd_same]; exact fun z => by cases z
    · rw [upd_ne e]; exact h, fun x xs e => ⟨xs, by rw [upd_ne (ne_of_none e hp)]; exact e⟩⟩
theorem Wo.new {p : Addr} {o : HO} (w : Wo K T g H z) (hp : H p = none) : Wo K T g (upd H p o) z := by
  obtain ⟨⟨SA, h1, h2, h3⟩, ht, hb, hd, hk, hl, hi⟩ := w
  refine ⟨⟨SA, h1, ?_, ?_⟩, fun P hP => ?_, hb, fun a ha => ?_, hk, tabs_keep hl (fun q _ ps e => by rw [upd_ne (ne_of_none e hp)]; exact e) fun c φ e => by rw [upd_ne (ne_of_none e hp)]; exact e, hi⟩
  · rcases h2 with (q | ⟨ob, q⟩) | q
    · exact .inl (.inl (by rw [upd_ne (ne_of_none q hp)]; exact q))
    · exact .inl (.inr ⟨ob, by rw [upd_ne (ne_of_none q hp)]; exact q⟩)
    · exact .inr q
  · rw [upd_ne (ne_of_none h3 hp)]; exact h3
  · obtain ⟨ps, q, r⟩ := ht P hP
    exact ⟨ps, by rw [upd_ne (ne_of_none q hp)]; exact q, r⟩
  · by_cases e : a = p
    · rw [e, upd_same]; exact fun z => by cases z
    · rw [upd_ne e]; exact hd a ha
theorem Wo.less {B' : Addr → Prop} {H0' : Hp} (w : Wo K T g H z) (hb : ∀ a, B' a → g.B a) (hR : B' g.R) : Wo K T ⟨g.R, B', H0'⟩ H z := by
  obtain ⟨⟨SA, h1, h2, h3⟩, ht, hb', hd, hk, hl, hi⟩ := w
  exact ⟨⟨SA, fun q => h1 (hb _ q), h2, h3⟩, ht, hR, fun a h => hd a (hb a h), fun a h => hk a (hb a h), hl, hi⟩
end
end DL
set_option Elab.async false
set_option linter.all false
set_option maxRecDepth 100000
set_option maxHeartbeats 1000000
namespace L2
open PySem PySem.Spec PyProof.Rows
section
variable {X : Cx}
theorem takeH {pins : List (Addr × Obj)} {σ : St} {H0 : Hp} {s : Shared} {h' : Heap} {tk : Nat} {P : Addr → HO → Prop} (I0 : Inv X pins σ H0 s) : ∀ (L : List Addr) (H1 : Hp), Inv X pins σ H1 { s with heap := h', toks := tk } → L.Nodup →
    (∀ a ∈ L, s.heap.objs.size ≤ a ∧ H1 a = none ∧ ∃ u, P a u ∧ ∀ H2, ObjOk X.prog X.w H2 h' a u) →
    ∃ H2, Inv X pins σ H2 { s with heap := h', toks := tk } ∧ (∀ b o, H1 b = some o → H2 b = some o) ∧ (∀ b, b ∉ L → H2 b = H1 b) ∧ ∀ a ∈ L, ∃ u, P a u ∧ H2 a = some u
  | [], H1, I1, _, _ => ⟨H1, I1, fun _ _ e => e, fun _ _ => rfl, fun _ h => nomatch h⟩
  | a :: L, H1, I1, hn, h => by
    obtain ⟨hb, hnone, u, hP, ok⟩ := h a (List.mem_cons_self ..)
    have I2 : Inv X pins σ (upd H1 a u) { s with heap := h', toks := tk } := I1.take (h' := h') (t' := tk) (fun b ob _ e => e) (I0.fpOk hb hnone) (ok _)
    rw [List.nodup_cons] at hn
    obtain ⟨H2, I3, g, g2, q⟩ := takeH I0 L (upd H1 a u) I2 hn.2 fun c hc => by
      obtain ⟨c1, c2, c3⟩ := h c (List.mem_cons_of_mem _ hc)
      exact ⟨c1, by rw [upd_ne (fun z => hn.1 (by rw [← z]; exact hc))]; exact c2, c3⟩
    refine ⟨H2, I3, fun b o e => g b o (by rw [upd_ne (ne_of_none e hnone)]; exact e), fun b hb => ?_, fun c hc => ?_⟩
    · rw [g2 b fun z => hb (List.mem_cons_of_mem _ z), upd_ne fun z => hb (by rw [z]; exact List.mem_cons_self ..)]
    · rcases List.mem_cons.mp hc with rfl | hc
      · exact ⟨u, hP, g _ _ upd_same⟩
      · exact q c hc
/-- its reading -/
def tLz (K : PySem.W.Frag) (ta : TA) : TE := fun σ H Q => ta σ H fun vs H1 => ∃ (a : Addr) (xs : List V) (y : Str), vs = [.ref a, .str y] ∧ SqL K H1 a xs ∧ y.cps.all (· < 128) = true ∧ y.cps.size = xs.length ∧ 0 < xs.length ∧
  ∀ (H2 : Hp) (p : Addr) (as : List Addr), H1 p = none → p ∉ as → as.Nodup → as.length = xs.length → (∀ b, b ∉ as → b ≠ p → H2 b = H1 b) → H2 p = some (.lst (as.map V.ref)) →
    (∀ (j : Nat) (b : Addr), as[j]? = some b → H1 b = none ∧ ∃ (x : V) (c : Nat) (ob : Obj), xs[j]? = some x ∧ y.cps[j]? = some c ∧ H2 b = some (.frz ob (.tup [x, .str ⟨#[c]⟩])) ∧ ob.dict = none) → Q (.ref p) H2
theorem lz_vrefs : ∀ as : List Addr, Vals (as.map V.ref) (as.map Value.ref)
  | [] => .nil
  | _ :: as => .cons rfl (lz_vrefs as)
theorem pe_listzip {a b : Expr} {ta : TA} {p1 p2 q1 pos : Pos} (hg : Gl X "list") (hm : X.mg "list" = none) (hg2 : Gl X "zip") (hm2 : X.mg "zip" = none) (ha : PA X [a, b] ta) (hc : X.calm = true := by rfl)
    (hs : starEach [a, b] X.env = (false, eval a X.env) :: starEach [b] X.env := by rfl) (hpl : (backTo q1 (starEach [b] X.env)).any (·.1) = false := by rfl) :
    PE X (.Call (.Name "list" p1) [.Call (.Name "zip" p2) [a, b] [] q1] [] pos) (tLz X.K ta) := by
  refine ⟨fun pins s σ H Q I h => ?_⟩
  refine Call_ (ld_blt I hg hm boot_list ?_)
  refine PyProof.Rows.callWith_type1 (PyProof.Rows.args_cons ?_ rfl) rfl rfl
  refine Call_ (ld_blt I hg2 hm2 PyProof.Rows.boot_zip (PyProof.Rows.callWith_type1 (thn (ha.run q1 pins s σ H _ I h) fun us s1 ⟨vs, H1, I1, r1, q⟩ => ?_) hs hpl))
  obtain ⟨l, xs, y, rfl, hq, hy, hl, hp, q⟩ := q
  cases r1 with
  | cons ru rr =>
    cases rr with
    | cons ru2 rr =>
      cases rr
      cases ru
      obtain ⟨t, rfl⟩ := ru2
      obtain ⟨its, rv, pl, hz⟩ := I1.list hq
      have hlen : its.toArray.size = xs.length := by rw [List.size_toArray, ← rv.length]
      have hlt : l < s1.heap.objs.size := pl.lt
      refine LZ.call_zip hy pl.isList fun h' hz1 hTI hTO h1 h2 hsz hk => ?_
      refine PyProof.Rows.args_nil ?_
      have hln : ∀ k, l ≠ s1.heap.objs.size + k := fun k => Nat.ne_of_lt (Nat.lt_of_lt_of_le hlt (Nat.le_add_right _ k))
      have ne1 : ∀ a b : Nat, a ≠ b → ((a : Addr) ≠ b) := fun _ _ h => h
      have lt1 : ∀ a b : Nat, a < b → ((a : Addr) < b) := fun _ _ h => h
      have D : LZ.Apart (s1.heap.objs.size + 4) (s1.heap.objs.size + 2) (s1.heap.objs.size + 3) s1.heap.objs.size (s1.heap.objs.size + 1) l :=
        ⟨ne1 _ _ (by omega), ne1 _ _ (by omega), ne1 _ _ (by omega), ne1 _ _ (by omega), ne1 _ _ (by omega), ne1 _ _ (by omega), ne1 _ _ (by omega), ne1 _ _ (by omega), ne1 _ _ (by omega), ne1 _ _ (by omega), hln 4, hln 3, hln 0, hln 1⟩
      refine LZ.call_list (s := { s1 with heap := h' }) (t := t) (xs := its.toArray) (I1.ok.hd hc) D (lt1 _ _ (by omega)) (lt1 _ _ (by omega)) (lt1 _ _ (by omega)) (by rw [hlen]; exact hz) (by rw [hl, hlen]) (by omega) hz1 hTI hTO h1 h2 (pl.isList.at fun o e => hk _ o e)
        (fun s' A' E' Q' z1 q' => wpAny_pyIter_zip z1 q') fun h2' tk acc c as hk2 hS hla hG hacc => ?_
      have hsz' : s1.heap.objs.size + 5 ≤ h'.objs.size := by omega
      have kk : ∀ b o, s1.heap.get? b = some o → h2'.get? b = some o := fun b o e => by
        have := Heap.lt_size e
        exact hk2 b o (Nat.ne_of_lt (Nat.lt_of_lt_of_le this (Nat.le_add_right _ 4))) (Nat.ne_of_lt (Nat.lt_of_lt_of_le this (Nat.le_add_right _ 3))) (Nat.ne_of_lt this) (Nat.ne_of_lt (Nat.lt_of_lt_of_le this (Nat.le_add_right _ 1))) (hk b o e)
      have I2 : Inv X pins σ H1 { s1 with heap := h2', toks := tk } := I1.kept kk
      have nd : as.Nodup := List.Pairwise.imp (fun h => Nat.ne_of_lt h) hG.rise
      have hab : ∀ b ∈ as, s1.heap.objs.size ≤ b := fun b hb => by
        have h1 : (h'.objs.size : Nat) < b := hG.above b hb
        exact Nat.le_trans (Nat.le_trans (Nat.le_add_right _ 5) hsz') (Nat.le_of_lt h1)
      obtain ⟨H2, I3, g1, g2, g3⟩ := takeH (P := fun b u => ∃ (j : Nat) (x : V) (c : Nat) (ob : Obj), as[j]? = some b ∧ xs[j]? = some x ∧ y.cps[j]? = some c ∧ u = .frz ob (.tup [x, .str ⟨#[c]⟩]) ∧ ob.dict = none) I1 as H1 I2 nd fun b hb => by
        obtain ⟨j, hj⟩ := List.mem_iff_getElem?.mp hb
        obtain ⟨x', c', tk', e1, e2, e3⟩ := hG.pairs j b hj
        rw [List.getElem?_toArray] at e1
        obtain ⟨x, ex⟩ : ∃ x, xs[j]? = some x := by
          have h1 := (List.getElem?_eq_some_iff.mp e1).1
          exact ⟨_, List.getElem?_eq_getElem (by rw [rv.length]; exact h1)⟩
        obtain ⟨u, eu, rx⟩ := Vals.get rv ex
        have euv : u = x' := Option.some.inj (eu.symm.trans e1)
        subst euv
        exact ⟨hab b hb, I1.hok.fresh (hab b hb), _, ⟨j, x, c', _, hj, ex, e2, rfl, rfl⟩, fun H2 => ⟨e3, Nat.le_of_ble_eq_true rfl, [u, .str ⟨#[c']⟩ tk'], .cons rx (.cons ⟨tk', rfl⟩ .nil), ⟨_, e3, rfl, 0, rfl⟩⟩⟩
      have hpn : H1 h'.objs.size = none := I1.hok.fresh (by omega)
      have hpas : h'.objs.size ∉ as := fun hm => Nat.lt_irrefl _ (hG.above _ hm)
      have lal : as.length = xs.length := by rw [hla, hlen]
      have I4 : Inv X pins σ (upd H2 h'.objs.size (.lst (as.map V.ref))) { s1 with heap := h2', toks := tk } := I3.take (h' := h2') (t' := tk) (fun b ob _ e => e) (I1.fpOk (by omega) (by rw [g2 _ hpas]; exact hpn))
        ⟨by rw [List.length_map, lal]; exact hz, as.map Value.ref, c, lz_vrefs as, by rw [← hacc]; exact hS⟩
      refine ⟨.ref h'.objs.size, _, I4, rfl, q _ _ as hpn hpas nd lal (fun b hb hbp => by rw [upd_ne hbp, g2 b hb]) upd_same fun j b hj => ?_⟩
      have hbm := List.mem_of_getElem? hj
      obtain ⟨u, ⟨j', x, c, ob, hj', ex, ec, eu, hdn⟩, hu⟩ := g3 b hbm
      have ej : j' = j := by
        have h1 := (List.getElem?_eq_some_iff.mp hj).1
        have h2 := (List.getElem?_eq_some_iff.mp hj').1
        have e1 := (List.getElem?_eq_some_iff.mp hj).2
        have e2 := (List.getElem?_eq_some_iff.mp hj').2
        exact (List.getElem_inj nd).mp (e2.trans e1.symm)
      subst ej
      exact ⟨I1.hok.fresh (hab b hbm), x, c, ob, ex, ec, by rw [upd_ne fun z => hpas (by rw [← z]; exact hbm), hu, eu], hdn⟩
end
end L2
set_option Elab.async false
set_option linter.all false
set_option maxRecDepth 100000
set_option maxHeartbeats 1000000
namespace DL
open PySem PySem.Spec PyProof.Rows L2

section
variable {X : L2.Cx} {pins : List (Addr × Obj)} {σ : L2.St} {H : Hp} {s : Shared}
/-- a pair is put into the locked dict -/
theorem put_known {Qe : Value → Shared → Prop} {D b : Addr} {o : Obj} {xs : List (List Key × Addr × Value)} {k : List Key} {r : Value} {Q : Unit → Shared → Prop} (hu : X.A.units < cLine) (I : Inv X pins σ H s) (hD : H D = some (.frz o (alive D)))
    (hn : ∀ o' u', X.H_0 D ≠ some (.frz o' u')) (t : TDo (hsOf X.prog X.w) D o xs) (hz : xs.length < sizeLine) (hk : ∀ x ∈ xs, SqT X.K H x.2.1 (x.1.map kV)) (hb : SqT X.K H b (k.map kV))
    (q : ∀ s' o', TDo (hsOf X.prog X.w) D o' (storedH xs k b r) → Inv X pins σ (upd H D (.frz o' (alive D))) s' → Q () s') : wpAny (model X.prog X.w) X.A (dictSet D (.ref b) r) Q Qe s := by
  have ho : s.heap.get? D = some o := (show ObjOk X.prog X.w H s.heap D (.frz o (alive D)) from I.hok D _ hD).1
  have m := t.dict ho fun x hx => key_is I (hk x hx)
  refine wpAny_dictSet_heap (hsz := Nat.le_of_lt hz) (show (tupleKind (mixKind X.prog X.w)).room X.A from hu) (key_is I hb) m fun h' m' sb => ?_
  have hl : (storedH xs k b r).length ≤ sizeLine := by
    unfold storedH
    split
    · rw [List.length_map]; exact Nat.le_of_lt hz
    · rw [List.length_append]; exact hz
  obtain ⟨o', ho', t'⟩ := TDo.of t.1 hl m'
  have I1 := I.unlock hD hn
  have I2 : Inv X pins σ (upd (upd H D (alive D)) D (alive D)) { s with heap := h', toks := s.toks + (tupleKind (mixKind X.prog X.w)).draws k } :=
    d_write I1 (by rw [upd_same]; exact True.intro) sb ⟨o', ho'⟩ (alive_ok ho')
  rw [upd_upd] at I2
  obtain ⟨od, I3⟩ := I2.lock (d := D) upd_same trivial
  rw [upd_upd] at I3
  have ed : od = o' := by
    have z := (show ObjOk X.prog X.w _ _ D (.frz od (alive D)) from I3.hok D _ upd_same).1
    exact Option.some.inj (z.symm.trans ho')
  subst ed
  exact q _ _ t' I3
/-- what {k: v for target in iter if ..} asks, the keys tuples of texts -/
def tDcT (X : L2.Cx) (wi : TI) (g : TG) (tt : TT) (tk tv : TE) (vs : List Nat) : TE := fun σ H Q => wi σ H fun J H1 => ∀ D o0, H1 D = none → X.K.lookup D = none → TDo (hsOf X.prog X.w) D o0 [] → ∃ W : Nat → Nat → Hp → Prop, (∃ m, W 0 m (upd H1 D (.frz o0 (alive D)))) ∧ ∀ n m H, W n m H →
  (J.stop n H ∧ Q (.ref D) H) ∨ (J.go n H ∧ ∃ Nx : Hp → Prop, (∀ H', Nx H' → ∃ m', m' < m ∧ W (n + 1) m' H') ∧ ∀ x H', J.yld n H x H' → g x (wipe σ vs) H' fun σ2 H2 => wipe σ2 vs = wipe σ vs ∧ tt σ2 H2 fun c H3 =>
    if c = true then tk σ2 H3 fun y H4 => tv σ2 H4 fun z H5 => ∃ o xs k b, y = .ref b ∧ H5 D = some (.frz o (alive D)) ∧ TDo (hsOf X.prog X.w) D o xs ∧ xs.length < sizeLine ∧ (∀ x ∈ xs, SqT X.K H5 x.2.1 (x.1.map kV)) ∧ SqT X.K H5 b (k.map kV) ∧
      ∀ u o', RelV z u → TDo (hsOf X.prog X.w) D o' (storedH xs k b u) → Nx (upd H5 D (.frz o' (alive D))) else Nx H3)
abbrev AllBlk (X : L2.Cx) (scope : Scope) (p : L2.Cx → Prop) : Prop := ∀ (s : Shared) (H : Hp) (C : Addr) (cl : List (Str × Addr)) (fp : List Addr), p (X.blk s H scope (compEnvC scope cl C X.env) fp)
theorem dcT_core {Q : VK} {kx vx tg iter : Expr} {ifs : List Expr} {scope : Scope} {own : List (Str × Nat)} {pos pos' : Pos} {wi : TI} {g : TG} {tt : TT} {tk tv : TE} {use : Option (Value → Sem Unit)} {Qf : Value → Shared → Prop}
    (hu : X.A.units < cLine) (hc : X.calm = true) (hN : X.N.Nodup) (I : Inv X pins σ H s) (hi : PI X tg iter wi) (ok : BlkOk X.N X.env.scope scope own)
    (hg : AllBlk X scope fun Y => PG Y tg g) (ht : AllBlk X scope fun Y => PTs Y ifs tt) (hk : AllBlk X scope fun Y => PE Y kx tk) (hv : AllBlk X scope fun Y => PE Y vx tv) (hs : ∀ x, foldedSetIterable iter X.env x = pure x)
    (h : tDcT X wi g tt tk tv (own.map (·.2)) σ H Q)
    (hRR : ∀ D C s' m H', Inv X pins σ H' s' → Q (.ref D) H' → s'.heap.Ns C m → FpOk X pins H' C → compPost (model X.prog X.w) X.A X.xe use Qf (.ref D) C (.ok .next) s') :
    wpAny (model X.prog X.w) X.A (comprehension (.DictComp kx vx [⟨tg, iter, ifs, 0⟩] scope pos) scope X.env pos' newDict false (eval iter X.env) use) Qf X.xe s := by
  have cells : ∀ y ∈ scope.names, y.2 = .free → ∃ c, X.env.cells.lookup y.1 = some c := fun y hy e =>
    (ok.free y hy e).elim (fun q => I.ok.has _ (.inl q)) fun q => I.ok.has _ (.inr q)
  refine wpAny_comprehension_free (use := use) rfl hs (closure_ok cells) ok.kind (fun y hy e => by rw [ok.uniq y hy, e]) (thn (hi.run pins s σ H _ I h) fun xv t1 hx => thn hx fun itv t2 h2 => ?_)
  obtain ⟨it, fp, tn, J, H2, e, I2, T, st2, f2, q⟩ := h2
  subst e
  refine wpAny_newObj_type (newEnv_comp ?_)
  generalize hD : t2.heap.objs.size = D
  have nD : H2 D = none := I2.hok.fresh (Nat.le_of_eq hD)
  have gD : ({ t2 with heap := t2.heap.push { cls := .type "dict", data := .dict #[] } } : Shared).heap.get? D = some { cls := .type "dict", data := .dict #[] } := by rw [← hD]; exact Heap.get?_push_size _ rfl
  have tD0 : TDo (hsOf X.prog X.w) D { cls := .type "dict", data := .dict #[] } [] := by
    refine ⟨?_, ⟨rfl, rfl, rfl⟩, Nat.zero_le _, List.nodup_nil, #[], 0, rfl, rfl⟩
    have := I2.big
    rw [hD] at this
    exact beq_eq_false_iff_ne.mpr (Nat.ne_of_gt this)
  have kD : X.K.lookup D = none := by
    cases z : X.K.lookup D with
    | none => rfl
    | some u => exact absurd (Heap.lt_size (I2.kIn D u z)) (by rw [hD]; exact Nat.lt_irrefl D)
  obtain ⟨W, ⟨m0, w0⟩, turn⟩ := q D _ nD kD tD0
  generalize hs3 : ({ t2 with heap := t2.heap.push { cls := .type "dict", data := .dict #[] } } : Shared) = t3 at gD
  have hh3 : t3.heap = t2.heap.push { cls := .type "dict", data := .dict #[] } := by rw [← hs3]
  have I3 : Inv X pins σ (upd H2 D (alive D)) t3 := by
    rw [← hs3]
    exact I2.laid (t' := t2.toks) (fun b u z => Heap.get?_push_of_some _ z) (Nat.le_of_eq hD) (alive_ok (by rw [← hh3]; exact gD))
  have small : ∀ b ∈ fp, b < t2.heap.objs.size := fun b hb => by
    obtain ⟨u, z, _⟩ := T.obj _ _ st2 b hb
    exact Heap.lt_size z
  have f3 : ∀ b ∈ fp, FpOk X pins (upd H2 D (alive D)) b ∧ b < t3.heap.objs.size := fun b hb => by
    have lt := small b hb
    exact ⟨⟨by rw [upd_ne (by rw [← hD]; exact Nat.ne_of_lt lt)]; exact (f2 b hb).1, (f2 b hb).2⟩, by rw [hh3, Heap.size_push]; exact Nat.lt_succ_of_lt lt⟩
  have st3 : tn 0 t3.heap := T.keep _ _ _ st2 fun b _ u z => by rw [hh3]; exact Heap.get?_push_of_some _ z
  have I4 := block_start I3 ok hN f3
  have pg := hg t3 (upd H2 D (alive D)) t3.heap.objs.size (cellsFrom (t3.heap.objs.size + 1) scope.names (cloFrom X.env.cells scope.names [])) fp
  have pt := ht t3 (upd H2 D (alive D)) t3.heap.objs.size (cellsFrom (t3.heap.objs.size + 1) scope.names (cloFrom X.env.cells scope.names [])) fp
  have pk := hk t3 (upd H2 D (alive D)) t3.heap.objs.size (cellsFrom (t3.heap.objs.size + 1) scope.names (cloFrom X.env.cells scope.names [])) fp
  have pv := hv t3 (upd H2 D (alive D)) t3.heap.objs.size (cellsFrom (t3.heap.objs.size + 1) scope.names (cloFrom X.env.cells scope.names [])) fp
  show codeAny _ _ (.compStart (.DictComp kx vx [⟨tg, iter, ifs, 0⟩] scope pos) 0 (.ref it) (.ref D) (compEnvC scope (cellsFrom (t3.heap.objs.size + 1) scope.names (cloFrom X.env.cells scope.names [])) t3.heap.objs.size X.env)) (compPost (model X.prog X.w) X.A X.xe use Qf (.ref D) t3.heap.objs.size) { t3 with heap := pushCells (t3.heap.push { cls := .type "dict", data := .dict #[] }) scope.names }
  have none3 : ∀ b ∈ fp, (upd H2 D (alive D)) b = none := fun b hb => (f3 b hb).1.1
  generalize hce : compEnvC scope (cellsFrom (t3.heap.objs.size + 1) scope.names (cloFrom X.env.cells scope.names [])) t3.heap.objs.size X.env = ce at I4 pg pt pk pv ⊢
  have lce : ce.locals = t3.heap.objs.size := by subst hce; rfl
  generalize hH3 : upd H2 D (alive D) = H3 at I3 I4 pg pt pk pv none3 f3
  have unf : ∀ o' u', H3 D ≠ some (.frz o' u') := fun o' u' z => by rw [← hH3, upd_same] at z; cases z
  generalize hs4 : ({ t3 with heap := pushCells (t3.heap.push { cls := .type "dict", data := .dict #[] }) scope.names } : Shared) = t4 at I4 ⊢
  have st4 : tn 0 t4.heap := T.keep _ _ _ st3 fun b _ u z => by rw [← hs4]; exact pushCells_keeps _ _ _ _ (Heap.get?_push_of_some _ z)
  have g4 : t4.heap.get? D = some { cls := .type "dict", data := .dict #[] } := by rw [← hs4]; exact pushCells_keeps _ _ _ _ (Heap.get?_push_of_some _ gD)
  -- the new dict is locked
  obtain ⟨od, I5⟩ := I4.lock (d := D) (u := alive D) (by rw [← hH3, upd_same]) trivial
  have eod : od = { cls := .type "dict", data := .dict #[] } := by
    have z := (show ObjOk X.prog X.w _ _ D (.frz od (alive D)) from I5.hok D _ upd_same).1
    exact Option.some.inj (z.symm.trans g4)
  subst eod
  have e5 : upd H3 D (.frz { cls := .type "dict", data := .dict #[] } (alive D)) = upd H2 D (.frz { cls := .type "dict", data := .dict #[] } (alive D)) := by rw [← hH3, upd_upd]
  rw [e5] at I5
  have none5 : ∀ b ∈ fp, (upd H2 D (.frz { cls := .type "dict", data := .dict #[] } (alive D))) b = none := fun b hb => by
    rw [upd_ne (by rw [← hD]; exact Nat.ne_of_lt (small b hb))]; exact (f2 b hb).1
  have stat : ∀ {σ' : L2.St} {H' : Hp} {s' : Shared}, Inv (X.blk t3 H3 scope ce fp) [] σ' H' s' → (∀ b ∈ fp, H' b = none) → ∀ b ∈ fp, FpOk (X.blk t3 H3 scope ce fp) [] H' b := fun {σ' H' s'} J' hn b hb =>
    ⟨hn b hb, (J'.ok.exf b hb).1, J'.ok.exfs b hb, .inl hb, fun x c e => (J'.ok.exf b hb).2 x c e, fun p hp => absurd (show p ∈ ([] : List (Addr × Obj)) ++ [] from hp) (by simp)⟩
  have loop : codeAny (model X.prog X.w) X.A (.compLoop (.DictComp kx vx [⟨tg, iter, ifs, 0⟩] scope pos) 0 (.ref it) (.ref D) ce) (compPost (model X.prog X.w) X.A X.xe use Qf (.ref D) t3.heap.objs.size) t4 := by
    refine compLoop_anyD (fun n s' => ∃ i H', Inv (X.blk t3 H3 scope ce fp) [] (wipe σ (own.map (·.2))) H' s' ∧ tn i s'.heap ∧ (∀ b ∈ fp, H' b = none) ∧ W i n H') ?_ m0 ⟨0, _, I5, st4, none5, w0⟩
    rintro n t5 ⟨i, H5, J5, st5, n5, w5⟩
    rcases turn i n H5 w5 with ⟨stop, qq⟩ | ⟨go, Nx, hNx, step⟩
    · have td := T.done (X.blk t3 H3 scope ce fp) rfl rfl rfl hc i [] t5 _ H5 (fun _ _ => False) J5 (stat J5 n5) st5 stop
      refine thnF td fun r t6 ⟨hr, J6⟩ => ?_
      subst hr
      have back : Inv X pins σ H5 t6 := I3.call' (ch := fp) J6.os J6.base J6.hok J6.bare fun b hb => ⟨(f3 b hb).1.2.2.2.1, (f3 b hb).1.2.1, (f3 b hb).1.2.2.2.2.1, (f3 b hb).1.2.2.2.2.2⟩
      have nC : H5 t3.heap.objs.size = none := by rw [← lce]; exact J6.free
      obtain ⟨m, hn, _⟩ := J6.loc
      replace hn : t6.heap.Ns ce.locals m := hn
      rw [lce] at hn
      exact hRR D t3.heap.objs.size t6 m H5 back qq hn (I3.fpOk (Nat.le_refl _) nC)
    · have ti := T.item (X.blk t3 H3 scope ce fp) rfl rfl rfl hc i [] t5 _ H5 (fun _ _ => False) J5 (stat J5 n5) st5 go
      refine thnF ti fun r t6 ⟨u, hr, h6⟩ => ?_
      subst hr
      refine thnF h6 fun _ t7 ⟨x, H7, J7, r7, y7, st7, n7⟩ => ?_
      refine thnF (pg.run _ t7 _ H7 x u _ (J7.pinned (stat J7 n7) (T.obj _ _ st7)) r7 (step x H7 y7)) fun _ t8 ⟨σ8, H8, J8, hw8, q8⟩ => ?_
      refine thnF (pt.run _ t8 σ8 H8 _ J8 q8) fun c t9 ⟨H9, J9, q9⟩ => ?_
      have fin : ∀ {s' : Shared} {H' : Hp}, Inv (X.blk t3 H3 scope ce fp) ([] ++ pinsAt fp t7.heap) σ8 H' s' → Nx H' → ∃ m, m < n ∧ ∃ i H', Inv (X.blk t3 H3 scope ce fp) [] (wipe σ (own.map (·.2))) H' s' ∧ tn i s'.heap ∧ (∀ b ∈ fp, H' b = none) ∧ W i m H' := fun {s' H'} J' nx => by
        obtain ⟨m', lm, w'⟩ := hNx H' nx
        have pin : ∀ b ∈ fp, ∀ u, t7.heap.get? b = some u → s'.heap.get? b = some u ∧ H' b = none := fun b hb u z =>
          let y := J'.pin (b, u) (List.mem_append_right _ (List.mem_append_right _ (mem_pinsAt hb z)))
          ⟨y.1, y.2.1⟩
        have len : (wipe σ (own.map (·.2))).length = σ8.length := by rw [← hw8, wipe_length]
        refine ⟨m', lm, i + 1, H', (J'.unpinned (pins := [])).weak len (fun j v z => ?_), T.keep _ _ _ st7 fun b hb u z => (pin b hb u z).1, fun b hb => ?_, w'⟩
        · rw [← hw8] at z; exact (wipe_some z).1
        · obtain ⟨u, z, _⟩ := T.obj _ _ st7 b hb
          exact (pin b hb u z).2
      cases c with
      | false => simp only [Bool.false_eq_true, if_false] at q9 ⊢; exact fin J9 q9
      | true =>
        simp only [if_true] at q9 ⊢
        refine thnF (pk.run _ t9 σ8 H9 _ J9 q9) fun z1 ta ⟨yk, Ha, Ja, ra, qa⟩ => ?_
        refine thnF (pv.run _ ta σ8 Ha _ Ja qa) fun z2 tb ⟨yv, Hb, Jb, rb, o, xs, k, b, ek, hDb, tdo, hz, hks, hkb, nx⟩ => ?_
        subst ek
        obtain rfl : z1 = Value.ref b := ra
        exact put_known (X := X.blk t3 H3 scope ce fp) hu Jb hDb unf tdo hz hks hkb fun tc o' t' Jc => fin Jc (nx _ _ rb t')
  exact codeAny_compStart_dict loop (T.self X.A 0 _ _ _ st4 loop)
/-- as a value -/
theorem pe_dcT {kx vx tg iter : Expr} {ifs : List Expr} {scope : Scope} {own : List (Str × Nat)} {pos : Pos} {wi : TI} {g : TG} {tt : TT} {tk tv : TE} (hu : X.A.units < cLine) (hc : X.calm = true) (hN : X.N.Nodup) (hi : PI X tg iter wi) (ok : BlkOk X.N X.env.scope scope own)
    (hg : AllBlk X scope fun Y => PG Y tg g) (ht : AllBlk X scope fun Y => PTs Y ifs tt) (hk : AllBlk X scope fun Y => PE Y kx tk) (hv : AllBlk X scope fun Y => PE Y vx tv) (hs : ∀ x, foldedSetIterable iter X.env x = pure x := by intro _; rfl) :
    PE X (.DictComp kx vx [⟨tg, iter, ifs, 0⟩] scope pos) (tDcT X wi g tt tk tv (own.map (·.2))) := ⟨fun pins s σ H Q I h => by
  rw [arm_eval_DictComp]
  refine dcT_core hu hc hN I hi ok hg ht hk hv hs h fun D C s' m H' J q hn f => ⟨m, hn, fun h2 sb => ?_⟩
  obtain ⟨f0, f1, f2, f3, f4, f5⟩ := f
  exact ⟨.ref D, H', J.turned (t' := s'.toks) (fun b u hb z => (sb.2 b hb).trans z) f0 f1 f3 f4 f5, rfl, q⟩⟩
end
end DL
set_option Elab.async false
set_option linter.all false
set_option maxRecDepth 100000
set_option maxHeartbeats 1000000
namespace DL
open PySem PySem.Spec PyProof.Rows L2

inductive Sl where
  | val (d : D)
  | own (d : D)
abbrev EnD := List (Option Sl)

structure Yx where
  K : PySem.W.Frag
  T : Tb
  mg : Str → Option Value
  E : XK

def Own (σ : L2.St) (ρ : EnD) (a : Addr) : Prop := ∃ (i : Nat) (d : D), ρ[i]? = some (some (.own d)) ∧ σ[i]? = some (some (.ref a))
def bad (g : G) (σ : L2.St) (ρ : EnD) (a : Addr) : Prop := g.B a ∨ Own σ ρ a

def OwnAt (K : PySem.W.Frag) (H : Hp) (R : Addr) (B : Addr → Prop) (a : Addr) : D → Prop
  | .lst ds => ∃ vs, H a = some (.lst vs) ∧ Rs K H R B vs ds
  | .dS es => ∃ kvs : List (Key × V), H a = some (.dK kvs) ∧ kvs.map (·.1) = es.map kS ∧ Rs K H R B (kvs.map (·.2)) (es.map (·.2))
  | _ => False

abbrev gb (g : G) (σ : L2.St) (ρ : EnD) : G := ⟨g.R, bad g σ ρ, g.H0⟩
structure StR (Y : Yx) (g : G) (H : Hp) (σ : L2.St) (ρ : EnD) (z : S) : Prop where
  wo : Wo Y.K Y.T (gb g σ ρ) H z
  gR : g.B g.R
  len : σ.length = ρ.length
  val : ∀ (i : Nat) (d : D), ρ[i]? = some (some (.val d)) → ∃ v, σ[i]? = some (some v) ∧ R1 Y.K H g.R (bad g σ ρ) v d
  own : ∀ (i : Nat) (d : D), ρ[i]? = some (some (.own d)) → ∃ a, σ[i]? = some (some (.ref a)) ∧ ¬ g.B a ∧ g.H0 a = none ∧ Y.K.lookup a = none ∧ OwnAt Y.K H g.R (bad g σ ρ) a d
  inj : ∀ (i j : Nat) (d e : D) (a : Addr), ρ[i]? = some (some (.own d)) → ρ[j]? = some (some (.own e)) → σ[i]? = some (some (.ref a)) → σ[j]? = some (some (.ref a)) → i = j
  ext : Ext g.R g.H0 H

section
variable {Y : Yx} {g : G} {H H' H2 : Hp} {σ σ' : L2.St} {ρ ρ' : EnD} {z z' : S}
theorem OwnAt.there {K : PySem.W.Frag} {R a : Addr} {B : Addr → Prop} {d : D} (h : OwnAt K H R B a d) : ∃ o, H a = some o ∧ Mut (some o) ∧ (∀ ps, o ≠ .tbl ps) := by
  cases d <;> first | exact h.elim | (obtain ⟨x, e, _⟩ := h; exact ⟨_, e, trivial, fun ps q => by cases q⟩)
theorem StR.badR (s : StR Y g H σ ρ z) : bad g σ ρ g.R := s.wo.bad
theorem StR.badDom (s : StR Y g H σ ρ z) {a : Addr} (h : bad g σ ρ a) : H a ≠ none := s.wo.dom a h
theorem StR.badK (s : StR Y g H σ ρ z) {a : Addr} (h : bad g σ ρ a) : Y.K.lookup a = none := s.wo.kn a h
theorem StR.wog (s : StR Y g H σ ρ z) : Wo Y.K Y.T g H z := s.wo.less (fun a h => .inl h) s.gR
theorem StR.fresh (s : StR Y g H σ ρ z) {p : Addr} (h : H p = none) : ¬ bad g σ ρ p := fun b => s.badDom b h
theorem StR.ownNe (s : StR Y g H σ ρ z) {a : Addr} (h : Own σ ρ a) : a ≠ g.R := by
  obtain ⟨i, d, h1, h2⟩ := h
  obtain ⟨b, e1, nb, _⟩ := s.own i d h1
  rw [h2] at e1
  cases e1
  exact fun e => nb (by rw [e]; exact s.gR)
theorem OwnAt.mono {K : PySem.W.Frag} {R a : Addr} {B : Addr → Prop} {d : D} (r : RdLe B H H') (k : ∀ o, H a = some o → (∀ ps, o ≠ .tbl ps) → H' a = some o) (h : OwnAt K H R B a d) : OwnAt K H' R B a d := by
  cases d <;> first
    | exact h.elim
    | (obtain ⟨x, e, q⟩ := h; exact ⟨x, k _ e (fun ps q => by cases q), q.mono r⟩)
    | (obtain ⟨x, e, e2, q⟩ := h; exact ⟨x, k _ e (fun ps q => by cases q), e2, q.mono r⟩)
theorem StR.step (s : StR Y g H σ ρ z) (e : Ext g.R H H') (w : Wo Y.K Y.T (gb g σ ρ) H' z') : StR Y g H' σ ρ z' where
  wo := w
  gR := s.gR
  len := s.len
  val := fun i d h => by
    obtain ⟨v, h1, h2⟩ := s.val i d h
    exact ⟨v, h1, h2.mono (e.rd s.badR)⟩
  own := fun i d h => by
    obtain ⟨a, h1, h2, h3, h4, h5⟩ := s.own i d h
    exact ⟨a, h1, h2, h3, h4, h5.mono (e.rd s.badR) fun o q nt => e.keep a o q (s.ownNe ⟨i, d, h, h1⟩) nt⟩
  inj := s.inj
  ext := s.ext.trans e
theorem StR.new (s : StR Y g H σ ρ z) {p : Addr} {o : HO} (hp : H p = none) : StR Y g (upd H p o) σ ρ z := s.step (.new hp) (s.wo.new hp)
theorem StR.tup (s : StR Y g H σ ρ z) {p : Addr} {o : Obj} {vs : List V} {ds : List D} (hp : H p = none) (ho : o.dict = none) (r : Rs Y.K H g.R (bad g σ ρ) vs ds) :
    R1 Y.K (upd H p (.frz o (.tup vs))) g.R (bad g σ ρ) (.ref p) (.tup ds) :=
  .tup (.inl ⟨o, upd_same, ho⟩) (s.fresh hp) (r.mono (Ext.rd (.new hp) s.badR)) .nil
theorem StR.lst (s : StR Y g H σ ρ z) {p : Addr} {vs : List V} {ds : List D} (hp : H p = none) (r : Rs Y.K H g.R (bad g σ ρ) vs ds) :
    R1 Y.K (upd H p (.lst vs)) g.R (bad g σ ρ) (.ref p) (.lst ds) :=
  .lst upd_same (s.fresh hp) (r.mono (Ext.rd (.new hp) s.badR)) .nil

/-- an exception, as the caller may see it -/
def XRep (Y : Yx) (g : G) (H : Hp) (x : Exn) (C : Value) (d : Option Addr) : Prop :=
  ∃ c, Y.mg x.cls = some (.ref c) ∧ C = .ref c ∧ (match x.idx with
    | none => d = none
    | some i => ∃ dx v, d = some dx ∧ H dx = some (.xd [("index", v)]) ∧ R1 Y.K H g.R g.B v i)
def XOk (Y : Yx) (g : G) (x : Exn) (z : S) : Prop := ∀ H' C d, Wo Y.K Y.T g H' z → Ext g.R g.H0 H' → XRep Y g H' x C d → Y.E C d H'
/-- behind a run -/
def After {α : Type} (Y : Yx) (g : G) : Res α → (α → S → Prop) → Prop
  | .ok a z, P => P a z
  | .exc x z, _ => XOk Y g x z
  | .bad, _ => False
theorem After.imp {α : Type} {r : Res α} {P Q : α → S → Prop} (h : After Y g r P) (i : ∀ a z, r = .ok a z → P a z → Q a z) : After Y g r Q := by
  cases r with
  | ok a z => exact i a z rfl h
  | exc x z => exact h
  | bad => exact h
theorem After.bind {α β : Type} {m : M α} {k : α → M β} {P : β → S → Prop} (h : After Y g (mbind m k z) P) : After Y g (m z) fun a z' => After Y g (k a z') P := by
  unfold mbind at h
  cases e : m z with
  | ok a z' => rw [e] at h; exact h
  | exc x z' => rw [e] at h; exact h
  | bad => rw [e] at h; exact h

/-- an expression's reading by its data -/
def tD (Y : Yx) (f : EnD → M D) : TE := fun σ H Q => ∃ g ρ z, StR Y g H σ ρ z ∧ After Y g (f ρ z) fun d z' => ∀ v H', StR Y g H' σ ρ z' → Ext g.R H H' → R1 Y.K H' g.R (bad g σ ρ) v d → Q v H'
def ttD (Y : Yx) (f : EnD → M Bool) : TT := fun σ H Q => ∃ g ρ z, StR Y g H σ ρ z ∧ After Y g (f ρ z) fun b z' => ∀ H', StR Y g H' σ ρ z' → Ext g.R H H' → Q b H'
def taD (Y : Yx) (f : EnD → M (List D)) : TA := fun σ H Q => ∃ g ρ z, StR Y g H σ ρ z ∧ After Y g (f ρ z) fun ds z' => ∀ vs H', StR Y g H' σ ρ z' → Ext g.R H H' → Rs Y.K H' g.R (bad g σ ρ) vs ds → Q vs H'
/-- amid: the values vs have come -/
def tDs (Y : Yx) (vs : List V) (k : List D → M D) : TE := fun σ H Q => ∃ g ρ z ds, StR Y g H σ ρ z ∧ Rs Y.K H g.R (bad g σ ρ) vs ds ∧ After Y g (k ds z) fun d z' => ∀ v H', StR Y g H' σ ρ z' → Ext g.R H H' → R1 Y.K H' g.R (bad g σ ρ) v d → Q v H'
def ttDs (Y : Yx) (vs : List V) (k : List D → M Bool) : TT := fun σ H Q => ∃ g ρ z ds, StR Y g H σ ρ z ∧ Rs Y.K H g.R (bad g σ ρ) vs ds ∧ After Y g (k ds z) fun b z' => ∀ H', StR Y g H' σ ρ z' → Ext g.R H H' → Q b H'

theorem PE_imp {X : Cx} {e : Expr} {t t' : TE} (h : PE X e t) (i : ∀ σ H Q, t' σ H Q → t σ H Q) : PE X e t' := ⟨fun pins s σ H Q I q => h.run pins s σ H Q I (i σ H Q q)⟩
theorem PT_imp {X : Cx} {e : Expr} {t t' : TT} (h : PT X e t) (i : ∀ σ H Q, t' σ H Q → t σ H Q) : PT X e t' := ⟨fun pins s σ H Q I q => h.run pins s σ H Q I (i σ H Q q)⟩
theorem PA_imp {X : Cx} {e : List Expr} {t t' : TA} (h : PA X e t) (i : ∀ σ H Q, t' σ H Q → t σ H Q) : PA X e t' := ⟨fun pos pins s σ H Q I q => h.run pos pins s σ H Q I (i σ H Q q)⟩
theorem PS_imp {X : Cx} {e : Stmt} {t t' : TS} (h : PS X e t) (i : ∀ D σ H, t' D σ H → t D σ H) : PS X e t' := ⟨fun pins s σ H D I q => h.run pins s σ H D I (i D σ H q)⟩
theorem PSs_imp {X : Cx} {e : List Stmt} {t t' : TS} (h : PSs X e t) (i : ∀ D σ H, t' D σ H → t D σ H) : PSs X e t' := ⟨fun pins s σ H D I q => h.run pins s σ H D I (i D σ H q)⟩

/-- one, then what follows with it -/
theorem tD_bind {f : EnD → M D} {k : EnD → D → M D} {Q : VK} (h : tD Y (fun ρ => mbind (f ρ) (k ρ)) σ H Q) :
    tD Y f σ H fun v H1 => ∃ g ρ z d, StR Y g H1 σ ρ z ∧ R1 Y.K H1 g.R (bad g σ ρ) v d ∧ After Y g (k ρ d z) fun d z' => ∀ v H', StR Y g H' σ ρ z' → Ext g.R H1 H' → R1 Y.K H' g.R (bad g σ ρ) v d → Q v H' := by
  obtain ⟨g, ρ, z, st, a⟩ := h
  refine ⟨g, ρ, z, st, a.bind.imp fun d z1 _ h1 v H1 st1 e1 r1 => ⟨g, ρ, z1, d, st1, r1, h1.imp fun d2 z2 _ h2 v2 H2 st2 e2 r2 => h2 v2 H2 st2 (e1.trans e2) r2⟩⟩
/-- two, then what follows with them -/
theorem tD_bind2 {f f' : EnD → M D} {k : D → D → M D} {Q : VK} (h : tD Y (fun ρ => mbind (f ρ) fun x => mbind (f' ρ) fun y => k x y) σ H Q) :
    tD Y f σ H fun v H1 => tD Y f' σ H1 fun w H2 => ∃ g ρ z d e, StR Y g H2 σ ρ z ∧ R1 Y.K H2 g.R (bad g σ ρ) v d ∧ R1 Y.K H2 g.R (bad g σ ρ) w e ∧
      After Y g (k d e z) fun d z' => ∀ v H', StR Y g H' σ ρ z' → Ext g.R H2 H' → R1 Y.K H' g.R (bad g σ ρ) v d → Q v H' := by
  obtain ⟨g, ρ, z, st, a⟩ := h
  refine ⟨g, ρ, z, st, a.bind.imp fun d z1 _ h1 v H1 st1 e1 r1 => ⟨g, ρ, z1, st1, h1.bind.imp fun e z2 _ h2 w H2 st2 e2 r2 => ?_⟩⟩
  exact ⟨g, ρ, z2, d, e, st2, r1.mono (e2.rd st1.badR), r2, h2.imp fun d3 z3 _ h3 v3 H3 st3 e3 r3 => h3 v3 H3 st3 (e1.trans (e2.trans e3)) r3⟩
end
end DL
set_option Elab.async false
set_option linter.all false
set_option maxRecDepth 100000
set_option maxHeartbeats 1000000
namespace DL
open PySem PySem.Spec PyProof.Rows L2

abbrev yx (X : Cx) (T : Tb) (E : XK) : Yx := ⟨X.K, T, X.mg, E⟩

def eV (i : Nat) : EnD → M D := fun ρ => match ρ[i]? with
  | some (some (.val d)) => mpure d
  | _ => mbad
def eC (d : D) : EnD → M D := fun _ => mpure d
def e1 (F : D → M D) (f : EnD → M D) : EnD → M D := fun ρ => mbind (f ρ) F
def e2 (F : D → D → M D) (f f' : EnD → M D) : EnD → M D := fun ρ => mbind (f ρ) fun x => mbind (f' ρ) fun y => F x y
def eIf (t : EnD → M Bool) (f f' : EnD → M D) : EnD → M D := fun ρ => mbind (t ρ) fun b => if b then f ρ else f' ρ
def asB : D → Option Bool
  | .bl b => some b
  | _ => none
/-- an expression whose value is a bool, as a test -/
def tV (f : EnD → M D) : EnD → M Bool := fun ρ => mbind (f ρ) fun d => mopt (asB d)
def tNot (t : EnD → M Bool) : EnD → M Bool := fun ρ => mbind (t ρ) fun b => mpure (!b)
def tAnd (t u : EnD → M Bool) : EnD → M Bool := fun ρ => mbind (t ρ) fun b => if b then u ρ else mpure false
def tOr (t u : EnD → M Bool) : EnD → M Bool := fun ρ => mbind (t ρ) fun b => if b then mpure true else u ρ
def eB (t : EnD → M Bool) : EnD → M D := fun ρ => mbind (t ρ) fun b => mpure (.bl b)

section
variable {X : Cx} {T : Tb} {E : XK} {a b c : Expr} {f fa fb : EnD → M D} {t u : EnD → M Bool} {pos : Pos} {σ : L2.St} {H : Hp} {Q : VK}
theorem After.pure {α : Type} {Y : Yx} {g : G} {x : α} {z : S} {P : α → S → Prop} (h : After Y g (mpure x z) P) : P x z := h
theorem After.opt {α : Type} {Y : Yx} {g : G} {x : Option α} {z : S} {P : α → S → Prop} (h : After Y g (mopt x z) P) : ∃ y, x = some y ∧ P y z := by
  cases x with
  | none => exact h.elim
  | some y => exact ⟨y, rfl, h⟩

theorem pu_v {i : Nat} {x : Str} (hN : X.N[i]? = some x) (hv : Vis X.env.scope x) (hd : (x == ("__debug__" : Str)) = false := by decide) (hcd : (x == ("__classdict__" : Str)) = false := by decide) :
    PE X (.Name x pos) (tD (yx X T E) (eV i)) := by
  refine PE_imp (pe_var hN hv hd hcd) fun σ H Q ⟨g, ρ, z, st, h⟩ => ?_
  unfold eV at h
  cases hs : ρ[i]? with
  | none => rw [hs] at h; exact h.elim
  | some o =>
    cases o with
    | none => rw [hs] at h; exact h.elim
    | some sl =>
      cases sl with
      | own d => rw [hs] at h; exact h.elim
      | val d =>
        rw [hs] at h
        obtain ⟨v, h1, h2⟩ := st.val i d hs
        exact ⟨v, h1, (After.pure h) v H st .refl h2⟩
theorem tC_imp {v : V} {d : D} (r : ∀ g : G, ∀ ρ z, StR (yx X T E) g H σ ρ z → R1 X.K H g.R (bad g σ ρ) v d) (h : tD (yx X T E) (eC d) σ H Q) : tC v σ H Q := by
  obtain ⟨g, ρ, z, st, h⟩ := h
  exact (After.pure h) v H st .refl (r g ρ z st)
theorem pu_int {i : Int} {j : Nat} : PE X (.Constant (.int i) j pos) (tD (yx X T E) (eC (.int i))) := PE_imp pe_int fun σ H Q h => tC_imp (fun _ _ _ _ => .atom .int .nil) h
theorem pu_bl {i : Bool} {j : Nat} : PE X (.Constant (.bool i) j pos) (tD (yx X T E) (eC (.bl i))) := PE_imp pe_bl fun σ H Q h => tC_imp (fun _ _ _ _ => .atom .bl .nil) h
theorem pu_non {j : Nat} : PE X (.Constant .none j pos) (tD (yx X T E) (eC .non)) := PE_imp pe_non fun σ H Q h => tC_imp (fun _ _ _ _ => .atom .non .nil) h
theorem pu_str {x : Str} {z : List Nat} {j : Nat} (hx : x = DL.ST z) : PE X (.Constant (.str x) j pos) (tD (yx X T E) (eC (.str z))) := by
  subst hx
  exact PE_imp pe_str fun σ H Q h => tC_imp (fun _ _ _ _ => .atom .str .nil) h
/-- a module's text, int, type -/
theorem pu_gA {x : Str} {v : V} {d : D} {w : Value} (hg : Gl X x) (hm : X.mg x = some w) (r : RelV v w) (ha : ∀ R, Atom R v d) (hd : (x == ("__debug__" : Str)) = false := by decide) : PE X (.Name x pos) (tD (yx X T E) (eC d)) :=
  PE_imp (pe_glob hg hm r hd) fun σ H Q h => tC_imp (fun _ _ _ _ => .atom (ha _) .nil) h
/-- a module's tuple, written -/
def WR (K : PySem.W.Frag) (v : V) (d : D) : Prop := ∀ (H : Hp) (R : Addr) (B : Addr → Prop), (∀ a, B a → K.lookup a = none) → R1 K H R B v d
theorem pu_gT {x : Str} {v : V} {d : D} {w : Value} (hg : Gl X x) (hm : X.mg x = some w) (r : RelV v w) (hw : WR X.K v d) (hd : (x == ("__debug__" : Str)) = false := by decide) : PE X (.Name x pos) (tD (yx X T E) (eC d)) :=
  PE_imp (pe_glob hg hm r hd) fun σ H Q h => tC_imp (fun g ρ z st => hw _ _ _ fun a ha => st.badK ha) h

def rOp (X : Cx) (f : Value → Value → Sem Value) : R2 := fun x y H Q => ∃ r, OpR X f r ∧ r x y H Q
theorem opOp {f : Value → Value → Sem Value} : OpR X f (rOp X f) := fun pins s σ H x y v u Q I rx ry ⟨r, ho, q⟩ => ho pins s σ H x y v u Q I rx ry q
def OpD (X : Cx) (T : Tb) (E : XK) (f : Value → Value → Sem Value) (F : D → D → M D) : Prop :=
  ∀ (g : G) (H : Hp) (σ : L2.St) (ρ : EnD) (z : S) (v w : V) (d e : D) (Q : VK), StR (yx X T E) g H σ ρ z → R1 X.K H g.R (bad g σ ρ) v d → R1 X.K H g.R (bad g σ ρ) w e →
    After (yx X T E) g (F d e z) (fun d' z' => ∀ v H', StR (yx X T E) g H' σ ρ z' → Ext g.R H H' → R1 X.K H' g.R (bad g σ ρ) v d' → Q v H') → rOp X f v w H Q
theorem pu_bin {op : Operator} {F : D → D → M D} (hop : OpD X T E (binaryOp op) F) (ha : PE X a (tD (yx X T E) fa)) (hb : PE X b (tD (yx X T E) fb)) : PE X (.BinOp a op b pos) (tD (yx X T E) (e2 F fa fb)) :=
  PE_imp (pe_op opOp ha hb) fun σ H Q h => by
    obtain ⟨g, ρ, z, st, a⟩ := tD_bind2 h
    refine ⟨g, ρ, z, st, a.imp fun d z1 _ h1 v H1 st1 e1 r1 => ?_⟩
    obtain ⟨g2, ρ2, z2, st2, a2⟩ := h1 v H1 st1 e1 r1
    exact ⟨g2, ρ2, z2, st2, a2.imp fun e z3 _ h3 w H3 st3 e3 r3 => by
      obtain ⟨g4, ρ4, z4, d4, e4, st4, rv, rw, a4⟩ := h3 w H3 st3 e3 r3
      exact hop g4 H3 σ ρ4 z4 v w d4 e4 Q st4 rv rw a4⟩
theorem pu_cmp {op : CmpOp} {F : D → D → M D} (hop : OpD X T E (compareOp op) F) (ha : PE X a (tD (yx X T E) fa)) (hb : PE X b (tD (yx X T E) fb)) (hm : behindInMarks op b = false) : PE X (.Compare a [op] [b] pos) (tD (yx X T E) (e2 F fa fb)) :=
  PE_imp (pe_cmpR opOp ha hb hm) fun σ H Q h => by
    obtain ⟨g, ρ, z, st, a⟩ := tD_bind2 h
    refine ⟨g, ρ, z, st, a.imp fun d z1 _ h1 v H1 st1 e1 r1 => ?_⟩
    obtain ⟨g2, ρ2, z2, st2, a2⟩ := h1 v H1 st1 e1 r1
    exact ⟨g2, ρ2, z2, st2, a2.imp fun e z3 _ h3 w H3 st3 e3 r3 => by
      obtain ⟨g4, ρ4, z4, d4, e4, st4, rv, rw, a4⟩ := h3 w H3 st3 e3 r3
      exact hop g4 H3 σ ρ4 z4 v w d4 e4 Q st4 rv rw a4⟩

/-- a bool's value -/
theorem tV_imp {f : EnD → M D} {Q : Bool → Hp → Prop} (h : ttD (yx X T E) (tV f) σ H Q) : tD (yx X T E) f σ H fun x H1 => ∃ k, x = .bl k ∧ Q k H1 := by
  obtain ⟨g, ρ, z, st, a⟩ := h
  refine ⟨g, ρ, z, st, a.bind.imp fun d z1 _ h1 v H1 st1 e1 r1 => ?_⟩
  obtain ⟨b, hb, q⟩ := h1.opt
  cases d <;> first | (cases hb; cases r1 with | atom x _ => cases x; exact ⟨_, rfl, q H1 st1 e1⟩) | cases hb
theorem pt_cmp {op : CmpOp} {F : D → D → M D} (hop : OpD X T E (compareOp op) F) (ha : PE X a (tD (yx X T E) fa)) (hb : PE X b (tD (yx X T E) fb)) (hm : behindInMarks op b = false) : PT X (.Compare a [op] [b] pos) (ttD (yx X T E) (tV (e2 F fa fb))) :=
  PT_imp (pt_cmpR opOp ha hb hm) fun σ H Q h => by
    have h := tV_imp h
    obtain ⟨g, ρ, z, st, a⟩ := tD_bind2 h
    refine ⟨g, ρ, z, st, a.imp fun d z1 _ h1 v H1 st1 e1 r1 => ?_⟩
    obtain ⟨g2, ρ2, z2, st2, a2⟩ := h1 v H1 st1 e1 r1
    exact ⟨g2, ρ2, z2, st2, a2.imp fun e z3 _ h3 w H3 st3 e3 r3 => by
      obtain ⟨g4, ρ4, z4, d4, e4, st4, rv, rw, a4⟩ := h3 w H3 st3 e3 r3
      exact hop g4 H3 σ ρ4 z4 v w d4 e4 _ st4 rv rw a4⟩
/-- any other expression whose value is a bool -/
theorem pt_v (h : PE X a (tD (yx X T E) f)) (he : ∀ whole, isTrue a X.env whole = (do let v ← whole; standAt a.pos; holding [v] (truthy v)) := by intro _; rfl) : PT X a (ttD (yx X T E) (tV f)) :=
  PT_imp (pt_val h he) fun σ H Q h => by
    obtain ⟨g, ρ, z, st, a⟩ := tV_imp h
    exact ⟨g, ρ, z, st, a.imp fun d z1 _ h1 v H1 st1 e1 r1 => by
      obtain ⟨k, e, q⟩ := h1 v H1 st1 e1 r1
      exact ⟨k, e, q⟩⟩
theorem tt_bind {t : EnD → M Bool} {k : EnD → Bool → M Bool} {Q : Bool → Hp → Prop} (h : ttD (yx X T E) (fun ρ => mbind (t ρ) (k ρ)) σ H Q) :
    ttD (yx X T E) t σ H fun b H1 => ttD (yx X T E) (fun ρ => k ρ b) σ H1 Q := by
  obtain ⟨g, ρ, z, st, a⟩ := h
  exact ⟨g, ρ, z, st, a.bind.imp fun b z1 _ h1 H1 st1 e1 => ⟨g, ρ, z1, st1, h1.imp fun c z2 _ h2 H2 st2 e2 => h2 H2 st2 (e1.trans e2)⟩⟩
theorem tt_bindE {t : EnD → M Bool} {k : EnD → Bool → M D} (h : tD (yx X T E) (fun ρ => mbind (t ρ) (k ρ)) σ H Q) :
    ttD (yx X T E) t σ H fun b H1 => tD (yx X T E) (fun ρ => k ρ b) σ H1 Q := by
  obtain ⟨g, ρ, z, st, a⟩ := h
  exact ⟨g, ρ, z, st, a.bind.imp fun b z1 _ h1 H1 st1 e1 => ⟨g, ρ, z1, st1, h1.imp fun c z2 _ h2 v H2 st2 e2 r2 => h2 v H2 st2 (e1.trans e2) r2⟩⟩
theorem tt_mono {t : EnD → M Bool} {Q Q' : Bool → Hp → Prop} (h : ttD (yx X T E) t σ H Q) (i : ∀ b H', Q b H' → Q' b H') : ttD (yx X T E) t σ H Q' := by
  obtain ⟨g, ρ, z, st, a⟩ := h
  exact ⟨g, ρ, z, st, a.imp fun b z1 _ h1 H1 st1 e1 => i _ _ (h1 H1 st1 e1)⟩
theorem td_mono {Q Q' : VK} (h : tD (yx X T E) f σ H Q) (i : ∀ b H', Q b H' → Q' b H') : tD (yx X T E) f σ H Q' := by
  obtain ⟨g, ρ, z, st, a⟩ := h
  exact ⟨g, ρ, z, st, a.imp fun b z1 _ h1 v H1 st1 e1 r1 => i _ _ (h1 v H1 st1 e1 r1)⟩
theorem tt_pure {b : Bool} {Q : Bool → Hp → Prop} (h : ttD (yx X T E) (fun _ => mpure b) σ H Q) : Q b H := by
  obtain ⟨g, ρ, z, st, a⟩ := h
  exact a.pure H st .refl
theorem pt_not (ha : PT X a (ttD (yx X T E) t)) : PT X (.UnaryOp .Not a pos) (ttD (yx X T E) (tNot t)) :=
  PT_imp (L2.pt_not ha) fun σ H Q h => tt_mono (tt_bind h) fun b H' q => tt_pure (b := !b) q
theorem PW_imp {X : Cx} {e : Expr} {t t' : TT} (h : PW X e t) (i : ∀ σ H Q, t' σ H Q → t σ H Q) : PW X e t' := ⟨fun wh pins s σ H Q I q => h.run wh pins s σ H Q I (i σ H Q q)⟩
variable {rest : List Expr}
theorem pw_or (ha : PT X a (ttD (yx X T E) t)) (hb : PW X (.BoolOp .Or (b :: rest) pos) (ttD (yx X T E) u)) : PW X (.BoolOp .Or (a :: b :: rest) pos) (ttD (yx X T E) (tOr t u)) :=
  PW_imp (L2.pw_or ha hb) fun σ H Q h => tt_mono (tt_bind h) fun k H' q => by
    cases k with
    | true => exact tt_pure (b := true) q
    | false => exact q
theorem pu_if (ht : PT X c (ttD (yx X T E) t)) (ha : PE X a (tD (yx X T E) fa)) (hb : PE X b (tD (yx X T E) fb)) : PE X (.IfExp c a b pos) (tD (yx X T E) (eIf t fa fb)) :=
  PE_imp (pe_ifExp ht ha hb) fun σ H Q h => tt_mono (tt_bindE h) fun k H' q => by
    cases k with
    | true => exact q
    | false => exact q
/-- and, or as values: all but the last bools -/
theorem tb_bind {f : EnD → M D} {k : EnD → Bool → M D} (h : tD (yx X T E) (fun ρ => mbind (mbind (f ρ) fun d => mopt (asB d)) (k ρ)) σ H Q) :
    tD (yx X T E) f σ H fun x H1 => ∃ c, x = .bl c ∧ tD (yx X T E) (fun ρ => k ρ c) σ H1 Q := by
  exact tV_imp (tt_bindE h)
def eAnd (f f' : EnD → M D) : EnD → M D := fun ρ => mbind (mbind (f ρ) fun d => mopt (asB d)) fun b => if b then f' ρ else mpure (.bl false)
def eOr (f f' : EnD → M D) : EnD → M D := fun ρ => mbind (mbind (f ρ) fun d => mopt (asB d)) fun b => if b then mpure (.bl true) else f' ρ
def eNot (f : EnD → M D) : EnD → M D := fun ρ => mbind (mbind (f ρ) fun d => mopt (asB d)) fun b => mpure (.bl (!b))
theorem tD_blp {b : Bool} (h : tD (yx X T E) (fun _ => mpure (.bl b)) σ H Q) : Q (.bl b) H := by
  obtain ⟨g, ρ, z, st, a⟩ := h
  exact a.pure _ H st .refl (.atom .bl .nil)
theorem pu_one {op : BoolOp} (h : PE X a (tD (yx X T E) f)) : PE X (.BoolOp op [a] pos) (tD (yx X T E) f) := pe_one h
theorem pu_and (ha : PE X a (tD (yx X T E) fa)) (hb : PE X (.BoolOp .And (b :: rest) pos) (tD (yx X T E) fb)) : PE X (.BoolOp .And (a :: b :: rest) pos) (tD (yx X T E) (eAnd fa fb)) :=
  PE_imp (pe_and ha hb) fun σ H Q h => td_mono (tb_bind h) fun x H' q => by
    obtain ⟨c, e, q⟩ := q
    refine ⟨c, e, ?_⟩
    cases c with
    | true => exact q
    | false => exact tD_blp q
end
end DL
set_option Elab.async false
set_option linter.all false
set_option maxRecDepth 100000
set_option maxHeartbeats 1000000
namespace DL
open PySem PySem.Spec PyProof.Rows L2

mutual
/-- as plain data that may be compared -/
def py : D → Option PyData
  | .non => some .none
  | .bl b => some (.bool b)
  | .int i => some (.int i)
  | .str z => some (.str (ST z))
  | .tup xs => (pyAll xs).map .tuple
  | .wt xs => (pyAll xs).map .tuple
  | .lst xs => (pyAll xs).map .list
  | _ => none
def pyAll : List D → Option (List PyData)
  | [] => some []
  | x :: xs => (py x).bind fun p => (pyAll xs).map fun ps => p :: ps
end
def shp (d : D) : Option PyData := (py d).bind fun p => if SeqAt.shaped p = true then some p else none
def eqD (d e : D) : Option D := (shp d).bind fun p => (shp e).bind fun q => some (.bl (PyData.eqv p q))
def neD (d e : D) : Option D := (shp d).bind fun p => (shp e).bind fun q => some (.bl (!PyData.eqv p q))
def items : D → Option (List D)
  | .tup xs => some xs
  | .wt xs => some xs
  | .lst xs => some xs
  | _ => none
def inD (d e : D) : Option D := (items e).bind fun xs => (shp d).bind fun p => (pyAll xs).bind fun ps => if SeqAt.shaped (.list ps) = true then some (.bl (ps.any fun z => PyData.eqv z p)) else none
def notInD (d e : D) : Option D := (items e).bind fun xs => (shp d).bind fun p => (pyAll xs).bind fun ps => if SeqAt.shaped (.list ps) = true then some (.bl (!ps.any fun z => PyData.eqv z p)) else none
def isNonD : D → Bool
  | .non => true
  | _ => false
def isD : D → D → Option D
  | d, .non => some (.bl (isNonD d))
  | .bl a, .bl b => some (.bl (a == b))
  | _, _ => none
def isNotD (d e : D) : Option D := (isD d e).bind fun r => match r with | .bl b => some (.bl (!b)) | _ => none
def addD : D → D → Option D
  | .int i, .int j => some (.int (i + j))
  | .str a, .str b => if a.length + b.length ≤ sizeLine then some (.str (a ++ b)) else none
  | .tup a, .tup b => if a.length + b.length ≤ sizeLine then some (.tup (a ++ b)) else none
  | .lst a, .lst b => if a.length + b.length ≤ sizeLine then some (.lst (a ++ b)) else none
  | _, _ => none
def subD : D → D → Option D
  | .int i, .int j => some (.int (i - j))
  | _, _ => none
def mulD : D → D → Option D
  | .int i, .int j => if (-(2 ^ 64) < i ∧ i < 2 ^ 64) ∨ (-(2 ^ 64) < j ∧ j < 2 ^ 64) then some (.int (i * j)) else none
  | .str a, .int n => if 0 ≤ n ∧ n ≤ 1000 ∧ a.length ≤ 1000 then some (.str (List.replicate n.toNat a).flatten) else none
  | _, _ => none
def modD : D → D → Option D
  | .int i, .int j => if 0 < j then some (.int (i % j)) else none
  | _, _ => none
def fdivD : D → D → Option D
  | .int i, .int j => if 0 < j ∧ j < 1073741824 then some (.int (i / j)) else none
  | _, _ => none
def powD : D → D → Option D
  | .int i, .int j => if 0 ≤ j ∧ j ≤ 1000000 ∧ i.natAbs < 2 ^ 64 then some (.int (i ^ j.toNat)) else none
  | _, _ => none
def shlD : D → D → Option D
  | .int i, .int j => if 0 ≤ j ∧ j ≤ 1000000 ∧ i.natAbs < 2 ^ 64 then some (.int (i * 2 ^ j.toNat)) else none
  | _, _ => none
def ltD : D → D → Option D
  | .int i, .int j => some (.bl (decide (i < j)))
  | _, _ => none
def leD : D → D → Option D
  | .int i, .int j => some (.bl (decide (i ≤ j)))
  | _, _ => none
def gtD : D → D → Option D
  | .int i, .int j => some (.bl (decide (j < i)))
  | _, _ => none
def geD : D → D → Option D
  | .int i, .int j => some (.bl (decide (j ≤ i)))
  | _, _ => none
def negD : D → Option D
  | .int i => some (.int (-i))
  | _ => none
abbrev op2 (F : D → D → Option D) : D → D → M D := fun d e => mopt (F d e)
abbrev op1 (F : D → Option D) : D → M D := fun d => mopt (F d)

section
variable {X : Cx} {T : Tb} {E : XK} {K : PySem.W.Frag} {H : Hp} {R : Addr} {B : Addr → Prop}
theorem Rs.dp {vs : List V} {ds : List D} (h : Rs K H R B vs ds) : ∀ ps, pyAll ds = some ps → DpAll K H vs ps := by
  induction h with
  | nil => intro ps e; simp [pyAll] at e; subst e; exact .nil
  | @atom v d vs ds a _ ih =>
    intro ps e
    unfold pyAll at e
    cases a <;> simp only [py, Option.bind_none, Option.bind_some, Option.map_eq_some_iff, reduceCtorEq] at e
    case non => obtain ⟨qs, e, rfl⟩ := e; exact .cons .non (ih _ e)
    case bl => obtain ⟨qs, e, rfl⟩ := e; exact .cons (.bl _) (ih _ e)
    case int => obtain ⟨qs, e, rfl⟩ := e; exact .cons (.int _) (ih _ e)
    case str => obtain ⟨qs, e, rfl⟩ := e; exact .cons (.str _) (ih _ e)
  | tup s n _ _ ih1 ih2 =>
    intro ps e
    unfold pyAll at e
    simp only [py, Option.bind_eq_some_iff, Option.map_eq_some_iff] at e
    obtain ⟨p, ⟨qs, e1, rfl⟩, rs, e2, rfl⟩ := e
    exact .cons (.tup s.sq (ih1 _ e1)) (ih2 _ e2)
  | wt s n _ _ ih1 ih2 =>
    intro ps e
    unfold pyAll at e
    simp only [py, Option.bind_eq_some_iff, Option.map_eq_some_iff] at e
    obtain ⟨p, ⟨qs, e1, rfl⟩, rs, e2, rfl⟩ := e
    exact .cons (.tup s (ih1 _ e1)) (ih2 _ e2)
  | lst s n _ _ ih1 ih2 =>
    intro ps e
    unfold pyAll at e
    simp only [py, Option.bind_eq_some_iff, Option.map_eq_some_iff] at e
    obtain ⟨p, ⟨qs, e1, rfl⟩, rs, e2, rfl⟩ := e
    exact .cons (.lst (.inl (.inl s)) (ih1 _ e1)) (ih2 _ e2)
  | dS s n e _ _ ih1 ih2 => intro ps e; simp [pyAll, py] at e
  | dT s n e _ _ _ ih1 ih2 ih3 => intro ps e; simp [pyAll, py] at e
  | st s n e _ _ ih1 ih2 => intro ps e; simp [pyAll, py] at e
theorem R1.dp {v : V} {d : D} {p : PyData} (h : R1 K H R B v d) (e : py d = some p) : Dp K H v p := by
  have := Rs.dp h [p] (by simp [pyAll, e])
  cases this with
  | cons a _ => exact a
theorem shp_some {d : D} {p : PyData} (h : shp d = some p) : py d = some p ∧ SeqAt.shaped p = true := by
  unfold shp at h
  rw [Option.bind_eq_some_iff] at h
  obtain ⟨q, e, h⟩ := h
  by_cases c : SeqAt.shaped q = true
  · rw [if_pos c] at h; cases h; exact ⟨e, c⟩
  · rw [if_neg c] at h; cases h
/-- an operation that makes no state -/
theorem opD_of {f : Value → Value → Sem Value} {F : D → D → Option D}
    (h : ∀ (g : G) (H : Hp) (σ : L2.St) (ρ : EnD) (z : S) (v w : V) (d e r : D) (Q : VK), StR (yx X T E) g H σ ρ z → R1 X.K H g.R (bad g σ ρ) v d → R1 X.K H g.R (bad g σ ρ) w e → F d e = some r →
      (∀ u H', StR (yx X T E) g H' σ ρ z → Ext g.R H H' → R1 X.K H' g.R (bad g σ ρ) u r → Q u H') → rOp X f v w H Q) : OpD X T E f (op2 F) := by
  intro g H σ ρ z v w d e Q st rv rw' a
  obtain ⟨r, e1, q⟩ := a.opt
  exact h g H σ ρ z v w d e r Q st rv rw' e1 q
/-- .. whose answer is flat -/
theorem opD_flat {f : Value → Value → Sem Value} {F : D → D → Option D}
    (h : ∀ (H : Hp) (R : Addr) (B : Addr → Prop) (v w : V) (d e r : D) (Q : VK), R1 X.K H R B v d → R1 X.K H R B w e → F d e = some r → (∀ u, Atom R u r → Q u H) → rOp X f v w H Q) : OpD X T E f (op2 F) :=
  opD_of fun g H σ ρ z v w d e r Q st rv rw' e1 q => h H g.R (bad g σ ρ) v w d e r Q rv rw' e1 fun u a => q u H st .refl (.atom a .nil)
theorem od_eq {k : Nat} (hr : Room k X.A) : OpD X T E (compareOp .Eq) (op2 eqD) := opD_flat fun H R B v w d e r Q rv rw' h q => by
  unfold eqD at h
  simp only [Option.bind_eq_some_iff] at h
  obtain ⟨p, h1, p2, h2, h3⟩ := h
  cases h3
  obtain ⟨a1, b1⟩ := shp_some h1
  obtain ⟨a2, b2⟩ := shp_some h2
  exact ⟨_, op_eqD hr.units, p, p2, rv.dp a1, rw'.dp a2, b1, b2, q _ .bl⟩
theorem od_ne {k : Nat} (hr : Room k X.A) : OpD X T E (compareOp .NotEq) (op2 neD) := opD_flat fun H R B v w d e r Q rv rw' h q => by
  unfold neD at h
  simp only [Option.bind_eq_some_iff] at h
  obtain ⟨p, h1, p2, h2, h3⟩ := h
  cases h3
  obtain ⟨a1, b1⟩ := shp_some h1
  obtain ⟨a2, b2⟩ := shp_some h2
  exact ⟨_, op_neD hr.units, p, p2, rv.dp a1, rw'.dp a2, b1, b2, q _ .bl⟩
theorem room65 {k : Nat} {A : Around} {xs : List PyData} {d : PyData} (hr : Room k A) (sd : SeqAt.shaped d = true) : A.units + 1 + min (PyData.depthAll xs) d.depth < cLine := by
  have h1 := SeqAt.depth_of_shaped sd
  have h2 : min (PyData.depthAll xs) d.depth ≤ d.depth := Nat.min_le_right _ _
  have h3 := hr.un
  omega
def rInA (K : PySem.W.Frag) (neg : Bool) : R2 := fun x y H Q => ∃ d ds a us, y = .ref a ∧ (SqL K H a us ∨ SqT K H a us) ∧ DpAll K H us ds ∧ Dp K H x d ∧ SeqAt.shaped d = true ∧ SeqAt.shaped (.list ds) = true ∧ Q (.bl (if neg then !ds.any fun z => PyData.eqv z d else ds.any fun z => PyData.eqv z d)) H
theorem shaped_lt {ds : List PyData} (h : SeqAt.shaped (.list ds) = true) : PyData.canLayAll0 ds = true := by
  have := SeqAt.canLay_of_shaped h
  simpa [PyData.canLay0] using this
theorem op_inA {k : Nat} (hr : Room k X.A) : OpR X (compareOp .In) (rInA X.K false) := by
  intro pins s σ H x y v u Q I rx ry h
  obtain ⟨d, ds, a, us, rfl, hq, hds, hd, sd, se, q⟩ := h
  obtain ⟨as, r1⟩ := Dp.reads I d x v hd rx
  rcases hq with hq | hq
  · obtain ⟨bs, r2⟩ := Dp.reads I (.list ds) (.ref a) u (.lst hq hds) ry
    exact SeqAt.in_list_reads r2 r1 (shaped_lt se) (SeqAt.canLay_of_shaped sd) (room65 hr sd) ⟨.bl _, H, I, rfl, q⟩
  · obtain ⟨bs, r2⟩ := Dp.reads I (.tuple ds) (.ref a) u (.tup hq hds) ry
    exact SeqAt.in_tuple_reads r2 r1 (shaped_lt se) (SeqAt.canLay_of_shaped sd) (room65 hr sd) ⟨.bl _, H, I, rfl, q⟩
theorem op_notInA {k : Nat} (hr : Room k X.A) : OpR X (compareOp .NotIn) (rInA X.K true) := by
  intro pins s σ H x y v u Q I rx ry h
  obtain ⟨d, ds, a, us, rfl, hq, hds, hd, sd, se, q⟩ := h
  obtain ⟨as, r1⟩ := Dp.reads I d x v hd rx
  rcases hq with hq | hq
  · obtain ⟨bs, r2⟩ := Dp.reads I (.list ds) (.ref a) u (.lst hq hds) ry
    exact SeqAt.notIn_list_reads r2 r1 (shaped_lt se) (SeqAt.canLay_of_shaped sd) (room65 hr sd) ⟨.bl _, H, I, rfl, q⟩
  · obtain ⟨bs, r2⟩ := Dp.reads I (.tuple ds) (.ref a) u (.tup hq hds) ry
    exact SeqAt.notIn_tuple_reads r2 r1 (shaped_lt se) (SeqAt.canLay_of_shaped sd) (room65 hr sd) ⟨.bl _, H, I, rfl, q⟩
/-- a list, a tuple by its items -/
theorem R1.items {v : V} {d : D} {xs : List D} (h : R1 K H R B v d) (e : items d = some xs) : ∃ a us, v = .ref a ∧ (SqL K H a us ∨ SqT K H a us) ∧ Rs K H R B us xs := by
  cases d <;> simp only [DL.items, reduceCtorEq, Option.some.injEq] at e
  all_goals subst e
  all_goals cases h
  case tup.atom a _ => cases a
  case tup.tup s n r _ => exact ⟨_, _, rfl, .inr s.sq, r⟩
  case wt.atom a _ => cases a
  case wt.wt s n r _ => exact ⟨_, _, rfl, .inr s, r⟩
  case lst.atom a _ => cases a
  case lst.lst s n r _ => exact ⟨_, _, rfl, .inl (.inl (.inl s)), r⟩
theorem od_in {k : Nat} (hr : Room k X.A) : OpD X T E (compareOp .In) (op2 inD) := opD_flat fun H R B v w d e r Q rv rw' h q => by
  unfold inD at h
  simp only [Option.bind_eq_some_iff] at h
  obtain ⟨xs, h0, p, h1, ps, h2, h3⟩ := h
  split at h3
  · rename_i c
    cases h3
    obtain ⟨a1, b1⟩ := shp_some h1
    obtain ⟨a, us, rfl, hq, rs⟩ := rw'.items h0
    exact ⟨_, op_inA hr, p, ps, a, us, rfl, hq, rs.dp _ h2, rv.dp a1, b1, c, q _ .bl⟩
  · cases h3
theorem od_notIn {k : Nat} (hr : Room k X.A) : OpD X T E (compareOp .NotIn) (op2 notInD) := opD_flat fun H R B v w d e r Q rv rw' h q => by
  unfold notInD at h
  simp only [Option.bind_eq_some_iff] at h
  obtain ⟨xs, h0, p, h1, ps, h2, h3⟩ := h
  split at h3
  · rename_i c
    cases h3
    obtain ⟨a1, b1⟩ := shp_some h1
    obtain ⟨a, us, rfl, hq, rs⟩ := rw'.items h0
    exact ⟨_, op_notInA hr, p, ps, a, us, rfl, hq, rs.dp _ h2, rv.dp a1, b1, c, q _ .bl⟩
  · cases h3
theorem R1.int {v : V} {i : Int} (h : R1 K H R B v (.int i)) : v = .int i := by
  cases h with | atom a _ => cases a; rfl
theorem R1.bl {v : V} {i : Bool} (h : R1 K H R B v (.bl i)) : v = .bl i := by
  cases h with | atom a _ => cases a; rfl
theorem R1.str {v : V} {i : List Nat} (h : R1 K H R B v (.str i)) : v = .str (ST i) := by
  cases h with | atom a _ => cases a; rfl
theorem R1.non {v : V} (h : R1 K H R B v .non) : v = .non := by
  cases h with | atom a _ => cases a; rfl
theorem R1.tupl {v : V} {xs : List D} (h : R1 K H R B v (.tup xs)) : ∃ a us, v = .ref a ∧ TupX K H a us ∧ ¬ B a ∧ Rs K H R B us xs := by
  cases h with
  | atom a _ => cases a
  | tup s n r _ => exact ⟨_, _, rfl, s, n, r⟩
theorem R1.list {v : V} {xs : List D} (h : R1 K H R B v (.lst xs)) : ∃ a us, v = .ref a ∧ H a = some (.lst us) ∧ ¬ B a ∧ Rs K H R B us xs := by
  cases h with
  | atom a _ => cases a
  | lst s n r _ => exact ⟨_, _, rfl, s, n, r⟩
theorem R1.isNon {v : V} {d : D} (h : R1 K H R B v d) : decide (v = .non) = isNonD d := by
  cases h with
  | atom a _ => cases a <;> rfl
  | _ => rfl
theorem od_is : OpD X T E (compareOp .Is) (op2 isD) := opD_flat fun H R B v w d e r Q rv rw' h q => by
  unfold isD at h
  split at h
  · cases h
    cases rw'.non
    refine ⟨_, op_isN, rfl, ?_⟩
    rw [rv.isNon]
    exact q _ .bl
  · cases h
    cases rv.bl
    cases rw'.bl
    refine ⟨_, op_isBl, _, _, rfl, rfl, ?_⟩
    rw [show decide (_ = _) = (_ == _) from (Bool.beq_eq_decide_eq _ _).symm]
    exact q _ .bl
  · cases h
theorem od_isNot : OpD X T E (compareOp .IsNot) (op2 isNotD) := opD_flat fun H R B v w d e r Q rv rw' h q => by
  unfold isNotD isD at h
  split at h
  · cases h
    cases rw'.non
    refine ⟨_, op_notN, rfl, ?_⟩
    rw [rv.isNon]
    exact q _ .bl
  · cases h
    cases rv.bl
    cases rw'.bl
    refine ⟨_, op_notBl, _, _, rfl, rfl, ?_⟩
    rw [show decide (_ = _) = (_ == _) from (Bool.beq_eq_decide_eq _ _).symm]
    exact q _ .bl
  · cases h
theorem ST_app (a b : List Nat) : ST a ++ ST b = ST (a ++ b) := by
  show Str.mk _ = Str.mk _
  simp [ST]
theorem od_sub : OpD X T E (binaryOp .Sub) (op2 subD) := opD_flat fun H R B v w d e r Q rv rw' h q => by
  unfold subD at h
  split at h
  · cases h; cases rv.int; cases rw'.int; exact ⟨_, op_sub, _, _, rfl, rfl, q _ .int⟩
  · cases h
theorem od_mod : OpD X T E (binaryOp .Mod) (op2 modD) := opD_flat fun H R B v w d e r Q rv rw' h q => by
  unfold modD at h
  split at h
  · split at h
    · rename_i c; cases h; cases rv.int; cases rw'.int; exact ⟨_, op_mod, _, _, rfl, rfl, c, q _ .int⟩
    · cases h
  · cases h
theorem od_fdiv : OpD X T E (binaryOp .FloorDiv) (op2 fdivD) := opD_flat fun H R B v w d e r Q rv rw' h q => by
  unfold fdivD at h
  split at h
  · split at h
    · rename_i c; cases h; cases rv.int; cases rw'.int; exact ⟨_, op_fdiv, _, _, rfl, rfl, c, q _ .int⟩
    · cases h
  · cases h
theorem od_pow : OpD X T E (binaryOp .Pow) (op2 powD) := opD_flat fun H R B v w d e r Q rv rw' h q => by
  unfold powD at h
  split at h
  · split at h
    · rename_i c; cases h; cases rv.int; cases rw'.int; exact ⟨_, op_pow, _, _, rfl, rfl, c, q _ .int⟩
    · cases h
  · cases h
theorem od_lt : OpD X T E (compareOp .Lt) (op2 ltD) := opD_flat fun H R B v w d e r Q rv rw' h q => by
  unfold ltD at h
  split at h
  · cases h; cases rv.int; cases rw'.int; exact ⟨_, op_lt, _, _, rfl, rfl, q _ .bl⟩
  · cases h
theorem od_le : OpD X T E (compareOp .LtE) (op2 leD) := opD_flat fun H R B v w d e r Q rv rw' h q => by
  unfold leD at h
  split at h
  · cases h; cases rv.int; cases rw'.int; exact ⟨_, op_le, _, _, rfl, rfl, q _ .bl⟩
  · cases h
theorem od_gt : OpD X T E (compareOp .Gt) (op2 gtD) := opD_flat fun H R B v w d e r Q rv rw' h q => by
  unfold gtD at h
  split at h
  · cases h; cases rv.int; cases rw'.int; exact ⟨_, op_gt, _, _, rfl, rfl, q _ .bl⟩
  · cases h
theorem od_ge : OpD X T E (compareOp .GtE) (op2 geD) := opD_flat fun H R B v w d e r Q rv rw' h q => by
  unfold geD at h
  split at h
  · cases h; cases rv.int; cases rw'.int; exact ⟨_, op_ge, _, _, rfl, rfl, q _ .bl⟩
  · cases h
theorem od_add : OpD X T E (binaryOp .Add) (op2 addD) := opD_of fun g H σ ρ z v w d e r Q st rv rw' h q => by
  unfold addD at h
  split at h
  · cases h; cases rv.int; cases rw'.int; exact ⟨_, op_add, _, _, rfl, rfl, q _ H st .refl (.atom .int .nil)⟩
  · split at h
    · rename_i c; cases h; cases rv.str; cases rw'.str
      refine ⟨_, op_add_str, _, _, rfl, rfl, by rw [ST_len, ST_len]; exact c, ?_⟩
      rw [ST_app]
      exact q _ H st .refl (.atom .str .nil)
    · cases h
  · split at h
    · rename_i c; cases h
      obtain ⟨a, us, rfl, ta, na, ra⟩ := rv.tupl
      obtain ⟨b, ws, rfl, tb, nb, rb⟩ := rw'.tupl
      have la := ra.length
      have lb := rb.length
      refine ⟨_, op_catF, a, b, us, ws, rfl, rfl, ta.sq, tb.sq, by rw [la, lb]; exact c, fun e => ?_, fun _ e => ?_, fun _ _ p ob hp hd => ?_⟩
      · subst e
        cases ra
        exact q _ H st .refl rw'
      · subst e
        cases rb
        rw [List.append_nil] at q
        exact q _ H st .refl rv
      · exact q _ _ (st.new hp) (.new hp) (st.tup hp hd (ra.append rb))
    · cases h
  · split at h
    · rename_i c; cases h
      obtain ⟨a, us, rfl, ta, na, ra⟩ := rv.list
      obtain ⟨b, ws, rfl, tb, nb, rb⟩ := rw'.list
      have la := ra.length
      have lb := rb.length
      exact ⟨_, op_cat, a, b, us, ws, rfl, rfl, ta, tb, by rw [la, lb]; exact c, fun p hp => q _ _ (st.new hp) (.new hp) (st.lst hp (ra.append rb))⟩
    · cases h
  · cases h
end
end DL
set_option Elab.async false
set_option linter.all false
set_option maxRecDepth 100000
set_option maxHeartbeats 1000000
namespace DL
open PySem PySem.Spec PyProof.Rows L2

def evs : List (EnD → M D) → EnD → M (List D)
  | [] => fun _ => mpure []
  | f :: fs => fun ρ => mbind (f ρ) fun d => mbind (evs fs ρ) fun ds => mpure (d :: ds)
def eTup (fs : List (EnD → M D)) : EnD → M D := fun ρ => mbind (evs fs ρ) fun ds => mpure (.tup ds)
def eLst (fs : List (EnD → M D)) : EnD → M D := fun ρ => mbind (evs fs ρ) fun ds => mpure (.lst ds)
def eCall (F : List D → M D) (fs : List (EnD → M D)) : EnD → M D := fun ρ => mbind (evs fs ρ) F
theorem evs_length {fs : List (EnD → M D)} : ∀ {ρ : EnD} {z z' : S} {ds : List D}, evs fs ρ z = .ok ds z' → ds.length = fs.length := by
  induction fs with
  | nil => intro ρ z z' ds h; simp [evs, mpure] at h; simp [h.1]
  | cons f fs ih =>
    intro ρ z z' ds h
    unfold evs mbind at h
    cases e : f ρ z with
    | ok d z1 =>
      rw [e] at h
      simp only at h
      cases e2 : evs fs ρ z1 with
      | ok es z2 =>
        simp only [mbind, e2, mpure, Res.ok.injEq] at h
        rw [← h.1, List.length_cons, List.length_cons, ih e2]
      | exc x z2 => simp [mbind, e2] at h
      | bad => simp [mbind, e2] at h
    | exc x z1 => rw [e] at h; simp at h
    | bad => rw [e] at h; simp at h

section
variable {X : Cx} {T : Tb} {E : XK} {e a b : Expr} {es : List Expr} {f fa fb : EnD → M D} {fs : List (EnD → M D)} {pos : Pos} {σ : L2.St} {H : Hp} {Q : VK}
theorem pu_nil : PA X [] (taD (yx X T E) (evs [])) := PA_imp pa_nil fun σ H Q h => by
  obtain ⟨g, ρ, z, st, a⟩ := h
  exact a.pure [] H st .refl .nil
theorem pu_cons (he : PE X e (tD (yx X T E) f)) (hs : PA X es (taD (yx X T E) (evs fs))) (hst : starEach (e :: es) X.env = (false, eval e X.env) :: starEach es X.env := by rfl) : PA X (e :: es) (taD (yx X T E) (evs (f :: fs))) :=
  PA_imp (pa_cons he hs hst) fun σ H Q h => by
    obtain ⟨g, ρ, z, st, a⟩ := h
    refine ⟨g, ρ, z, st, a.bind.imp fun d z1 _ h1 v H1 st1 e1 r1 => ⟨g, ρ, z1, st1, h1.bind.imp fun ds z2 _ h2 vs H2 st2 e2 r2 => ?_⟩⟩
    exact h2.pure (v :: vs) H2 st2 (e1.trans e2) (Rs.cons (r1.mono (e2.rd st1.badR)) r2)
/-- the arguments, then what follows -/
theorem ta_bind {k : List D → M D} (h : tD (yx X T E) (fun ρ => mbind (evs fs ρ) k) σ H Q) :
    taD (yx X T E) (evs fs) σ H fun vs H1 => vs.length = fs.length ∧ ∃ g ρ z ds, StR (yx X T E) g H1 σ ρ z ∧ Rs X.K H1 g.R (bad g σ ρ) vs ds ∧ After (yx X T E) g (k ds z) fun d z' => ∀ v H', StR (yx X T E) g H' σ ρ z' → Ext g.R H1 H' → R1 X.K H' g.R (bad g σ ρ) v d → Q v H' := by
  obtain ⟨g, ρ, z, st, a⟩ := h
  refine ⟨g, ρ, z, st, a.bind.imp fun ds z1 he h1 vs H1 st1 e1 r1 => ⟨by rw [r1.length]; exact evs_length he, g, ρ, z1, ds, st1, r1, h1.imp fun d z2 _ h2 v H2 st2 e2 r2 => h2 v H2 st2 (e1.trans e2) r2⟩⟩
theorem ta_mono {fs : EnD → M (List D)} {Q Q' : List V → Hp → Prop} (h : taD (yx X T E) fs σ H Q) (i : ∀ b H', Q b H' → Q' b H') : taD (yx X T E) fs σ H Q' := by
  obtain ⟨g, ρ, z, st, a⟩ := h
  exact ⟨g, ρ, z, st, a.imp fun b z1 _ h1 v H1 st1 e1 r1 => i _ _ (h1 v H1 st1 e1 r1)⟩
theorem small_len {n : Nat} (h : n ≤ 10000) : n ≤ sizeLine := by rw [sizeLine_eq]; omega
theorem pu_tup {x1} (h : PA X es (taD (yx X T E) (evs fs))) (hl : fs.length ≤ 10000 := by decide) : PE X (.Tuple es x1 pos) (tD (yx X T E) (eTup fs)) :=
  PE_imp (pe_tupF h) fun σ H Q h => ta_mono (ta_bind h) fun vs H1 ⟨hn, g, ρ, z, ds, st, r, a⟩ => ⟨by rw [hn]; exact small_len hl, fun p ob hp hd => a.pure _ _ (st.new hp) (.new hp) (st.tup hp hd r)⟩
theorem pu_lst (h : PA X es (taD (yx X T E) (evs fs))) (hl : fs.length ≤ 10000 := by decide) : PE X (.List es pos) (tD (yx X T E) (eLst fs)) :=
  PE_imp (pe_lst h) fun σ H Q h => ta_mono (ta_bind h) fun vs H1 ⟨hn, g, ρ, z, ds, st, r, a⟩ => ⟨by rw [hn]; exact small_len hl, fun p hp => a.pure _ _ (st.new hp) (.new hp) (st.lst hp r)⟩

/-- what a def promises, by its data -/
def spD (K : PySem.W.Frag) (T : Tb) (mg : Str → Option Value) (n : Nat) (F : List D → M D) : Sp := fun vs H Q E => vs.length = n ∧ ∃ g ds z, g.H0 = H ∧ Wo K T g H z ∧ Rs K H g.R g.B vs ds ∧
  After ⟨K, T, mg, E⟩ g (F ds z) fun d z' => ∀ v H', Wo K T g H' z' → Ext g.R H H' → R1 K H' g.R g.B v d → Q v H'
variable {CX : CXT} {k n : Nat} {fa' : Addr} {fd : FuncData} {ps : List Str} {F : List D → M D} {x : Str} {p : Pos}
/-- a call from amid a def -/
theorem spD_of {g : G} {ρ : EnD} {z : S} {vs : List V} {ds : List D} (hn : vs.length = n) (st : StR (yx X T E) g H σ ρ z) (r : Rs X.K H g.R (bad g σ ρ) vs ds)
    (a : After (yx X T E) g (F ds z) fun d z' => ∀ v H', StR (yx X T E) g H' σ ρ z' → Ext g.R H H' → R1 X.K H' g.R (bad g σ ρ) v d → Q v H') : spD X.K T X.mg n F vs H Q E := by
  refine ⟨hn, ⟨g.R, bad g σ ρ, H⟩, ds, z, rfl, st.wo.less (fun _ h => h) st.badR, r, ?_⟩
  cases e : F ds z with
  | ok d z' =>
    rw [e] at a
    exact fun v H' w ex r1 => a v H' (st.step ex (w.less (fun _ h => h) st.badR)) ex r1
  | exc x z' =>
    rw [e] at a
    intro H' C d w ex xr
    obtain ⟨c, h1, h2, h3⟩ := xr
    refine a H' C d (w.less (fun _ h => .inl h) st.gR) (st.ext.trans ex) ⟨c, h1, h2, ?_⟩
    cases hx : x.idx with
    | none => rw [hx] at h3; exact h3
    | some i =>
      rw [hx] at h3
      obtain ⟨dx, v, h4, h5, h6⟩ := h3
      exact ⟨dx, v, h4, h5, h6.less fun a h => .inl h⟩
  | bad => rw [e] at a; exact a
theorem pu_call (FN : FnOk X.prog X.w X.K X.mg X.base CX k fa' fd ps (spD X.K T X.mg n F)) (hr : Room k X.A) (hg : Gl X x) (hm : X.mg x = some (.ref fa')) (hk : PySem.W.keepIn X.K (.ref fa') = true) (hb : Binds X.K fd ps []) (hx : Passes CX X E)
    (ha : PA X (e :: es) (taD (yx X T E) (evs fs))) (hn : fs.length = n := by rfl) (hdb : (x == ("__debug__" : Str)) = false := by decide) (he : starEach (e :: es) X.env = (false, eval e X.env) :: starEach es X.env := by rfl) (hpl : (backTo pos (starEach es X.env)).any (·.1) = false := by rfl) :
    PE X (.Call (.Name x p) (e :: es) [] pos) (tD (yx X T E) (eCall F fs)) :=
  PE_imp (pe_call FN hr hg hm hk hb .nil hx ha hdb he hpl) fun σ H Q h => ta_mono (ta_bind h) fun vs H1 ⟨hl, g, ρ, z, ds, st, r, a⟩ => by
    rw [List.append_nil]
    exact spD_of (hl.trans hn) st r a
theorem pu_call0 (FN : FnOk X.prog X.w X.K X.mg X.base CX k fa' fd ps (spD X.K T X.mg 0 F)) (hr : Room k X.A) (hg : Gl X x) (hm : X.mg x = some (.ref fa')) (hk : PySem.W.keepIn X.K (.ref fa') = true) (hb : Binds X.K fd ps []) (hx : Passes CX X E)
    (hdb : (x == ("__debug__" : Str)) = false := by decide) : PE X (.Call (.Name x p) [] [] pos) (tD (yx X T E) (eCall F [])) :=
  PE_imp (pe_call0 FN hr hg hm hk hb .nil hx hdb) fun σ H Q h => by
    obtain ⟨g, ρ, z, st, a⟩ := h
    show spD X.K T X.mg 0 F ([] ++ []) H Q E
    exact spD_of (ds := []) rfl st .nil a.bind.pure

def rCall (X : Cx) (f : Value) : List V → Hp → VK → Prop := fun xs H Q => ∃ r, CallR X f r ∧ r xs H Q
theorem callCall {f : Value} : CallR X f (rCall X f) := fun pins s σ H xs us Q I r ⟨r', hc, q⟩ => hc pins s σ H xs us Q I r q
/-- a builtin's call, one argument -/
def CallD1 (X : Cx) (T : Tb) (E : XK) (f : Value) (F : D → M D) : Prop :=
  ∀ (g : G) (H : Hp) (σ : L2.St) (ρ : EnD) (z : S) (v : V) (d : D) (Q : VK), StR (yx X T E) g H σ ρ z → R1 X.K H g.R (bad g σ ρ) v d →
    After (yx X T E) g (F d z) (fun d' z' => ∀ v H', StR (yx X T E) g H' σ ρ z' → Ext g.R H H' → R1 X.K H' g.R (bad g σ ρ) v d' → Q v H') → rCall X f [v] H Q
theorem callD1_of {f : Value} {F : D → Option D}
    (h : ∀ (g : G) (H : Hp) (σ : L2.St) (ρ : EnD) (z : S) (v : V) (d r : D) (Q : VK), StR (yx X T E) g H σ ρ z → R1 X.K H g.R (bad g σ ρ) v d → F d = some r →
      (∀ u H', StR (yx X T E) g H' σ ρ z → Ext g.R H H' → R1 X.K H' g.R (bad g σ ρ) u r → Q u H') → rCall X f [v] H Q) : CallD1 X T E f (op1 F) := by
  intro g H σ ρ z v d Q st rv a
  obtain ⟨r, e1, q⟩ := a.opt
  exact h g H σ ρ z v d r Q st rv e1 q
end
end DL
set_option Elab.async false
set_option linter.all false
set_option maxRecDepth 100000
set_option maxHeartbeats 1000000
namespace DL
open PySem PySem.Spec PyProof.Rows L2

def lenD : D → Option D
  | .str z => if z.length ≤ sizeLine then some (.int z.length) else none
  | .tup xs => some (.int xs.length)
  | .wt xs => some (.int xs.length)
  | .lst xs => some (.int xs.length)
  | _ => none
def intD : D → Option D
  | .int i => some (.int i)
  | .bl b => some (.int (if b then 1 else 0))
  | _ => none
def tupD : D → Option D
  | .lst xs => some (.tup xs)
  | .tup xs => some (.tup xs)
  | _ => none
def listD : D → Option D
  | .lst xs => some (.lst xs)
  | .tup xs => some (.lst xs)
  | _ => none
def countS (z : List Nat) : D → Option D
  | .str [c] => some (.int (z.count c))
  | _ => none
/-- flat data, as they are compared -/
def flatD : D → Option V
  | .non => some .non
  | .bl b => some (.bl b)
  | .int i => some (.int i)
  | .str z => some (.str (ST z))
  | _ => none
def countT : D → D → Option D
  | .tup xs, d => (flatD d).bind fun v => (xs.mapM flatD).bind fun vs => some (.int (vs.countP fun w => eqV w v))
  | _, _ => none
def strsD : List D → Option (List (List Nat))
  | [] => some []
  | .str z :: r => (strsD r).map fun zs => z :: zs
  | _ => none
def joinL (sep : List Nat) : List (List Nat) → List Nat
  | [] => []
  | [z] => z
  | z :: r => z ++ sep ++ joinL sep r
def joinD (sep : List Nat) (d : D) : Option D := (items d).bind fun xs => (strsD xs).bind fun zs => if (zs.map List.length).sum + zs.length * sep.length ≤ 100000 then some (.str (joinL sep zs)) else none
def asS : D → Option (List Nat)
  | .str z => some z
  | _ => none
def eM1 (F : List Nat → D → Option D) (fo f : EnD → M D) : EnD → M D := fun ρ => mbind (fo ρ) fun d => mbind (mopt (asS d)) fun z => mbind (f ρ) fun e => mopt (F z e)
def ixD : D → D → Option D
  | .str z, .int i => if z.length ≤ sizeLine then (atI z i).map fun c => .str [c] else none
  | d, .int i => (items d).bind fun xs => atI xs i
  | _, _ => none
def cutL {α : Type} (xs : List α) (lo hi : Option Int) : List α := (xs.drop (HT.sIx xs.length 0 lo)).take (HT.sIx xs.length xs.length hi - HT.sIx xs.length 0 lo)
def slD : D → Option Int → Option Int → Option D
  | .str z, lo, hi => if z.length ≤ sizeLine then some (.str (cutL z lo hi)) else none
  | .tup xs, lo, hi => some (.tup (cutL xs lo hi))
  | .lst xs, lo, hi => some (.lst (cutL xs lo hi))
  | _, _, _ => none
/-- an end of a slice -/
def pNo : EnD → M (Option Int) := fun _ => mpure none
def asI : D → Option Int
  | .int i => some i
  | _ => none
def pSo (f : EnD → M D) : EnD → M (Option Int) := fun ρ => mbind (f ρ) fun d => mopt ((asI d).map some)
def eSl (f : EnD → M D) (lo hi : EnD → M (Option Int)) : EnD → M D := fun ρ => mbind (f ρ) fun d => mbind (lo ρ) fun l => mbind (hi ρ) fun h => mopt (slD d l h)

section
variable {X : Cx} {T : Tb} {E : XK} {e a b o : Expr} {es : List Expr} {f fa fb fo : EnD → M D} {pos p apos : Pos} {σ : L2.St} {H : Hp} {Q : VK} {x : Str}
theorem pu_callB {id : String} {F : D → M D} (hc : CallD1 X T E (.builtin id) F) (ha : PE X a (tD (yx X T E) fa)) (hg : Gl X x) (hm : X.mg x = none) (hv : bootBuiltins x = some (.builtin id)) (hn : x ≠ "__name__" := by decide) (hdb : (x == ("__debug__" : Str)) = false := by decide)
    (he : starEach [a] X.env = (false, eval a X.env) :: starEach [] X.env := by rfl) (hpl : (backTo pos (starEach [] X.env)).any (·.1) = false := by rfl) : PE X (.Call (.Name x p) [a] [] pos) (tD (yx X T E) (e1 F fa)) :=
  PE_imp (pe_callB callCall hg hm hv (pa_cons ha pa_nil he) hn hdb he hpl) fun σ H Q h => by
    obtain ⟨g, ρ, z, st, a⟩ := tD_bind (k := fun _ => F) h
    exact ⟨g, ρ, z, st, a.imp fun d z1 _ h1 v H1 st1 e1 r1 => by
      obtain ⟨g2, ρ2, z2, d2, st2, r2, a2⟩ := h1 v H1 st1 e1 r1
      exact hc g2 H1 σ ρ2 z2 v d2 Q st2 r2 a2⟩
theorem pu_callT {id : String} {F : D → M D} (hc : CallD1 X T E (.type id) F) (ha : PE X a (tD (yx X T E) fa)) (hg : Gl X x) (hm : X.mg x = none) (hv : bootBuiltins x = some (.type id)) (hn : x ≠ "__name__" := by decide) (hdb : (x == ("__debug__" : Str)) = false := by decide)
    (he : starEach [a] X.env = (false, eval a X.env) :: starEach [] X.env := by rfl) (hpl : (backTo pos (starEach [] X.env)).any (·.1) = false := by rfl) : PE X (.Call (.Name x p) [a] [] pos) (tD (yx X T E) (e1 F fa)) :=
  PE_imp (pe_callTy callCall hg hm hv (pa_cons ha pa_nil he) hn hdb he hpl) fun σ H Q h => by
    obtain ⟨g, ρ, z, st, a⟩ := tD_bind (k := fun _ => F) h
    exact ⟨g, ρ, z, st, a.imp fun d z1 _ h1 v H1 st1 e1 r1 => by
      obtain ⟨g2, ρ2, z2, d2, st2, r2, a2⟩ := h1 v H1 st1 e1 r1
      exact hc g2 H1 σ ρ2 z2 v d2 Q st2 r2 a2⟩
theorem cd_len : CallD1 X T E (.builtin "len") (op1 lenD) := callD1_of fun g H σ ρ z v d r Q st rv h q => by
  cases d <;> simp only [lenD, reduceCtorEq, Option.some.injEq, Option.ite_none_right_eq_some] at h
  case str zz =>
    obtain ⟨c, h⟩ := h
    subst h
    cases rv.str
    exact ⟨_, call_len, _, zz.length, rfl, ⟨by rw [ST_len]; exact c, by rw [ST_len]⟩, q _ H st .refl (.atom .int .nil)⟩
  case tup xs =>
    subst h
    obtain ⟨a, us, rfl, hq, rs⟩ := rv.items rfl
    refine ⟨_, call_len, _, us.length, rfl, ?_, ?_⟩
    · rcases hq with hq | hq
      · exact .inl ⟨us, hq, rfl⟩
      · exact .inr ⟨us, hq, rfl⟩
    · rw [rs.length]; exact q _ H st .refl (.atom .int .nil)
  case wt xs =>
    subst h
    obtain ⟨a, us, rfl, hq, rs⟩ := rv.items rfl
    refine ⟨_, call_len, _, us.length, rfl, ?_, ?_⟩
    · rcases hq with hq | hq
      · exact .inl ⟨us, hq, rfl⟩
      · exact .inr ⟨us, hq, rfl⟩
    · rw [rs.length]; exact q _ H st .refl (.atom .int .nil)
  case lst xs =>
    subst h
    obtain ⟨a, us, rfl, hq, rs⟩ := rv.items rfl
    refine ⟨_, call_len, _, us.length, rfl, ?_, ?_⟩
    · rcases hq with hq | hq
      · exact .inl ⟨us, hq, rfl⟩
      · exact .inr ⟨us, hq, rfl⟩
    · rw [rs.length]; exact q _ H st .refl (.atom .int .nil)
theorem cd_int : CallD1 X T E (.type "int") (op1 intD) := callD1_of fun g H σ ρ z v d r Q st rv h q => by
  cases d <;> simp only [intD, reduceCtorEq, Option.some.injEq] at h
  case bl i =>
    subst h
    cases rv.bl
    exact ⟨_, call_int1, .inr ⟨_, rfl, q _ H st .refl (.atom .int .nil)⟩⟩
  case int i =>
    subst h
    cases rv.int
    exact ⟨_, call_int1, .inl ⟨_, rfl, q _ H st .refl (.atom .int .nil)⟩⟩
theorem cd_tuple : CallD1 X T E (.type "tuple") (op1 tupD) := callD1_of fun g H σ ρ z v d r Q st rv h q => by
  cases d <;> simp only [tupD, reduceCtorEq, Option.some.injEq] at h
  case tup xs =>
    subst h
    obtain ⟨a, us, e, hq, n, rs⟩ := rv.tupl
    subst e
    exact ⟨_, call_tupleT, _, _, rfl, hq.sq, q _ H st .refl rv⟩
  case lst xs =>
    subst h
    obtain ⟨a, us, rfl, hq, n, rs⟩ := rv.list
    exact ⟨_, call_tupF, _, _, rfl, .inl (.inl hq), fun p ob hp hd => q _ _ (st.new hp) (.new hp) (st.tup hp hd rs)⟩
theorem cd_list : CallD1 X T E (.type "list") (op1 listD) := callD1_of fun g H σ ρ z v d r Q st rv h q => by
  cases d <;> simp only [listD, reduceCtorEq, Option.some.injEq] at h
  case tup xs =>
    subst h
    obtain ⟨a, us, rfl, hq, n, rs⟩ := rv.tupl
    exact ⟨_, call_list_of, _, _, rfl, .inr hq.sq, fun p hp => q _ _ (st.new hp) (.new hp) (st.lst hp rs)⟩
  case lst xs =>
    subst h
    obtain ⟨a, us, rfl, hq, n, rs⟩ := rv.list
    exact ⟨_, call_list_of, _, _, rfl, .inl (.inl (.inl hq)), fun p hp => q _ _ (st.new hp) (.new hp) (st.lst hp rs)⟩

open PySem.StrLaws Builtin Builtin.Str in
/-- a method of a text, one argument -/
def MtD (X : Cx) (T : Tb) (E : XK) (id : String) (F : List Nat → D → Option D) : Prop :=
  ∀ (g : G) (H : Hp) (σ : L2.St) (ρ : EnD) (s : S) (z : List Nat) (w : V) (e r : D) (Q : VK), StR (yx X T E) g H σ ρ s → R1 X.K H g.R (bad g σ ρ) w e → F z e = some r →
    (∀ u H', StR (yx X T E) g H' σ ρ s → Ext g.R H H' → R1 X.K H' g.R (bad g σ ρ) u r → Q u H') → ∃ t, MtR X id t ∧ t (.str (ST z)) [w] H Q
theorem pu_m1 {id : String} {name : Str} {F : List Nat → D → Option D} (hF : MtD X T E id F) (slot : Slot "str" name id) (ty : typeOf (.builtin id) = pure (.type "method_descriptor")) (ho : PE X o (tD (yx X T E) fo)) (he : PE X e (tD (yx X T E) f))
    (hs : starEach [e] X.env = [(false, eval e X.env)] := by rfl) (hbase : attributeBase o name X.env (eval o X.env) = eval o X.env := by rfl) (hline : (apos.endLine == pos.line) = true := by rfl) :
    PE X (.Call (.Attribute o name apos) [e] [] pos) (tD (yx X T E) (eM1 F fo f)) :=
  PE_imp (pe_m1 (r := fun x xs H Q => ∃ t, MtR X id t ∧ t x xs H Q) slot ty (fun pins s σ H x xs v us Q I rx rs ⟨t, hm, q⟩ => hm pins s σ H x xs v us Q I rx rs q) ho he hs hbase hline) fun σ H Q h => by
    obtain ⟨g, ρ, s, st, a⟩ := h
    refine ⟨g, ρ, s, st, a.bind.imp fun d z1 _ h1 v H1 st1 e1 r1 => ?_⟩
    obtain ⟨z, hz, h2⟩ := h1.bind.opt
    cases d <;> simp only [asS, reduceCtorEq, Option.some.injEq] at hz
    subst hz
    cases r1.str
    refine ⟨⟨_, rfl⟩, g, ρ, z1, st1, h2.bind.imp fun e z2 _ h3 w H2 st2 e2 r2 => ?_⟩
    obtain ⟨r, hr, q⟩ := h3.opt
    exact hF g H2 σ ρ z2 _ w e r Q st2 r2 hr fun u H' s' ex ru => q u H' s' (e1.trans (e2.trans ex)) ru
theorem strs_rs {K : PySem.W.Frag} {H : Hp} {R : Addr} {B : Addr → Prop} : ∀ {xs : List D} {us : List V} {zs : List (List Nat)}, Rs K H R B us xs → strsD xs = some zs → us = (zs.map ST).map V.str
  | [], us, zs, h, e => by
    cases h
    simp [strsD] at e
    subst e
    rfl
  | d :: xs, us, zs, h, e => by
    cases us with
    | nil => cases h
    | cons u us =>
      obtain ⟨h1, h2⟩ := h.split
      cases d <;> simp only [strsD, reduceCtorEq, Option.map_eq_some_iff] at e
      obtain ⟨ws, e1, rfl⟩ := e
      cases h1.str
      rw [strs_rs h2 e1]
      rfl
theorem join_ST (sep : List Nat) : ∀ zs : List (List Nat), Txt.join (ST sep) (zs.map ST) = ST (joinL sep zs) := fun zs => by
  rw [show Txt.join (ST sep) (zs.map ST) = Str.join (ST sep) (zs.map ST) from TL.join_eq _ _]
  induction zs with
  | nil => rfl
  | cons z r ih =>
    cases r with
    | nil => rfl
    | cons y r =>
      show ST z ++ ST sep ++ Str.join (ST sep) ((y :: r).map ST) = ST (z ++ sep ++ joinL sep (y :: r))
      rw [ih, ST_app, ST_app]
theorem md_join : MtD X T E "str.join" joinD := fun g H σ ρ s z w e r Q st rw' h q => by
  unfold joinD at h
  simp only [Option.bind_eq_some_iff, Option.ite_none_right_eq_some] at h
  obtain ⟨xs, h1, zs, h2, c, h3⟩ := h
  cases h3
  obtain ⟨a, us, rfl, hq, rs⟩ := rw'.items h1
  have eu := strs_rs rs h2
  subst eu
  refine ⟨_, mt_join, _, a, zs.map ST, rfl, rfl, hq, ?_, ?_⟩
  · have e1 : ((zs.map ST).map fun x => x.length) = zs.map List.length := by
      rw [List.map_map]
      exact List.map_congr_left fun z _ => ST_len z
    rw [e1, List.length_map, ST_len]
    omega
  · rw [join_ST]
    exact q _ H st .refl (.atom .str .nil)
end
end DL
set_option Elab.async false
set_option linter.all false
set_option maxRecDepth 100000
set_option maxHeartbeats 1000000
namespace DL
open PySem PySem.Spec PyProof.Rows L2

def getS (es : List (List Nat × D)) (k : List Nat) : Option D := (es.find? fun p => decide (p.1 = k)).map (·.2)
def putS (es : List (List Nat × D)) (k : List Nat) (d : D) : List (List Nat × D) :=
  if es.any (fun p => decide (p.1 = k)) = true then es.map (fun p => if p.1 = k then (p.1, d) else p) else es ++ [(k, d)]
inductive DSR (K : PySem.W.Frag) (H : Hp) (R : Addr) (B : Addr → Prop) : List (Key × V) → List (List Nat × D) → Prop
  | nil : DSR K H R B [] []
  | cons {k : List Nat} {v : V} {d : D} {kvs : List (Key × V)} {es : List (List Nat × D)} : R1 K H R B v d → DSR K H R B kvs es → DSR K H R B ((.inr (ST k), v) :: kvs) ((k, d) :: es)
section
variable {K : PySem.W.Frag} {H H' : Hp} {R : Addr} {B : Addr → Prop} {kvs : List (Key × V)} {es : List (List Nat × D)}
theorem DSR.out (h : DSR K H R B kvs es) : kvs.map (·.1) = es.map kS ∧ Rs K H R B (kvs.map (·.2)) (es.map (·.2)) := by
  induction h with
  | nil => exact ⟨rfl, .nil⟩
  | cons r _ ih => exact ⟨by rw [List.map_cons, List.map_cons, ih.1] <;> rfl, Rs.cons r ih.2⟩
theorem DSR.mk : ∀ {kvs : List (Key × V)} {es : List (List Nat × D)}, kvs.map (·.1) = es.map kS → Rs K H R B (kvs.map (·.2)) (es.map (·.2)) → DSR K H R B kvs es
  | [], [], _, _ => .nil
  | [], e :: es, h, _ => by cases h
  | p :: kvs, [], h, _ => by cases h
  | (k, v) :: kvs, (z, d) :: es, h, r => by
    simp only [List.map_cons, List.cons.injEq] at h
    obtain ⟨h1, h2⟩ := h
    simp only [kS] at h1
    subst h1
    exact .cons r.split.1 (DSR.mk h2 r.split.2)
theorem key_dec {a b : List Nat} : decide ((Sum.inr (ST a) : Key) = Sum.inr (ST b)) = decide (a = b) := by
  by_cases e : a = b
  · subst e; simp
  · have : ¬ (Sum.inr (ST a) : Key) = Sum.inr (ST b) := fun h => e (ST_inj (Sum.inr.inj h))
    rw [decide_eq_false this, decide_eq_false e]
theorem key_iff {a b : List Nat} : ((Sum.inr (ST a) : Key) = Sum.inr (ST b)) ↔ (a = b) := ⟨fun h => ST_inj (Sum.inr.inj h), fun h => by rw [h]⟩
theorem DSR.get (h : DSR K H R B kvs es) (k : List Nat) : (∀ d, getS es k = some d → ∃ v, valV kvs (Sum.inr (ST k) : Key) = some v ∧ R1 K H R B v d) ∧ (getS es k = none → valV kvs (Sum.inr (ST k) : Key) = none) := by
  induction h with
  | nil => exact ⟨fun d e => (by cases e), fun _ => rfl⟩
  | @cons k' v d kvs es r _ ih =>
    unfold getS valV at ih ⊢
    rw [List.find?_cons, List.find?_cons]
    simp only [key_dec]
    by_cases e : k' = k
    · simp only [decide_eq_true e]
      exact ⟨fun d e => by cases e; exact ⟨v, rfl, r⟩, fun e => by cases e⟩
    · simp only [decide_eq_false e]
      exact ih
theorem DSR.any (h : DSR K H R B kvs es) (k : List Nat) : (kvs.any fun kv => decide (kv.1 = (Sum.inr (ST k) : Key))) = es.any fun p => decide (p.1 = k) := by
  induction h with
  | nil => rfl
  | cons r _ ih => rw [List.any_cons, List.any_cons, ih, key_dec]
theorem DSR.append {kvs' : List (Key × V)} {es' : List (List Nat × D)} (h : DSR K H R B kvs es) (h' : DSR K H R B kvs' es') : DSR K H R B (kvs ++ kvs') (es ++ es') := by
  induction h with
  | nil => exact h'
  | cons r _ ih => exact .cons r ih
theorem DSR.over (h : DSR K H R B kvs es) {k : List Nat} {v : V} {d : D} (r : R1 K H R B v d) : DSR K H R B (kvs.map fun kv => if kv.1 = (Sum.inr (ST k) : Key) then (kv.1, v) else kv) (es.map fun p => if p.1 = k then (p.1, d) else p) := by
  induction h with
  | nil => exact .nil
  | @cons k' v' d' kvs es r' _ ih =>
    rw [List.map_cons, List.map_cons]
    by_cases e : k' = k
    · rw [if_pos (key_iff.mpr e), if_pos e]
      exact .cons r ih
    · rw [if_neg (fun z => e (key_iff.mp z)), if_neg e]
      exact .cons r' ih
theorem DSR.put (h : DSR K H R B kvs es) {k : List Nat} {v : V} {d : D} (r : R1 K H R B v d) : DSR K H R B (putK kvs (Sum.inr (ST k) : Key) v) (putS es k d) := by
  unfold putK putS
  rw [h.any k]
  split
  · exact h.over r
  · exact h.append (.cons r .nil)
theorem DSR.mono (h : DSR K H R B kvs es) (r : RdLe B H H') : DSR K H' R B kvs es := by
  obtain ⟨h1, h2⟩ := h.out
  exact .mk h1 (h2.mono r)
theorem DSR.length (h : DSR K H R B kvs es) : kvs.length = es.length := by
  induction h <;> simp_all
theorem R1.dictS {v : V} (h : R1 K H R B v (.dS es)) : ∃ a kvs, v = .ref a ∧ Rd H a (.dK kvs) ∧ ¬ B a ∧ DSR K H R B kvs es := by
  cases h with
  | atom a _ => cases a
  | dS s n e r _ => exact ⟨_, _, rfl, .inr ⟨_, s⟩, n, .mk e r⟩
theorem R1.dictF {v : V} (h : R1 K H R B v (.dS es)) : ∃ a o kvs, v = .ref a ∧ H a = some (.frz o (.dK kvs)) ∧ ¬ B a ∧ DSR K H R B kvs es := by
  cases h with
  | atom a _ => cases a
  | dS s n e r _ => exact ⟨_, _, _, rfl, s, n, .mk e r⟩
end

def ixA : D → D → Option D
  | .dS es, .str k => getS es k
  | d, i => ixD d i
section
variable {X : Cx} {T : Tb} {E : XK} {e a b o : Expr} {es : List Expr} {f fa fb fo : EnD → M D} {pos p apos : Pos} {σ : L2.St} {H : Hp} {Q : VK} {x : Str}
theorem ix_dict (hu : X.A.units + 1 < cLine) : IxR X (fun x y H Q => ∃ a v, x = .ref a ∧ DGet H a y (some v) ∧ Q v H) := by
  intro value slice pins s σ H x y v u Q I rx ry ⟨a, w, e, g, q⟩ hs
  subst e
  obtain rfl : v = Value.ref a := rx
  exact tail_any (dict_typeIs I g) PySem.F.slot_dict_getitem.lookup (d_getItem hu I g ry fun w' s3 I3 rw' => ⟨w, H, I3, rw', q⟩) hs
def rIxA (X : Cx) : R2 := fun x y H Q => ∃ r, IxR X r ∧ r x y H Q
theorem ixAll : IxR X (rIxA X) := fun value slice pins s σ H x y v u Q I rx ry ⟨r, h, q⟩ hs => h value slice pins s σ H x y v u Q I rx ry q hs
theorem atI_rs {K : PySem.W.Frag} {H : Hp} {R : Addr} {B : Addr → Prop} {us : List V} {xs : List D} {i : Int} {d : D} (r : Rs K H R B us xs) (h : atI xs i = some d) : ∃ v, atI us i = some v ∧ R1 K H R B v d := by
  unfold atI at h ⊢
  rw [r.length]
  cases e : ixN xs.length i with
  | none => rw [e] at h; cases h
  | some j =>
    rw [e] at h
    obtain ⟨v, h1, h2⟩ := r.get (show xs[j]? = some d from h)
    exact ⟨v, h1, h2⟩
theorem ixA_ok {k : Nat} (hr : Room k X.A) {g : G} {H : Hp} {σ : L2.St} {ρ : EnD} {z : S} {v w : V} {d e r : D} {Q : VK} (st : StR (yx X T E) g H σ ρ z) (rv : R1 X.K H g.R (bad g σ ρ) v d) (rw' : R1 X.K H g.R (bad g σ ρ) w e) (h : ixA d e = some r)
    (q : ∀ u, R1 X.K H g.R (bad g σ ρ) u r → Q u H) : rIxA X v w H Q := by
  have seq : ∀ {xs : List D} {i : Int}, items d = some xs → e = .int i → atI xs i = some r → rIxA X v w H Q := fun {xs i} h0 he h1 => by
    subst he
    cases rw'.int
    obtain ⟨a, us, rfl, hq, rs⟩ := rv.items h0
    obtain ⟨u, h2, h3⟩ := atI_rs rs h1
    rcases hq with hq | hq
    · exact ⟨_, ix_list, a, us, i, u, rfl, rfl, hq, h2, q u h3⟩
    · exact ⟨_, ix_tup, a, us, i, u, rfl, rfl, hq, h2, q u h3⟩
  unfold ixA at h
  split at h
  · rename_i es k
    cases rw'.str
    obtain ⟨a, kvs, rfl, hd, n, dr⟩ := rv.dictS
    obtain ⟨u, h1, h2⟩ := (dr.get k).1 r h
    exact ⟨_, ix_dict (by have := hr.un; omega), a, u, rfl, .inl ⟨kvs, Sum.inr (ST k), hd, rfl, h1.symm⟩, q u h2⟩
  · unfold ixD at h
    split at h
    · rename_i zz i _
      simp only [Option.ite_none_right_eq_some, Option.map_eq_some_iff] at h
      obtain ⟨c, cc, h1, rfl⟩ := h
      cases rv.str
      cases rw'.int
      exact ⟨_, ix_str, _, _, cc, rfl, rfl, by rw [ST_len]; exact c, by rw [ST_toList]; exact h1, q _ (.atom (.str (z := [cc])) .nil)⟩
    · rw [Option.bind_eq_some_iff] at h
      obtain ⟨xs, h0, h1⟩ := h
      exact seq h0 rfl h1
    · cases h
theorem pu_ix {k : Nat} (hr : Room k X.A) (ha : PE X a (tD (yx X T E) fa)) (hb : PE X b (tD (yx X T E) fb)) (hs : PlainIx b := by intro _ _; rfl) : PE X (.Subscript a b pos) (tD (yx X T E) (e2 (op2 ixA) fa fb)) :=
  PE_imp (pe_ix ixAll ha hb hs) fun σ H Q h => by
    obtain ⟨g, ρ, z, st, a⟩ := tD_bind2 h
    refine ⟨g, ρ, z, st, a.imp fun d z1 _ h1 v H1 st1 e1 r1 => ?_⟩
    obtain ⟨g2, ρ2, z2, st2, a2⟩ := h1 v H1 st1 e1 r1
    exact ⟨g2, ρ2, z2, st2, a2.imp fun e z3 _ h3 w H3 st3 e3 r3 => by
      obtain ⟨g4, ρ4, z4, d4, e4, st4, rv, rw', a4⟩ := h3 w H3 st3 e3 r3
      obtain ⟨r, hr', q⟩ := a4.opt
      exact ixA_ok hr st4 rv rw' hr' fun u ru => q u H3 st4 .refl ru⟩

def rSlA' (X : Cx) : V → Option Int → Option Int → Hp → VK → Prop := fun x lo hi H Q => ∃ r, SlR X r ∧ r x lo hi H Q
theorem slAll : SlR X (rSlA' X) := fun pins s σ H x v vl vu lo hi sl Q I rx hs pl pu ⟨r, h, q⟩ => h pins s σ H x v vl vu lo hi sl Q I rx hs pl pu q
def toD (Y : Yx) (f : EnD → M (Option Int)) : TO := fun σ H Q => ∃ g ρ z, StR Y g H σ ρ z ∧ After Y g (f ρ z) fun i z' => ∀ H', StR Y g H' σ ρ z' → Ext g.R H H' → Q i H'
theorem PO_imp {X : Cx} {e : Option Expr} {t t' : TO} (h : PO X e t) (i : ∀ σ H Q, t' σ H Q → t σ H Q) : PO X e t' := ⟨fun pins s σ H Q I q => h.run pins s σ H Q I (i σ H Q q)⟩
theorem puo_no : PO X none (toD (yx X T E) pNo) := PO_imp po_none fun σ H Q h => by
  obtain ⟨g, ρ, z, st, a⟩ := h
  exact a.pure H st .refl
theorem puo_so (ha : PE X a (tD (yx X T E) fa)) : PO X (some a) (toD (yx X T E) (pSo fa)) := PO_imp (po_some ha) fun σ H Q h => by
  obtain ⟨g, ρ, z, st, a⟩ := h
  refine ⟨g, ρ, z, st, a.bind.imp fun d z1 _ h1 v H1 st1 e1 r1 => ?_⟩
  obtain ⟨i, hi, q⟩ := h1.opt
  cases d <;> simp only [asI, Option.map_none, Option.map_some, reduceCtorEq, Option.some.injEq] at hi
  subst hi
  cases r1.int
  exact ⟨_, rfl, q H1 st1 e1⟩
theorem cut_rs {K : PySem.W.Frag} {H : Hp} {R : Addr} {B : Addr → Prop} {us : List V} {xs : List D} {lo hi : Option Int} (r : Rs K H R B us xs) : Rs K H R B (cutV us lo hi) (cutL xs lo hi) := by
  unfold cutV cutL
  rw [r.length]
  exact (r.drop _).take _
theorem cut_all {α : Type} {xs : List α} {lo hi : Option Int} (h : HT.sIx xs.length 0 lo = 0 ∧ HT.sIx xs.length xs.length hi = xs.length) : cutL xs lo hi = xs := by
  unfold cutL
  rw [h.1, h.2]
  simp
theorem pu_slice {lo hi : Option Expr} {pl ph : EnD → M (Option Int)} {p2 : Pos} (ha : PE X a (tD (yx X T E) fa)) (hl : PO X lo (toD (yx X T E) pl)) (hh : PO X hi (toD (yx X T E) ph)) : PE X (.Subscript a (.Slice lo hi none p2) pos) (tD (yx X T E) (eSl fa pl ph)) :=
  PE_imp (pe_slice slAll ha hl hh) fun σ H Q h => by
    obtain ⟨g, ρ, z, st, a⟩ := h
    refine ⟨g, ρ, z, st, a.bind.imp fun d z1 _ h1 v H1 st1 e1 rv => ⟨g, ρ, z1, st1, h1.bind.imp fun l z2 _ h2 H2 st2 e2 => ⟨g, ρ, z2, st2, h2.bind.imp fun u z3 _ h3 H3 st3 e3 => ?_⟩⟩⟩
    obtain ⟨r, hr, q⟩ := h3.opt
    have rv3 : R1 X.K H3 g.R (bad g σ ρ) v d := (rv.mono (e2.rd st1.badR)).mono (e3.rd st1.badR)
    have q' : ∀ w H', StR (yx X T E) g H' σ ρ z3 → Ext g.R H3 H' → R1 X.K H' g.R (bad g σ ρ) w r → Q w H' := fun w H' s' ex rw' => q w H' s' (e1.trans (e2.trans (e3.trans ex))) rw'
    clear q
    unfold slD at hr
    split at hr
    · rename_i zz _
      simp only [Option.ite_none_right_eq_some, Option.some.injEq] at hr
      obtain ⟨c, rfl⟩ := hr
      cases rv3.str
      refine ⟨_, sl_str, _, rfl, by rw [ST_len]; exact c, ?_⟩
      have e : cutS (ST zz) l u = ST (cutL zz l u) := by
        unfold cutS cutL
        rw [ST_len, ST_toList]
        rfl
      rw [e]
      exact q' _ H3 st3 .refl (.atom .str .nil)
    · rename_i xs _ _
      cases hr
      obtain ⟨a, us, e, hq, n, rs⟩ := rv3.tupl
      subst e
      refine ⟨_, sl_tupF, a, us, rfl, hq.sq, fun hw => ?_, fun _ p ob hp hd => ?_⟩
      · rw [rs.length] at hw
        rw [cut_all hw] at q'
        exact q' _ H3 st3 .refl rv3
      · exact q' _ _ (st3.new hp) (.new hp) (st3.tup hp hd (cut_rs rs))
    · rename_i xs _ _
      cases hr
      obtain ⟨a, us, e, hq, n, rs⟩ := rv3.list
      subst e
      exact ⟨_, sl_list, a, us, rfl, .inl (.inl hq), fun p hp => q' _ _ (st3.new hp) (.new hp) (st3.lst hp (cut_rs rs))⟩
    · cases hr

def asT : D → Option (List D)
  | .tup xs => some xs
  | _ => none
def eTCount (fo f : EnD → M D) : EnD → M D := fun ρ => mbind (fo ρ) fun d => mbind (mopt (asT d)) fun xs => mbind (f ρ) fun e => mopt (countT (.tup xs) e)
end
end DL
set_option Elab.async false
set_option linter.all false
set_option maxRecDepth 100000
set_option maxHeartbeats 1000000
namespace DL
open PySem PySem.Spec PyProof.Rows L2

def plus (K : PySem.W.Frag) (H1 : Hp) (B : Addr → Prop) : Addr → Prop := fun a => B a ∨ (H1 a = none ∧ K.lookup a = none)
section
variable {K : PySem.W.Frag} {H H' H1 : Hp} {R : Addr} {B B' : Addr → Prop} {v : V} {d : D} {vs : List V} {ds : List D}
theorem rd_some {a : Addr} {u : HO} (h : Rd H a u) : H a ≠ none := by
  rcases h with h | ⟨o, h⟩ <;> rw [h] <;> exact fun z => by cases z
theorem plus_not {a : Addr} (n : ¬ B a) (h : H a ≠ none ∨ K.lookup a ≠ none) : ¬ plus K H B a := fun p => by
  rcases p with p | ⟨p1, p2⟩
  · exact n p
  · rcases h with h | h
    · exact h p1
    · exact h p2
/-- what stands now keeps away from all that comes -/
theorem Rs.dom (h : Rs K H R B vs ds) : Rs K H R (plus K H B) vs ds := by
  induction h with
  | nil => exact .nil
  | atom a _ ih => exact .atom a ih
  | tup s n _ _ ih1 ih2 =>
    refine .tup s (plus_not n ?_) ih1 ih2
    rcases s with ⟨o, h, _⟩ | ⟨o, its, m, h, _⟩
    · exact .inl (by rw [h]; exact fun z => by cases z)
    · exact .inr (by rw [h]; exact fun z => by cases z)
  | wt s n _ _ ih1 ih2 =>
    refine .wt s (plus_not n ?_) ih1 ih2
    rcases s with h | ⟨o, its, m, h, _⟩
    · exact .inl (rd_some h)
    · exact .inr (by rw [h]; exact fun z => by cases z)
  | lst s n _ _ ih1 ih2 => exact .lst s (plus_not n (.inl (by rw [s]; exact fun z => by cases z))) ih1 ih2
  | dS s n e _ _ ih1 ih2 => exact .dS s (plus_not n (.inl (rd_some (.inr ⟨_, s⟩)))) e ih1 ih2
  | dT s n e _ _ _ ih1 ih2 ih3 => exact .dT s (plus_not n (.inl (rd_some (.inr ⟨_, s⟩)))) e ih1 ih2 ih3
  | st s n e _ _ ih1 ih2 => exact .st s (plus_not n (.inl (rd_some (.inr ⟨_, s⟩)))) e ih1 ih2
theorem RdLe.mono (hb : ∀ a, B a → B' a) (r : RdLe B H H') : RdLe B' H H' :=
  ⟨fun a u n => r.1 a u fun z => n (hb a z), fun a o us n => r.2.1 a o us fun z => n (hb a z), fun a us n => r.2.2 a us fun z => n (hb a z)⟩
theorem RdLe.trans {H2 : Hp} (a : RdLe B H H') (b : RdLe B H' H2) : RdLe B H H2 :=
  ⟨fun c u n d r => b.1 c u n d (a.1 c u n d r), fun c o us n r => b.2.1 c o us n (a.2.1 c o us n r), fun c us n r => b.2.2 c us n (a.2.2 c us n r)⟩
theorem RdLe.refl : RdLe B H H := ⟨fun _ _ _ _ r => r, fun _ _ _ _ r => r, fun _ _ _ r => r⟩
end

/-- an iterator hands out these data, whatever is made meanwhile -/
structure ItD (K : PySem.W.Frag) (R : Addr) (B : Addr → Prop) (H1 : Hp) (J : It) (xs : List D) : Prop where
  go : ∀ i H, RdLe B H1 H → i < xs.length → J.go i H
  yld : ∀ i H x H', RdLe B H1 H → i < xs.length → J.yld i H x H' → H' = H ∧ ∃ d, xs[i]? = some d ∧ R1 K H R (plus K H1 B) x d
  stop : ∀ i H, RdLe B H1 H → xs.length ≤ i → J.stop i H
def tiD (Y : Yx) (f : EnD → M (List D)) : TI := fun σ H R => ∃ g ρ z, StR Y g H σ ρ z ∧ After Y g (f ρ z) fun xs z' => ∀ J H1, StR Y g H1 σ ρ z' → Ext g.R H H1 → ItD Y.K g.R (bad g σ ρ) H1 J xs → R J H1
theorem PI_imp {X : Cx} {tg e : Expr} {t t' : TI} (h : PI X tg e t) (i : ∀ σ H Q, t' σ H Q → t σ H Q) : PI X tg e t' := ⟨fun pins s σ H Q I q => h.run pins s σ H Q I (i σ H Q q)⟩

def iterD : D → Option (List D)
  | .str z => some (z.map fun c => .str [c])
  | .dS es => some (es.map fun p => .str p.1)
  | d => items d
/-- over a list, a tuple, a text -/
def iS (f : EnD → M D) : EnD → M (List D) := fun ρ => mbind (f ρ) fun d => mopt (iterD d)
def rangeD (lo : Int) (n : Nat) : List D := (List.range n).map fun (i : Nat) => .int (lo + (i : Int))
def iR1 (f : EnD → M D) : EnD → M (List D) := fun ρ => mbind (f ρ) fun d => mbind (mopt (asI d)) fun j => if -(2 ^ 62) ≤ j ∧ j < 2 ^ 62 then mpure (rangeD 0 j.toNat) else mbad
def iR2 (f f' : EnD → M D) : EnD → M (List D) := fun ρ => mbind (f ρ) fun d => mbind (mopt (asI d)) fun i => mbind (f' ρ) fun d => mbind (mopt (asI d)) fun j =>
  if -(2 ^ 62) ≤ i ∧ i < 2 ^ 62 ∧ -(2 ^ 62) ≤ j ∧ j < 2 ^ 62 then mpure (rangeD i (j - i).toNat) else mbad

def wipeD (ρ : EnD) : List Nat → EnD
  | [] => ρ
  | v :: vs => (wipeD ρ vs).set v none
def ownAt (ρ : EnD) (i : Nat) : Bool := match ρ[i]? with
  | some (some (.own _)) => true
  | _ => false
/-- no exception may leave -/
def mne {α : Type} (m : M α) : M α := fun z => match m z with
  | .ok a z' => .ok a z'
  | _ => .bad
/-- [f for i in xs if t] -/
def compL (i : Nat) (t : EnD → M Bool) (f : EnD → M D) : List D → EnD → M (List D)
  | [], _ => mpure []
  | x :: xs, ρ => mbind (mne (t ((ρ.set i none).set i (some (.val x))))) fun b =>
    if b then mbind (mne (f ((ρ.set i none).set i (some (.val x))))) fun d => mbind (compL i t f xs ρ) fun ds => mpure (d :: ds)
    else compL i t f xs ρ
def tYesD : EnD → M Bool := fun _ => mpure true
def eLc (i : Nat) (xs : EnD → M (List D)) (t : EnD → M Bool) (f : EnD → M D) : EnD → M D := fun ρ => mbind (xs ρ) fun l =>
  if l.length ≤ sizeLine ∧ ownAt ρ i = false then mbind (compL i t f l ρ) fun ds => mpure (.lst ds) else mbad

section
variable {X : Cx} {T : Tb} {E : XK} {e a b o l : Expr} {es : List Expr} {f fa fb fo : EnD → M D} {pos p apos : Pos} {σ : L2.St} {H : Hp} {Q : VK} {x : Str} {tg : Expr}
theorem itd_list {K : PySem.W.Frag} {R a : Addr} {B : Addr → Prop} {H1 : Hp} {us : List V} {xs : List D} (h : H1 a = some (.lst us)) (n : ¬ B a) (r : Rs K H1 R B us xs) : ItD K R B H1 (Itl K a) xs where
  go := fun i H rd hi => by
    have h2 := rd.2.2 a us n h
    have hl := r.length
    obtain ⟨v, h3, _⟩ := r.get (List.getElem?_eq_getElem hi)
    exact ⟨us, v, .inl (.inl h2), h3⟩
  yld := fun i H x H' rd hi hy => by
    have h2 := rd.2.2 a us n h
    obtain ⟨rfl, hx⟩ := hy
    have h3 := hx us (.inl (.inl h2))
    obtain ⟨d, h4, h5⟩ := r.dom.getV h3
    exact ⟨rfl, d, h4, h5.mono (rd.mono fun a z => .inl z)⟩
  stop := fun i H rd hi => ⟨us, .inl (.inl (rd.2.2 a us n h)), by rw [r.length]; exact hi⟩
theorem itd_tup {K : PySem.W.Frag} {R a : Addr} {B : Addr → Prop} {H1 : Hp} {us : List V} {xs : List D} (h : SqT K H1 a us) (n : ¬ B a) (r : Rs K H1 R B us xs) : ItD K R B H1 (Itt K a) xs where
  go := fun i H rd hi => by
    have h2 := rd.sqT n h
    obtain ⟨v, h3, _⟩ := r.get (List.getElem?_eq_getElem hi)
    exact ⟨us, v, h2, h3⟩
  yld := fun i H x H' rd hi hy => by
    obtain ⟨rfl, hx⟩ := hy
    have h3 := hx us (rd.sqT n h)
    obtain ⟨d, h4, h5⟩ := r.dom.getV h3
    exact ⟨rfl, d, h4, h5.mono (rd.mono fun a z => .inl z)⟩
  stop := fun i H rd hi => ⟨us, rd.sqT n h, by rw [r.length]; exact hi⟩
theorem itd_str {K : PySem.W.Frag} {R : Addr} {B : Addr → Prop} {H1 : Hp} {z : List Nat} : ItD K R B H1 (Its (ST z)) (z.map fun c => .str [c]) where
  go := fun i H rd hi => by
    show i < (ST z).cps.size
    rw [List.length_map] at hi
    simpa [ST] using hi
  yld := fun i H x H' rd hi hy => by
    obtain ⟨rfl, c, hc, rfl⟩ := hy
    refine ⟨rfl, .str [c], ?_, .atom (.str (z := [c])) .nil⟩
    have : z[i]? = some c := by simpa [ST] using hc
    rw [List.getElem?_map, this] <;> rfl
  stop := fun i H rd hi => by
    show (ST z).cps.size ≤ i
    rw [List.length_map] at hi
    simpa [ST] using hi
theorem itd_range {K : PySem.W.Frag} {R : Addr} {B : Addr → Prop} {H1 : Hp} {lo : Int} {n : Nat} : ItD K R B H1 (Itr lo n) (rangeD lo n) where
  go := fun i H rd hi => by
    show i < n
    simpa [rangeD] using hi
  yld := fun i H x H' rd hi hy => by
    obtain ⟨rfl, rfl⟩ := hy
    refine ⟨rfl, .int (lo + (i : Int)), ?_, .atom .int .nil⟩
    have : i < n := by simpa [rangeD] using hi
    simp [rangeD, this]
  stop := fun i H rd hi => by
    show n ≤ i
    simpa [rangeD] using hi
theorem itd_keys {K : PySem.W.Frag} {R a : Addr} {B : Addr → Prop} {H1 : Hp} {o : Obj} {kvs : List (Key × V)} {es : List (List Nat × D)} (h : H1 a = some (.frz o (.dK kvs))) (n : ¬ B a) (r : DSR K H1 R B kvs es) : ItD K R B H1 (Itk a o kvs) (es.map fun p => .str p.1) where
  go := fun i H rd hi => ⟨rd.2.1 a o _ n h, by rw [List.length_map] at hi; rw [r.length]; exact hi⟩
  yld := fun i H x H' rd hi hy => by
    obtain ⟨rfl, k, v, hk, rfl⟩ := hy
    have h1 := congrArg (fun l => l[i]?) r.out.1
    simp only [List.getElem?_map, hk, Option.map_some] at h1
    rw [List.length_map] at hi
    rw [List.getElem?_eq_getElem hi, Option.map_some] at h1
    have h2 : k = kS es[i] := Option.some.inj h1
    subst h2
    refine ⟨rfl, .str es[i].1, ?_, .atom .str .nil⟩
    rw [List.getElem?_map, List.getElem?_eq_getElem hi]
    rfl
  stop := fun i H rd hi => ⟨rd.2.1 a o _ n h, by rw [List.length_map] at hi; rw [r.length]; exact hi⟩
def iAny (K : PySem.W.Frag) (tl : TE) : TI := fun σ H R => tl σ H fun x H1 => (∃ a o kvs, x = .ref a ∧ H1 a = some (.frz o (.dK kvs)) ∧ R (Itk a o kvs) H1) ∨ (∃ a, x = .ref a ∧ (∃ xs, SqL K H1 a xs) ∧ R (Itl K a) H1) ∨ (∃ a, x = .ref a ∧ (∃ xs, SqT K H1 a xs) ∧ R (Itt K a) H1) ∨ ∃ z, x = .str z ∧ R (Its z) H1
theorem pi_any {l : Expr} {tl : TE} (hl : PE X l tl) : PI X tg l (iAny X.K tl) := by
  refine ⟨fun pins s σ H R I h => ?_⟩
  refine thn (hl.run pins s σ H _ I h) fun v s1 ⟨x, H1, I1, r1, q1⟩ => ?_
  have fr : H1 s1.heap.objs.size = none := I1.hok.fresh (Nat.le_refl _)
  rcases q1 with ⟨a, o, kvs, e, hd, q⟩ | ⟨a, e, ⟨xs, hq⟩, q⟩ | ⟨a, e, ⟨xs, hq⟩, q⟩ | ⟨z, e, q⟩
  · subst e
    obtain rfl : v = Value.ref a := r1
    obtain ⟨hs, hgd, hx, es, ep, vs, hdt, hsz, kv, hm⟩ := I1.frzK hd
    refine iter_keys hs hgd hx hdt (pi_one (tk := s1.toks) I1 _ (turn_keys _ hdt) ⟨_, Heap.get?_push_size _ rfl, rfl, ?_⟩ q)
    rw [hsz] <;> rfl
  · subst e
    obtain rfl : v = Value.ref a := r1
    obtain ⟨its, rv, p, hz⟩ := I1.list hq
    refine wpAny_pyIter_list p.isList ⟨s1.heap.objs.size, [s1.heap.objs.size], _, _, H1, rfl, I1.kept (t' := s1.toks) fun b o e => Heap.get?_push_of_some _ e, turn_list a _, ⟨_, Heap.get?_push_size _ rfl, rfl, rfl⟩, fun b hb => ?_, q⟩
    obtain rfl : b = s1.heap.objs.size := by simpa using hb
    exact I1.fpOk (Nat.le_refl _) fr
  · subst e
    obtain rfl : v = Value.ref a := r1
    obtain ⟨its, rv, p, hz⟩ := I1.tuple hq
    refine wpAny_pyIter_tuple (show s1.heap.IsTuple a its.toArray from p) ⟨s1.heap.objs.size, [s1.heap.objs.size], _, _, H1, rfl, I1.kept (t' := s1.toks) fun b o e => Heap.get?_push_of_some _ e, turn_tuple a _, ⟨_, Heap.get?_push_size _ rfl, rfl, rfl⟩, fun b hb => ?_, q⟩
    obtain rfl : b = s1.heap.objs.size := by simpa using hb
    exact I1.fpOk (Nat.le_refl _) fr
  · subst e
    obtain ⟨t, rfl⟩ := (show ∃ t, v = Value.str z t from r1)
    cases ha : z.cps.all (· < 128)
    · exact wpAny_pyIter_wide ha (pi_one (tk := s1.toks) I1 _ (turn_str _ z t "str_iterator" (.inr rfl)) ⟨_, Heap.get?_push_size _ rfl, rfl, rfl⟩ q)
    · exact wpAny_pyIter_ascii ha (pi_one (tk := s1.toks) I1 _ (turn_str _ z t "str_ascii_iterator" (.inl rfl)) ⟨_, Heap.get?_push_size _ rfl, rfl, rfl⟩ q)
theorem pu_iS (ha : PE X a (tD (yx X T E) fa)) : PI X tg a (tiD (yx X T E) (iS fa)) := PI_imp (pi_any ha) fun σ H R h => by
  obtain ⟨g, ρ, z, st, h⟩ := h
  refine ⟨g, ρ, z, st, h.bind.imp fun d z1 _ h1 v H1 st1 e1 r1 => ?_⟩
  obtain ⟨xs, hx, q⟩ := h1.opt
  unfold iterD at hx
  split at hx
  · cases hx
    cases r1.str
    exact .inr (.inr (.inr ⟨_, rfl, q _ H1 st1 e1 itd_str⟩))
  · cases hx
    obtain ⟨a, o, kvs, rfl, hd, nb, dsr⟩ := r1.dictF
    exact .inl ⟨a, o, kvs, rfl, hd, q _ H1 st1 e1 (itd_keys hd nb dsr)⟩
  · refine .inr ?_
    cases d <;> simp only [items, reduceCtorEq, Option.some.injEq] at hx
    case tup =>
      subst hx
      obtain ⟨a, us, rfl, hq, n, rs⟩ := r1.tupl
      exact .inr (.inl ⟨a, rfl, ⟨us, hq.sq⟩, q _ H1 st1 e1 (itd_tup hq.sq n rs)⟩)
    case wt =>
      subst hx
      cases r1 with
      | atom a _ => cases a
      | wt s n r _ => exact .inr (.inl ⟨_, rfl, ⟨_, s⟩, q _ H1 st1 e1 (itd_tup s n r)⟩)
    case lst =>
      subst hx
      obtain ⟨a, us, rfl, hq, n, rs⟩ := r1.list
      exact .inl ⟨a, rfl, ⟨us, .inl (.inl hq)⟩, q _ H1 st1 e1 (itd_list hq n rs)⟩
theorem pu_iR1 (hg : Gl X "range") (hm : X.mg "range" = none) (ha : PE X a (tD (yx X T E) fa)) (hs : starEach [a] X.env = [(false, eval a X.env)] := by rfl) : PI X tg (.Call (.Name "range" p) [a] [] pos) (tiD (yx X T E) (iR1 fa)) :=
  PI_imp (pi_range1 hg hm (pa_cons ha pa_nil hs) hs) fun σ H R h => by
    obtain ⟨g, ρ, z, st, h⟩ := h
    refine ⟨g, ρ, z, st, h.bind.imp fun d z1 _ h1 v H1 st1 e1 r1 => ?_⟩
    obtain ⟨i, hi, q⟩ := h1.bind.opt
    obtain rfl : d = .int i := by cases d <;> simp_all [asI]
    cases r1.int
    by_cases c : -(2 ^ 62) ≤ i ∧ i < 2 ^ 62
    · rw [if_pos c] at q
      exact ⟨i, rfl, c.1, c.2, q.pure _ H1 st1 e1 itd_range⟩
    · rw [if_neg c] at q
      exact q.elim
theorem pu_iR2 (hg : Gl X "range") (hm : X.mg "range" = none) (ha : PE X a (tD (yx X T E) fa)) (hb : PE X b (tD (yx X T E) fb)) (hs : starEach [a, b] X.env = [(false, eval a X.env), (false, eval b X.env)] := by rfl) (hs2 : starEach [b] X.env = [(false, eval b X.env)] := by rfl) :
    PI X tg (.Call (.Name "range" p) [a, b] [] pos) (tiD (yx X T E) (iR2 fa fb)) :=
  PI_imp (pi_range2 hg hm (pa_cons ha (pa_cons hb pa_nil hs2) (by rw [hs, hs2])) hs hs2) fun σ H R h => by
    obtain ⟨g, ρ, z, st, h⟩ := h
    refine ⟨g, ρ, z, st, h.bind.imp fun d z1 _ h1 v H1 st1 e1 r1 => ?_⟩
    obtain ⟨i, hi, q⟩ := h1.bind.opt
    obtain rfl : d = .int i := by cases d <;> simp_all [asI]
    cases r1.int
    refine ⟨g, ρ, z1, st1, q.bind.imp fun d2 z2 _ h2 w H2 st2 e2 r2 => ?_⟩
    obtain ⟨j, hj, q⟩ := h2.bind.opt
    obtain rfl : d2 = .int j := by cases d2 <;> simp_all [asI]
    cases r2.int
    by_cases c : -(2 ^ 62) ≤ i ∧ i < 2 ^ 62 ∧ -(2 ^ 62) ≤ j ∧ j < 2 ^ 62
    · rw [if_pos c] at q
      exact ⟨i, j, rfl, c, q.pure _ H2 st2 (e1.trans e2) itd_range⟩
    · rw [if_neg c] at q
      exact q.elim

def KN (K : PySem.W.Frag) (H : Hp) : Prop := ∀ a, H a ≠ none → K.lookup a = none
theorem kn_of {X : Cx} {pins : List (Addr × Obj)} {σ : L2.St} {H : Hp} {s : Shared} (I : Inv X pins σ H s) : KN X.K H := fun a h => by
  cases e : X.K.lookup a with
  | none => rfl
  | some o => exact absurd (I.bs a o (I.ok.mod.kin a o e)).2 h
theorem PE_kn {X : Cx} {e : Expr} {t : TE} (h : PE X e t) : PE X e fun σ H Q => KN X.K H → t σ H Q := ⟨fun pins s σ H Q I q => h.run pins s σ H Q I (q (kn_of I))⟩
theorem PTs_kn {X : Cx} {e : List Expr} {t : TT} (h : PTs X e t) : PTs X e fun σ H Q => KN X.K H → t σ H Q := ⟨fun pins s σ H Q I q => h.run pins s σ H Q I (q (kn_of I))⟩
theorem pts_no : PTs X [] (ttD (yx X T E) tYesD) := ⟨fun pins s σ H Q I h => pts_nil.run pins s σ H Q I (by
  obtain ⟨g, ρ, z, st, a⟩ := h
  exact a.pure H st .refl)⟩
theorem pts_yes {c : Expr} {t : EnD → M Bool} (h : PT X c (ttD (yx X T E) t)) : PTs X [c] (ttD (yx X T E) t) := pts_one h
theorem After.ne {α : Type} {Y Y' : Yx} {g g' : G} {m : M α} {z : S} {P : α → S → Prop} (h : After Y g (mne m z) P) : After Y' g' (m z) P := by
  unfold mne at h
  cases e : m z with
  | ok a z' => rw [e] at h; exact h
  | exc x z' => rw [e] at h; exact h.elim
  | bad => rw [e] at h; exact h.elim
end
end DL
set_option Elab.async false
set_option linter.all false
set_option maxRecDepth 100000
set_option maxHeartbeats 1000000
namespace DL
open PySem PySem.Spec PyProof.Rows L2

def notOwn : Option Sl → Prop
  | some (.own _) => False
  | _ => True
section
variable {Y : Yx} {g : G} {H H' H1 : Hp} {σ : L2.St} {ρ : EnD} {z z' : S} {i : Nat} {v : V} {d : D}
theorem ownAt_not (h : ownAt ρ i = false) (d : D) : ρ[i]? ≠ some (some (.own d)) := fun e => by
  unfold ownAt at h
  rw [e] at h
  cases h
theorem own_set (h : ownAt ρ i = false) (x : Option V) (y : Option Sl) (hy : notOwn y) : Own (σ.set i x) (ρ.set i y) = Own σ ρ := by
  funext a
  apply propext
  constructor
  · rintro ⟨j, d, h1, h2⟩
    by_cases e : i = j
    · subst e
      exfalso
      rw [List.getElem?_set] at h1
      simp only [if_true] at h1
      split at h1
      · cases h1; exact hy
      · cases h1
    · rw [List.getElem?_set_ne e] at h1 h2
      exact ⟨j, d, h1, h2⟩
  · rintro ⟨j, d, h1, h2⟩
    by_cases e : i = j
    · subst e
      exact absurd h1 (ownAt_not h d)
    · exact ⟨j, d, by rw [List.getElem?_set_ne e]; exact h1, by rw [List.getElem?_set_ne e]; exact h2⟩
theorem bad_set (h : ownAt ρ i = false) (x : Option V) (y : Option Sl) (hy : notOwn y) : bad g (σ.set i x) (ρ.set i y) = bad g σ ρ := by
  funext a
  unfold bad
  rw [own_set h x y hy]
theorem bad_setv (h : ownAt ρ i = false) : bad g (σ.set i (some v)) (ρ.set i (some (.val d))) = bad g σ ρ := bad_set h _ _ trivial
theorem bad_setn (h : ownAt ρ i = false) : bad g (σ.set i none) (ρ.set i none) = bad g σ ρ := bad_set h _ _ trivial
theorem set_some {α : Type} {l : List (Option α)} {i j : Nat} {x : Option α} {y : α} (h : (l.set i x)[j]? = some (some y)) : (i = j ∧ x = some y ∧ i < l.length) ∨ (i ≠ j ∧ l[j]? = some (some y)) := by
  by_cases e : i = j
  · subst e
    rw [List.getElem?_set] at h
    simp only [if_true] at h
    split at h
    · rename_i hl
      exact .inl ⟨rfl, Option.some.inj h, hl⟩
    · cases h
  · rw [List.getElem?_set_ne e] at h
    exact .inr ⟨e, h⟩
theorem StR.setv (st : StR Y g H σ ρ z) (h : ownAt ρ i = false) (r : R1 Y.K H g.R (bad g σ ρ) v d) : StR Y g H (σ.set i (some v)) (ρ.set i (some (.val d))) z where
  wo := by unfold gb; rw [bad_setv h]; exact st.wo
  gR := st.gR
  len := by rw [List.length_set, List.length_set]; exact st.len
  val := fun j e hj => by
    rw [bad_setv h]
    rcases set_some hj with ⟨rfl, e1, hl⟩ | ⟨ne, hj⟩
    · cases e1
      exact ⟨v, by rw [List.getElem?_set_self (by rw [st.len]; exact hl)], r⟩
    · obtain ⟨w, h1, h2⟩ := st.val j e hj
      exact ⟨w, by rw [List.getElem?_set_ne ne]; exact h1, h2⟩
  own := fun j e hj => by
    rw [bad_setv h]
    rcases set_some hj with ⟨rfl, e1, hl⟩ | ⟨ne, hj⟩
    · cases e1
    · obtain ⟨a, h1, h2⟩ := st.own j e hj
      exact ⟨a, by rw [List.getElem?_set_ne ne]; exact h1, h2⟩
  inj := fun j k e e' a hj hk h1 h2 => by
    rcases set_some hj with ⟨rfl, e1, hl⟩ | ⟨ne, hj⟩
    · cases e1
    · rcases set_some hk with ⟨rfl, e1, hl⟩ | ⟨ne', hk⟩
      · cases e1
      · rw [List.getElem?_set_ne ne] at h1
        rw [List.getElem?_set_ne ne'] at h2
        exact st.inj j k e e' a hj hk h1 h2
  ext := st.ext
theorem StR.setn (st : StR Y g H σ ρ z) (h : ownAt ρ i = false) : StR Y g H (σ.set i none) (ρ.set i none) z where
  wo := by unfold gb; rw [bad_setn h]; exact st.wo
  gR := st.gR
  len := by rw [List.length_set, List.length_set]; exact st.len
  val := fun j e hj => by
    rw [bad_setn h]
    rcases set_some hj with ⟨rfl, e1, hl⟩ | ⟨ne, hj⟩
    · cases e1
    · obtain ⟨w, h1, h2⟩ := st.val j e hj
      exact ⟨w, by rw [List.getElem?_set_ne ne]; exact h1, h2⟩
  own := fun j e hj => by
    rw [bad_setn h]
    rcases set_some hj with ⟨rfl, e1, hl⟩ | ⟨ne, hj⟩
    · cases e1
    · obtain ⟨a, h1, h2⟩ := st.own j e hj
      exact ⟨a, by rw [List.getElem?_set_ne ne]; exact h1, h2⟩
  inj := fun j k e e' a hj hk h1 h2 => by
    rcases set_some hj with ⟨rfl, e1, hl⟩ | ⟨ne, hj⟩
    · cases e1
    · rcases set_some hk with ⟨rfl, e1, hl⟩ | ⟨ne', hk⟩
      · cases e1
      · rw [List.getElem?_set_ne ne] at h1
        rw [List.getElem?_set_ne ne'] at h2
        exact st.inj j k e e' a hj hk h1 h2
  ext := st.ext
theorem ownAt_set (h : ownAt ρ i = false) {y : Option Sl} (hy : notOwn y) (j : Nat) : ownAt (ρ.set i y) j = ownAt ρ j := by
  by_cases e : i = j
  · subst e
    by_cases hl : i < ρ.length
    · rw [h]
      unfold ownAt
      rw [List.getElem?_set_self hl]
      cases y with
      | none => rfl
      | some s => cases s with
        | val d => rfl
        | own d => exact hy.elim
    · rw [List.set_eq_of_length_le (by omega)]
  · unfold ownAt
    rw [List.getElem?_set_ne e]

/-- a new thing at Dd, kept away from -/
abbrev gd (g : G) (Dd : Addr) : G := ⟨g.R, fun a => g.B a ∨ a = Dd, g.H0⟩
theorem bad_gd (Dd : Addr) : bad (gd g Dd) σ ρ = fun a => bad g σ ρ a ∨ a = Dd := by
  funext a
  apply propext
  constructor
  · rintro ((h | h) | h)
    · exact .inl (.inl h)
    · exact .inr h
    · exact .inl (.inr h)
  · rintro ((h | h) | h)
    · exact .inl (.inl h)
    · exact .inr h
    · exact .inl (.inr h)
theorem bad_le {Dd a : Addr} (h : bad g σ ρ a) : bad (gd g Dd) σ ρ a := by rw [bad_gd]; exact .inl h
theorem OwnAt.less {K : PySem.W.Frag} {R a : Addr} {B B' : Addr → Prop} {d : D} (hb : ∀ a, B' a → B a) (h : OwnAt K H R B a d) : OwnAt K H R B' a d := by
  cases d <;> first
    | exact h.elim
    | (obtain ⟨x, e, q⟩ := h; exact ⟨x, e, q.less hb⟩)
    | (obtain ⟨x, e, e2, q⟩ := h; exact ⟨x, e, e2, q.less hb⟩)
theorem OwnAt.dom {K : PySem.W.Frag} {R a : Addr} {B : Addr → Prop} {d : D} (h : OwnAt K H R B a d) : OwnAt K H R (plus K H B) a d := by
  cases d <;> first
    | exact h.elim
    | (obtain ⟨x, e, q⟩ := h; exact ⟨x, e, q.dom⟩)
    | (obtain ⟨x, e, e2, q⟩ := h; exact ⟨x, e, e2, q.dom⟩)
theorem StR.guard {Dd : Addr} (st : StR Y g H1 σ ρ z) (hD : H1 Dd = none) (hK : Y.K.lookup Dd = none) (ex : Ext g.R H1 H) (w : Wo Y.K Y.T (gb (gd g Dd) σ ρ) H z') : StR Y (gd g Dd) H σ ρ z' := by
  have sub : ∀ a, bad (gd g Dd) σ ρ a → plus Y.K H1 (bad g σ ρ) a := fun a h => by
    rw [bad_gd] at h
    rcases h with h | rfl
    · exact .inl h
    · exact .inr ⟨hD, hK⟩
  have rd : RdLe (plus Y.K H1 (bad g σ ρ)) H1 H := (ex.rd st.badR).mono fun a h => .inl h
  refine ⟨w, .inl st.gR, st.len, fun i d h => ?_, fun i d h => ?_, st.inj, st.ext.trans ex⟩
  · obtain ⟨v, h1, h2⟩ := st.val i d h
    exact ⟨v, h1, (Rs.mono rd h2.dom).less sub⟩
  · obtain ⟨a, h1, h2, h3, h4, h5⟩ := st.own i d h
    have nD : a ≠ Dd := fun e => by
      obtain ⟨o, ho, _⟩ := h5.there
      rw [e, hD] at ho
      cases ho
    exact ⟨a, h1, fun z => z.elim h2 nD, h3, h4, (OwnAt.mono rd (fun o q nt => ex.keep a o q (st.ownNe ⟨i, d, h, h1⟩) nt) h5.dom).less sub⟩
theorem Ext.upNew {R Dd : Addr} {o : HO} (e : Ext R H1 H) (hD : H1 Dd = none) : Ext R H1 (upd H Dd o) :=
  ⟨fun a u q h1 h2 => by rw [upd_ne (ne_of_none q hD)]; exact e.keep a u q h1 h2, fun a h => by
    by_cases e2 : a = Dd
    · rw [e2, upd_same]; exact fun z => by cases z
    · rw [upd_ne e2]; exact e.dom a h, fun x xs q => (e.row x xs q).elim fun ys e2 => ⟨ys, by rw [upd_ne (ne_of_none q hD)]; exact e2⟩⟩
/-- the guarded thing changes -/
theorem Wo.up {K : PySem.W.Frag} {T : Tb} {g : G} {Dd : Addr} {o o' : HO} (w : Wo K T g H z) (hB : g.B Dd) (hR : Dd ≠ g.R) (ho : H Dd = some o) (hn : ∀ ps, o ≠ .tbl ps) (hc : ∀ φ, o ≠ .ext φ := by intro φ z; cases z) : Wo K T g (upd H Dd o') z := by
  obtain ⟨⟨SA, h1, h2, h3⟩, ht, hb, hd, hk, hl, hi⟩ := w
  have nS : SA ≠ Dd := fun e => h1 (by rw [e]; exact hB)
  refine ⟨⟨SA, h1, ?_, by rw [upd_ne (Ne.symm hR)]; exact h3⟩, fun P hP => ?_, hb, fun a ha => ?_, hk, tabs_keep hl (fun q _ ps e => by rw [upd_ne (fun z => hn ps (Option.some.inj (ho.symm.trans (by rw [← z]; exact e))))]; exact e) (fun c φ e => by rw [upd_ne (fun z => hc φ (Option.some.inj (ho.symm.trans (by rw [← z]; exact e))))]; exact e), hi⟩
  · rcases h2 with (q | ⟨ob, q⟩) | q
    · exact .inl (.inl (by rw [upd_ne nS]; exact q))
    · exact .inl (.inr ⟨ob, by rw [upd_ne nS]; exact q⟩)
    · exact .inr q
  · obtain ⟨ps, q, r⟩ := ht P hP
    have ne : P ≠ Dd := fun e => by
      rw [e, ho] at q
      exact hn ps (Option.some.inj q)
    exact ⟨ps, by rw [upd_ne ne]; exact q, r⟩
  · by_cases e : a = Dd
    · rw [e, upd_same]; exact fun z => by cases z
    · rw [upd_ne e]; exact hd a ha
theorem RdLe.up {B : Addr → Prop} {Dd : Addr} {o : HO} (hB : B Dd) : RdLe B H (upd H Dd o) := by
  have ne : ∀ a, ¬ B a → a ≠ Dd := fun a n e => n (by rw [e]; exact hB)
  refine ⟨fun a u n du r => ?_, fun a ob us n e => by rw [upd_ne (ne a n)]; exact e, fun a us n e => by rw [upd_ne (ne a n)]; exact e⟩
  rcases r with r | ⟨ob, r⟩
  · exact .inl (by rw [upd_ne (ne a n)]; exact r)
  · exact .inr ⟨ob, by rw [upd_ne (ne a n)]; exact r⟩
end
theorem StR.chE {K : PySem.W.Frag} {T : Tb} {mg : Str → Option Value} {E E' : XK} {g : G} {H : Hp} {σ : L2.St} {ρ : EnD} {z : S} (st : StR ⟨K, T, mg, E⟩ g H σ ρ z) : StR ⟨K, T, mg, E'⟩ g H σ ρ z :=
  ⟨st.wo, st.gR, st.len, st.val, st.own, st.inj, st.ext⟩
section
variable {X : L2.Cx} {T : Tb} {E : XK} {fi : EnD → M (List D)} {t : EnD → M Bool} {f : EnD → M D} {elt iter tg : Expr} {ifs : List Expr} {scope : Scope} {pos : Pos} {x : Str} {i : Nat}
theorem lc_read {σ : L2.St} {H : Hp} {Q : VK} (h : tD (yx X T E) (eLc i fi t f) σ H Q) :
    tLc (tiD (yx X T E) fi) (gName i) (fun σ H Q => KN X.K H → ttD (yx X T E0) t σ H Q) (fun σ H Q => KN X.K H → tD (yx X T E0) f σ H Q) [i] σ H Q := by
  obtain ⟨g, ρ, z, st, a⟩ := h
  refine ⟨g, ρ, z, st, a.bind.imp fun l z1 _ h1 J H1 st1 e1 it Dd hD => ?_⟩
  have c : l.length ≤ sizeLine ∧ ownAt ρ i = false := by
    refine Decidable.byContradiction fun c => ?_
    rw [if_neg c] at h1
    exact h1
  rw [if_pos c] at h1
  obtain ⟨cl, co⟩ := c
  have hDR : Dd ≠ g.R := fun e => st1.badDom st1.badR (by rw [← e]; exact hD)
  refine ⟨fun n m H' => ∃ acc ds zi, n + m = l.length ∧ H' Dd = some (.lst acc) ∧ Ext g.R H1 H' ∧ Wo X.K T (gb g σ ρ) H' zi ∧ (X.K.lookup Dd = none → Wo X.K T (gb (gd g Dd) σ ρ) H' zi) ∧
    Rs X.K H' g.R (fun a => bad g σ ρ a ∨ a = Dd) acc ds ∧ ds.length ≤ n ∧ After (yx X T E) g (compL i t f (l.drop n) ρ zi) (fun ds' z'' => ∀ v H'', StR (yx X T E) g H'' σ ρ z'' → Ext g.R H1 H'' → R1 X.K H'' g.R (bad g σ ρ) v (.lst (ds ++ ds')) → Q v H''),
    ⟨l.length, [], [], z1, Nat.zero_add _, upd_same, .new hD, st1.wo.new hD, fun hK => ?_, .nil, Nat.zero_le _, ?_⟩, ?_⟩
  · obtain ⟨⟨SA, s1, s2, s3⟩, ht, hb, hd, hk⟩ := st1.wo
    have hS : SA ≠ Dd := fun e => by
      rcases s2 with s2 | ⟨o, its, nn, s2, _⟩
      · exact rd_some s2 (by rw [e]; exact hD)
      · rw [e, hK] at s2; cases s2
    have w := st1.wo.new (o := .lst []) hD
    obtain ⟨_, ht', hb', hd', hk', hl', hi'⟩ := w
    refine ⟨⟨SA, fun q => ?_, ?_, by rw [upd_ne (ne_of_none s3 hD)]; exact s3⟩, ht', .inl (.inl st1.gR), fun a ha => ?_, fun a ha => ?_, hl', hi'⟩
    · have q : bad (gd g Dd) σ ρ SA := q
      rw [bad_gd] at q
      exact q.elim s1 hS
    · rcases s2 with (q | ⟨ob, q⟩) | q
      · exact .inl (.inl (by rw [upd_ne hS]; exact q))
      · exact .inl (.inr ⟨ob, by rw [upd_ne hS]; exact q⟩)
      · exact .inr q
    · have ha : bad (gd g Dd) σ ρ a := ha
      rw [bad_gd] at ha
      rcases ha with ha | rfl
      · exact hd' a ha
      · rw [upd_same]; exact fun z => by cases z
    · have ha : bad (gd g Dd) σ ρ a := ha
      rw [bad_gd] at ha
      rcases ha with ha | rfl
      · exact hk' a ha
      · exact hK
  · rw [List.drop_zero]
    refine h1.bind.imp fun ds' z'' _ q v H'' s' ex r => ?_
    exact q.pure v H'' s' (e1.trans ex) (by simpa using r)
  · rintro n m H' ⟨acc, ds, zi, hm, hHD, ex, wo, wog, racc, hds, hcomp⟩
    have rdl : RdLe (bad g σ ρ) H1 H' := ex.rd st1.badR
    by_cases hn : n < l.length
    · obtain ⟨xd, hxd⟩ : ∃ xd, l[n]? = some xd := ⟨_, List.getElem?_eq_getElem hn⟩
      have edrop : l.drop n = xd :: l.drop (n + 1) := by
        rw [List.drop_eq_getElem_cons hn]
        rw [List.getElem?_eq_getElem hn] at hxd
        cases hxd
        rfl
      rw [edrop] at hcomp
      unfold compL at hcomp
      refine .inr ⟨it.go n H' rdl hn, _, fun H'' hW => ⟨m - 1, by omega, hW⟩, fun xv H'' hy => ?_⟩
      obtain ⟨rfl, d, hd, rx⟩ := it.yld n H' xv H'' rdl hn hy
      rw [hxd] at hd
      cases hd
      show wipe (((wipe σ [i]).set i (some xv))) [i] = wipe σ [i] ∧ _
      refine ⟨by simp [wipe], fun kn => ?_⟩
      have hK : X.K.lookup Dd = none := kn Dd (by rw [hHD]; exact fun z => by cases z)
      have sg := st1.guard (H := H'') (z' := zi) hD hK ex (wog hK)
      have sub : ∀ a, bad (gd g Dd) σ ρ a → plus X.K H1 (bad g σ ρ) a := fun a h => by
        rw [bad_gd] at h
        rcases h with h | rfl
        · exact .inl h
        · exact .inr ⟨hD, hK⟩
      have s2 := sg.setn (i := i) co
      have co2 : ownAt (ρ.set i none) i = false := by rw [ownAt_set co (y := none) trivial]; exact co
      have s3 : StR (yx X T E0) (gd g Dd) H'' ((wipe σ [i]).set i (some xv)) ((ρ.set i none).set i (some (.val xd))) zi :=
        (s2.setv co2 (by rw [bad_set co none none trivial]; exact rx.less sub)).chE
      have bE : bad (gd g Dd) ((wipe σ [i]).set i (some xv)) ((ρ.set i none).set i (some (.val xd))) = bad (gd g Dd) σ ρ := by
        show bad (gd g Dd) ((σ.set i none).set i (some xv)) ((ρ.set i none).set i (some (.val xd))) = bad (gd g Dd) σ ρ
        rw [bad_set co2 (some xv) (some (.val xd)) trivial, bad_set co none none trivial]
      refine ⟨gd g Dd, _, zi, s3, (After.ne hcomp.bind).imp fun b z2 _ h3 H3 st3 e3 => ?_⟩
      have wo3 : Wo X.K T (gb (gd g Dd) σ ρ) H3 z2 := by
        have := st3.wo
        unfold gb at this
        rw [bE] at this
        exact this
      have hD3 : H3 Dd = some (.lst acc) := e3.keep Dd _ hHD hDR (fun ps z => by cases z)
      have badRd : (fun a => bad g σ ρ a ∨ a = Dd) g.R := .inl st1.badR
      cases b with
      | false =>
        simp only [Bool.false_eq_true, if_false] at h3 ⊢
        refine ⟨acc, ds, z2, by omega, hD3, ex.trans e3, wo3.less (fun a h => bad_le h) st1.badR, fun _ => wo3, racc.mono (e3.rd badRd), by omega, h3⟩
      | true =>
        simp only [if_true] at h3 ⊢
        intro kn3
        refine ⟨gd g Dd, _, z2, st3, (After.ne h3.bind).imp fun d z3 _ h4 y H4 st4 e4 ry => ?_⟩
        have wo4 : Wo X.K T (gb (gd g Dd) σ ρ) H4 z3 := by
          have := st4.wo
          unfold gb at this
          rw [bE] at this
          exact this
        have hD4 : H4 Dd = some (.lst acc) := e4.keep Dd _ hD3 hDR (fun ps z => by cases z)
        have ry : R1 X.K H4 g.R (fun a => bad g σ ρ a ∨ a = Dd) y d := by
          have := ry
          rw [bE, bad_gd] at this
          exact this
        have rac4 : Rs X.K H4 g.R (fun a => bad g σ ρ a ∨ a = Dd) acc ds := Rs.mono (e4.rd badRd) (Rs.mono (e3.rd badRd) racc)
        have hal : acc.length < sizeLine := by
          rw [racc.length]
          exact Nat.lt_of_le_of_lt hds (Nat.lt_of_lt_of_le hn cl)
        have bD : bad (gd g Dd) σ ρ Dd := by rw [bad_gd]; exact .inr rfl
        have wo5 : Wo X.K T (gb (gd g Dd) σ ρ) (upd H4 Dd (.lst (acc ++ [y]))) z3 := wo4.up bD hDR hD4 (fun ps z => by cases z)
        refine ⟨acc, hD4, hal, acc ++ [y], ds ++ [d], z3, by omega, upd_same, ((ex.trans e3).trans e4).upNew hD, wo5.less (fun a h => bad_le h) st1.badR, fun _ => wo5,
          Rs.mono (RdLe.up (.inr rfl)) (rac4.append ry), by rw [List.length_append]; simp only [List.length_cons, List.length_nil]; omega, ?_⟩
        refine h4.bind.imp fun ds' z4 _ q v H5 s5 e5 r5 => ?_
        exact q.pure v H5 s5 e5 (by simpa using r5)
    · have en : n = l.length := by omega
      refine .inl ⟨it.stop n H' rdl (by omega), ?_⟩
      rw [List.drop_of_length_le (by omega)] at hcomp
      have sF : StR (yx X T E) g H' σ ρ zi := st1.step ex wo
      refine hcomp.pure _ H' sF ex ?_
      rw [List.append_nil]
      exact .lst hHD (st1.fresh hD) (racc.less fun a h => .inl h) .nil
end
end DL
set_option Elab.async false
set_option linter.all false
set_option maxRecDepth 100000
set_option maxHeartbeats 1000000
namespace DL
open PySem PySem.Spec PyProof.Rows L2 GX GenW GxR

def eTupG (i : Nat) (xs : EnD → M (List D)) (t : EnD → M Bool) (f : EnD → M D) : EnD → M D := fun ρ => mbind (xs ρ) fun l =>
  if l.length ≤ sizeLine ∧ ownAt ρ i = false then mbind (compL i t f l ρ) fun ds => mpure (.tup ds) else mbad
def stopL (stp : Bool) (i : Nat) (t : EnD → M Bool) (f : EnD → M D) : List D → EnD → M Bool
  | [], _ => mpure (!stp)
  | x :: xs, ρ => mbind (mne (t ((ρ.set i none).set i (some (.val x))))) fun b =>
    if b then mbind (mne (f ((ρ.set i none).set i (some (.val x))))) fun d => mbind (mopt (asB d)) fun c => if c = stp then mpure stp else stopL stp i t f xs ρ
    else stopL stp i t f xs ρ
def eStopG (stp : Bool) (i : Nat) (xs : EnD → M (List D)) (t : EnD → M Bool) (f : EnD → M D) : EnD → M D := fun ρ => mbind (xs ρ) fun l =>
  if ownAt ρ i = false then mbind (stopL stp i t f l ρ) fun b => mpure (.bl b) else mbad
def eJoinG (sep : List Nat) (i : Nat) (xs : EnD → M (List D)) (t : EnD → M Bool) (f : EnD → M D) : EnD → M D := fun ρ => mbind (xs ρ) fun l =>
  if l.length ≤ sizeLine ∧ ownAt ρ i = false then mbind (compL i t f l ρ) fun ds => mopt ((strsD ds).bind fun zs => if JoinOk (ST sep) (zs.map ST) = true then some (.str (joinL sep zs)) else none) else mbad

section
variable {X : L2.Cx} {T : Tb} {E : XK} {fi : EnD → M (List D)} {t : EnD → M Bool} {f : EnD → M D} {elt iter tg : Expr} {ifs : List Expr} {scope : Scope} {pos gpos p apos : Pos} {x : Str} {i : Nat} {px : Pos} {k : Nat} {c P : Addr}
theorem ext_tab {K : PySem.W.Frag} {R : Addr} {H1 H2 : Hp} (h1 : TabG H1 P) (h : Tabbed P H1 H2) : Ext R H1 H2 := by
  obtain ⟨ps, h0, _⟩ := h1
  obtain ⟨⟨ps2, h2, h3⟩, h4⟩ := h
  refine ⟨fun a o q1 _ nt => ?_, fun a q => ?_, fun x xs q => ⟨xs, by rw [h4 _ (fun e => by rw [e, h0] at q; cases q)]; exact q⟩⟩
  · have : a ≠ P := fun e => by
      rw [e, h0] at q1
      exact nt ps (Option.some.inj q1).symm
    rw [h4 a this]
    exact q1
  · by_cases e : a = P
    · rw [e, h2]; exact fun z => by cases z
    · rw [h4 a e]; exact q
theorem wo_tab {K : PySem.W.Frag} {g : G} {z : S} {H1 H2 : Hp} (w : Wo K T g H1 z) (hP : P ∈ T) (h1 : TabG H1 P) (h : Tabbed P H1 H2) : Wo K T g H2 z := by
  have ex : Ext g.R H1 H2 := ext_tab (K := K) h1 h
  obtain ⟨⟨SA, s1, s2, s3⟩, ht, hb, hd, hk, hl, hi⟩ := w
  have nR : g.R ≠ P := fun e => by
    obtain ⟨ps, h0, _⟩ := h1
    rw [e, h0] at s3
    cases s3
  refine ⟨⟨SA, s1, ?_, by rw [h.2 _ nR]; exact s3⟩, fun P' hP => ?_, hb, fun a ha => ex.dom a (hd a ha), hk, tabs_keep hl (fun q hq ps e => by rw [h.2 _ (fun z => hi q hq (by rw [z]; exact hP))]; exact e) (fun c φ e => by
      obtain ⟨ps, h0, _⟩ := h1
      rw [h.2 _ (fun z => by rw [z, h0] at e; cases e)]; exact e), hi⟩
  · exact (ex.rd hb).sqL s1 s2
  · by_cases e : P' = P
    · rw [e]; exact h.1
    · obtain ⟨ps, q, r⟩ := ht P' hP
      exact ⟨ps, by rw [h.2 _ e]; exact q, r⟩
theorem StR.tab {Y : Yx} {g : G} {H1 H2 : Hp} {σ : L2.St} {ρ : EnD} {z : S} (st : StR Y g H1 σ ρ z) (hP : P ∈ Y.T) (h1 : TabG H1 P) (h : Tabbed P H1 H2) : StR Y g H2 σ ρ z := st.step (ext_tab (K := Y.K) h1 h) (wo_tab st.wo hP h1 h)
theorem ItD.le {K : PySem.W.Frag} {R : Addr} {B : Addr → Prop} {H1 H2 : Hp} {J : It} {xs : List D} (h : ItD K R B H1 J xs) (r : RdLe B H1 H2) (hd : ∀ a, H2 a = none → H1 a = none) : ItD K R B H2 J xs where
  go := fun i H r2 hi => h.go i H (r.trans r2) hi
  yld := fun i H x H' r2 hi hy => by
    obtain ⟨e, d, h1, h2⟩ := h.yld i H x H' (r.trans r2) hi hy
    exact ⟨e, d, h1, h2.less fun a q => q.elim .inl fun q => .inr ⟨hd a q.1, q.2⟩⟩
  stop := fun i H r2 hi => h.stop i H (r.trans r2) hi

/-- one item -/
theorem item_st {g : G} {H1 H' : Hp} {σ : L2.St} {ρ : EnD} {z1 zi : S} {xv : V} {xd : D} (st1 : StR (yx X T E) g H1 σ ρ z1) (co : ownAt ρ i = false) (ex : Ext g.R H1 H') (wo : Wo X.K T (gb g σ ρ) H' zi) (rx : R1 X.K H' g.R (bad g σ ρ) xv xd) :
    StR (yx X T E0) g H' ((wipe σ [i]).set i (some xv)) ((ρ.set i none).set i (some (.val xd))) zi ∧ bad g ((wipe σ [i]).set i (some xv)) ((ρ.set i none).set i (some (.val xd))) = bad g σ ρ := by
  have s1 : StR (yx X T E) g H' σ ρ zi := st1.step ex wo
  have s2 := s1.setn (i := i) co
  have co2 : ownAt (ρ.set i none) i = false := by rw [ownAt_set co (y := none) trivial]; exact co
  refine ⟨(s2.setv co2 (by rw [bad_setn co]; exact rx)).chE, ?_⟩
  show bad g ((σ.set i none).set i (some xv)) ((ρ.set i none).set i (some (.val xd))) = bad g σ ρ
  rw [bad_setv co2, bad_setn co]

theorem lst_read {σ : L2.St} {H2 : Hp} {Q : VK} {J : It} {l : List D} {g : G} {ρ : EnD} {z1 : S} {Qe : List V → Hp → VK → Prop} (st2 : StR (yx X T E) g H2 σ ρ z1) (it : ItD X.K g.R (bad g σ ρ) H2 J l) (cl : l.length ≤ sizeLine) (co : ownAt ρ i = false)
    (a : After (yx X T E) g (compL i t f l ρ z1) fun ds z' => ∀ ys H', StR (yx X T E) g H' σ ρ z' → Ext g.R H2 H' → Rs X.K H' g.R (bad g σ ρ) ys ds → Qe ys H' Q) :
    bLst (gName i) (ttD (yx X T E0) t) (tD (yx X T E0) f) [i] Qe J σ H2 Q := by
  refine ⟨fun n m ys H' => ∃ ds zi, n + m = l.length ∧ Ext g.R H2 H' ∧ Wo X.K T (gb g σ ρ) H' zi ∧ Rs X.K H' g.R (bad g σ ρ) ys ds ∧ ds.length ≤ n ∧
      After (yx X T E) g (compL i t f (l.drop n) ρ zi) (fun ds' z'' => ∀ ys' H'', StR (yx X T E) g H'' σ ρ z'' → Ext g.R H2 H'' → Rs X.K H'' g.R (bad g σ ρ) ys' (ds ++ ds') → Qe ys' H'' Q),
    ⟨l.length, [], z1, Nat.zero_add _, .refl, st2.wo, .nil, Nat.zero_le _, by simpa using a⟩, ?_⟩
  rintro n m ys H' ⟨ds, zi, hm, ex, wo, rys, hds, hcomp⟩
  have rdl : RdLe (bad g σ ρ) H2 H' := ex.rd st2.badR
  by_cases hn : n < l.length
  · obtain ⟨xd, hxd⟩ : ∃ xd, l[n]? = some xd := ⟨_, List.getElem?_eq_getElem hn⟩
    have edrop : l.drop n = xd :: l.drop (n + 1) := by
      rw [List.drop_eq_getElem_cons hn]
      rw [List.getElem?_eq_getElem hn] at hxd
      cases hxd
      rfl
    rw [edrop] at hcomp
    unfold compL at hcomp
    refine .inr ⟨it.go n H' rdl hn, fun xv H'' hy => ?_⟩
    obtain ⟨rfl, d, hd, rx⟩ := it.yld n H' xv H'' rdl hn hy
    rw [hxd] at hd
    cases hd
    show wipe (((wipe σ [i]).set i (some xv))) [i] = wipe σ [i] ∧ _
    refine ⟨by simp [wipe], ?_⟩
    obtain ⟨s3, bE⟩ := item_st (i := i) st2 co ex wo (rx.less fun a h => .inl h)
    refine ⟨g, _, zi, s3, (After.ne hcomp.bind).imp fun b z2 _ h3 H3 st3 e3 => ?_⟩
    have wo3 : Wo X.K T (gb g σ ρ) H3 z2 := by
      have := st3.wo
      unfold gb at this
      rw [bE] at this
      exact this
    cases b with
    | false =>
      simp only [Bool.false_eq_true, if_false] at h3 ⊢
      exact ⟨m - 1, by omega, ds, z2, by omega, ex.trans e3, wo3, rys.mono (e3.rd st2.badR), by omega, h3⟩
    | true =>
      simp only [if_true] at h3 ⊢
      refine ⟨g, _, z2, st3, (After.ne h3.bind).imp fun d z3 _ h4 y H4 st4 e4 ry => ?_⟩
      have wo4 : Wo X.K T (gb g σ ρ) H4 z3 := by
        have := st4.wo
        unfold gb at this
        rw [bE] at this
        exact this
      have ry : R1 X.K H4 g.R (bad g σ ρ) y d := by
        have := ry
        rw [bE] at this
        exact this
      have rys4 : Rs X.K H4 g.R (bad g σ ρ) ys ds := Rs.mono (e4.rd st2.badR) (Rs.mono (e3.rd st2.badR) rys)
      refine ⟨by rw [rys.length]; exact Nat.lt_of_le_of_lt hds (Nat.lt_of_lt_of_le hn cl), m - 1, by omega, ds ++ [d], z3, by omega, (ex.trans e3).trans e4, wo4, rys4.append ry,
        by rw [List.length_append]; simp only [List.length_cons, List.length_nil]; omega, h4.bind.imp fun ds' z4 _ q ys' H5 s5 e5 r5 => q.pure ys' H5 s5 e5 (by simpa using r5)⟩
  · refine .inl ⟨it.stop n H' rdl (by omega), ?_⟩
    rw [List.drop_of_length_le (by omega)] at hcomp
    exact hcomp.pure _ H' (st2.step ex wo) ex (by simpa using rys)

theorem stop_read {stp : Bool} {σ : L2.St} {H2 : Hp} {J : It} {l : List D} {g : G} {ρ : EnD} {z1 : S} {Qs : Bool → Hp → Prop} (st2 : StR (yx X T E) g H2 σ ρ z1) (it : ItD X.K g.R (bad g σ ρ) H2 J l) (co : ownAt ρ i = false)
    (a : After (yx X T E) g (stopL stp i t f l ρ z1) fun b z' => ∀ H', StR (yx X T E) g H' σ ρ z' → Ext g.R H2 H' → Qs b H') :
    ∃ W, (∃ m, W 0 m H2) ∧ GT2 J (gName i) (ttD (yx X T E0) t) (tD (yx X T E0) f) [i] (wipe σ [i]) stp (Qs stp) (Qs (!stp)) W := by
  refine ⟨fun n m H' => ∃ zi, n + m = l.length ∧ Ext g.R H2 H' ∧ Wo X.K T (gb g σ ρ) H' zi ∧
      After (yx X T E) g (stopL stp i t f (l.drop n) ρ zi) (fun b z'' => ∀ H'', StR (yx X T E) g H'' σ ρ z'' → Ext g.R H2 H'' → Qs b H''),
    ⟨l.length, z1, Nat.zero_add _, .refl, st2.wo, by simpa using a⟩, ?_⟩
  rintro n m H' ⟨zi, hm, ex, wo, hcomp⟩
  have rdl : RdLe (bad g σ ρ) H2 H' := ex.rd st2.badR
  by_cases hn : n < l.length
  · obtain ⟨xd, hxd⟩ : ∃ xd, l[n]? = some xd := ⟨_, List.getElem?_eq_getElem hn⟩
    have edrop : l.drop n = xd :: l.drop (n + 1) := by
      rw [List.drop_eq_getElem_cons hn]
      rw [List.getElem?_eq_getElem hn] at hxd
      cases hxd
      rfl
    rw [edrop] at hcomp
    unfold stopL at hcomp
    refine .inr ⟨it.go n H' rdl hn, fun xv H'' hy => ?_⟩
    obtain ⟨rfl, d, hd, rx⟩ := it.yld n H' xv H'' rdl hn hy
    rw [hxd] at hd
    cases hd
    show wipe (((wipe σ [i]).set i (some xv))) [i] = wipe σ [i] ∧ _
    refine ⟨by simp [wipe], ?_⟩
    obtain ⟨s3, bE⟩ := item_st (i := i) st2 co ex wo (rx.less fun a h => .inl h)
    refine ⟨g, _, zi, s3, (After.ne hcomp.bind).imp fun b z2 _ h3 H3 st3 e3 => ?_⟩
    have wo3 : Wo X.K T (gb g σ ρ) H3 z2 := by
      have := st3.wo
      unfold gb at this
      rw [bE] at this
      exact this
    cases b with
    | false =>
      simp only [Bool.false_eq_true, if_false] at h3 ⊢
      exact ⟨m - 1, by omega, z2, by omega, ex.trans e3, wo3, h3⟩
    | true =>
      simp only [if_true] at h3 ⊢
      refine ⟨g, _, z2, st3, (After.ne h3.bind).imp fun d z3 _ h4 y H4 st4 e4 ry => ⟨by omega, ?_⟩⟩
      have wo4 : Wo X.K T (gb g σ ρ) H4 z3 := by
        have := st4.wo
        unfold gb at this
        rw [bE] at this
        exact this
      obtain ⟨cb, hc, h5⟩ := h4.bind.opt
      obtain rfl : d = .bl cb := by cases d <;> simp_all [asB]
      cases ry.bl
      have sF : StR (yx X T E) g H4 σ ρ z3 := st2.step ((ex.trans e3).trans e4) wo4
      refine ⟨cb, rfl, fun e => ?_, fun ne => ?_⟩
      · rw [if_pos e] at h5
        exact h5.pure H4 sF ((ex.trans e3).trans e4)
      · rw [if_neg ne] at h5
        exact ⟨m - 1, by omega, z3, by omega, (ex.trans e3).trans e4, wo4, h5⟩
  · refine .inl ⟨it.stop n H' rdl (by omega), ?_⟩
    rw [List.drop_of_length_le (by omega)] at hcomp
    exact hcomp.pure H' (st2.step ex wo) ex

theorem pu_lc (hc : X.calm = true) (hN : X.N.Nodup) (hi : PI X tg iter (tiD (yx X T E) fi)) (ok : BlkOk X.N X.env.scope scope [(x, i)])
    (hg : ∀ (s : Shared) (H : Hp) (C : Addr) (cl : List (Str × Addr)) (fp : List Addr), PG (X.blk s H scope (compEnvC scope cl C X.env) fp) tg (gName i)) (ht : ∀ (s : Shared) (H : Hp) (C : Addr) (cl : List (Str × Addr)) (fp : List Addr), PTs (X.blk s H scope (compEnvC scope cl C X.env) fp) ifs (ttD (yx X T E0) t))
    (he : ∀ (s : Shared) (H : Hp) (C : Addr) (cl : List (Str × Addr)) (fp : List Addr), PE (X.blk s H scope (compEnvC scope cl C X.env) fp) elt (tD (yx X T E0) f)) (hs : ∀ x, foldedSetIterable iter X.env x = pure x := by intro _; rfl) :
    PE X (.ListComp elt [⟨tg, iter, ifs, 0⟩] scope pos) (tD (yx X T E) (eLc i fi t f)) :=
  PE_imp (pe_lc (own := [(x, i)]) hc hN hi ok hg (fun s H C cl fp => PTs_kn (ht s H C cl fp)) (fun s H C cl fp => PE_kn (he s H C cl fp)) hs) fun σ H Q h => lc_read h
theorem pu_tupG (hr : Room (k + 1) X.A) (hc : X.calm = true) (hgl : Gl X "tuple") (hm : X.mg "tuple" = none) (hb : bootBuiltins "tuple" = some (.type "tuple")) (TB : TabB X.base X.mg c P) (hP : P ∈ T) (hcode : X.env.code = .ref c)
    (ok : GOk X.N X.env.scope scope [(x, i)]) (hN : X.N.Nodup) (hi : PI X tg iter (tiD (yx X T E) fi))
    (hg : ∀ s H C code A' fp, PG (gcx X s H (GCtx X scope C code) A' fp) tg (gName i))
    (ht : ∀ s H C code A' fp, Room k A' → PTs (gcx X s H (GCtx X scope C code) A' fp) ifs (ttD (yx X T E0) t))
    (he : ∀ s H C code A' fp, Room k A' → PE (gcx X s H (GCtx X scope C code) A' fp) elt (tD (yx X T E0) f))
    (hs : ∀ v, genFold iter X.env v = pure v := by intro _; rfl)
    (hst : starEach [.GeneratorExp elt [⟨tg, iter, ifs, 0⟩] scope gpos] X.env = (false, eval (.GeneratorExp elt [⟨tg, iter, ifs, 0⟩] scope gpos) X.env) :: starEach [] X.env := by rfl) :
    PE X (.Call (.Name "tuple" p) [.GeneratorExp elt [⟨tg, iter, ifs, 0⟩] scope gpos] [] pos) (tD (yx X T E) (eTupG i fi t f)) :=
  PE_imp (pe_tupGF (own := [(x, i)]) hr hc hgl hm hb TB hcode ok hN hi hg ht he hs hst) fun σ H Q h => by
    obtain ⟨g, ρ, z, st, a⟩ := h
    refine ⟨g, ρ, z, st, a.bind.imp fun l z1 _ h1 J H1 st1 e1 it => ?_⟩
    have cc : l.length ≤ sizeLine ∧ ownAt ρ i = false := by
      refine Decidable.byContradiction fun cc => ?_
      rw [if_neg cc] at h1
      exact h1
    rw [if_pos cc] at h1
    have hT := st1.wo.tabs P hP
    refine ⟨hT, fun H2 h2 => ?_⟩
    have ex2 : Ext g.R H1 H2 := ext_tab (K := X.K) hT h2
    refine lst_read (st1.tab hP hT h2) (it.le (ex2.rd st1.badR) fun a q => ?_) cc.1 cc.2 (h1.bind.imp fun ds z2 _ q ys H3 s3 e3 r3 p ob hp hd => q.pure _ _ (s3.new hp) (e1.trans (ex2.trans (e3.trans (.new hp)))) (s3.tup hp hd r3))
    cases e : H1 a with
    | none => rfl
    | some o => exact absurd q (ex2.dom a (by rw [e]; exact fun z => by cases z))
theorem pu_stopG_aux {stp : Bool} {σ : L2.St} {H : Hp} {Q : VK} {tg' : G} (hP : P ∈ T) (h : tD (yx X T E) (eStopG stp i fi t f) σ H Q) :
    tGx P (tiD (yx X T E) fi) (fun J σ H Q => ∃ W, (∃ m, W 0 m H) ∧ GT2 J (gName i) (ttD (yx X T E0) t) (tD (yx X T E0) f) [i] (wipe σ [i]) stp (Q (.bl stp)) (Q (.bl (!stp))) W) σ H Q := by
  obtain ⟨g, ρ, z, st, a⟩ := h
  refine ⟨g, ρ, z, st, a.bind.imp fun l z1 _ h1 J H1 st1 e1 it => ?_⟩
  have cc : ownAt ρ i = false := by
    refine Decidable.byContradiction fun cc => ?_
    rw [if_neg cc] at h1
    exact h1
  rw [if_pos cc] at h1
  have hT := st1.wo.tabs P hP
  refine ⟨hT, fun H2 h2 => ?_⟩
  have ex2 : Ext g.R H1 H2 := ext_tab (K := X.K) hT h2
  refine stop_read (Qs := fun b => Q (.bl b)) (st1.tab hP hT h2) (it.le (ex2.rd st1.badR) fun a q => ?_) cc (h1.bind.imp fun b z2 _ q H3 s3 e3 => q.pure _ _ s3 (e1.trans (ex2.trans e3)) (.atom .bl .nil))
  cases e : H1 a with
  | none => rfl
  | some o => exact absurd q (ex2.dom a (by rw [e]; exact fun z => by cases z))
theorem pu_all (hr : Room (k + 1) X.A) (hc : X.calm = true) (hgl : Gl X "all") (hm : X.mg "all" = none) (hb : bootBuiltins "all" = some (.builtin "all")) (TB : TabB X.base X.mg c P) (hP : P ∈ T) (hcode : X.env.code = .ref c)
    (ok : GOk X.N X.env.scope scope [(x, i)]) (hN : X.N.Nodup) (hi : PI X tg iter (tiD (yx X T E) fi))
    (hg : ∀ s H C code A' fp, PG (gcx X s H (GCtx X scope C code) A' fp) tg (gName i))
    (ht : ∀ s H C code A' fp, Room k A' → PTs (gcx X s H (GCtx X scope C code) A' fp) ifs (ttD (yx X T E0) t))
    (he : ∀ s H C code A' fp, Room k A' → PE (gcx X s H (GCtx X scope C code) A' fp) elt (tD (yx X T E0) f))
    (hs : ∀ v, genFold iter X.env v = pure v := by intro _; rfl)
    (hst : starEach [.GeneratorExp elt [⟨tg, iter, ifs, 0⟩] scope gpos] X.env = (false, eval (.GeneratorExp elt [⟨tg, iter, ifs, 0⟩] scope gpos) X.env) :: starEach [] X.env := by rfl) :
    PE X (.Call (.Name "all" p) [.GeneratorExp elt [⟨tg, iter, ifs, 0⟩] scope gpos] [] pos) (tD (yx X T E) (eStopG false i fi t f)) :=
  PE_imp (pe_all (own := [(x, i)]) hr hc hgl hm hb TB hcode ok hN hi hg ht he hs hst) fun σ H Q h => pu_stopG_aux (tg' := ⟨0, fun _ => False, fun _ => none⟩) hP h
end
end DL
set_option Elab.async false
set_option linter.all false
set_option maxRecDepth 100000
set_option maxHeartbeats 1000000
namespace DL
open PySem PySem.Spec PyProof.Rows L2

inductive Out where
  | nx (ρ : EnD) (z : S) | rt (d : D) (z : S) | bk (ρ : EnD) (z : S) | ct (ρ : EnD) (z : S) | exc (x : Exn) (z : S) | bad
abbrev SM := EnD → S → Out
def obind {α : Type} (r : Res α) (k : α → S → Out) : Out := match r with
  | .ok a z => k a z
  | .exc x z => .exc x z
  | .bad => .bad
def sNil : SM := fun ρ z => .nx ρ z
def sSeq (a b : SM) : SM := fun ρ z => match a ρ z with
  | .nx ρ' z' => b ρ' z'
  | o => o
def sSet (i : Nat) (f : EnD → M D) : SM := fun ρ z => obind (f ρ z) fun d z' => if ownAt ρ i then .bad else .nx (ρ.set i (some (.val d))) z'
def sIf (t : EnD → M Bool) (a b : SM) : SM := fun ρ z => obind (t ρ z) fun c z' => if c then a ρ z' else b ρ z'
def sRet (f : EnD → M D) : SM := fun ρ z => obind (f ρ z) fun d z' => .rt d z'
def sRetN : SM := fun ρ z => .rt .non z
def sEx (f : EnD → M D) : SM := fun ρ z => obind (f ρ z) fun _ z' => .nx ρ z'
def sBad : SM := fun _ _ => .bad
def forD (i : Nat) (body : SM) : List D → SM
  | [], ρ, z => .nx ρ z
  | x :: xs, ρ, z => if ownAt ρ i then .bad else match body (ρ.set i (some (.val x))) z with
    | .nx ρ' z' => forD i body xs ρ' z'
    | .ct ρ' z' => forD i body xs ρ' z'
    | .bk ρ' z' => .nx ρ' z'
    | o => o
def sFor (i : Nat) (xs : EnD → M (List D)) (body : SM) : SM := fun ρ z => obind (xs ρ z) fun l z' => forD i body l ρ z'
/-- the def's slots at its entry -/
def rho0 (n : Nat) (ds : List D) : EnD := ds.map (fun d => some (.val d)) ++ List.replicate (n - ds.length) none
/-- a def's run -/
def runD (n : Nat) (b : SM) : List D → M D := fun ds z => match b (rho0 n ds) z with
  | .nx _ z' => .ok .non z'
  | .rt d z' => .ok d z'
  | .exc x z' => .exc x z'
  | _ => .bad

/-- what a statement may change -/
structure Stp (R : Addr) (σ : L2.St) (ρ : EnD) (H : Hp) (σ' : L2.St) (ρ' : EnD) (H' : Hp) : Prop where
  keep : ∀ a o, H a = some o → a ≠ R → ¬ Own σ ρ a → (∀ ps, o ≠ .tbl ps) → H' a = some o
  dom : ∀ a, H a ≠ none → H' a ≠ none
  own : ∀ a, Own σ' ρ' a → Own σ ρ a ∨ H a = none
section
variable {R : Addr} {σ σ1 σ2 : L2.St} {ρ ρ1 ρ2 : EnD} {H H1 H2 : Hp}
theorem Stp.trans (a : Stp R σ ρ H σ1 ρ1 H1) (b : Stp R σ1 ρ1 H1 σ2 ρ2 H2) : Stp R σ ρ H σ2 ρ2 H2 where
  keep := fun c o h1 h2 h3 h4 => b.keep c o (a.keep c o h1 h2 h3 h4) h2 (fun q => (a.own c q).elim h3 fun z => by rw [h1] at z; cases z) h4
  dom := fun c h => b.dom c (a.dom c h)
  own := fun c q => (b.own c q).elim (a.own c) fun z => by
    cases e : H c with
    | none => exact .inr rfl
    | some o => exact absurd z (a.dom c (by rw [e]; exact fun z => by cases z))
theorem Stp.ext (e : Ext R H H1) : Stp R σ ρ H σ ρ H1 := ⟨fun a o h1 h2 _ h4 => e.keep a o h1 h2 h4, e.dom, fun _ q => .inl q⟩
theorem Stp.refl : Stp R σ ρ H σ ρ H := .ext .refl
theorem Stp.setv {i : Nat} {v : Option V} {y : Option Sl} (h : ownAt ρ i = false) (hy : notOwn y) : Stp R σ ρ H (σ.set i v) (ρ.set i y) H :=
  ⟨fun _ _ h _ _ _ => h, fun _ h => h, fun a q => .inl (by rw [own_set h v y hy] at q; exact q)⟩
end
/-- the ends of a statement -/
def OutOk (Y : Yx) (g : G) (σ : L2.St) (ρ : EnD) (H : Hp) (o : Out) (Dn : Ends) : Prop := match o with
  | .nx ρ' z' => ∀ σ' H', StR Y g H' σ' ρ' z' → Stp g.R σ ρ H σ' ρ' H' → Dn.nx σ' H'
  | .rt d z' => ∀ v H', Wo Y.K Y.T g H' z' → Ext g.R g.H0 H' → R1 Y.K H' g.R g.B v d → Dn.rt v H'
  | .bk ρ' z' => ∀ σ' H', StR Y g H' σ' ρ' z' → Stp g.R σ ρ H σ' ρ' H' → Dn.bk σ' H'
  | .ct ρ' z' => ∀ σ' H', StR Y g H' σ' ρ' z' → Stp g.R σ ρ H σ' ρ' H' → Dn.ct σ' H'
  | .exc x z' => XOk Y g x z'
  | .bad => False
def sD (Y : Yx) (F : SM) : TS := fun Dn σ H => ∃ g ρ z, StR Y g H σ ρ z ∧ OutOk Y g σ ρ H (F ρ z) Dn
section
variable {Y : Yx} {g : G} {σ σ1 : L2.St} {ρ ρ1 : EnD} {H H1 : Hp} {o : Out} {Dn : Ends} {z : S}
theorem OutOk.rebase (h : OutOk Y g σ ρ H o Dn) (s : Stp g.R σ ρ H σ1 ρ1 H1) : OutOk Y g σ1 ρ1 H1 o Dn := by
  cases o with
  | nx ρ' z' => exact fun σ' H' st s2 => h σ' H' st (s.trans s2)
  | bk ρ' z' => exact fun σ' H' st s2 => h σ' H' st (s.trans s2)
  | ct ρ' z' => exact fun σ' H' st s2 => h σ' H' st (s.trans s2)
  | rt d z' => exact h
  | exc x z' => exact h
  | bad => exact h
theorem OutOk.bind {α : Type} {r : Res α} {k : α → S → Out} (h : OutOk Y g σ ρ H (obind r k) Dn) : After Y g r fun a z' => OutOk Y g σ ρ H (k a z') Dn := by
  cases r with
  | ok a z' => exact h
  | exc x z' => exact h
  | bad => exact h
end
section
variable {X : L2.Cx} {T : Tb} {E : XK} {st : Stmt} {rest : List Stmt} {A B : SM} {f : EnD → M D} {t : EnD → M Bool} {fi : EnD → M (List D)} {e tg iter c : Expr} {pos pos' : Pos} {i : Nat} {x : Str}
theorem pu_snil : PSs X [] (sD (yx X T E) sNil) := PSs_imp pss_nil fun D σ H h => by
  obtain ⟨g, ρ, z, st, o⟩ := h
  exact o σ H st .refl
theorem pu_seq (h1 : PS X st (sD (yx X T E) A)) (h2 : PSs X rest (sD (yx X T E) B)) : PSs X (st :: rest) (sD (yx X T E) (sSeq A B)) := PSs_imp (pss_cons h1 h2) fun D σ H h => by
  obtain ⟨g, ρ, z, st, o⟩ := h
  refine ⟨g, ρ, z, st, ?_⟩
  unfold sSeq at o
  cases e : A ρ z with
  | nx ρ' z' =>
    rw [e] at o
    exact fun σ' H' st' s => ⟨g, ρ', z', st', o.rebase s⟩
  | rt d z' => rw [e] at o; exact o
  | bk ρ' z' => rw [e] at o; exact o
  | ct ρ' z' => rw [e] at o; exact o
  | exc x z' => rw [e] at o; exact o
  | bad => rw [e] at o; exact o
theorem pu_last (h1 : PS X st (sD (yx X T E) A)) : PSs X [st] (sD (yx X T E) A) := pss_one h1
theorem pu_set (hN : X.N.Nodup) (hi : X.N[i]? = some x) (hx : Loc X.env.scope x) (he : PE X e (tD (yx X T E) f)) (hs : swapsWith e (some (.Name x pos')) pos.line X.env = pure false := by rfl) (hf : X.fn x = true ∨ X.env.scope.names.lookup x = some .local := by first | exact .inl rfl | exact .inr rfl) :
    PS X (.Assign [.Name x pos'] e pos) (sD (yx X T E) (sSet i f)) := PS_imp (ps_set hN hi hx he hs hf) fun D σ H h => by
  obtain ⟨g, ρ, z, st, o⟩ := h
  refine ⟨g, ρ, z, st, o.bind.imp fun d z1 _ h1 v H1 st1 e1 r1 => ?_⟩
  cases co : ownAt ρ i with
  | true => rw [co] at h1; exact h1.elim
  | false =>
    rw [co] at h1
    exact h1 _ H1 (st1.setv co r1) ((Stp.ext e1).trans (.setv co trivial))
theorem pu_ifS {a b : List Stmt} (ht : PT X c (ttD (yx X T E) t)) (ha : PSs X a (sD (yx X T E) A)) (hb : PSs X b (sD (yx X T E) B)) : PS X (.If c a b pos) (sD (yx X T E) (sIf t A B)) := PS_imp (ps_if ht ha hb) fun D σ H h => by
  obtain ⟨g, ρ, z, st, o⟩ := h
  refine ⟨g, ρ, z, st, o.bind.imp fun k z1 _ h1 H1 st1 e1 => ?_⟩
  cases k with
  | true => exact ⟨g, ρ, z1, st1, OutOk.rebase h1 (.ext e1)⟩
  | false => exact ⟨g, ρ, z1, st1, OutOk.rebase h1 (.ext e1)⟩
theorem pu_ret (he : PE X e (tD (yx X T E) f)) : PS X (.Return (some e) pos) (sD (yx X T E) (sRet f)) := PS_imp (ps_ret he) fun D σ H h => by
  obtain ⟨g, ρ, z, st, o⟩ := h
  exact ⟨g, ρ, z, st, o.bind.imp fun d z1 _ h1 v H1 st1 e1 r1 => h1 v H1 st1.wog st1.ext (r1.less fun a q => .inl q)⟩
theorem pu_expr (he : PE X e (tD (yx X T E) f)) (hs : swapsWith e none pos.line X.env = pure false := by rfl) : PS X (.Expr e pos) (sD (yx X T E) (sEx f)) := PS_imp (ps_expr he hs) fun D σ H h => by
  obtain ⟨g, ρ, z, st, o⟩ := h
  exact ⟨g, ρ, z, st, o.bind.imp fun d z1 _ h1 v H1 st1 e1 r1 => h1 σ H1 st1 (.ext e1)⟩
theorem pu_bad : PS X st (sD (yx X T E) sBad) := PS_imp ps_never fun D σ H h => by
  obtain ⟨g, ρ, z, st, o⟩ := h
  exact o
theorem pu_for {body : List Stmt} (hp : PassesOwn (model X.prog X.w) X.A X.env X.xe) (hc : X.calm = true) (hi : PI X tg iter (tiD (yx X T E) fi)) (hg : PG X tg (gName i)) (hb : PSs X body (sD (yx X T E) B)) (hs : ∀ x, foldedSetIterable iter X.env x = pure x := by intro _; rfl) :
    PS X (.For tg iter body [] pos) (sD (yx X T E) (sFor i fi B)) := PS_imp (ps_for hp hc hi hg hb hs) fun D σ H h => by
  obtain ⟨g, ρ, z, st, o⟩ := h
  refine ⟨g, ρ, z, st, o.bind.imp fun l z1 _ h1 J H1 st1 e1 it => ?_⟩
  refine ⟨fun n m σ' H' => ∃ ρ' z', n + m = l.length ∧ StR (yx X T E) g H' σ' ρ' z' ∧ Stp g.R σ ρ H1 σ' ρ' H' ∧ OutOk (yx X T E) g σ' ρ' H' (forD i B (l.drop n) ρ' z') D,
    ⟨l.length, ρ, z1, Nat.zero_add _, st1, .refl, by rw [List.drop_zero]; exact OutOk.rebase h1 (.ext e1)⟩, ?_⟩
  rintro n m σ' H' ⟨ρ', z', hm, st', sp, o'⟩
  have rdl : RdLe (bad g σ ρ) H1 H' := by
    have ne : ∀ a, ¬ bad g σ ρ a → a ≠ g.R ∧ ¬ Own σ ρ a := fun a n => ⟨fun e => n (by rw [e]; exact st1.badR), fun q => n (.inr q)⟩
    refine ⟨fun a u n du r => ?_, fun a ob us n q => sp.keep a _ q (ne a n).1 (ne a n).2 (fun ps z => by cases z), fun a us n q => sp.keep a _ q (ne a n).1 (ne a n).2 (fun ps z => by cases z)⟩
    rcases r with r | ⟨ob, r⟩
    · exact .inl (sp.keep a _ r (ne a n).1 (ne a n).2 (fun ps z => by rw [z] at du; exact du))
    · exact .inr ⟨ob, sp.keep a _ r (ne a n).1 (ne a n).2 (fun ps z => by cases z)⟩
  by_cases hn : n < l.length
  · obtain ⟨xd, hxd⟩ : ∃ xd, l[n]? = some xd := ⟨_, List.getElem?_eq_getElem hn⟩
    have edrop : l.drop n = xd :: l.drop (n + 1) := by
      rw [List.drop_eq_getElem_cons hn]
      rw [List.getElem?_eq_getElem hn] at hxd
      cases hxd
      rfl
    rw [edrop] at o'
    unfold forD at o'
    cases co : ownAt ρ' i with
    | true => rw [co] at o'; exact o'.elim
    | false =>
      rw [co] at o'
      simp only [Bool.false_eq_true, if_false] at o'
      refine .inr ⟨it.go n H' rdl hn, _, fun σ'' H'' hW => ⟨m - 1, by omega, hW⟩, fun xv H'' hy => ?_⟩
      obtain ⟨rfl, d, hd, rx⟩ := it.yld n H' xv H'' rdl hn hy
      rw [hxd] at hd
      cases hd
      have sub : ∀ a, bad g σ' ρ' a → plus X.K H1 (bad g σ ρ) a := fun a q => by
        have hk := st'.badK q
        rcases q with q | q
        · exact .inl (.inl q)
        · rcases sp.own a q with q | q
          · exact .inl (.inr q)
          · exact .inr ⟨q, hk⟩
      have s2 := st'.setv co (rx.less sub)
      have sp2 : Stp g.R σ' ρ' H'' (σ'.set i (some xv)) (ρ'.set i (some (.val xd))) H'' := .setv co trivial
      refine ⟨g, ρ'.set i (some (.val xd)), z', s2, ?_⟩
      cases e : B (ρ'.set i (some (.val xd))) z' with
      | nx ρ3 z3 =>
        rw [e] at o'
        exact fun σ3 H3 st3 s3 => ⟨ρ3, z3, by omega, st3, sp.trans (sp2.trans s3), OutOk.rebase o' (sp2.trans s3)⟩
      | ct ρ3 z3 =>
        rw [e] at o'
        exact fun σ3 H3 st3 s3 => ⟨ρ3, z3, by omega, st3, sp.trans (sp2.trans s3), OutOk.rebase o' (sp2.trans s3)⟩
      | bk ρ3 z3 =>
        rw [e] at o'
        exact fun σ3 H3 st3 s3 => o' σ3 H3 st3 (sp2.trans s3)
      | rt d z3 => rw [e] at o'; exact o'
      | exc x z3 => rw [e] at o'; exact o'
      | bad => rw [e] at o'; exact o'
  · refine .inl ⟨it.stop n H' rdl (by omega), ?_⟩
    rw [List.drop_of_length_le (by omega)] at o'
    exact o' σ' H' st' .refl
end

theorem st_start {K : PySem.W.Frag} {T : Tb} {mg : Str → Option Value} {E : XK} {N : List Str} {g : G} {H : Hp} {vs : List V} {ds : List D} {z : S} (h0 : g.H0 = H) (w : Wo K T g H z) (r : Rs K H g.R g.B vs ds) : StR ⟨K, T, mg, E⟩ g H (start N vs) (rho0 N.length ds) z := by
  have noOwn : ∀ (i : Nat) (d : D), (rho0 N.length ds)[i]? ≠ some (some (.own d)) := fun i d e => by
    unfold rho0 at e
    by_cases hi : i < ds.length
    · rw [List.getElem?_append_left (by simpa using hi), List.getElem?_map] at e
      rw [List.getElem?_eq_getElem hi] at e
      cases e
    · rw [List.getElem?_append_right (by simpa using hi), List.getElem?_replicate] at e
      split at e <;> cases e
  have be : bad g (start N vs) (rho0 N.length ds) = g.B := by
    funext a
    apply propext
    exact ⟨fun q => q.elim (fun q => q) fun ⟨i, d, h1, _⟩ => absurd h1 (noOwn i d), fun q => .inl q⟩
  refine ⟨by unfold gb; rw [be]; exact w.less (fun _ q => q) w.bad, w.bad, ?_, fun i d h => ?_, fun i d h => absurd h (noOwn i d), fun i j d e a h => absurd h (noOwn i d), by rw [h0]; exact .refl⟩
  · unfold L2.start rho0
    simp only [List.length_append, List.length_map, List.length_replicate, r.length]
  · rw [be]
    unfold rho0 at h
    by_cases hi : i < ds.length
    · rw [List.getElem?_append_left (by simpa using hi), List.getElem?_map] at h
      rw [List.getElem?_eq_getElem hi] at h
      cases h
      obtain ⟨v, h1, h2⟩ := r.get (List.getElem?_eq_getElem hi)
      refine ⟨v, ?_, h2⟩
      unfold L2.start
      rw [List.getElem?_append_left (by rw [List.length_map, r.length]; exact hi), List.getElem?_map, h1] <;> rfl
    · rw [List.getElem?_append_right (by simpa using hi), List.getElem?_replicate] at h
      split at h <;> cases h
/-- the reading of a def's body -/
theorem run_read {K : PySem.W.Frag} {T : Tb} {mg : Str → Option Value} {E : XK} {N : List Str} {n : Nat} {H : Hp} {vs : List V} {Q : VK} {B : SM} (h : spD K T mg n (runD N.length B) vs H Q E) :
    sD ⟨K, T, mg, E⟩ B { nx := fun _ H' => Q .non H', rt := Q } (start N vs) H := by
  obtain ⟨hn, g, ds, z, h0, w, r, a⟩ := h
  refine ⟨g, rho0 N.length ds, z, st_start h0 w r, ?_⟩
  unfold runD at a
  cases e : B (rho0 N.length ds) z with
  | nx ρ' z' =>
    rw [e] at a
    exact fun σ' H' st s => a .non H' st.wog (by rw [← h0]; exact st.ext) (.atom .non .nil)
  | rt d z' =>
    rw [e] at a
    exact fun v H' w' ex r' => a v H' w' (by rw [← h0]; exact ex) r'
  | bk ρ' z' => rw [e] at a; exact a.elim
  | ct ρ' z' => rw [e] at a; exact a.elim
  | exc x z' => rw [e] at a; exact a
  | bad => rw [e] at a; exact a.elim
end DL
set_option Elab.async false
set_option linter.all false
set_option maxRecDepth 100000
set_option maxHeartbeats 1000000
namespace DL
open PySem PySem.Spec PyProof.Rows L2 GxR

theorem pvD {X : Cx} {T : Tb} {E : XK} (i : Nat) {x : Str} {pos : Pos} (hN : X.N[i]? = some x := by rfl) (hv : Vis X.env.scope x := by first | exact Or.inl rfl | exact Or.inr (Or.inl rfl) | exact Or.inr (Or.inr rfl)) (hd : (x == ("__debug__" : Str)) = false := by decide)
    (hcd : (x == ("__classdict__" : Str)) = false := by decide) : PE X (.Name x pos) (tD (yx X T E) (eV i)) := pu_v hN hv hd hcd

section
variable {P : Program} {w : World} {K : PySem.W.Frag} {mg : Str → Option Value} {base : Heap} {T : Tb}
/-- a def by its body -/
theorem okD {x qual : Str} {st : Stmt} {f : Addr} {fd : FuncData} {N ps : List Str} {k : Nat} {B : SM} (F : Fun K x qual st f fd) (S : FnScope N ps (defScope st))
    (der : ∀ (cdv : Value) (A : Around) (outer : List Env) (s : Shared) (H : Hp) (E : XK), Room k (A.deeper (envOfC qual (defScope st) s.heap.objs.size f cdv)) → fd.code = cdv →
      PSs (cxOf CX0 P w K mg base N qual (defScope st) f cdv A outer s H E).nox (defBody st) (sD ⟨K, T, mg, E⟩ B)) :
    FnOk P w K mg base CX0 (k + 1) f fd ps (spD K T mg ps.length (runD N.length B)) := by
  obtain ⟨oc, od, kV, doc, pm, an, cdv, ct, osl, rfl, lk, hcd⟩ := F.ex
  refine fn_of lk hcd S (fun vs H Q E h => h.1) fun A outer s H vs Q E hr hsp => ?_
  exact ⟨_, (der cdv A outer s H E hr rfl).nox, run_read hsp⟩

theorem tabIn_of {y : Str} {f c P : Addr} {o1 : Value} {o2 : Option Addr} {fd : FuncData} {o4 : Array (Option Value)} {q1 : Value} {q2 : Option Addr} {vs : Array Value} {q4 : Array (Option Value)} (a : PySem.W.nsIn K mainGlobals y = some (some (.ref f))) (l : K.lookup f = some ⟨o1, o2, .func fd, o4⟩)
    (hc : fd.code = .ref c) (lc : K.lookup c = some ⟨q1, q2, .fields vs, q4⟩) (hv : vs[11]? = some (.ref P)) : PySem.W.tabIn K y = some (c, P) := by
  unfold PySem.W.tabIn
  rw [a]
  simp only [l, hc, lc, hv]
end

/-- a module's tuple, as it is written -/
theorem wr_atom {K : PySem.W.Frag} {v : V} {d : D} (h : ∀ R, Atom R v d) : WR K v d := fun H R B _ => .atom (h R) .nil
inductive WRs (K : PySem.W.Frag) : List V → List D → Prop
  | nil : WRs K [] []
  | cons {v : V} {d : D} {vs : List V} {ds : List D} : WR K v d → WRs K vs ds → WRs K (v :: vs) (d :: ds)
theorem WRs.rs {K : PySem.W.Frag} {H : Hp} {R : Addr} {B : Addr → Prop} (hB : ∀ a, B a → K.lookup a = none) {vs : List V} {ds : List D} (h : WRs K vs ds) : Rs K H R B vs ds := by
  induction h with
  | nil => exact .nil
  | cons a _ ih => exact Rs.cons (a H R B hB) ih
theorem wr_tup {K : PySem.W.Frag} {a : Addr} {its : Array Value} {n : Nat} {sl : Array (Option Value)} {us : List V} {ds : List D} (l : K.lookup a = some ⟨.type "tuple", none, .seq its n, sl⟩) (hz : its.size ≤ sizeLine) (hv : Vals us its.toList) (h : WRs K us ds) : WR K (.ref a) (.tup ds) :=
  fun H R B hB => .tup (.inr ⟨_, its, n, l, rfl, rfl, rfl, hz, hv⟩) (fun q => by rw [hB a q] at l; cases l) (h.rs hB) .nil

/-- walk_ofTs, where the tables of the top's defs are told -/
theorem walk_D {l : PySem.W.OpenLaw} {n k : Nat} {q : Program} {loose : List Str} {XP : (Str → Option Value) → Heap → Prop} {YP : World → Heap → Prop} {d : DefRec} {K : Params → PySem.W.Frag} {CX : World → CXT} {x : Str}
    (hn : l.most = some n) (hn2 : n ≤ sizeLine) (hdf : d.params.defaults = []) (hr : Room k callerA) (hY : ∀ (w : World) (h : Heap), YP w h → (K w.params).In h)
    (F : ∀ (w : World) (mg : Str → Option Value) (fa : Addr) (h : Heap), YP w h → (K w.params).In h → h.Ns mainGlobals mg → mg d.name = some (.ref fa) →
      (∀ (y : Str) (e : DefRec) (c P : Addr), (recsOf q).find? (fun e => e.name == y) = some e → PySem.W.tabIn (K w.params) y = some (c, P) → PySem.W.CodeHd h c P ∧ h.get? P = some { cls := .none, data := .fields #[] }) → LamX.LawAtS l w (K w.params) (CX w) k n x mg fa h)
    (hCX : ∀ (w : World) (H : Hp) (s : Shared) (e : Value) (s' : Shared), CX w [] H s (fun _ _ _ => False) e s' → False) :
    PySem.W.WalkO q loose XP YP l.row.toRowW d [] (fun f vs => PySem.call f vs) := by
  refine Att.attach_callB hn hdf fun w s₀ s₁ mg mb fa o pm cd doc a vs ns G Y ho hd hcd hmg hobj hints hlen hbits hg => ?_
  have KX := hY w _ Y
  obtain ⟨fd, cs, sp, hT, nT, C, hb, hsp, hF⟩ := F w mg fa _ Y KX G.T.g hmg fun y e c P h1 h2 => PySem.W.tab_of G.T KX h1 h2
  exact LamX.law_callTs KX G.T.g G.T.b G.T.builtins G.T.nolimit hg hT nT C G.T.bmain hobj hints (Nat.le_trans hlen hn2) hr hF hb (fun H hH hS => hsp H a ns hlen hbits hH hS) fun H e s' => hCX w H s₁ e s'
end DL
set_option Elab.async false
set_option linter.all false
set_option maxRecDepth 100000
set_option maxHeartbeats 2000000
namespace EN
open PySem PySem.Spec PyProof.Rows L2
theorem meets_new1 {v : Value} {o : Obj} {H : Heap → Prop} (B : Begins v o H) :
    Meets (Builtin.«enumerate.__new__» ⟨[.type "enumerate", v], []⟩) (fun _ R s => H s.heap ∧
      R (.ok (.ret (.ref (s.heap.push o).objs.size))) { s with heap := (s.heap.push o).push { cls := .type "enumerate", data := .fields #[.none, .bool false, .ref s.heap.objs.size, rawInt 0, .none, .none] } }) :=
  .of_wp fun prog w A R s h => by
    obtain ⟨hp, g, d, tk, os⟩ := s; obtain ⟨h1, h⟩ := h
    have hsub := sub_enumerate
    have q1 : ∀ {A' : Around} {E : Value → Shared → Prop} {Q : Value → Shared → Prop}, Q (.ref hp.objs.size) ⟨hp.push o, g, d, tk, os⟩ → wpAny (model prog w) A' (pyIter v) Q E ⟨hp, g, d, tk, os⟩ :=
      fun q => B.iter prog w _ _ ⟨hp, g, d, tk, os⟩ _ h1 q
    wp_walk using q1
    refine wpAny_stack_any fun st => wpAny_pure ?_
    split
    · rename_i c _ _ _ _ _
      cases (c == Value.type "enumerate")
      · wp_walk using q1
        exact ⟨_, rfl, h⟩
      · wp_walk using q1
        exact ⟨_, rfl, h⟩
    · wp_walk using q1
      exact ⟨_, rfl, h⟩
theorem begins1 {prog : Program} {w : World} {A : Around} {E : Value → Shared → Prop} {s : Shared} {v : Value} {o : Obj} {H : Heap → Prop} {Q : Value → Shared → Prop} (B : Begins v o H) (h1 : H s.heap)
    (h : ∀ h', IsEnum h' (s.heap.objs.size + 1) s.heap.objs.size 0 .none → h'.get? s.heap.objs.size = some o → h'.objs.size = s.heap.objs.size + 2 →
      (∀ b o, s.heap.get? b = some o → h'.get? b = some o) → Q (.ref (s.heap.objs.size + 1)) { s with heap := h' }) :
    wpAny (model prog w) A (call (.type "enumerate") [v]) Q E s := by
  refine callType_new F.called_enumerate (by decide) (F.typeCall_enumerate_1 _) (F.newCall_enumerate_1 _) (fun obj => F.args_object_init_2 obj _) F.entry_enumerate_new
    (meets_new1 B) ⟨h1, ?_⟩
  have hz : (s.heap.push o).objs.size = s.heap.objs.size + 1 := Heap.size_push ..
  show _ ∧ _
  rw [hz]
  have he : IsEnum ((s.heap.push o).push { cls := .type "enumerate", data := .fields #[.none, .bool false, .ref s.heap.objs.size, rawInt 0, .none, .none] }) (s.heap.objs.size + 1) s.heap.objs.size 0 .none := by
    have := Heap.get?_push_size (s.heap.push o) (o := { cls := .type "enumerate", data := .fields #[.none, .bool false, .ref s.heap.objs.size, rawInt 0, .none, .none] }) rfl
    rw [hz] at this; exact this
  refine ⟨⟨_, he, rfl⟩, h _ he (Heap.get?_push_of_some _ (Heap.get?_push_size _ B.free)) (by rw [Heap.size_push, hz]) fun b o x => Heap.get?_push_of_some _ (Heap.get?_push_of_some _ x)⟩
/-- the tuple at a, each item in a new pair -/
def IteT (K : PySem.W.Frag) (a : Addr) : It :=
  ⟨fun i H => ∃ (xs : List V) (x : V), SqT K H a xs ∧ xs[i]? = some x, fun i H v H' => ∃ T x, v = .ref T ∧ H T = none ∧ H' = upd H T (.tup [.int (i : Nat), x]) ∧ ∀ xs, SqT K H a xs → xs[i]? = some x, fun i H => ∃ xs : List V, SqT K H a xs ∧ xs.length ≤ i⟩
theorem turn_enumT {P : Program} {w : World} {K : PySem.W.Frag} {elts : List Expr} {kk : Nat} {tpos : Pos} (a e it : Addr) (ane : a ≠ e) (ani : a ≠ it) :
    Turn P w K (.Tuple elts kk tpos) (IteT K a) [e, it] e (fun i h => (∃ old, IsEnum h e it ((i : Nat) : Int) old) ∧ h.IsTupleIter it a i ∧ e ≠ it) where
  mem := by simp
  obj := fun i h st b hb => by
    obtain ⟨⟨old, he⟩, ⟨o, ho, hc, hd⟩, _⟩ := st
    have e' : b = e ∨ b = it := by simpa using hb
    rcases e' with z | z
    · rw [z]; exact ⟨_, he, fun v q => nomatch q⟩
    · rw [z]; exact ⟨o, ho, fun v q => by rw [hd] at q; cases q⟩
  keep := fun i h h' st k => let ⟨⟨old, he⟩, hi, hne⟩ := st; ⟨⟨old, k e (by simp) _ he⟩, hi.at fun o q => k it (by simp) o q, hne⟩
  item := by
    intro X hP hw hK hc i pins s σ H E I hf st hg
    subst hP hw hK
    obtain ⟨⟨old, he⟩, hit, hne⟩ := st
    obtain ⟨xs, x, hq, hx⟩ := hg
    obtain ⟨its, rv, p, hz⟩ := I.tuple hq
    obtain ⟨u, hu, ru⟩ := rv.get hx
    have hel : e < s.heap.objs.size := Heap.lt_size he
    have hil : it < s.heap.objs.size := by obtain ⟨_, q, _⟩ := hit; exact Heap.lt_size q
    have hlt : i < its.toArray.size := by
      have := (List.getElem?_eq_some_iff.mp hu).1
      simpa using this
    refine wpAny_pyNext_enum_itemD (Draws.tuple (A := X.A.in1) (prog := X.prog) (w := X.w) (show X.A.in1.handled = none from I.ok.hd hc) it a ani its.toArray) he ⟨hit, p⟩ hlt hne (by simp; exact ⟨hne, fun q => ane q.symm⟩) fun y h' tk hy ho hst' hT hsz hk => ?_
    obtain rfl : y = u := by
      rw [show its.toArray[i]? = some u by simpa using hu] at hy
      exact (Option.some.inj hy).symm
    refine ⟨_, rfl, wpAny_letOwnedTupleGo_enum (s := { s with heap := h', toks := tk + 1 }) ho fun h'' he' sb => ?_⟩
    have hT2 : h''.get? s.heap.objs.size = some { cls := .type "tuple", data := .seq #[.int i tk, y] } := (sb.2 _ (Nat.ne_of_gt hel)).trans hT
    have new : ObjOk X.prog X.w (upd H s.heap.objs.size (.tup [.int (i : Nat), x])) h'' s.heap.objs.size (.tup [.int (i : Nat), x]) :=
      ⟨by show 2 ≤ sizeLine; decide, [.int i tk, y], .cons ⟨_, rfl⟩ (.cons ru .nil), ⟨_, hT2, rfl, _, rfl⟩⟩
    have I1 : Inv X pins σ (upd H s.heap.objs.size (.tup [.int (i : Nat), x])) { s with heap := h'', toks := tk + 1 } :=
      I.turnedNew (ch := [e, it]) (fun b o hb q => (sb.2 b (fun z => hb (by simp [z]))).trans (hk b o (fun z => hb (by simp [z])) (fun z => hb (by simp [z])) q)) hf (Nat.le_refl _) new
    refine ⟨.ref s.heap.objs.size, _, I1, rfl, ⟨_, x, rfl, I.hok.fresh (Nat.le_refl _), rfl, fun ys hy => by rw [I.tuple_inj hy hq]; exact hx⟩, ⟨⟨y, ?_⟩, hst'.1.at fun o q => (sb.2 it (Ne.symm hne)).trans q, hne⟩, fun b hb => ?_⟩
    · have e1 : ((i + 1 : Nat) : Int) = (i : Int) + 1 := by omega
      rw [e1]; exact he'
    · have hb' : b < s.heap.objs.size := by
        have e' : b = e ∨ b = it := by simpa using hb
        rcases e' with z | z
        · rw [z]; exact hel
        · rw [z]; exact hil
      rw [upd_ne (Nat.ne_of_lt hb')]
      exact (hf b hb).1
  done := by
    intro X hP hw hK hc i pins s σ H E I hf st hg
    subst hP hw hK
    obtain ⟨⟨old, he⟩, hit, hne⟩ := st
    obtain ⟨xs, hq, hx⟩ := hg
    obtain ⟨its, rv, p, hz⟩ := I.tuple hq
    obtain ⟨f0, f1, f2, f3, f4, f5⟩ := hf it (by simp)
    have hl := rv.length
    have hT : s.TypeIs (.ref e) "enumerate" := ⟨_, he, rfl⟩
    unfold pyNext
    refine wpAny_bind (wpAny_attempt (wpAny_callSpecial?_slot (name := Str.ofString "__next__") hT F.slot_enumerate_next
      (wpAny_call_entry F.slot_enumerate_next hT F.entry_enumerate_next ?_ (F.args_enumerate_next_1 _))))
    show wpAny _ _ (field (.ref e) 2 >>= _) _ _ _
    refine wpAny_bind (wpAny_field he rfl (x := .ref it) rfl ?_)
    refine wpAny_bind (wpAny_nextOf_tuple_end (i := i) (t := a) (items := its.toArray) (I.ok.hd hc) hit p (by simp; omega) fun h' x he' hx' => ?_)
    obtain ⟨o, ho, hc⟩ := hx'
    refine wpAny_bind (wpAny_isInstance (T := "StopIteration") (b := true) ⟨o, ho, hc⟩ isSubtype_stop ?_)
    exact wpAny_pure ⟨rfl, I.turned (t' := s.toks) (fun b o hb q => he' b o hb q) f0 f1 f3 f4 f5⟩
  self := fun A i s Q E st h => let ⟨⟨_, he⟩, _⟩ := st; wpAny_pyIter_enum he h
def iEnumT (K : PySem.W.Frag) (ta : TA) : TI := fun σ H R => ta σ H fun vs H1 => ∃ a xs, vs = [.ref a] ∧ SqT K H1 a xs ∧ R (IteT K a) H1
theorem pi_enumT {X : Cx} {e : Expr} {te : TA} {p pos tpos : Pos} {elts : List Expr} {kk : Nat} (hg : Gl X "enumerate") (hm : X.mg "enumerate" = none) (ha : PA X [e] te) (hs : starEach [e] X.env = [(false, eval e X.env)] := by rfl) :
    PI X (.Tuple elts kk tpos) (.Call (.Name "enumerate" p) [e] [] pos) (iEnumT X.K te) := by
  refine ⟨fun pins s σ H R I h => ?_⟩
  refine Call_ (ld_blt I hg hm boot_enumerate (PyProof.Rows.callWith_type1 (thn (ha.run pos pins s σ H _ I h) fun us s1 ⟨vs, H1, I1, r1, q1⟩ => ?_) hs rfl))
  obtain ⟨a, xs, ex, hq, q⟩ := q1
  subst ex
  cases r1 with
  | cons r rr =>
    cases rr
    cases r
    obtain ⟨its, rv, p', hz⟩ := I1.tuple hq
    have p'' := p'
    obtain ⟨o, ho, _⟩ := p''
    have hlt : a < s1.heap.objs.size := Heap.lt_size ho
    refine begins1 (begins_tuple a its.toArray) p' fun h' he hit hsz hk => wpAny_pyIter_enum he ?_
    have I2 : Inv X pins σ H1 { s1 with heap := h' } := I1.kept (t' := s1.toks) hk
    refine ⟨s1.heap.objs.size + 1, [s1.heap.objs.size + 1, s1.heap.objs.size], _, _, H1, rfl, I2, turn_enumT a (s1.heap.objs.size + 1) s1.heap.objs.size (Nat.ne_of_lt (Nat.lt_succ_of_lt hlt)) (Nat.ne_of_lt hlt), ⟨⟨.none, he⟩, ⟨_, hit, rfl, rfl⟩, Nat.succ_ne_self _⟩, fun b hb => ?_, q⟩
    have e' : b = s1.heap.objs.size + 1 ∨ b = s1.heap.objs.size := by simpa using hb
    have hle : s1.heap.objs.size ≤ b := by
      rcases e' with z | z
      · rw [z]; exact Nat.le_add_right _ _
      · rw [z]; exact Nat.le_refl _
    exact I1.fpOk hle (I1.hok.fresh hle)
end EN
set_option Elab.async false
set_option linter.all false
set_option maxRecDepth 100000
set_option maxHeartbeats 1000000
namespace DL
open PySem PySem.Spec PyProof.Rows L2

def eChain (F F' : D → D → M D) (fa fb fc : EnD → M D) : EnD → M D := fun ρ => mbind (fa ρ) fun x => mbind (fb ρ) fun y => mbind (F x y) fun r => mbind (mopt (asB r)) fun k =>
  if k then mbind (fc ρ) fun w => F' y w else mpure (.bl false)
def tyD : D → Option String
  | .non => some "NoneType"
  | .bl _ => some "bool"
  | .int _ => some "int"
  | .str _ => some "str"
  | .tup _ => some "tuple"
  | .wt _ => some "tuple"
  | .lst _ => some "list"
  | .dS _ => some "dict"
  | _ => none
def isK (t c : String) : Bool := t == c || (t == "bool" && c == "int")
def isiD (cs : List String) (d : D) : Option D := (tyD d).map fun t => .bl (cs.any (isK t))
def sPar (i j : Nat) (fa fb : EnD → M D) : SM := fun ρ z => obind (evs [fa, fb] ρ z) fun ds z' => match ds with
  | [a, b] => if ownAt ρ i || ownAt ρ j then .bad else .nx ((ρ.set i (some (.val a))).set j (some (.val b))) z'
  | _ => .bad

section
variable {X : L2.Cx} {T : Tb} {E : XK} {e a b c : Expr} {f fa fb fc : EnD → M D} {pos pos' p : Pos} {σ : L2.St} {H : Hp} {Q : VK} {x y : Str} {i j : Nat}
def mulI : D → D → Option D
  | .int i, .int j => if (-(2 ^ 64) < i ∧ i < 2 ^ 64) ∨ (-(2 ^ 64) < j ∧ j < 2 ^ 64) then some (.int (i * j)) else none
  | _, _ => none
theorem od_mulI : OpD X T E (binaryOp .Mult) (op2 mulI) := opD_flat fun H R B v w d e r Q rv rw' h q => by
  unfold mulI at h
  split at h
  · split at h
    · rename_i c; cases h; cases rv.int; cases rw'.int; exact ⟨_, op_mul, _, _, rfl, rfl, c, q _ .int⟩
    · cases h
  · cases h
theorem chain_imp {op op' : CmpOp} {F F' : D → D → M D} (hop : OpD X T E (compareOp op) F) (hop' : OpD X T E (compareOp op') F') (h : tD (yx X T E) (eChain F F' fa fb fc) σ H Q) :
    tChain (rOp X (compareOp op)) (rOp X (compareOp op')) (tD (yx X T E) fa) (tD (yx X T E) fb) (tD (yx X T E) fc) σ H Q := by
  obtain ⟨g, ρ, z, st, h⟩ := h
  refine ⟨g, ρ, z, st, h.bind.imp fun d1 z1 _ h1 v1 H1 st1 e1 r1 => ⟨g, ρ, z1, st1, h1.bind.imp fun d2 z2 _ h2 v2 H2 st2 e2 r2 => ?_⟩⟩
  refine hop g H2 σ ρ z2 v1 v2 d1 d2 _ st2 (r1.mono (e2.rd st1.badR)) r2 (h2.bind.imp fun d3 z3 _ h3 v3 H3 st3 e3 r3 => ?_)
  obtain ⟨k, hk, h4⟩ := h3.bind.opt
  obtain rfl : d3 = .bl k := by cases d3 <;> simp_all [asB]
  cases r3.bl
  refine ⟨k, rfl, ?_⟩
  cases k with
  | false =>
    rw [if_neg Bool.false_ne_true] at h4 ⊢
    exact h4.pure _ H3 st3 (e1.trans (e2.trans e3)) (.atom .bl .nil)
  | true =>
    rw [if_pos rfl] at h4 ⊢
    refine ⟨g, ρ, z3, st3, h4.bind.imp fun d4 z4 _ h5 v4 H4 st4 e4 r4 => ?_⟩
    exact hop' g H4 σ ρ z4 v2 v4 d2 d4 Q st4 ((r2.mono (e3.rd st2.badR)).mono (e4.rd st3.badR)) r4 (h5.imp fun d5 z5 _ h6 v5 H5 st5 e5 r5 => h6 v5 H5 st5 (e1.trans (e2.trans (e3.trans (e4.trans e5)))) r5)
theorem pt_chain {op op' : CmpOp} {F F' : D → D → M D} (hop : OpD X T E (compareOp op) F) (hop' : OpD X T E (compareOp op') F') (ha : PE X a (tD (yx X T E) fa)) (hb : PE X b (tD (yx X T E) fb)) (hc : PE X c (tD (yx X T E) fc))
    (hm : lastMarks [op, op'] [b, c] = false := by with_unfolding_all rfl) : PT X (.Compare a [op, op'] [b, c] pos) (ttD (yx X T E) (tV (eChain F F' fa fb fc))) :=
  PT_imp (L2.pt_chain opOp opOp ha hb hc hm) fun σ H Q h => chain_imp hop hop' (tV_imp h)

theorem par_read {D' : Ends} (h : sD (yx X T E) (sPar i j fa fb) D' σ H) : taD (yx X T E) (evs [fa, fb]) σ H fun vs H1 => ∃ v w g ρ d e z', vs = [v, w] ∧ StR (yx X T E) g H1 σ ρ z' ∧ R1 X.K H1 g.R (bad g σ ρ) v d ∧ R1 X.K H1 g.R (bad g σ ρ) w e ∧ ownAt ρ i = false ∧ ownAt ρ j = false ∧
    ∀ σ' H', StR (yx X T E) g H' σ' ((ρ.set i (some (.val d))).set j (some (.val e))) z' → Stp g.R σ ρ H1 σ' ((ρ.set i (some (.val d))).set j (some (.val e))) H' → D'.nx σ' H' := by
  obtain ⟨g, ρ, z, st, o⟩ := h
  refine ⟨g, ρ, z, st, o.bind.imp fun ds z1 he h1 vs H1 st1 e1 r1 => ?_⟩
  have hl := evs_length he
  obtain ⟨d, e, rfl⟩ : ∃ d e, ds = [d, e] := by
    match ds, hl with
    | [d, e], _ => exact ⟨d, e, rfl⟩
  simp only at h1
  obtain ⟨v, w, rfl⟩ : ∃ v w, vs = [v, w] := by
    have := r1.length
    match vs, this with
    | [v, w], _ => exact ⟨v, w, rfl⟩
  cases c1 : ownAt ρ i with
  | true => simp only [c1, Bool.true_or, if_true] at h1; exact h1.elim
  | false =>
    cases c2 : ownAt ρ j with
    | true => simp only [c1, c2, Bool.false_or, if_true] at h1; exact h1.elim
    | false =>
      simp only [c1, c2, Bool.or_self, Bool.false_eq_true, if_false] at h1
      exact ⟨v, w, g, ρ, d, e, z1, rfl, st1, r1.split.1, r1.split.2, c1, c2, fun σ' H' s sp => h1 σ' H' s ((Stp.ext e1).trans sp)⟩
theorem set2 {g : G} {ρ : EnD} {z : S} {v w : V} {d e : D} {H : Hp} (st : StR (yx X T E) g H σ ρ z) (c1 : ownAt ρ i = false) (c2 : ownAt ρ j = false) (rv : R1 X.K H g.R (bad g σ ρ) v d) (rw' : R1 X.K H g.R (bad g σ ρ) w e) :
    StR (yx X T E) g H ((σ.set i (some v)).set j (some w)) ((ρ.set i (some (.val d))).set j (some (.val e))) z ∧ Stp g.R σ ρ H ((σ.set i (some v)).set j (some w)) ((ρ.set i (some (.val d))).set j (some (.val e))) H := by
  have s1 := st.setv c1 rv
  have c3 : ownAt (ρ.set i (some (.val d))) j = false := by rw [ownAt_set c1 (y := some (.val d)) trivial]; exact c2
  exact ⟨s1.setv c3 (by rw [bad_setv c1]; exact rw'), (Stp.setv c1 (y := some (.val d)) trivial).trans (.setv c3 trivial)⟩
/-- a, b = .., plain local names -/
theorem pu_par {px py pt : Pos} {kt k2} {pt2 : Pos} (hc : X.calm = true) (hN : X.N.Nodup) (hi : X.N[i]? = some x) (hj : X.N[j]? = some y) (hij : i ≠ j)
    (hx : X.env.scope.names.lookup x = some .local) (hy : X.env.scope.names.lookup y = some .local) (ha : PA X [a, b] (taD (yx X T E) (evs [fa, fb])))
    (hw : swappedStores [.Tuple [.Name x px, .Name y py] kt pt] (.Tuple [a, b] k2 pt2) X.env = pure (some [x, y]))
    (hs : swapsWithSole [.Tuple [.Name x px, .Name y py] kt pt] (.Tuple [a, b] k2 pt2) pos.line X.env = pure false := by rfl) :
    PS X (.Assign [.Tuple [.Name x px, .Name y py] kt pt] (.Tuple [a, b] k2 pt2) pos) (sD (yx X T E) (sPar i j fa fb)) := PS_imp (ps_par hc hN hi hj hij hx hy ha hw hs) fun D' σ H h => ta_mono (par_read h) fun vs H1 ⟨v, w, g, ρ, d, e, z', ev, st, rv, rw', c1, c2, q⟩ => by
  obtain ⟨s2, sp⟩ := set2 st c1 c2 rv rw'
  exact ⟨v, w, ev, q _ H1 s2 sp⟩
/-- a, b = .., the pair made and taken apart -/
theorem pu_unp {px py pt : Pos} {kt : Nat} {k2} {pt2 : Pos} (hc : X.calm = true) (gi : PG X (.Name x px) (gName i)) (gj : PG X (.Name y py) (gName j)) (ha : PA X [a, b] (taD (yx X T E) (evs [fa, fb])))
    (hw : swappedStores [.Tuple [.Name x px, .Name y py] kt pt] (.Tuple [a, b] k2 pt2) X.env = pure none := by rfl)
    (hs : swapsWithSole [.Tuple [.Name x px, .Name y py] kt pt] (.Tuple [a, b] k2 pt2) pos.line X.env = pure false := by rfl) :
    PS X (.Assign [.Tuple [.Name x px, .Name y py] kt pt] (.Tuple [a, b] k2 pt2) pos) (sD (yx X T E) (sPar i j fa fb)) := PS_imp (ps_asg (pe_tupF ha) (pg_tup (n := 2) hc (pgs_cons gi (pgs_cons gj pgs_nil))) hs hw) fun D' σ H h => ta_mono (par_read h) fun vs H1 ⟨v, w, g, ρ, d, e, z', ev, st, rv, rw', c1, c2, q⟩ => by
  subst ev
  refine ⟨small_len (n := 2) (by decide), fun p ob hp hd => ?_⟩
  have rd := (Ext.new (R := g.R) (o := .frz ob (.tup [v, w])) hp).rd st.badR
  obtain ⟨s2, sp⟩ := set2 (st.new hp) c1 c2 (rv.mono rd) (rw'.mono rd)
  exact ⟨p, [v, w], rfl, .inl (.inr ⟨ob, upd_same⟩), rfl, v, [w], rfl, w, [], rfl, rfl, q _ _ s2 ((Stp.ext (.new hp)).trans sp)⟩

theorem kit_all : ∀ a ∈ ["NoneType", "bool", "int", "str", "tuple", "list", "dict"], ∀ b ∈ ["bool", "int", "str", "tuple", "list"], kitB a b = some (isK a b) := by decide +kernel
theorem kit_any {K : PySem.W.Frag} {t : String} (ht : t ∈ ["NoneType", "bool", "int", "str", "tuple", "list", "dict"]) : ∀ {cs : List String}, (∀ c ∈ cs, c ∈ ["bool", "int", "str", "tuple", "list"]) → PySem.W.kitAny K (.type t) (cs.map Value.type) = some (cs.any (isK t))
  | [], _ => kitAny_nil
  | c :: cs, h => by
    have h1 : PySem.W.kitOne K (.type t) (.type c) = some (isK t c) := kit_ty (kit_all t ht c (h c (List.mem_cons_self ..)))
    have h2 := kit_any (K := K) ht (cs := cs) (fun c' hc => h c' (List.mem_cons_of_mem _ hc))
    rw [List.map_cons, List.any_cons]
    cases e : isK t c with
    | true => rw [Bool.true_or]; exact kitAny_cons h1 (r := true) (fun z => by rw [e] at z; cases z) (fun _ => rfl)
    | false =>
      rw [Bool.false_or]
      exact kitAny_cons h1 (fun _ => h2) (fun z => by rw [e] at z; cases z)
theorem tyx_of {K : PySem.W.Frag} {H : Hp} {R : Addr} {B : Addr → Prop} {v : V} {d : D} {t : String} (r : R1 K H R B v d) (h : tyD d = some t) : TyX K H v (.type t) ∧ t ∈ ["NoneType", "bool", "int", "str", "tuple", "list", "dict"] := by
  cases d <;> simp only [tyD, reduceCtorEq, Option.some.injEq] at h
  all_goals subst h
  case non => cases r.non; exact ⟨.base .non, by decide⟩
  case bl => cases r.bl; exact ⟨.base (.bl _), by decide⟩
  case int => cases r.int; exact ⟨.base (.int _), by decide⟩
  case str => cases r.str; exact ⟨.base (.str _), by decide⟩
  case tup =>
    obtain ⟨a, us, rfl, s, n, rs⟩ := r.tupl
    refine ⟨?_, by decide⟩
    rcases s with ⟨o, h, _⟩ | ⟨o, its, m, h, c, _⟩
    · exact .fTuple h
    · exact .kTuple h c
  case wt =>
    refine ⟨?_, by decide⟩
    cases r with
    | atom a _ => cases a
    | wt s n r _ =>
      rcases s with (h | ⟨o, h⟩) | ⟨o, its, m, h, c, _⟩
      · exact .base (.tup h)
      · exact .fTuple h
      · exact .kTuple h c
  case lst =>
    obtain ⟨a, us, rfl, s, n, rs⟩ := r.list
    exact ⟨.base (.lst s), by decide⟩
  case dS =>
    obtain ⟨a, kvs, rfl, s, n, rs⟩ := r.dictS
    refine ⟨?_, by decide⟩
    rcases s with s | ⟨o, s⟩
    · exact .base (.dK s)
    · exact .fDict s
/-- names of types -/
structure BT (X : L2.Cx) (es : List Expr) (cs : List String) : Prop where
  run : PA X es fun _ H Q => Q (cs.map V.ty) H
theorem bt_nil : BT X [] [] := ⟨pa_nil⟩
theorem bt_cons {x : Str} {px : Pos} {n : String} {es : List Expr} {cs : List String} (hg : Gl X x) (hm : X.mg x = none) (hv : bootBuiltins x = some (.type n)) (h : BT X es cs) (hn : x ≠ "__name__" := by decide) (hd : (x == ("__debug__" : Str)) = false := by decide)
    (hs : starEach (.Name x px :: es) X.env = (false, eval (.Name x px) X.env) :: starEach es X.env := by rfl) : BT X (.Name x px :: es) (n :: cs) :=
  ⟨PA_imp (pa_cons (pe_bltn (v := .ty n) hg hm hv rfl hn hd) h.run hs) fun σ H Q q => q⟩
theorem pair_ty : ∀ cs : List String, Paired ClsV (cs.map V.ty) (cs.map Value.type)
  | [] => .nil
  | c :: cs => .cons (.ty c) (pair_ty cs)
theorem pu_isi {cs : List String} {es : List Expr} {x1} {pt : Pos} (hg : Gl X "isinstance") (hm : X.mg "isinstance" = none) (ha : PE X a (tD (yx X T E) fa)) (hc : BT X es cs) (hcs : ∀ c ∈ cs, c ∈ ["bool", "int", "str", "tuple", "list"] := by decide) (hl : cs.length ≤ 10000 := by decide)
    (hs : starEach [a, .Tuple es x1 pt] X.env = (false, eval a X.env) :: starEach [.Tuple es x1 pt] X.env := by rfl) (hs2 : starEach [.Tuple es x1 pt] X.env = (false, eval (.Tuple es x1 pt) X.env) :: starEach [] X.env := by rfl)
    (hpl : (backTo pos (starEach [.Tuple es x1 pt] X.env)).any (·.1) = false := by rfl) : PE X (.Call (.Name "isinstance" p) [a, .Tuple es x1 pt] [] pos) (tD (yx X T E) (e1 (op1 (isiD cs)) fa)) :=
  PE_imp (pe_callB call_isiT hg hm PyProof.Rows.boot_isinstance (pa_cons ha (pa_cons (pe_tup hc.run) pa_nil hs2) hs) (by decide) (by decide) hs hpl) fun σ H Q h => by
    obtain ⟨g, ρ, z, st, a⟩ := tD_bind (k := fun _ => op1 (isiD cs)) h
    refine ⟨g, ρ, z, st, a.imp fun d z1 _ h1 v H1 st1 e1 r1 => ?_⟩
    obtain ⟨g2, ρ2, z2, d2, st2, r2, a2⟩ := h1 v H1 st1 e1 r1
    obtain ⟨r, hr, q⟩ := a2.opt
    obtain ⟨t, ht, rfl⟩ := Option.map_eq_some_iff.mp hr
    refine ⟨by rw [List.length_map]; exact small_len hl, fun tp ht' => ?_⟩
    have ex : Ext g2.R H1 (upd H1 tp (.tup (cs.map V.ty))) := .new ht'
    have st3 := st2.new (o := .tup (cs.map V.ty)) ht'
    obtain ⟨ty, hin⟩ := tyx_of (r2.mono (ex.rd st2.badR)) ht
    exact ⟨v, tp, _, _, _, _, rfl, upd_same, pair_ty cs, ty, kit_any hin hcs, q _ _ st3 ex (.atom .bl .nil)⟩
theorem pu_isi1 {c : Str} {n : String} {pc : Pos} (hg : Gl X "isinstance") (hm : X.mg "isinstance" = none) (ha : PE X a (tD (yx X T E) fa)) (hgc : Gl X c) (hmc : X.mg c = none) (hv : bootBuiltins c = some (.type n)) (hcs : n ∈ ["bool", "int", "str", "tuple", "list"] := by decide) (hn : c ≠ "__name__" := by decide) (hd : (c == ("__debug__" : Str)) = false := by decide)
    (hs : starEach [a, .Name c pc] X.env = (false, eval a X.env) :: starEach [.Name c pc] X.env := by rfl) (hs2 : starEach [.Name c pc] X.env = (false, eval (.Name c pc) X.env) :: starEach [] X.env := by rfl)
    (hpl : (backTo pos (starEach [.Name c pc] X.env)).any (·.1) = false := by rfl) : PE X (.Call (.Name "isinstance" p) [a, .Name c pc] [] pos) (tD (yx X T E) (e1 (op1 (isiD [n])) fa)) :=
  PE_imp (pe_callB call_isi hg hm PyProof.Rows.boot_isinstance (pa_cons ha (pa_cons (pe_bltn (v := .ty n) hgc hmc hv rfl hn hd) pa_nil hs2) hs) (by decide) (by decide) hs hpl) fun σ H Q h => by
    obtain ⟨g, ρ, z, st, a⟩ := tD_bind (k := fun _ => op1 (isiD [n])) h
    refine ⟨g, ρ, z, st, a.imp fun d z1 _ h1 v H1 st1 e1 r1 => ?_⟩
    obtain ⟨g2, ρ2, z2, d2, st2, r2, a2⟩ := h1 v H1 st1 e1 r1
    obtain ⟨r, hr, q⟩ := a2.opt
    obtain ⟨t, ht, rfl⟩ := Option.map_eq_some_iff.mp hr
    obtain ⟨ty, hin⟩ := tyx_of r2 ht
    have hk : PySem.W.kitOne X.K (.type t) (.type n) = some (isK t n) := kit_ty (kit_all t hin n hcs)
    refine ⟨v, .ty n, _, _, _, rfl, .ty n, ty, hk, ?_⟩
    have := q _ H1 st2 .refl (.atom .bl .nil)
    simpa using this
end
end DL
set_option Elab.async false
set_option linter.all false
set_option maxRecDepth 100000
set_option maxHeartbeats 1000000
namespace DL
open PySem PySem.Spec PyProof.Rows L2 EN

def Yn (H H' : Hp) : Prop := H' = H ∨ ∃ p us, H p = none ∧ H' = upd H p (.tup us)
theorem Yn.ext {R : Addr} {H H' : Hp} (y : Yn H H') : Ext R H H' := by
  rcases y with rfl | ⟨p, us, hp, rfl⟩
  · exact .refl
  · exact .new hp
theorem Yn.st {Y : Yx} {g : G} {H H' : Hp} {σ : L2.St} {ρ : EnD} {z : S} (y : Yn H H') (st : StR Y g H σ ρ z) : StR Y g H' σ ρ z := by
  rcases y with rfl | ⟨p, us, hp, rfl⟩
  · exact st
  · exact st.new hp
/-- an iterator that hands out pairs -/
structure ItE (K : PySem.W.Frag) (R : Addr) (B : Addr → Prop) (H1 : Hp) (J : It) (xs : List (D × D)) : Prop where
  go : ∀ i H, RdLe B H1 H → i < xs.length → J.go i H
  yld : ∀ i H x H', RdLe B H1 H → i < xs.length → J.yld i H x H' → Yn H H' ∧ ∃ d a va vb, xs[i]? = some d ∧ x = .ref a ∧ SqT K H' a [va, vb] ∧ R1 K H' R (plus K H1 B) va d.1 ∧ R1 K H' R (plus K H1 B) vb d.2
  stop : ∀ i H, RdLe B H1 H → xs.length ≤ i → J.stop i H
def tiE (Y : Yx) (f : EnD → M (List (D × D))) : TI := fun σ H R => ∃ g ρ z, StR Y g H σ ρ z ∧ After Y g (f ρ z) fun xs z' => ∀ J H1, StR Y g H1 σ ρ z' → Ext g.R H H1 → ItE Y.K g.R (bad g σ ρ) H1 J xs → R J H1
def pairOf : D → Option (D × D)
  | .tup [a, b] => some (a, b)
  | .wt [a, b] => some (a, b)
  | _ => none
def forP (i j : Nat) (body : SM) : List (D × D) → SM
  | [], ρ, z => .nx ρ z
  | (a, b) :: xs, ρ, z => if ownAt ρ i || ownAt ρ j then .bad else match body ((ρ.set i (some (.val a))).set j (some (.val b))) z with
      | .nx ρ' z' => forP i j body xs ρ' z'
      | .ct ρ' z' => forP i j body xs ρ' z'
      | .bk ρ' z' => .nx ρ' z'
      | o => o
def sForP (i j : Nat) (xs : EnD → M (List (D × D))) (body : SM) : SM := fun ρ z => obind (xs ρ z) fun l z' => forP i j body l ρ z'
def enumD : Nat → List D → List (D × D)
  | _, [] => []
  | k, x :: r => (.int k, x) :: enumD (k + 1) r
def iEn (f : EnD → M D) : EnD → M (List (D × D)) := fun ρ => mbind (f ρ) fun d => mopt ((asT d).map (enumD 0))
theorem enumD_len : ∀ (k : Nat) (xs : List D), (enumD k xs).length = xs.length
  | _, [] => rfl
  | k, x :: r => by unfold enumD; rw [List.length_cons, List.length_cons, enumD_len]
theorem enumD_get : ∀ (k : Nat) (xs : List D) (i : Nat) (x : D), xs[i]? = some x → (enumD k xs)[i]? = some (.int ((k + i : Nat) : Int), x)
  | _, [], _, _, h => by simp at h
  | k, y :: r, 0, x, h => by simp at h; subst h; rfl
  | k, y :: r, i + 1, x, h => by
    unfold enumD
    have := enumD_get (k + 1) r i x (by simpa using h)
    rw [List.getElem?_cons_succ, this]
    congr 4
    omega
/-- a list, a tuple of pairs -/
def iPr (f : EnD → M D) : EnD → M (List (D × D)) := fun ρ => mbind (f ρ) fun d => mopt ((items d).bind fun xs => xs.mapM pairOf)

section
variable {X : L2.Cx} {T : Tb} {E : XK} {A B : SM} {f fa fb : EnD → M D} {fi : EnD → M (List (D × D))} {e a b tg iter : Expr} {pos pos' p : Pos} {σ : L2.St} {H : Hp} {Q : VK} {x y : Str} {i j : Nat}
theorem RdLe.new {B : Addr → Prop} {H : Hp} {p : Addr} {o : HO} (hp : H p = none) : RdLe B H (upd H p o) := by
  refine ⟨fun a u n du r => ?_, fun a ob us n e => by rw [upd_ne (ne_of_none e hp)]; exact e, fun a us n e => by rw [upd_ne (ne_of_none e hp)]; exact e⟩
  rcases r with r | ⟨ob, r⟩
  · exact .inl (by rw [upd_ne (ne_of_none r hp)]; exact r)
  · exact .inr ⟨ob, by rw [upd_ne (ne_of_none r hp)]; exact r⟩
theorem ite_enum {K : PySem.W.Frag} {R a : Addr} {B : Addr → Prop} {H1 : Hp} {us : List V} {xs : List D} (h : SqT K H1 a us) (n : ¬ B a) (r : Rs K H1 R B us xs) : ItE K R B H1 (IteT K a) (enumD 0 xs) where
  go := fun i H rd hi => by
    have h2 := rd.sqT n h
    obtain ⟨v, h3, _⟩ := r.get (List.getElem?_eq_getElem (by rw [← enumD_len 0]; exact hi))
    exact ⟨us, v, h2, h3⟩
  yld := fun i H x H' rd hi hy => by
    obtain ⟨p, y, rfl, hp, rfl, hx⟩ := hy
    have h3 := hx us (rd.sqT n h)
    obtain ⟨d, h4, h5⟩ := r.dom.getV h3
    refine ⟨.inr ⟨p, _, hp, rfl⟩, _, p, _, _, enumD_get 0 xs i d h4, rfl, .inl (.inl upd_same), ?_, (h5.mono (rd.mono fun a z => .inl z)).mono (RdLe.new hp)⟩
    rw [Nat.zero_add]
    exact .atom .int .nil
  stop := fun i H rd hi => ⟨us, rd.sqT n h, by rw [r.length, ← enumD_len 0]; exact hi⟩
theorem pu_iEn {elts : List Expr} {kk : Nat} {tpos : Pos} (hg : Gl X "enumerate") (hm : X.mg "enumerate" = none) (ha : PE X a (tD (yx X T E) fa)) (hs : starEach [a] X.env = [(false, eval a X.env)] := by rfl) :
    PI X (.Tuple elts kk tpos) (.Call (.Name "enumerate" p) [a] [] pos) (tiE (yx X T E) (iEn fa)) := PI_imp (pi_enumT hg hm (pa_cons ha pa_nil hs) hs) fun σ H R h => by
  obtain ⟨g, ρ, z, st, h⟩ := h
  refine ⟨g, ρ, z, st, h.bind.imp fun d z1 _ h1 v H1 st1 e1 r1 => ?_⟩
  obtain ⟨ps, hp, q⟩ := h1.opt
  obtain ⟨xs, hx, rfl⟩ := Option.map_eq_some_iff.mp hp
  obtain rfl : d = .tup xs := by cases d <;> simp_all [asT]
  obtain ⟨a, us, rfl, s, n, rs⟩ := r1.tupl
  exact ⟨a, us, rfl, s.sq, q _ H1 st1 e1 (ite_enum s.sq n rs)⟩
/-- for a, b in .. -/
theorem pu_forP {ea eb : Expr} {kk : Nat} {tpos : Pos} {body : List Stmt} (hp : PassesOwn (model X.prog X.w) X.A X.env X.xe) (hc : X.calm = true) (hi : PI X (.Tuple [ea, eb] kk tpos) iter (tiE (yx X T E) fi)) (ga : PG X ea (gName i)) (gb : PG X eb (gName j)) (hb : PSs X body (sD (yx X T E) B)) (hs : ∀ x, foldedSetIterable iter X.env x = pure x := by intro _; rfl)
    (hn : (assignEach [ea, eb] X.env).length = 2 := by rfl) (hst : (assignEach [ea, eb] X.env).findIdx? (·.1) = none := by rfl)
    (h1 : (assignEach [ea, eb] X.env).map (·.2) = assign ea X.env :: (assignEach [eb] X.env).map (·.2) := by rfl) (h2 : (assignEach [eb] X.env).map (·.2) = assign eb X.env :: (assignEach [] X.env).map (·.2) := by rfl) :
    PS X (.For (.Tuple [ea, eb] kk tpos) iter body [] pos) (sD (yx X T E) (sForP i j fi B)) := PS_imp (ps_for hp hc hi (pg_tup (n := 2) hc (pgs_cons ga (pgs_cons gb pgs_nil h2) h1) hn hst) hb hs) fun D σ H h => by
  obtain ⟨g, ρ, z, st, o⟩ := h
  refine ⟨g, ρ, z, st, o.bind.imp fun l z1 _ h1 J H1 st1 e1 it => ?_⟩
  refine ⟨fun n m σ' H' => ∃ ρ' z', n + m = l.length ∧ StR (yx X T E) g H' σ' ρ' z' ∧ Stp g.R σ ρ H1 σ' ρ' H' ∧ OutOk (yx X T E) g σ' ρ' H' (forP i j B (l.drop n) ρ' z') D,
    ⟨l.length, ρ, z1, Nat.zero_add _, st1, .refl, by rw [List.drop_zero]; exact OutOk.rebase h1 (.ext e1)⟩, ?_⟩
  rintro n m σ' H' ⟨ρ', z', hm, st', sp, o'⟩
  have rdl : RdLe (bad g σ ρ) H1 H' := by
    have ne : ∀ a, ¬ bad g σ ρ a → a ≠ g.R ∧ ¬ Own σ ρ a := fun a n => ⟨fun e => n (by rw [e]; exact st1.badR), fun q => n (.inr q)⟩
    refine ⟨fun a u n du r => ?_, fun a ob us n q => sp.keep a _ q (ne a n).1 (ne a n).2 (fun ps z => by cases z), fun a us n q => sp.keep a _ q (ne a n).1 (ne a n).2 (fun ps z => by cases z)⟩
    rcases r with r | ⟨ob, r⟩
    · exact .inl (sp.keep a _ r (ne a n).1 (ne a n).2 (fun ps z => by rw [z] at du; exact du))
    · exact .inr ⟨ob, sp.keep a _ r (ne a n).1 (ne a n).2 (fun ps z => by cases z)⟩
  by_cases hn : n < l.length
  · obtain ⟨⟨xa, xb⟩, hxd⟩ : ∃ xd, l[n]? = some xd := ⟨_, List.getElem?_eq_getElem hn⟩
    have edrop : l.drop n = (xa, xb) :: l.drop (n + 1) := by
      rw [List.drop_eq_getElem_cons hn]
      rw [List.getElem?_eq_getElem hn] at hxd
      rw [Option.some.inj hxd]
    rw [edrop] at o'
    unfold forP at o'
    cases ci : ownAt ρ' i with
    | true => rw [ci] at o'; exact o'.elim
    | false =>
      cases cj : ownAt ρ' j with
      | true => rw [ci, cj] at o'; exact o'.elim
      | false =>
        rw [ci, cj] at o'
        simp only [Bool.false_eq_true, if_false, Bool.or_self] at o'
        refine .inr ⟨it.go n H' rdl hn, _, fun σ'' H'' hW => ⟨m - 1, by omega, hW⟩, fun xv H'' hy => ?_⟩
        obtain ⟨yn, d, ad, va, vb, hd, rfl, sq, ra, rb⟩ := it.yld n H' xv H'' rdl hn hy
        rw [hxd] at hd
        cases hd
        have sub : ∀ a, bad g σ' ρ' a → plus X.K H1 (bad g σ ρ) a := fun a q => by
          have hk := st'.badK q
          rcases q with q | q
          · exact .inl (.inl q)
          · rcases sp.own a q with q | q
            · exact .inl (.inr q)
            · exact .inr ⟨q, hk⟩
        have st'' := yn.st st'
        have sp'' : Stp g.R σ' ρ' H' σ' ρ' H'' := .ext yn.ext
        obtain ⟨s2, sp2⟩ := set2 st'' ci cj (ra.less sub) (rb.less sub)
        refine ⟨ad, [va, vb], rfl, sq, rfl, va, [vb], rfl, vb, [], rfl, rfl, g, _, z', s2, ?_⟩
        have spA := sp''.trans sp2
        cases e : B ((ρ'.set i (some (.val xa))).set j (some (.val xb))) z' with
        | nx ρ3 z3 =>
          rw [e] at o'
          exact fun σ3 H3 st3 s3 => ⟨ρ3, z3, by omega, st3, sp.trans (spA.trans s3), OutOk.rebase o' (spA.trans s3)⟩
        | ct ρ3 z3 =>
          rw [e] at o'
          exact fun σ3 H3 st3 s3 => ⟨ρ3, z3, by omega, st3, sp.trans (spA.trans s3), OutOk.rebase o' (spA.trans s3)⟩
        | bk ρ3 z3 =>
          rw [e] at o'
          exact fun σ3 H3 st3 s3 => o' σ3 H3 st3 (spA.trans s3)
        | rt d z3 => rw [e] at o'; exact o'
        | exc x z3 => rw [e] at o'; exact o'
        | bad => rw [e] at o'; exact o'
  · refine .inl ⟨it.stop n H' rdl (by omega), ?_⟩
    rw [List.drop_of_length_le (by omega)] at o'
    exact o' σ' H' st' .refl
end
end DL
set_option Elab.async false
set_option linter.all false
set_option maxRecDepth 100000
set_option maxHeartbeats 1000000
namespace DL
open PySem PySem.Spec PyProof.Rows L2

def evsN : List (EnD → M D) → EnD → M (List D)
  | [] => fun _ => mpure []
  | f :: fs => fun ρ => mbind (mne (f ρ)) fun d => mbind (evsN fs ρ) fun ds => mpure (d :: ds)
def putAll (acc : List (List Nat × D)) : List (List Nat × D) → List (List Nat × D)
  | [] => acc
  | p :: r => putAll (putS acc p.1 p.2) r
def eDisp (ps : List (List Nat × (EnD → M D))) : EnD → M D := fun ρ => mbind (evsN (ps.map (·.2)) ρ) fun ds => mpure (.dS (putAll [] ((ps.map (·.1)).zip ds)))
theorem evsN_len {fs : List (EnD → M D)} : ∀ {ρ : EnD} {z z' : S} {ds : List D}, evsN fs ρ z = .ok ds z' → ds.length = fs.length := by
  induction fs with
  | nil => intro ρ z z' ds h; simp [evsN, mpure] at h; simp [h.1]
  | cons f fs ih =>
    intro ρ z z' ds h
    unfold evsN mbind at h
    cases e : mne (f ρ) z with
    | ok d z1 =>
      rw [e] at h
      simp only at h
      cases e2 : evsN fs ρ z1 with
      | ok es z2 =>
        simp only [mbind, e2, mpure, Res.ok.injEq] at h
        rw [← h.1, List.length_cons, List.length_cons, ih e2]
      | exc x z2 => simp [mbind, e2] at h
      | bad => simp [mbind, e2] at h
    | exc x z1 => rw [e] at h; simp at h
    | bad => rw [e] at h; simp at h
def zipK : List (List Nat) → List V → List (Key × V)
  | k :: ks, v :: vs => (.inr (ST k), v) :: zipK ks vs
  | _, _ => []
theorem zipK_kv : ∀ (ks : List (List Nat)) (vs : List V), (zipK ks vs).map (fun kv => (kV kv.1, kv.2)) = (ks.map fun k => V.str (ST k)).zip vs
  | [], _ => rfl
  | _ :: _, [] => rfl
  | k :: ks, v :: vs => by
    rw [zipK, List.map_cons, zipK_kv ks vs] <;> rfl
theorem zipK_len : ∀ (ks : List (List Nat)) (vs : List V), (zipK ks vs).length ≤ ks.length
  | [], _ => Nat.le_refl _
  | _ :: _, [] => Nat.zero_le _
  | k :: ks, v :: vs => by
    rw [zipK, List.length_cons, List.length_cons]
    exact Nat.succ_le_succ (zipK_len ks vs)
theorem merge_dsr {K : PySem.W.Frag} {H : Hp} {R : Addr} {B : Addr → Prop} : ∀ {ks : List (List Nat)} {vs : List V} {ds : List D} {kvs : List (Key × V)} {es : List (List Nat × D)}, ks.length = vs.length → Rs K H R B vs ds → DSR K H R B kvs es →
    DSR K H R B (mergeK kvs (zipK ks vs)) (putAll es (ks.zip ds))
  | [], vs, ds, kvs, es, hl, r, h => by
    match vs, hl with
    | [], _ => cases r; exact h
  | k :: ks, [], ds, kvs, es, hl, r, h => by cases hl
  | k :: ks, v :: vs, [], kvs, es, hl, r, h => by cases r
  | k :: ks, v :: vs, d :: ds, kvs, es, hl, r, h => by
    have h2 := h.put (k := k) r.split.1
    show DSR K H R B (mergeK (putK kvs (Sum.inr (ST k)) v) (zipK ks vs)) (putAll (putS es k d) (ks.zip ds))
    exact merge_dsr (Nat.succ.inj hl) r.split.2 h2

section
variable {X : L2.Cx} {T : Tb} {E : XK} {f : EnD → M D} {fs : List (EnD → M D)} {e : Expr} {pos : Pos} {σ : L2.St} {H : Hp} {Q : VK}
/-- a written key -/
def tKy (X : L2.Cx) (k : List Nat) : TE := fun σ H Q => KN X.K H → Q (.str (ST k)) H
abbrev trsOf (X : L2.Cx) (T : Tb) (ps : List (List Nat × (EnD → M D))) : List (TE × TE) := ps.map fun p => (tKy X p.1, tD (yx X T E0) p.2)
structure PPD (X : L2.Cx) (T : Tb) (pos : Pos) (keys : List (Option Expr)) (vals : List Expr) (ps : List (List Nat × (EnD → M D))) : Prop where
  run : PPs X pos keys vals (trsOf X T ps)
  kl : keys.length = ps.length
  vl : vals.length = ps.length
  some : keys.all (·.isSome) = true
theorem ppd_nil : PPD X T pos [] [] [] := ⟨pps_nil, rfl, rfl, rfl⟩
theorem ppd_cons {x : Str} {z : List Nat} {j : Nat} {kp : Pos} {keys : List (Option Expr)} {vals : List Expr} {ps : List (List Nat × (EnD → M D))} (hx : x = ST z) (hv : PE X e (tD (yx X T E0) f)) (h : PPD X T pos keys vals ps) : PPD X T pos (some (.Constant (.str x) j kp) :: keys) (e :: vals) ((z, f) :: ps) := by
  subst hx
  refine ⟨pps_cons (PE_imp (PE_kn pe_str) fun σ H Q q => ?_) hv h.run, by rw [List.length_cons, List.length_cons, h.kl], by rw [List.length_cons, List.length_cons, h.vl], by rw [List.all_cons, h.some]; rfl⟩
  exact q
theorem pairs_read {p : Addr} : ∀ {ps : List (List Nat × (EnD → M D))} {g : G} {ρ : EnD} {z : S} {H : Hp} {Q : List (V × V) → Hp → Prop}, StR (yx X T E0) g H σ ρ z →
    After (yx X T E0) g (evsN (ps.map (·.2)) ρ z) (fun ds z' => ∀ vs H', StR (yx X T E0) g H' σ ρ z' → Ext g.R H H' → Rs X.K H' g.R (bad g σ ρ) vs ds → Q ((ps.map fun p => V.str (ST p.1)).zip vs) H') →
    tPairs (trsOf X T ps) σ H Q
  | [], g, ρ, z, H, Q, st, h => h.pure [] H st .refl .nil
  | (k, f) :: ps, g, ρ, z, H, Q, st, h => by
    intro kn
    refine ⟨g, ρ, z, st, (After.ne (Y' := yx X T E0) (g' := g) h.bind).imp fun d z1 _ h1 v H1 st1 e1 r1 => ?_⟩
    refine pairs_read (p := p) st1 (h1.bind.imp fun ds z2 _ h2 vs H2 st2 e2 r2 => ?_)
    exact h2.pure (v :: vs) H2 st2 (e1.trans e2) (Rs.cons (r1.mono (e2.rd st1.badR)) r2)
/-- what has just been made may be locked for good -/
theorem PE_plock {e : Expr} {t : TE} (h : PE X e t) : PE X e fun σ H Q => t σ H fun v H' => Q v H' ∨ ∃ d u, H' d = some u ∧ Mut (some u) ∧ ∀ od, Q v (upd H' d (.frz od u)) := ⟨fun pins s σ H Q I q => by
  refine thn (h.run pins s σ H _ I q) fun v s1 ⟨x, H1, I1, r1, q1⟩ => ?_
  rcases q1 with q1 | ⟨d, u, hd, mu, q1⟩
  · exact ⟨x, H1, I1, r1, q1⟩
  · obtain ⟨od, I2⟩ := I1.lock hd mu
    exact ⟨x, _, I2, r1, q1 od⟩⟩
theorem pu_disp {keys : List (Option Expr)} {vals : List Expr} {k0 : List Nat × (EnD → M D)} {ps : List (List Nat × (EnD → M D))} (h : PPD X T pos keys vals (k0 :: ps)) (h15 : (k0 :: ps).length ≤ 15 := by decide) : PE X (.Dict keys vals pos) (tD (yx X T E) (eDisp (k0 :: ps))) :=
  PE_imp (PE_plock (pe_disp h.run h.some (by rw [h.kl, h.vl]) (by intro e; have := h.kl; rw [e] at this; cases this) (by rw [h.kl]; exact h15))) fun σ H Q hh => by
    obtain ⟨g, ρ, z, st, a⟩ := hh
    intro p hp
    have kn0 : ∀ kn : KN X.K (upd H p (.dK [])), X.K.lookup p = none := fun kn => kn p (by rw [upd_same]; exact fun z => by cases z)
    have hpR : p ≠ g.R := fun e => st.badDom st.badR (by rw [← e]; exact hp)
    obtain ⟨k, f⟩ := k0
    show tKy X k σ _ _
    intro kn
    have hK := kn0 kn
    have wg : Wo X.K T (gb (gd g p) σ ρ) (upd H p (.dK [])) z := by
      obtain ⟨⟨SA, s1, s2, s3⟩, ht, hb, hd, hk⟩ := st.wo
      have hS : SA ≠ p := fun e => by
        rcases s2 with s2 | ⟨o, its, nn, s2, _⟩
        · exact rd_some s2 (by rw [e]; exact hp)
        · rw [e, hK] at s2; cases s2
      have w := st.wo.new (o := .dK []) hp
      obtain ⟨_, ht', hb', hd', hk', hl', hi'⟩ := w
      refine ⟨⟨SA, fun q => ?_, ?_, by rw [upd_ne (ne_of_none s3 hp)]; exact s3⟩, ht', .inl (.inl st.gR), fun a ha => ?_, fun a ha => ?_, hl', hi'⟩
      · have q : bad (gd g p) σ ρ SA := q
        rw [bad_gd] at q
        exact q.elim s1 hS
      · rcases s2 with (q | ⟨ob, q⟩) | q
        · exact .inl (.inl (by rw [upd_ne hS]; exact q))
        · exact .inl (.inr ⟨ob, by rw [upd_ne hS]; exact q⟩)
        · exact .inr q
      · have ha : bad (gd g p) σ ρ a := ha
        rw [bad_gd] at ha
        rcases ha with ha | rfl
        · exact hd' a ha
        · rw [upd_same]; exact fun z => by cases z
      · have ha : bad (gd g p) σ ρ a := ha
        rw [bad_gd] at ha
        rcases ha with ha | rfl
        · exact hk' a ha
        · exact hK
    have sg := (st.guard (H := upd H p (.dK [])) (z' := z) hp hK (.new hp) wg).chE (E' := E0)
    have all := pairs_read (X := X) (T := T) (σ := σ) (p := p) (ps := (k, f) :: ps) (Q := fun pr H2 => H2 p = some (.dK []) ∧ ∃ kvs : List (Key × V), pr = kvs.map (fun kv => (kV kv.1, kv.2)) ∧ kvs.length ≤ 15 ∧ (Q (.ref p) (upd H2 p (.dK (mergeK [] kvs))) ∨ ∃ d u, upd H2 p (.dK (mergeK [] kvs)) d = some u ∧ Mut (some u) ∧ ∀ od, Q (.ref p) (upd (upd H2 p (.dK (mergeK [] kvs))) d (.frz od u)))) sg ?_
    · exact all kn
    have fin : After (yx X T E) g (evsN (((k, f) :: ps).map (·.2)) ρ z) (fun ds z' => ds.length = (((k, f) :: ps).map (·.2)).length ∧ ∀ v H', StR (yx X T E) g H' σ ρ z' → Ext g.R H H' → R1 X.K H' g.R (bad g σ ρ) v (.dS (putAll [] ((((k, f) :: ps).map (·.1)).zip ds))) → Q v H') :=
      a.bind.imp fun ds z' he q => ⟨evsN_len he, q.pure⟩
    have ne : ∀ {fs : List (EnD → M D)} {ρ : EnD} {z : S}, After (yx X T E0) (gd g p) (evsN fs ρ z) (fun _ _ => True) ∨ evsN fs ρ z = .bad := by
      intro fs
      induction fs with
      | nil => intro ρ z; exact .inl trivial
      | cons f fs ih =>
        intro ρ z
        unfold evsN mbind
        unfold mne
        cases e : f ρ z with
        | ok d z1 =>
          simp only
          rcases ih (ρ := ρ) (z := z1) with q | q
          · cases e2 : evsN fs ρ z1 with
            | ok ds z2 => left; simp only [mbind, e2, mpure]; trivial
            | exc x z2 => 
              rw [e2] at q
              left
              simp only [mbind, e2]
              exact q
            | bad => right; simp only [mbind, e2]
          · right; simp only [mbind, q]
        | exc x z1 => right; rfl
        | bad => right; rfl
    cases e : evsN (((k, f) :: ps).map (·.2)) ρ z with
    | bad => rw [e] at fin; exact fin.elim
    | exc x z' =>
      rcases ne (fs := ((k, f) :: ps).map (·.2)) (ρ := ρ) (z := z) with q | q
      · rw [e] at q; exact q
      · rw [e] at q; cases q
    | ok ds z' =>
      rw [e] at fin
      obtain ⟨hl, fin⟩ := fin
      intro vs H2 st2 ex2 r2
      have hD : H2 p = some (.dK []) := ex2.keep p _ upd_same hpR (fun ps z => by cases z)
      refine ⟨hD, zipK (((k, f) :: ps).map (·.1)) vs, ?_, ?_, ?_⟩
      · rw [zipK_kv, List.map_map]; rfl
      · refine Nat.le_trans (zipK_len _ _) ?_
        rw [List.length_map]
        exact h15
      · refine .inr ⟨p, _, upd_same, trivial, fun od => ?_⟩
        rw [upd_upd]
        have bD : bad (gd g p) σ ρ p := by rw [bad_gd]; exact .inr rfl
        have w3 := st2.wo.up (o' := .frz od (.dK (mergeK [] (zipK (((k, f) :: ps).map (·.1)) vs)))) bD hpR hD (fun ps z => by cases z)
        have ex3 : Ext g.R H (upd H2 p (.frz od (.dK (mergeK [] (zipK (((k, f) :: ps).map (·.1)) vs))))) := ((Ext.new hp).trans ex2).upNew hp
        have s3 : StR (yx X T E) g (upd H2 p (.frz od (.dK (mergeK [] (zipK (((k, f) :: ps).map (·.1)) vs))))) σ ρ z' := st.step ex3 (w3.less (fun a h => bad_le h) st.badR)
        refine fin _ _ s3 ex3 ?_
        have r3 : Rs X.K H2 g.R (fun a => bad g σ ρ a ∨ a = p) vs ds := by
          have := r2
          rw [bad_gd] at this
          exact this
        have r4 := Rs.mono (RdLe.up (o := .frz od (.dK (mergeK [] (zipK (((k, f) :: ps).map (·.1)) vs)))) (Dd := p) (.inr rfl)) r3
        have dsr := (merge_dsr (ks := ((k, f) :: ps).map (·.1)) (kvs := []) (es := []) (by rw [r2.length, hl, List.length_map, List.length_map]) r4 .nil).out
        exact .dS upd_same (st.fresh hp) dsr.1 (dsr.2.less fun a h => .inl h) .nil
end
end DL
set_option Elab.async false
set_option linter.all false
set_option maxRecDepth 100000
set_option maxHeartbeats 1000000
namespace DL
open PySem PySem.Spec PyProof.Rows L2

def rowGet : Int → S → Option Int
  | 1, z => some z.place
  | 2, z => some z.seed
  | 3, z => some z.rest
  | _, _ => none
def rowPut : Int → Int → S → Option S
  | 1, n, z => some { z with place := n }
  | 2, n, z => some { z with seed := n }
  | 3, n, z => some { z with rest := n }
  | _, _, _ => none
def isRow (ρ : EnD) (i : Nat) : Bool := match ρ[i]? with
  | some (some (.val .row)) => true
  | _ => false
def eRowG (i : Nat) (k : Int) : EnD → M D := fun ρ z => if isRow ρ i then (match rowGet k z with | some n => .ok (.int n) z | none => .bad) else .bad
def eRowL (i : Nat) : EnD → M D := fun ρ z => if isRow ρ i then .ok (.int z.script.length) z else .bad
def eRowC (i : Nat) (f : EnD → M D) : EnD → M D := fun ρ => mbind (fun z => if isRow ρ i then .ok z.script z else .bad) fun sc => mbind (f ρ) fun d => mbind (mopt (asI d)) fun n => mopt ((atI sc n).map D.int)
def sRow (i : Nat) (k : Int) (f : EnD → M D) : SM := fun ρ z => obind (f ρ z) fun d z' => if isRow ρ i then (match (asI d).bind fun n => rowPut k n z' with | some z2 => .nx ρ z2 | none => .bad) else .bad
section
variable {X : L2.Cx} {T : Tb} {E : XK} {f : EnD → M D} {e : Expr} {pos px pc ps p : Pos} {σ : L2.St} {H : Hp} {Q : VK} {i j : Nat} {x : Str} {k : Int}
theorem isRow_val {Y : Yx} {g : G} {ρ : EnD} {z : S} (st : StR Y g H σ ρ z) (h : isRow ρ i = true) : σ[i]? = some (some (.ref g.R)) := by
  unfold isRow at h
  split at h
  · rename_i h1
    obtain ⟨v, h2, h3⟩ := st.val i _ h1
    cases h3 with
    | atom a _ => cases a; exact h2
  · cases h
theorem row_get {z : S} {SA : Addr} {n : Int} (h : rowGet k z = some n) : atI [V.ref SA, .int z.place, .int z.seed, .int z.rest] k = some (.int n) := by
  unfold rowGet at h
  split at h <;> cases h <;> rfl
theorem pu_rowG (hN : X.N[i]? = some x) (hv : Vis X.env.scope x) (hd : (x == ("__debug__" : Str)) = false := by decide) (hcd : (x == ("__classdict__" : Str)) = false := by decide) (hs : PlainIx (.Constant (.int k) j pc) := by intro _ _; rfl) :
    PE X (.Subscript (.Name x px) (.Constant (.int k) j pc) pos) (tD (yx X T E) (eRowG i k)) := PE_imp (pe_ix ix_list (pe_var hN hv hd hcd) pe_int hs) fun σ H Q h => by
  obtain ⟨g, ρ, z, st, h⟩ := h
  unfold eRowG at h
  cases c : isRow ρ i with
  | false => rw [c] at h; exact h.elim
  | true =>
    rw [c] at h
    simp only [if_true] at h
    cases e : rowGet k z with
    | none => rw [e] at h; exact h.elim
    | some n =>
      rw [e] at h
      obtain ⟨SA, h1, h2, h3⟩ := st.wo.row
      exact ⟨_, isRow_val st c, g.R, _, k, _, rfl, rfl, .inl (.inl h3), row_get e, h _ H st .refl (.atom .int .nil)⟩
theorem pu_rowL (hg : Gl X "len") (hm : X.mg "len" = none) (hN : X.N[i]? = some x) (hv : Vis X.env.scope x) (hd : (x == ("__debug__" : Str)) = false := by decide) (hcd : (x == ("__classdict__" : Str)) = false := by decide)
    (he : starEach [.Subscript (.Name x px) (.Constant (.int 0) j pc) ps] X.env = (false, eval (.Subscript (.Name x px) (.Constant (.int 0) j pc) ps) X.env) :: starEach [] X.env := by rfl) (hpl : (backTo pos (starEach [] X.env)).any (·.1) = false := by rfl) :
    PE X (.Call (.Name "len" p) [.Subscript (.Name x px) (.Constant (.int 0) j pc) ps] [] pos) (tD (yx X T E) (eRowL i)) :=
  PE_imp (pe_callB call_len hg hm PySem.boot_len (pa_cons (pe_ix ix_list (pe_var hN hv hd hcd) pe_int (fun _ _ => rfl)) pa_nil he) (by decide) (by decide) he hpl) fun σ H Q h => by
    obtain ⟨g, ρ, z, st, h⟩ := h
    unfold eRowL at h
    cases c : isRow ρ i with
    | false => rw [c] at h; exact h.elim
    | true =>
      rw [c] at h
      simp only [if_true] at h
      obtain ⟨SA, h1, h2, h3⟩ := st.wo.row
      refine ⟨_, isRow_val st c, g.R, _, 0, .ref SA, rfl, rfl, .inl (.inl h3), rfl, _, (z.script.map V.int).length, rfl, .inl ⟨_, h2, rfl⟩, ?_⟩
      rw [List.length_map]
      exact h _ H st .refl (.atom .int .nil)
theorem atI_map {xs : List Int} {n c : Int} (h : atI xs n = some c) : atI (xs.map V.int) n = some (.int c) := by
  unfold atI at h ⊢
  rw [List.length_map]
  cases e : ixN xs.length n with
  | none => rw [e] at h; cases h
  | some j =>
    rw [e] at h
    show (xs.map V.int)[j]? = some (.int c)
    rw [List.getElem?_map, show xs[j]? = some c from h] <;> rfl
theorem pu_rowC (hN : X.N[i]? = some x) (hv : Vis X.env.scope x) (he : PE X e (tD (yx X T E) f)) (hs : PlainIx e := by intro _ _; rfl) (hd : (x == ("__debug__" : Str)) = false := by decide) (hcd : (x == ("__classdict__" : Str)) = false := by decide) :
    PE X (.Subscript (.Subscript (.Name x px) (.Constant (.int 0) j pc) ps) e pos) (tD (yx X T E) (eRowC i f)) := PE_imp (pe_ix ix_list (pe_ix ix_list (pe_var hN hv hd hcd) pe_int (fun _ _ => rfl)) he hs) fun σ H Q h => by
  obtain ⟨g, ρ, z, st, h⟩ := h
  have h := h.bind
  cases c : isRow ρ i with
  | false => rw [c] at h; exact h.elim
  | true =>
    rw [c] at h
    obtain ⟨SA, h1, h2, h3⟩ := st.wo.row
    refine ⟨_, isRow_val st c, g.R, _, 0, .ref SA, rfl, rfl, .inl (.inl h3), rfl, g, ρ, z, st, (After.bind h).imp fun d z1 _ q v H1 st1 e1 r1 => ?_⟩
    obtain ⟨n, hn, q⟩ := q.bind.opt
    obtain rfl : d = .int n := by cases d <;> simp_all [asI]
    cases r1.int
    obtain ⟨r, hr, q⟩ := q.opt
    obtain ⟨cc, hc, rfl⟩ := Option.map_eq_some_iff.mp hr
    exact ⟨SA, _, n, _, rfl, rfl, (e1.rd st.badR).sqL h1 h2, atI_map hc, q _ H1 st1 e1 (.atom .int .nil)⟩
theorem row_put {z z2 : S} {SA : Addr} {n : Int} (h : rowPut k n z = some z2) : ∃ j, ixN 4 k = some j ∧ [V.ref SA, .int z.place, .int z.seed, .int z.rest].set j (.int n) = [V.ref SA, .int z2.place, .int z2.seed, .int z2.rest] ∧ z2.script = z.script := by
  unfold rowPut at h
  split at h <;> cases h
  · exact ⟨1, rfl, rfl, rfl⟩
  · exact ⟨2, rfl, rfl, rfl⟩
  · exact ⟨3, rfl, rfl, rfl⟩
theorem pu_rowS (hN : X.N[i]? = some x) (hv : Vis X.env.scope x) (he : PE X e (tD (yx X T E) f)) (hs : swapsWithSole [.Subscript (.Name x px) (.Constant (.int k) j pc) ps] e pos.line X.env = pure false := by rfl) (hd : (x == ("__debug__" : Str)) = false := by decide) (hcd : (x == ("__classdict__" : Str)) = false := by decide) :
    PS X (.Assign [.Subscript (.Name x px) (.Constant (.int k) j pc) ps] e pos) (sD (yx X T E) (sRow i k f)) := PS_imp (ps_asg he (pg_sub (pe_var hN hv hd hcd) pe_int set_list) hs) fun D σ H h => by
  obtain ⟨g, ρ, z, st, o⟩ := h
  refine ⟨g, ρ, z, st, o.bind.imp fun d z1 _ q v H1 st1 e1 r1 => ?_⟩
  cases c : isRow ρ i with
  | false => rw [c] at q; exact q.elim
  | true =>
    rw [c] at q
    simp only [if_true] at q
    cases e : (asI d).bind fun n => rowPut k n z1 with
    | none => rw [e] at q; exact q.elim
    | some z2 =>
      rw [e] at q
      obtain ⟨n, hn, hp⟩ := Option.bind_eq_some_iff.mp e
      obtain rfl : d = .int n := by cases d <;> simp_all [asI]
      cases r1.int
      obtain ⟨SA, h1, h2, h3⟩ := st1.wo.row
      obtain ⟨j', hj, hl, hsc⟩ := row_put (SA := SA) hp
      refine ⟨.ref g.R, isRow_val st1 c, g.R, _, k, j', rfl, rfl, h3, hj, ?_⟩
      rw [hl]
      have nR : ∀ a, Own σ ρ a → a ≠ g.R := fun a h => st1.ownNe h
      have ex : Ext g.R H1 (upd H1 g.R (.lst [.ref SA, .int z2.place, .int z2.seed, .int z2.rest])) :=
        ⟨fun a u q h1 h2 => by rw [upd_ne h1]; exact q, fun a h => by
          by_cases e : a = g.R
          · rw [e, upd_same]; exact fun z => by cases z
          · rw [upd_ne e]; exact h, fun x xs q => by
          have h3 : H1 g.R = _ := h3
          rw [h3] at q
          cases q
          exact ⟨_, upd_same⟩⟩
      have wo : Wo X.K T (gb g σ ρ) (upd H1 g.R (.lst [.ref SA, .int z2.place, .int z2.seed, .int z2.rest])) z2 := by
        refine ⟨⟨SA, h1, ?_, upd_same⟩, fun P hP => ?_, st1.badR, fun a ha => ex.dom a (st1.wo.dom a ha), st1.wo.kn, tabs_keep st1.wo.lam (fun q _ ps e => by rw [upd_ne (fun z => by rw [z, h3] at e; cases e)]; exact e) (fun c φ e => by rw [upd_ne (fun z => by rw [z, h3] at e; cases e)]; exact e), st1.wo.dis⟩
        · rw [hsc]; exact (ex.rd st1.badR).sqL h1 h2
        · obtain ⟨ps, q1, q2⟩ := st1.wo.tabs P hP
          have ne : P ≠ g.R := fun e => by
            rw [e, h3] at q1
            cases q1
          exact ⟨ps, by rw [upd_ne ne]; exact q1, q2⟩
      exact q _ _ (st1.step ex wo) (Stp.ext (e1.trans ex))
end
end DL
set_option Elab.async false
set_option linter.all false
set_option maxRecDepth 100000
set_option maxHeartbeats 1000000
namespace DL
open PySem PySem.Spec PyProof.Rows L2

section
variable {X : L2.Cx} {T : Tb} {E : XK} {a b : Expr} {t u : EnD → M Bool} {pos : Pos} {x : Str}
theorem passD : Passes CX0 X E := fun _ _ _ _ _ _ _ h => h.elim
theorem pw_oneO (ha : PT X a (ttD (yx X T E) t)) : PW X (.BoolOp .Or [a] pos) (ttD (yx X T E) t) := pw_or1 ha
theorem pu_gc {v : V} {d : D} (hg : Gl X x) (h : ∃ w, X.mg x = some w ∧ RelV v w) (ha : ∀ R, Atom R v d) (hd : (x == ("__debug__" : Str)) = false := by decide) : PE X (.Name x pos) (tD (yx X T E) (eC d)) := by
  obtain ⟨w, hm, r⟩ := h
  exact pu_gA hg hm r ha hd
theorem pu_gW {d : D} (hg : Gl X x) (h : ∃ w v, X.mg x = some w ∧ RelV v w ∧ WR X.K v d) (hd : (x == ("__debug__" : Str)) = false := by decide) : PE X (.Name x pos) (tD (yx X T E) (eC d)) := by
  obtain ⟨w, v, hm, r, hw⟩ := h
  exact pu_gT hg hm r hw hd
theorem pus_bad {sts : List Stmt} : PSs X sts (sD (yx X T E) sBad) := PSs_imp pss_never fun D σ H h => by
  obtain ⟨g, ρ, z, st, o⟩ := h
  exact o
end

section
variable {X : L2.Cx} {T : Tb} {E : XK} {fi : EnD → M (List D)} {t : EnD → M Bool} {f : EnD → M D} {elt iter tg : Expr} {ifs : List Expr} {scope : Scope} {pos spos py : Pos} {x y : Str} {i j : Nat}
end

def lookF (tbl : List (List Nat × (List D → M D))) (w : List Nat) : Option (List D → M D) := (tbl.find? fun p => decide (p.1 = w)).map (·.2)
def toldD (tbl : List (List Nat × (List D → M D))) : List D → M D
  | [.str w, r] => match lookF tbl w with
    | some F => mne (F [r])
    | none => mbad
  | _ => mbad
section
variable {X : L2.Cx} {k i : Nat} {x : Str} {e : Expr} {es : List Expr} {t : TA} {p pos : Pos}
theorem pe_callM (hr : Room k X.A) (hN : X.N[i]? = some x) (hv : Vis X.env.scope x) (ha : PA X (e :: es) t) (hdb : (x == ("__debug__" : Str)) = false := by decide) (hcd : (x == ("__classdict__" : Str)) = false := by decide)
    (he : starEach (e :: es) X.env = (false, eval e X.env) :: starEach es X.env := by rfl) (hpl : (backTo pos (starEach es X.env)).any (·.1) = false := by rfl) :
    PE X (.Call (.Name x p) (e :: es) [] pos) (fun σ H Q => ∃ f sp, σ[i]? = some (some (.ref f)) ∧ Held X.prog X.w X.K X.mg X.base k f sp ∧ t σ H fun vs H1 => sp vs H1 Q (fun _ _ _ => False)) :=
  ⟨fun pins s σ H Q I ⟨f, sp, hs, hh, ht⟩ => (pe_callA (i := i) (S := fun g => if g = f then some sp else none) (fun g sp' hS => by
    by_cases c : g = f
    · rw [if_pos c] at hS
      cases hS
      rw [c]; exact hh
    · rw [if_neg c] at hS
      cases hS) hr hN hv ha hdb hcd he hpl).run pins s σ H Q I ⟨f, sp, hs, if_pos rfl, ht⟩⟩
end
section
variable {P : Program} {w : World} {K : PySem.W.Frag} {mg : Str → Option Value} {base : Heap} {T : Tb}
/-- each entry of the table stands in the written dict, its def keeps its promise -/
structure Tbl (P : Program) (w : World) (K : PySem.W.Frag) (mg : Str → Option Value) (base : Heap) (T : Tb) (k : Nat) (a : Addr) (tbl : List (List Nat × (List D → M D))) : Prop where
  at_ : ∀ z F, lookF tbl z = some F → ∃ f, KDct K w a (ST z) (.ref f) ∧ Held P w K mg base k f (spD K T mg 1 F)
end

end DL
set_option Elab.async false
set_option linter.all false
set_option maxRecDepth 100000
set_option maxHeartbeats 1000000
namespace DL
open PySem PySem.Spec PyProof.Rows L2

def rhoL (n : Nat) : EnD := none :: some (.val .row) :: List.replicate (n - 2) none
def spLaw (K : PySem.W.Frag) (cs : List (Addr × Addr)) : Sp := fun vs H Q _ => ∃ (a : Addr) (ns : List Int), vs = [.ref a] ∧ SqL K H a (ns.map V.int) ∧ ns.length ≤ 63 ∧ (∀ z ∈ ns, Builtin.Int.intBits z ≤ 1048576) ∧ (∀ p ∈ cs, H p.2 = some (.tbl #[])) ∧ ∀ H', Q (.bl true) H'
section
variable {P : Program} {w : World} {K : PySem.W.Frag} {mg : Str → Option Value} {base : Heap}
theorem PSs_kn {X : L2.Cx} {e : List Stmt} {t : TS} (h : PSs X e t) : PSs X e fun D σ H => KN X.K H → t D σ H := ⟨fun pins s σ H D I q => h.run pins s σ H D I (q (kn_of I))⟩
theorem ok_lawD {x qual n1 n2 : Str} {st : Stmt} {f : Addr} {fd : FuncData} {N : List Str} {k : Nat} {B : SM} {seed : Int} {rest : List Stmt} {cs : List (Addr × Addr)} {T : Tb} {q1 q2 q3 q4 q5 q6 q7 : Pos} {j1 j2 j3 : Nat} (F : Fun K x qual st f fd) (S : FnScope (n1 :: n2 :: N) [n1] (defScope st))
    (hb : defBody st = .Assign [.Name n2 q1] (.List [.Name n1 q2, .Constant (.int 0) j1 q3, .Constant (.int seed) j2 q4, .Constant (.int 0) j3 q5] q6) q7 :: rest)
    (l1 : (defScope st).names.lookup n1 = some .local) (l2 : (defScope st).names.lookup n2 = some .local) (d1 : (n1 == ("__debug__" : Str)) = false) (c1 : (n1 == ("__classdict__" : Str)) = false)
    (hsw : ∀ (cdv : Value) (A : Around) (outer : List Env) (s : Shared) (H : Hp) (E : XK), swapsWith (.List [.Name n1 q2, .Constant (.int 0) j1 q3, .Constant (.int seed) j2 q4, .Constant (.int 0) j3 q5] q6) (some (.Name n2 q1)) q7.line (cxOf CX0 P w K mg base (n1 :: n2 :: N) qual (defScope st) f cdv A outer s H E).nox.env = pure false)
    (der : ∀ (cdv : Value) (A : Around) (outer : List Env) (s : Shared) (H : Hp) (E : XK), Room k (A.deeper (envOfC qual (defScope st) s.heap.objs.size f cdv)) → fd.code = cdv →
      PSs (cxOf CX0 P w K mg base (n1 :: n2 :: N) qual (defScope st) f cdv A outer s H E).nox rest (sD ⟨K, T, mg, fun _ _ _ => False⟩ B))
    (hT : ∀ P ∈ T, P ∈ cs.map (·.2)) (hL : ∀ p ∈ T.ls, p.1 ∈ cs.map (·.2)) (hD : ∀ p ∈ T.ls, ¬ p.1 ∈ T)
    (hm : ∀ ns : List Int, ns.length ≤ 63 → (∀ z ∈ ns, Builtin.Int.intBits z ≤ 1048576) → ∃ z', B (rhoL (N.length + 2)) ⟨ns, 0, seed, 0⟩ = .rt (.bl true) z') :
    FnOk P w K mg base CX0 (k + 1) f fd [n1] (spLaw K cs) := by
  obtain ⟨oc, od, kV, doc, pm, an, cdv, ct, osl, rfl, lk, hcd⟩ := F.ex
  refine fn_of lk hcd S (fun vs H Q E h => by obtain ⟨a, ns, rfl, _⟩ := h; rfl) fun A outer s H vs Q E hr h => ?_
  obtain ⟨a, ns, rfl, hS, hl, hbits, htb, q⟩ := h
  have hd := der cdv A outer s H E hr rfl
  refine ⟨_, PSs.nox (t := tSeq (tAsg (tLst (tCons (tVar 0) (tCons (tC (.int 0)) (tCons (tC (.int seed)) (tCons (tC (.int 0)) tNil))))) (gName 1)) fun D σ H => KN K H → sD ⟨K, T, mg, fun _ _ _ => False⟩ B D σ H) ?_, ?_⟩
  · show PSs _ (defBody st) _
    rw [hb]
    exact pss_cons (ps_set (i := 1) S.nd rfl (.inl l2) (pe_lst (pa_cons (pe_var (i := 0) rfl (.inl l1) d1 c1) (pa_cons pe_int (pa_cons pe_int (pa_cons pe_int pa_nil))))) (hsw cdv A outer s H E)) (PSs_kn hd)
  · refine ⟨.ref a, rfl, small_len (n := 4) (by decide), fun p hp kn => ?_⟩
    have hK : K.lookup p = none := kn p (by rw [upd_same]; exact fun z => by cases z)
    have ha : a ≠ p := fun e => by
      rcases hS with hS | ⟨o, its, n, hS, _⟩
      · exact rd_some hS (by rw [e]; exact hp)
      · rw [e, hK] at hS; cases hS
    have hS' : SqL K (upd H p (.lst [.ref a, .int 0, .int seed, .int 0])) a (ns.map V.int) := by
      rcases hS with (hS | ⟨o, hS⟩) | hS
      · exact .inl (.inl (by rw [upd_ne ha]; exact hS))
      · exact .inl (.inr ⟨o, by rw [upd_ne ha]; exact hS⟩)
      · exact .inr hS
    have noOwn : ∀ (i : Nat) (d : D), (rhoL (N.length + 2))[i]? ≠ some (some (.own d)) := fun i d e => by
      unfold rhoL at e
      match i, e with
      | 0, e => cases e
      | 1, e => cases e
      | i + 2, e =>
        simp only [List.getElem?_cons_succ, List.getElem?_replicate] at e
        split at e <;> cases e
    refine ⟨⟨p, fun x => x = p, upd H p (.lst [.ref a, .int 0, .int seed, .int 0])⟩, rhoL (N.length + 2), ⟨ns, 0, seed, 0⟩, ?_, ?_⟩
    · have be : ∀ σ : L2.St, bad ⟨p, fun x => x = p, upd H p (.lst [.ref a, .int 0, .int seed, .int 0])⟩ σ (rhoL (N.length + 2)) = fun x => x = p := fun σ => by
        funext b
        apply propext
        exact ⟨fun h => h.elim id fun ⟨i, d, h1, _⟩ => absurd h1 (noOwn i d), .inl⟩
      refine ⟨?_, rfl, ?_, fun i d h => ?_, fun i d h => absurd h (noOwn i d), fun i j d e b h => absurd h (noOwn i d), .refl⟩
      · unfold gb
        rw [be]
        refine ⟨⟨a, ha, hS', upd_same⟩, fun P' hP => ?_, rfl, fun b hb => ?_, fun b hb => ?_, fun q hq => ?_, hD⟩
        · obtain ⟨c, hc, rfl⟩ := List.mem_map.mp (hT P' hP)
          have h1 := htb c hc
          exact ⟨#[], by rw [upd_ne (ne_of_none h1 hp)]; exact h1, by first | exact trivial | simp [TriplesOk] | exact True.intro⟩
        · have hb : b = p := hb
          rw [hb, upd_same]
          exact fun z => by cases z
        · have hb : b = p := hb
          rw [hb]
          exact hK
        · obtain ⟨c, hc, e⟩ := List.mem_map.mp (hL q hq)
          have h1 := htb c hc
          exact LamX.TabS.nil (by rw [← e, upd_ne (ne_of_none h1 hp)]; exact h1)
      · show ((L2.start (n1 :: n2 :: N) [V.ref a]).set 1 _).length = _
        unfold L2.start rhoL
        simp
      · rw [be]
        unfold rhoL at h
        match i, h with
        | 0, h => cases h
        | 1, h =>
          cases h
          exact ⟨.ref p, rfl, .atom .row .nil⟩
        | i + 2, h =>
          simp only [List.getElem?_cons_succ, List.getElem?_replicate] at h
          split at h <;> cases h
    · obtain ⟨z', e⟩ := hm ns hl hbits
      rw [e]
      intro v H' w' ex r
      cases r.bl
      exact q H'
end
end DL
set_option Elab.async false
set_option linter.all false
set_option maxRecDepth 100000
set_option maxHeartbeats 1000000
namespace DL
open PySem PySem.Spec PyProof.Rows L2

def WP {α : Type} (m : M α) (z : S) (Q : α → S → Prop) : Prop := match m z with
  | .ok a z' => Q a z'
  | _ => False
def WS (o : Out) (Qn : EnD → S → Prop) (Qr : D → S → Prop) : Prop := match o with
  | .nx ρ z => Qn ρ z
  | .rt d z => Qr d z
  | _ => False
section
variable {α β : Type} {z : S} {ρ : EnD} {i j : Nat} {d : D} {Qn : EnD → S → Prop} {Qr : D → S → Prop}
theorem WP_ok {m : M α} {a : α} {z' : S} {Q : α → S → Prop} (h : m z = .ok a z') : WP m z Q = Q a z' := by unfold WP; rw [h]
theorem WP_of {m : M α} {a : α} (h : WP m z fun b z' => b = a ∧ z' = z) : m z = .ok a z := by
  unfold WP at h
  cases e : m z with
  | ok b z' => rw [e] at h; obtain ⟨rfl, rfl⟩ := h; rfl
  | exc x z' => rw [e] at h; exact h.elim
  | bad => rw [e] at h; exact h.elim
theorem WP_pure_of {m : M α} {a : α} (h : ∀ z, WP m z fun b z' => b = a ∧ z' = z) : m = mpure a := funext fun z => WP_of (h z)
theorem WP_get {m : M α} {Q : α → S → Prop} (h : WP m z Q) : ∃ a z', m z = .ok a z' ∧ Q a z' := by
  unfold WP at h
  cases e : m z with
  | ok b z' => rw [e] at h; exact ⟨b, z', rfl, h⟩
  | exc x z' => rw [e] at h; exact h.elim
  | bad => rw [e] at h; exact h.elim
theorem WP_mono {m : M α} {Q Q' : α → S → Prop} (h : WP m z Q) (i : ∀ a z', Q a z' → Q' a z') : WP m z Q' := by
  obtain ⟨a, z', e, q⟩ := WP_get h
  rw [WP_ok e]
  exact i _ _ q
@[simp] theorem WP_bind {m : M α} {k : α → M β} {Q : β → S → Prop} : WP (mbind m k) z Q = WP m z fun a z' => WP (k a) z' Q := by
  unfold WP mbind
  cases m z <;> rfl
@[simp] theorem WP_pure {a : α} {Q : α → S → Prop} : WP (mpure a) z Q = Q a z := rfl
@[simp] theorem WP_some {a : α} {Q : α → S → Prop} : WP (mopt (some a)) z Q = Q a z := rfl
@[simp] theorem WP_bad {Q : α → S → Prop} : WP (mbad : M α) z Q = False := rfl
@[simp] theorem WP_none {Q : α → S → Prop} : WP (mopt (none : Option α)) z Q = False := rfl
theorem WP_ite {c : Prop} [Decidable c] {m m' : M α} {Q : α → S → Prop} : WP (if c then m else m') z Q = if c then WP m z Q else WP m' z Q := by
  split <;> rfl
theorem WP_ne {m : M α} {Q : α → S → Prop} : WP (mne m) z Q = WP m z Q := by
  unfold WP mne
  cases m z <;> rfl
@[simp] theorem eV_zero : eV 0 (some (.val d) :: ρ) = mpure d := rfl
@[simp] theorem eV_succ {x : Option Sl} : eV (i + 1) (x :: ρ) = eV i ρ := rfl
@[simp] theorem eC_ev : eC d ρ = mpure d := rfl
@[simp] theorem e1_ev {F : D → M D} {f : EnD → M D} {Q : D → S → Prop} : WP (e1 F f ρ) z Q = WP (f ρ) z fun x z' => WP (F x) z' Q := WP_bind
@[simp] theorem e2_ev {F : D → D → M D} {f g : EnD → M D} {Q : D → S → Prop} : WP (e2 F f g ρ) z Q = WP (f ρ) z fun x z' => WP (g ρ) z' fun y z'' => WP (F x y) z'' Q := by
  unfold e2; rw [WP_bind]; congr; funext x z'; exact WP_bind
@[simp] theorem op2_ev {F : D → D → Option D} {x y : D} : op2 F x y = mopt (F x y) := rfl
@[simp] theorem op1_ev {F : D → Option D} {x : D} : op1 F x = mopt (F x) := rfl
@[simp] theorem eIf_ev {t : EnD → M Bool} {f g : EnD → M D} {Q : D → S → Prop} : WP (eIf t f g ρ) z Q = WP (t ρ) z fun b z' => if b then WP (f ρ) z' Q else WP (g ρ) z' Q := by
  unfold eIf; rw [WP_bind]; congr; funext x z'; exact WP_ite
@[simp] theorem tV_ev {f : EnD → M D} {Q : Bool → S → Prop} : WP (tV f ρ) z Q = WP (f ρ) z fun d z' => WP (mopt (asB d)) z' Q := WP_bind
@[simp] theorem tNot_ev {t : EnD → M Bool} {Q : Bool → S → Prop} : WP (tNot t ρ) z Q = WP (t ρ) z fun b z' => Q (!b) z' := WP_bind
@[simp] theorem tAnd_ev {t u : EnD → M Bool} {Q : Bool → S → Prop} : WP (tAnd t u ρ) z Q = WP (t ρ) z fun b z' => if b then WP (u ρ) z' Q else Q false z' := by
  unfold tAnd; rw [WP_bind]; congr; funext x z'; exact WP_ite
@[simp] theorem tOr_ev {t u : EnD → M Bool} {Q : Bool → S → Prop} : WP (tOr t u ρ) z Q = WP (t ρ) z fun b z' => if b then Q true z' else WP (u ρ) z' Q := by
  unfold tOr; rw [WP_bind]; congr; funext x z'; exact WP_ite
@[simp] theorem eAnd_ev {f g : EnD → M D} {Q : D → S → Prop} : WP (eAnd f g ρ) z Q = WP (f ρ) z fun d z' => WP (mopt (asB d)) z' fun b z'' => if b then WP (g ρ) z'' Q else Q (.bl false) z'' := by
  unfold eAnd; rw [WP_bind, WP_bind]; congr; funext x z'; congr; funext b z''; exact WP_ite
@[simp] theorem eOr_ev {f g : EnD → M D} {Q : D → S → Prop} : WP (eOr f g ρ) z Q = WP (f ρ) z fun d z' => WP (mopt (asB d)) z' fun b z'' => if b then Q (.bl true) z'' else WP (g ρ) z'' Q := by
  unfold eOr; rw [WP_bind, WP_bind]; congr; funext x z'; congr; funext b z''; exact WP_ite
@[simp] theorem eNot_ev {f : EnD → M D} {Q : D → S → Prop} : WP (eNot f ρ) z Q = WP (f ρ) z fun d z' => WP (mopt (asB d)) z' fun b z'' => Q (.bl (!b)) z'' := by
  unfold eNot; rw [WP_bind, WP_bind]; rfl
@[simp] theorem evs_nil {Q : List D → S → Prop} : WP (evs [] ρ) z Q = Q [] z := rfl
@[simp] theorem evs_cons {f : EnD → M D} {fs : List (EnD → M D)} {Q : List D → S → Prop} : WP (evs (f :: fs) ρ) z Q = WP (f ρ) z fun d z' => WP (evs fs ρ) z' fun ds z'' => Q (d :: ds) z'' := by
  show WP (mbind _ _) z Q = _
  rw [WP_bind]; congr; funext x z'; rw [WP_bind]; rfl
@[simp] theorem evsN_nil {Q : List D → S → Prop} : WP (evsN [] ρ) z Q = Q [] z := rfl
@[simp] theorem evsN_cons {f : EnD → M D} {fs : List (EnD → M D)} {Q : List D → S → Prop} : WP (evsN (f :: fs) ρ) z Q = WP (f ρ) z fun d z' => WP (evsN fs ρ) z' fun ds z'' => Q (d :: ds) z'' := by
  show WP (mbind _ _) z Q = _
  rw [WP_bind, WP_ne]; congr; funext x z'; rw [WP_bind]; rfl
@[simp] theorem eTup_ev {fs : List (EnD → M D)} {Q : D → S → Prop} : WP (eTup fs ρ) z Q = WP (evs fs ρ) z fun ds z' => Q (.tup ds) z' := WP_bind
@[simp] theorem eLst_ev {fs : List (EnD → M D)} {Q : D → S → Prop} : WP (eLst fs ρ) z Q = WP (evs fs ρ) z fun ds z' => Q (.lst ds) z' := WP_bind
@[simp] theorem eCall_ev {F : List D → M D} {fs : List (EnD → M D)} {Q : D → S → Prop} : WP (eCall F fs ρ) z Q = WP (evs fs ρ) z fun ds z' => WP (F ds) z' Q := WP_bind
@[simp] theorem eDisp_ev {ps : List (List Nat × (EnD → M D))} {Q : D → S → Prop} : WP (eDisp ps ρ) z Q = WP (evsN (ps.map (·.2)) ρ) z fun ds z' => Q (.dS (putAll [] ((ps.map (·.1)).zip ds))) z' := WP_bind
@[simp] theorem eSl_ev {f : EnD → M D} {lo hi : EnD → M (Option Int)} {Q : D → S → Prop} : WP (eSl f lo hi ρ) z Q = WP (f ρ) z fun d z1 => WP (lo ρ) z1 fun l z2 => WP (hi ρ) z2 fun h z3 => WP (mopt (slD d l h)) z3 Q := by
  unfold eSl; rw [WP_bind]; congr; funext x z'; rw [WP_bind]; congr; funext y z''; exact WP_bind
@[simp] theorem pNo_ev {Q : Option Int → S → Prop} : WP (pNo ρ) z Q = Q none z := rfl
@[simp] theorem pSo_ev {f : EnD → M D} {Q : Option Int → S → Prop} : WP (pSo f ρ) z Q = WP (f ρ) z fun d z' => WP (mopt ((asI d).map some)) z' Q := WP_bind
@[simp] theorem eM1_ev {F : List Nat → D → Option D} {f g : EnD → M D} {Q : D → S → Prop} : WP (eM1 F f g ρ) z Q = WP (f ρ) z fun d z1 => WP (mopt (asS d)) z1 fun s z2 => WP (g ρ) z2 fun e z3 => WP (mopt (F s e)) z3 Q := by
  unfold eM1; rw [WP_bind]; congr; funext x z'; rw [WP_bind]; congr; funext y z''; exact WP_bind
@[simp] theorem eTCount_ev {f g : EnD → M D} {Q : D → S → Prop} : WP (eTCount f g ρ) z Q = WP (f ρ) z fun d z1 => WP (mopt (asT d)) z1 fun s z2 => WP (g ρ) z2 fun e z3 => WP (mopt (countT (.tup s) e)) z3 Q := by
  unfold eTCount; rw [WP_bind]; congr; funext x z'; rw [WP_bind]; congr; funext y z''; exact WP_bind
@[simp] theorem eChain_ev {F F' : D → D → M D} {fa fb fc : EnD → M D} {Q : D → S → Prop} : WP (eChain F F' fa fb fc ρ) z Q = WP (fa ρ) z fun x z1 => WP (fb ρ) z1 fun y z2 => WP (F x y) z2 fun r z3 => WP (mopt (asB r)) z3 fun k z4 => if k then WP (fc ρ) z4 fun w z5 => WP (F' y w) z5 Q else Q (.bl false) z4 := by
  unfold eChain; rw [WP_bind]; congr; funext x z1; rw [WP_bind]; congr; funext y z2; rw [WP_bind]; congr; funext r z3; rw [WP_bind]; congr; funext k z4; rw [WP_ite, WP_bind]; rfl
@[simp] theorem iS_ev {f : EnD → M D} {Q : List D → S → Prop} : WP (iS f ρ) z Q = WP (f ρ) z fun d z' => WP (mopt (iterD d)) z' Q := WP_bind
@[simp] theorem iEn_ev {f : EnD → M D} {Q : List (D × D) → S → Prop} : WP (iEn f ρ) z Q = WP (f ρ) z fun d z' => WP (mopt ((asT d).map (enumD 0))) z' Q := WP_bind
@[simp] theorem iR1_ev {f : EnD → M D} {Q : List D → S → Prop} : WP (iR1 f ρ) z Q = WP (f ρ) z fun d z' => WP (mopt (asI d)) z' fun j z'' => if -(2 ^ 62) ≤ j ∧ j < 2 ^ 62 then Q (rangeD 0 j.toNat) z'' else False := by
  unfold iR1; rw [WP_bind]; congr; funext x z1; rw [WP_bind]; congr; funext y z2; rw [WP_ite]; rfl
@[simp] theorem iR2_ev {f g : EnD → M D} {Q : List D → S → Prop} : WP (iR2 f g ρ) z Q = WP (f ρ) z fun d z' => WP (mopt (asI d)) z' fun i z'' => WP (g ρ) z'' fun e z3 => WP (mopt (asI e)) z3 fun j z4 => if -(2 ^ 62) ≤ i ∧ i < 2 ^ 62 ∧ -(2 ^ 62) ≤ j ∧ j < 2 ^ 62 then Q (rangeD i (j - i).toNat) z4 else False := by
  unfold iR2; rw [WP_bind]; congr; funext x z1; rw [WP_bind]; congr; funext y z2; rw [WP_bind]; congr; funext v z3; rw [WP_bind]; congr; funext u z4; rw [WP_ite]; rfl
@[simp] theorem eLc_ev {xs : EnD → M (List D)} {t : EnD → M Bool} {f : EnD → M D} {Q : D → S → Prop} : WP (eLc i xs t f ρ) z Q = WP (xs ρ) z fun l z' => if l.length ≤ sizeLine ∧ ownAt ρ i = false then WP (compL i t f l ρ) z' fun ds z'' => Q (.lst ds) z'' else False := by
  unfold eLc; rw [WP_bind]; congr; funext x z1; rw [WP_ite, WP_bind]; rfl
@[simp] theorem eTupG_ev {xs : EnD → M (List D)} {t : EnD → M Bool} {f : EnD → M D} {Q : D → S → Prop} : WP (eTupG i xs t f ρ) z Q = WP (xs ρ) z fun l z' => if l.length ≤ sizeLine ∧ ownAt ρ i = false then WP (compL i t f l ρ) z' fun ds z'' => Q (.tup ds) z'' else False := by
  unfold eTupG; rw [WP_bind]; congr; funext x z1; rw [WP_ite, WP_bind]; rfl
@[simp] theorem compL_nil {t : EnD → M Bool} {f : EnD → M D} {Q : List D → S → Prop} : WP (compL i t f [] ρ) z Q = Q [] z := rfl
theorem compL_cons {t : EnD → M Bool} {f : EnD → M D} {x : D} {xs : List D} {Q : List D → S → Prop} : WP (compL i t f (x :: xs) ρ) z Q = WP (t ((ρ.set i none).set i (some (.val x)))) z fun b z' =>
    if b then WP (f ((ρ.set i none).set i (some (.val x)))) z' fun d z'' => WP (compL i t f xs ρ) z'' fun ds z3 => Q (d :: ds) z3 else WP (compL i t f xs ρ) z' Q := by
  show WP (mbind _ _) z Q = _
  rw [WP_bind, WP_ne]; congr; funext b z'
  rw [WP_ite, WP_bind, WP_ne]
  congr; funext d z''; rw [WP_bind]; rfl
@[simp] theorem tYes_ev {Q : Bool → S → Prop} : WP (tYesD ρ) z Q = Q true z := rfl
@[simp] theorem isRow_zero : isRow (some (.val .row) :: ρ) 0 = true := rfl
@[simp] theorem isRow_succ {x : Option Sl} : isRow (x :: ρ) (i + 1) = isRow ρ i := rfl
@[simp] theorem ownAt_nil : ownAt [] i = false := by cases i <;> rfl
@[simp] theorem ownAt_zv : ownAt (some (.val d) :: ρ) 0 = false := rfl
@[simp] theorem ownAt_zn : ownAt (none :: ρ) 0 = false := rfl
@[simp] theorem ownAt_succ {x : Option Sl} : ownAt (x :: ρ) (i + 1) = ownAt ρ i := rfl
@[simp] theorem eRowG_ev {k : Int} {Q : D → S → Prop} (h : isRow ρ i = true) : WP (eRowG i k ρ) z Q = WP (mopt (rowGet k z)) z fun n z' => Q (.int n) z' := by
  unfold WP eRowG mopt; simp only [h, if_true]; cases rowGet k z <;> rfl
@[simp] theorem eRowL_ev {Q : D → S → Prop} (h : isRow ρ i = true) : WP (eRowL i ρ) z Q = Q (.int z.script.length) z := by
  unfold WP eRowL; simp only [h, if_true]
@[simp] theorem eRowC_ev {f : EnD → M D} {Q : D → S → Prop} (h : isRow ρ i = true) : WP (eRowC i f ρ) z Q = WP (f ρ) z fun d z' => WP (mopt (asI d)) z' fun n z'' => WP (mopt ((atI z.script n).map D.int)) z'' Q := by
  unfold eRowC; rw [WP_bind]; rw [WP_ok (a := z.script) (z' := z) (by simp only [h, if_true])]; rw [WP_bind]; congr; funext d z'; rw [WP_bind]
@[simp] theorem run_ev {n : Nat} {b : SM} {ds : List D} {Q : D → S → Prop} : WP (runD n b ds) z Q = WS (b (rho0 n ds) z) (fun _ z' => Q .non z') Q := by
  unfold WP WS runD; cases b (rho0 n ds) z <;> rfl
@[simp] theorem sNil_ev : WS (sNil ρ z) Qn Qr = Qn ρ z := rfl
@[simp] theorem sSeq_ev {a b : SM} : WS (sSeq a b ρ z) Qn Qr = WS (a ρ z) (fun ρ' z' => WS (b ρ' z') Qn Qr) Qr := by
  unfold WS sSeq; cases a ρ z <;> rfl
theorem ob_ev {r : Res α} {k : α → S → Out} : WS (obind r k) Qn Qr = (match r with | .ok a z' => WS (k a z') Qn Qr | _ => False) := by
  cases r <;> rfl
@[simp] theorem sSet_ev {f : EnD → M D} : WS (sSet i f ρ z) Qn Qr = WP (f ρ) z fun d z' => if ownAt ρ i then False else Qn (ρ.set i (some (.val d))) z' := by
  unfold sSet; rw [ob_ev]; unfold WP; cases f ρ z <;> (try rfl); simp only; split <;> rfl
@[simp] theorem sIf_ev {t : EnD → M Bool} {a b : SM} : WS (sIf t a b ρ z) Qn Qr = WP (t ρ) z fun c z' => if c then WS (a ρ z') Qn Qr else WS (b ρ z') Qn Qr := by
  unfold sIf; rw [ob_ev]; unfold WP; cases t ρ z <;> (try rfl); simp only; split <;> rfl
@[simp] theorem sRet_ev {f : EnD → M D} : WS (sRet f ρ z) Qn Qr = WP (f ρ) z Qr := by
  unfold sRet; rw [ob_ev]; unfold WP; cases f ρ z <;> rfl
@[simp] theorem sRetN_ev : WS (sRetN ρ z) Qn Qr = Qr .non z := rfl
@[simp] theorem sEx_ev {f : EnD → M D} : WS (sEx f ρ z) Qn Qr = WP (f ρ) z fun _ z' => Qn ρ z' := by
  unfold sEx; rw [ob_ev]; unfold WP; cases f ρ z <;> rfl
@[simp] theorem sBad_ev : WS (sBad ρ z) Qn Qr = False := rfl
@[simp] theorem sRow_ev {k : Int} {f : EnD → M D} (h : isRow ρ i = true) : WS (sRow i k f ρ z) Qn Qr = WP (f ρ) z fun d z' => WP (mopt (asI d)) z' fun n z'' => WP (mopt (rowPut k n z')) z'' fun z3 _ => Qn ρ z3 := by
  unfold sRow; rw [ob_ev]; unfold WP; cases f ρ z <;> (try rfl)
  rename_i d z'
  simp only [h, if_true, mopt]
  cases d <;> (try rfl)
  simp only [asI, Option.bind_some]
  cases rowPut k _ z' <;> rfl
@[simp] theorem sPar_ev {f g : EnD → M D} : WS (sPar i j f g ρ z) Qn Qr = WP (f ρ) z fun a z' => WP (g ρ) z' fun b z'' => if ownAt ρ i || ownAt ρ j then False else Qn ((ρ.set i (some (.val a))).set j (some (.val b))) z'' := by
  unfold sPar; rw [ob_ev]
  have e1 : (WP (f ρ) z fun a z' => WP (g ρ) z' fun b z'' => if ownAt ρ i || ownAt ρ j then False else Qn ((ρ.set i (some (.val a))).set j (some (.val b))) z'') =
      WP (evs [f, g] ρ) z (fun ds z' => match ds with | [a, b] => if ownAt ρ i || ownAt ρ j then False else Qn ((ρ.set i (some (.val a))).set j (some (.val b))) z' | _ => False) := by
    rw [evs_cons]; congr; funext a z'; rw [evs_cons]; congr
  rw [e1]
  unfold WP
  cases evs [f, g] ρ z <;> (try rfl)
  rename_i ds z'
  match ds with
  | [] => rfl
  | [a] => rfl
  | [a, b] => simp only; split <;> rfl
  | a :: b :: c :: r => rfl
@[simp] theorem sFor_ev {xs : EnD → M (List D)} {b : SM} : WS (sFor i xs b ρ z) Qn Qr = WP (xs ρ) z fun l z' => WS (forD i b l ρ z') Qn Qr := by
  unfold sFor; rw [ob_ev]; unfold WP; cases xs ρ z <;> rfl
@[simp] theorem forD_nil {b : SM} : WS (forD i b [] ρ z) Qn Qr = Qn ρ z := rfl
/-- a loop whose body neither breaks nor continues -/
theorem forD_cons {b : SM} {x : D} {xs : List D} (h : ownAt ρ i = false) (hq : WS (b (ρ.set i (some (.val x))) z) (fun ρ' z' => WS (forD i b xs ρ' z') Qn Qr) Qr) : WS (forD i b (x :: xs) ρ z) Qn Qr := by
  unfold forD
  rw [h]
  simp only [Bool.false_eq_true, if_false]
  unfold WS at hq ⊢
  cases e : b (ρ.set i (some (.val x))) z <;> rw [e] at hq <;> first | exact hq | exact hq.elim
@[simp] theorem sForP_ev {xs : EnD → M (List (D × D))} {b : SM} : WS (sForP i j xs b ρ z) Qn Qr = WP (xs ρ) z fun l z' => WS (forP i j b l ρ z') Qn Qr := by
  unfold sForP; rw [ob_ev]; unfold WP; cases xs ρ z <;> rfl
@[simp] theorem forP_nil {b : SM} : WS (forP i j b [] ρ z) Qn Qr = Qn ρ z := rfl
theorem forP_cons {b : SM} {x y : D} {xs : List (D × D)} (h : ownAt ρ i = false) (h2 : ownAt ρ j = false) (hq : WS (b ((ρ.set i (some (.val x))).set j (some (.val y))) z) (fun ρ' z' => WS (forP i j b xs ρ' z') Qn Qr) Qr) : WS (forP i j b ((x, y) :: xs) ρ z) Qn Qr := by
  unfold forP
  rw [h, h2]
  simp only [Bool.false_eq_true, if_false, Bool.or_self]
  unfold WS at hq ⊢
  cases e : b ((ρ.set i (some (.val x))).set j (some (.val y))) z <;> rw [e] at hq <;> first | exact hq | exact hq.elim
@[simp] theorem eRowG_z {k : Int} {Q : D → S → Prop} : WP (eRowG 0 k (some (.val .row) :: ρ)) z Q = WP (mopt (rowGet k z)) z fun n z' => Q (.int n) z' := eRowG_ev rfl
@[simp] theorem eRowL_z {Q : D → S → Prop} : WP (eRowL 0 (some (.val .row) :: ρ)) z Q = Q (.int z.script.length) z := eRowL_ev rfl
@[simp] theorem eRowC_z {f : EnD → M D} {Q : D → S → Prop} : WP (eRowC 0 f (some (.val .row) :: ρ)) z Q = WP (f (some (.val .row) :: ρ)) z fun d z' => WP (mopt (asI d)) z' fun n z'' => WP (mopt ((atI z.script n).map D.int)) z'' Q := eRowC_ev rfl
@[simp] theorem sRow_z {k : Int} {f : EnD → M D} : WS (sRow 0 k f (some (.val .row) :: ρ) z) Qn Qr = WP (f (some (.val .row) :: ρ)) z fun d z' => WP (mopt (asI d)) z' fun n z'' => WP (mopt (rowPut k n z')) z'' fun z3 _ => Qn (some (.val .row) :: ρ) z3 := sRow_ev rfl
@[simp] theorem rowGet1 : rowGet 1 z = some z.place := rfl
@[simp] theorem rowGet2 : rowGet 2 z = some z.seed := rfl
@[simp] theorem rowGet3 : rowGet 3 z = some z.rest := rfl
@[simp] theorem rowPut1 {n : Int} : rowPut 1 n z = some { z with place := n } := rfl
@[simp] theorem rowPut2 {n : Int} : rowPut 2 n z = some { z with seed := n } := rfl
@[simp] theorem rowPut3 {n : Int} : rowPut 3 n z = some { z with rest := n } := rfl
@[simp] theorem asB_bl {b : Bool} : asB (.bl b) = some b := rfl
@[simp] theorem asI_int {n : Int} : asI (.int n) = some n := rfl
@[simp] theorem asS_str {s : List Nat} : asS (.str s) = some s := rfl
@[simp] theorem asT_tup {s : List D} : asT (.tup s) = some s := rfl
@[simp] theorem intD_int {n : Int} : DL.intD (.int n) = some (.int n) := rfl
@[simp] theorem gtD_int {a b : Int} : gtD (.int a) (.int b) = some (.bl (decide (b < a))) := rfl
@[simp] theorem geD_int {a b : Int} : geD (.int a) (.int b) = some (.bl (decide (b ≤ a))) := rfl
@[simp] theorem ltD_int {a b : Int} : ltD (.int a) (.int b) = some (.bl (decide (a < b))) := rfl
@[simp] theorem leD_int {a b : Int} : leD (.int a) (.int b) = some (.bl (decide (a ≤ b))) := rfl
@[simp] theorem addD_int {a b : Int} : addD (.int a) (.int b) = some (.int (a + b)) := rfl
@[simp] theorem subD_int {a b : Int} : subD (.int a) (.int b) = some (.int (a - b)) := rfl
@[simp] theorem negD_int {a : Int} : negD (.int a) = some (.int (-a)) := rfl
@[simp] theorem modD_int {a b : Int} : modD (.int a) (.int b) = if 0 < b then some (.int (a % b)) else none := rfl
@[simp] theorem fdivD_int {a b : Int} : fdivD (.int a) (.int b) = if 0 < b ∧ b < 1073741824 then some (.int (a / b)) else none := rfl
@[simp] theorem lenD_tup {s : List D} : lenD (.tup s) = some (.int s.length) := rfl
@[simp] theorem lenD_lst {s : List D} : lenD (.lst s) = some (.int s.length) := rfl
@[simp] theorem tupD_lst {s : List D} : tupD (.lst s) = some (.tup s) := rfl
@[simp] theorem tupD_tup {s : List D} : tupD (.tup s) = some (.tup s) := rfl
@[simp] theorem iterD_str {s : List Nat} : iterD (.str s) = some (s.map fun c => .str [c]) := rfl
@[simp] theorem iterD_tup {s : List D} : iterD (.tup s) = some s := rfl
@[simp] theorem iterD_lst {s : List D} : iterD (.lst s) = some s := rfl
@[simp] theorem items_tup {s : List D} : items (.tup s) = some s := rfl
@[simp] theorem items_lst {s : List D} : items (.lst s) = some s := rfl
@[simp] theorem isD_non {d : D} : isD d .non = some (.bl (isNonD d)) := by cases d <;> rfl
@[simp] theorem isNotD_non {d : D} : isNotD d .non = some (.bl (!isNonD d)) := by unfold isNotD; rw [isD_non]; rfl
@[simp] theorem WP_ites {α : Type} {c : Prop} [Decidable c] {a : α} {Q : α → S → Prop} : WP (mopt (if c then some a else none)) z Q = (c ∧ Q a z) := by
  by_cases h : c
  · rw [if_pos h, WP_some]; simp [h]
  · rw [if_neg h, WP_none]; simp [h]
end
end DL
set_option Elab.async false
set_option linter.all false
set_option maxRecDepth 100000
set_option maxHeartbeats 1000000
namespace DL
open PySem PySem.Spec PyProof.Rows L2

def okS (z : List Nat) : Bool := z.all fun c => decide (c < 1114112)
theorem strOk_ST {z : List Nat} : PyData.strOk (ST z) = okS z := by
  unfold PyData.strOk okS ST
  rw [← Array.all_toList]
theorem shp_str {z : List Nat} (h : okS z = true) : shp (.str z) = some (.str (ST z)) := by
  unfold shp
  simp only [py, Option.bind_some]
  rw [if_pos]
  unfold SeqAt.shaped
  simp only [PyData.canLay0, strOk_ST, h, PyData.depth, Bool.true_and]
  rfl
@[simp] theorem shp_int {i : Int} : shp (.int i) = some (.int i) := rfl
@[simp] theorem shp_bl {i : Bool} : shp (.bl i) = some (.bool i) := rfl
@[simp] theorem shp_non : shp .non = some .none := rfl
theorem ST_beq {a b : List Nat} : (ST a == ST b) = decide (a = b) := by
  by_cases h : a = b
  · subst h; simp
  · rw [decide_eq_false h, beq_eq_false_iff_ne]
    exact fun e => h (ST_inj e)
@[simp] theorem eqv_str {a b : List Nat} : PyData.eqv (.str (ST a)) (.str (ST b)) = decide (a = b) := by
  show (ST a == ST b) = _
  exact ST_beq
theorem eqD_str {a b : List Nat} (ha : okS a = true) (hb : okS b = true) : eqD (.str a) (.str b) = some (.bl (decide (a = b))) := by
  unfold eqD
  rw [shp_str ha, shp_str hb]
  simp
theorem neD_str {a b : List Nat} (ha : okS a = true) (hb : okS b = true) : neD (.str a) (.str b) = some (.bl (!decide (a = b))) := by
  unfold neD
  rw [shp_str ha, shp_str hb]
  simp
@[simp] theorem eqD_int {a b : Int} : eqD (.int a) (.int b) = some (.bl (decide (a = b))) := by
  show some (D.bl (a == b)) = _
  rw [show (a == b) = decide (a = b) by by_cases h : a = b <;> simp [h]]
@[simp] theorem eqD_bl {a b : Bool} : eqD (.bl a) (.bl b) = some (.bl (a == b)) := rfl
@[simp] theorem neD_int {a b : Int} : neD (.int a) (.int b) = some (.bl (!decide (a = b))) := by
  show some (D.bl (!(a == b))) = _
  rw [show (a == b) = decide (a = b) by by_cases h : a = b <;> simp [h]]
theorem py_strs : ∀ zs : List (List Nat), pyAll (zs.map .str) = some (zs.map fun z => .str (ST z))
  | [] => rfl
  | z :: zs => by
    rw [List.map_cons, pyAll, py, py_strs zs]
    rfl
theorem lay_strs : ∀ {zs : List (List Nat)}, (∀ z ∈ zs, okS z = true) → PyData.canLayAll0 (zs.map fun z => PyData.str (ST z)) = true
  | [], _ => rfl
  | z :: zs, h => by
    rw [List.map_cons, PyData.canLayAll0, lay_strs fun y hy => h y (List.mem_cons_of_mem _ hy), PyData.canLay0, strOk_ST, h z (List.mem_cons_self ..)]
    rfl
theorem dep_strs : ∀ zs : List (List Nat), PyData.depthAll (zs.map fun z => PyData.str (ST z)) = 0
  | [] => rfl
  | z :: zs => by
    rw [List.map_cons, PyData.depthAll, dep_strs zs]
    rfl
theorem shaped_strs {zs : List (List Nat)} (h : ∀ z ∈ zs, okS z = true) : SeqAt.shaped (.list (zs.map fun z => PyData.str (ST z))) = true := by
  unfold SeqAt.shaped
  simp only [PyData.canLay0, lay_strs h, PyData.depth, dep_strs]
  rfl
theorem shaped_strsT {zs : List (List Nat)} (h : ∀ z ∈ zs, okS z = true) : SeqAt.shaped (.tuple (zs.map fun z => PyData.str (ST z))) = true := by
  unfold SeqAt.shaped
  simp only [PyData.canLay0, lay_strs h, PyData.depth, dep_strs]
  rfl
theorem any_strs {w : List Nat} : ∀ zs : List (List Nat), ((zs.map fun z => PyData.str (ST z)).any fun z => PyData.eqv z (.str (ST w))) = zs.any fun z => decide (z = w)
  | [] => rfl
  | z :: zs => by
    rw [List.map_cons, List.any_cons, List.any_cons, any_strs zs, eqv_str]
theorem inD_gen {w : List Nat} {zs : List (List Nat)} {e : D} (he : items e = some (zs.map .str)) (hw : okS w = true) (h : ∀ z ∈ zs, okS z = true) : inD (.str w) e = some (.bl (zs.any fun z => decide (z = w))) := by
  unfold inD
  rw [he, shp_str hw]
  simp only [Option.bind_some, py_strs]
  rw [if_pos (shaped_strs h), any_strs]
theorem inD_tup {w : List Nat} {zs : List (List Nat)} (hw : okS w = true) (h : ∀ z ∈ zs, okS z = true) : inD (.str w) (.tup (zs.map .str)) = some (.bl (zs.any fun z => decide (z = w))) := inD_gen rfl hw h
theorem inD_lst {w : List Nat} {zs : List (List Nat)} (hw : okS w = true) (h : ∀ z ∈ zs, okS z = true) : inD (.str w) (.lst (zs.map .str)) = some (.bl (zs.any fun z => decide (z = w))) := inD_gen rfl hw h
theorem notInD_tup {w : List Nat} {zs : List (List Nat)} (hw : okS w = true) (h : ∀ z ∈ zs, okS z = true) : notInD (.str w) (.tup (zs.map .str)) = some (.bl (!zs.any fun z => decide (z = w))) := by
  unfold notInD
  rw [items_tup, shp_str hw]
  simp only [Option.bind_some, py_strs]
  rw [if_pos (shaped_strs h), any_strs]
theorem sIx_pos (n d : Nat) {i : Int} (h : 0 ≤ i) : HT.sIx n d (some i) = min i.toNat n := by
  obtain ⟨k, rfl⟩ := Int.eq_ofNat_of_zero_le h
  rw [HT.sIx_nat]
  rfl
theorem cutL_hi {α : Type} {xs : List α} {i : Int} (h : 0 ≤ i) : cutL xs none (some i) = xs.take i.toNat := by
  unfold cutL
  rw [HT.sIx_none, sIx_pos _ _ h, List.drop_zero, Nat.sub_zero]
  rw [List.take_eq_take_iff]
  omega
theorem cutL_lo {α : Type} {xs : List α} {i : Int} (h : 0 ≤ i) : cutL xs (some i) none = xs.drop i.toNat := by
  unfold cutL
  rw [HT.sIx_none, sIx_pos _ _ h]
  by_cases c : i.toNat ≤ xs.length
  · rw [Nat.min_eq_left c, List.take_of_length_le]
    rw [List.length_drop]
    omega
  · rw [Nat.min_eq_right (by omega), List.drop_of_length_le (Nat.le_refl _), List.drop_of_length_le (by omega), List.take_nil]
theorem slD_str {z : List Nat} {lo hi : Option Int} (h : z.length ≤ 16777216) : slD (.str z) lo hi = some (.str (cutL z lo hi)) := by
  show (if z.length ≤ sizeLine then some (D.str (cutL z lo hi)) else none) = _
  rw [if_pos (by rw [sizeLine_eq]; exact h)]
@[simp] theorem slD_tup {z : List D} {lo hi : Option Int} : slD (.tup z) lo hi = some (.tup (cutL z lo hi)) := rfl
@[simp] theorem ixA_tup {z : List D} {i : Int} : ixA (.tup z) (.int i) = atI z i := rfl
@[simp] theorem ixA_lst {z : List D} {i : Int} : ixA (.lst z) (.int i) = atI z i := rfl
@[simp] theorem ixA_dS {es : List (List Nat × D)} {k : List Nat} : ixA (.dS es) (.str k) = getS es k := rfl
theorem ixA_str {z : List Nat} {i : Int} (h : z.length ≤ 16777216) : ixA (.str z) (.int i) = (atI z i).map fun c => .str [c] := by
  show (if z.length ≤ sizeLine then _ else _) = _
  rw [if_pos (by rw [sizeLine_eq]; exact h)]
theorem lenD_str {z : List Nat} (h : z.length ≤ 16777216) : lenD (.str z) = some (.int z.length) := by
  show (if z.length ≤ sizeLine then some (D.int z.length) else none) = _
  rw [if_pos (by rw [sizeLine_eq]; exact h)]
theorem atI_pos {α : Type} {xs : List α} {i : Int} (h0 : 0 ≤ i) : atI xs i = xs[i.toNat]? := by
  unfold atI ixN
  rw [if_pos h0]
  split
  · rfl
  · rw [List.getElem?_eq_none (by omega)]; rfl
theorem atI_neg {α : Type} {xs : List α} {i : Int} (h0 : i < 0) (h1 : -(xs.length : Int) ≤ i) : atI xs i = xs[(i + xs.length).toNat]? := by
  unfold atI ixN
  rw [if_neg (by omega), if_pos h1]
  rfl
@[simp] theorem countS_one {z : List Nat} {c : Nat} : countS z (.str [c]) = some (.int (z.count c)) := rfl
theorem compL_range {i : Nat} {t : EnD → M Bool} {f : EnD → M D} {tb : Nat → Bool} {fb : Nat → D} {ρ : EnD} {lo : Int} {n : Nat}
    (h : ∀ k, k < n → t ((ρ.set i none).set i (some (.val (.int (lo + (k : Int)))))) = mpure (tb k) ∧ (tb k = true → f ((ρ.set i none).set i (some (.val (.int (lo + (k : Int)))))) = mpure (fb k))) : compL i t f (rangeD lo n) ρ = mpure (((List.range n).filter tb).map fb) := by
  have gen : ∀ ks : List Nat, (∀ k ∈ ks, k < n) → compL i t f (ks.map fun (k : Nat) => D.int (lo + (k : Int))) ρ = mpure ((ks.filter tb).map fb) := by
    intro ks
    induction ks with
    | nil => intro _; rfl
    | cons k ks ih =>
      intro hk
      have hk0 := h k (hk k (List.mem_cons_self ..))
      apply WP_pure_of
      intro z
      rw [List.map_cons, compL_cons, hk0.1, WP_pure, ih fun y hy => hk y (List.mem_cons_of_mem _ hy)]
      cases e : tb k with
      | true =>
        rw [if_pos rfl, hk0.2 e, WP_pure, WP_pure, List.filter_cons_of_pos e]
        exact ⟨rfl, rfl⟩
      | false =>
        rw [if_neg Bool.false_ne_true, WP_pure, List.filter_cons_of_neg (by rw [e]; exact Bool.false_ne_true)]
        exact ⟨rfl, rfl⟩
  exact gen _ fun k hk => List.mem_range.mp hk
@[simp] theorem okS_nil : okS [] = true := rfl
@[simp] theorem okS_cons {c : Nat} {z : List Nat} : okS (c :: z) = (decide (c < 1114112) && okS z) := rfl
theorem py_ints : ∀ zs : List Int, pyAll (zs.map .int) = some (zs.map .int)
  | [] => rfl
  | z :: zs => by
    rw [List.map_cons, pyAll, py, py_ints zs]
    rfl
theorem shaped_ints {zs : List Int} : SeqAt.shaped (.list (zs.map PyData.int)) = true ∧ SeqAt.shaped (.tuple (zs.map PyData.int)) = true := by
  have h : PyData.canLayAll0 (zs.map PyData.int) = true ∧ PyData.depthAll (zs.map PyData.int) = 0 := by
    induction zs with
    | nil => exact ⟨rfl, rfl⟩
    | cons z zs ih =>
      rw [List.map_cons, PyData.canLayAll0, PyData.depthAll, ih.1, ih.2]
      exact And.intro rfl rfl
  unfold SeqAt.shaped
  simp only [PyData.canLay0, h.1, PyData.depth, h.2]
  exact ⟨rfl, rfl⟩
theorem eqv_ints : ∀ a b : List Int, PyData.eqvAll (a.map .int) (b.map .int) = decide (a = b)
  | [], [] => rfl
  | [], _ :: _ => rfl
  | _ :: _, [] => rfl
  | x :: a, y :: b => by
    rw [List.map_cons, List.map_cons, PyData.eqvAll, eqv_ints a b, show PyData.eqv (.int x) (.int y) = (x == y) from rfl, show (x == y) = decide (x = y) by by_cases h : x = y <;> simp [h]]
    by_cases h1 : x = y <;> by_cases h2 : a = b <;> simp [h1, h2]
theorem shp_ints {a : List Int} : shp (.lst (a.map .int)) = some (.list (a.map .int)) ∧ shp (.tup (a.map .int)) = some (.tuple (a.map .int)) := by
  unfold shp
  simp only [py, py_ints, Option.map_some, Option.bind_some]
  exact ⟨if_pos shaped_ints.1, if_pos shaped_ints.2⟩
theorem eqv_strs : ∀ a b : List (List Nat), PyData.eqvAll (a.map fun z => .str (ST z)) (b.map fun z => .str (ST z)) = decide (a = b)
  | [], [] => rfl
  | [], _ :: _ => rfl
  | _ :: _, [] => rfl
  | x :: a, y :: b => by
    rw [List.map_cons, List.map_cons, PyData.eqvAll, eqv_strs a b, eqv_str]
    by_cases h1 : x = y <;> by_cases h2 : a = b <;> simp [h1, h2]
theorem shp_strs {a : List (List Nat)} (h : ∀ z ∈ a, okS z = true) : shp (.tup (a.map .str)) = some (.tuple (a.map fun z => .str (ST z))) ∧ shp (.lst (a.map .str)) = some (.list (a.map fun z => .str (ST z))) := by
  unfold shp
  simp only [py, py_strs, Option.map_some, Option.bind_some]
  exact ⟨if_pos (shaped_strsT h), if_pos (shaped_strs h)⟩
theorem eqV_str {a b : List Nat} : eqV (.str (ST a)) (.str (ST b)) = decide (a = b) := ST_beq
theorem countT_strs {w : List Nat} : ∀ zs : List (List Nat), countT (.tup (zs.map .str)) (.str w) = some (.int (zs.countP fun z => decide (z = w))) := fun zs => by
  have h : (zs.map D.str).mapM flatD = some (zs.map fun z => V.str (ST z)) := by
    induction zs with
    | nil => rfl
    | cons z zs ih =>
      rw [List.map_cons, List.mapM_cons, ih]
      rfl
  have e : flatD (.str w) = some (V.str (ST w)) := rfl
  simp only [countT, e, h, Option.bind_some]
  congr 2
  rw [List.countP_map]
  congr 1
  apply congrFun
  apply congrArg
  funext z
  exact eqV_str
end DL
set_option Elab.async false
set_option linter.all false
set_option maxRecDepth 100000
set_option maxHeartbeats 1000000
namespace GX
open PySem PySem.Spec PyProof.Rows L2 GenW GxR

section
variable {Z : L2.Cx} {A : Around} {R : GenEnd} {Y : Protocol} {κ : Type} {J : It} {tg elt iter : Expr} {ifs : List Expr} {scope : Scope} {pos : Pos} {it : Addr} {fp : List Addr} {tn : Nat → Heap → Prop} {σ0 : L2.St} {g : TG} {tt : TT} {te : TE} {vs : List Nat}
  {PO : κ → List (Addr × Obj) → Prop} {W : Nat → Nat → κ → Hp → Prop} {Zd : κ → Hp → Prop} {Yd : Nat → Nat → κ → V → Hp → Prop} {Fu : Nat → κ → Nat → Prop}

end

abbrev sumO (i : Int) (t : Tok) (c : Nat) : Obj := { cls := .type "list", dict := none, data := .seq #[.int i t] c, slots := #[] }
/-- the consumer's total is another -/
structure Put (S : Addr) (i : Int) (s s' : Shared) : Prop where
  os : s'.os = s.os
  bare : AllBare s'.gens
  keep : ∀ b o, b ≠ S → s.heap.get? b = some o → s'.heap.get? b = some o
  own : ∃ t c, s'.heap.get? S = some (sumO i t c)
def YS (sc : Shared) (a g : Nat) (S : Addr) : Protocol := fun n s₀ v s kap =>
  s.os = sc.os ∧ AllBare s.gens ∧ s.heap.NoLimit ∧ s.heap.IsGen a g ∧ (∀ o, s₀.heap.get? S = some o → s.heap.get? S = some o) ∧ ∃ i t c b tb, s.heap.get? S = some (sumO i t c) ∧ v = Value.int b tb ∧ ∀ s', Put S (i + b) s s' → kap (.send .none) s'
def ES (X : L2.Cx) (sc : Shared) (H : Hp) (fp : List Addr) (S : Addr) (Qe : Int → Hp → Prop) (n : Nat) (s₀ s : Shared) : Prop :=
  s.os = sc.os ∧ AllBare s.gens ∧ (∀ o, s₀.heap.get? S = some o → s.heap.get? S = some o) ∧ ∃ H' i t c, Un (frs X.stack) fp H H' sc.heap s.heap ∧ HOk X.prog X.w H' s.heap ∧ H' S = none ∧ s.heap.get? S = some (sumO i t c) ∧ Qe i H'
def RS (X : L2.Cx) (sc : Shared) (H : Hp) (fp : List Addr) (S : Addr) (Qe : Int → Hp → Prop) : GenEnd := fun n s₀ r s => r = .ok .next ∧ ES X sc H fp S Qe n s₀ s
section
variable {X : L2.Cx} {sc : Shared} {H : Hp} {fp : List Addr} {a g : Nat} {S : Addr} {Qe : Int → Hp → Prop} {A : Around} {R : Result → Shared → Prop}
end
/-- one turn of a generator expression whose items are summed; t: the total -/
def GTS (J : It) (g : TG) (tt : TT) (te : TE) (vs : List Nat) (σ0 : L2.St) (Qe : Int → Hp → Prop) (W : Nat → Nat → Int → Hp → Prop) : Prop :=
  ∀ i m t H, W i m t H → (J.stop i H ∧ Qe t H) ∨ (J.go i H ∧ ∀ x H', J.yld i H x H' → g x σ0 H' fun σ2 H2 => wipe σ2 vs = σ0 ∧ tt σ2 H2 fun b H3 =>
    if b = true then te σ2 H3 fun y H4 => 0 < m ∧ ∃ b, y = .int b ∧ ∃ m', m' < m ∧ W (i + 1) m' (t + b) H4 else ∃ m', m' < m ∧ W (i + 1) m' t H3)
def bSum (g : TG) (tt : TT) (te : TE) (vs : List Nat) : It → L2.St → Hp → VK → Prop := fun J σ H Q => ∃ W, (∃ m, W 0 m 0 H) ∧ GTS J g tt te vs (wipe σ vs) (fun t H' => Q (.int t) H') W
section
variable {X : L2.Cx} {pins : List (Addr × Obj)} {σ : L2.St} {H : Hp}
end
end GX
set_option Elab.async false
set_option linter.all false
set_option maxRecDepth 100000
set_option maxHeartbeats 1000000
namespace DL
open PySem PySem.Spec PyProof.Rows L2 GX GenW GxR

def sumL (i : Nat) (t : EnD → M Bool) (f : EnD → M D) : List D → EnD → M Int
  | [], _ => mpure 0
  | x :: xs, ρ => mbind (mne (t ((ρ.set i none).set i (some (.val x))))) fun b =>
    if b then mbind (mne (f ((ρ.set i none).set i (some (.val x))))) fun d => mbind (mopt (asI d)) fun k => mbind (sumL i t f xs ρ) fun n => mpure (k + n)
    else sumL i t f xs ρ
def eSumG (i : Nat) (xs : EnD → M (List D)) (t : EnD → M Bool) (f : EnD → M D) : EnD → M D := fun ρ => mbind (xs ρ) fun l =>
  if ownAt ρ i = false then mbind (sumL i t f l ρ) fun n => mpure (.int n) else mbad
section
variable {X : L2.Cx} {T : Tb} {E : XK} {fi : EnD → M (List D)} {t : EnD → M Bool} {f fa fb : EnD → M D} {elt iter tg a b : Expr} {ifs : List Expr} {scope : Scope} {pos gpos p apos pp : Pos} {x : Str} {i : Nat} {px : Pos} {k : Nat} {c P : Addr}
def combD : D → D → Option D
  | .int n, .int j => if 0 ≤ n ∧ 0 ≤ j ∧ n ≤ 1000 then some (.int (PySem.W.mcComb n j)) else none
  | _, _ => none
def rComb : List V → Hp → VK → Prop := fun vs H Q => ∃ n j : Int, vs = [.int n, .int j] ∧ 0 ≤ n ∧ 0 ≤ j ∧ n ≤ 1000 ∧ Q (.int (PySem.W.mcComb n j)) H
end
end DL
set_option Elab.async false
set_option linter.all false
set_option maxRecDepth 100000
set_option maxHeartbeats 1000000
namespace DL
open PySem PySem.Spec PyProof.Rows L2

def tblD (tbl : List (List Nat × D)) : D → Option D
  | .str w => getS tbl w
  | _ => none
def eCallN (adr : Nat → Addr) (fs : Nat → Option (List D → M D)) (i : Nat) (as : List (EnD → M D)) : EnD → M D := fun ρ => match ρ[i]? with
  | some (some (.val (.fn j a))) => if a = adr j then (match fs j with
    | some F => mbind (evs as ρ) fun ds => mne (F ds)
    | none => mbad) else mbad
  | _ => mbad
section
variable {X : L2.Cx} {T : Tb} {E : XK} {b e : Expr} {es : List Expr} {fb : EnD → M D} {fas : List (EnD → M D)} {pos p px : Pos} {x : Str} {i k n : Nat}
/-- what a written dict holds -/
structure KTab (K : PySem.W.Frag) (w : World) (a : Addr) (tbl : List (List Nat × D)) : Prop where
  at_ : ∀ z d, getS tbl z = some d → ∃ v, KDct K w a (ST z) v ∧ WR K v d
theorem ktab_of {K : PySem.W.Frag} {w : World} {a : Addr} {tbl : List (List Nat × D)} (h : ∀ p ∈ tbl, ∃ v, KDct K w a (ST p.1) v ∧ WR K v p.2) : KTab K w a tbl := by
  refine ⟨fun z d e => ?_⟩
  unfold getS at e
  obtain ⟨p, hp, rfl⟩ := Option.map_eq_some_iff.mp e
  have h1 := List.mem_of_find?_eq_some hp
  have h2 := List.find?_some hp
  have h3 : p.1 = z := of_decide_eq_true h2
  rw [← h3]
  exact h p h1
theorem pu_ixK {tbl : List (List Nat × D)} {ad : Addr} (hg : Gl X x) (hm : X.mg x = some (.ref ad)) (hT : KTab X.K X.w ad tbl) (hb : PE X b (tD (yx X T E) fb)) (hs : PlainIx b := by intro _ _; rfl) (hd : (x == ("__debug__" : Str)) = false := by decide) :
    PE X (.Subscript (.Name x px) b pos) (tD (yx X T E) (e1 (op1 (tblD tbl)) fb)) :=
  PE_imp (pe_ix ix_kdict (pe_glob hg hm (v := .ref ad) rfl hd) hb hs) fun σ H Q h => by
    obtain ⟨g, ρ, z, st, a⟩ := tD_bind (k := fun _ => op1 (tblD tbl)) h
    refine ⟨g, ρ, z, st, a.imp fun d z1 _ h1 v H1 st1 e1 r1 => ?_⟩
    obtain ⟨g2, ρ2, z2, d2, st2, r2, a2⟩ := h1 v H1 st1 e1 r1
    obtain ⟨r, hr, q⟩ := a2.opt
    cases d2 <;> simp only [tblD, reduceCtorEq] at hr
    obtain ⟨v2, hk, hw⟩ := hT.at_ _ _ hr
    cases r2.str
    exact ⟨ad, _, v2, rfl, rfl, hk, q _ H1 st2 .refl (hw _ _ _ fun a ha => st2.badK ha)⟩
theorem R1.fnv {K : PySem.W.Frag} {H : Hp} {R : Addr} {B : Addr → Prop} {v : V} {j : Nat} {a : Addr} (h : R1 K H R B v (.fn j a)) : v = .ref a := by
  cases h with | atom a _ => cases a; rfl
theorem pu_callN {adr : Nat → Addr} {fs : Nat → Option (List D → M D)} (hF : ∀ j F, fs j = some F → Held X.prog X.w X.K X.mg X.base k (adr j) (spD X.K T X.mg n F)) (hr : Room k X.A) (hN : X.N[i]? = some x) (hv : Vis X.env.scope x) (ha : PA X (e :: es) (taD (yx X T E) (evs fas))) (hn : fas.length = n := by rfl)
    (hdb : (x == ("__debug__" : Str)) = false := by decide) (hcd : (x == ("__classdict__" : Str)) = false := by decide)
    (he : starEach (e :: es) X.env = (false, eval e X.env) :: starEach es X.env := by rfl) (hpl : (backTo pos (starEach es X.env)).any (·.1) = false := by rfl) :
    PE X (.Call (.Name x p) (e :: es) [] pos) (tD (yx X T E) (eCallN adr fs i fas)) :=
  PE_imp (pe_callM hr hN hv ha hdb hcd he hpl) fun σ H Q h => by
    obtain ⟨g, ρ, z, st, a⟩ := h
    unfold eCallN at a
    cases e1 : ρ[i]? with
    | none => rw [e1] at a; exact a.elim
    | some o =>
      cases o with
      | none => rw [e1] at a; exact a.elim
      | some sl =>
        cases sl with
        | own d => rw [e1] at a; exact a.elim
        | val d =>
          cases d with
          | fn j ad =>
            rw [e1] at a
            simp only at a
            by_cases c : ad = adr j
            · rw [if_pos c] at a
              cases e2 : fs j with
              | none => rw [e2] at a; exact a.elim
              | some F =>
                rw [e2] at a
                simp only at a
                subst c
                obtain ⟨v, hs, rv⟩ := st.val i _ e1
                cases rv.fnv
                refine ⟨adr j, _, hs, hF j F e2, ?_⟩
                refine ta_mono (ta_bind (k := fun ds => mne (F ds)) ⟨g, ρ, z, st, a⟩) fun vs H1 ⟨hl, g2, ρ2, z2, ds, st2, r2, a2⟩ => ?_
                have a3 : After (yx X T (fun _ _ _ => False)) g2 (F ds z2) fun d z' => ∀ v H', StR (yx X T (fun _ _ _ => False)) g2 H' σ ρ2 z' → Ext g2.R H1 H' → R1 X.K H' g2.R (bad g2 σ ρ2) v d → Q v H' :=
                  (After.ne (Y' := yx X T (fun _ _ _ => False)) (g' := g2) a2).imp fun d z' _ q v H' st' ex r => q v H' st'.chE ex r
                exact spD_of (E := fun _ _ _ => False) (hl.trans hn) st2.chE r2 a3
            · rw [if_neg c] at a
              exact a.elim
          | _ => rw [e1] at a; exact a.elim
end
end DL
set_option Elab.async false
set_option linter.all false
set_option maxRecDepth 100000
set_option maxHeartbeats 1000000
namespace DL
open PySem PySem.Spec PyProof.Rows L2

section
variable {Y : Yx} {g : G} {H H' : Hp} {σ : L2.St} {ρ : EnD} {z : S} {i : Nat} {p a : Addr} {d : D}
theorem bad_own (hl : σ.length = ρ.length) (h : ownAt ρ i = false) (hi : i < ρ.length) : bad g (σ.set i (some (.ref p))) (ρ.set i (some (.own d))) = bad (gd g p) σ ρ := by
  funext a
  apply propext
  constructor
  · rintro (h1 | ⟨j, e, h1, h2⟩)
    · exact .inl (.inl h1)
    · by_cases c : i = j
      · subst c
        rw [List.getElem?_set_self (by rw [hl]; exact hi)] at h2
        cases h2
        exact .inl (.inr rfl)
      · rw [List.getElem?_set_ne c] at h1 h2
        exact .inr ⟨j, e, h1, h2⟩
  · rintro ((h1 | rfl) | ⟨j, e, h1, h2⟩)
    · exact .inl h1
    · exact .inr ⟨i, d, List.getElem?_set_self hi, List.getElem?_set_self (by rw [hl]; exact hi)⟩
    · have c : i ≠ j := fun c => by subst c; exact ownAt_not h e h1
      exact .inr ⟨j, e, by rw [List.getElem?_set_ne c]; exact h1, by rw [List.getElem?_set_ne c]; exact h2⟩
theorem StR.setOwn (st : StR Y (gd g p) H σ ρ z) (gR : g.B g.R) (h : ownAt ρ i = false) (hi : i < ρ.length) (n : ¬ g.B p) (h0 : g.H0 p = none) (hk : Y.K.lookup p = none) (o : OwnAt Y.K H g.R (bad (gd g p) σ ρ) p d) :
    StR Y g H (σ.set i (some (.ref p))) (ρ.set i (some (.own d))) z where
  wo := by unfold gb; rw [bad_own st.len h hi]; exact st.wo
  gR := gR
  len := by rw [List.length_set, List.length_set]; exact st.len
  val := fun j e hj => by
    rw [bad_own st.len h hi]
    rcases set_some hj with ⟨rfl, e1, hl⟩ | ⟨ne, hj⟩
    · cases e1
    · obtain ⟨v, h1, h2⟩ := st.val j e hj
      exact ⟨v, by rw [List.getElem?_set_ne ne]; exact h1, h2⟩
  own := fun j e hj => by
    rw [bad_own st.len h hi]
    rcases set_some hj with ⟨rfl, e1, hl⟩ | ⟨ne, hj⟩
    · cases e1
      exact ⟨p, List.getElem?_set_self (by rw [st.len]; exact hi), n, h0, hk, o⟩
    · obtain ⟨a, h1, h2, h3, h4, h5⟩ := st.own j e hj
      exact ⟨a, by rw [List.getElem?_set_ne ne]; exact h1, fun q => h2 (.inl q), h3, h4, h5⟩
  inj := fun j k e e' a hj hk' h1 h2 => by
    have key : ∀ (j : Nat) (e : D), i ≠ j → ρ[j]? = some (some (.own e)) → σ[j]? ≠ some (some (.ref p)) := fun j e ne hj q => by
      obtain ⟨a, q1, q2, _⟩ := st.own j e hj
      rw [q] at q1
      cases q1
      exact q2 (.inr rfl)
    rcases set_some hj with ⟨rfl, e1, hl⟩ | ⟨ne, hj⟩
    · rcases set_some hk' with ⟨rfl, e2, hl2⟩ | ⟨ne', hk'⟩
      · rfl
      · rw [List.getElem?_set_self (by rw [st.len]; exact hi)] at h1
        rw [List.getElem?_set_ne ne'] at h2
        cases h1
        exact absurd h2 (key k e' ne' hk')
    · rcases set_some hk' with ⟨rfl, e2, hl2⟩ | ⟨ne', hk'⟩
      · rw [List.getElem?_set_self (by rw [st.len]; exact hi)] at h2
        rw [List.getElem?_set_ne ne] at h1
        cases h2
        exact absurd h1 (key j e ne hj)
      · rw [List.getElem?_set_ne ne] at h1
        rw [List.getElem?_set_ne ne'] at h2
        exact st.inj j k e e' a hj hk' h1 h2
  ext := st.ext
theorem OwnAt.nx {K : PySem.W.Frag} {R b : Addr} {B : Addr → Prop} {e : D} {o : HO} (h : OwnAt K H R B b e) (q : H b = some o) : ∀ φ, o ≠ .ext φ := fun φ z => by
  subst z
  cases e <;> first | exact h.elim | (obtain ⟨x, e2, _⟩ := h; rw [q] at e2; cases e2)
/-- what is kept away from is changed -/
theorem StR.upB {o o' : HO} (st : StR Y g H σ ρ z) (hB : g.B p) (hR : p ≠ g.R) (ho : H p = some o) (hn : ∀ ps, o ≠ .tbl ps) (h0 : g.H0 p = none) (hc : ∀ φ, o ≠ .ext φ := by intro φ z; cases z) : StR Y g (upd H p o') σ ρ z where
  wo := st.wo.up (.inl hB) hR ho hn hc
  gR := st.gR
  len := st.len
  val := fun j e hj => by
    obtain ⟨v, h1, h2⟩ := st.val j e hj
    exact ⟨v, h1, h2.mono (RdLe.up (.inl hB))⟩
  own := fun j e hj => by
    obtain ⟨a, h1, h2, h3, h4, h5⟩ := st.own j e hj
    have ne : a ≠ p := fun q => h2 (by rw [q]; exact hB)
    exact ⟨a, h1, h2, h3, h4, h5.mono (RdLe.up (.inl hB)) fun u q _ => by rw [upd_ne ne]; exact q⟩
  inj := st.inj
  ext := ⟨fun a u q h1 h2 => by
    have ne : a ≠ p := fun e => by rw [e, h0] at q; cases q
    rw [upd_ne ne]
    exact st.ext.keep a u q h1 h2, fun a q => by
    by_cases e : a = p
    · rw [e, upd_same]; exact fun z => by cases z
    · rw [upd_ne e]; exact st.ext.dom a q, fun x xs q => (st.ext.row x xs q).elim fun ys e => ⟨ys, by rw [upd_ne (Ne.symm hR)]; exact e⟩⟩
/-- an own dict is written -/
theorem bad_put (hρ : ∃ e, ρ[i]? = some (some (.own e))) : bad g σ (ρ.set i (some (.own d))) = bad g σ ρ := by
  obtain ⟨e0, hρ⟩ := hρ
  have hi : i < ρ.length := (List.getElem?_eq_some_iff.mp hρ).1
  funext a
  apply propext
  constructor
  · rintro (h1 | ⟨j, e, h1, h2⟩)
    · exact .inl h1
    · by_cases c : i = j
      · subst c
        exact .inr ⟨i, e0, hρ, h2⟩
      · rw [List.getElem?_set_ne c] at h1
        exact .inr ⟨j, e, h1, h2⟩
  · rintro (h1 | ⟨j, e, h1, h2⟩)
    · exact .inl h1
    · by_cases c : i = j
      · subst c
        exact .inr ⟨i, d, List.getElem?_set_self hi, h2⟩
      · exact .inr ⟨j, e, by rw [List.getElem?_set_ne c]; exact h1, h2⟩
theorem StR.put {e0 : D} {o' : HO} (st : StR Y g H σ ρ z) (hρ : ρ[i]? = some (some (.own e0))) (hσ : σ[i]? = some (some (.ref a))) (ho : OwnAt Y.K (upd H a o') g.R (bad g σ ρ) a d) : StR Y g (upd H a o') σ (ρ.set i (some (.own d))) z := by
  have hi : i < ρ.length := (List.getElem?_eq_some_iff.mp hρ).1
  obtain ⟨a', s1, s2, s3, s4, s5⟩ := st.own i e0 hρ
  rw [hσ] at s1
  cases s1
  obtain ⟨u, hu, _, hnt⟩ := s5.there
  have hB : bad g σ ρ a := .inr ⟨i, e0, hρ, hσ⟩
  have hR : a ≠ g.R := st.ownNe ⟨i, e0, hρ, hσ⟩
  have be := bad_put (g := g) (σ := σ) (d := d) ⟨e0, hρ⟩
  refine ⟨by unfold gb; rw [be]; exact st.wo.up hB hR hu hnt (s5.nx hu), st.gR, by rw [List.length_set]; exact st.len, fun j e hj => ?_, fun j e hj => ?_, fun j k e e' b hj hk h1 h2 => ?_, ?_⟩
  · rw [be]
    rcases set_some hj with ⟨rfl, e1, hl⟩ | ⟨ne, hj⟩
    · cases e1
    · obtain ⟨v, h1, h2⟩ := st.val j e hj
      exact ⟨v, h1, h2.mono (RdLe.up hB)⟩
  · rw [be]
    rcases set_some hj with ⟨rfl, e1, hl⟩ | ⟨ne, hj⟩
    · cases e1
      exact ⟨a, hσ, s2, s3, s4, ho⟩
    · obtain ⟨b, h1, h2, h3, h4, h5⟩ := st.own j e hj
      have nb : b ≠ a := fun q => ne (st.inj i j e0 e a hρ hj hσ (by rw [← q]; exact h1))
      exact ⟨b, h1, h2, h3, h4, h5.mono (RdLe.up hB) fun u q _ => by rw [upd_ne nb]; exact q⟩
  · have orig : ∀ (j : Nat) (e : D), (ρ.set i (some (.own d)))[j]? = some (some (.own e)) → ∃ e', ρ[j]? = some (some (.own e')) := fun j e hj => by
      rcases set_some hj with ⟨rfl, _, _⟩ | ⟨ne, hj⟩
      · exact ⟨e0, hρ⟩
      · exact ⟨e, hj⟩
    obtain ⟨x1, y1⟩ := orig j e hj
    obtain ⟨x2, y2⟩ := orig k e' hk
    exact st.inj j k x1 x2 b y1 y2 h1 h2
  · refine ⟨fun b u' q h1 h2 => ?_, fun b q => ?_, fun x xs q => ?_⟩
    · have ne : b ≠ a := fun e => by rw [e, s3] at q; cases q
      rw [upd_ne ne]
      exact st.ext.keep b u' q h1 h2
    · by_cases e : b = a
      · rw [e, upd_same]; exact fun z => by cases z
      · rw [upd_ne e]; exact st.ext.dom b q
    · exact (st.ext.row x xs q).elim fun ys e => ⟨ys, by rw [upd_ne (Ne.symm hR)]; exact e⟩
end
def ownD (ρ : EnD) (i : Nat) : Option (List (List Nat × D)) := match ρ[i]? with
  | some (some (.own (.dS es))) => some es
  | _ => none
/-- x[k] = v, x an own dict -/
def sPutO (i : Nat) (fk fv : EnD → M D) : SM := fun ρ z => match ownD ρ i with
  | none => .bad
  | some es => obind (fv ρ z) fun d z1 => obind (fk ρ z1) fun k z2 => match asS k with
    | some w => if es.length < 100000 then .nx (ρ.set i (some (.own (.dS (putS es w d))))) z2 else .bad
    | none => .bad
/-- x[k], x an own dict -/
def eIxO (i : Nat) (fk : EnD → M D) : EnD → M D := fun ρ => mbind (mopt (ownD ρ i)) fun es => mbind (fk ρ) fun k => mopt ((asS k).bind fun w => getS es w)
section
variable {X : L2.Cx} {T : Tb} {E : XK} {b e : Expr} {fb fv : EnD → M D} {pos p px pos' : Pos} {σ : L2.St} {H : Hp} {Q : VK} {x : Str} {i k : Nat}
theorem DSR.rs {K : PySem.W.Frag} {H : Hp} {R : Addr} {B : Addr → Prop} {kvs : List (Key × V)} {es : List (List Nat × D)} (h : DSR K H R B kvs es) {a : Addr} (e : H a = some (.dK kvs)) : OwnAt K H R B a (.dS es) := ⟨kvs, e, h.out.1, h.out.2⟩
/-- x = {} : an own dict -/
def sNewO (i : Nat) : SM := fun ρ z => if ownAt ρ i = false ∧ i < ρ.length then .nx (ρ.set i (some (.own (.dS [])))) z else .bad
end
end DL
set_option Elab.async false
set_option linter.all false
set_option maxRecDepth 100000
set_option maxHeartbeats 1000000
namespace DL
open PySem PySem.Spec PyProof.Rows L2

def sDispO (i : Nat) (ps : List (List Nat × (EnD → M D))) : SM := fun ρ z => obind (evsN (ps.map (·.2)) ρ z) fun ds z' =>
  if ownAt ρ i = false ∧ i < ρ.length then .nx (ρ.set i (some (.own (.dS (putAll [] ((ps.map (·.1)).zip ds)))))) z' else .bad
section
variable {X : L2.Cx} {T : Tb} {E : XK} {B : SM} {rest : List Stmt} {pos pos' dpos : Pos} {x : Str} {i : Nat}
theorem new_wo {Y : Yx} {g : G} {H : Hp} {σ : L2.St} {ρ : EnD} {z : S} {p : Addr} {o : HO} (st : StR Y g H σ ρ z) (hp : H p = none) (hK : Y.K.lookup p = none) : Wo Y.K Y.T (gb (gd g p) σ ρ) (upd H p o) z := by
  obtain ⟨⟨SA, s1, s2, s3⟩, ht, hb, hd, hk⟩ := st.wo
  have hS : SA ≠ p := fun e => by
    rcases s2 with s2 | ⟨o, its, nn, s2, _⟩
    · exact rd_some s2 (by rw [e]; exact hp)
    · rw [e, hK] at s2; cases s2
  have w := st.wo.new (o := o) hp
  obtain ⟨_, ht', hb', hd', hk', hl', hi'⟩ := w
  refine ⟨⟨SA, fun q => ?_, ?_, by rw [upd_ne (ne_of_none s3 hp)]; exact s3⟩, ht', .inl (.inl st.gR), fun a ha => ?_, fun a ha => ?_, hl', hi'⟩
  · have q : bad (gd g p) σ ρ SA := q
    rw [bad_gd] at q
    exact q.elim s1 hS
  · rcases s2 with (q | ⟨ob, q⟩) | q
    · exact .inl (.inl (by rw [upd_ne hS]; exact q))
    · exact .inl (.inr ⟨ob, by rw [upd_ne hS]; exact q⟩)
    · exact .inr q
  · have ha : bad (gd g p) σ ρ a := ha
    rw [bad_gd] at ha
    rcases ha with ha | rfl
    · exact hd' a ha
    · rw [upd_same]; exact fun z => by cases z
  · have ha : bad (gd g p) σ ρ a := ha
    rw [bad_gd] at ha
    rcases ha with ha | rfl
    · exact hk' a ha
    · exact hK
theorem h0_none {Y : Yx} {g : G} {H : Hp} {σ : L2.St} {ρ : EnD} {z : S} {p : Addr} (st : StR Y g H σ ρ z) (hp : H p = none) : g.H0 p = none := by
  cases e : g.H0 p with
  | none => rfl
  | some o => exact absurd hp (st.ext.dom p (by rw [e]; exact fun z => by cases z))
theorem own_stp {R : Addr} {H H' : Hp} {σ : L2.St} {ρ : EnD} {p : Addr} {d : D} (hl : σ.length = ρ.length) (co : ownAt ρ i = false) (hi : i < ρ.length) (hp : H p = none) (ex : Ext R H H') : Stp R σ ρ H (σ.set i (some (.ref p))) (ρ.set i (some (.own d))) H' :=
  ⟨fun b u h1 h2 _ h4 => ex.keep b u h1 h2 h4, ex.dom, fun b q => by
    have be := bad_own (g := ⟨0, fun _ => False, fun _ => none⟩) (p := p) (d := d) hl co hi
    have q2 : bad (⟨0, fun _ => False, fun _ => none⟩ : G) (σ.set i (some (.ref p))) (ρ.set i (some (.own d))) b := .inr q
    rw [be, bad_gd] at q2
    rcases q2 with (h | h) | h
    · exact h.elim
    · exact .inl h
    · exact .inr (by rw [h]; exact hp)⟩
end
end DL
set_option Elab.async false
set_option linter.all false
set_option maxRecDepth 100000
set_option maxHeartbeats 2000000
namespace DL
open PySem PySem.Spec PyProof.Rows L2 HT

section
variable {prog : Program} {w : World} {A : Around} {E : Value → Shared → Prop} {s : Shared}
end
def tRevT (K : PySem.W.Frag) (te : TE) : TE := fun σ H Q => te σ H fun x H1 => ∃ a xs, x = .ref a ∧ SqT K H1 a xs ∧ NT H1 xs.reverse Q
def revD : D → Option D
  | .tup xs => some (.tup xs.reverse)
  | _ => none
theorem Rs.reverse {K : PySem.W.Frag} {H : Hp} {R : Addr} {B : Addr → Prop} : ∀ {vs : List V} {ds : List D}, Rs K H R B vs ds → Rs K H R B vs.reverse ds.reverse
  | [], _, h => by cases h; exact .nil
  | v :: vs, [], h => by cases h
  | v :: vs, d :: ds, h => by
    rw [List.reverse_cons, List.reverse_cons]
    exact (Rs.reverse h.split.2).append h.split.1
end DL
set_option Elab.async false
set_option linter.all false
set_option maxRecDepth 100000
set_option maxHeartbeats 1000000
namespace SUT
open PySem PySem.Spec PyProof.Rows L2
section
variable {prog : Program} {w : World} {A : Around} {E : Value → Shared → Prop} {s : Shared} {l : Addr} {xs : Array (Int × Tok)}
end
section
variable {X : Cx}
def rSumT (K : PySem.W.Frag) : List V → Hp → VK → Prop := fun vs H Q => ∃ (a : Addr) (ns : List Int), vs = [V.ref a] ∧ SqT K H a (ns.map V.int) ∧ Q (.int ns.sum) H
end
end SUT
set_option Elab.async false
set_option linter.all false
set_option maxRecDepth 100000
set_option maxHeartbeats 1000000
namespace DL
open PySem PySem.Spec PyProof.Rows L2

def intsD : List D → Option (List Int)
  | [] => some []
  | .int i :: r => (intsD r).map fun is => i :: is
  | _ => none
def sumD : D → Option D
  | .lst ds => (intsD ds).map fun is => .int is.sum
  | .tup ds => (intsD ds).map fun is => .int is.sum
  | _ => none
def insI (x : Int) : List Int → List Int
  | [] => [x]
  | y :: r => if x ≤ y then x :: y :: r else y :: insI x r
def sortI : List Int → List Int
  | [] => []
  | x :: r => insI x (sortI r)
def sortD : D → Option D
  | .lst ds => (intsD ds).map fun is => .lst ((sortI is).map .int)
  | _ => none
def eGetO1 (i : Nat) (fk : EnD → M D) : EnD → M D := fun ρ => mbind (mopt (ownD ρ i)) fun es => mbind (fk ρ) fun k => mopt ((asS k).map fun w => (getS es w).getD .non)
def eGetO2 (i : Nat) (fk fd : EnD → M D) : EnD → M D := fun ρ => mbind (mopt (ownD ρ i)) fun es => mbind (fk ρ) fun k => mbind (fd ρ) fun d => mopt ((asS k).map fun w => (getS es w).getD d)
section
variable {X : L2.Cx} {T : Tb} {E : XK} {b c e : Expr} {fb fc fv : EnD → M D} {pos p px apos : Pos} {σ : L2.St} {H : Hp} {Q : VK} {x : Str} {i k : Nat}
end
end DL
set_option Elab.async false
set_option linter.all false
set_option maxRecDepth 100000
set_option maxHeartbeats 1000000
namespace DL
open PySem PySem.Spec PyProof.Rows L2

def sPar3 (i j l : Nat) (fa fb fc : EnD → M D) : SM := fun ρ z => obind (evs [fa, fb, fc] ρ z) fun ds z' => match ds with
  | [a, b, c] => if ownAt ρ i || ownAt ρ j || ownAt ρ l then .bad else .nx (((ρ.set i (some (.val a))).set j (some (.val b))).set l (some (.val c))) z'
  | _ => .bad
/-- x[k1], x[k2] = .., x an own dict -/
def sPut2O (i : Nat) (k1 k2 : List Nat) (fa fb : EnD → M D) : SM := fun ρ z => match ownD ρ i with
  | none => .bad
  | some es => obind (evs [fa, fb] ρ z) fun ds z' => match ds with
    | [a, b] => if es.length < 1000 then .nx ((ρ.set i (some (.own (.dS (putS es k1 a))))).set i (some (.own (.dS (putS (putS es k1 a) k2 b))))) z' else .bad
    | _ => .bad
theorem putS_len (es : List (List Nat × D)) (k : List Nat) (d : D) : (putS es k d).length ≤ es.length + 1 := by
  unfold putS
  split
  · rw [List.length_map]; omega
  · simp
section
variable {X : L2.Cx} {T : Tb} {E : XK} {a b c : Expr} {fa fb fc : EnD → M D} {pos p px py pz pt pt2 : Pos} {σ : L2.St} {x y u : Str} {i j l k : Nat}
end
end DL
set_option Elab.async false
set_option linter.all false
set_option maxRecDepth 100000
set_option maxHeartbeats 1000000
namespace DL
open PySem PySem.Spec PyProof.Rows L2

section
variable {α β : Type} {z : S} {ρ : EnD} {i j l : Nat} {d : D} {Qn : EnD → S → Prop} {Qr : D → S → Prop}
theorem eCallN_ev {A : Nat → Addr} {fs : Nat → Option (List D → M D)} {as : List (EnD → M D)} {F : List D → M D} {Q : D → S → Prop} (h : ρ[i]? = some (some (.val (.fn j (A j))))) (hf : fs j = some F) : WP (eCallN A fs i as ρ) z Q = WP (evs as ρ) z fun ds z' => WP (F ds) z' Q := by
  unfold eCallN
  rw [h]
  simp only [if_true, hf]
  rw [WP_bind]
  congr; funext ds z'
  exact WP_ne
@[simp] theorem revD_tup {xs : List D} : revD (.tup xs) = some (.tup xs.reverse) := rfl
@[simp] theorem tblD_str {tbl : List (List Nat × D)} {w : List Nat} : tblD tbl (.str w) = getS tbl w := rfl
@[simp] theorem shlD_int {a b : Int} : shlD (.int a) (.int b) = if 0 ≤ b ∧ b ≤ 1000000 ∧ a.natAbs < 2 ^ 64 then some (.int (a * 2 ^ b.toNat)) else none := rfl
@[simp] theorem combD_int {a b : Int} : combD (.int a) (.int b) = if 0 ≤ a ∧ 0 ≤ b ∧ a ≤ 1000 then some (.int (PySem.W.mcComb a b)) else none := rfl
@[simp] theorem mulI_int {a b : Int} : mulI (.int a) (.int b) = if (-(2 ^ 64) < a ∧ a < 2 ^ 64) ∨ (-(2 ^ 64) < b ∧ b < 2 ^ 64) then some (.int (a * b)) else none := rfl
theorem ints_back : ∀ is : List Int, intsD (is.map .int) = some is
  | [] => rfl
  | i :: is => by
    show intsD (D.int i :: is.map .int) = _
    unfold intsD
    rw [ints_back is]
    rfl
@[simp] theorem sortD_ints {is : List Int} : sortD (.lst (is.map .int)) = some (.lst ((sortI is).map .int)) := by
  show (intsD (is.map .int)).map _ = _
  rw [ints_back]
  rfl
@[simp] theorem sumD_ints {is : List Int} : sumD (.lst (is.map .int)) = some (.int is.sum) := by
  show (intsD (is.map .int)).map _ = _
  rw [ints_back]
  rfl
@[simp] theorem sumD_tints {is : List Int} : sumD (.tup (is.map .int)) = some (.int is.sum) := by
  show (intsD (is.map .int)).map _ = _
  rw [ints_back]
  rfl
@[simp] theorem sPar3_ev {f g h : EnD → M D} : WS (sPar3 i j l f g h ρ z) Qn Qr = WP (f ρ) z fun a z1 => WP (g ρ) z1 fun b z2 => WP (h ρ) z2 fun c z3 => if ownAt ρ i || ownAt ρ j || ownAt ρ l then False else Qn (((ρ.set i (some (.val a))).set j (some (.val b))).set l (some (.val c))) z3 := by
  unfold sPar3; rw [ob_ev]
  have e1 : (WP (f ρ) z fun a z1 => WP (g ρ) z1 fun b z2 => WP (h ρ) z2 fun c z3 => if ownAt ρ i || ownAt ρ j || ownAt ρ l then False else Qn (((ρ.set i (some (.val a))).set j (some (.val b))).set l (some (.val c))) z3) =
      WP (evs [f, g, h] ρ) z (fun ds z' => match ds with | [a, b, c] => if ownAt ρ i || ownAt ρ j || ownAt ρ l then False else Qn (((ρ.set i (some (.val a))).set j (some (.val b))).set l (some (.val c))) z' | _ => False) := by
    rw [evs_cons]; congr; funext a z'; rw [evs_cons]; congr; funext b z''; rw [evs_cons]; congr
  rw [e1]
  unfold WP
  cases evs [f, g, h] ρ z <;> (try rfl)
  rename_i ds z'
  match ds with
  | [] => rfl
  | [a] => rfl
  | [a, b] => rfl
  | [a, b, c] => simp only; split <;> rfl
  | a :: b :: c :: d :: r => rfl
@[simp] theorem sDispO_ev {ps : List (List Nat × (EnD → M D))} : WS (sDispO i ps ρ z) Qn Qr = WP (evsN (ps.map (·.2)) ρ) z fun ds z' => if ownAt ρ i = false ∧ i < ρ.length then Qn (ρ.set i (some (.own (.dS (putAll [] ((ps.map (·.1)).zip ds)))))) z' else False := by
  unfold sDispO; rw [ob_ev]; unfold WP; cases evsN (ps.map (·.2)) ρ z <;> (try rfl); simp only; split <;> rfl
@[simp] theorem sNewO_ev : WS (sNewO i ρ z) Qn Qr = if ownAt ρ i = false ∧ i < ρ.length then Qn (ρ.set i (some (.own (.dS [])))) z else False := by
  unfold sNewO; split <;> rfl
@[simp] theorem ownD_zero {es : List (List Nat × D)} : ownD (some (.own (.dS es)) :: ρ) 0 = some es := rfl
@[simp] theorem ownD_succ {x : Option Sl} : ownD (x :: ρ) (i + 1) = ownD ρ i := rfl
@[simp] theorem ownAt_zo : ownAt (some (.own d) :: ρ) 0 = true := rfl
@[simp] theorem eSumG_ev {xs : EnD → M (List D)} {t : EnD → M Bool} {f : EnD → M D} {Q : D → S → Prop} : WP (eSumG i xs t f ρ) z Q = WP (xs ρ) z fun l z' => if ownAt ρ i = false then WP (sumL i t f l ρ) z' fun n z'' => Q (.int n) z'' else False := by
  unfold eSumG; rw [WP_bind]; congr; funext x z1; rw [WP_ite, WP_bind]; rfl
end
end DL
set_option Elab.async false
set_option linter.all false
set_option maxRecDepth 100000
set_option maxHeartbeats 1000000
namespace DL
open PySem PySem.Spec PyProof.Rows L2

mutual
/-- no dict within -/
def noS : D → Bool
  | .dS _ => false
  | .dT _ _ => false
  | .st _ _ => false
  | .tup xs => noSs xs
  | .wt xs => noSs xs
  | .lst xs => noSs xs
  | _ => true
def noSs : List D → Bool
  | [] => true
  | x :: xs => noS x && noSs xs
end
def eFrz (i : Nat) (f : EnD → M D) : EnD → M D := fun ρ => mbind (mopt (ownD ρ i)) fun es => mbind (f (ρ.set i (some (.val (.dS es))))) fun r => if noS r then mpure r else mbad
/-- an own thing is a value from here on -/
def unO (i : Nat) (ρ : EnD) : EnD := match ρ[i]? with
  | some (some (.own d)) => ρ.set i (some (.val d))
  | _ => ρ
def sUn (i : Nat) : SM := fun ρ z => .nx (unO i ρ) z
section
variable {Y : Yx} {g : G} {H H' : Hp} {σ : L2.St} {ρ : EnD} {z z' : S} {i : Nat} {a : Addr} {d : D} {es : List (List Nat × D)}
theorem OwnAt.r1 {K : PySem.W.Frag} {R a : Addr} {B : Addr → Prop} {ds : List D} (n : ¬ B a) (h : OwnAt K H R B a (.lst ds)) : R1 K H R B (.ref a) (.lst ds) := by
  first
    | (obtain ⟨x, e, q⟩ := h; exact .lst e n q .nil)
theorem own_frz (q : Own σ (ρ.set i (some (.val d))) a) : ∃ j e, i ≠ j ∧ ρ[j]? = some (some (.own e)) ∧ σ[j]? = some (some (.ref a)) := by
  obtain ⟨j, e, h1, h2⟩ := q
  rcases set_some h1 with ⟨rfl, e1, hl⟩ | ⟨ne, hj⟩
  · cases e1
  · exact ⟨j, e, ne, hj, h2⟩
theorem bad_frz (q : bad g σ (ρ.set i (some (.val d))) a) : bad g σ ρ a := q.elim .inl fun q => by
  obtain ⟨j, e, _, h1, h2⟩ := own_frz q
  exact .inr ⟨j, e, h1, h2⟩
/-- its own address is none that is kept away from any more -/
theorem StR.unbad (st : StR Y g H σ ρ z) (h : ρ[i]? = some (some (.own d))) (h1 : σ[i]? = some (some (.ref a))) (nb : ¬ g.B a) : ¬ bad g σ (ρ.set i (some (.val d))) a := fun q => by
  rcases q with q | q
  · exact nb q
  · obtain ⟨j, e, ne, h2, h3⟩ := own_frz q
    exact ne (st.inj i j _ e a h h2 h1 h3)
/-- an own list is a value -/
theorem StR.frzL {ds : List D} (st : StR Y g H σ ρ z) (h : ρ[i]? = some (some (.own (.lst ds)))) : StR Y g H σ (ρ.set i (some (.val (.lst ds)))) z where
  wo := st.wo.less (fun a q => bad_frz q) (.inl st.gR)
  gR := st.gR
  len := by rw [List.length_set]; exact st.len
  val := fun j e hj => by
    rcases set_some hj with ⟨rfl, e1, hl⟩ | ⟨ne, hj⟩
    · cases e1
      obtain ⟨a, h1, nb, h0, hk, oa⟩ := st.own i _ h
      exact ⟨.ref a, h1, (oa.less fun a q => bad_frz q).r1 (st.unbad h h1 nb)⟩
    · obtain ⟨v, h1, h2⟩ := st.val j e hj
      exact ⟨v, h1, h2.less fun a q => bad_frz q⟩
  own := fun j e hj => by
    rcases set_some hj with ⟨rfl, e1, hl⟩ | ⟨ne, hj⟩
    · cases e1
    · obtain ⟨a, h1, h2, h3, h4, h5⟩ := st.own j e hj
      exact ⟨a, h1, h2, h3, h4, h5.less fun a q => bad_frz q⟩
  inj := fun j k e e' a hj hk h1 h2 => by
    rcases set_some hj with ⟨rfl, e1, hl⟩ | ⟨ne, hj⟩
    · cases e1
    · rcases set_some hk with ⟨rfl, e2, hl⟩ | ⟨ne', hk⟩
      · cases e2
      · exact st.inj j k e e' a hj hk h1 h2
  ext := st.ext
/-- an own dict, locked, is a value -/
theorem StR.frzD {kvs : List (Key × V)} (st : StR Y g H σ ρ z) (h : ρ[i]? = some (some (.own (.dS es)))) (h1 : σ[i]? = some (some (.ref a))) (hd : H a = some (.dK kvs)) (k1 : kvs.map (·.1) = es.map kS) (k2 : Rs Y.K H g.R (bad g σ ρ) (kvs.map (·.2)) (es.map (·.2))) (od : Obj) :
    StR Y g (upd H a (.frz od (.dK kvs))) σ (ρ.set i (some (.val (.dS es)))) z := by
  have hB : bad g σ ρ a := .inr ⟨i, _, h, h1⟩
  have hne : a ≠ g.R := st.ownNe ⟨i, _, h, h1⟩
  obtain ⟨a', h1', nb, h0, hk, _⟩ := st.own i _ h
  rw [h1] at h1'
  cases h1'
  refine ⟨(st.wo.up hB hne hd (fun ps z => by cases z)).less (fun a q => bad_frz q) (.inl st.gR), st.gR, by rw [List.length_set]; exact st.len, fun j e hj => ?_, fun j e hj => ?_, fun j k e e' b hj hk h1 h2 => ?_, ?_⟩
  · rcases set_some hj with ⟨rfl, e1, hl⟩ | ⟨ne, hj⟩
    · cases e1
      exact ⟨.ref a, h1, .dS upd_same (st.unbad h h1 nb) k1 ((k2.mono (RdLe.up hB)).less fun a q => bad_frz q) .nil⟩
    · obtain ⟨v, h1, h2⟩ := st.val j e hj
      exact ⟨v, h1, (h2.mono (RdLe.up hB)).less fun a q => bad_frz q⟩
  · rcases set_some hj with ⟨rfl, e1, hl⟩ | ⟨ne, hj⟩
    · cases e1
    · obtain ⟨b, h1b, h2, h3, h4, h5⟩ := st.own j e hj
      have nb : b ≠ a := fun q => ne (st.inj i j _ e a h hj h1 (by rw [← q]; exact h1b))
      exact ⟨b, h1b, h2, h3, h4, (h5.mono (RdLe.up hB) fun u q _ => by rw [upd_ne nb]; exact q).less fun a q => bad_frz q⟩
  · rcases set_some hj with ⟨rfl, e1, hl⟩ | ⟨ne, hj⟩
    · cases e1
    · rcases set_some hk with ⟨rfl, e2, hl⟩ | ⟨ne', hk⟩
      · cases e2
      · exact st.inj j k e e' b hj hk h1 h2
  · refine ⟨fun b u' q h1 h2 => ?_, fun b q => ?_, fun x xs q => ?_⟩
    · have ne : b ≠ a := fun e => by rw [e, h0] at q; cases q
      rw [upd_ne ne]
      exact st.ext.keep b u' q h1 h2
    · by_cases e : b = a
      · rw [e, upd_same]; exact fun z => by cases z
      · rw [upd_ne e]; exact st.ext.dom b q
    · exact (st.ext.row x xs q).elim fun ys e => ⟨ys, by rw [upd_ne (fun c => by rw [c, h0] at q; cases q)]; exact e⟩
end
section
variable {X : L2.Cx} {T : Tb} {E : XK} {e : Expr} {f : EnD → M D} {t : EnD → M Bool} {i : Nat} {B : SM} {rest : List Stmt} {pos pos' : Pos} {x : Str}
theorem frz_stp {R : Addr} {σ : L2.St} {ρ : EnD} {H : Hp} {d : D} : Stp R σ ρ H σ (ρ.set i (some (.val d))) H :=
  ⟨fun _ _ h _ _ _ => h, fun _ h => h, fun a q => by
    obtain ⟨j, e, _, h1, h2⟩ := own_frz q
    exact .inl ⟨j, e, h1, h2⟩⟩
theorem frz_stpD {R a : Addr} {σ : L2.St} {ρ : EnD} {H : Hp} {d d0 : D} {u : HO} (hi : ρ[i]? = some (some (.own d0))) (h1 : σ[i]? = some (some (.ref a))) : Stp R σ ρ H σ (ρ.set i (some (.val d))) (upd H a u) :=
  ⟨fun b o h n1 n2 _ => by rw [upd_ne (fun c => n2 ⟨i, _, hi, by rw [c]; exact h1⟩)]; exact h, fun b q => by
    by_cases c : b = a
    · rw [c, upd_same]; exact fun z => by cases z
    · rw [upd_ne c]; exact q, fun a q => by
    obtain ⟨j, e, _, h1, h2⟩ := own_frz q
    exact .inl ⟨j, e, h1, h2⟩⟩
theorem PSs_lockO {t : TS} (h : PSs X rest t) : PSs X rest fun D σ H => t D σ H ∨ ∃ d u, H d = some u ∧ Mut (some u) ∧ ∀ od, t D σ (upd H d (.frz od u)) := ⟨fun pins s σ H D I q => by
  rcases q with q | ⟨d, u, hd, mu, q⟩
  · exact h.run pins s σ H D I q
  · obtain ⟨od, I1⟩ := I.lock hd mu
    exact h.run pins s σ _ D I1 (q od)⟩
theorem pu_sun (h : PSs X rest (sD (yx X T E) B)) : PSs X rest (sD (yx X T E) (sSeq (sUn i) B)) := PSs_imp (PSs_lockO h) fun Dn σ H h => by
  obtain ⟨g, ρ, z, st, o⟩ := h
  have o : OutOk (yx X T E) g σ ρ H (B (unO i ρ) z) Dn := o
  unfold unO at o
  split at o
  · rename_i d hr
    obtain ⟨a, h1, nb, h0, hk, oa⟩ := st.own i _ hr
    cases d with
    | lst ds => exact .inl ⟨g, _, z, st.frzL hr, OutOk.rebase o frz_stp⟩
    | dS es =>
      obtain ⟨kvs, hd, k1, k2⟩ := oa
      exact .inr ⟨a, .dK kvs, hd, trivial, fun od => ⟨g, _, z, st.frzD hr h1 hd k1 k2 od, OutOk.rebase o (frz_stpD hr h1)⟩⟩
    | _ => exact oa.elim
  · exact .inl ⟨g, _, z, st, o⟩
end
end DL
set_option Elab.async false
set_option linter.all false
set_option maxRecDepth 100000
set_option maxHeartbeats 1000000
namespace DL
open PySem PySem.Spec PyProof.Rows L2

/-- x = [] : an own list -/
def sNewL (i : Nat) : SM := fun ρ z => if ownAt ρ i = false ∧ i < ρ.length then .nx (ρ.set i (some (.own (.lst [])))) z else .bad
def ownL (ρ : EnD) (i : Nat) : Option (List D) := match ρ[i]? with
  | some (some (.own (.lst ds))) => some ds
  | _ => none
/-- x.append(e), x an own list -/
def sAppO (i : Nat) (f : EnD → M D) : SM := fun ρ z => match ownL ρ i with
  | none => .bad
  | some ds => obind (f ρ z) fun d z1 => if ds.length < 1000000 then .nx (ρ.set i (some (.own (.lst (ds ++ [d]))))) z1 else .bad
/-- x, y = {}, e -/
def sNewP (i j : Nat) (f : EnD → M D) : SM := fun ρ z => obind (mne (f ρ) z) fun d z' => if ownAt ρ i = false ∧ i < ρ.length ∧ ownAt ρ j = false ∧ i ≠ j then .nx ((ρ.set i (some (.own (.dS [])))).set j (some (.val d))) z' else .bad
def asDS : D → Option (List (List Nat × D))
  | .dS es => some es
  | _ => none
def eGet1 (i : Nat) (fk : EnD → M D) : EnD → M D := fun ρ => mbind (eV i ρ) fun t => mbind (mopt (asDS t)) fun es => mbind (fk ρ) fun k => mopt ((asS k).map fun w => (getS es w).getD .non)
def eGet2 (i : Nat) (fk fd : EnD → M D) : EnD → M D := fun ρ => mbind (eV i ρ) fun t => mbind (mopt (asDS t)) fun es => mbind (fk ρ) fun k => mbind (fd ρ) fun d => mopt ((asS k).map fun w => (getS es w).getD d)
section
variable {X : L2.Cx} {T : Tb} {E : XK} {e b c : Expr} {f fb fc : EnD → M D} {i j k : Nat} {B : SM} {rest : List Stmt} {pos pos' apos px py pt dpos : Pos} {x y : Str}
theorem ownL_some {ρ : EnD} {ds : List D} (h : ownL ρ i = some ds) : ρ[i]? = some (some (.own (.lst ds))) := by
  unfold ownL at h
  split at h
  · rename_i h1
    cases h
    exact h1
  · cases h
theorem put_stp {g : G} {σ : L2.St} {ρ : EnD} {H H1 : Hp} {a : Addr} {d0 d : D} {u : HO} (e1 : Ext g.R H H1) (hρ : ρ[i]? = some (some (.own d0))) (s1 : σ[i]? = some (some (.ref a))) : Stp g.R σ ρ H σ (ρ.set i (some (.own d))) (upd H1 a u) :=
  ⟨fun b u q h1 h3 h4 => by
    have nb : b ≠ a := fun e => h3 ⟨i, _, hρ, by rw [e]; exact s1⟩
    rw [upd_ne nb]
    exact e1.keep b u q h1 h4, fun b q => by
    by_cases c : b = a
    · rw [c, upd_same]; exact fun z => by cases z
    · rw [upd_ne c]; exact e1.dom b q, fun b q => .inl (by
    have be := bad_put (g := ⟨0, fun _ => False, fun _ => none⟩) (σ := σ) (d := d) ⟨_, hρ⟩
    have q2 : bad (⟨0, fun _ => False, fun _ => none⟩ : G) σ (ρ.set i (some (.own d))) b := .inr q
    rw [be] at q2
    exact q2.elim False.elim id)⟩
theorem pu_appO (hr : Room k X.A) (hN : X.N[i]? = some x) (hv : Vis X.env.scope x) (he : PE X e (tD (yx X T E) f)) (hd : (x == ("__debug__" : Str)) = false := by decide) (hcd : (x == ("__classdict__" : Str)) = false := by decide)
    (hbase : attributeBase (.Name x px) "append" X.env (eval (.Name x px) X.env) = eval (.Name x px) X.env := by rfl)
    (hfew : ((backTo pos (starEach [e] X.env)).all (fun x => !x.1) && (backToKw pos (keywordEach [] X.env)).all (fun x => x.1.isSome)
      && decide (([e] : List Expr).length + ([] : List Keyword).length + (if ([] : List Keyword).isEmpty then 0 else 1) < 30)) = true := by rfl)
    (hline : (apos.endLine == pos.line) = true := by rfl) (hst : starEach [e] X.env = (false, eval e X.env) :: starEach [] X.env := by rfl) (hplain : (backTo pos (starEach [] X.env)).any (·.1) = false := by rfl)
    (hs : swapsWith (.Call (.Attribute (.Name x px) "append" apos) [e] [] pos) none pos'.line X.env = pure false := by rfl) :
    PS X (.Expr (.Call (.Attribute (.Name x px) "append" apos) [e] [] pos) pos') (sD (yx X T E) (sAppO i f)) :=
  PS_imp (ps_expr (pe_bm F.plainAttrs_list F.slot_list_append F.type_list_append mt_append (pe_var hN hv hd hcd) (pa_cons he pa_nil hst) hbase hfew hline hst hplain) hs) fun Dn σ H h => by
    obtain ⟨g, ρ, z, st, o⟩ := h
    unfold sAppO at o
    cases ho : ownL ρ i with
    | none => rw [ho] at o; exact o.elim
    | some ds =>
      rw [ho] at o
      have hρ := ownL_some ho
      obtain ⟨a, s1, _, _, _, vs0, h0, _⟩ := st.own i _ hρ
      refine ⟨_, s1, .inl ⟨rfl, vs0, .inl (.inl h0)⟩, g, ρ, z, st, o.bind.imp fun d z1 _ h1 v H1 st1 e1 r1 => ?_⟩
      by_cases hl : ds.length < 1000000
      · rw [if_pos hl] at h1
        obtain ⟨a', t1, t2, t3, t4, us, t5, t6⟩ := st1.own i _ hρ
        rw [s1] at t1
        cases t1
        have hB : bad g σ ρ a := .inr ⟨i, _, hρ, s1⟩
        refine ⟨a, us, v, rfl, rfl, t5, by rw [t6.length, sizeLine_eq]; omega, h1 σ _ (st1.put hρ s1 ⟨us ++ [v], upd_same, ?_⟩) (put_stp e1 hρ s1)⟩
        exact Rs.mono (RdLe.up hB) (t6.append r1)
      · rw [if_neg hl] at h1
        exact h1.elim
end
section
variable {X : L2.Cx} {T : Tb} {E : XK} {elt tg iter : Expr} {ifs : List Expr} {f : EnD → M D} {t : EnD → M Bool} {fi : EnD → M (List D)} {i j k : Nat} {scope : Scope} {pos spos py : Pos} {x y : Str}
end
end DL
set_option Elab.async false
set_option linter.all false
set_option maxRecDepth 100000
set_option maxHeartbeats 1000000
namespace DL
open PySem PySem.Spec PyProof.Rows L2
section
variable {α β : Type} {z : S} {ρ : EnD} {i j : Nat} {d : D} {es : List (List Nat × D)} {Qn : EnD → S → Prop} {Qr : D → S → Prop}
@[simp] theorem sUn_ev : WS (sUn i ρ z) Qn Qr = Qn (unO i ρ) z := rfl
@[simp] theorem unO_succ {x : Option Sl} : unO (i + 1) (x :: ρ) = x :: unO i ρ := by
  unfold unO
  rw [List.getElem?_cons_succ]
  rcases ρ[i]? with _ | _ | (_ | _) <;> rfl
@[simp] theorem unO_own : unO 0 (some (.own d) :: ρ) = some (.val d) :: ρ := rfl
@[simp] theorem unO_val : unO 0 (some (.val d) :: ρ) = some (.val d) :: ρ := rfl
@[simp] theorem unO_none : unO 0 (none :: ρ) = none :: ρ := rfl
@[simp] theorem sNewL_ev : WS (sNewL i ρ z) Qn Qr = if ownAt ρ i = false ∧ i < ρ.length then Qn (ρ.set i (some (.own (.lst [])))) z else False := by
  unfold sNewL; split <;> rfl
theorem sAppO_ev {ds : List D} {f : EnD → M D} (h : ownL ρ i = some ds) : WS (sAppO i f ρ z) Qn Qr = WP (f ρ) z fun d z1 => if ds.length < 1000000 then Qn (ρ.set i (some (.own (.lst (ds ++ [d]))))) z1 else False := by
  unfold sAppO; rw [h]; simp only; rw [ob_ev]; unfold WP; cases f ρ z <;> (try rfl); simp only; split <;> rfl
@[simp] theorem sNewP_ev {f : EnD → M D} : WS (sNewP i j f ρ z) Qn Qr = WP (f ρ) z fun d z' => if ownAt ρ i = false ∧ i < ρ.length ∧ ownAt ρ j = false ∧ i ≠ j then Qn ((ρ.set i (some (.own (.dS [])))).set j (some (.val d))) z' else False := by
  unfold sNewP; rw [ob_ev]; unfold WP mne; cases f ρ z <;> (try rfl); simp only; split <;> rfl
@[simp] theorem eGet1_ev {fk : EnD → M D} {Q : D → S → Prop} : WP (eGet1 i fk ρ) z Q = WP (eV i ρ) z fun t z0 => WP (mopt (asDS t)) z0 fun es z1 => WP (fk ρ) z1 fun k z2 => WP (mopt ((asS k).map fun w => (getS es w).getD .non)) z2 Q := by
  unfold eGet1; rw [WP_bind]; congr; funext t z0; rw [WP_bind]; congr; funext es z1; rw [WP_bind]
@[simp] theorem eGet2_ev {fk fd : EnD → M D} {Q : D → S → Prop} : WP (eGet2 i fk fd ρ) z Q = WP (eV i ρ) z fun t z0 => WP (mopt (asDS t)) z0 fun es z1 => WP (fk ρ) z1 fun k z2 => WP (fd ρ) z2 fun d z3 => WP (mopt ((asS k).map fun w => (getS es w).getD d)) z3 Q := by
  unfold eGet2; rw [WP_bind]; congr; funext t z0; rw [WP_bind]; congr; funext es z1; rw [WP_bind]; congr; funext k z2; rw [WP_bind]
@[simp] theorem asDS_dS : asDS (.dS es) = some es := rfl
@[simp] theorem iPr_ev {f : EnD → M D} {Q : List (D × D) → S → Prop} : WP (iPr f ρ) z Q = WP (f ρ) z fun d z' => WP (mopt ((items d).bind fun xs => xs.mapM pairOf)) z' Q := WP_bind
@[simp] theorem ownL_zero {ds : List D} : ownL (some (.own (.lst ds)) :: ρ) 0 = some ds := rfl
@[simp] theorem ownL_succ {x : Option Sl} : ownL (x :: ρ) (i + 1) = ownL ρ i := rfl
end
section
variable {X : L2.Cx} {T : Tb} {E : XK} {b c : Expr} {fb fc : EnD → M D} {i k : Nat} {pos apos px : Pos} {x : Str}
end
end DL
set_option Elab.async false
set_option linter.all false
set_option maxRecDepth 100000
set_option maxHeartbeats 1000000
namespace DL
open PySem PySem.Spec PyProof.Rows L2

abbrev kL (k : List (List Nat)) : List Key := k.map fun z => .inr (ST z)
theorem kL_kV (k : List (List Nat)) : (kL k).map kV = k.map fun z => V.str (ST z) := by rw [List.map_map] <;> rfl
theorem kL_inj : ∀ {a b : List (List Nat)}, kL a = kL b → a = b
  | [], [], _ => rfl
  | [], _ :: _, h => by cases h
  | _ :: _, [], h => by cases h
  | x :: a, y :: b, h => by
    simp only [kL, List.map_cons, List.cons.injEq] at h
    rw [ST_inj (Sum.inr.inj h.1), kL_inj (show kL a = kL b from h.2)]
def getT (es : List (List (List Nat) × D)) (k : List (List Nat)) : Option D := (es.find? fun p => decide (p.1 = k)).map (·.2)
def putT (es : List (List (List Nat) × D)) (k : List (List Nat)) (d : D) : List (List (List Nat) × D) :=
  if (getT es k).isSome = true then es.map (fun p => if p.1 = k then (p.1, d) else p) else es ++ [(k, d)]
inductive TDR (K : PySem.W.Frag) (H : Hp) (R : Addr) (B : Addr → Prop) : List (List Key × Addr × Value) → List (List (List Nat) × D) → Prop
  | nil : TDR K H R B [] []
  | cons {k : List (List Nat)} {b : Addr} {u : Value} {v : V} {d : D} {xs : List (List Key × Addr × Value)} {es : List (List (List Nat) × D)} : R1 K H R B (.ref b) (.tup (k.map .str)) → RelV v u → R1 K H R B v d → TDR K H R B xs es → TDR K H R B ((kL k, b, u) :: xs) ((k, d) :: es)
section
variable {K : PySem.W.Frag} {H H' : Hp} {R : Addr} {B B' : Addr → Prop} {xs : List (List Key × Addr × Value)} {es : List (List (List Nat) × D)}
theorem TDR.mk : ∀ {xs : List (List Key × Addr × Value)} {es : List (List (List Nat) × D)} {us : List V}, xs.map (·.1) = es.map kT → Vals us (xs.map (·.2.2)) → Rs K H R B (xs.map fun x => .ref x.2.1) (es.map fun e => .tup (e.1.map .str)) → Rs K H R B us (es.map (·.2)) → TDR K H R B xs es
  | [], [], _, _, _, _, _ => .nil
  | [], _ :: _, _, h, _, _, _ => by cases h
  | _ :: _, [], _, h, _, _, _ => by cases h
  | (k', b, u) :: xs, (k, d) :: es, us, h, hv, r1, r2 => by
    simp only [List.map_cons, List.cons.injEq] at h
    obtain ⟨h1, h2⟩ := h
    have h1 : k' = kL k := h1
    subst h1
    cases hv with
    | cons q qs => exact .cons r1.split.1 q r2.split.1 (TDR.mk h2 qs r1.split.2 r2.split.2)
theorem TDR.out (h : TDR K H R B xs es) : ∃ us, xs.map (·.1) = es.map kT ∧ Vals us (xs.map (·.2.2)) ∧ Rs K H R B (xs.map fun x => .ref x.2.1) (es.map fun e => .tup (e.1.map .str)) ∧ Rs K H R B us (es.map (·.2)) := by
  induction h with
  | nil => exact ⟨[], rfl, .nil, .nil, .nil⟩
  | @cons k b u v d xs es r1 q r2 _ ih =>
    obtain ⟨us, e, hv, a1, a2⟩ := ih
    exact ⟨v :: us, by rw [List.map_cons, List.map_cons, e] <;> rfl, .cons q hv, Rs.cons r1 a1, Rs.cons r2 a2⟩
theorem TDR.mono (r : RdLe B H H') (h : TDR K H R B xs es) : TDR K H' R B xs es := by
  induction h with
  | nil => exact .nil
  | cons r1 q r2 _ ih => exact .cons (Rs.mono r r1) q (Rs.mono r r2) ih
theorem TDR.less (hb : ∀ a, B' a → B a) (h : TDR K H R B xs es) : TDR K H R B' xs es := by
  induction h with
  | nil => exact .nil
  | cons r1 q r2 _ ih => exact .cons (r1.less hb) q (r2.less hb) ih
theorem TDR.length (h : TDR K H R B xs es) : xs.length = es.length := by
  induction h with
  | nil => rfl
  | cons _ _ _ _ ih => rw [List.length_cons, List.length_cons, ih]
theorem strs_of : ∀ {k : List (List Nat)} {us : List V}, Rs K H R B us (k.map .str) → us = k.map fun z => V.str (ST z)
  | [], us, h => by cases h; rfl
  | z :: k, [], h => by cases h
  | z :: k, u :: us, h => by
    rw [strs_of h.split.2, h.split.1.str] <;> rfl
theorem key_sq {b : Addr} {k : List (List Nat)} (r : R1 K H R B (.ref b) (.tup (k.map .str))) : SqT K H b ((kL k).map kV) := by
  obtain ⟨a, us, e, s, _, rs⟩ := r.tupl
  cases e
  rw [kL_kV, ← strs_of rs]
  exact s.sq
theorem TDR.keys (h : TDR K H R B xs es) : ∀ x ∈ xs, SqT K H x.2.1 (x.1.map kV) := by
  induction h with
  | nil => exact fun x hx => nomatch hx
  | cons r1 _ _ _ ih =>
    intro x hx
    rcases List.mem_cons.mp hx with rfl | hx
    · exact key_sq r1
    · exact ih x hx
theorem TDR.get (h : TDR K H R B xs es) (k : List (List Nat)) : (∀ d, getT es k = some d → ∃ p v, atKey xs (kL k) = some p ∧ RelV v p.2 ∧ R1 K H R B v d) ∧ (atKey xs (kL k)).isSome = (getT es k).isSome := by
  induction h with
  | nil => exact ⟨fun d e => (by cases e), rfl⟩
  | @cons k' b u v d xs es r1 q r2 _ ih =>
    unfold getT atKey at ih ⊢
    rw [List.find?_cons, List.find?_cons]
    by_cases e : k' = k
    · subst e
      simp only [decide_eq_true rfl]
      exact ⟨fun d e => by cases e; exact ⟨_, v, rfl, q, r2⟩, rfl⟩
    · rw [decide_eq_false e, decide_eq_false fun z => e (kL_inj z)]
      exact ih
theorem TDR.append {xs' : List (List Key × Addr × Value)} {es' : List (List (List Nat) × D)} (h : TDR K H R B xs es) (h' : TDR K H R B xs' es') : TDR K H R B (xs ++ xs') (es ++ es') := by
  induction h with
  | nil => exact h'
  | cons r1 q r2 _ ih => exact .cons r1 q r2 ih
theorem TDR.over (h : TDR K H R B xs es) {k : List (List Nat)} {u : Value} {v : V} {d : D} (q : RelV v u) (r : R1 K H R B v d) : TDR K H R B (xs.map (putAt (kL k) u)) (es.map fun p => if p.1 = k then (p.1, d) else p) := by
  induction h with
  | nil => exact .nil
  | @cons k' b u' v' d' xs es r1 q' r2 _ ih =>
    rw [List.map_cons, List.map_cons]
    unfold putAt
    by_cases e : k' = k
    · rw [if_pos (by show kL k' = kL k; rw [e]), if_pos e]
      exact .cons r1 q r ih
    · rw [if_neg (fun z => e (kL_inj z)), if_neg e]
      exact .cons r1 q' r2 ih
theorem TDR.put (h : TDR K H R B xs es) {k : List (List Nat)} {b : Addr} {u : Value} {v : V} {d : D} (hb : R1 K H R B (.ref b) (.tup (k.map .str))) (q : RelV v u) (r : R1 K H R B v d) : TDR K H R B (storedH xs (kL k) b u) (putT es k d) := by
  unfold storedH putT
  rw [(h.get k).2]
  split
  · exact h.over q r
  · exact h.append (.cons hb q r .nil)
theorem R1.dictT {hs : List Key → Int} {v : V} (h : R1 K H R B v (.dT hs es)) : ∃ a o xs, v = .ref a ∧ H a = some (.frz o (alive a)) ∧ ¬ B a ∧ TDo hs a o xs ∧ TDR K H R B xs es := by
  cases h with
  | atom a _ => cases a
  | dT s n e r1 r2 _ => exact ⟨_, _, _, rfl, s, n, e.1, TDR.mk e.2.1 e.2.2 r1 r2⟩
theorem r1_dictT {hs : List Key → Int} {a : Addr} {o : Obj} (s : H a = some (.frz o (alive a))) (n : ¬ B a) (t : TDo hs a o xs) (r : TDR K H R B xs es) : R1 K H R B (.ref a) (.dT hs es) := by
  obtain ⟨us, e, hv, a1, a2⟩ := r.out
  exact .dT s n ⟨t, e, hv⟩ a1 a2 .nil
end

/-- the dict at a, known -/
structure TDat (X : L2.Cx) (H : Hp) (a : Addr) (xs : List (List Key × Addr × Value)) : Prop where
  ex : ∃ o, H a = some (.frz o (alive a)) ∧ TDo (hsOf X.prog X.w) a o xs
  keys : ∀ x ∈ xs, SqT X.K H x.2.1 (x.1.map kV)
section
variable {X : L2.Cx} {T : Tb} {E : XK} {pins : List (Addr × Obj)} {σ : L2.St} {H : Hp} {s : Shared} {a : Addr} {xs : List (List Key × Addr × Value)}
theorem TDat.dict (t : TDat X H a xs) (I : Inv X pins σ H s) : s.heap.DictOfH (tupleKind (mixKind X.prog X.w)) a xs ∧ (a == sysModules) = false := by
  obtain ⟨o, h1, h2⟩ := t.ex
  exact ⟨h2.dict (show ObjOk X.prog X.w H s.heap a (.frz o (alive a)) from I.hok a _ h1).1 fun x hx => key_is I (t.keys x hx), h2.1⟩
def rIxT (X : L2.Cx) : R2 := fun x y H Q => ∃ a xs b k p v, x = .ref a ∧ y = .ref b ∧ TDat X H a xs ∧ SqT X.K H b (k.map kV) ∧ atKey xs k = some p ∧ RelV v p.2 ∧ Q v H
theorem ix_td (hu : X.A.units + 1 < cLine) : IxR X (rIxT X) := by
  intro value slice pins s σ H x y v u Q I rx ry ⟨a, xs, b, k, p, w, e, e2, t, hb, hp, rv, q⟩ hs
  subst e e2
  obtain rfl : v = Value.ref a := rx
  obtain rfl : u = Value.ref b := ry
  have m := (t.dict I).1
  exact tail_any m.typeIs PySem.F.slot_dict_getitem.lookup (wpAny_getItem_heap (tupleKind_room_in1 hu) (key_is I hb) m hp ⟨w, H, I.tok _, rv, q⟩) hs
def rInT (X : L2.Cx) : R2 := fun x y H Q => ∃ b a xs k, x = .ref b ∧ y = .ref a ∧ TDat X H a xs ∧ SqT X.K H b (k.map kV) ∧ Q (.bl (atKey xs k).isSome) H
def ItT (d : Addr) (o : Obj) (xs : List (List Key × Addr × Value)) : It :=
  ⟨fun i H => H d = some (.frz o (alive d)) ∧ i < xs.length, fun i H x H' => H' = H ∧ ∃ e, xs[i]? = some e ∧ x = .ref e.2.1, fun i H => H d = some (.frz o (alive d)) ∧ xs.length ≤ i⟩
theorem turn_td {P : Program} {w : World} {K : PySem.W.Frag} {tg : Expr} {d : Addr} {o : Obj} {es : Array DictEntry} {ep : Nat} {hs : List Key → Int} {xs : List (List Key × Addr × Value)} (it : Addr) (hod : o.data = .dict es ep) (hes : es.toList = xs.map fun x => (⟨hs x.1, .ref x.2.1, x.2.2⟩ : DictEntry)) :
    Turn P w K tg (ItT d o xs) [it] it (fun i h => h.IsKeyIter it d i xs.length ep) where
  mem := by simp
  obj := fun i h st b hb => by
    obtain rfl : b = it := by simpa using hb
    obtain ⟨oi, e, _, dd⟩ := st
    exact ⟨oi, e, fun v z => by rw [dd] at z; cases z⟩
  keep := fun i h h' st k => st.at fun oi e => k it (by simp) oi e
  item := by
    intro X hP hw hK hc i pins s σ H E I hf st ⟨hd, hi⟩
    subst hP hw hK
    have gd := (show ObjOk X.prog X.w H s.heap d (.frz o (alive d)) from I.hok d _ hd).1
    obtain ⟨f0, f1, f2, f3, f4, f5⟩ := hf it (by simp)
    have sz : es.size = xs.length := by rw [← Array.length_toList, hes, List.length_map]
    have en : es[i]? = some ⟨hs xs[i].1, .ref xs[i].2.1, xs[i].2.2⟩ := by
      rw [← Array.getElem?_toList, hes, List.getElem?_map, List.getElem?_eq_getElem hi]; rfl
    refine next_key_item st gd hod sz en fun h' st' sb => ?_
    have I1 : Inv X pins σ H { s with heap := h' } := I.turned (t' := s.toks) (fun b u hb z => (sb.2 b hb).trans z) f0 f1 f3 f4 f5
    obtain ⟨oi, e, c, dd⟩ := id st'
    exact ⟨_, rfl, go_of (s := { s with heap := h' }) e c dd (by decide) ⟨.ref xs[i].2.1, H, I1, rfl, ⟨rfl, _, List.getElem?_eq_getElem hi, rfl⟩, st', fun b hb => (hf b hb).1⟩⟩
  done := by
    intro X hP hw hK hc i pins s σ H E I hf st ⟨hd, hi⟩
    subst hP hw hK
    have gd := (show ObjOk X.prog X.w H s.heap d (.frz o (alive d)) from I.hok d _ hd).1
    obtain ⟨f0, f1, f2, f3, f4, f5⟩ := hf it (by simp)
    have sz : es.size = xs.length := by rw [← Array.length_toList, hes, List.length_map]
    exact next_key_end (I.ok.hd hc) st gd hod sz hi fun h' eb => ⟨rfl, I.turned (t' := s.toks) (fun b u hb z => eb b u hb z) f0 f1 f3 f4 f5⟩
  self := fun A i s Q E st h => wpAny_pyIter_keyiter st h
def iKtd (td : TE) : TI := fun σ H R => td σ H fun x H1 => ∃ d o hs xs, x = .ref d ∧ H1 d = some (.frz o (alive d)) ∧ TDo hs d o xs ∧ R (ItT d o xs) H1
theorem pi_td {tg e : Expr} {td : TE} (he : PE X e td) : PI X tg e (iKtd td) := by
  refine ⟨fun pins s σ H R I h => ?_⟩
  refine thn (he.run pins s σ H _ I h) fun u s1 ⟨x, H1, I1, rx, d, o, hs, xs, ex, hd, t, q⟩ => ?_
  subst ex
  obtain rfl : u = Value.ref d := rx
  obtain ⟨h1, h2, h3, h4, es, ep, hdt, hes⟩ := t
  have gd := (show ObjOk X.prog X.w H1 s1.heap d (.frz o (alive d)) from I1.hok d _ hd).1
  have sz : es.size = xs.length := by rw [← Array.length_toList, hes, List.length_map]
  refine iter_keys h1 gd h2 hdt (pi_one (tk := s1.toks) I1 _ (turn_td _ hdt hes) ⟨_, Heap.get?_push_size _ rfl, rfl, ?_⟩ q)
  rw [sz] <;> rfl
theorem itd_td {K : PySem.W.Frag} {R d : Addr} {B : Addr → Prop} {H1 : Hp} {o : Obj} {xs : List (List Key × Addr × Value)} {es : List (List (List Nat) × D)} (h : H1 d = some (.frz o (alive d))) (n : ¬ B d) (r : TDR K H1 R B xs es) : ItD K R B H1 (ItT d o xs) (es.map fun p => .tup (p.1.map .str)) where
  go := fun i H rd hi => ⟨rd.2.1 d o _ n h, by rw [List.length_map] at hi; rw [r.length]; exact hi⟩
  yld := fun i H x H' rd hi hy => by
    obtain ⟨rfl, e, he, rfl⟩ := hy
    obtain ⟨us, _, _, a1, _⟩ := r.out
    obtain ⟨d, h4, h5⟩ := a1.dom.getV (i := i) (v := .ref e.2.1) (by rw [List.getElem?_map, he] <;> rfl)
    exact ⟨rfl, d, h4, h5.mono (rd.mono fun a z => .inl z)⟩
  stop := fun i H rd hi => ⟨rd.2.1 d o _ n h, by rw [List.length_map] at hi; rw [r.length]; exact hi⟩
end
end DL
set_option Elab.async false
set_option linter.all false
set_option maxRecDepth 100000
set_option maxHeartbeats 1000000
namespace DL
open PySem PySem.Spec PyProof.Rows L2

def keyD : D → Option (List (List Nat))
  | .tup ds => strsD ds
  | _ => none
theorem strsD_map : ∀ {ds : List D} {k : List (List Nat)}, strsD ds = some k → ds = k.map .str
  | [], k, h => by simp [strsD] at h; subst h; rfl
  | d :: ds, k, h => by
    cases d <;> simp only [strsD, reduceCtorEq, Option.map_eq_some_iff] at h
    obtain ⟨r, h1, rfl⟩ := h
    rw [strsD_map h1] <;> rfl
theorem keyD_tup {d : D} {k : List (List Nat)} (h : keyD d = some k) : d = .tup (k.map .str) := by
  cases d <;> simp only [keyD, reduceCtorEq] at h
  rw [strsD_map h]
open Classical in
noncomputable def ixT (hs : List Key → Int) : D → D → Option D
  | .dT h es, d => if h = hs then (keyD d).bind (getT es) else none
  | _, _ => none
open Classical in
noncomputable def inT (hs : List Key → Int) : D → D → Option D
  | d, .dT h es => if h = hs then (keyD d).bind fun k => some (.bl (getT es k).isSome) else none
  | _, _ => none
open Classical in
noncomputable def lenT (hs : List Key → Int) : D → Option D
  | .dT h es => if h = hs then some (.int es.length) else none
  | _ => none
theorem ixT_some {hs : List Key → Int} {d e r : D} (h : ixT hs d e = some r) : ∃ es k, d = .dT hs es ∧ e = .tup (k.map .str) ∧ getT es k = some r := by
  cases d <;> simp only [ixT, reduceCtorEq] at h
  rename_i h0 es
  by_cases c : h0 = hs
  · rw [if_pos c, Option.bind_eq_some_iff] at h
    obtain ⟨k, hk, hg⟩ := h
    exact ⟨es, k, by rw [c], keyD_tup hk, hg⟩
  · rw [if_neg c] at h; cases h
def keysD : D → Option (List D)
  | .dT _ es => some (es.map fun p => .tup (p.1.map .str))
  | _ => none
def iKT (f : EnD → M D) : EnD → M (List D) := fun ρ => mbind (f ρ) fun d => mopt (keysD d)
def iZp (fa fb : EnD → M D) : EnD → M (List (D × D)) := fun ρ => mbind (fa ρ) fun d => mbind (fb ρ) fun e => mopt ((asT d).bind fun xs => (asT e).map fun ys => xs.zip ys)
def dzD (acc : List (List (List Nat) × D)) : List (D × D) → Option (List (List (List Nat) × D))
  | [] => some acc
  | (a, b) :: r => (keyD a).bind fun k => dzD (putT acc k b) r
def eDz (hs : List Key → Int) (i j : Nat) (fi : EnD → M (List (D × D))) : EnD → M D := fun ρ => mbind (fi ρ) fun l =>
  if l.length ≤ sizeLine ∧ i < ρ.length ∧ j < ρ.length then mopt ((dzD [] l).map (.dT hs)) else mbad
section
variable {K : PySem.W.Frag} {H H' : Hp} {R : Addr} {B : Addr → Prop}
theorem wo_known {T : Tb} {g : G} {z : S} {D : Addr} {o o' : Obj} (w : Wo K T g H z) (h : H D = some (.frz o (alive D))) : Wo K T g (upd H D (.frz o' (alive D))) z := by
  have ne : ∀ a u, H a = some u → u ≠ .frz o (alive D) → a ≠ D := fun a u e n q => by subst q; rw [h] at e; exact n (Option.some.inj e).symm
  obtain ⟨⟨SA, h1, h2, h3⟩, ht, hb, hd, hk, hl, hi⟩ := w
  refine ⟨⟨SA, h1, ?_, by rw [upd_ne (ne _ _ h3 (by intro q; cases q))]; exact h3⟩, fun P hP => ?_, hb, fun a ha => ?_, hk, tabs_keep hl (fun q _ ps e => by rw [upd_ne (ne _ _ e (by intro q; cases q))]; exact e) (fun c φ e => by rw [upd_ne (ne _ _ e (by intro q; cases q))]; exact e), hi⟩
  · rcases h2 with (q | ⟨ob, q⟩) | q
    · exact .inl (.inl (by rw [upd_ne (ne _ _ q (by intro q; cases q))]; exact q))
    · exact .inl (.inr ⟨ob, by rw [upd_ne (ne _ _ q (by intro q; cases q))]; exact q⟩)
    · exact .inr q
  · obtain ⟨ps, q, r⟩ := ht P hP
    exact ⟨ps, by rw [upd_ne (ne _ _ q (by intro q; cases q))]; exact q, r⟩
  · by_cases e : a = D
    · rw [e, upd_same]; exact fun q => by cases q
    · rw [upd_ne e]; exact hd a ha
theorem Yn.rd {B : Addr → Prop} (y : Yn H H') : RdLe B H H' := by
  rcases y with rfl | ⟨p, us, hp, rfl⟩
  · exact RdLe.refl
  · exact RdLe.new hp
theorem TDR.dat {X : L2.Cx} {H : Hp} {R : Addr} {B : Addr → Prop} {a : Addr} {o : Obj} {xs : List (List Key × Addr × Value)} {es : List (List (List Nat) × D)} (h : TDR X.K H R B xs es) (s : H a = some (.frz o (alive a))) (t : TDo (hsOf X.prog X.w) a o xs) : TDat X H a xs :=
  ⟨⟨o, s, t⟩, h.keys⟩
theorem ite_zip {K : PySem.W.Frag} {R a b : Addr} {B : Addr → Prop} {H1 : Hp} {us ws : List V} {xs ys : List D} (ha : SqT K H1 a us) (na : ¬ B a) (ra : Rs K H1 R B us xs) (hb : SqT K H1 b ws) (nb : ¬ B b) (rb : Rs K H1 R B ws ys) : ItE K R B H1 (RZ.ItzT K a b) (xs.zip ys) where
  go := fun i H rd hi => by
    rw [List.length_zip] at hi
    obtain ⟨v, h3, _⟩ := ra.get (List.getElem?_eq_getElem (show i < xs.length by omega))
    obtain ⟨v2, h4, _⟩ := rb.get (List.getElem?_eq_getElem (show i < ys.length by omega))
    exact ⟨us, ws, v, v2, rd.sqT na ha, rd.sqT nb hb, h3, h4⟩
  yld := fun i H x H' rd hi hy => by
    obtain ⟨p, y, y2, rfl, hp, rfl, hx, hx2⟩ := hy
    obtain ⟨d, h4, h5⟩ := ra.dom.getV (hx us (rd.sqT na ha))
    obtain ⟨d2, h6, h7⟩ := rb.dom.getV (hx2 ws (rd.sqT nb hb))
    refine ⟨.inr ⟨p, _, hp, rfl⟩, (d, d2), p, _, _, ?_, rfl, .inl (.inl upd_same), (h5.mono (rd.mono fun a z => .inl z)).mono (RdLe.new hp), (h7.mono (rd.mono fun a z => .inl z)).mono (RdLe.new hp)⟩
    rw [List.getElem?_zip_eq_some]
    exact ⟨h4, h6⟩
  stop := fun i H rd hi => by
    rw [List.length_zip] at hi
    refine ⟨us, ws, rd.sqT na ha, rd.sqT nb hb, ?_⟩
    rw [ra.length, rb.length]
    omega
end
section
variable {X : L2.Cx} {T : Tb} {E : XK} {a b tg iter kx vx ea eb : Expr} {fa fb : EnD → M D} {fi : EnD → M (List (D × D))} {pos p : Pos} {hs : List Key → Int} {i j : Nat} {x y : Str}
theorem pu_ixT {k : Nat} (hh : hs = hsOf X.prog X.w) (hr : Room k X.A) (ha : PE X a (tD (yx X T E) fa)) (hb : PE X b (tD (yx X T E) fb)) (hp : PlainIx b := by intro _ _; rfl) : PE X (.Subscript a b pos) (tD (yx X T E) (e2 (op2 (ixT hs)) fa fb)) :=
  PE_imp (pe_ix (ix_td (by have := hr.un; omega)) ha hb hp) fun σ H Q h => by
    obtain ⟨g, ρ, z, st, a⟩ := tD_bind2 h
    refine ⟨g, ρ, z, st, a.imp fun d z1 _ h1 v H1 st1 e1 r1 => ?_⟩
    obtain ⟨g2, ρ2, z2, st2, a2⟩ := h1 v H1 st1 e1 r1
    exact ⟨g2, ρ2, z2, st2, a2.imp fun e z3 _ h3 w H3 st3 e3 r3 => by
      obtain ⟨g4, ρ4, z4, d4, e4, st4, rv, rw', a4⟩ := h3 w H3 st3 e3 r3
      obtain ⟨r, hr', q⟩ := a4.opt
      obtain ⟨es, k, rfl, rfl, hg⟩ := ixT_some hr'
      obtain ⟨ad, o, xs, rfl, sd, n, t, dr⟩ := rv.dictT
      obtain ⟨b, us, rfl, sb, nb, rs⟩ := rw'.tupl
      obtain ⟨p, u, hp, ru, r1⟩ := (dr.get k).1 r hg
      rw [hh] at t
      exact ⟨ad, xs, b, kL k, p, u, rfl, rfl, dr.dat sd t, key_sq rw', hp, ru, q u H3 st4 .refl r1⟩⟩
theorem pu_iKT (ha : PE X a (tD (yx X T E) fa)) : PI X tg a (tiD (yx X T E) (iKT fa)) := PI_imp (pi_td ha) fun σ H R h => by
  obtain ⟨g, ρ, z, st, h⟩ := h
  refine ⟨g, ρ, z, st, h.bind.imp fun d z1 _ h1 v H1 st1 e1 r1 => ?_⟩
  obtain ⟨ps, hp, q⟩ := h1.opt
  cases d <;> simp only [keysD, reduceCtorEq, Option.some.injEq] at hp
  subst hp
  obtain ⟨a, o, xs, rfl, s, n, t, dr⟩ := r1.dictT
  exact ⟨a, o, _, xs, rfl, s, t, q _ H1 st1 e1 (itd_td s n dr)⟩
theorem pu_iZp {elts : List Expr} {kk : Nat} {tpos : Pos} (hg : Gl X "zip") (hm : X.mg "zip" = none) (ha : PE X a (tD (yx X T E) fa)) (hb : PE X b (tD (yx X T E) fb)) (hs1 : starEach [a, b] X.env = (false, eval a X.env) :: starEach [b] X.env := by rfl) (hs2 : starEach [b] X.env = (false, eval b X.env) :: starEach [] X.env := by rfl) (hpl : (backTo pos (starEach [b] X.env)).any (·.1) = false := by rfl) :
    PI X (.Tuple elts kk tpos) (.Call (.Name "zip" p) [a, b] [] pos) (tiE (yx X T E) (iZp fa fb)) := PI_imp (RZ.pi_zipA hg hm (pa_cons ha (pa_cons hb pa_nil hs2) hs1) hs1 hpl) fun σ H R h => by
  obtain ⟨g, ρ, z, st, h⟩ := h
  refine ⟨g, ρ, z, st, h.bind.imp fun d z1 _ h1 v H1 st1 e1 r1 => ⟨g, ρ, z1, st1, h1.bind.imp fun e z2 _ h2 w H2 st2 e2 r2 => ?_⟩⟩
  obtain ⟨ps, hp, q⟩ := h2.opt
  obtain ⟨xs, hx, hp⟩ := Option.bind_eq_some_iff.mp hp
  obtain ⟨ys, hy, rfl⟩ := Option.map_eq_some_iff.mp hp
  obtain rfl : d = .tup xs := by cases d <;> simp_all [asT]
  obtain rfl : e = .tup ys := by cases e <;> simp_all [asT]
  obtain ⟨a, us, rfl, s, n, rs⟩ := R1.tupl (r1.mono (e2.rd st1.badR))
  obtain ⟨b, ws, rfl, s2, n2, rs2⟩ := r2.tupl
  exact ⟨a, b, us, ws, rfl, .inr ⟨s.sq, s2.sq, q _ H2 st2 (e1.trans e2) (ite_zip s.sq n rs s2.sq n2 rs2)⟩⟩
theorem wipe2 {σ : L2.St} {a b : Option V} (hij : i ≠ j) : wipe (((wipe σ [i, j]).set i a).set j b) [i, j] = wipe σ [i, j] := by
  show ((((((σ.set j none).set i none).set i a).set j b).set j none).set i none) = (σ.set j none).set i none
  rw [List.set_set, List.set_set, List.set_comm _ _ hij, List.set_set, List.set_set]
theorem dz_read {σ : L2.St} {H : Hp} {Q : VK} (hh : hs = hsOf X.prog X.w) (hij : i ≠ j) (h : tD (yx X T E) (eDz hs i j fi) σ H Q) :
    tDcT X (tiE (yx X T E) fi) (gTup X.K 2 (gCons (gName i) (gCons (gName j) gNil))) tYes (tVar i) (tVar j) [i, j] σ H Q := by
  obtain ⟨g, ρ, z, st, h⟩ := h
  refine ⟨g, ρ, z, st, h.bind.imp fun l z1 _ h1 J H1 st1 e1 it D o0 hD hK t0 => ?_⟩
  by_cases c : l.length ≤ sizeLine ∧ i < ρ.length ∧ j < ρ.length
  case neg => rw [if_neg c] at h1; exact h1.elim
  rw [if_pos c] at h1
  obtain ⟨cl, ci, cj⟩ := c
  obtain ⟨r, hr1, q⟩ := h1.opt
  obtain ⟨es, hes, rfl⟩ := Option.map_eq_some_iff.mp hr1
  have hDR : D ≠ g.R := fun e => st1.badDom st1.badR (by rw [← e]; exact hD)
  refine ⟨fun n m H' => ∃ o xs es', n + m = l.length ∧ H' D = some (.frz o (alive D)) ∧ TDo (hsOf X.prog X.w) D o xs ∧ xs.length ≤ n ∧ TDR X.K H' g.R (plus X.K H1 (bad g σ ρ)) xs es' ∧ Ext g.R H1 H' ∧ Wo X.K T (gb g σ ρ) H' z1 ∧ dzD es' (l.drop n) = some es,
    ⟨l.length, o0, [], [], Nat.zero_add _, upd_same, t0, Nat.zero_le _, .nil, .new hD, st1.wo.new hD, hes⟩, ?_⟩
  rintro n m H' ⟨o, xs, es', hm, hHD, tdo, hx, tdr, ex, wo, hz⟩
  have rdl : RdLe (bad g σ ρ) H1 H' := ex.rd st1.badR
  by_cases hn : n < l.length
  · obtain ⟨⟨xa, xb⟩, hxd⟩ : ∃ xd, l[n]? = some xd := ⟨_, List.getElem?_eq_getElem hn⟩
    have edrop : l.drop n = (xa, xb) :: l.drop (n + 1) := by
      rw [List.drop_eq_getElem_cons hn]
      rw [List.getElem?_eq_getElem hn] at hxd
      rw [Option.some.inj hxd]
    rw [edrop] at hz
    unfold dzD at hz
    obtain ⟨k, hk, hz⟩ := Option.bind_eq_some_iff.mp hz
    refine .inr ⟨it.go n H' rdl hn, _, fun H'' hW => ⟨m - 1, by omega, hW⟩, fun xv H'' hy => ?_⟩
    obtain ⟨yn, d, ad, va, vb, hd, rfl, sq, ra, rb⟩ := it.yld n H' xv H'' rdl hn hy
    rw [hxd] at hd
    cases hd
    have ra : R1 X.K H'' g.R (plus X.K H1 (bad g σ ρ)) va xa := ra
    rw [keyD_tup hk] at ra
    obtain ⟨b, us, rfl, sb, nbb, rs⟩ := ra.tupl
    have tdr2 := tdr.mono (yn.rd)
    have hD2 : H'' D = some (.frz o (alive D)) := Ext.keep (yn.ext (R := g.R)) D _ hHD hDR (fun ps z => by cases z)
    have li : i < σ.length := by rw [st1.len]; exact ci
    have lj : j < σ.length := by rw [st1.len]; exact cj
    have wl : (wipe σ [i, j]).length = σ.length := wipe_length ..
    refine ⟨ad, [.ref b, vb], rfl, sq, rfl, .ref b, [vb], rfl, vb, [], rfl, rfl, ?_⟩
    refine ⟨wipe2 hij, ?_⟩
    unfold tYes
    simp only [if_true]
    refine ⟨.ref b, by rw [List.getElem?_set_ne hij.symm, List.getElem?_set_self (by rw [wl]; exact li)], vb, by rw [List.getElem?_set_self (by rw [List.length_set, wl]; exact lj)], o, xs, kL k, b, rfl, hD2, tdo, by omega, tdr2.keys, key_sq ra, fun u o' ru t' => ?_⟩
    have wo2 : Wo X.K T (gb g σ ρ) H'' z1 := (yn.st (st1.step ex wo)).wo
    have len' : (storedH xs (kL k) b u).length ≤ n + 1 := by
      unfold storedH
      split
      · rw [List.length_map]; omega
      · rw [List.length_append]; show xs.length + 1 ≤ n + 1; omega
    exact ⟨o', _, _, by omega, upd_same, t', len', (tdr2.put ra ru rb).mono (RdLe.up (.inr ⟨hD, hK⟩)), (ex.trans yn.ext).upNew hD, wo_known wo2 hD2, hz⟩
  · have en : n = l.length := by omega
    rw [List.drop_of_length_le (by omega)] at hz
    cases hz
    refine .inl ⟨it.stop n H' rdl (by omega), ?_⟩
    have sF : StR (yx X T E) g H' σ ρ z1 := st1.step ex wo
    rw [hh] at q
    exact q _ H' sF (e1.trans ex) (r1_dictT hHD (st1.fresh hD) tdo (tdr.less fun a h => .inl h))
theorem pu_dz {kk : Nat} {tpos : Pos} {scope : Scope} {k : Nat} (hh : hs = hsOf X.prog X.w) (hr : Room k X.A) (hij : i ≠ j) (hc : X.calm = true) (hN : X.N.Nodup) (hi : PI X (.Tuple [ea, eb] kk tpos) iter (tiE (yx X T E) fi)) (ok : BlkOk X.N X.env.scope scope [(x, i), (y, j)])
    (hg : AllBlk X scope fun Y => PG Y (.Tuple [ea, eb] kk tpos) (gTup X.K 2 (gCons (gName i) (gCons (gName j) gNil)))) (na : AllBlk X scope fun Y => PE Y kx (tVar i)) (nb : AllBlk X scope fun Y => PE Y vx (tVar j)) (hf : ∀ v, foldedSetIterable iter X.env v = pure v := by intro _; rfl) :
    PE X (.DictComp kx vx [⟨.Tuple [ea, eb] kk tpos, iter, [], 0⟩] scope pos) (tD (yx X T E) (eDz hs i j fi)) :=
  PE_imp (pe_dcT (own := [(x, i), (y, j)]) (by have := hr.un; omega) hc hN hi ok hg (fun _ _ _ _ _ => pts_nil) na nb hf) fun σ H Q h => dz_read hh hij h
end
end DL
set_option Elab.async false
set_option linter.all false
set_option maxRecDepth 100000
set_option maxHeartbeats 1000000
namespace DL
open PySem PySem.Spec PyProof.Rows L2

section
variable {prog : Program} {w : World} {A : Around} {R : Result → Shared → Prop} {s : Shared} {elt ta ia tb ib : Expr} {fa fb : List Expr} {scope : Scope} {pos : Pos} {it acc : Value} {env : Env}
abbrev testsOf (cs : List Expr) (env : Env) : Sem Bool := forIn cs true fun c r => if r = true then do let ok ← isTrue c env (eval c env); pure (ForInStep.yield ok) else pure (ForInStep.yield r)
end
section
variable {X : L2.Cx} {pins : List (Addr × Obj)} {σ : L2.St} {H : Hp} {s : Shared}
end
end DL
set_option Elab.async false
set_option linter.all false
set_option maxRecDepth 100000
set_option maxHeartbeats 1000000
namespace DL
open PySem PySem.Spec PyProof.Rows L2

section
variable {X : L2.Cx} {pins : List (Addr × Obj)} {σ : L2.St} {H : Hp} {s : Shared}
/-- {elt for .. in .. if .. for .. in .. if ..}, elt a tuple of ints -/
def tScT (X : L2.Cx) (wi : TI) (g : TG) (tt : TT) (wi1 : TI) (g1 : TG) (tt1 : TT) (te : TE) (vs vs1 : List Nat) : TE := fun σ H Q => wi σ H fun J H1 => ∀ D o0, H1 D = none → X.K.lookup D = none → SetOb (spOf X.prog X.w) o0 [] →
  ∃ W : Nat → Nat → Hp → Prop, (∃ m, W 0 m (upd H1 D (.frz o0 (alive D)))) ∧ ∀ n m H, W n m H →
  (J.stop n H ∧ Q (.ref D) H) ∨ (J.go n H ∧ ∃ Nx : Hp → Prop, (∀ H', Nx H' → ∃ m', m' < m ∧ W (n + 1) m' H') ∧ ∀ x H', J.yld n H x H' → g x (wipe σ vs) H' fun σ2 H2 => wipe σ2 vs = wipe σ vs ∧ tt σ2 H2 fun c H3 =>
    if c = true then wi1 σ2 H3 fun J1 H4 => ∃ W1 : Nat → Nat → Hp → Prop, (∃ m, W1 0 m H4) ∧ ∀ j k H, W1 j k H →
      (J1.stop j H ∧ Nx H) ∨ (J1.go j H ∧ ∃ Ny : Hp → Prop, (∀ H', Ny H' → ∃ k', k' < k ∧ W1 (j + 1) k' H') ∧ ∀ x H', J1.yld j H x H' → g1 x (wipe σ2 vs1) H' fun σ3 H5 => wipe σ3 vs1 = wipe σ2 vs1 ∧ tt1 σ3 H5 fun c H6 =>
        if c = true then te σ3 H6 fun y H7 => ∃ o L k b, y = .ref b ∧ H7 D = some (.frz o (alive D)) ∧ SetOb (spOf X.prog X.w) o L ∧ L.length + 1 < 64 ∧ (∀ p ∈ L, SqT X.K H7 p.1 (p.2.map V.int)) ∧ SqT X.K H7 b (k.map V.int) ∧
          ∀ o' L', SetOb (spOf X.prog X.w) o' L' → (k ∈ L.map (·.2) → L' = L) → (k ∉ L.map (·.2) → L'.Perm ((b, k) :: L)) → Ny (upd H7 D (.frz o' (alive D))) else Ny H6)
    else Nx H3)
end
end DL
set_option Elab.async false
set_option linter.all false
set_option maxRecDepth 100000
set_option maxHeartbeats 2000000
namespace DL
open PySem PySem.Spec PyProof.Rows L2

def wipe2D (ρ : EnD) (i j : Nat) : EnD := (ρ.set j none).set i none
/-- the elements of .. for i in xs for j in l if t -/
def comp2L (b2 i j : Nat) (l : EnD → M (List D)) (t : EnD → M Bool) (f : EnD → M D) : List D → EnD → M (List D)
  | [], _ => mpure []
  | x :: xs, ρ => mbind (mne (l ((wipe2D ρ i j).set i (some (.val x))))) fun l1 => if l1.length ≤ b2 then mbind (compL j t f l1 ((wipe2D ρ i j).set i (some (.val x)))) fun ds => mbind (comp2L b2 i j l t f xs ρ) fun es => mpure (ds ++ es) else mbad
def eLc2 (i j : Nat) (xs l : EnD → M (List D)) (t : EnD → M Bool) (f : EnD → M D) : EnD → M D := fun ρ => mbind (xs ρ) fun ds =>
  if ds.length ≤ 65536 ∧ ownAt ρ i = false ∧ ownAt ρ j = false then mbind (comp2L 256 i j l t f ds ρ) fun es => mpure (.lst es) else mbad
def intsC : List D → Option (List Int)
  | [] => some []
  | .int n :: r => (intsC r).map fun ns => n :: ns
  | _ => none
def tupI : D → Option (List Int)
  | .tup ds => intsC ds
  | _ => none
def eChk (f : EnD → M D) : EnD → M D := fun ρ => mbind (f ρ) fun d => mopt ((tupI d).map fun _ => d)
def eSc2 (sp : SetSp) (i j : Nat) (xs l : EnD → M (List D)) (t : EnD → M Bool) (f : EnD → M D) : EnD → M D := fun ρ => mbind (xs ρ) fun ds =>
  if ds.length ≤ 20 ∧ ownAt ρ i = false ∧ ownAt ρ j = false then mbind (comp2L 3 i j l t (eChk f) ds ρ) fun es => mpure (.st sp (es.filterMap tupI)) else mbad
section
variable {X : L2.Cx} {T : Tb} {E : XK} {g : G} {H H1 : Hp} {σ : L2.St} {ρ : EnD} {z z1 : S} {i j : Nat} {Dd : Addr}
/-- a new thing stands, kept away from -/
theorem wo_guard0 {o : HO} (st : StR (yx X T E) g H1 σ ρ z) (hD : H1 Dd = none) (hK : X.K.lookup Dd = none) : Wo X.K T (gb (gd g Dd) σ ρ) (upd H1 Dd o) z := by
  obtain ⟨⟨SA, s1, s2, s3⟩, ht, hb, hd, hk, _⟩ := st.wo
  have hS : SA ≠ Dd := fun e => by
    rcases s2 with s2 | ⟨o, its, nn, s2, _⟩
    · exact rd_some s2 (by rw [e]; exact hD)
    · rw [e, hK] at s2; cases s2
  have w := st.wo.new (o := o) hD
  obtain ⟨_, ht', hb', hd', hk', hl', hi'⟩ := w
  refine ⟨⟨SA, fun q => ?_, ?_, by rw [upd_ne (ne_of_none s3 hD)]; exact s3⟩, ht', .inl (.inl st.gR), fun a ha => ?_, fun a ha => ?_, hl', hi'⟩
  · have q : bad (gd g Dd) σ ρ SA := q
    rw [bad_gd] at q
    exact q.elim s1 hS
  · rcases s2 with (q | ⟨ob, q⟩) | q
    · exact .inl (.inl (by rw [upd_ne hS]; exact q))
    · exact .inl (.inr ⟨ob, by rw [upd_ne hS]; exact q⟩)
    · exact .inr q
  · have ha : bad (gd g Dd) σ ρ a := ha
    rw [bad_gd] at ha
    rcases ha with ha | rfl
    · exact hd' a ha
    · rw [upd_same]; exact fun z => by cases z
  · have ha : bad (gd g Dd) σ ρ a := ha
    rw [bad_gd] at ha
    rcases ha with ha | rfl
    · exact hk' a ha
    · exact hK
theorem bad_turn (g : G) (ci : ownAt ρ i = false) (cj : ownAt ρ j = false) (xv : V) (xd : D) : bad g ((wipe σ [i, j]).set i (some xv)) ((wipe2D ρ i j).set i (some (.val xd))) = bad g σ ρ := by
  have c1 : ownAt (ρ.set j none) i = false := by rw [ownAt_set cj (y := none) trivial]; exact ci
  have c2 : ownAt (wipe2D ρ i j) i = false := by unfold wipe2D; rw [ownAt_set c1 (y := none) trivial]; exact c1
  rw [bad_set c2 (some xv) (some (.val xd)) trivial]
  show bad g ((σ.set j none).set i none) ((ρ.set j none).set i none) = _
  rw [bad_set c1 none none trivial, bad_set cj none none trivial]
theorem own_turn (ci : ownAt ρ i = false) (cj : ownAt ρ j = false) (xd : D) : ownAt ((wipe2D ρ i j).set i (some (.val xd))) j = false := by
  have c1 : ownAt (ρ.set j none) i = false := by rw [ownAt_set cj (y := none) trivial]; exact ci
  have c2 : ownAt (wipe2D ρ i j) i = false := by unfold wipe2D; rw [ownAt_set c1 (y := none) trivial]; exact c1
  rw [ownAt_set c2 (y := some (.val xd)) trivial]
  unfold wipe2D
  rw [ownAt_set c1 (y := none) trivial, ownAt_set cj (y := none) trivial]
  exact cj
theorem comp2_gen {l : List D} {J : It} {o0 : HO} {AccP : Hp → List D → Prop} {Push : V → Hp → (Hp → Prop) → Prop} {okD : D → Prop} {Fin : List D → S → Prop} {Qf : Hp → Prop} {b1 b2 : Nat} {fi1 : EnD → M (List D)} {t : EnD → M Bool} {f : EnD → M D}
    (st1 : StR (yx X T E) g H1 σ ρ z1) (it : ItD X.K g.R (bad g σ ρ) H1 J l) (hD : H1 Dd = none) (ci : ownAt ρ i = false) (cj : ownAt ρ j = false) (cl : l.length ≤ b1) (hok : ∀ ρ z d z', f ρ z = .ok d z' → okD d)
    (a0 : AccP (upd H1 Dd o0) []) (aS : ∀ H' ds, AccP H' ds → ∃ o, H' Dd = some o ∧ (∀ ps, o ≠ .tbl ps) ∧ ∀ φ, o ≠ .ext φ) (aM : ∀ H' H'' ds, AccP H' ds → Ext g.R H' H'' → AccP H'' ds)
    (aP : ∀ y H' ds d N, AccP H' ds → R1 X.K H' g.R (fun a => bad g σ ρ a ∨ a = Dd) y d → ds.length < b1 * b2 → okD d → (∀ o', AccP (upd H' Dd o') (ds ++ [d]) → N (upd H' Dd o')) → Push y H' N)
    (fin : ∀ ds z' H', Fin ds z' → StR (yx X T E) g H' σ ρ z' → Ext g.R H1 H' → AccP H' ds → Qf H')
    (hcomp : After (yx X T E) g (comp2L b2 i j fi1 t f l ρ z1) Fin) :
    ∃ W : Nat → Nat → Hp → Prop, (∃ m, W 0 m (upd H1 Dd o0)) ∧ ∀ n m H, W n m H →
      (J.stop n H ∧ Qf H) ∨ (J.go n H ∧ ∃ Nx : Hp → Prop, (∀ H', Nx H' → ∃ m', m' < m ∧ W (n + 1) m' H') ∧ ∀ x H', J.yld n H x H' → gName i x (wipe σ [i, j]) H' fun σ2 H2 => wipe σ2 [i, j] = wipe σ [i, j] ∧ (KN X.K H2 → tYes σ2 H2 fun c H3 =>
        if c = true then tiD (yx X T E0) fi1 σ2 H3 fun J1 H4 => ∃ W1 : Nat → Nat → Hp → Prop, (∃ m, W1 0 m H4) ∧ ∀ q k H, W1 q k H →
          (J1.stop q H ∧ Nx H) ∨ (J1.go q H ∧ ∃ Ny : Hp → Prop, (∀ H', Ny H' → ∃ k', k' < k ∧ W1 (q + 1) k' H') ∧ ∀ x H', J1.yld q H x H' → gName j x (wipe σ2 [j]) H' fun σ3 H5 => wipe σ3 [j] = wipe σ2 [j] ∧ (KN X.K H5 → ttD (yx X T E0) t σ3 H5 fun c H6 =>
            if c = true then (KN X.K H6 → tD (yx X T E0) f σ3 H6 fun y H7 => Push y H7 Ny) else Ny H6))
        else Nx H3)) := by
  have hDR : Dd ≠ g.R := fun e => st1.badDom st1.badR (by rw [← e]; exact hD)
  have h0D : g.H0 Dd = none := by
    cases e : g.H0 Dd with
    | none => rfl
    | some o => exact absurd hD (st1.ext.dom Dd (by rw [e]; exact fun z => by cases z))
  refine ⟨fun n m H' => ∃ ds zi, n + m = l.length ∧ AccP H' ds ∧ Ext g.R H1 H' ∧ Wo X.K T (gb g σ ρ) H' zi ∧ (X.K.lookup Dd = none → Wo X.K T (gb (gd g Dd) σ ρ) H' zi) ∧ ds.length ≤ n * b2 ∧ After (yx X T E) g (comp2L b2 i j fi1 t f (l.drop n) ρ zi) fun ds' z' => Fin (ds ++ ds') z',
    ⟨l.length, [], z1, Nat.zero_add _, a0, .new hD, st1.wo.new hD, fun hK => wo_guard0 st1 hD hK, Nat.zero_le _, hcomp⟩, ?_⟩
  rintro n m H' ⟨ds, zi, hm, acc, ex, wo, wog, hds, hc⟩
  have rdl : RdLe (bad g σ ρ) H1 H' := ex.rd st1.badR
  by_cases hn : n < l.length
  · obtain ⟨xd, hxd⟩ : ∃ xd, l[n]? = some xd := ⟨_, List.getElem?_eq_getElem hn⟩
    have edrop : l.drop n = xd :: l.drop (n + 1) := by
      rw [List.drop_eq_getElem_cons hn]
      rw [List.getElem?_eq_getElem hn] at hxd
      cases hxd
      rfl
    rw [edrop] at hc
    unfold comp2L at hc
    refine .inr ⟨it.go n H' rdl hn, _, fun H'' hW => ⟨m - 1, by omega, hW⟩, fun xv H'' hy => ?_⟩
    obtain ⟨rfl, d, hd, rx⟩ := it.yld n H' xv H'' rdl hn hy
    rw [hxd] at hd
    cases hd
    show wipe ((wipe σ [i, j]).set i (some xv)) [i, j] = wipe σ [i, j] ∧ _
    refine ⟨by
      show (((((σ.set j none).set i none).set i (some xv)).set j none).set i none) = (σ.set j none).set i none
      by_cases e : i = j
      · subst e; simp
      · rw [List.set_comm _ _ e, List.set_set, List.set_comm _ _ e, List.set_set, List.set_set]
        , fun kn => ?_⟩
    unfold tYes
    simp only [if_true]
    obtain ⟨o1, hHD, ot, ox⟩ := aS _ _ acc
    have hK : X.K.lookup Dd = none := kn Dd (by rw [hHD]; exact fun z => by cases z)
    have sg := st1.guard (H := H'') (z' := zi) hD hK ex (wog hK)
    have sub : ∀ a, bad (gd g Dd) σ ρ a → plus X.K H1 (bad g σ ρ) a := fun a h => by
      rw [bad_gd] at h
      rcases h with h | rfl
      · exact .inl h
      · exact .inr ⟨hD, hK⟩
    have c1 : ownAt (ρ.set j none) i = false := by rw [ownAt_set cj (y := none) trivial]; exact ci
    have c2 : ownAt (wipe2D ρ i j) i = false := by unfold wipe2D; rw [ownAt_set c1 (y := none) trivial]; exact c1
    have s2 : StR (yx X T E) (gd g Dd) H'' (wipe σ [i, j]) (wipe2D ρ i j) zi := (sg.setn (i := j) cj).setn (i := i) c1
    have b2' : bad (gd g Dd) (wipe σ [i, j]) (wipe2D ρ i j) = bad (gd g Dd) σ ρ := by
      show bad (gd g Dd) ((σ.set j none).set i none) ((ρ.set j none).set i none) = _
      rw [bad_set c1 none none trivial, bad_set cj none none trivial]
    have s3 : StR (yx X T E0) (gd g Dd) H'' ((wipe σ [i, j]).set i (some xv)) ((wipe2D ρ i j).set i (some (.val xd))) zi :=
      (s2.setv c2 (by rw [b2']; exact rx.less sub)).chE
    have bE := bad_turn (σ := σ) (gd g Dd) ci cj xv xd
    have cj2 := own_turn ci cj xd
    generalize hσ2 : (wipe σ [i, j]).set i (some xv) = σ2 at s3 bE ⊢
    generalize hρ2 : (wipe2D ρ i j).set i (some (.val xd)) = ρ2 at s3 bE hc cj2
    refine ⟨gd g Dd, ρ2, zi, s3, (After.ne hc.bind).imp fun l1 z2 _ h3 J1 H4 st4 e4 it1 => ?_⟩
    by_cases hb : l1.length ≤ b2
    case neg => rw [if_neg hb] at h3; exact h3.elim
    rw [if_pos hb] at h3
    have badRd : (fun a => bad g σ ρ a ∨ a = Dd) g.R := .inl st1.badR
    have bR2 : bad (gd g Dd) σ2 ρ2 g.R := by rw [bE, bad_gd]; exact badRd
    have bD2 : bad (gd g Dd) σ2 ρ2 Dd := by rw [bE, bad_gd]; exact .inr rfl
    refine ⟨fun q k H' => ∃ es zi, q + k = l1.length ∧ AccP H' (ds ++ es) ∧ Ext g.R H1 H' ∧ RdLe (bad (gd g Dd) σ2 ρ2) H4 H' ∧ StR (yx X T E0) (gd g Dd) H' σ2 ρ2 zi ∧ es.length ≤ q ∧
      After (yx X T E) g (compL j t f (l1.drop q) ρ2 zi) fun es' z' => After (yx X T E) g (comp2L b2 i j fi1 t f (l.drop (n + 1)) ρ z') fun rs z'' => Fin (ds ++ ((es ++ es') ++ rs)) z'',
      ⟨l1.length, [], z2, Nat.zero_add _, by rw [List.append_nil]; exact aM _ _ _ acc e4, ex.trans e4, RdLe.refl, st4, Nat.zero_le _, ?_⟩, ?_⟩
    · rw [List.drop_zero]
      exact h3.bind.imp fun es' z' _ q => q.bind.imp fun rs z'' _ q2 => q2.pure
    rintro q k H5 ⟨es, z3, hq, acc5, ex5, rd5, st5, hes, hc5⟩
    by_cases hqn : q < l1.length
    · obtain ⟨yd, hyd⟩ : ∃ yd, l1[q]? = some yd := ⟨_, List.getElem?_eq_getElem hqn⟩
      have edrop1 : l1.drop q = yd :: l1.drop (q + 1) := by
        rw [List.drop_eq_getElem_cons hqn]
        rw [List.getElem?_eq_getElem hqn] at hyd
        cases hyd
        rfl
      rw [edrop1] at hc5
      unfold compL at hc5
      refine .inr ⟨it1.go q H5 rd5 hqn, _, fun H'' hW => ⟨k - 1, by omega, hW⟩, fun yv H6 hy6 => ?_⟩
      obtain ⟨rfl, d6, hd6, ry⟩ := it1.yld q H5 yv H6 rd5 hqn hy6
      rw [hyd] at hd6
      cases hd6
      show wipe ((wipe σ2 [j]).set j (some yv)) [j] = wipe σ2 [j] ∧ _
      refine ⟨by simp [wipe], fun kn6 => ?_⟩
      have c3 : ownAt (ρ2.set j none) j = false := by rw [ownAt_set cj2 (y := none) trivial]; exact cj2
      have b3 : bad (gd g Dd) (σ2.set j none) (ρ2.set j none) = bad (gd g Dd) σ2 ρ2 := bad_set cj2 none none trivial
      have s6 : StR (yx X T E0) (gd g Dd) H6 ((wipe σ2 [j]).set j (some yv)) ((ρ2.set j none).set j (some (.val yd))) z3 :=
        (st5.setn (i := j) cj2).setv c3 (by rw [b3]; exact Rs.less (fun a h => .inl h) ry)
      have b4 : bad (gd g Dd) ((wipe σ2 [j]).set j (some yv)) ((ρ2.set j none).set j (some (.val yd))) = bad (gd g Dd) σ2 ρ2 := by
        rw [bad_set c3 (some yv) (some (.val yd)) trivial]
        exact b3
      -- back in the turn's slots
      have back : ∀ {H' : Hp} {z' : S}, StR (yx X T E0) (gd g Dd) H' ((wipe σ2 [j]).set j (some yv)) ((ρ2.set j none).set j (some (.val yd))) z' → Ext g.R H6 H' → StR (yx X T E0) (gd g Dd) H' σ2 ρ2 z' := fun {H' z'} s e => st5.step e (by
        have := s.wo
        unfold gb at this
        rw [b4] at this
        exact this)
      refine ⟨gd g Dd, _, z3, s6, (After.ne hc5.bind).imp fun b z4 _ h7 H7 st7 e7 => ?_⟩
      have st7' := back st7 e7
      have acc7 := aM _ _ _ acc5 e7
      cases b with
      | false =>
        simp only [Bool.false_eq_true, if_false] at h7 ⊢
        exact ⟨es, z4, by omega, acc7, ex5.trans e7, rd5.trans (e7.rd bR2), st7', by omega, h7⟩
      | true =>
        simp only [if_true] at h7 ⊢
        intro kn7
        refine ⟨gd g Dd, _, z4, st7, (After.ne h7.bind).imp fun d z5 eqd h8 y H8 st8 e8 ry8 => ?_⟩
        have st8' := back st8 (e7.trans e8)
        have acc8 := aM _ _ _ acc7 e8
        have ry8 : R1 X.K H8 g.R (fun a => bad g σ ρ a ∨ a = Dd) y d := by
          have := ry8
          rw [b4, bE, bad_gd] at this
          exact this
        have lt : (ds ++ es).length < b1 * b2 := by
          rw [List.length_append]
          have h1 : n * b2 + b2 ≤ b1 * b2 := by
            rw [← Nat.succ_mul]
            exact Nat.mul_le_mul_right b2 (by omega)
          omega
        refine aP y H8 (ds ++ es) d _ acc8 ry8 lt (hok _ _ _ _ eqd) fun o' acc9 => ?_
        obtain ⟨o8, hD8, t8, x8⟩ := aS _ _ acc8
        refine ⟨es ++ [d], z5, by omega, by rw [← List.append_assoc]; exact acc9, ((ex5.trans e7).trans e8).upNew hD, (rd5.trans (e7.rd bR2)).trans ((e8.rd bR2).trans (RdLe.up bD2)), st8'.upB (.inr rfl) hDR hD8 t8 h0D x8, by rw [List.length_append]; simp only [List.length_cons, List.length_nil]; omega, ?_⟩
        refine h8.bind.imp fun es' z6 _ q6 => q6.pure.imp fun rs z7 _ q7 => ?_
        rw [show es ++ [d] ++ es' = es ++ (d :: es') by simp]
        exact q7
    · have en : q = l1.length := by omega
      refine .inl ⟨it1.stop q H5 rd5 (by omega), ?_⟩
      rw [List.drop_of_length_le (by omega)] at hc5
      have hc5 := After.pure (x := []) hc5
      rw [List.append_nil] at hc5
      have w5 : Wo X.K T (gb (gd g Dd) σ ρ) H5 z3 := by
        have := st5.wo
        unfold gb at this
        rw [bE] at this
        exact this
      refine ⟨ds ++ es, z3, by omega, acc5, ex5, w5.less (fun a h => bad_le h) st1.badR, fun _ => w5, by rw [List.length_append, Nat.succ_mul]; omega, ?_⟩
      exact hc5.imp fun rs z'' _ q => by rw [List.append_assoc]; exact q
  · have en : n = l.length := by omega
    refine .inl ⟨it.stop n H' rdl (by omega), ?_⟩
    rw [List.drop_of_length_le (by omega)] at hc
    have hc := After.pure (x := []) hc
    rw [List.append_nil] at hc
    exact fin ds zi H' hc (st1.step ex wo) ex acc
end
end DL
set_option Elab.async false
set_option linter.all false
set_option maxRecDepth 100000
set_option maxHeartbeats 2000000
namespace DL
open PySem PySem.Spec PyProof.Rows L2

section
variable {X : L2.Cx} {T : Tb} {E : XK} {fi fi1 : EnD → M (List D)} {t : EnD → M Bool} {f : EnD → M D} {elt iter iter1 tg tg1 : Expr} {ifs1 : List Expr} {scope : Scope} {pos : Pos} {x y : Str} {i j : Nat}
theorem sizeLine_sq : 65536 * 256 = sizeLine := by rw [sizeLine_eq]
theorem lc2_read {σ : L2.St} {H : Hp} {Q : VK} (h : tD (yx X T E) (eLc2 i j fi fi1 t f) σ H Q) :
    tLc2 (tiD (yx X T E) fi) (gName i) (fun σ H Q => KN X.K H → tYes σ H Q) (tiD (yx X T E0) fi1) (gName j) (fun σ H Q => KN X.K H → ttD (yx X T E0) t σ H Q) (fun σ H Q => KN X.K H → tD (yx X T E0) f σ H Q) [i, j] [j] σ H Q := by
  obtain ⟨g, ρ, z, st, a⟩ := h
  refine ⟨g, ρ, z, st, a.bind.imp fun l z1 _ h1 J H1 st1 e1 it Dd hD => ?_⟩
  by_cases c : l.length ≤ 65536 ∧ ownAt ρ i = false ∧ ownAt ρ j = false
  case neg => rw [if_neg c] at h1; exact h1.elim
  rw [if_pos c] at h1
  have hDR : Dd ≠ g.R := fun e => st1.badDom st1.badR (by rw [← e]; exact hD)
  have badRd : (fun a => bad g σ ρ a ∨ a = Dd) g.R := .inl st1.badR
  exact comp2_gen (b1 := 65536) (b2 := 256) (o0 := .lst []) (okD := fun _ => True) (AccP := fun H' ds => ∃ acc, H' Dd = some (.lst acc) ∧ Rs X.K H' g.R (fun a => bad g σ ρ a ∨ a = Dd) acc ds)
    (Push := fun y H' N => ∃ acc, H' Dd = some (.lst acc) ∧ acc.length < sizeLine ∧ N (upd H' Dd (.lst (acc ++ [y])))) (Qf := fun H' => Q (.ref Dd) H')
    st1 it hD c.2.1 c.2.2 c.1 (fun _ _ _ _ _ => trivial) ⟨[], upd_same, .nil⟩ (fun H' ds ⟨acc, h, _⟩ => ⟨_, h, (fun ps z => by cases z), fun φ z => by cases z⟩)
    (fun H' H'' ds ⟨acc, h, r⟩ ex => ⟨acc, ex.keep Dd _ h hDR (fun ps z => by cases z), r.mono (ex.rd badRd)⟩)
    (fun yv H' ds d N ⟨acc, h, r⟩ ry lt _ q => ⟨acc, h, by rw [r.length, ← sizeLine_sq]; exact lt, q _ ⟨_, upd_same, Rs.mono (RdLe.up (.inr rfl)) (r.append ry)⟩⟩)
    (fun ds z' H' hf st' ex ⟨acc, h, r⟩ => hf _ H' st' (e1.trans ex) (.lst h (st1.fresh hD) (r.less fun a h => .inl h) .nil))
    (h1.bind.imp fun es z' _ q => q.pure)
theorem pu_lc2 (hc : X.calm = true) (hN : X.N.Nodup) (hi : PI X tg iter (tiD (yx X T E) fi)) (ok : BlkOk X.N X.env.scope scope [(x, i), (y, j)])
    (hg : AllBlk X scope fun Y => PG Y tg (gName i)) (hi1 : AllBlk X scope fun Y => PI Y tg1 iter1 (tiD (yx X T E0) fi1)) (hg1 : AllBlk X scope fun Y => PG Y tg1 (gName j)) (ht1 : AllBlk X scope fun Y => PTs Y ifs1 (ttD (yx X T E0) t)) (he : AllBlk X scope fun Y => PE Y elt (tD (yx X T E0) f))
    (hs : ∀ x, foldedSetIterable iter X.env x = pure x := by intro _; rfl) (hs1 : ∀ env x, foldedSetIterable iter1 env x = pure x := by intro _ _; rfl) :
    PE X (.ListComp elt [⟨tg, iter, [], 0⟩, ⟨tg1, iter1, ifs1, 0⟩] scope pos) (tD (yx X T E) (eLc2 i j fi fi1 t f)) :=
  PE_imp (pe_lc2 (own := [(x, i), (y, j)]) (vs1 := [j]) (tt := fun σ H Q => KN X.K H → tYes σ H Q) (tt1 := fun σ H Q => KN X.K H → ttD (yx X T E0) t σ H Q) (te := fun σ H Q => KN X.K H → tD (yx X T E0) f σ H Q) hc hN hi ok (by simp) hg (fun s H C cl fp => PTs_kn pts_nil) hi1 hg1 (fun s H C cl fp => PTs_kn (ht1 s H C cl fp)) (fun s H C cl fp => PE_kn (he s H C cl fp)) hs hs1) fun σ H Q h => lc2_read h
theorem ints_of : ∀ {k : List Int} {us : List V} {K : PySem.W.Frag} {H : Hp} {R : Addr} {B : Addr → Prop}, Rs K H R B us (k.map .int) → us = k.map V.int
  | [], us, _, _, _, _, h => by cases h; rfl
  | z :: k, [], _, _, _, _, h => by cases h
  | z :: k, u :: us, _, _, _, _, h => by rw [ints_of h.split.2, h.split.1.int] <;> rfl
theorem tup_sq {K : PySem.W.Frag} {H : Hp} {R : Addr} {B : Addr → Prop} {v : V} {k : List Int} (r : R1 K H R B v (.tup (k.map .int))) : ∃ b, v = .ref b ∧ SqT K H b (k.map V.int) := by
  obtain ⟨a, us, e, s, _, rs⟩ := r.tupl
  exact ⟨a, e, by rw [← ints_of rs]; exact s.sq⟩
end
end DL
set_option Elab.async false
set_option linter.all false
set_option maxRecDepth 100000
set_option maxHeartbeats 1000000
namespace SEQ
open PySem PySem.Spec PyProof.Rows L2

section
variable {P : Program} {w : World} {A : Around} {E : Value → Shared → Prop} {s : Shared} {a : Addr} {L : List (Addr × List Int)} {es : Array (Int × Value)} {ep : Nat} {t : SetTable}
abbrev probe0 (t : SetTable) (m : Int) : SetTable.Probe := runAt t.mask (SetTable.bits m % (t.mask + 1)) (SetTable.bits m)
end
end SEQ
set_option Elab.async false
set_option linter.all false
set_option maxRecDepth 100000
set_option maxHeartbeats 1000000
namespace SEQ
open PySem PySem.Spec PyProof.Rows L2

section
variable {P : Program} {w : World} {A : Around} {E : Value → Shared → Prop} {s : Shared} {a b : Addr} {L La Lb : List (Addr × List Int)} {es ea eb : Array (Int × Value)} {ep epa epb : Nat} {t ta tb : SetTable}
end
end SEQ
set_option Elab.async false
set_option linter.all false
set_option maxRecDepth 100000
set_option maxHeartbeats 2000000
namespace DL
open PySem PySem.Spec PyProof.Rows L2

def eqMem (a b : List (List Int)) : Bool := a.all (fun k => b.any fun x => decide (x = k)) && b.all (fun k => a.any fun x => decide (x = k))
open Classical in
noncomputable def eqSt (sp : SetSp) : D → D → Option D
  | .st s1 a, .st s2 b => if s1 = sp ∧ s2 = sp then some (.bl (eqMem a b)) else none
  | _, _ => none
theorem R1.set {K : PySem.W.Frag} {H : Hp} {R : Addr} {B : Addr → Prop} {sp : SetSp} {v : V} {ks : List (List Int)} (h : R1 K H R B v (.st sp ks)) : ∃ a o L, v = .ref a ∧ H a = some (.frz o (alive a)) ∧ SetOb sp o L ∧ (∀ k, k ∈ L.map (·.2) ↔ k ∈ ks) ∧ ∀ p ∈ L, SqT K H p.1 (p.2.map V.int) := by
  cases h with
  | atom a _ => cases a
  | @st _ a o L _ _ _ s n e r _ =>
    refine ⟨a, o, L, rfl, s, e.1, e.2, ?_⟩
    intro p hp
    clear s n e
    induction L with
    | nil => cases hp
    | cons q L ih =>
      rcases List.mem_cons.mp hp with e | hp
      · subst e
        obtain ⟨b, eb, sq⟩ := tup_sq r.split.1
        cases eb
        exact sq
      · exact ih r.split.2 hp
def rEqSt (X : L2.Cx) : R2 := fun x y H Q => ∃ a b o u L M, x = .ref a ∧ y = .ref b ∧ H a = some (.frz o (alive a)) ∧ H b = some (.frz u (alive b)) ∧ SetOb (spOf X.prog X.w) o L ∧ SetOb (spOf X.prog X.w) u M ∧
  (∀ p ∈ L, SqT X.K H p.1 (p.2.map V.int)) ∧ (∀ p ∈ M, SqT X.K H p.1 (p.2.map V.int)) ∧ ∀ c, (c = true ↔ ∀ k, k ∈ L.map (·.2) ↔ k ∈ M.map (·.2)) → Q (.bl c) H
section
variable {X : L2.Cx} {T : Tb} {E : XK}
end
end DL
set_option Elab.async false
set_option linter.all false
set_option maxRecDepth 100000
set_option maxHeartbeats 1000000
namespace SETS
open PySem PySem.Spec PyProof.Rows L2

def dd (σ : List Str) (x : Str) : List Str := if σ.any (· == x) then σ else σ ++ [x]
def met (xs : List Str) (i : Nat) : List Str := (xs.take i).foldl dd []
section
variable {P : Program} {w : World} {A : Around} {R : Result → Shared → Prop} {I : Addr} {fp wr : List Addr} {G : Array GenState → Array GenState → Prop} {n : Nat} {Pv : Nat → Value → Prop} {St : Nat → Shared → Prop}
end
section
variable {P : Program} {w : World} {A : Around} {E : Value → Shared → Prop} {s : Shared}
set_option maxHeartbeats 3200000 in
set_option maxHeartbeats 3200000 in
end
end SETS
set_option Elab.async false
set_option linter.all false
set_option maxRecDepth 100000
set_option maxHeartbeats 1000000
namespace DL
open PySem PySem.Spec PyProof.Rows L2 SETS

abbrev signs (z : Str) : List Str := z.cps.toList.map fun c => (⟨#[c]⟩ : Str)
def tLenSet2 (K : PySem.W.Frag) (ta : TE) : TE := fun σ H Q => ta σ H fun x H1 => (∃ l, ∃ xs : List Str, x = .ref l ∧ SqL K H1 l (xs.map V.str) ∧ xs.length ≤ 50 ∧ Q (.int ((met xs xs.length).length : Nat)) H1) ∨
  ∃ z : Str, x = .str z ∧ z.cps.size ≤ 50 ∧ Q (.int ((met (signs z) (signs z).length).length : Nat)) H1
section
variable {X : L2.Cx}
end
/-- how many different -/
def ddZ (σ : List (List Nat)) (x : List Nat) : List (List Nat) := if σ.any (fun y => decide (y = x)) then σ else σ ++ [x]
def cntZ (zs : List (List Nat)) : Nat := (zs.foldl ddZ []).length
def lenSetD : D → Option D
  | .lst ds => (strsD ds).bind fun zs => if zs.length ≤ 50 then some (.int (cntZ zs)) else none
  | .str z => if z.length ≤ 50 then some (.int (cntZ (z.map fun c => [c]))) else none
  | _ => none
section
variable {X : L2.Cx} {T : Tb} {E : XK} {a : Expr} {fa : EnD → M D} {p p2 q pos : Pos}
end
end DL
set_option Elab.async false
set_option linter.all false
set_option maxRecDepth 100000
set_option maxHeartbeats 1000000
namespace DL
open PySem PySem.Spec PyProof.Rows L2

/-- raise of a class that has no __init__ of its own -/
def sRaise (x : Str) : SM := fun _ z => .exc ⟨x, none⟩ z
/-- what is known of such a class -/
structure XCls (K : PySem.W.Frag) (mg : Str → Option Value) (x : Str) (C : Addr) : Prop where
  exc : ∃ (B newId initId : String) (bmB : List Value), ExcBaseFacts B newId initId bmB ∧ PySem.W.excIn K C bmB newId = true
  glob : mg x = some (.ref C)
  keep : PySem.W.keepIn K (.ref C) = true
  sub : PySem.W.subIn K (.ref C) (.type "BaseException") = some true
  ty : PySem.W.typeIn K (.ref C) = some (.type "type")
section
variable {X : L2.Cx} {T : Tb} {E : XK} {x m : Str} {C : Addr} {j : Nat} {p p2 pos pos' : Pos}
end
section
variable {P : Program} {w : World} {K : PySem.W.Frag} {mg : Str → Option Value} {base : Heap} {T : Tb} {N : List Str} {qual : Str} {scope : Scope} {f : Addr} {cd : Value} {A : Around} {outer : List Env} {s : Shared} {H : Hp} {E : XK}
end
end DL
set_option Elab.async false
set_option linter.all false
set_option maxRecDepth 100000
set_option maxHeartbeats 2000000
namespace DL
open PySem PySem.Spec PyProof.Rows L2 LamX

/-- the lambda's names: its parameters (not known to the def around), captured ones, globals -/
structure LamD (N : List Str) (sc scope : Scope) (bs : List Str) : Prop where
  kind : scope.kind = .function
  co : scope.isCoroutine = false
  gen : scope.isGenerator = false
  cell : ∀ y ∈ scope.names, y.2 ≠ .cell
  own : ∀ y ∈ scope.names, y.2 = .local → y.1 ∉ N
  free : ∀ y ∈ scope.names, y.2 = .free → sc.names.lookup y.1 = some .cell ∨ sc.names.lookup y.1 = some .free
  loc : ∀ b ∈ bs, scope.names.lookup b = some .local
theorem LamD.has {X : L2.Cx} {scope : Scope} {bs : List Str} (L : LamD X.N X.env.scope scope bs) (ok : X.Ok) : ∀ y ∈ scope.names, y.2 = .free → ∃ c, X.env.cells.lookup y.1 = some c := fun y hy e => by
  rcases L.free y hy e with k | k
  · exact ok.has _ (.inl k)
  · exact ok.has _ (.inr k)
abbrev lamO (X : L2.Cx) (params : Arguments) (body : Expr) (scope : Scope) (dV doc pm : Value) (c' : Addr) (ctv : Value) : Obj := PySem.W.kdv_obj "<lambda>" (X.env.qual ++ "<lambda>") params (.expr body) scope (cloFrom X.env.cells scope.names []) dV doc pm c' ctv
abbrev lamF (X : L2.Cx) (params : Arguments) (body : Expr) (scope : Scope) (dV doc pm : Value) (c' : Addr) (ctv : Value) : FuncData := PySem.W.kdv_fn "<lambda>" (X.env.qual ++ "<lambda>") params (.expr body) scope (cloFrom X.env.cells scope.names []) dV doc pm (.ref c') ctv
section
variable {X : L2.Cx} {pins : List (Addr × Obj)} {σ : L2.St} {H HZ : Hp} {s s1 : Shared}
end
end DL
set_option Elab.async false
set_option linter.all false
set_option maxRecDepth 100000
set_option maxHeartbeats 2000000
namespace DL
open PySem PySem.Spec PyProof.Rows L2 LamX

/-- its parameters: none, or one with a number for default -/
inductive DefK (X : L2.Cx) (params : Arguments) (body : Expr) (scope : Scope) : List Str → Prop
  | no (hdef : defaultsOf params X.env = ([], [])) (hb : ∀ (doc pm : Value) (c' : Addr) (ctv : Value), bindArgs (lamF X params body scope .none doc pm c' ctv) ⟨[], []⟩ = pure []) : DefK X params body scope []
  | one (a : Str) (i : Int) (j : Nat) (p : Pos) (hd : params.defaults = [.Constant (.int i) j p]) (hk : params.kw_defaults = [])
      (hb : ∀ (t : Addr) (doc pm : Value) (c' : Addr) (ctv u : Value), ∃ k, bindArgs (lamF X params body scope (.ref t) doc pm c' ctv) ⟨[], []⟩ = seqItems? (.ref t) >>= k ∧ k (some [u].toArray) = pure [(a, u)]) : DefK X params body scope [a]
section
variable {X : L2.Cx} {pins : List (Addr × Obj)} {σ : L2.St} {H HZ : Hp} {s s1 : Shared}
abbrev lamE (X : L2.Cx) (scope : Scope) (L f c' : Addr) : Env := PySem.W.envX (X.env.qual ++ "<lambda>") scope L f (.ref c') (cloFrom X.env.cells scope.names [])
end
end DL
set_option Elab.async false
set_option linter.all false
set_option maxRecDepth 100000
set_option maxHeartbeats 2000000
namespace DL
open PySem PySem.Spec PyProof.Rows L2 LamX

section
variable {X : L2.Cx} {pins : List (Addr × Obj)} {σ : L2.St} {H HZ : Hp} {s s1 : Shared}
/-- x(lambda: body) -/
def tLam3 (T : List (Addr × Str)) (P : Addr) (TT : (XK → Hp → VK → Prop) → Hp → VK → Prop) (t : XK → TE) : TE := fun σ H Q => Tabs T H ∧ ∀ H1, (∀ b o, b ≠ P → H b = some o → H1 b = some o) → (∃ ps, H1 P = some (.tbl ps)) → Tabs T H1 → TT (fun E H' Q' => t E σ H' Q') H1 Q
end

def noOwn (ρ : EnD) : Bool := ρ.all fun o => match o with
  | some (.own _) => false
  | _ => true
theorem noOwn_at {ρ : EnD} (h : noOwn ρ = true) (i : Nat) (d : D) : ρ[i]? ≠ some (some (.own d)) := fun e => by
  have := List.all_eq_true.mp h _ (List.mem_of_getElem? e)
  cases this
/-- the word of what was raised, or the empty word -/
def eTold (W : Str → Option (List Nat)) (f : EnD → M D) : EnD → M D := fun ρ z => if noOwn ρ then match f ρ z with
  | .ok _ z' => .ok (.str []) z'
  | .exc ⟨x, none⟩ z' => match W x with
    | some w => .ok (.str w) z'
    | none => .bad
  | _ => .bad else .bad
/-- what the def that tells does with the lambda -/
def TTell (mg : Str → Option Value) (W : Str → Option (List Nat)) : (XK → Hp → VK → Prop) → Hp → VK → Prop := fun tl H Q =>
  tl (fun cls d H' => d = none ∧ ∃ x c w, mg x = some (.ref c) ∧ cls = .ref c ∧ W x = some w ∧ Q (.str (ST w)) H') H fun _ H' => Q (.str (ST [])) H'
section
variable {X : L2.Cx} {T : Tb} {E : XK}
end
end DL
set_option Elab.async false
set_option linter.all false
set_option maxRecDepth 100000
set_option maxHeartbeats 2000000
namespace DL
open PySem PySem.Spec PyProof.Rows L2 LamX

/-- an own class whose errors are told: caught by CV; asked whether it is one of CN, CI -/
structure TCls (K : PySem.W.Frag) (CV CN CI c : Addr) (b1 b2 : Bool) : Prop where
  exc : ExcC K c
  caught : PySem.W.exmOne K (.ref c) (.ref CV) = some true
  one : PySem.W.kitOne K (.ref c) (.ref CN) = some b1
  two : PySem.W.kitOne K (.ref c) (.ref CI) = some b2
section
variable {X : L2.Cx}
end
end DL
set_option Elab.async false
set_option linter.all false
set_option maxRecDepth 100000
set_option maxHeartbeats 2000000
namespace DL
open PySem PySem.Spec PyProof.Rows L2 LamX

/-- the keys of a module's dict, all of them -/
structure KKeys (K : PySem.W.Frag) (w : World) (a : Addr) (ks : List (List Nat)) : Prop where
  ex : ∃ es n, KDict K w a es n ∧ ∀ z : List Nat, ∃ r, PySem.W.nsIn K a (ST z) = some r ∧ r.isSome = ks.any fun k => decide (k = z)
inductive KeysAre : List DictEntry → List (List Nat) → Prop
  | nil : KeysAre [] []
  | cons {e : DictEntry} {k : List Nat} {l : List DictEntry} {ks : List (List Nat)} : (∃ t, e.key = .str (ST k) t) → KeysAre l ks → KeysAre (e :: l) (k :: ks)
def inK (ks : List (List Nat)) : D → Option D
  | .str z => some (.bl (ks.any fun k => decide (k = z)))
  | _ => none
def mulS : D → D → Option D
  | .str a, .int n => if 2 ≤ n ∧ n ≤ 1000 ∧ 1 ≤ a.length ∧ a.length ≤ 1000 then some (.str (List.replicate n.toNat a).flatten) else none
  | _, _ => none
section
variable {X : L2.Cx} {T : Tb} {E : XK} {b : Expr} {fb : EnD → M D} {pos p px : Pos} {x : Str} {σ : L2.St} {H : Hp} {Q : VK}
end
end DL
set_option Elab.async false
set_option linter.all false
set_option maxRecDepth 100000
set_option maxHeartbeats 1000000
namespace DL
open PySem PySem.Spec PyProof.Rows L2

def eLstR (f : EnD → M D) : EnD → M D := fun ρ => mbind (f ρ) fun d => mbind (mopt (asI d)) fun n => if 0 ≤ n ∧ n ≤ 1000 then mpure (.lst (rangeD 0 n.toNat)) else mbad
def mulT : D → D → Option D
  | .str a, .int n => if 0 ≤ n ∧ n ≤ 1000 ∧ a.length ≤ 1000 then some (.str (List.replicate n.toNat a).flatten) else none
  | _, _ => none
section
variable {X : L2.Cx} {T : Tb} {E : XK} {a : Expr} {fa : EnD → M D} {p p2 q pos : Pos}
end
section
variable {X : L2.Cx} {T : Tb} {E : XK}
end
end DL
set_option Elab.async false
set_option linter.all false
set_option maxRecDepth 100000
set_option maxHeartbeats 1000000
namespace DL
open PySem PySem.Spec PyProof.Rows L2

section
variable {X : L2.Cx}
theorem ps_setDcT {n : Nat} {y : Str} {py : Pos} {kx vx tg iter : Expr} {ifs : List Expr} {scope : Scope} {own : List (Str × Nat)} {pos spos : Pos} {wi : TI} {g : TG} {tt : TT} {tk tv : TE} (hu : X.A.units < cLine) (hc : X.calm = true) (hN : X.N.Nodup) (hy : X.N[n]? = some y) (hyl : X.env.scope.names.lookup y = some .local)
    (hsw : swapsWith (.DictComp kx vx [⟨tg, iter, ifs, 0⟩] scope pos) (some (.Name y py)) spos.line X.env = pure true) (hi : PI X tg iter wi) (ok : BlkOk X.N X.env.scope scope own)
    (hg : AllBlk X scope fun Y => PG Y tg g) (ht : AllBlk X scope fun Y => PTs Y ifs tt) (hk : AllBlk X scope fun Y => PE Y kx tk) (hv : AllBlk X scope fun Y => PE Y vx tv) (hs : ∀ x, foldedSetIterable iter X.env x = pure x := by intro _; rfl) :
    PS X (.Assign [.Name y py] (.DictComp kx vx [⟨tg, iter, ifs, 0⟩] scope pos) spos) (tAsg (tDcT X wi g tt tk tv (own.map (·.2))) (gName n)) := ⟨fun pins s σ H D I h => by
  rw [exec_Assign_Name_used _ _ _ _ hsw]
  refine wpAny_bind (wpAny_standAt (wpAny_bind ?_))
  show wpAny _ X.A (do let _ ← comprehension (.DictComp kx vx [⟨tg, iter, ifs, 0⟩] scope pos) scope X.env (firstIterPos [⟨tg, iter, ifs, 0⟩] pos) newDict false (eval iter X.env) (some (assign (.Name y py) X.env))) _ _ s
  have h : tDcT X wi g tt tk tv (own.map (·.2)) σ H (fun x H1 => gName n x σ H1 D.nx) := h
  refine wpAny_bind (thn (dcT_core (Qf := fun _ s' => SP X pins D .next s') hu hc hN I hi ok hg ht hk hv hs h fun L C s' m H' J q hn f => ?_) fun _ s' hq => wpAny_pure (wpAny_pure hq))
  show wpAny _ _ (assign (.Name y py) X.env (.ref L)) _ _ _
  refine wpAny_assign_Name (store_ok2 (v := V.ref L) J hN hy (.inl hyl) rfl (fun s2 I2 ⟨a, sb, ha⟩ => ?_) (.inr hyl))
  obtain ⟨f0, f1, f2, f3, f4, f5⟩ := f
  have ne : C ≠ a := ha.elim (fun z => by rw [z]; exact f1) fun z e => f4 y a z e.symm
  exact ⟨m, hn.sameBut sb ne, fun h3 sb3 => ⟨_, H', I2.turned (t' := s2.toks) (fun b u hb e => (sb3.2 b hb).trans e) f0 f1 f3 f4 f5, q⟩⟩⟩
end
section
variable {X : L2.Cx} {T : Tb} {E : XK} {fz : EnD → M (List (D × D))} {fi fi1 : EnD → M (List D)} {t : EnD → M Bool} {f : EnD → M D} {fv : EnD → M D} {elt kx vx ea eb iter iter1 tg tg1 : Expr} {ifs1 : List Expr} {scope : Scope} {pos spos py : Pos} {x y v : Str} {i j n k : Nat} {hs : List Key → Int} {sp : SetSp}
theorem asg_read {σ : L2.St} {H : Hp} {D : Ends} {F : EnD → M DL.D} (h : sD (yx X T E) (sSet n F) D σ H) : tD (yx X T E) F σ H fun x H1 => gName n x σ H1 D.nx := by
  obtain ⟨g, ρ, z, st, o⟩ := h
  refine ⟨g, ρ, z, st, o.bind.imp fun d z1 _ h1 v H1 st1 e1 r1 => ?_⟩
  cases co : ownAt ρ n with
  | true => rw [co] at h1; exact h1.elim
  | false =>
    rw [co] at h1
    exact h1 _ H1 (st1.setv co r1) ((Stp.ext e1).trans (.setv co trivial))
theorem pu_setDz {kk : Nat} {tpos : Pos} (hh : hs = hsOf X.prog X.w) (hr : Room k X.A) (hij : i ≠ j) (hc : X.calm = true) (hN : X.N.Nodup) (hy : X.N[n]? = some v) (hyl : X.env.scope.names.lookup v = some .local)
    (hsw : swapsWith (.DictComp kx vx [⟨.Tuple [ea, eb] kk tpos, iter, [], 0⟩] scope pos) (some (.Name v py)) spos.line X.env = pure true) (hi : PI X (.Tuple [ea, eb] kk tpos) iter (tiE (yx X T E) fz)) (ok : BlkOk X.N X.env.scope scope [(x, i), (y, j)])
    (hg : AllBlk X scope fun Y => PG Y (.Tuple [ea, eb] kk tpos) (gTup X.K 2 (gCons (gName i) (gCons (gName j) gNil)))) (na : AllBlk X scope fun Y => PE Y kx (tVar i)) (nb : AllBlk X scope fun Y => PE Y vx (tVar j)) (hf : ∀ v, foldedSetIterable iter X.env v = pure v := by intro _; rfl) :
    PS X (.Assign [.Name v py] (.DictComp kx vx [⟨.Tuple [ea, eb] kk tpos, iter, [], 0⟩] scope pos) spos) (sD (yx X T E) (sSet n (eDz hs i j fz))) :=
  PS_imp (ps_setDcT (own := [(x, i), (y, j)]) (by have := hr.un; omega) hc hN hy hyl hsw hi ok hg (fun _ _ _ _ _ => pts_nil) na nb hf) fun D σ H h => dz_read hh hij (asg_read h)
theorem pu_setLc2 (hc : X.calm = true) (hN : X.N.Nodup) (hy : X.N[n]? = some v) (hyl : X.env.scope.names.lookup v = some .local) (hsw : swapsWith (.ListComp elt [⟨tg, iter, [], 0⟩, ⟨tg1, iter1, ifs1, 0⟩] scope pos) (some (.Name v py)) spos.line X.env = pure true)
    (hi : PI X tg iter (tiD (yx X T E) fi)) (ok : BlkOk X.N X.env.scope scope [(x, i), (y, j)])
    (hg : AllBlk X scope fun Y => PG Y tg (gName i)) (hi1 : AllBlk X scope fun Y => PI Y tg1 iter1 (tiD (yx X T E0) fi1)) (hg1 : AllBlk X scope fun Y => PG Y tg1 (gName j)) (ht1 : AllBlk X scope fun Y => PTs Y ifs1 (ttD (yx X T E0) t)) (he : AllBlk X scope fun Y => PE Y elt (tD (yx X T E0) f))
    (hs : ∀ x, foldedSetIterable iter X.env x = pure x := by intro _; rfl) (hs1 : ∀ env x, foldedSetIterable iter1 env x = pure x := by intro _ _; rfl) :
    PS X (.Assign [.Name v py] (.ListComp elt [⟨tg, iter, [], 0⟩, ⟨tg1, iter1, ifs1, 0⟩] scope pos) spos) (sD (yx X T E) (sSet n (eLc2 i j fi fi1 t f))) :=
  PS_imp (ps_setLc2 (own := [(x, i), (y, j)]) (vs1 := [j]) (tt := fun σ H Q => KN X.K H → tYes σ H Q) (tt1 := fun σ H Q => KN X.K H → ttD (yx X T E0) t σ H Q) (te := fun σ H Q => KN X.K H → tD (yx X T E0) f σ H Q) hc hN hy hyl hsw hi ok (by simp) hg (fun s H C cl fp => PTs_kn pts_nil) hi1 hg1 (fun s H C cl fp => PTs_kn (ht1 s H C cl fp)) (fun s H C cl fp => PE_kn (he s H C cl fp)) hs hs1) fun D σ H h => lc2_read (asg_read h)
end
/-- the hashes, whatever the program is -/
def hsW (w : World) : List Key → Int := fun k => reduceHash (Builtin.Tuple.tupleHashOf (k.map (keyH w)))
def spW (w : World) : SetSp := ⟨fun k => reduceHash (Builtin.Tuple.tupleHashOf (k.map (intKind default w).hash)), w.params.followText "set-order"⟩
end DL
set_option Elab.async false
set_option linter.all false
set_option maxRecDepth 100000
set_option maxHeartbeats 4000000
namespace DL
open PySem PySem.Spec PyProof.Rows L2
def sNewQ (i j : Nat) (f : EnD → M D) : SM := fun ρ z => obind (mne (f ρ) z) fun d z' => if ownAt ρ i = false ∧ ownAt ρ j = false ∧ j < ρ.length ∧ i ≠ j then .nx ((ρ.set i (some (.val d))).set j (some (.own (.dS [])))) z' else .bad
section
variable {X : L2.Cx} {T : Tb} {E : XK} {e : Expr} {f : EnD → M D} {i j : Nat} {B : SM} {rest : List Stmt} {pos px py pt dpos : Pos} {x y : Str}
end
/-- the parts of a text -/
def spl (c : Nat) (z : List Nat) : List (List Nat) := (Txt.split (ST z) (ST [c])).map fun s => s.cps.toList
def splitS (z : List Nat) : D → Option D
  | .str [c] => if z.length ≤ 1000 then some (.lst ((spl c z).map .str)) else none
  | _ => none
section
variable {X : L2.Cx} {T : Tb} {E : XK}
end
end DL
set_option Elab.async false
set_option linter.all false
set_option maxRecDepth 100000
set_option maxHeartbeats 1000000
namespace DL
open PySem PySem.Spec PyProof.Rows L2

section
variable {K : PySem.W.Frag} {T : Tb} {g : G} {H H' : Hp} {z : S}
/-- only new things have come -/
theorem Wo.grow (w : Wo K T g H z) (h : ∀ b, H b ≠ none → H' b = H b) : Wo K T g H' z := by
  obtain ⟨⟨SA, h1, h2, h3⟩, ht, hb, hd, hk, hl, hi⟩ := w
  have k : ∀ b o, H b = some o → H' b = some o := fun b o e => (h b (by rw [e]; exact fun z => by cases z)).trans e
  refine ⟨⟨SA, h1, ?_, k _ _ h3⟩, fun P hP => ?_, hb, fun a ha => ?_, hk, tabs_keep hl (fun q _ ps e => k _ _ e) (fun c φ e => k _ _ e), hi⟩
  · rcases h2 with (q | ⟨ob, q⟩) | q
    · exact .inl (.inl (k _ _ q))
    · exact .inl (.inr ⟨ob, k _ _ q⟩)
    · exact .inr q
  · obtain ⟨ps, q, r⟩ := ht P hP
    exact ⟨ps, k _ _ q, r⟩
  · rw [h a (hd a ha)]; exact hd a ha
theorem Ext.grow {R : Addr} (h : ∀ b, H b ≠ none → H' b = H b) : Ext R H H' :=
  ⟨fun b o e _ _ => (h b (by rw [e]; exact fun z => by cases z)).trans e, fun b hb => by rw [h b hb]; exact hb, fun x xs e => ⟨xs, (h _ (by rw [e]; exact fun z => by cases z)).trans e⟩⟩
theorem StR.grow {Y : Yx} {σ : L2.St} {ρ : EnD} (st : StR Y g H σ ρ z) (h : ∀ b, H b ≠ none → H' b = H b) : StR Y g H' σ ρ z := st.step (.grow h) (st.wo.grow h)
end

def lzD : D → D → Option D
  | .lst xs, .str z => if z.length = xs.length ∧ 0 < xs.length ∧ (z.all fun c => decide (c < 128)) = true then some (.lst ((xs.zip z).map fun p => .tup [p.1, .str [p.2]])) else none
  | _, _ => none
theorem rs_lz {K : PySem.W.Frag} {H : Hp} {R : Addr} {B : Addr → Prop} : ∀ {us : List V} {xs : List D} {y : List Nat} {as : List Addr}, Rs K H R B us xs → as.length = us.length → y.length = us.length →
    (∀ (j : Nat) (b : Addr), as[j]? = some b → ¬ B b ∧ ∃ (x : V) (c : Nat) (ob : Obj), us[j]? = some x ∧ y[j]? = some c ∧ H b = some (.frz ob (.tup [x, .str ⟨#[c]⟩])) ∧ ob.dict = none) →
    Rs K H R B (as.map V.ref) ((xs.zip y).map fun p => .tup [p.1, .str [p.2]])
  | [], xs, y, as, r, h1, h2, h => by
    cases r
    match as, y, h1, h2 with
    | [], [], _, _ => exact .nil
  | u :: us, [], y, as, r, h1, h2, h => by cases r
  | u :: us, d :: xs, y, as, r, h1, h2, h => by
    match as, y, h1, h2 with
    | b :: as, c :: y, h1, h2 =>
      obtain ⟨nb, x, c', ob, e1, e2, e3, e4⟩ := h 0 b rfl
      simp only [List.getElem?_cons_zero, Option.some.injEq] at e1 e2
      subst e1 e2
      exact .tup (.inl ⟨ob, e3, e4⟩) nb (Rs.cons r.split.1 (.atom (.str (z := [c])) .nil)) (rs_lz r.split.2 (by simpa using h1) (by simpa using h2) fun j b' hj => h (j + 1) b' (by simpa using hj))
section
variable {X : L2.Cx} {T : Tb} {E : XK} {a b : Expr} {fa fb : EnD → M D} {pos p1 p2 q1 p : Pos} {x : Str}
theorem pu_listzip (hg : Gl X "list") (hm : X.mg "list" = none) (hg2 : Gl X "zip") (hm2 : X.mg "zip" = none) (ha : PE X a (tD (yx X T E) fa)) (hb : PE X b (tD (yx X T E) fb)) (hc : X.calm = true := by rfl)
    (hs : starEach [a, b] X.env = (false, eval a X.env) :: starEach [b] X.env := by rfl) (hs2 : starEach [b] X.env = (false, eval b X.env) :: starEach [] X.env := by rfl) (hpl : (backTo q1 (starEach [b] X.env)).any (·.1) = false := by rfl) :
    PE X (.Call (.Name "list" p1) [.Call (.Name "zip" p2) [a, b] [] q1] [] pos) (tD (yx X T E) (e2 (op2 lzD) fa fb)) :=
  PE_imp (pe_listzip hg hm hg2 hm2 (pa_cons ha (pa_cons hb pa_nil hs2) hs) hc hs hpl) fun σ H Q h => by
    obtain ⟨g, ρ, z, st, a⟩ := tD_bind2 h
    refine ⟨g, ρ, z, st, a.imp fun d z1 _ h1 v H1 st1 e1 r1 => ?_⟩
    obtain ⟨g2, ρ2, z2, st2, a2⟩ := h1 v H1 st1 e1 r1
    refine ⟨g2, ρ2, z2, st2, a2.imp fun e z3 _ h3 w H3 st3 e3 r3 => ?_⟩
    obtain ⟨g4, ρ4, z4, d4, e4, st4, rv, rw', a4⟩ := h3 w H3 st3 e3 r3
    obtain ⟨r, hr, q⟩ := a4.opt
    unfold lzD at hr
    split at hr
    · rename_i xs y
      rw [Option.ite_none_right_eq_some] at hr
      obtain ⟨⟨hl, hp, ha⟩, hr⟩ := hr
      cases hr
      obtain ⟨ad, us, rfl, hd, nb, rs⟩ := rv.list
      cases rw'.str
      have lu := rs.length
      refine ⟨ad, us, ST y, rfl, .inl (.inl hd), by simpa [ST] using ha, by simp [ST]; omega, by omega, fun H2 p as hpn hpas nd lal hk hp2 hj => ?_⟩
      have gr : ∀ b, H3 b ≠ none → H2 b = H3 b := fun b hb => hk b (fun hm => by
        obtain ⟨j, e⟩ := List.mem_iff_getElem?.mp hm
        exact hb (hj j b e).1) (fun e => hb (by rw [e]; exact hpn))
      refine q _ H2 (st4.grow gr) (.grow gr) (.lst hp2 (st4.fresh hpn) ?_ .nil)
      refine rs_lz (us := us) (Rs.mono (Ext.rd (.grow gr) st4.badR) rs) lal (by omega) fun j b hb => ?_
      obtain ⟨n1, x, c, ob, e1, e2, e3, e4⟩ := hj j b hb
      exact ⟨st4.fresh n1, x, c, ob, e1, by simpa [ST] using e2, e3, e4⟩
    · cases hr

def pairK : D → Option (List Nat × D)
  | .tup [.str k, d] => some (k, d)
  | .wt [.str k, d] => some (k, d)
  | _ => none
def dictD : D → Option D
  | .lst xs => (xs.mapM pairK).map fun kds => .dS (putAll [] kds)
  | _ => none
theorem r1_wt {K : PySem.W.Frag} {H : Hp} {R : Addr} {B : Addr → Prop} {v : V} {xs : List D} (h : R1 K H R B v (.wt xs)) : ∃ a us, v = .ref a ∧ SqT K H a us ∧ ¬ B a ∧ Rs K H R B us xs := by
  cases h with
  | atom a _ => cases a
  | wt s n r _ => exact ⟨_, _, rfl, s, n, r⟩
theorem rs_pairs {K : PySem.W.Frag} {H : Hp} {R : Addr} {B : Addr → Prop} : ∀ {us : List V} {xs : List D} {kds : List (List Nat × D)}, Rs K H R B us xs → xs.mapM pairK = some kds →
    ∃ (ps : List Addr) (vs : List V), us = ps.map V.ref ∧ Paired (fun p (kv : Key × V) => SqT K H p [kV kv.1, kv.2]) ps (zipK (kds.map (·.1)) vs) ∧ Rs K H R B vs (kds.map (·.2))
  | [], xs, kds, r, h => by
    cases r
    simp at h
    subst h
    exact ⟨[], [], rfl, .nil, .nil⟩
  | u :: us, [], kds, r, h => by cases r
  | u :: us, d :: xs, kds, r, h => by
    rw [List.mapM_cons] at h
    simp only [Option.bind_eq_bind, Option.bind_eq_some_iff, Option.pure_def, Option.some.injEq] at h
    obtain ⟨kd, h1, kds', h2, rfl⟩ := h
    obtain ⟨ps, vs, rfl, pr, rs⟩ := rs_pairs r.split.2 h2
    unfold pairK at h1
    split at h1
    · rename_i k d0
      cases h1
      obtain ⟨a, us2, rfl, s, n, rs2⟩ := r.split.1.tupl
      match us2, rs2.length with
      | [x, y], _ =>
        cases rs2.split.1.str
        exact ⟨a :: ps, y :: vs, rfl, .cons s.sq pr, Rs.cons rs2.split.2 rs⟩
    · rename_i k d0
      cases h1
      obtain ⟨a, us2, rfl, s, n, rs2⟩ := r1_wt r.split.1
      match us2, rs2.length with
      | [x, y], _ =>
        cases rs2.split.1.str
        exact ⟨a :: ps, y :: vs, rfl, .cons s pr, Rs.cons rs2.split.2 rs⟩
    · cases h1
theorem zip_fs : ∀ l : List (List Nat × D), (l.map (·.1)).zip (l.map (·.2)) = l
  | [] => rfl
  | p :: l => by simp [zip_fs l]
theorem pu_dictP (hg : Gl X "dict") (hm : X.mg "dict" = none) (ha : PE X a (tD (yx X T E) fa)) (hc : X.calm = true := by rfl)
    (he : starEach [a] X.env = (false, eval a X.env) :: starEach [] X.env := by rfl) (hpl : (backTo pos (starEach [] X.env)).any (·.1) = false := by rfl) :
    PE X (.Call (.Name "dict" p) [a] [] pos) (tD (yx X T E) (e1 (op1 dictD) fa)) :=
  PE_imp (PE_plock (pe_callTy (call_dictP hc) hg hm PyProof.Rows.boot_dict (pa_cons ha pa_nil he) (by decide) (by decide) he hpl)) fun σ H Q h => by
    obtain ⟨g, ρ, z, st, a⟩ := tD_bind (k := fun _ => op1 dictD) h
    refine ⟨g, ρ, z, st, a.imp fun d z1 _ h1 v H1 st1 e1 r1 => ?_⟩
    obtain ⟨g2, ρ2, z2, d2, st2, r2, a2⟩ := h1 v H1 st1 e1 r1
    obtain ⟨r, hr, q⟩ := a2.opt
    cases d2 <;> simp only [dictD, reduceCtorEq] at hr
    rename_i xs
    obtain ⟨kds, hk, rfl⟩ := Option.map_eq_some_iff.mp hr
    obtain ⟨ad, us, rfl, hd, nb, rs⟩ := r2.list
    obtain ⟨ps, vs, rfl, pr, rv⟩ := rs_pairs rs hk
    refine ⟨ad, ps, _, rfl, .inl (.inl hd), pr, fun p hp => .inr ⟨p, _, upd_same, trivial, fun od => ?_⟩⟩
    rw [upd_upd]
    refine q _ _ (st2.new hp) (.new hp) ?_
    have lk : (kds.map (·.1)).length = vs.length := by rw [rv.length, List.length_map, List.length_map]
    have dsr := (merge_dsr (ks := kds.map (·.1)) (kvs := []) (es := []) lk (Rs.mono (Ext.rd (.new (o := .frz od (.dK (mergeK [] (zipK (kds.map (·.1)) vs)))) hp) st2.badR) rv) .nil).out
    rw [zip_fs] at dsr
    exact .dS upd_same (st2.fresh hp) dsr.1 dsr.2 .nil

def repW : D → D → Option D
  | .tup xs, .int k => if xs ≠ [] ∧ 2 ≤ k ∧ k ≤ 1000 ∧ xs.length ≤ 1000 then some (.wt (List.replicate k.toNat xs).flatten) else none
  | _, _ => none
def addW : D → D → Option D
  | .wt xs, .tup ys => if xs.length + ys.length ≤ 10000 ∧ xs ≠ [] ∧ ys ≠ [] then some (.tup (xs ++ ys)) else none
  | _, _ => none
theorem rs_rep {K : PySem.W.Frag} {H : Hp} {R : Addr} {B : Addr → Prop} {us : List V} {xs : List D} (r : Rs K H R B us xs) : ∀ n : Nat, Rs K H R B (List.replicate n us).flatten (List.replicate n xs).flatten
  | 0 => .nil
  | n + 1 => by
    rw [List.replicate_succ, List.replicate_succ, List.flatten_cons, List.flatten_cons]
    exact r.append (rs_rep r n)
theorem od_repW : OpD X T E (binaryOp .Mult) (op2 repW) := opD_of fun g H σ ρ z v w d e r Q st rv rw' h q => by
  unfold repW at h
  split at h
  · rename_i xs k
    rw [Option.ite_none_right_eq_some] at h
    obtain ⟨⟨h1, h2, h3, h4⟩, h⟩ := h
    cases h
    obtain ⟨a, us, rfl, s, n, rs⟩ := rv.tupl
    cases rw'.int
    have lu := rs.length
    refine ⟨_, op_repT, a, k, us, rfl, rfl, s.sq, fun c => ?_, h2, h3, by omega, fun p hp => ?_⟩
    · subst c; cases rs; exact h1 rfl
    · exact q _ _ (st.new hp) (.new hp) (.wt (.inl (.inl upd_same)) (st.fresh hp) (rs_rep (Rs.mono (Ext.rd (.new hp) st.badR) rs) _) .nil)
  · cases h
theorem od_addW : OpD X T E (binaryOp .Add) (op2 addW) := opD_of fun g H σ ρ z v w d e r Q st rv rw' h q => by
  unfold addW at h
  split at h
  · rename_i xs ys
    rw [Option.ite_none_right_eq_some] at h
    obtain ⟨⟨c, h1, h2⟩, h⟩ := h
    cases h
    obtain ⟨b, ws, rfl, tb, nb, rb⟩ := rw'.tupl
    cases rv with
    | atom a _ => cases a
    | wt s n ra _ =>
      have la := ra.length
      have lb := rb.length
      refine ⟨_, op_catF, _, b, _, ws, rfl, rfl, s, tb.sq, by rw [la, lb, sizeLine_eq]; omega, fun e => ?_, fun _ e => ?_, fun _ _ p ob hp hd => ?_⟩
      · subst e; cases ra; exact absurd rfl h1
      · subst e; cases rb; exact absurd rfl h2
      · exact q _ _ (st.new hp) (.new hp) (st.tup hp hd (ra.append rb))
  · cases h
end
end DL
set_option Elab.async false
set_option linter.all false
set_option maxRecDepth 100000
set_option maxHeartbeats 2000000
namespace DL
open PySem PySem.Spec PyProof.Rows L2

/-- a caught class: caught by CV, asked whether it is CN -/
structure TOne (K : PySem.W.Frag) (CV CN c : Addr) : Prop where
  exc : ExcC K c
  caught : PySem.W.exmOne K (.ref c) (.ref CV) = some true
  one : PySem.W.kitOne K (.ref c) (.ref CN) = some true
def sTryIs (i : Nat) (W : Str → Bool) (F : List D → M D) (fs : List (EnD → M D)) (gg : EnD → M D) : SM := fun ρ z => if noOwn ρ = true ∧ i < ρ.length then
    match evs fs ρ z with
    | .ok ds z1 => match F ds z1 with
      | .ok _ z' => .nx ρ z'
      | .exc ⟨x, none⟩ z' => if W x = true then (match gg (ρ.set i none) z' with | .ok d z2 => .rt d z2 | _ => .bad) else .bad
      | _ => .bad
    | _ => .bad
  else .bad
section
variable {X : L2.Cx} {T : Tb} {E : XK}
theorem pe_callS {CX : CXT} {k : Nat} {f : Addr} {fd : FuncData} {ps : List Str} {sp : Sp} {x : Str} {p pos : Pos} {e : Expr} {es : List Expr} {t : TA} {σ0 : L2.St} {Es : XK}
    (F : FnOk X.prog X.w X.K X.mg X.base CX k f fd ps sp) (hr : Room k X.A) (hg : Gl X x) (hm : X.mg x = some (.ref f)) (hk : PySem.W.keepIn X.K (.ref f) = true) (hb : L2.Binds X.K fd ps [])
    (hx : ∀ (pins : List (Addr × Obj)) (H : Hp) (s : Shared) (u : Value) (s' : Shared), Inv X pins σ0 H s → CX X.stack H s Es u s' → X.xe u s') (ha : PA X (e :: es) t) (hdb : (x == ("__debug__" : Str)) = false)
    (he : starEach (e :: es) X.env = (false, eval e X.env) :: starEach es X.env) (hpl : (backTo pos (starEach es X.env)).any (·.1) = false) :
    PE X (.Call (.Name x p) (e :: es) [] pos) (fun σ H Q => σ = σ0 ∧ t σ H fun vs H1 => sp vs H1 Q Es) := by
  refine ⟨fun pins s σ H Q I h => wpAny_Call_Name_kw (ld_glob I hg hm (PySem.W.callWith_K (h₀ := X.base) I.ok.mod.kin hk (thn (ha.run pos pins s σ H _ I h.2) fun us s1 ⟨vs, H1, I1, r, q⟩ => ⟨I1.kIn, ?_⟩) he hpl) hdb)⟩
  obtain ⟨e0, _⟩ := h
  subst e0
  have hl : us.length = ps.length := by rw [← r.length]; exact F.len vs H1 Q Es q
  have bd := hb s1 us I1.kIn (by rw [List.append_nil]; exact hl)
  rw [List.append_nil] at bd
  refine wpAny_call (codeAny_mono (F.run X.A X.stack s1 H1 ⟨us, []⟩ us vs Q Es hr I1.env0 bd r q) fun r2 s' hq => ?_)
  cases r2 with
  | error u => exact hx pins H1 s1 u s' I1 hq
  | ok fl =>
    cases fl with
    | ret u => exact I1.after hq
    | next => exact False.elim hq
    | brk => exact False.elim hq
    | cont => exact False.elim hq
theorem StR.setX {Y : Yx} {g : G} {H : Hp} {σ : L2.St} {ρ : EnD} {z : S} {i : Nat} {v : Option V} (st : StR Y g H σ ρ z) (no : noOwn ρ = true) : StR Y g H (σ.set i v) (ρ.set i none) z := by
  have ow : ∀ σ' a, ¬ Own σ' (ρ.set i none) a := fun σ' a ⟨j, d, h1, _⟩ => by
    rcases set_some h1 with ⟨_, e1, _⟩ | ⟨_, hj⟩
    · cases e1
    · exact noOwn_at no j d hj
  have ow0 : ∀ a, ¬ Own σ ρ a := fun a ⟨j, d, h1, _⟩ => noOwn_at no j d h1
  have be : bad g (σ.set i v) (ρ.set i none) = bad g σ ρ := by
    funext a
    exact propext ⟨fun q => q.elim .inl fun q => absurd q (ow _ a), fun q => q.elim .inl fun q => absurd q (ow0 a)⟩
  refine ⟨by unfold gb; rw [be]; exact st.wo, st.gR, by rw [List.length_set, List.length_set]; exact st.len, fun j d hj => ?_, fun j d hj => ?_, fun j k d e a hj => ?_, st.ext⟩
  · rw [be]
    rcases set_some hj with ⟨_, e1, _⟩ | ⟨ne, hj⟩
    · cases e1
    · obtain ⟨w, h1, h2⟩ := st.val j d hj
      exact ⟨w, by rw [List.getElem?_set_ne ne]; exact h1, h2⟩
  · rcases set_some hj with ⟨_, e1, _⟩ | ⟨_, hj⟩
    · cases e1
    · exact absurd hj (noOwn_at no j d)
  · rcases set_some hj with ⟨_, e1, _⟩ | ⟨_, hj⟩
    · cases e1
    · exact absurd hj (noOwn_at no j d)
end
end DL
set_option Elab.async false
set_option linter.all false
set_option maxRecDepth 100000
set_option maxHeartbeats 2000000
namespace DL
open PySem PySem.Spec PyProof.Rows L2 HotX L2H

/-- a list's end, told by a StopIteration whose context is the handled exception -/
theorem list_end_hot {prog : Program} {w : World} {A : Around} {E : Value → Shared → Prop} {s : Shared} {it l x1 : Addr} {i : Nat} {its : Array Value} {Q : Option Value → Shared → Prop} (hot : HotAt A x1 s.heap) (hne : x1 ≠ it)
    (hit : s.heap.IsListIter it l i) (hl : s.heap.IsList l its) (hx : its[i]? = none) (hQ : ∀ h', (∀ b o, b ≠ it → s.heap.get? b = some o → h'.get? b = some o) → Q none { s with heap := h' }) : wpAny (model prog w) A (pyNext (.ref it)) Q E s := by
  obtain ⟨o, ho, hc, hd⟩ := id hit
  obtain ⟨ol, hol, _, nl, hdl⟩ := hl
  obtain ⟨hh, o1, vs1, h1, d1, c1⟩ := hot
  unfold pyNext
  refine wpAny_bind (wpAny_attempt (wpAny_callSpecial?_slot (name := Str.ofString "__next__") hit.typeIs slot_listiter_next (wpAny_call_entry slot_listiter_next hit.typeIs entry_listiter_next ?_ (args_listiter_next _))))
  show wpAny _ _ (field (.ref it) 0 >>= _) _ _ s
  refine wpAny_bind (wpAny_field ho hd (x := .ref l) rfl ?_)
  show wpAny _ _ (if (Value.ref l == Value.none) = true then _ else _) _ _ s
  rw [if_neg (show ¬ ((Value.ref l == Value.none) = true) from Bool.false_ne_true)]
  show wpAny _ _ (field (.ref it) 1 >>= _) _ _ s
  refine wpAny_bind (wpAny_field ho hd (x := .int i 0) rfl ?_)
  show wpAny _ _ (seqItems? (.ref l) >>= _) _ _ s
  refine wpAny_bind (wpAny_seqItems hol hdl ?_)
  simp only [Int.toNat_natCast, hx]
  refine wpAny_bind (wpAny_rule (wpAny_bind (wpAny_setField ho hd (by simp) ?_)))
  show wpAny _ _ (newExc (.type "StopIteration") [] >>= _) _ _ _
  refine wpAny_bind ?_
  simp only [newExc, newTuple]
  refine wpAny_bind (wpAny_newObj_type ?_ (by size_fits))
  refine wpAny_bind (m := firstArgMember _ _) (wpAny_of_eq (a := Value.none) (by first | rfl | (simp only [firstArgMember]; rfl)) ?_)
  refine wpAny_newObj_type ?_ (by size_fits)
  have kp : ∀ (f : Obj → Obj) b o, b ≠ it → s.heap.get? b = some o → (s.heap.update it f).get? b = some o := fun f b o hb e => by rw [Heap.get?_update_other _ _ (Ne.symm hb)]; exact e
  refine raiseNew_hot ⟨hh, o1, vs1, Heap.get?_push_of_some _ (Heap.get?_push_of_some _ (kp _ _ _ hne h1)), d1, c1⟩ (Nat.ne_of_lt (Heap.lt_size (Heap.get?_push_of_some _ (kp _ _ _ hne h1)))) (Heap.get?_push_size _ rfl) rfl (by first | (simp; done) | (simp; omega) | (simp only [Array.size_append]; simp; omega)) ?_
  refine wpAny_bind (wpAny_isInstance (T := "StopIteration") (b := true) ⟨_, Heap.get?_update_self _ (Heap.get?_push_size _ rfl) rfl, rfl⟩ isSubtype_stop ?_)
  refine wpAny_pure (hQ _ fun b o hb e => ?_)
  rw [Heap.get?_update_other _ _ (Nat.ne_of_gt (Heap.lt_size (Heap.get?_push_of_some _ (kp _ _ _ hb e))))]
  exact Heap.get?_push_of_some _ (Heap.get?_push_of_some _ (kp _ _ _ hb e))
end DL
set_option Elab.async false
set_option linter.all false
set_option maxRecDepth 100000
set_option maxHeartbeats 2000000
namespace DL
open PySem PySem.Spec PyProof.Rows L2 HotX L2H

/-- what is walked: a list -/
def tiL (K : PySem.W.Frag) (ti : TE) : TI := fun σ H R => ti σ H fun v H1 => ∃ a, v = .ref a ∧ (∃ xs, SqL K H1 a xs) ∧ R (Itl K a) H1
/-- it stands as it stood where the block began -/
theorem hot_blk {X : L2.Cx} {scope : Scope} {ce : Env} {it : Addr} {σ' : L2.St} {H3 H' : Hp} {s3 s' : Shared} {pins : List (Addr × Obj)} {σ : L2.St} (hot : HotC X) (I3 : Inv X pins σ H3 s3) (hit : H3 it = none) (nit : ∀ p ∈ X.pn ++ pins, p.1 ≠ it) (I : Inv (X.blk s3 H3 scope ce [it]) [] σ' H' s') :
    ∃ x1, HotAt X.A x1 s'.heap ∧ x1 ≠ it := by
  obtain ⟨p, ⟨hh, v1, e1, c1⟩, hp⟩ := hot
  have hp' : p ∈ X.pn ++ pins := List.mem_append_left _ hp
  obtain ⟨g1, g2, g3, g4, _⟩ := I3.pin p hp'
  have nf : p.1 ∉ frs X.stack := fun hm => (List.mem_cons.mp (I3.stkSub p.1 hm)).elim g3 g4
  have ne := nit p hp'
  exact ⟨p.1, ⟨hh, p.2, v1, I.base.keep p.1 p.2 g1 g2 nf (fun hm => ne (List.mem_singleton.mp hm)), e1, c1⟩, ne⟩
section
variable {X : L2.Cx} {elt tg iter : Expr} {ifs : List Expr} {scope : Scope} {own : List (Str × Nat)} {pos : Pos} {ti : TE} {g : TG} {tt : TT} {te : TE}
theorem pe_lcH (hot : HotC X) (hN : X.N.Nodup) (ha : PE X iter ti) (ok : BlkOk X.N X.env.scope scope own)
    (hg : ∀ (s : Shared) (H : Hp) (C : Addr) (cl : List (Str × Addr)) (fp : List Addr), PG (X.blk s H scope (compEnvC scope cl C X.env) fp) tg g) (ht : ∀ (s : Shared) (H : Hp) (C : Addr) (cl : List (Str × Addr)) (fp : List Addr), PTs (X.blk s H scope (compEnvC scope cl C X.env) fp) ifs tt)
    (he : ∀ (s : Shared) (H : Hp) (C : Addr) (cl : List (Str × Addr)) (fp : List Addr), PE (X.blk s H scope (compEnvC scope cl C X.env) fp) elt te) (hs : ∀ x, foldedSetIterable iter X.env x = pure x := by intro _; rfl) :
    PE X (.ListComp elt [⟨tg, iter, ifs, 0⟩] scope pos) (tLc (tiL X.K ti) g tt te (own.map (·.2))) := by
  refine ⟨fun pins s σ H Q I h => ?_⟩
  rw [eval_ListComp]
  have hfree : ∀ y ∈ scope.names, y.2 = .free → ∃ c, X.env.cells.lookup y.1 = some c := fun y hy e => (ok.free y hy e).elim (fun k => I.ok.has _ (.inl k)) fun k => I.ok.has _ (.inr k)
  refine wpAny_comprehension_free (use := none) rfl hs (closure_ok hfree) ok.kind (fun y hy e => by rw [ok.uniq y hy, e]) (thn (ha.run pins s σ H _ I h) fun xv s1 hx => ?_)
  obtain ⟨v, H1, I1, r1, a, ev, ⟨xs0, hq0⟩, q⟩ := hx
  subst ev
  obtain rfl : xv = Value.ref a := r1
  obtain ⟨its, rv, pl, hz⟩ := I1.list hq0
  refine wpAny_pyIter_list pl.isList ?_
  refine wpAny_newObj_type (newEnv_comp ?_) (by show 0 ≤ sizeLine; decide)
  generalize hit : s1.heap.objs.size = it
  generalize hs2 : ({ s1 with heap := s1.heap.push { cls := .type "list_iterator", data := .fields #[.ref a, .int 0 0] } } : Shared) = s2
  have I2 : Inv X pins σ H1 s2 := by
    rw [← hs2]
    exact I1.kept (t' := s1.toks) fun b o e => Heap.get?_push_of_some _ e
  have n1 : H1 it = none := I1.hok.fresh (Nat.le_of_eq hit)
  have fit1 : FpOk X pins H1 it := I1.fpOk (Nat.le_of_eq hit) n1
  have st2 : s2.heap.IsListIter it a 0 := by
    rw [← hs2, ← hit]
    exact ⟨_, Heap.get?_push_size _ rfl, rfl, rfl⟩
  have lit : it < s2.heap.objs.size := by
    obtain ⟨o, e, _⟩ := st2
    exact Heap.lt_size e
  generalize hD : s2.heap.objs.size = D at lit
  have nD : H1 D = none := I2.hok.fresh (Nat.le_of_eq hD)
  obtain ⟨W, ⟨m0, w0⟩, turn⟩ := q D nD
  generalize hs3 : ({ s2 with heap := s2.heap.push { cls := .type "list", data := .seq ([] : List Value).toArray } } : Shared) = s3
  have h3 : s3.heap = s2.heap.push { cls := .type "list", data := .seq ([] : List Value).toArray } := by rw [← hs3]
  have I3 : Inv X pins σ (upd H1 D (.lst [])) s3 := by
    rw [← hs3]
    refine I2.laid (t' := s2.toks) (fun b o e => Heap.get?_push_of_some _ e) (Nat.le_of_eq hD) ⟨Nat.zero_le _, [], 0, .nil, ?_⟩
    rw [← hD]
    exact Heap.get?_push_size _ rfl
  have n3 : (upd H1 D (.lst [])) it = none := by rw [upd_ne (Nat.ne_of_lt lit)]; exact n1
  have f3 : ∀ b ∈ [it], FpOk X pins (upd H1 D (.lst [])) b ∧ b < s3.heap.objs.size := fun b hb => by
    rw [List.mem_singleton.mp hb]
    exact ⟨⟨n3, fit1.2⟩, by rw [h3, Heap.size_push, hD]; exact Nat.lt_succ_of_lt lit⟩
  have st3 : s3.heap.IsListIter it a 0 := by
    obtain ⟨o, e, r⟩ := st2
    exact ⟨o, by rw [h3]; exact Heap.get?_push_of_some _ e, r⟩
  have I4 := block_start I3 ok hN f3
  have pg := hg s3 (upd H1 D (.lst [])) s3.heap.objs.size (cellsFrom (s3.heap.objs.size + 1) scope.names (cloFrom X.env.cells scope.names [])) [it]
  have pt := ht s3 (upd H1 D (.lst [])) s3.heap.objs.size (cellsFrom (s3.heap.objs.size + 1) scope.names (cloFrom X.env.cells scope.names [])) [it]
  have pe := he s3 (upd H1 D (.lst [])) s3.heap.objs.size (cellsFrom (s3.heap.objs.size + 1) scope.names (cloFrom X.env.cells scope.names [])) [it]
  show codeAny _ _ (.compStart (.ListComp elt [⟨tg, iter, ifs, 0⟩] scope pos) 0 (.ref it) (.ref D) (compEnvC scope (cellsFrom (s3.heap.objs.size + 1) scope.names (cloFrom X.env.cells scope.names [])) s3.heap.objs.size X.env)) (compPost (model X.prog X.w) X.A X.xe none _ (.ref D) s3.heap.objs.size) { s3 with heap := pushCells (s3.heap.push { cls := .type "dict", data := .dict #[] }) scope.names }
  generalize hce : compEnvC scope (cellsFrom (s3.heap.objs.size + 1) scope.names (cloFrom X.env.cells scope.names [])) s3.heap.objs.size X.env = ce at I4 pg pt pe ⊢
  have cL : ce.locals = s3.heap.objs.size := by subst hce; rfl
  generalize hH3 : upd H1 D (.lst []) = H3 at I3 I4 pg pt pe w0 n3 f3
  generalize hs4 : ({ s3 with heap := pushCells (s3.heap.push { cls := .type "dict", data := .dict #[] }) scope.names } : Shared) = s4 at I4 ⊢
  have st4 : s4.heap.IsListIter it a 0 := by
    obtain ⟨o, e, r⟩ := st3
    exact ⟨o, by rw [← hs4]; exact pushCells_keeps _ _ _ _ (Heap.get?_push_of_some _ e), r⟩
  have fpB : ∀ {σ' : L2.St} {H' : Hp} {s' : Shared}, Inv (X.blk s3 H3 scope ce [it]) [] σ' H' s' → H' it = none → FpOk (X.blk s3 H3 scope ce [it]) [] H' it := fun {σ' H' s'} I' hn =>
    ⟨hn, (I'.ok.exf it (List.mem_singleton.mpr rfl)).1, I'.ok.exfs it (List.mem_singleton.mpr rfl), .inl (List.mem_singleton.mpr rfl), fun x c e => (I'.ok.exf it (List.mem_singleton.mpr rfl)).2 x c e, fun p hp => absurd (show p ∈ ([] : List (Addr × Obj)) ++ [] from hp) (by simp)⟩
  have loop : codeAny (model X.prog X.w) X.A (.compLoop (.ListComp elt [⟨tg, iter, ifs, 0⟩] scope pos) 0 (.ref it) (.ref D) ce) (compPost (model X.prog X.w) X.A X.xe none (EP X pins σ Q) (.ref D) s3.heap.objs.size) s4 := by
    refine compLoop_any (fun n s' => ∃ i H', Inv (X.blk s3 H3 scope ce [it]) [] (wipe σ (own.map (·.2))) H' s' ∧ s'.heap.IsListIter it a i ∧ H' it = none ∧ W i n H') ?_ m0 ⟨0, H3, I4, st4, n3, w0⟩
    rintro n s5 ⟨i, H5, I5, st5, n5, w5⟩
    obtain ⟨f0, f1, f2, f4, f5, f6⟩ := fpB I5 n5
    rcases turn i n H5 w5 with ⟨⟨xs, hq, hx⟩, qq⟩ | ⟨⟨xs, x, hq, hx⟩, Nx, hNx, step⟩
    · obtain ⟨its5, rv5, p5, _⟩ := I5.list hq
      obtain ⟨x1, hot1, hne⟩ := hot_blk hot I3 n3 fit1.2.2.2.2.2 I5
      refine list_end_hot hot1 hne st5 p5.isList (by have := rv5.length; simp; omega) fun h6 kp => ?_
      have I6 : Inv (X.blk s3 H3 scope ce [it]) [] (wipe σ (own.map (·.2))) H5 { s5 with heap := h6 } := I5.turned (t' := s5.toks) kp f0 f1 f4 f5 f6
      have I7 : Inv X pins σ H5 { s5 with heap := h6 } := I3.call' (ch := [it]) I6.os I6.base I6.hok I6.bare fun b hb => ⟨(f3 b hb).1.2.2.2.1, (f3 b hb).1.2.1, (f3 b hb).1.2.2.2.2.1, (f3 b hb).1.2.2.2.2.2⟩
      have nC : H5 s3.heap.objs.size = none := by
        have z : H5 ce.locals = none := I6.free
        rw [cL] at z
        exact z
      obtain ⟨m, hn, _⟩ := I6.loc
      have hn : h6.Ns ce.locals m := hn
      rw [cL] at hn
      obtain ⟨g0, g1, g2, g3, g4, g5⟩ := I3.fpOk (Nat.le_refl _) nC
      exact ⟨m, hn, fun h'' sb => ⟨.ref D, H5, I7.turned (t' := s5.toks) (fun b o hb e => (sb.2 b hb).trans e) g0 g1 g3 g4 g5, rfl, qq⟩⟩
    · obtain ⟨its5, rv5, p5, _⟩ := I5.list hq
      obtain ⟨u, hu, ru⟩ := rv5.get hx
      refine wpAny_pyNext_list_item st5 p5.isList (x := u) (by simpa using hu) fun h6 st6 sb => ?_
      have I6 : Inv (X.blk s3 H3 scope ce [it]) [] (wipe σ (own.map (·.2))) H5 { s5 with heap := h6 } := I5.turned (t' := s5.toks) (fun b o hb e => (sb.2 b hb).trans e) f0 f1 f4 f5 f6
      obtain ⟨oi, e6, c6, d6⟩ := id st6
      refine go_of (s := { s5 with heap := h6 }) e6 c6 d6 (by decide) ?_
      have I6' := I6.pinned (fp := [it]) (fun b hb => by rw [List.mem_singleton.mp hb]; exact fpB I6 n5) (fun b hb => by
        rw [List.mem_singleton.mp hb]
        exact ⟨oi, e6, fun v z => by rw [d6] at z; cases z⟩)
      refine thnF (pg.run _ _ _ H5 x u _ I6' ru (step x H5 ⟨rfl, fun ys hy => by rw [I6.list_inj hy hq]; exact hx⟩)) fun _ s8 ⟨σ8, H8, I8, hw8, q8⟩ => ?_
      refine thnF (pt.run _ s8 σ8 H8 _ I8 q8) fun b s9 ⟨H9, I9, q9⟩ => ?_
      have fin : ∀ {s' : Shared} {H' : Hp}, Inv (X.blk s3 H3 scope ce [it]) ([] ++ pinsAt [it] h6) σ8 H' s' → Nx H' → ∃ m, m < n ∧ ∃ i H', Inv (X.blk s3 H3 scope ce [it]) [] (wipe σ (own.map (·.2))) H' s' ∧ s'.heap.IsListIter it a i ∧ H' it = none ∧ W i m H' := fun {s' H'} I' nx => by
        obtain ⟨m', hm, w'⟩ := hNx H' nx
        have pin' := I'.pin (it, oi) (List.mem_append_right _ (List.mem_append_right _ (mem_pinsAt (List.mem_singleton.mpr rfl) e6)))
        have hl : (wipe σ (own.map (·.2))).length = σ8.length := by rw [← hw8, wipe_length]
        refine ⟨m', hm, i + 1, H', (I'.unpinned (pins := [])).weak hl (fun j v e => ?_), ⟨oi, pin'.1, c6, d6⟩, pin'.2.1, w'⟩
        rw [← hw8] at e
        exact (wipe_some e).1
      cases b with
      | false =>
        simp only [Bool.false_eq_true, if_false] at q9 ⊢
        exact fin I9 q9
      | true =>
        simp only [if_true] at q9 ⊢
        refine thnF (pe.run _ s9 σ8 H9 _ I9 q9) fun z s10 ⟨yv, H10, I10, r10, acc, hD10, hz10, nx⟩ => ?_
        exact app_ok (X := X.blk s3 H3 scope ce [it]) I10 hD10 hz10 r10 fun s11 I11 => fin I11 nx
  exact codeAny_compStart_list loop (wpAny_pyIter_listiter st4 loop)
end
end DL
set_option Elab.async false
set_option linter.all false
set_option maxRecDepth 100000
set_option maxHeartbeats 2000000
namespace DL
open PySem PySem.Spec PyProof.Rows L2 HotX L2H

def iL (f : EnD → M D) : EnD → M (List D) := fun ρ => mbind (f ρ) fun d => mopt (match d with | .lst xs => some xs | _ => none)
def ixS : D → D → Option D
  | .str z, .int i => ixD (.str z) (.int i)
  | _, _ => none
section
variable {X : L2.Cx} {T : Tb} {E : XK} {fa fb : EnD → M D} {t : EnD → M Bool} {f : EnD → M D} {elt iter tg a b : Expr} {ifs : List Expr} {scope : Scope} {pos : Pos} {x : Str} {i : Nat}
theorem tiL_of {σ : L2.St} {H : Hp} {R : It → Hp → Prop} (h : tiD (yx X T E) (iL fa) σ H R) : tiL X.K (tD (yx X T E) fa) σ H R := by
  obtain ⟨g, ρ, z, st, h⟩ := h
  refine ⟨g, ρ, z, st, h.bind.imp fun d z1 _ h1 v H1 st1 e1 r1 => ?_⟩
  obtain ⟨xs, hx, q⟩ := h1.opt
  cases d <;> simp only [reduceCtorEq, Option.some.injEq] at hx
  case lst =>
    subst hx
    obtain ⟨a, us, rfl, hq, n, rs⟩ := r1.list
    exact ⟨a, rfl, ⟨us, .inl (.inl hq)⟩, q _ H1 st1 e1 (itd_list hq n rs)⟩
theorem pu_lcH (hot : HotC X) (hN : X.N.Nodup) (ha : PE X iter (tD (yx X T E) fa)) (ok : BlkOk X.N X.env.scope scope [(x, i)])
    (hg : ∀ (s : Shared) (H : Hp) (C : Addr) (cl : List (Str × Addr)) (fp : List Addr), PG (X.blk s H scope (compEnvC scope cl C X.env) fp) tg (gName i)) (ht : ∀ (s : Shared) (H : Hp) (C : Addr) (cl : List (Str × Addr)) (fp : List Addr), PTs (X.blk s H scope (compEnvC scope cl C X.env) fp) ifs (ttD (yx X T E0) t))
    (he : ∀ (s : Shared) (H : Hp) (C : Addr) (cl : List (Str × Addr)) (fp : List Addr), PE (X.blk s H scope (compEnvC scope cl C X.env) fp) elt (tD (yx X T E0) f)) (hs : ∀ x, foldedSetIterable iter X.env x = pure x := by intro _; rfl) :
    PE X (.ListComp elt [⟨tg, iter, ifs, 0⟩] scope pos) (tD (yx X T E) (eLc i (iL fa) t f)) :=
  PE_imp (pe_lcH (own := [(x, i)]) (tt := fun σ H Q => KN X.K H → ttD (yx X T E0) t σ H Q) (te := fun σ H Q => KN X.K H → tD (yx X T E0) f σ H Q) hot hN ha ok hg (fun s H C cl fp => PTs_kn (ht s H C cl fp)) (fun s H C cl fp => PE_kn (he s H C cl fp)) hs) fun σ H Q h => tiL_of (lc_read h)
theorem pu_ixS (ha : PE X a (tD (yx X T E) fa)) (hb : PE X b (tD (yx X T E) fb)) (hs : PlainIx b := by intro _ _; rfl) : PE X (.Subscript a b pos) (tD (yx X T E) (e2 (op2 ixS) fa fb)) :=
  PE_imp (pe_ix ixAll ha hb hs) fun σ H Q h => by
    obtain ⟨g, ρ, z, st, a⟩ := tD_bind2 h
    refine ⟨g, ρ, z, st, a.imp fun d z1 _ h1 v H1 st1 e1 r1 => ?_⟩
    obtain ⟨g2, ρ2, z2, st2, a2⟩ := h1 v H1 st1 e1 r1
    exact ⟨g2, ρ2, z2, st2, a2.imp fun e z3 _ h3 w H3 st3 e3 r3 => by
      obtain ⟨g4, ρ4, z4, d4, e4, st4, rv, rw', a4⟩ := h3 w H3 st3 e3 r3
      obtain ⟨r, hr', q⟩ := a4.opt
      unfold ixS at hr'
      split at hr'
      · rename_i zz i
        unfold ixD at hr'
        simp only [Option.ite_none_right_eq_some, Option.map_eq_some_iff] at hr'
        obtain ⟨c, cc, h1, rfl⟩ := hr'
        cases rv.str
        cases rw'.int
        exact ⟨_, ix_str, _, _, cc, rfl, rfl, by rw [ST_len]; exact c, by rw [ST_toList]; exact h1, q _ H3 st4 .refl (.atom (.str (z := [cc])) .nil)⟩
      · cases hr'⟩
theorem od_eqU (hu : X.A.units + 64 < cLine) : OpD X T E (compareOp .Eq) (op2 eqD) := opD_flat fun H R B v w d e r Q rv rw' h q => by
  unfold eqD at h
  simp only [Option.bind_eq_some_iff] at h
  obtain ⟨p, h1, p2, h2, h3⟩ := h
  cases h3
  obtain ⟨a1, b1⟩ := shp_some h1
  obtain ⟨a2, b2⟩ := shp_some h2
  exact ⟨_, op_eqD hu, p, p2, rv.dp a1, rw'.dp a2, b1, b2, q _ .bl⟩
theorem takes0N {X : L2.Cx} : L2N.Takes X fun _ _ _ _ => False := fun u s' ⟨_, _, _, _, _, _, _, _, _, _, _, _, _, _, _, _, w⟩ => w.elim
theorem pu_tryIsH {k n i : Nat} {fa' : Addr} {fd : FuncData} {ps : List Str} {F : List D → M D} {x cV cN nm : Str} {p p3 p5 p7 pos np q1 q2 q3 q4 q5 q6 : Pos} {e b : Expr} {es : List Expr} {fs : List (EnD → M D)} {gg : EnD → M D} {CV CN : Addr} {W : Str → Bool}
    (FN : FnOk X.prog X.w X.K X.mg X.base (L2N.CX X.prog X.w) k fa' fd ps (spD X.K T X.mg n F)) (hr : Room k X.A) (hg : Gl X x) (hm : X.mg x = some (.ref fa')) (hk : PySem.W.keepIn X.K (.ref fa') = true) (hb : L2.Binds X.K fd ps [])
    (ha : ∀ (pn : List (Addr × Obj)) (xe : Value → Shared → Prop), PA (X.tr pn xe) (e :: es) (taD (yx X T E0) (evs fs))) (hn : fs.length = n) (hdb : (x == ("__debug__" : Str)) = false)
    (he : starEach (e :: es) X.env = (false, eval e X.env) :: starEach es X.env) (hpl : (backTo pos (starEach es X.env)).any (·.1) = false)
    (hsw : swapsWith (.Call (.Name x p) (e :: es) [] pos) none p3.line X.env = pure false)
    (hs : X.stack = X.env :: X.outer) (hf : X.env.frame = some X.env.locals) (hN : X.N.Nodup) (hi : X.N[i]? = some nm) (hln : X.env.kindOf nm = some .local) (hll : X.env.scope.names.lookup nm = some .local)
    (gV : Gl X cV) (mV : X.mg cV = some (.ref CV)) (dV : (cV == ("__debug__" : Str)) = false) (gN : Gl X cN) (mN : X.mg cN = some (.ref CN)) (dN : (cN == ("__debug__" : Str)) = false) (gis : Gl X "isinstance") (mis : X.mg "isinstance" = none)
    (de : (nm == ("__debug__" : Str)) = false) (ce : (nm == ("__classdict__" : Str)) = false) 
    (hW : ∀ y c, W y = true → X.mg y = some (.ref c) → TOne X.K CV CN c)
    (hgg : ∀ (a' : Addr) (oe : Obj) (pn : List (Addr × Obj)), HotC (X.suite a' ((a', oe) :: pn)) → PE (X.suite a' ((a', oe) :: pn)) b (tD (yx X T E0) gg))
    (hst : starEach [.Name nm q2, .Name cN q3] X.env = (false, eval (.Name nm q2) X.env) :: starEach [.Name cN q3] X.env) (hst2 : starEach [.Name cN q3] X.env = (false, eval (.Name cN q3) X.env) :: starEach [] X.env) (hplI : (backTo q4 (starEach [.Name cN q3] X.env)).any (·.1) = false) :
    PS X (.Try [.Expr (.Call (.Name x p) (e :: es) [] pos) p3] [.ExceptHandler (some (.Name cV np)) (some nm) [.Return (some (.BoolOp .And [.Call (.Name "isinstance" q1) [.Name nm q2, .Name cN q3] [] q4, b] q5)) q6] p5] [] [] p7)
      (sD (yx X T E) (sTryIs i W F fs gg)) := by
  refine PS_imp (L2N.ps_try_as (X := X) (c := .ref CV) (i := i) (Wout := fun _ _ _ _ => False)
    (tb := fun WW D σ H => ∃ Es : XK, (∀ cls d H', Es cls d H' → WW cls d σ H') ∧ taD (yx X T E0) (evs fs) σ H fun vs H1 => spD X.K T X.mg n F vs H1 (fun _ H' => D.nx σ H') Es)
    (ts := fun a' cls d D σ H => ∃ C, cls = .ref C ∧ d = none ∧ TOne X.K CV CN C ∧ σ[i]? = some (some (.ref a')) ∧ tD (yx X T E0) gg σ H fun v H' => D.rt v H')
    hs hf hN hi hln ⟨gV, dV, .inl mV⟩ takes0N (fun WW pn xe tk' _ => ?_) (fun a' oe cls d pn hz hfl => ?_)) fun D σ H h => ?_
  · refine ⟨fun pins s' σ H' D I h' => ?_⟩
    obtain ⟨Es, hWW, h3⟩ := h'
    have hp := pe_callS (X := X.tr pn xe) (σ0 := σ) (Es := Es) (p := p) (pos := pos) FN hr hg hm hk hb (fun pins H s u s' I c => tk' u s' (L2N.XE.of_call I (fun cls d H' h => hWW cls d H' h) c)) (ha pn xe) hdb he hpl
    exact (pss_one (ps_expr (pos := p3) hp hsw)).run pins s' σ H' D I ⟨rfl, h3⟩
  · refine ⟨fun pins s' σ H' D I h' => ?_⟩
    obtain ⟨C, rfl, rfl, tc, hsl, hq⟩ := h'
    have isE : PE (X.suite a' ((a', oe) :: pn)) (.Call (.Name "isinstance" q1) [.Name nm q2, .Name cN q3] [] q4) (tCB (rIsE X.K C a') (tCons (tVar i) (tCons (tC (.ref CN)) tNil))) :=
      pe_callB (call_isE (X := X) tc.exc hz.zc hfl) gis mis PyProof.Rows.boot_isinstance (pa_cons (pe_var (i := i) hi (.inl hll) de ce) (pa_cons (pe_glob gN mN rfl dN) pa_nil hst2) hst) (by decide) (by decide) hst hplI
    refine (pss_one (ps_ret (pos := q6) (L2.pe_and (pos := q5) isE (pe_one (hgg a' oe pn (by
      obtain ⟨vs, hd⟩ := hfl
      exact ⟨(a', oe), ⟨rfl, vs, hd, hz.2.2 vs hd⟩, List.mem_cons_self⟩)))))).run pins s' σ H' D I ?_
    refine ⟨.ref a', hsl, ⟨.ref CN, .ref CN, true, rfl, fun u r => r, tc.one, true, rfl, ?_⟩⟩
    exact hq
  · obtain ⟨g, ρ, z, st, o⟩ := h
    unfold sTryIs at o
    by_cases c : noOwn ρ = true ∧ i < ρ.length
    case neg => rw [if_neg c] at o; exact o.elim
    rw [if_pos c] at o
    obtain ⟨no, hil⟩ := c
    have nb : ∀ b, bad g σ ρ b ↔ g.B b := fun b => ⟨fun q => q.elim id fun ⟨i, d, q, _⟩ => absurd q (noOwn_at no i d), .inl⟩
    refine ⟨fun cls d H' => ∃ y C, X.mg y = some (.ref C) ∧ cls = .ref C ∧ d = none ∧ W y = true ∧ ∀ a', tD (yx X T E0) gg (σ.set i (some (.ref a'))) H' fun v H'' => D.rt v H'', fun cls d H' ⟨y, C, h1, h2, h3, h4, h5⟩ => ?_, ?_⟩
    · subst h2 h3
      have tc := hW y C h4 h1
      refine ⟨true, tc.caught, fun _ a' ha => ⟨C, rfl, rfl, tc, List.getElem?_set_self (by rw [st.len]; exact hil), h5 a'⟩, fun z => by cases z⟩
    · refine ⟨g, ρ, z, st.chE, ?_⟩
      cases ee : evs fs ρ z with
      | bad => rw [ee] at o; exact o.elim
      | exc y z' => rw [ee] at o; exact o.elim
      | ok ds z1 =>
        rw [ee] at o
        try dsimp only at o
        intro vs H1 st1 e1 r1
        have st1 : StR (yx X T E) g H1 σ ρ z1 := st1.chE
        refine ⟨by rw [r1.length, evs_length ee]; exact hn, ⟨g.R, bad g σ ρ, H1⟩, ds, z1, rfl, st1.wo.less (fun _ h => h) st1.badR, r1, ?_⟩
        cases ef : F ds z1 with
        | bad => rw [ef] at o; exact o.elim
        | ok d z' =>
          rw [ef] at o
          try dsimp only at o
          exact fun v H' w ex r2 => o σ H' (st1.step ex (w.less (fun _ h => h) st1.badR)) (.ext (e1.trans ex))
        | exc xx z' =>
          rw [ef] at o
          try dsimp only at o
          obtain ⟨y, idx⟩ := xx
          cases idx with
          | some i => exact o.elim
          | none =>
            by_cases cw : W y = true
            case neg => simp only [cw] at o; exact o.elim
            simp only [cw, if_true] at o
            intro H' C d w ex xr
            obtain ⟨c, h1, h2, h3⟩ := xr
            have st2 : StR (yx X T E) g H' σ ρ z' := st1.step ex (w.less (fun _ h => h) st1.badR)
            refine ⟨y, c, h1, h2, h3, cw, fun a' => ⟨g, ρ.set i none, z', (st2.setX no).chE, ?_⟩⟩
            cases eg : gg (ρ.set i none) z' with
            | bad => rw [eg] at o; exact o.elim
            | exc y z2 => rw [eg] at o; exact o.elim
            | ok d2 z2 =>
              rw [eg] at o
              try dsimp only at o
              intro v H'' st3 e3 r3
              have st3 : StR (yx X T E) g H'' _ _ z2 := st3.chE
              exact o v H'' st3.wog st3.ext (r3.less fun a q => .inl q)
end
section
variable {X : L2.Cx} {T : Tb} {E : XK} {x m : Str} {C : Addr} {j : Nat} {p p2 pos pos' : Pos}
theorem pu_raiseN (hc : X.calm = true) (tk : L2N.Takes X fun cls d _ H => E cls d H) (F : XCls X.K X.mg x C) (hg : Gl X x) (hdb : (x == ("__debug__" : Str)) = false := by decide) :
    PS X (.Raise (some (.Call (.Name x p) [.Constant (.str m) j p2] [] pos)) none pos') (sD (yx X T E) (sRaise x)) := by
  obtain ⟨B, newId, initId, bmB, F1, F2⟩ := F.exc
  refine PS_imp (L2N.ps_raise hc tk (L2N.pmk_own F1 F2 F.glob F.keep (raises_own F.sub F.ty) hg hdb)) fun D σ H h => ?_
  obtain ⟨g, ρ, z, st, o⟩ := h
  exact o H (.ref C) none st.wog st.ext ⟨C, F.glob, rfl, rfl⟩
end
section
variable {P : Program} {w : World} {K : PySem.W.Frag} {mg : Str → Option Value} {base : Heap} {T : Tb} {N : List Str} {qual : Str} {scope : Scope} {f : Addr} {cd : Value} {A : Around} {outer : List Env} {s : Shared} {H : Hp} {E : XK}
theorem takesXN : L2N.Takes (cxOf (L2N.CX P w) P w K mg base N qual scope f cd A outer s H E) fun cls d _ H => E cls d H := L2N.takes_of rfl rfl rfl rfl
/-- a call that lets nothing out -/
theorem passFN {X : L2.Cx} : Passes (L2N.CX P w) X fun _ _ _ => False := fun _ _ _ _ _ _ _ h => by
  obtain ⟨_, _, _, _, _, _, _, _, _, _, _, _, z⟩ := h
  exact z.elim
/-- a def that may raise, by its body -/
theorem okXN {x qual : Str} {st : Stmt} {f : Addr} {fd : FuncData} {N ps : List Str} {k : Nat} {B : SM} (F : Fun K x qual st f fd) (S : FnScope N ps (defScope st))
    (der : ∀ (cdv : Value) (A : Around) (outer : List Env) (s : Shared) (H : Hp) (E : XK), Room k (A.deeper (envOfC qual (defScope st) s.heap.objs.size f cdv)) → fd.code = cdv →
      PSs (cxOf (L2N.CX P w) P w K mg base N qual (defScope st) f cdv A outer s H E) (defBody st) (sD ⟨K, T, mg, E⟩ B)) :
    FnOk P w K mg base (L2N.CX P w) (k + 1) f fd ps (spD K T mg ps.length (runD N.length B)) := by
  obtain ⟨oc, od, kV, doc, pm, an, cdv, ct, osl, rfl, lk, hcd⟩ := F.ex
  refine fn_of lk hcd S (fun vs H Q E h => h.1) fun A outer s H vs Q E hr hsp => ?_
  exact ⟨_, der cdv A outer s H E hr rfl, run_read hsp⟩
end
end DL
set_option Elab.async false
set_option linter.all false
set_option maxRecDepth 100000
set_option maxHeartbeats 2000000
namespace DL
open PySem PySem.Spec PyProof.Rows L2
def sNewPL (i j : Nat) (f : EnD → M D) : SM := fun ρ z => obind (mne (f ρ) z) fun d z' => if ownAt ρ i = false ∧ i < ρ.length ∧ ownAt ρ j = false ∧ i ≠ j then .nx ((ρ.set i (some (.own (.lst [])))).set j (some (.val d))) z' else .bad
section
variable {X : L2.Cx} {T : Tb} {E : XK} {e : Expr} {f : EnD → M D} {i j : Nat} {B : SM} {rest : List Stmt} {pos px py pt dpos : Pos} {x y : Str}
theorem pu_newPL {kt : Nat} {k2} {pt2 : Pos} (hN : X.N.Nodup) (hi : X.N[i]? = some x) (hj : X.N[j]? = some y) (hx : X.env.scope.names.lookup x = some .local) (hy : X.env.scope.names.lookup y = some .local) (hij : i ≠ j) (he : PE X e (tD (yx X T E) f)) (h2 : PSs X rest (sD (yx X T E) B))
    (hc : X.calm = true := by rfl) (hw : swappedStores [.Tuple [.Name x px, .Name y py] kt pt] (.Tuple [.List [] dpos, e] k2 pt2) X.env = pure (some [x, y]) := by rfl)
    (hst : starEach [.List [] dpos, e] X.env = (false, eval (.List [] dpos) X.env) :: starEach [e] X.env := by rfl) (hst2 : starEach [e] X.env = (false, eval e X.env) :: starEach [] X.env := by rfl)
    (hs : swapsWithSole [.Tuple [.Name x px, .Name y py] kt pt] (.Tuple [.List [] dpos, e] k2 pt2) pos.line X.env = pure false := by rfl) :
    PSs X (.Assign [.Tuple [.Name x px, .Name y py] kt pt] (.Tuple [.List [] dpos, e] k2 pt2) pos :: rest) (sD (yx X T E) (sSeq (sNewPL i j f) B)) :=
  PSs_imp (pss_cons (ps_par hc hN hi hj hij hx hy (pa_cons (pe_lst pa_nil) (pa_cons (PE_kn he) pa_nil hst2) hst) hw hs) h2) fun Dn σ H h => by
    obtain ⟨g, ρ, z, st, o⟩ := h
    refine ⟨small_len (n := 0) (by decide), fun p hp kn => ?_⟩
    have hK : X.K.lookup p = none := kn p (by rw [upd_same]; exact fun z => by cases z)
    have hpR : p ≠ g.R := fun e => st.badDom st.badR (by rw [← e]; exact hp)
    have sg := st.guard (H := upd H p (.lst [])) (z' := z) hp hK (.new hp) (new_wo st hp hK)
    refine ⟨gd g p, ρ, z, sg, ?_⟩
    unfold sSeq sNewPL mne at o
    cases ef : f ρ z with
    | bad => rw [ef] at o; exact o.elim
    | exc x z' => rw [ef] at o; exact o.elim
    | ok d z1 =>
      rw [ef] at o
      simp only [obind] at o
      by_cases c : ownAt ρ i = false ∧ i < ρ.length ∧ ownAt ρ j = false ∧ i ≠ j
      · rw [if_pos c] at o
        intro v H2 st2 e2 r2
        have hD : H2 p = some (.lst []) := e2.keep p _ upd_same hpR (fun ps z => by cases z)
        have so := st2.setOwn (i := i) (d := .lst []) st.gR c.1 c.2.1 (fun q => st.badDom (.inl q) hp) (h0_none st hp) hK ⟨[], hD, .nil⟩
        have co : ownAt (ρ.set i (some (.own (.lst [])))) j = false := by
          have := c.2.2.1
          unfold ownAt at this ⊢
          rw [List.getElem?_set_ne c.2.2.2]
          exact this
        have s3 := so.setv (i := j) (v := v) (d := d) co (by rw [bad_own st.len c.1 c.2.1]; exact r2)
        refine ⟨.ref p, v, rfl, g, _, z1, s3, OutOk.rebase o ((own_stp st.len c.1 c.2.1 hp ((Ext.new hp).trans e2)).trans (.setv co trivial))⟩
      · rw [if_neg c] at o
        exact o.elim
theorem sNewPL_ev {ρ : EnD} {z : S} {Qn : EnD → S → Prop} {Qr : D → S → Prop} : WS (sNewPL i j f ρ z) Qn Qr = WP (f ρ) z fun d z' => if ownAt ρ i = false ∧ i < ρ.length ∧ ownAt ρ j = false ∧ i ≠ j then Qn ((ρ.set i (some (.own (.lst [])))).set j (some (.val d))) z' else False := by
  unfold sNewPL; rw [ob_ev]; unfold WP mne; cases f ρ z <;> (try rfl); simp only; split <;> rfl
end
end DL
set_option Elab.async false
set_option linter.all false
set_option maxRecDepth 100000
set_option maxHeartbeats 2000000
namespace CMB
open PySem PySem.Spec
open Sem (wp)
end CMB
set_option Elab.async false
set_option linter.all false
set_option maxRecDepth 100000
set_option maxHeartbeats 2000000
namespace CMB
open PySem PySem.Spec
open Sem (wp)
def nums (idx : List Nat) : List Value := idx.map fun (n : Nat) => rawInt n
/-- a combinations object: its pool, its state, what it gave last, its indices -/
abbrev IsComb (h : Heap) (it pl : Addr) (st : Int) (last : Value) (idx : List Nat) : Prop := h.get? it = some { cls := .type "itertools.combinations", dict := none, data := .fields ([.ref pl, rawInt st, last] ++ nums idx).toArray, slots := #[] }
/-- the next indices -/
def nxtC (n : Nat) (indices : List Nat) : Option (List Nat) :=
  let r := indices.length
  match (List.range r).reverse.find? fun i => indices.getD i 0 != i + n - r with
  | none => none
  | some i => some (indices.take i ++ (List.range (r - i)).map (indices.getD i 0 + 1 + ·))
end CMB
set_option Elab.async false
set_option linter.all false
set_option maxRecDepth 100000
set_option maxHeartbeats 2000000
namespace CMB
open PySem PySem.Spec
open Sem (wp)
section
variable {prog : Program} {w : World} {A : Around} {E : Value → Shared → Prop} {s : Shared}
def combO (pl : Addr) (st : Int) (last : Value) (idx : List Nat) : Obj := { cls := .type "itertools.combinations", data := .fields ([.ref pl, rawInt st, last] ++ nums idx).toArray }
def picked (items : Array Value) (idx : List Nat) : List Value := idx.map fun i => items.getD i .none
end
end CMB
set_option Elab.async false
set_option linter.all false
set_option maxRecDepth 100000
set_option maxHeartbeats 1000000
namespace CMB
open PySem PySem.Spec PyProof.Rows L2
/-- all the indices, in their order -/
structure SeqC (n r : Nat) (L : List (List Nat)) : Prop where
  none : n < r → L = []
  first : r ≤ n → L[0]? = some (List.range r)
  next : ∀ i a, L[i]? = some a → a.length = r ∧ nxtC n a = L[i + 1]?
def rowV (vs : List V) (idx : List Nat) : List V := idx.map fun i => vs.getD i .non
def ItC (us : List (List V)) : It :=
  ⟨fun i _ => i < us.length, fun i H x H' => ∃ p ob row, us[i]? = some row ∧ x = .ref p ∧ H p = none ∧ H' = upd H p (.frz ob (.tup row)) ∧ ob.dict = none, fun i _ => us.length ≤ i⟩
/-- where it stands before turn i -/
def StC (it pl : Addr) (items : Array Value) (n r : Nat) (L : List (List Nat)) (i : Nat) (h : Heap) : Prop :=
  h.IsTuple pl items ∧ ((i = 0 ∧ IsComb h it pl (if n < r then 2 else 0) .none (List.range r)) ∨ ∃ k idx last, i = k + 1 ∧ L[k]? = some idx ∧ IsComb h it pl 1 last idx)
theorem StC.there {it pl : Addr} {items : Array Value} {n r : Nat} {L : List (List Nat)} {i : Nat} {h : Heap} (st : StC it pl items n r L i h) : ∃ st' last idx, IsComb h it pl st' last idx := by
  rcases st.2 with ⟨_, q⟩ | ⟨_, _, _, _, _, q⟩
  · exact ⟨_, _, _, q⟩
  · exact ⟨_, _, _, q⟩
/-- a list's combinations -/
def iComb (K : PySem.W.Frag) (ta : TA) : TI := fun σ H R => ta σ H fun vs H1 => ∃ (a : Addr) (xs : List V) (r : Int) (L : List (List Nat)), vs = [.ref a, .int r] ∧ SqL K H1 a xs ∧ 0 ≤ r ∧ r < 1000 ∧ SeqC xs.length r.toNat L ∧ R (ItC (L.map (rowV xs))) H1
end CMB
set_option Elab.async false
set_option linter.all false
set_option maxRecDepth 100000
set_option maxHeartbeats 1000000
namespace DL
open PySem PySem.Spec PyProof.Rows L2 CMB

def cmb {α : Type} : Nat → List α → List (List α)
  | 0, _ => [[]]
  | _ + 1, [] => []
  | r + 1, x :: xs => (cmb r xs).map (x :: ·) ++ cmb (r + 1) xs
def chk (n r : Nat) : List (List Nat) → Bool
  | [] => true
  | [a] => a.length == r && decide (nxtC n a = none)
  | a :: b :: l => a.length == r && decide (nxtC n a = some b) && chk n r (b :: l)
def rowD (ds : List D) (idx : List Nat) : List D := idx.map fun i => ds.getD i .non
/-- an iterator that hands out new tuples -/
structure ItN (K : PySem.W.Frag) (R : Addr) (B : Addr → Prop) (H1 : Hp) (J : It) (xs : List (List D)) : Prop where
  go : ∀ i H, RdLe B H1 H → i < xs.length → J.go i H
  yld : ∀ i H x H', RdLe B H1 H → i < xs.length → J.yld i H x H' → ∃ p ob us ds, x = .ref p ∧ H p = none ∧ H' = upd H p (.frz ob (.tup us)) ∧ ob.dict = none ∧ xs[i]? = some ds ∧ Rs K H R (plus K H1 B) us ds
  stop : ∀ i H, RdLe B H1 H → xs.length ≤ i → J.stop i H
def tiN (Y : Yx) (f : EnD → M (List (List D))) : TI := fun σ H R => ∃ g ρ z, StR Y g H σ ρ z ∧ After Y g (f ρ z) fun xs z' => ∀ J H1, StR Y g H1 σ ρ z' → Ext g.R H H1 → ItN Y.K g.R (bad g σ ρ) H1 J xs → R J H1
def cmbD : D → D → Option (List (List D))
  | .lst xs, .int r => if 0 ≤ r ∧ r ≤ 10 ∧ xs.length ≤ 10 then some (cmb r.toNat xs) else none
  | _, _ => none
def iCmb (fa fb : EnD → M D) : EnD → M (List (List D)) := fun ρ => mbind (fa ρ) fun d => mbind (fb ρ) fun e => mopt (cmbD d e)
def sForN (i : Nat) (xs : EnD → M (List (List D))) (body : SM) : SM := fun ρ z => obind (xs ρ z) fun l z' => forD i body (l.map .tup) ρ z'
section
variable {X : L2.Cx} {T : Tb} {E : XK} {a b tg iter : Expr} {fa fb : EnD → M D} {B : SM} {fi : EnD → M (List (List D))} {pos p : Pos} {x : Str} {i : Nat}
end
end DL
set_option Elab.async false
set_option linter.all false
set_option maxRecDepth 100000
set_option maxHeartbeats 1000000
namespace DL
open PySem PySem.Spec PyProof.Rows L2

mutual
/-- no list, no dict within -/
def noL : D → Bool
  | .lst _ => false
  | .dS _ => false
  | .dT _ _ => false
  | .st _ _ => false
  | .tup xs => noLs xs
  | .wt xs => noLs xs
  | _ => true
def noLs : List D → Bool
  | [] => true
  | x :: xs => noL x && noLs xs
end
def eFrzL (i : Nat) (f : EnD → M D) : EnD → M D := fun ρ => mbind (mopt (ownL ρ i)) fun ds => mbind (f (ρ.set i (some (.val (.lst ds))))) fun r => if noL r then mpure r else mbad
section
variable {Y : Yx} {g : G} {H H' : Hp} {σ : L2.St} {ρ : EnD} {z z' : S} {i : Nat} {a : Addr} {ds : List D}
end
section
variable {X : L2.Cx} {T : Tb} {E : XK} {e : Expr} {f : EnD → M D} {i : Nat}
end
end DL
set_option Elab.async false
set_option linter.all false
set_option maxRecDepth 100000
set_option maxHeartbeats 1000000
namespace DL
open PySem PySem.Spec PyProof.Rows L2

/-- what is told of the dict that comes back -/
structure OwnRes (K : PySem.W.Frag) (T : Tb) (g : G) (H' : Hp) (a : Addr) (es : List (List Nat × D)) (z : S) : Prop where
  wo : Wo K T (gd g a) H' z
  ext : Ext g.R g.H0 H'
  fresh : g.H0 a = none
  kn : K.lookup a = none
  nb : ¬ g.B a
  own : OwnAt K H' g.R (fun b => g.B b ∨ b = a) a (.dS es)
def RetO (Y : Yx) (g : G) (o : Out) (j : Nat) (Dn : Ends) : Prop := match o with
  | .nx ρ' z' => ∃ es, ownD ρ' j = some es ∧ ∀ a H', OwnRes Y.K Y.T g H' a es z' → Dn.rt (.ref a) H'
  | _ => False
/-- a suite whose end hands back the own dict of slot j -/
def sDR (Y : Yx) (A : SM) (j : Nat) : TS := fun Dn σ H => ∃ g ρ z, StR Y g H σ ρ z ∧ RetO Y g (A ρ z) j Dn
/-- what such a def promises -/
def spO (K : PySem.W.Frag) (T : Tb) (mg : Str → Option Value) (n N : Nat) (A : SM) (j : Nat) : Sp := fun vs H Q E => vs.length = n ∧ ∃ g ds z, g.H0 = H ∧ Wo K T g H z ∧ Rs K H g.R g.B vs ds ∧
  ∃ ρ' z' es, A (rho0 N ds) z = .nx ρ' z' ∧ ownD ρ' j = some es ∧ ∀ a H', OwnRes K T g H' a es z' → Q (.ref a) H'
section
variable {Y : Yx} {g : G} {H : Hp} {σ : L2.St} {ρ : EnD} {z : S} {j : Nat}
end
section
variable {X : L2.Cx} {T : Tb} {E : XK} {st : Stmt} {rest : List Stmt} {A B : SM} {f : EnD → M D} {e : Expr} {pos px py pt dpos p2 : Pos} {i j : Nat} {x y : Str}
/-- x = f(..), f such a def: x an own dict -/
def sCallO (i : Nat) (A : SM) (N j : Nat) (fs : List (EnD → M D)) : SM := fun ρ z => match evs fs ρ z with
  | .ok ds z1 => match A (rho0 N ds) z1 with
    | .nx ρ' z' => match ownD ρ' j with
      | some es => if ownAt ρ i = false ∧ i < ρ.length then .nx (ρ.set i (some (.own (.dS es)))) z' else .bad
      | none => .bad
    | _ => .bad
  | _ => .bad
end
end DL
set_option Elab.async false
set_option linter.all false
set_option maxRecDepth 100000
set_option maxHeartbeats 1000000
namespace DL
open PySem PySem.Spec PyProof.Rows L2

/-- list(e.items()), e a known dict -/
def tItF (te : TE) : TE := fun σ H Q => te σ H fun x H1 => ∃ (d : Addr) (o : Obj) (kvs : List (Key × V)), x = .ref d ∧ H1 d = some (.frz o (.dK kvs)) ∧
  ∀ (H' : Hp) (p : Addr) (ts : List Addr), (∀ b u, H1 b = some u → H' b = some u) → H1 p = none → H' p = some (.lst (ts.map V.ref)) → (∀ t ∈ ts, H1 t = none) → Paired (fun (t : Addr) (q : Key × V) => H' t = some (.tup [kV q.1, q.2])) ts kvs → Q (.ref p) H'
def itemsD : D → Option D
  | .dS es => some (.lst (es.map fun p => .wt [.str p.1, p.2]))
  | _ => none
def neL : D → D → Option D
  | .lst xs, .lst [] => some (.bl (!xs.isEmpty))
  | _, _ => none
section
variable {X : L2.Cx} {T : Tb} {E : XK} {a : Expr} {fa : EnD → M D} {p apos cpos pos : Pos}
end
end DL
set_option Elab.async false
set_option linter.all false
set_option maxRecDepth 100000
set_option maxHeartbeats 4000000
namespace C
open PySem PySem.Spec PyProof.Rows L2 DL
/-- what a law's text gives the defs: their addresses, whether errors are told, which checks are there -/
structure Cfg where
  A : Nat → Addr
  E : Str → Bool
  ck : Nat → Bool
  hs : List Key → Int
  sp : SetSp
def sRz (Γ : Cfg) (x : Str) : SM := fun ρ z => if Γ.E x then sRaise x ρ z else .bad
theorem pu_rz {X : L2.Cx} {T : Tb} {E : XK} {st : Stmt} {Γ : Cfg} {x : Str} (h : Γ.E x = true) (hp : PS X st (sD (yx X T E) (sRaise x))) : PS X st (sD (yx X T E) (sRz Γ x)) := by
  have e : sRz Γ x = sRaise x := by funext ρ z; unfold sRz; rw [if_pos h]
  rw [e]; exact hp
def w_WAYS : D := .tup [.str [97, 108, 108, 111, 119, 32, 111, 118, 101, 114], .str [97, 108, 119, 97, 121, 115, 32, 97, 108, 108, 111, 119], .str [97, 108, 119, 97, 121, 115, 32, 100, 101, 110, 121], .str [98, 111, 116, 104, 32, 101, 110, 100, 115], .str [100, 101, 110, 121, 32, 111, 118, 101, 114], .str [102, 105, 114, 115, 116], .str [105, 115, 108, 97, 110, 100], .str [108, 97, 115, 116], .str [109, 111, 115, 116, 32, 111, 114, 32, 97, 108, 108, 111, 119], .str [109, 111, 115, 116, 32, 111, 114, 32, 100, 101, 110, 121], .str [109, 111, 115, 116, 32, 111, 114, 32, 102, 105, 114, 115, 116], .str [109, 111, 115, 116, 32, 111, 114, 32, 108, 97, 115, 116], .str [111, 100, 100]]
def w_PROMISES : D := .tup [.str [97, 103, 114, 101, 101, 100], .str [101, 118, 101, 110], .str [103, 114, 111, 119, 105, 110, 103], .str [104, 101, 97, 114, 100], .str [107, 101, 112, 116], .str [109, 105, 120, 101, 100], .str [109, 111, 115, 116], .str [111, 114, 100, 101, 114], .str [112, 97, 114, 116, 115], .str [114, 101, 112, 101, 97, 116]]
def w_VOICES : D := .tup [.str [97, 108, 108, 111, 119], .str [100, 101, 110, 121]]
def w_SMALL_ROWS : D := .tup [.tup [.str [97, 108, 108, 111, 119]], .tup [.str [100, 101, 110, 121]], .tup [.str [97, 108, 108, 111, 119], .str [97, 108, 108, 111, 119]], .tup [.str [97, 108, 108, 111, 119], .str [100, 101, 110, 121]], .tup [.str [100, 101, 110, 121], .str [97, 108, 108, 111, 119]], .tup [.str [100, 101, 110, 121], .str [100, 101, 110, 121]], .tup [.str [97, 108, 108, 111, 119], .str [97, 108, 108, 111, 119], .str [97, 108, 108, 111, 119]], .tup [.str [97, 108, 108, 111, 119], .str [97, 108, 108, 111, 119], .str [100, 101, 110, 121]], .tup [.str [97, 108, 108, 111, 119], .str [100, 101, 110, 121], .str [97, 108, 108, 111, 119]], .tup [.str [97, 108, 108, 111, 119], .str [100, 101, 110, 121], .str [100, 101, 110, 121]], .tup [.str [100, 101, 110, 121], .str [97, 108, 108, 111, 119], .str [97, 108, 108, 111, 119]], .tup [.str [100, 101, 110, 121], .str [97, 108, 108, 111, 119], .str [100, 101, 110, 121]], .tup [.str [100, 101, 110, 121], .str [100, 101, 110, 121], .str [97, 108, 108, 111, 119]], .tup [.str [100, 101, 110, 121], .str [100, 101, 110, 121], .str [100, 101, 110, 121]]]
def tb_ANSWERS (Γ : Cfg) : List (List Nat × D) := [([97, 108, 108, 111, 119, 32, 111, 118, 101, 114], .fn 0 (Γ.A 0)), ([97, 108, 119, 97, 121, 115, 32, 97, 108, 108, 111, 119], .fn 1 (Γ.A 1)), ([97, 108, 119, 97, 121, 115, 32, 100, 101, 110, 121], .fn 2 (Γ.A 2)), ([98, 111, 116, 104, 32, 101, 110, 100, 115], .fn 3 (Γ.A 3)), ([100, 101, 110, 121, 32, 111, 118, 101, 114], .fn 4 (Γ.A 4)), ([102, 105, 114, 115, 116], .fn 5 (Γ.A 5)), ([105, 115, 108, 97, 110, 100], .fn 6 (Γ.A 6)), ([108, 97, 115, 116], .fn 7 (Γ.A 7)), ([109, 111, 115, 116, 32, 111, 114, 32, 97, 108, 108, 111, 119], .fn 8 (Γ.A 8)), ([109, 111, 115, 116, 32, 111, 114, 32, 100, 101, 110, 121], .fn 9 (Γ.A 9)), ([109, 111, 115, 116, 32, 111, 114, 32, 102, 105, 114, 115, 116], .fn 10 (Γ.A 10)), ([109, 111, 115, 116, 32, 111, 114, 32, 108, 97, 115, 116], .fn 11 (Γ.A 11)), ([111, 100, 100], .fn 12 (Γ.A 12))]
def tb_ALLOWED (Γ : Cfg) : List (List Nat × D) := [([97, 108, 108, 111, 119, 32, 111, 118, 101, 114], .fn 13 (Γ.A 13)), ([97, 108, 119, 97, 121, 115, 32, 97, 108, 108, 111, 119], .fn 14 (Γ.A 14)), ([97, 108, 119, 97, 121, 115, 32, 100, 101, 110, 121], .fn 15 (Γ.A 15)), ([98, 111, 116, 104, 32, 101, 110, 100, 115], .fn 16 (Γ.A 16)), ([100, 101, 110, 121, 32, 111, 118, 101, 114], .fn 17 (Γ.A 17)), ([102, 105, 114, 115, 116], .fn 18 (Γ.A 18)), ([105, 115, 108, 97, 110, 100], .fn 19 (Γ.A 19)), ([108, 97, 115, 116], .fn 18 (Γ.A 18)), ([109, 111, 115, 116, 32, 111, 114, 32, 97, 108, 108, 111, 119], .fn 20 (Γ.A 20)), ([109, 111, 115, 116, 32, 111, 114, 32, 100, 101, 110, 121], .fn 21 (Γ.A 21)), ([109, 111, 115, 116, 32, 111, 114, 32, 102, 105, 114, 115, 116], .fn 18 (Γ.A 18)), ([109, 111, 115, 116, 32, 111, 114, 32, 108, 97, 115, 116], .fn 18 (Γ.A 18)), ([111, 100, 100], .fn 18 (Γ.A 18))]
def tb_MATTERS (Γ : Cfg) : List (List Nat × D) := [([97, 108, 108, 111, 119, 32, 111, 118, 101, 114], .fn 22 (Γ.A 22)), ([97, 108, 119, 97, 121, 115, 32, 97, 108, 108, 111, 119], .fn 23 (Γ.A 23)), ([97, 108, 119, 97, 121, 115, 32, 100, 101, 110, 121], .fn 23 (Γ.A 23)), ([98, 111, 116, 104, 32, 101, 110, 100, 115], .fn 24 (Γ.A 24)), ([100, 101, 110, 121, 32, 111, 118, 101, 114], .fn 22 (Γ.A 22)), ([102, 105, 114, 115, 116], .fn 25 (Γ.A 25)), ([105, 115, 108, 97, 110, 100], .fn 26 (Γ.A 26)), ([108, 97, 115, 116], .fn 27 (Γ.A 27)), ([109, 111, 115, 116, 32, 111, 114, 32, 97, 108, 108, 111, 119], .fn 28 (Γ.A 28)), ([109, 111, 115, 116, 32, 111, 114, 32, 100, 101, 110, 121], .fn 29 (Γ.A 29)), ([109, 111, 115, 116, 32, 111, 114, 32, 102, 105, 114, 115, 116], .fn 30 (Γ.A 30)), ([109, 111, 115, 116, 32, 111, 114, 32, 108, 97, 115, 116], .fn 31 (Γ.A 31)), ([111, 100, 100], .fn 32 (Γ.A 32))]
def tb_KEPT_BY : List (List Nat × D) := [([97, 108, 108, 111, 119, 32, 111, 118, 101, 114], .tup [.str [97, 103, 114, 101, 101, 100], .str [103, 114, 111, 119, 105, 110, 103], .str [104, 101, 97, 114, 100], .str [107, 101, 112, 116], .str [111, 114, 100, 101, 114], .str [112, 97, 114, 116, 115], .str [114, 101, 112, 101, 97, 116]]), ([97, 108, 119, 97, 121, 115, 32, 97, 108, 108, 111, 119], .tup [.str [103, 114, 111, 119, 105, 110, 103], .str [107, 101, 112, 116], .str [111, 114, 100, 101, 114], .str [112, 97, 114, 116, 115], .str [114, 101, 112, 101, 97, 116]]), ([97, 108, 119, 97, 121, 115, 32, 100, 101, 110, 121], .tup [.str [103, 114, 111, 119, 105, 110, 103], .str [107, 101, 112, 116], .str [111, 114, 100, 101, 114], .str [112, 97, 114, 116, 115], .str [114, 101, 112, 101, 97, 116]]), ([98, 111, 116, 104, 32, 101, 110, 100, 115], .tup [.str [97, 103, 114, 101, 101, 100], .str [103, 114, 111, 119, 105, 110, 103], .str [107, 101, 112, 116], .str [109, 105, 120, 101, 100], .str [114, 101, 112, 101, 97, 116]]), ([100, 101, 110, 121, 32, 111, 118, 101, 114], .tup [.str [97, 103, 114, 101, 101, 100], .str [103, 114, 111, 119, 105, 110, 103], .str [104, 101, 97, 114, 100], .str [107, 101, 112, 116], .str [111, 114, 100, 101, 114], .str [112, 97, 114, 116, 115], .str [114, 101, 112, 101, 97, 116]]), ([102, 105, 114, 115, 116], .tup [.str [97, 103, 114, 101, 101, 100], .str [101, 118, 101, 110], .str [103, 114, 111, 119, 105, 110, 103], .str [107, 101, 112, 116], .str [109, 105, 120, 101, 100], .str [112, 97, 114, 116, 115], .str [114, 101, 112, 101, 97, 116]]), ([105, 115, 108, 97, 110, 100], .tup [.str [97, 103, 114, 101, 101, 100], .str [104, 101, 97, 114, 100], .str [109, 105, 120, 101, 100], .str [114, 101, 112, 101, 97, 116]]), ([108, 97, 115, 116], .tup [.str [97, 103, 114, 101, 101, 100], .str [101, 118, 101, 110], .str [103, 114, 111, 119, 105, 110, 103], .str [107, 101, 112, 116], .str [109, 105, 120, 101, 100], .str [112, 97, 114, 116, 115], .str [114, 101, 112, 101, 97, 116]]), ([109, 111, 115, 116, 32, 111, 114, 32, 97, 108, 108, 111, 119], .tup [.str [97, 103, 114, 101, 101, 100], .str [103, 114, 111, 119, 105, 110, 103], .str [104, 101, 97, 114, 100], .str [107, 101, 112, 116], .str [109, 105, 120, 101, 100], .str [109, 111, 115, 116], .str [111, 114, 100, 101, 114]]), ([109, 111, 115, 116, 32, 111, 114, 32, 100, 101, 110, 121], .tup [.str [97, 103, 114, 101, 101, 100], .str [103, 114, 111, 119, 105, 110, 103], .str [104, 101, 97, 114, 100], .str [107, 101, 112, 116], .str [109, 105, 120, 101, 100], .str [109, 111, 115, 116], .str [111, 114, 100, 101, 114]]), ([109, 111, 115, 116, 32, 111, 114, 32, 102, 105, 114, 115, 116], .tup [.str [97, 103, 114, 101, 101, 100], .str [101, 118, 101, 110], .str [103, 114, 111, 119, 105, 110, 103], .str [107, 101, 112, 116], .str [109, 105, 120, 101, 100], .str [109, 111, 115, 116]]), ([109, 111, 115, 116, 32, 111, 114, 32, 108, 97, 115, 116], .tup [.str [97, 103, 114, 101, 101, 100], .str [101, 118, 101, 110], .str [103, 114, 111, 119, 105, 110, 103], .str [107, 101, 112, 116], .str [109, 105, 120, 101, 100], .str [109, 111, 115, 116]]), ([111, 100, 100], .tup [.str [104, 101, 97, 114, 100], .str [109, 105, 120, 101, 100], .str [111, 114, 100, 101, 114], .str [112, 97, 114, 116, 115]])]
def tb_CHECKS (Γ : Cfg) : List (List Nat × D) := [([97, 103, 114, 101, 101, 100], .fn 33 (Γ.A 33)), ([101, 118, 101, 110], .fn 34 (Γ.A 34)), ([103, 114, 111, 119, 105, 110, 103], .fn 35 (Γ.A 35)), ([104, 101, 97, 114, 100], .fn 36 (Γ.A 36)), ([107, 101, 112, 116], .fn 37 (Γ.A 37)), ([109, 105, 120, 101, 100], .fn 38 (Γ.A 38)), ([109, 111, 115, 116], .fn 39 (Γ.A 39)), ([111, 114, 100, 101, 114], .fn 40 (Γ.A 40)), ([112, 97, 114, 116, 115], .fn 41 (Γ.A 41)), ([114, 101, 112, 101, 97, 116], .fn 42 (Γ.A 42))]
def tb_SIGN_OF : List (List Nat × D) := [([97, 108, 108, 111, 119], .str [43]), ([100, 101, 110, 121], .str [45])]
def tb_VOICE_OF : List (List Nat × D) := [([43], .str [97, 108, 108, 111, 119]), ([45], .str [100, 101, 110, 121])]
def ks_VOICE_OF : List (List Nat) := [[43], [45]]
noncomputable def B_allow_over (Γ : Cfg) : SM :=
  sRet (eIf (tV (e2 (op2 inD) (eC (.str [97, 108, 108, 111, 119])) (eV 0))) (eC (.str [97, 108, 108, 111, 119])) (eC (.str [100, 101, 110, 121])))
noncomputable def F_allow_over (Γ : Cfg) : List D → M D := runD 1 (B_allow_over Γ)
noncomputable def B_always_allow (Γ : Cfg) : SM :=
  sRet (eC (.str [97, 108, 108, 111, 119]))
noncomputable def F_always_allow (Γ : Cfg) : List D → M D := runD 1 (B_always_allow Γ)
noncomputable def B_always_deny (Γ : Cfg) : SM :=
  sRet (eC (.str [100, 101, 110, 121]))
noncomputable def F_always_deny (Γ : Cfg) : List D → M D := runD 1 (B_always_deny Γ)
noncomputable def B_both_ends_ways (Γ : Cfg) : SM :=
  sRet (eIf (tAnd (tV (e2 (op2 eqD) (e2 (op2 ixA) (eV 0) (eC (.int (0)))) (eC (.str [97, 108, 108, 111, 119])))) (tV (e2 (op2 eqD) (e2 (op2 ixA) (eV 0) (e1 (op1 negD) (eC (.int (1))))) (eC (.str [97, 108, 108, 111, 119]))))) (eC (.str [97, 108, 108, 111, 119])) (eC (.str [100, 101, 110, 121])))
noncomputable def F_both_ends_ways (Γ : Cfg) : List D → M D := runD 1 (B_both_ends_ways Γ)
noncomputable def B_deny_over (Γ : Cfg) : SM :=
  sRet (eIf (tV (e2 (op2 inD) (eC (.str [100, 101, 110, 121])) (eV 0))) (eC (.str [100, 101, 110, 121])) (eC (.str [97, 108, 108, 111, 119])))
noncomputable def F_deny_over (Γ : Cfg) : List D → M D := runD 1 (B_deny_over Γ)
noncomputable def B_first (Γ : Cfg) : SM :=
  sRet (e2 (op2 ixA) (eV 0) (eC (.int (0))))
noncomputable def F_first (Γ : Cfg) : List D → M D := runD 1 (B_first Γ)
noncomputable def B_stretches (Γ : Cfg) : SM :=
  sRet (eTupG 1 (iR1 (e1 (op1 lenD) (eV 0))) (tOr (tV (e2 (op2 eqD) (eV 1) (eC (.int (0))))) (tV (e2 (op2 neD) (e2 (op2 ixA) (eV 0) (eV 1)) (e2 (op2 ixA) (eV 0) (e2 (op2 subD) (eV 1) (eC (.int (1)))))))) (e2 (op2 ixA) (eV 0) (eV 1)))
noncomputable def F_stretches (Γ : Cfg) : List D → M D := runD 2 (B_stretches Γ)
noncomputable def B_island_ways (Γ : Cfg) : SM :=
  sRet (eIf (tV (e2 (op2 inD) (eCall (F_stretches Γ) [eV 0]) (eTup [eTup [eC (.str [97, 108, 108, 111, 119])], eTup [eC (.str [100, 101, 110, 121]), eC (.str [97, 108, 108, 111, 119]), eC (.str [100, 101, 110, 121])]]))) (eC (.str [97, 108, 108, 111, 119])) (eC (.str [100, 101, 110, 121])))
noncomputable def F_island_ways (Γ : Cfg) : List D → M D := runD 1 (B_island_ways Γ)
noncomputable def B_last (Γ : Cfg) : SM :=
  sRet (e2 (op2 ixA) (eV 0) (e1 (op1 negD) (eC (.int (1)))))
noncomputable def F_last (Γ : Cfg) : List D → M D := runD 1 (B_last Γ)
noncomputable def B_greater_voice (Γ : Cfg) : SM :=
  sSeq (sSet 1 (eTCount (eV 0) (eC (.str [97, 108, 108, 111, 119]))))
  (sSeq (sSet 2 (eTCount (eV 0) (eC (.str [100, 101, 110, 121]))))
  (sSeq (sIf (tV (e2 (op2 eqD) (eV 1) (eV 2))) (sRet (eC .non)) (sNil))
  (sRet (eIf (tV (e2 (op2 gtD) (eV 1) (eV 2))) (eC (.str [97, 108, 108, 111, 119])) (eC (.str [100, 101, 110, 121]))))))
noncomputable def F_greater_voice (Γ : Cfg) : List D → M D := runD 3 (B_greater_voice Γ)
noncomputable def B_most_or (Γ : Cfg) : SM :=
  sSeq (sSet 2 (eCall (F_greater_voice Γ) [eV 0]))
  (sRet (eIf (tV (e2 (op2 isD) (eV 2) (eC .non))) (eV 1) (eV 2)))
noncomputable def F_most_or (Γ : Cfg) : List D → M D := runD 3 (B_most_or Γ)
noncomputable def B_most_or_allow_ways (Γ : Cfg) : SM :=
  sRet (eCall (F_most_or Γ) [eV 0, eC (.str [97, 108, 108, 111, 119])])
noncomputable def F_most_or_allow_ways (Γ : Cfg) : List D → M D := runD 1 (B_most_or_allow_ways Γ)
noncomputable def B_most_or_deny_ways (Γ : Cfg) : SM :=
  sRet (eCall (F_most_or Γ) [eV 0, eC (.str [100, 101, 110, 121])])
noncomputable def F_most_or_deny_ways (Γ : Cfg) : List D → M D := runD 1 (B_most_or_deny_ways Γ)
noncomputable def B_most_or_first (Γ : Cfg) : SM :=
  sRet (eCall (F_most_or Γ) [eV 0, e2 (op2 ixA) (eV 0) (eC (.int (0)))])
noncomputable def F_most_or_first (Γ : Cfg) : List D → M D := runD 1 (B_most_or_first Γ)
noncomputable def B_most_or_last (Γ : Cfg) : SM :=
  sRet (eCall (F_most_or Γ) [eV 0, e2 (op2 ixA) (eV 0) (e1 (op1 negD) (eC (.int (1))))])
noncomputable def F_most_or_last (Γ : Cfg) : List D → M D := runD 1 (B_most_or_last Γ)
noncomputable def B_odd (Γ : Cfg) : SM :=
  sRet (eIf (tV (e2 (op2 eqD) (e2 (op2 modD) (eTCount (eV 0) (eC (.str [100, 101, 110, 121]))) (eC (.int (2)))) (eC (.int (1))))) (eC (.str [100, 101, 110, 121])) (eC (.str [97, 108, 108, 111, 119])))
noncomputable def F_odd (Γ : Cfg) : List D → M D := runD 1 (B_odd Γ)
noncomputable def B_all_rows (Γ : Cfg) : SM :=
  sRet (e2 (op2 shlD) (eC (.int (1))) (eV 0))
noncomputable def F_all_rows (Γ : Cfg) : List D → M D := runD 1 (B_all_rows Γ)
noncomputable def B_all_rows_but_one (Γ : Cfg) : SM :=
  sRet (e2 (op2 subD) (eCall (F_all_rows Γ) [eV 0]) (eC (.int (1))))
noncomputable def F_all_rows_but_one (Γ : Cfg) : List D → M D := runD 1 (B_all_rows_but_one Γ)
noncomputable def B_no_rows (Γ : Cfg) : SM :=
  sRet (eC (.int (0)))
noncomputable def F_no_rows (Γ : Cfg) : List D → M D := runD 1 (B_no_rows Γ)
noncomputable def B_both_ends (Γ : Cfg) : SM :=
  sRet (eIf (tV (e2 (op2 eqD) (eV 0) (eC (.int (1))))) (eC (.int (1))) (e2 (op2 shlD) (eC (.int (1))) (e2 (op2 subD) (eV 0) (eC (.int (2))))))
noncomputable def F_both_ends (Γ : Cfg) : List D → M D := runD 1 (B_both_ends Γ)
noncomputable def B_one_row (Γ : Cfg) : SM :=
  sRet (eC (.int (1)))
noncomputable def F_one_row (Γ : Cfg) : List D → M D := runD 1 (B_one_row Γ)
noncomputable def B_half_of_the_rows (Γ : Cfg) : SM :=
  sRet (e2 (op2 shlD) (eC (.int (1))) (e2 (op2 subD) (eV 0) (eC (.int (1)))))
noncomputable def F_half_of_the_rows (Γ : Cfg) : List D → M D := runD 1 (B_half_of_the_rows Γ)
noncomputable def B_island (Γ : Cfg) : SM :=
  sRet (e2 (op2 addD) (eC (.int (1))) (e2 (op2 combD) (e2 (op2 subD) (eV 0) (eC (.int (1)))) (eC (.int (2)))))
noncomputable def F_island (Γ : Cfg) : List D → M D := runD 1 (B_island Γ)
noncomputable def B_rows_with (Γ : Cfg) : SM :=
  sRet (eSumG 2 (iR2 (eV 1) (e2 (op2 addD) (eV 0) (eC (.int (1))))) (tYesD) (e2 (op2 combD) (eV 0) (eV 2)))
noncomputable def F_rows_with (Γ : Cfg) : List D → M D := runD 3 (B_rows_with Γ)
noncomputable def B_half (Γ : Cfg) : SM :=
  sRet (e2 (op2 fdivD) (e2 (op2 addD) (eV 0) (eC (.int (1)))) (eC (.int (2))))
noncomputable def F_half (Γ : Cfg) : List D → M D := runD 1 (B_half Γ)
noncomputable def B_most_or_allow (Γ : Cfg) : SM :=
  sRet (eCall (F_rows_with Γ) [eV 0, eCall (F_half Γ) [eV 0]])
noncomputable def F_most_or_allow (Γ : Cfg) : List D → M D := runD 1 (B_most_or_allow Γ)
noncomputable def B_more_than_half (Γ : Cfg) : SM :=
  sRet (e2 (op2 addD) (e2 (op2 fdivD) (eV 0) (eC (.int (2)))) (eC (.int (1))))
noncomputable def F_more_than_half (Γ : Cfg) : List D → M D := runD 1 (B_more_than_half Γ)
noncomputable def B_most_or_deny (Γ : Cfg) : SM :=
  sRet (eCall (F_rows_with Γ) [eV 0, eCall (F_more_than_half Γ) [eV 0]])
noncomputable def F_most_or_deny (Γ : Cfg) : List D → M D := runD 1 (B_most_or_deny Γ)
noncomputable def B_place_unless_overruled (Γ : Cfg) : SM :=
  sRet (eC (.int (2)))
noncomputable def F_place_unless_overruled (Γ : Cfg) : List D → M D := runD 2 (B_place_unless_overruled Γ)
noncomputable def B_place_never (Γ : Cfg) : SM :=
  sRet (eC (.int (0)))
noncomputable def F_place_never (Γ : Cfg) : List D → M D := runD 2 (B_place_never Γ)
noncomputable def B_place_both_ends (Γ : Cfg) : SM :=
  sSeq (sIf (tV (e2 (op2 notInD) (eV 1) (eTup [eC (.int (0)), e2 (op2 subD) (eV 0) (eC (.int (1)))]))) (sRet (eC (.int (0)))) (sNil))
  (sRet (eIf (tV (e2 (op2 eqD) (eV 0) (eC (.int (1))))) (eC (.int (2))) (e2 (op2 shlD) (eC (.int (1))) (e2 (op2 subD) (eV 0) (eC (.int (1)))))))
noncomputable def F_place_both_ends (Γ : Cfg) : List D → M D := runD 2 (B_place_both_ends Γ)
noncomputable def B_place_first (Γ : Cfg) : SM :=
  sRet (eIf (tV (e2 (op2 eqD) (eV 1) (eC (.int (0))))) (eCall (F_all_rows Γ) [eV 0]) (eC (.int (0))))
noncomputable def F_place_first (Γ : Cfg) : List D → M D := runD 2 (B_place_first Γ)
noncomputable def B_place_island (Γ : Cfg) : SM :=
  sSeq (sSet 2 (eIf (tV (eChain (op2 ltD) (op2 ltD) (eC (.int (0))) (eV 1) (e2 (op2 subD) (eV 0) (eC (.int (1)))))) (e2 (op2 subD) (eV 0) (eC (.int (3)))) (eC (.int (0)))))
  (sRet (e2 (op2 mulI) (eC (.int (2))) (e2 (op2 subD) (eCall (F_island Γ) [eV 0]) (e2 (op2 mulI) (eC (.int (2))) (eV 2)))))
noncomputable def F_place_island (Γ : Cfg) : List D → M D := runD 3 (B_place_island Γ)
noncomputable def B_place_last (Γ : Cfg) : SM :=
  sRet (eIf (tV (e2 (op2 eqD) (eV 1) (e2 (op2 subD) (eV 0) (eC (.int (1)))))) (eCall (F_all_rows Γ) [eV 0]) (eC (.int (0))))
noncomputable def F_place_last (Γ : Cfg) : List D → M D := runD 2 (B_place_last Γ)
noncomputable def B_rows_in_doubt (Γ : Cfg) : SM :=
  sRet (e2 (op2 mulI) (eC (.int (2))) (e2 (op2 combD) (e2 (op2 subD) (eV 0) (eC (.int (1)))) (e2 (op2 subD) (eV 1) (eC (.int (1))))))
noncomputable def F_rows_in_doubt (Γ : Cfg) : List D → M D := runD 2 (B_rows_in_doubt Γ)
noncomputable def B_place_most_or_allow (Γ : Cfg) : SM :=
  sRet (eCall (F_rows_in_doubt Γ) [eV 0, eCall (F_half Γ) [eV 0]])
noncomputable def F_place_most_or_allow (Γ : Cfg) : List D → M D := runD 2 (B_place_most_or_allow Γ)
noncomputable def B_place_most_or_deny (Γ : Cfg) : SM :=
  sRet (eCall (F_rows_in_doubt Γ) [eV 0, eCall (F_more_than_half Γ) [eV 0]])
noncomputable def F_place_most_or_deny (Γ : Cfg) : List D → M D := runD 2 (B_place_most_or_deny Γ)
noncomputable def B_place_most_or_first (Γ : Cfg) : SM :=
  sSeq (sSet 2 (eCall (F_half Γ) [eV 0]))
  (sSeq (sIf (tV (e2 (op2 eqD) (e2 (op2 modD) (eV 0) (eC (.int (2)))) (eC (.int (1))))) (sRet (eCall (F_rows_in_doubt Γ) [eV 0, eV 2])) (sNil))
  (sSeq (sIf (tV (e2 (op2 eqD) (eV 1) (eC (.int (0))))) (sRet (e2 (op2 mulI) (eC (.int (2))) (e2 (op2 combD) (eV 0) (eV 2)))) (sNil))
  (sRet (e2 (op2 mulI) (eC (.int (4))) (e2 (op2 combD) (e2 (op2 subD) (eV 0) (eC (.int (2)))) (eV 2))))))
noncomputable def F_place_most_or_first (Γ : Cfg) : List D → M D := runD 3 (B_place_most_or_first Γ)
noncomputable def B_place_most_or_last (Γ : Cfg) : SM :=
  sRet (eCall (F_place_most_or_first Γ) [eV 0, e2 (op2 subD) (e2 (op2 subD) (eV 0) (eC (.int (1)))) (eV 1)])
noncomputable def F_place_most_or_last (Γ : Cfg) : List D → M D := runD 2 (B_place_most_or_last Γ)
noncomputable def B_place_always (Γ : Cfg) : SM :=
  sRet (eCall (F_all_rows Γ) [eV 0])
noncomputable def F_place_always (Γ : Cfg) : List D → M D := runD 2 (B_place_always Γ)
noncomputable def B_turned (Γ : Cfg) : SM :=
  sRet (eIf (tV (e2 (op2 eqD) (eV 0) (eC (.str [97, 108, 108, 111, 119])))) (eC (.str [100, 101, 110, 121])) (eC (.str [97, 108, 108, 111, 119])))
noncomputable def F_turned (Γ : Cfg) : List D → M D := runD 1 (B_turned Γ)
noncomputable def B_turned_at (Γ : Cfg) : SM :=
  sRet (e2 (op2 addD) (e2 (op2 addD) (eSl (eV 0) pNo (pSo (eV 1))) (eTup [eCall (F_turned Γ) [e2 (op2 ixA) (eV 0) (eV 1)]])) (eSl (eV 0) (pSo (e2 (op2 addD) (eV 1) (eC (.int (1))))) pNo))
noncomputable def F_turned_at (Γ : Cfg) : List D → M D := runD 2 (B_turned_at Γ)
noncomputable def B_check_way (Γ : Cfg) : SM :=
  sIf (tV (e2 (op2 notInD) (eV 0) (eC w_WAYS))) (sRz Γ "BadWay") (sNil)
noncomputable def F_check_way (Γ : Cfg) : List D → M D := runD 1 (B_check_way Γ)
noncomputable def B_check_promise (Γ : Cfg) : SM :=
  sIf (tV (e2 (op2 notInD) (eV 0) (eC w_PROMISES))) (sRz Γ "BadPromise") (sNil)
noncomputable def F_check_promise (Γ : Cfg) : List D → M D := runD 1 (B_check_promise Γ)
noncomputable def B_first_wrong (Γ : Cfg) : SM :=
  sSeq (sForP 1 2 (iEn (eV 0)) (sIf (tV (e2 (op2 notInD) (eV 2) (eC w_VOICES))) (sRet (eV 1)) (sNil)))
  (sRet (eC .non))
noncomputable def F_first_wrong (Γ : Cfg) : List D → M D := runD 3 (B_first_wrong Γ)
noncomputable def B_check_row (Γ : Cfg) : SM :=
  sSeq (sIf (tOr (tNot (tV (e1 (op1 (isiD ["tuple"])) (eV 0)))) (tNot (tV (eChain (op2 leD) (op2 leD) (eC (.int (1))) (e1 (op1 lenD) (eV 0)) (eC (.int (12))))))) (sBad) (sNil))
  (sSeq (sSet 1 (eCall (F_first_wrong Γ) [eV 0]))
  (sIf (tV (e2 (op2 isNotD) (eV 1) (eC .non))) (sBad) (sNil)))
noncomputable def F_check_row (Γ : Cfg) : List D → M D := runD 2 (B_check_row Γ)
noncomputable def B_check_length (Γ : Cfg) : SM :=
  sSeq (sIf (tOr (tNot (tV (e1 (op1 (isiD ["int"])) (eV 0)))) (tV (e1 (op1 (isiD ["bool"])) (eV 0)))) (sRz Γ "BadNumber") (sNil))
  (sIf (tNot (tV (eChain (op2 leD) (op2 leD) (eC (.int (1))) (eV 0) (eC (.int (60)))))) (sRz Γ "BadNumber") (sNil))
noncomputable def F_check_length (Γ : Cfg) : List D → M D := runD 1 (B_check_length Γ)
noncomputable def fs_ANSWERS (Γ : Cfg) : Nat → Option (List D → M D)
  | 0 => some (F_allow_over Γ)
  | 1 => some (F_always_allow Γ)
  | 2 => some (F_always_deny Γ)
  | 3 => some (F_both_ends_ways Γ)
  | 4 => some (F_deny_over Γ)
  | 5 => some (F_first Γ)
  | 6 => some (F_island_ways Γ)
  | 7 => some (F_last Γ)
  | 8 => some (F_most_or_allow_ways Γ)
  | 9 => some (F_most_or_deny_ways Γ)
  | 10 => some (F_most_or_first Γ)
  | 11 => some (F_most_or_last Γ)
  | 12 => some (F_odd Γ)
  | _ => none
noncomputable def B_told_answer (Γ : Cfg) : SM :=
  sSeq (sSet 2 (e1 (op1 (tblD (tb_ANSWERS Γ))) (eV 0)))
  (sRet (eCallN Γ.A (fs_ANSWERS Γ) 2 [eV 1]))
noncomputable def F_told_answer (Γ : Cfg) : List D → M D := runD 3 (B_told_answer Γ)
noncomputable def B_answer (Γ : Cfg) : SM :=
  sSeq (sEx (eCall (F_check_way Γ) [eV 0]))
  (sSeq (sEx (eCall (F_check_row Γ) [eV 1]))
  (sRet (eCall (F_told_answer Γ) [eV 0, eV 1])))
noncomputable def F_answer (Γ : Cfg) : List D → M D := runD 2 (B_answer Γ)
noncomputable def B_matters (Γ : Cfg) : SM :=
  sSeq (sSet 2 (eCall (F_answer Γ) [eV 0, eV 1]))
  (sRet (eTupG 3 (iR1 (e1 (op1 lenD) (eV 1))) (tV (e2 (op2 neD) (eCall (F_told_answer Γ) [eV 0, eCall (F_turned_at Γ) [eV 1, eV 3]]) (eV 2))) (eV 3)))
noncomputable def F_matters (Γ : Cfg) : List D → M D := runD 4 (B_matters Γ)
noncomputable def fs_ALLOWED (Γ : Cfg) : Nat → Option (List D → M D)
  | 13 => some (F_all_rows_but_one Γ)
  | 14 => some (F_all_rows Γ)
  | 15 => some (F_no_rows Γ)
  | 16 => some (F_both_ends Γ)
  | 17 => some (F_one_row Γ)
  | 18 => some (F_half_of_the_rows Γ)
  | 19 => some (F_island Γ)
  | 20 => some (F_most_or_allow Γ)
  | 21 => some (F_most_or_deny Γ)
  | _ => none
noncomputable def B_count_allowed (Γ : Cfg) : SM :=
  sSeq (sEx (eCall (F_check_way Γ) [eV 0]))
  (sSeq (sEx (eCall (F_check_length Γ) [eV 1]))
  (sSeq (sSet 2 (e1 (op1 (tblD (tb_ALLOWED Γ))) (eV 0)))
  (sRet (eCallN Γ.A (fs_ALLOWED Γ) 2 [eV 1]))))
noncomputable def F_count_allowed (Γ : Cfg) : List D → M D := runD 3 (B_count_allowed Γ)
noncomputable def fs_MATTERS (Γ : Cfg) : Nat → Option (List D → M D)
  | 22 => some (F_place_unless_overruled Γ)
  | 23 => some (F_place_never Γ)
  | 24 => some (F_place_both_ends Γ)
  | 25 => some (F_place_first Γ)
  | 26 => some (F_place_island Γ)
  | 27 => some (F_place_last Γ)
  | 28 => some (F_place_most_or_allow Γ)
  | 29 => some (F_place_most_or_deny Γ)
  | 30 => some (F_place_most_or_first Γ)
  | 31 => some (F_place_most_or_last Γ)
  | 32 => some (F_place_always Γ)
  | _ => none
noncomputable def B_power (Γ : Cfg) : SM :=
  sSeq (sEx (eCall (F_check_way Γ) [eV 0]))
  (sSeq (sEx (eCall (F_check_length Γ) [eV 1]))
  (sSeq (sSet 2 (e1 (op1 (tblD (tb_MATTERS Γ))) (eV 0)))
  (sRet (eTupG 3 (iR1 (eV 1)) (tYesD) (eCallN Γ.A (fs_MATTERS Γ) 2 [eV 1, eV 3])))))
noncomputable def F_power (Γ : Cfg) : List D → M D := runD 4 (B_power Γ)
noncomputable def B_holds (Γ : Cfg) : SM :=
  sSeq (sEx (eCall (F_check_way Γ) [eV 0]))
  (sSeq (sEx (eCall (F_check_promise Γ) [eV 1]))
  (sRet (e2 (op2 inD) (eV 1) (e1 (op1 (tblD (tb_KEPT_BY))) (eV 0)))))
noncomputable def F_holds (Γ : Cfg) : List D → M D := runD 2 (B_holds Γ)
noncomputable def B_law_taken (Γ : Cfg) : SM :=
  sSeq (sIf (tV (e2 (op2 gtD) (eRowG 0 3) (eC (.int (0))))) (sSeq (sSet 2 (e2 (op2 modD) (e1 (op1 intD) (eRowG 0 3)) (eV 1)))
    (sSeq (sRow 0 3 (e2 (op2 fdivD) (eRowG 0 3) (eV 1)))
    (sRet (eV 2)))) (sNil))
  (sSeq (sRow 0 1 (e2 (op2 addD) (eRowG 0 1) (eC (.int (1)))))
  (sSeq (sIf (tV (e2 (op2 gtD) (eRowG 0 1) (eRowL 0))) (sSeq (sRow 0 2 (e2 (op2 modD) (e1 (op1 intD) (e2 (op2 addD) (e2 (op2 mulI) (eRowG 0 2) (eC (.int (48271)))) (eC (.int (11))))) (eC (.int (2147483647)))))
    (sRet (e2 (op2 modD) (e1 (op1 intD) (e2 (op2 fdivD) (eRowG 0 2) (eC (.int (7))))) (eV 1)))) (sNil))
  (sSeq (sSet 3 (eRowC 0 (e2 (op2 subD) (eRowG 0 1) (eC (.int (1))))))
  (sSeq (sRow 0 2 (e2 (op2 modD) (e1 (op1 intD) (e2 (op2 addD) (e2 (op2 addD) (e2 (op2 mulI) (eRowG 0 2) (eC (.int (48271)))) (eV 3)) (eC (.int (11))))) (eC (.int (2147483647)))))
  (sSeq (sIf (tV (e2 (op2 geD) (eV 3) (e2 (op2 powD) (eC (.int (10))) (eC (.int (18)))))) (sRow 0 3 (e2 (op2 fdivD) (eV 3) (eV 1))) (sNil))
  (sRet (e2 (op2 modD) (e1 (op1 intD) (eV 3)) (eV 1))))))))
noncomputable def F_law_taken (Γ : Cfg) : List D → M D := runD 4 (B_law_taken Γ)
noncomputable def B_law_pick (Γ : Cfg) : SM :=
  sRet (e2 (op2 ixA) (eV 1) (eCall (F_law_taken Γ) [eV 0, e1 (op1 lenD) (eV 1)]))
noncomputable def F_law_pick (Γ : Cfg) : List D → M D := runD 2 (B_law_pick Γ)
noncomputable def B_law_ways (Γ : Cfg) : SM :=
  sRet (eLst [eC (.str [97, 108, 108, 111, 119, 32, 111, 118, 101, 114]), eC (.str [97, 108, 119, 97, 121, 115, 32, 97, 108, 108, 111, 119]), eC (.str [97, 108, 119, 97, 121, 115, 32, 100, 101, 110, 121]), eC (.str [98, 111, 116, 104, 32, 101, 110, 100, 115]), eC (.str [100, 101, 110, 121, 32, 111, 118, 101, 114]), eC (.str [102, 105, 114, 115, 116]), eC (.str [105, 115, 108, 97, 110, 100]), eC (.str [108, 97, 115, 116]), eC (.str [109, 111, 115, 116, 32, 111, 114, 32, 97, 108, 108, 111, 119]), eC (.str [109, 111, 115, 116, 32, 111, 114, 32, 100, 101, 110, 121]), eC (.str [109, 111, 115, 116, 32, 111, 114, 32, 102, 105, 114, 115, 116]), eC (.str [109, 111, 115, 116, 32, 111, 114, 32, 108, 97, 115, 116]), eC (.str [111, 100, 100])])
noncomputable def F_law_ways (Γ : Cfg) : List D → M D := runD 0 (B_law_ways Γ)
noncomputable def B_law_promises (Γ : Cfg) : SM :=
  sRet (eLst [eC (.str [97, 103, 114, 101, 101, 100]), eC (.str [101, 118, 101, 110]), eC (.str [103, 114, 111, 119, 105, 110, 103]), eC (.str [104, 101, 97, 114, 100]), eC (.str [107, 101, 112, 116]), eC (.str [109, 105, 120, 101, 100]), eC (.str [109, 111, 115, 116]), eC (.str [111, 114, 100, 101, 114]), eC (.str [112, 97, 114, 116, 115]), eC (.str [114, 101, 112, 101, 97, 116])])
noncomputable def F_law_promises (Γ : Cfg) : List D → M D := runD 0 (B_law_promises Γ)
noncomputable def B_law_turned (Γ : Cfg) : SM :=
  sRet (eM1 joinD (eC (.str [])) (eLc 1 (iS (eV 0)) (tYesD) (eIf (tV (e2 (op2 eqD) (eV 1) (eC (.str [43])))) (eC (.str [45])) (eC (.str [43])))))
noncomputable def F_law_turned (Γ : Cfg) : List D → M D := runD 2 (B_law_turned Γ)
noncomputable def B_law_row (Γ : Cfg) : SM :=
  sRet (eM1 joinD (eC (.str [])) (eLc 2 (iR1 (e2 (op2 addD) (eC (.int (1))) (eCall (F_law_taken Γ) [eV 0, eV 1]))) (tYesD) (eCall (F_law_pick Γ) [eV 0, eLst [eC (.str [43]), eC (.str [45])]])))
noncomputable def F_law_row (Γ : Cfg) : List D → M D := runD 3 (B_law_row Γ)
noncomputable def B_law_word (Γ : Cfg) : SM :=
  sRet (e2 (op2 ixA) (eDisp [([43], eC (.str [97, 108, 108, 111, 119])), ([45], eC (.str [100, 101, 110, 121]))]) (eV 0))
noncomputable def F_law_word (Γ : Cfg) : List D → M D := runD 1 (B_law_word Γ)
noncomputable def B_law_voices (Γ : Cfg) : SM :=
  sRet (e1 (op1 tupD) (eLc 1 (iS (eV 0)) (tYesD) (eCall (F_law_word Γ) [eV 1])))
noncomputable def F_law_voices (Γ : Cfg) : List D → M D := runD 2 (B_law_voices Γ)
noncomputable def B_law_mirror (Γ : Cfg) : SM :=
  sSeq (sIf (tV (e2 (op2 inD) (eV 0) (eLst [eC (.str [102, 105, 114, 115, 116]), eC (.str [108, 97, 115, 116]), eC (.str [109, 111, 115, 116, 32, 111, 114, 32, 102, 105, 114, 115, 116]), eC (.str [109, 111, 115, 116, 32, 111, 114, 32, 108, 97, 115, 116])]))) (sRet (eV 0)) (sNil))
  (sSeq (sUn 1)
  (sSeq (sDispO 1 [([97, 108, 108, 111, 119, 32, 111, 118, 101, 114], eC (.str [100, 101, 110, 121, 32, 111, 118, 101, 114])), ([100, 101, 110, 121, 32, 111, 118, 101, 114], eC (.str [97, 108, 108, 111, 119, 32, 111, 118, 101, 114])), ([97, 108, 119, 97, 121, 115, 32, 97, 108, 108, 111, 119], eC (.str [97, 108, 119, 97, 121, 115, 32, 100, 101, 110, 121])), ([97, 108, 119, 97, 121, 115, 32, 100, 101, 110, 121], eC (.str [97, 108, 119, 97, 121, 115, 32, 97, 108, 108, 111, 119]))])
  (sSeq (sPut2O 1 [109, 111, 115, 116, 32, 111, 114, 32, 97, 108, 108, 111, 119] [109, 111, 115, 116, 32, 111, 114, 32, 100, 101, 110, 121] (eC (.str [109, 111, 115, 116, 32, 111, 114, 32, 100, 101, 110, 121])) (eC (.str [109, 111, 115, 116, 32, 111, 114, 32, 97, 108, 108, 111, 119])))
  (sRet (eFrz 1 (eGet1 1 (eV 0)))))))
noncomputable def F_law_mirror (Γ : Cfg) : List D → M D := runD 2 (B_law_mirror Γ)
noncomputable def B_law_back (Γ : Cfg) : SM :=
  sSeq (sSet 1 (eDisp [([102, 105, 114, 115, 116], eC (.str [108, 97, 115, 116])), ([108, 97, 115, 116], eC (.str [102, 105, 114, 115, 116])), ([109, 111, 115, 116, 32, 111, 114, 32, 102, 105, 114, 115, 116], eC (.str [109, 111, 115, 116, 32, 111, 114, 32, 108, 97, 115, 116])), ([109, 111, 115, 116, 32, 111, 114, 32, 108, 97, 115, 116], eC (.str [109, 111, 115, 116, 32, 111, 114, 32, 102, 105, 114, 115, 116]))]))
  (sRet (eGet2 1 (eV 0) (eV 0)))
noncomputable def F_law_back (Γ : Cfg) : List D → M D := runD 2 (B_law_back Γ)
noncomputable def B_ways (Γ : Cfg) : SM :=
  sRet (eC w_WAYS)
noncomputable def F_ways (Γ : Cfg) : List D → M D := runD 0 (B_ways Γ)
noncomputable def B_law_alike (Γ : Cfg) (FR : List D → M D) : SM :=
  sSeq (sIf (tV (e1 (op1 (isiD ["tuple", "list"])) (eV 1))) (sSeq (sIf (tOr (tNot (tV (e1 (op1 (isiD ["tuple", "list"])) (eV 0)))) (tV (e2 (op2 neD) (e1 (op1 (isiD ["list"])) (eV 0)) (e1 (op1 (isiD ["list"])) (eV 1))))) (sRet (eC (.bl false))) (sNil))
    (sSeq (sIf (tV (e2 (op2 neD) (e1 (op1 lenD) (eV 0)) (e1 (op1 lenD) (eV 1)))) (sRet (eC (.bl false))) (sNil))
    (sRet (e2 (op2 eqD) (eLc 2 (iR1 (e1 (op1 lenD) (eV 1))) (tNot (tV (eCall FR [e2 (op2 ixA) (eV 0) (eV 2), e2 (op2 ixA) (eV 1) (eV 2)]))) (eV 2)) (eLst []))))) (sNil))
  (sSeq (sIf (tOr (tV (e2 (op2 isD) (eV 1) (eC .non))) (tV (e1 (op1 (isiD ["str"])) (eV 1)))) (sRet (eAnd (e2 (op2 eqD) (eV 0) (eV 1)) (e2 (op2 eqD) (e1 (op1 (isiD ["str"])) (eV 0)) (e1 (op1 (isiD ["str"])) (eV 1))))) (sNil))
  (sRet (eAnd (e1 (op1 (isiD ["int"])) (eV 0)) (eAnd (e2 (op2 eqD) (e1 (op1 (isiD ["bool"])) (eV 0)) (e1 (op1 (isiD ["bool"])) (eV 1))) (e2 (op2 eqD) (eV 0) (eV 1))))))
noncomputable def F_law_alike (Γ : Cfg) : Nat → List D → M D
  | 0 => fun _ => mbad
  | n + 1 => runD 3 (B_law_alike Γ (F_law_alike Γ n))
noncomputable def B_law_answer (Γ : Cfg) : SM :=
  sSeq (sSet 2 (e2 (op2 subD) (eM1 countS (eV 1) (eC (.str [43]))) (eM1 countS (eV 1) (eC (.str [45])))))
  (sSeq (sIf (tV (e2 (op2 eqD) (eSl (eV 0) pNo (pSo (eC (.int (7))))) (eC (.str [109, 111, 115, 116, 32, 111, 114])))) (sSeq (sSet 3 (eDisp [([97, 108, 108, 111, 119], eC (.str [43])), ([100, 101, 110, 121], eC (.str [45])), ([102, 105, 114, 115, 116], e2 (op2 ixA) (eV 1) (eC (.int (0)))), ([108, 97, 115, 116], e2 (op2 ixA) (eV 1) (e1 (op1 negD) (eC (.int (1)))))]))
    (sRet (eIf (tV (e2 (op2 eqD) (eV 2) (eC (.int (0))))) (e2 (op2 ixA) (eV 3) (eSl (eV 0) (pSo (eC (.int (8)))) pNo)) (eIf (tV (e2 (op2 gtD) (eV 2) (eC (.int (0))))) (eC (.str [43])) (eC (.str [45])))))) (sNil))
  (sSeq (sIf (tV (e2 (op2 inD) (eV 0) (eLst [eC (.str [102, 105, 114, 115, 116]), eC (.str [108, 97, 115, 116])]))) (sRet (e2 (op2 ixA) (eV 1) (eIf (tV (e2 (op2 eqD) (eV 0) (eC (.str [102, 105, 114, 115, 116])))) (eC (.int (0))) (e2 (op2 subD) (e1 (op1 lenD) (eV 1)) (eC (.int (1))))))) (sNil))
  (sSeq (sSet 4 (e2 (op2 eqD) (eV 0) (eC (.str [97, 108, 119, 97, 121, 115, 32, 97, 108, 108, 111, 119]))))
  (sSeq (sIf (tV (e2 (op2 eqD) (eV 0) (eC (.str [97, 108, 108, 111, 119, 32, 111, 118, 101, 114])))) (sSet 4 (e2 (op2 gtD) (eM1 countS (eV 1) (eC (.str [43]))) (eC (.int (0))))) (sNil))
  (sSeq (sIf (tV (e2 (op2 eqD) (eV 0) (eC (.str [100, 101, 110, 121, 32, 111, 118, 101, 114])))) (sSet 4 (e2 (op2 eqD) (eM1 countS (eV 1) (eC (.str [45]))) (eC (.int (0))))) (sNil))
  (sSeq (sIf (tV (e2 (op2 eqD) (eV 0) (eC (.str [111, 100, 100])))) (sSet 4 (e2 (op2 inD) (eM1 countS (eV 1) (eC (.str [45]))) (eLst [eC (.int (0)), eC (.int (2)), eC (.int (4)), eC (.int (6)), eC (.int (8)), eC (.int (10)), eC (.int (12))]))) (sNil))
  (sSeq (sIf (tV (e2 (op2 eqD) (eV 0) (eC (.str [98, 111, 116, 104, 32, 101, 110, 100, 115])))) (sSet 4 (e2 (op2 eqD) (e2 (op2 addD) (eSl (eV 1) pNo (pSo (eC (.int (1))))) (eSl (eV 1) (pSo (e1 (op1 negD) (eC (.int (1))))) pNo)) (eC (.str [43, 43])))) (sNil))
  (sSeq (sIf (tV (e2 (op2 eqD) (eV 0) (eC (.str [105, 115, 108, 97, 110, 100])))) (sSeq (sSet 5 (eLc 6 (iR2 (eC (.int (1))) (e1 (op1 lenD) (eV 1))) (tV (e2 (op2 neD) (e2 (op2 ixA) (eV 1) (eV 6)) (e2 (op2 ixA) (eV 1) (e2 (op2 subD) (eV 6) (eC (.int (1))))))) (eV 6)))
    (sSet 4 (eOr (eAnd (e2 (op2 eqD) (e2 (op2 ixA) (eV 1) (eC (.int (0)))) (eC (.str [43]))) (e2 (op2 eqD) (eV 5) (eLst []))) (eAnd (e2 (op2 eqD) (e2 (op2 ixA) (eV 1) (eC (.int (0)))) (eC (.str [45]))) (e2 (op2 eqD) (e1 (op1 lenD) (eV 5)) (eC (.int (2)))))))) (sNil))
  (sRet (eIf (tV (eV 4)) (eC (.str [43])) (eC (.str [45]))))))))))))
noncomputable def F_law_answer (Γ : Cfg) : List D → M D := runD 7 (B_law_answer Γ)
noncomputable def B_law_flip (Γ : Cfg) : SM :=
  sRet (e2 (op2 addD) (e2 (op2 addD) (eSl (eV 0) pNo (pSo (eV 1))) (eCall (F_law_turned Γ) [e2 (op2 ixA) (eV 0) (eV 1)])) (eSl (eV 0) (pSo (e2 (op2 addD) (eV 1) (eC (.int (1))))) pNo))
noncomputable def F_law_flip (Γ : Cfg) : List D → M D := runD 2 (B_law_flip Γ)
noncomputable def B_law_rows (Γ : Cfg) : SM :=
  sSeq (sSet 1 (eLst [eC (.str [])]))
  (sSeq (sFor 2 (iR1 (eV 0)) (sSeq (sSet 3 (eLst []))
    (sSeq (sFor 4 (iS (eV 1)) (sSet 3 (e2 (op2 addD) (eV 3) (eLst [e2 (op2 addD) (eV 4) (eC (.str [43])), e2 (op2 addD) (eV 4) (eC (.str [45]))]))))
    (sSet 1 (eV 3)))))
  (sRet (eV 1)))
noncomputable def F_law_rows (Γ : Cfg) : List D → M D := runD 5 (B_law_rows Γ)
noncomputable def B_agreed (Γ : Cfg) : SM :=
  sRet (eStopG false 1 (iKT (eV 0)) (tV (e2 (op2 eqD) (eTCount (eV 1) (e2 (op2 ixA) (eV 1) (eC (.int (0))))) (e1 (op1 lenD) (eV 1)))) (e2 (op2 eqD) (e2 (op2 (ixT Γ.hs)) (eV 0) (eV 1)) (e2 (op2 ixA) (eV 1) (eC (.int (0))))))
noncomputable def F_agreed (Γ : Cfg) : List D → M D := runD 2 (B_agreed Γ)
noncomputable def B_turned_row (Γ : Cfg) : SM :=
  sRet (eTupG 1 (iS (eV 0)) (tYesD) (eCall (F_turned Γ) [eV 1]))
noncomputable def F_turned_row (Γ : Cfg) : List D → M D := runD 2 (B_turned_row Γ)
noncomputable def B_even (Γ : Cfg) : SM :=
  sRet (eStopG false 1 (iKT (eV 0)) (tYesD) (e2 (op2 eqD) (e2 (op2 (ixT Γ.hs)) (eV 0) (eCall (F_turned_row Γ) [eV 1])) (eCall (F_turned Γ) [e2 (op2 (ixT Γ.hs)) (eV 0) (eV 1)])))
noncomputable def F_even (Γ : Cfg) : List D → M D := runD 2 (B_even Γ)
noncomputable def B_growing (Γ : Cfg) : SM :=
  sSeq (sFor 1 (iKT (eV 0)) (sForP 2 3 (iEn (eV 1)) (sIf (tAnd (tV (e2 (op2 eqD) (eV 3) (eC (.str [100, 101, 110, 121])))) (tAnd (tV (e2 (op2 eqD) (e2 (op2 (ixT Γ.hs)) (eV 0) (eV 1)) (eC (.str [97, 108, 108, 111, 119])))) (tV (e2 (op2 eqD) (e2 (op2 (ixT Γ.hs)) (eV 0) (eCall (F_turned_at Γ) [eV 1, eV 2])) (eC (.str [100, 101, 110, 121])))))) (sRet (eC (.bl false))) (sNil))))
  (sRet (eC (.bl true)))
noncomputable def F_growing (Γ : Cfg) : List D → M D := runD 4 (B_growing Γ)
noncomputable def B_heard (Γ : Cfg) : SM :=
  sSeq (sSet 1 (eSc2 Γ.sp 3 4 (iKT (eV 0)) (iR1 (e1 (op1 lenD) (eV 3))) (tYesD) (eTup [e1 (op1 lenD) (eV 3), eV 4])))
  (sSeq (sSet 2 (eSc2 Γ.sp 3 4 (iKT (eV 0)) (iR1 (e1 (op1 lenD) (eV 3))) (tV (e2 (op2 neD) (e2 (op2 (ixT Γ.hs)) (eV 0) (eV 3)) (e2 (op2 (ixT Γ.hs)) (eV 0) (eCall (F_turned_at Γ) [eV 3, eV 4])))) (eTup [e1 (op1 lenD) (eV 3), eV 4])))
  (sRet (e2 (op2 (eqSt Γ.sp)) (eV 1) (eV 2))))
noncomputable def F_heard (Γ : Cfg) : List D → M D := runD 5 (B_heard Γ)
noncomputable def B_kept (Γ : Cfg) : SM :=
  sSeq (sFor 1 (iKT (eV 0)) (sFor 2 (iR1 (e2 (op2 addD) (e1 (op1 lenD) (eV 1)) (eC (.int (1))))) (sSeq (sSet 3 (e2 (op2 addD) (e2 (op2 addD) (eSl (eV 1) pNo (pSo (eV 2))) (eTup [e2 (op2 (ixT Γ.hs)) (eV 0) (eV 1)])) (eSl (eV 1) (pSo (eV 2)) pNo)))
      (sIf (tAnd (tV (e2 (op2 (inT Γ.hs)) (eV 3) (eV 0))) (tV (e2 (op2 neD) (e2 (op2 (ixT Γ.hs)) (eV 0) (eV 3)) (e2 (op2 (ixT Γ.hs)) (eV 0) (eV 1))))) (sRet (eC (.bl false))) (sNil)))))
  (sRet (eC (.bl true)))
noncomputable def F_kept (Γ : Cfg) : List D → M D := runD 4 (B_kept Γ)
noncomputable def B_mixed (Γ : Cfg) : SM :=
  sSeq (sIf (tV (e2 (op2 ltD) (e1 (op1 (lenT Γ.hs)) (eV 0)) (e1 (op1 lenD) (eC w_SMALL_ROWS)))) (sRet (eC (.bl true))) (sNil))
  (sSeq (sSet 1 (eLc 2 (iKT (eV 0)) (tAnd (tV (e2 (op2 inD) (eC (.str [97, 108, 108, 111, 119])) (eV 2))) (tV (e2 (op2 inD) (eC (.str [100, 101, 110, 121])) (eV 2)))) (e2 (op2 (ixT Γ.hs)) (eV 0) (eV 2))))
  (sRet (eAnd (e2 (op2 inD) (eC (.str [97, 108, 108, 111, 119])) (eV 1)) (e2 (op2 inD) (eC (.str [100, 101, 110, 121])) (eV 1)))))
noncomputable def F_mixed (Γ : Cfg) : List D → M D := runD 3 (B_mixed Γ)
noncomputable def B_most (Γ : Cfg) : SM :=
  sRet (eStopG false 1 (iKT (eV 0)) (tYesD) (e2 (op2 inD) (eCall (F_greater_voice Γ) [eV 1]) (eTup [eC .non, e2 (op2 (ixT Γ.hs)) (eV 0) (eV 1)])))
noncomputable def F_most (Γ : Cfg) : List D → M D := runD 2 (B_most Γ)
noncomputable def B_order (Γ : Cfg) : SM :=
  sSeq (sFor 1 (iKT (eV 0)) (sFor 2 (iR1 (e2 (op2 subD) (e1 (op1 lenD) (eV 1)) (eC (.int (1))))) (sSeq (sSet 3 (e2 (op2 addD) (e2 (op2 addD) (eSl (eV 1) pNo (pSo (eV 2))) (eTup [e2 (op2 ixA) (eV 1) (e2 (op2 addD) (eV 2) (eC (.int (1)))), e2 (op2 ixA) (eV 1) (eV 2)])) (eSl (eV 1) (pSo (e2 (op2 addD) (eV 2) (eC (.int (2))))) pNo)))
      (sIf (tV (e2 (op2 neD) (e2 (op2 (ixT Γ.hs)) (eV 0) (eV 3)) (e2 (op2 (ixT Γ.hs)) (eV 0) (eV 1)))) (sRet (eC (.bl false))) (sNil)))))
  (sRet (eC (.bl true)))
noncomputable def F_order (Γ : Cfg) : List D → M D := runD 4 (B_order Γ)
noncomputable def B_parts (Γ : Cfg) : SM :=
  sSeq (sFor 1 (iKT (eV 0)) (sFor 2 (iR2 (eC (.int (1))) (e1 (op1 lenD) (eV 1))) (sIf (tV (e2 (op2 neD) (e2 (op2 (ixT Γ.hs)) (eV 0) (eV 1)) (e2 (op2 (ixT Γ.hs)) (eV 0) (eTup [e2 (op2 (ixT Γ.hs)) (eV 0) (eSl (eV 1) pNo (pSo (eV 2))), e2 (op2 (ixT Γ.hs)) (eV 0) (eSl (eV 1) (pSo (eV 2)) pNo)])))) (sRet (eC (.bl false))) (sNil))))
  (sRet (eC (.bl true)))
noncomputable def F_parts (Γ : Cfg) : List D → M D := runD 3 (B_parts Γ)
noncomputable def B_repeat (Γ : Cfg) : SM :=
  sSeq (sFor 1 (iKT (eV 0)) (sFor 2 (iR2 (eC (.int (1))) (e1 (op1 lenD) (eV 1))) (sSeq (sSet 3 (e2 (op2 addD) (eSl (eV 1) pNo (pSo (eV 2))) (eSl (eV 1) (pSo (e2 (op2 addD) (eV 2) (eC (.int (1))))) pNo)))
      (sIf (tAnd (tV (e2 (op2 eqD) (e2 (op2 ixA) (eV 1) (eV 2)) (e2 (op2 ixA) (eV 1) (e2 (op2 subD) (eV 2) (eC (.int (1))))))) (tV (e2 (op2 neD) (e2 (op2 (ixT Γ.hs)) (eV 0) (eV 1)) (e2 (op2 (ixT Γ.hs)) (eV 0) (eV 3))))) (sRet (eC (.bl false))) (sNil)))))
  (sRet (eC (.bl true)))
noncomputable def F_repeat (Γ : Cfg) : List D → M D := runD 4 (B_repeat Γ)
noncomputable def B_check_table (Γ : Cfg) : SM :=
  sSeq (sIf (tOr (tNot (tV (e1 (op1 (isiD ["tuple"])) (eV 0)))) (tV (e2 (op2 neD) (e1 (op1 lenD) (eV 0)) (e1 (op1 lenD) (eC w_SMALL_ROWS))))) (sBad) (sNil))
  (sSeq (sSet 1 (eCall (F_first_wrong Γ) [eV 0]))
  (sIf (tV (e2 (op2 isNotD) (eV 1) (eC .non))) (sBad) (sNil)))
noncomputable def F_check_table (Γ : Cfg) : List D → M D := runD 2 (B_check_table Γ)
noncomputable def B_promises (Γ : Cfg) : SM :=
  sRet (eC w_PROMISES)
noncomputable def F_promises (Γ : Cfg) : List D → M D := runD 0 (B_promises Γ)
noncomputable def fs_CHECKS (Γ : Cfg) : Nat → Option (List D → M D)
  | 33 => if Γ.ck 33 then some (F_agreed Γ) else none
  | 34 => if Γ.ck 34 then some (F_even Γ) else none
  | 35 => if Γ.ck 35 then some (F_growing Γ) else none
  | 36 => if Γ.ck 36 then some (F_heard Γ) else none
  | 37 => if Γ.ck 37 then some (F_kept Γ) else none
  | 38 => if Γ.ck 38 then some (F_mixed Γ) else none
  | 39 => if Γ.ck 39 then some (F_most Γ) else none
  | 40 => if Γ.ck 40 then some (F_order Γ) else none
  | 41 => if Γ.ck 41 then some (F_parts Γ) else none
  | 42 => if Γ.ck 42 then some (F_repeat Γ) else none
  | _ => none
noncomputable def B_keeps_all (Γ : Cfg) : SM :=
  sSeq (sSet 2 (eDz Γ.hs 5 6 (iZp (eC w_SMALL_ROWS) (eV 0))))
  (sSeq (sFor 3 (iS (eV 1)) (sSeq (sSet 4 (e1 (op1 (tblD (tb_CHECKS Γ))) (eV 3)))
    (sIf (tNot (tV (eCallN Γ.A (fs_CHECKS Γ) 4 [eV 2]))) (sRet (eC (.bl false))) (sNil))))
  (sRet (eC (.bl true))))
noncomputable def F_keeps_all (Γ : Cfg) : List D → M D := runD 7 (B_keeps_all Γ)
noncomputable def B_keeps (Γ : Cfg) : SM :=
  sSeq (sEx (eCall (F_check_table Γ) [eV 0]))
  (sSeq (sEx (eCall (F_check_promise Γ) [eV 1]))
  (sRet (eCall (F_keeps_all Γ) [eV 0, eTup [eV 1]])))
noncomputable def F_keeps (Γ : Cfg) : List D → M D := runD 2 (B_keeps Γ)
noncomputable def B_table_of (Γ : Cfg) : SM :=
  sSeq (sEx (eCall (F_check_way Γ) [eV 0]))
  (sRet (eTupG 1 (iS (eC w_SMALL_ROWS)) (tYesD) (eCall (F_told_answer Γ) [eV 0, eV 1])))
noncomputable def F_table_of (Γ : Cfg) : List D → M D := runD 2 (B_table_of Γ)
noncomputable def B_law_is (Γ : Cfg) : SM :=
  sRet (eAnd (e1 (op1 (isiD ["bool"])) (eV 0)) (e2 (op2 eqD) (eV 0) (eV 1)))
noncomputable def F_law_is (Γ : Cfg) : List D → M D := runD 2 (B_law_is Γ)
noncomputable def B_law_short (Γ : Cfg) : SM :=
  sSeq (sSet 1 (eLst []))
  (sSeq (sFor 2 (iR2 (eC (.int (1))) (e2 (op2 addD) (eV 0) (eC (.int (1))))) (sSet 1 (e2 (op2 addD) (eV 1) (eCall (F_law_rows Γ) [eV 2]))))
  (sRet (eV 1)))
noncomputable def F_law_short (Γ : Cfg) : List D → M D := runD 3 (B_law_short Γ)
noncomputable def B_law_torn (Γ : Cfg) : SM :=
  sSeq (sPar3 3 4 5 (e2 (op2 ixA) (eV 0) (eV 2)) (eLstR (e1 (op1 lenD) (eV 2))) (e2 (op2 subD) (eM1 countS (eV 2) (eC (.str [43]))) (eM1 countS (eV 2) (eC (.str [45])))))
  (sSeq (sIf (tV (e2 (op2 eqD) (eV 1) (eC (.str [97, 103, 114, 101, 101, 100])))) (sRet (eAnd (e2 (op2 eqD) (eV 2) (e2 (op2 mulT) (e2 (op2 ixA) (eV 2) (eC (.int (0)))) (e1 (op1 lenD) (eV 2)))) (e2 (op2 neD) (eV 3) (e2 (op2 ixA) (eV 2) (eC (.int (0))))))) (sNil))
  (sSeq (sIf (tV (e2 (op2 eqD) (eV 1) (eC (.str [101, 118, 101, 110])))) (sRet (e2 (op2 eqD) (e2 (op2 ixA) (eV 0) (eCall (F_law_turned Γ) [eV 2])) (eV 3))) (sNil))
  (sSeq (sIf (tV (e2 (op2 eqD) (eV 1) (eC (.str [103, 114, 111, 119, 105, 110, 103])))) (sRet (eAnd (e2 (op2 eqD) (eV 3) (eC (.str [43]))) (e2 (op2 neD) (eLc 6 (iS (eV 4)) (tAnd (tV (e2 (op2 eqD) (e2 (op2 ixA) (eV 2) (eV 6)) (eC (.str [45])))) (tV (e2 (op2 eqD) (e2 (op2 ixA) (eV 0) (eCall (F_law_flip Γ) [eV 2, eV 6])) (eC (.str [45]))))) (eV 6)) (eLst [])))) (sNil))
  (sSeq (sIf (tV (e2 (op2 eqD) (eV 1) (eC (.str [109, 111, 115, 116])))) (sRet (eAnd (e2 (op2 neD) (eV 5) (eC (.int (0)))) (e2 (op2 neD) (eV 3) (eIf (tV (e2 (op2 gtD) (eV 5) (eC (.int (0))))) (eC (.str [43])) (eC (.str [45])))))) (sNil))
  (sSeq (sIf (tV (e2 (op2 eqD) (eV 1) (eC (.str [111, 114, 100, 101, 114])))) (sRet (e2 (op2 neD) (eLc 6 (iS (eSl (eV 4) (pSo (eC (.int (1)))) pNo)) (tV (e2 (op2 neD) (e2 (op2 ixA) (eV 0) (e2 (op2 addD) (e2 (op2 addD) (e2 (op2 addD) (eSl (eV 2) pNo (pSo (e2 (op2 subD) (eV 6) (eC (.int (1)))))) (e2 (op2 ixA) (eV 2) (eV 6))) (e2 (op2 ixA) (eV 2) (e2 (op2 subD) (eV 6) (eC (.int (1)))))) (eSl (eV 2) (pSo (e2 (op2 addD) (eV 6) (eC (.int (1))))) pNo))) (eV 3))) (eV 6)) (eLst []))) (sNil))
  (sSeq (sIf (tV (e2 (op2 eqD) (eV 1) (eC (.str [112, 97, 114, 116, 115])))) (sRet (e2 (op2 neD) (eLc 6 (iS (eSl (eV 4) (pSo (eC (.int (1)))) pNo)) (tV (e2 (op2 neD) (e2 (op2 ixA) (eV 0) (e2 (op2 addD) (e2 (op2 ixA) (eV 0) (eSl (eV 2) pNo (pSo (eV 6)))) (e2 (op2 ixA) (eV 0) (eSl (eV 2) (pSo (eV 6)) pNo)))) (eV 3))) (eV 6)) (eLst []))) (sNil))
  (sSeq (sIf (tV (e2 (op2 eqD) (eV 1) (eC (.str [114, 101, 112, 101, 97, 116])))) (sRet (e2 (op2 neD) (eLc 6 (iS (eV 4)) (tV (e2 (op2 neD) (eGet2 0 (e2 (op2 addD) (e2 (op2 addD) (eSl (eV 2) pNo (pSo (eV 6))) (e2 (op2 ixA) (eV 2) (eV 6))) (eSl (eV 2) (pSo (eV 6)) pNo)) (eV 3)) (eV 3))) (eV 6)) (eLst []))) (sNil))
  (sRet (e2 (op2 neD) (eLc 6 (iS (e2 (op2 addD) (eV 4) (eLst [e1 (op1 lenD) (eV 2)]))) (tV (e2 (op2 neD) (eGet2 0 (e2 (op2 addD) (e2 (op2 addD) (eSl (eV 2) pNo (pSo (eV 6))) (eV 3)) (eSl (eV 2) (pSo (eV 6)) pNo)) (eV 3)) (eV 3))) (eV 6)) (eLst []))))))))))
noncomputable def F_law_torn (Γ : Cfg) : List D → M D := runD 7 (B_law_torn Γ)
noncomputable def B_law_deaf (Γ : Cfg) : SM :=
  sSeq (sSet 2 (eCall (F_law_rows Γ) [eV 1]))
  (sRet (e2 (op2 neD) (eLc 3 (iR1 (eV 1)) (tV (e2 (op2 eqD) (eLc 4 (iS (eV 2)) (tV (e2 (op2 neD) (e2 (op2 ixA) (eV 0) (eV 4)) (e2 (op2 ixA) (eV 0) (eCall (F_law_flip Γ) [eV 4, eV 3])))) (eV 4)) (eLst []))) (eV 3)) (eLst [])))
noncomputable def F_law_deaf (Γ : Cfg) : List D → M D := runD 5 (B_law_deaf Γ)
noncomputable def B_law_fine (Γ : Cfg) : SM :=
  sSeq (sIf (tV (e2 (op2 eqD) (eV 1) (eC (.str [104, 101, 97, 114, 100])))) (sRet (e2 (op2 eqD) (eLc 4 (iR2 (eC (.int (1))) (e2 (op2 addD) (eV 2) (eC (.int (1))))) (tV (eCall (F_law_deaf Γ) [eV 0, eV 4])) (eV 4)) (eLst []))) (sNil))
  (sSeq (sSet 3 (eCall (F_law_short Γ) [eV 2]))
  (sSeq (sIf (tV (e2 (op2 eqD) (eV 1) (eC (.str [109, 105, 120, 101, 100])))) (sRet (e2 (op2 eqD) (e1 (op1 lenSetD) (eLc 5 (iS (eV 3)) (tV (e2 (op2 eqD) (e1 (op1 lenSetD) (eV 5)) (eC (.int (2))))) (e2 (op2 ixA) (eV 0) (eV 5)))) (eC (.int (2))))) (sNil))
  (sRet (e2 (op2 eqD) (eLc 5 (iS (eV 3)) (tV (eCall (F_law_torn Γ) [eV 0, eV 1, eV 5])) (eV 5)) (eLst [])))))
noncomputable def F_law_fine (Γ : Cfg) : List D → M D := runD 6 (B_law_fine Γ)
noncomputable def B_law_table (Γ : Cfg) : SM :=
  sSeq (sUn 1)
  (sSeq (sNewP 1 2 (eCall (F_law_pick Γ) [eV 0, eCall (F_law_ways Γ) []]))
  (sSeq (sSet 3 (eCall (F_law_taken Γ) [eV 0, eC (.int (3))]))
  (sSeq (sFor 4 (iS (eCall (F_law_short Γ) [eC (.int (3))])) (sPutO 1 (eV 4) (eIf (tV (e2 (op2 eqD) (eV 3) (eC (.int (2))))) (eCall (F_law_pick Γ) [eV 0, eLst [eC (.str [43]), eC (.str [45])]]) (eCall (F_law_answer Γ) [eV 2, eV 4]))))
  (sSeq (sSet 5 (eCall (F_law_pick Γ) [eV 0, eCall (F_law_short Γ) [eC (.int (3))]]))
  (sSeq (sPutO 1 (eV 5) (eFrz 1 (eIf (tV (e2 (op2 eqD) (eV 3) (eC (.int (1))))) (eCall (F_law_turned Γ) [e2 (op2 ixA) (eV 1) (eV 5)]) (e2 (op2 ixA) (eV 1) (eV 5)))))
  (sSeq (sUn 1)
  (sRet (eV 1))))))))
noncomputable def F_law_table (Γ : Cfg) : List D → M D := runD 6 (B_law_table Γ)
noncomputable def A_law_table (Γ : Cfg) : SM :=
  sSeq (sNewP 1 2 (eCall (F_law_pick Γ) [eV 0, eCall (F_law_ways Γ) []]))
  (sSeq (sSet 3 (eCall (F_law_taken Γ) [eV 0, eC (.int (3))]))
  (sSeq (sFor 4 (iS (eCall (F_law_short Γ) [eC (.int (3))])) (sPutO 1 (eV 4) (eIf (tV (e2 (op2 eqD) (eV 3) (eC (.int (2))))) (eCall (F_law_pick Γ) [eV 0, eLst [eC (.str [43]), eC (.str [45])]]) (eCall (F_law_answer Γ) [eV 2, eV 4]))))
  (sSeq (sSet 5 (eCall (F_law_pick Γ) [eV 0, eCall (F_law_short Γ) [eC (.int (3))]]))
  (sSeq (sPutO 1 (eV 5) (eFrz 1 (eIf (tV (e2 (op2 eqD) (eV 3) (eC (.int (1))))) (eCall (F_law_turned Γ) [e2 (op2 ixA) (eV 1) (eV 5)]) (e2 (op2 ixA) (eV 1) (eV 5)))))
  (sNil)))))
noncomputable def B_law_as_table (Γ : Cfg) : SM :=
  sRet (e1 (op1 tupD) (eLc 1 (iS (eCall (F_law_short Γ) [eC (.int (3))])) (tYesD) (eCall (F_law_word Γ) [e2 (op2 ixA) (eV 0) (eV 1)])))
noncomputable def F_law_as_table (Γ : Cfg) : List D → M D := runD 2 (B_law_as_table Γ)
noncomputable def B_with_more (Γ : Cfg) : SM :=
  sSeq (sSet 2 (e1 (op1 listD) (eV 0)))
  (sSeq (sFor 3 (iR1 (eV 1)) (sSet 2 (eLc2 4 5 (iS (eV 2)) (iS (eC w_VOICES)) (tYesD) (e2 (op2 addD) (eV 4) (eTup [eV 5])))))
  (sRet (eV 2)))
noncomputable def F_with_more (Γ : Cfg) : List D → M D := runD 6 (B_with_more Γ)
noncomputable def B_by_parts (Γ : Cfg) : SM :=
  sSeq (sSet 2 (eDz Γ.hs 5 4 (iZp (eC w_SMALL_ROWS) (eV 0))))
  (sSeq (sSet 3 (e2 (op2 (ixT Γ.hs)) (eV 2) (eSl (eV 1) pNo (pSo (eC (.int (1)))))))
  (sSeq (sFor 4 (iS (eSl (eV 1) (pSo (eC (.int (1)))) pNo)) (sSet 3 (e2 (op2 (ixT Γ.hs)) (eV 2) (eTup [eV 3, e2 (op2 (ixT Γ.hs)) (eV 2) (eTup [eV 4])]))))
  (sRet (eV 3))))
noncomputable def F_by_parts (Γ : Cfg) : List D → M D := runD 6 (B_by_parts Γ)
noncomputable def B_is_parts (Γ : Cfg) : SM :=
  sSeq (sIf (tOr (tNot (tV (e1 (op1 (isiD ["tuple"])) (eV 0)))) (tV (e2 (op2 neD) (e1 (op1 lenD) (eV 0)) (eC (.int (6)))))) (sRet (eC (.bl false))) (sNil))
  (sSeq (sIf (tNot (tV (eStopG false 2 (iS (eV 0)) (tYesD) (e2 (op2 inD) (eV 2) (eC w_VOICES))))) (sRet (eC (.bl false))) (sNil))
  (sSeq (sSet 1 (e2 (op2 addD) (eV 0) (eTupG 3 (iS (eSl (eC w_SMALL_ROWS) (pSo (eC (.int (6)))) pNo)) (tYesD) (eCall (F_by_parts Γ) [eV 0, eV 3]))))
  (sRet (eCall (F_keeps_all Γ) [eV 1, eTup [eC (.str [112, 97, 114, 116, 115])]]))))
noncomputable def F_is_parts (Γ : Cfg) : List D → M D := runD 4 (B_is_parts Γ)
noncomputable def B_parts_ways (Γ : Cfg) : SM :=
  sRet (eTupG 0 (iS (eCall (F_with_more Γ) [eLst [eTup []], eC (.int (6))])) (tV (eCall (F_is_parts Γ) [eV 0])) (eV 0))
noncomputable def F_parts_ways (Γ : Cfg) : List D → M D := runD 1 (B_parts_ways Γ)
noncomputable def B_parts_answer (Γ : Cfg) : SM :=
  sSeq (sIf (tNot (tV (eCall (F_is_parts Γ) [eV 0]))) (sRz Γ "NotParts") (sNil))
  (sSeq (sEx (eCall (F_check_row Γ) [eV 1]))
  (sRet (eCall (F_by_parts Γ) [eV 0, eV 1])))
noncomputable def F_parts_answer (Γ : Cfg) : List D → M D := runD 2 (B_parts_answer Γ)
noncomputable def B_law_by_parts (Γ : Cfg) (FR : List D → M D) : SM :=
  sSeq (sIf (tV (e2 (op2 ltD) (e1 (op1 lenD) (eV 1)) (eC (.int (2))))) (sRet (e2 (op2 ixA) (eV 0) (eV 1))) (sNil))
  (sSeq (sSet 3 (e2 (op2 addD) (eC (.int (1))) (eCall (F_law_taken Γ) [eV 2, e2 (op2 subD) (e1 (op1 lenD) (eV 1)) (eC (.int (1)))])))
  (sRet (e2 (op2 ixA) (eV 0) (e2 (op2 addD) (eCall FR [eV 0, eSl (eV 1) pNo (pSo (eV 3)), eV 2]) (eCall FR [eV 0, eSl (eV 1) (pSo (eV 3)) pNo, eV 2])))))
noncomputable def F_law_by_parts (Γ : Cfg) : Nat → List D → M D
  | 0 => fun _ => mbad
  | n + 1 => runD 4 (B_law_by_parts Γ (F_law_by_parts Γ n))
noncomputable def B_law_is_whole (Γ : Cfg) : SM :=
  sSeq (sFor 1 (iS (eCall (F_law_rows Γ) [eC (.int (2))])) (sIf (tV (e2 (op2 neD) (e2 (op2 ixA) (eV 0) (eV 1)) (e2 (op2 ixA) (eV 0) (e2 (op2 addD) (e2 (op2 ixA) (eV 0) (e2 (op2 ixA) (eV 1) (eC (.int (0))))) (e2 (op2 ixA) (eV 0) (e2 (op2 ixA) (eV 1) (eC (.int (1))))))))) (sRet (eC (.bl false))) (sNil)))
  (sSeq (sFor 1 (iS (eCall (F_law_rows Γ) [eC (.int (3))])) (sIf (tV (e2 (op2 neD) (e2 (op2 ixA) (eV 0) (e2 (op2 addD) (e2 (op2 ixA) (eV 0) (eSl (eV 1) pNo (pSo (eC (.int (2)))))) (e2 (op2 ixA) (eV 0) (e2 (op2 ixA) (eV 1) (eC (.int (2))))))) (e2 (op2 ixA) (eV 0) (e2 (op2 addD) (e2 (op2 ixA) (eV 0) (e2 (op2 ixA) (eV 1) (eC (.int (0))))) (e2 (op2 ixA) (eV 0) (eSl (eV 1) (pSo (eC (.int (1)))) pNo)))))) (sRet (eC (.bl false))) (sNil)))
  (sRet (eC (.bl true))))
noncomputable def F_law_is_whole (Γ : Cfg) : List D → M D := runD 2 (B_law_is_whole Γ)
noncomputable def B_check_text (Γ : Cfg) : SM :=
  sIf (tNot (tV (e1 (op1 (isiD ["str"])) (eV 0)))) (sRz Γ "NotText") (sNil)
noncomputable def F_check_text (Γ : Cfg) : List D → M D := runD 1 (B_check_text Γ)
noncomputable def B_text_of (Γ : Cfg) : SM :=
  sRet (eJoinG [] 1 (iS (eV 0)) (tYesD) (e1 (op1 (tblD (tb_SIGN_OF))) (eV 1)))
noncomputable def F_text_of (Γ : Cfg) : List D → M D := runD 2 (B_text_of Γ)
noncomputable def B_write_row (Γ : Cfg) : SM :=
  sSeq (sEx (eCall (F_check_row Γ) [eV 0]))
  (sRet (eCall (F_text_of Γ) [eV 0]))
noncomputable def F_write_row (Γ : Cfg) : List D → M D := runD 1 (B_write_row Γ)
noncomputable def B_read (Γ : Cfg) : SM :=
  sSeq (sIf (tNot (tV (eChain (op2 leD) (op2 leD) (eV 1) (e1 (op1 lenD) (eV 0)) (eV 2)))) (sRz Γ "InvalidText") (sNil))
  (sSeq (sIf (tNot (tV (eStopG false 3 (iS (eV 0)) (tYesD) (e1 (op1 (inK (ks_VOICE_OF))) (eV 3))))) (sRz Γ "InvalidText") (sNil))
  (sRet (eTupG 3 (iS (eV 0)) (tYesD) (e1 (op1 (tblD (tb_VOICE_OF))) (eV 3)))))
noncomputable def F_read (Γ : Cfg) : List D → M D := runD 4 (B_read Γ)
noncomputable def B_read_row (Γ : Cfg) : SM :=
  sSeq (sEx (eCall (F_check_text Γ) [eV 0]))
  (sRet (eCall (F_read Γ) [eV 0, eC (.int (1)), eC (.int (12))]))
noncomputable def F_read_row (Γ : Cfg) : List D → M D := runD 1 (B_read_row Γ)
noncomputable def B_write_table (Γ : Cfg) : SM :=
  sSeq (sEx (eCall (F_check_table Γ) [eV 0]))
  (sRet (eCall (F_text_of Γ) [eV 0]))
noncomputable def F_write_table (Γ : Cfg) : List D → M D := runD 1 (B_write_table Γ)
noncomputable def B_read_table (Γ : Cfg) : SM :=
  sSeq (sEx (eCall (F_check_text Γ) [eV 0]))
  (sRet (eCall (F_read Γ) [eV 0, e1 (op1 lenD) (eC w_SMALL_ROWS), e1 (op1 lenD) (eC w_SMALL_ROWS)]))
noncomputable def F_read_table (Γ : Cfg) : List D → M D := runD 1 (B_read_table Γ)
-- law_told (k08): Try
-- law_told_u (k09): Try
-- law_shown (k09): Attribute
-- wall (k10): While
noncomputable def B_check_promises (Γ : Cfg) : SM :=
  sSeq (sIf (tNot (tV (e1 (op1 (isiD ["tuple"])) (eV 0)))) (sRz Γ "BadPromises") (sNil))
  (sIf (tV (e2 (op2 neD) (eV 0) (eTupG 1 (iS (eC w_PROMISES)) (tV (e2 (op2 inD) (eV 1) (eV 0))) (eV 1)))) (sRz Γ "BadPromises") (sNil))
noncomputable def F_check_promises (Γ : Cfg) : List D → M D := runD 2 (B_check_promises Γ)
noncomputable def B_holds_all (Γ : Cfg) : SM :=
  sRet (eStopG false 2 (iS (eV 1)) (tYesD) (eCall (F_holds Γ) [eV 0, eV 2]))
noncomputable def F_holds_all (Γ : Cfg) : List D → M D := runD 3 (B_holds_all Γ)
noncomputable def B_keepers (Γ : Cfg) : SM :=
  sRet (eTupG 1 (iS (eC w_WAYS)) (tV (eCall (F_holds_all Γ) [eV 1, eV 0])) (eV 1))
noncomputable def F_keepers (Γ : Cfg) : List D → M D := runD 2 (B_keepers Γ)
noncomputable def B_can_hold (Γ : Cfg) : SM :=
  sSeq (sEx (eCall (F_check_promises Γ) [eV 0]))
  (sRet (e2 (op2 gtD) (e1 (op1 lenD) (eCall (F_keepers Γ) [eV 0])) (eC (.int (0)))))
noncomputable def F_can_hold (Γ : Cfg) : List D → M D := runD 1 (B_can_hold Γ)
noncomputable def B_keepers_u (Γ : Cfg) : SM :=
  sSeq (sEx (eCall (F_check_promises Γ) [eV 0]))
  (sRet (eCall (F_keepers Γ) [eV 0]))
noncomputable def F_keepers_u (Γ : Cfg) : List D → M D := runD 1 (B_keepers_u Γ)
noncomputable def B_can_add (Γ : Cfg) : SM :=
  sSeq (sEx (eCall (F_check_promises Γ) [eV 0]))
  (sRet (eTupG 1 (iS (eC w_PROMISES)) (tAnd (tV (e2 (op2 notInD) (eV 1) (eV 0))) (tV (e2 (op2 gtD) (e1 (op1 lenD) (eCall (F_keepers Γ) [e2 (op2 addD) (eV 0) (eTup [eV 1])])) (eC (.int (0)))))) (eV 1)))
noncomputable def F_can_add (Γ : Cfg) : List D → M D := runD 2 (B_can_add Γ)
noncomputable def B_lies_in (Γ : Cfg) : SM :=
  sRet (eStopG false 2 (iS (eV 0)) (tYesD) (e2 (op2 inD) (eV 2) (eV 1)))
noncomputable def F_lies_in (Γ : Cfg) : List D → M D := runD 3 (B_lies_in Γ)
noncomputable def B_has_part (Γ : Cfg) : SM :=
  sRet (eStopG true 2 (iS (eV 1)) (tYesD) (eCall (F_lies_in Γ) [eV 2, eV 0]))
noncomputable def F_has_part (Γ : Cfg) : List D → M D := runD 3 (B_has_part Γ)
noncomputable def B_least_clashes_in (Γ : Cfg) : SM :=
  sSeq (sSet 1 (e1 (op1 listD) (eV 0)))
  (sSeq (sUn 2)
  (sSeq (sNewL 2)
  (sSeq (sFor 3 (iR2 (eC (.int (1))) (e2 (op2 addD) (e1 (op1 lenD) (eV 1)) (eC (.int (1))))) (sForN 4 (iCmb (eV 1) (eV 3)) (sIf (tAnd (tV (e2 (op2 eqD) (e1 (op1 lenD) (eCall (F_keepers Γ) [eV 4])) (eC (.int (0))))) (tNot (tV (eFrzL 2 (eCall (F_has_part Γ) [eV 4, eV 2]))))) (sAppO 2 (eV 4)) (sNil))))
  (sSeq (sUn 2)
  (sRet (e1 (op1 tupD) (eV 2)))))))
noncomputable def F_least_clashes_in (Γ : Cfg) : List D → M D := runD 5 (B_least_clashes_in Γ)
noncomputable def B_clashes (Γ : Cfg) : SM :=
  sSeq (sEx (eCall (F_check_promises Γ) [eV 0]))
  (sRet (eCall (F_least_clashes_in Γ) [eV 0]))
noncomputable def F_clashes (Γ : Cfg) : List D → M D := runD 1 (B_clashes Γ)
noncomputable def B_count_tables (Γ : Cfg) : SM :=
  sSeq (sEx (eCall (F_check_promises Γ) [eV 0]))
  (sSeq (sSet 1 (eLst [eTup []]))
  (sSeq (sFor 2 (iS (eTup [eC (.int (2)), eC (.int (4)), eC (.int (8))])) (sSet 1 (eLc 3 (iS (eCall (F_with_more Γ) [eV 1, eV 2])) (tV (eCall (F_keeps_all Γ) [eV 3, eV 0])) (eV 3))))
  (sRet (e1 (op1 lenD) (eV 1)))))
noncomputable def F_count_tables (Γ : Cfg) : List D → M D := runD 4 (B_count_tables Γ)
-- law_wrong (k10): Try
noncomputable def B_law_keeps (Γ : Cfg) : SM :=
  sSeq (sUn 1)
  (sSeq (sDispO 1 [([111, 100, 100], eC (.str [104, 101, 97, 114, 100, 32, 109, 105, 120, 101, 100, 32, 111, 114, 100, 101, 114, 32, 112, 97, 114, 116, 115])), ([105, 115, 108, 97, 110, 100], eC (.str [97, 103, 114, 101, 101, 100, 32, 104, 101, 97, 114, 100, 32, 109, 105, 120, 101, 100, 32, 114, 101, 112, 101, 97, 116])), ([98, 111, 116, 104, 32, 101, 110, 100, 115], eC (.str [97, 103, 114, 101, 101, 100, 32, 103, 114, 111, 119, 105, 110, 103, 32, 107, 101, 112, 116, 32, 109, 105, 120, 101, 100, 32, 114, 101, 112, 101, 97, 116]))])
  (sSeq (sFor 2 (iS (eLst [eC (.str [102, 105, 114, 115, 116]), eC (.str [108, 97, 115, 116])])) (sPutO 1 (eV 2) (eC (.str [97, 103, 114, 101, 101, 100, 32, 101, 118, 101, 110, 32, 103, 114, 111, 119, 105, 110, 103, 32, 107, 101, 112, 116, 32, 109, 105, 120, 101, 100, 32, 112, 97, 114, 116, 115, 32, 114, 101, 112, 101, 97, 116]))))
  (sSeq (sFor 2 (iS (eLst [eC (.str [97, 108, 108, 111, 119]), eC (.str [100, 101, 110, 121])])) (sSeq (sPutO 1 (e2 (op2 addD) (eV 2) (eC (.str [32, 111, 118, 101, 114]))) (eC (.str [97, 103, 114, 101, 101, 100, 32, 103, 114, 111, 119, 105, 110, 103, 32, 104, 101, 97, 114, 100, 32, 107, 101, 112, 116, 32, 111, 114, 100, 101, 114, 32, 112, 97, 114, 116, 115, 32, 114, 101, 112, 101, 97, 116])))
    (sSeq (sPutO 1 (e2 (op2 addD) (eC (.str [97, 108, 119, 97, 121, 115, 32])) (eV 2)) (eC (.str [103, 114, 111, 119, 105, 110, 103, 32, 107, 101, 112, 116, 32, 111, 114, 100, 101, 114, 32, 112, 97, 114, 116, 115, 32, 114, 101, 112, 101, 97, 116])))
    (sPutO 1 (e2 (op2 addD) (eC (.str [109, 111, 115, 116, 32, 111, 114, 32])) (eV 2)) (eC (.str [97, 103, 114, 101, 101, 100, 32, 103, 114, 111, 119, 105, 110, 103, 32, 104, 101, 97, 114, 100, 32, 107, 101, 112, 116, 32, 109, 105, 120, 101, 100, 32, 109, 111, 115, 116, 32, 111, 114, 100, 101, 114]))))))
  (sSeq (sFor 2 (iS (eLst [eC (.str [102, 105, 114, 115, 116]), eC (.str [108, 97, 115, 116])])) (sPutO 1 (e2 (op2 addD) (eC (.str [109, 111, 115, 116, 32, 111, 114, 32])) (eV 2)) (eC (.str [97, 103, 114, 101, 101, 100, 32, 101, 118, 101, 110, 32, 103, 114, 111, 119, 105, 110, 103, 32, 107, 101, 112, 116, 32, 109, 105, 120, 101, 100, 32, 109, 111, 115, 116]))))
  (sRet (eFrz 1 (eM1 splitS (e2 (op2 ixA) (eV 1) (eV 0)) (eC (.str [32])))))))))
noncomputable def F_law_keeps (Γ : Cfg) : List D → M D := runD 3 (B_law_keeps Γ)
noncomputable def B_law_longer (Γ : Cfg) : SM :=
  sSeq (sUn 2)
  (sSeq (sNewO 2)
  (sSeq (sFor 3 (iS (eLst [eV 1, eCall (F_law_turned Γ) [eV 1]])) (sPutO 2 (eV 3) (eCall (F_law_answer Γ) [eV 0, eV 3])))
  (sSeq (sFor 4 (iR1 (e1 (op1 lenD) (eV 1))) (sSeq (sSet 5 (eLst [eCall (F_law_flip Γ) [eV 1, eV 4], e2 (op2 addD) (e2 (op2 addD) (eSl (eV 1) pNo (pSo (eV 4))) (e2 (op2 ixA) (eV 1) (eV 4))) (eSl (eV 1) (pSo (eV 4)) pNo), eSl (eV 1) pNo (pSo (eV 4)), eSl (eV 1) (pSo (eV 4)) pNo, e2 (op2 addD) (e2 (op2 addD) (e2 (op2 addD) (eSl (eV 1) pNo (pSo (eV 4))) (eSl (eV 1) (pSo (e2 (op2 addD) (eV 4) (eC (.int (1))))) (pSo (e2 (op2 addD) (eV 4) (eC (.int (2))))))) (e2 (op2 ixA) (eV 1) (eV 4))) (eSl (eV 1) (pSo (e2 (op2 addD) (eV 4) (eC (.int (2))))) pNo)]))
    (sFor 3 (iS (e2 (op2 addD) (e2 (op2 addD) (eV 5) (eLc 6 (iS (eC (.str [43, 45]))) (tYesD) (e2 (op2 addD) (e2 (op2 addD) (eSl (eV 1) pNo (pSo (eV 4))) (eV 6)) (eSl (eV 1) (pSo (eV 4)) pNo)))) (eLst [eC (.str [43]), eC (.str [45]), eC (.str [43, 43]), eC (.str [43, 45]), eC (.str [45, 43]), eC (.str [45, 45]), e2 (op2 addD) (eV 1) (eC (.str [43])), e2 (op2 addD) (eV 1) (eC (.str [45]))]))) (sIf (tV (e2 (op2 neD) (eV 3) (eC (.str [])))) (sPutO 2 (eV 3) (eCall (F_law_answer Γ) [eV 0, eV 3])) (sNil)))))
  (sSeq (sUn 2)
  (sRet (eV 2))))))
noncomputable def F_law_longer (Γ : Cfg) : List D → M D := runD 7 (B_law_longer Γ)
noncomputable def B_law_words (Γ : Cfg) : SM :=
  sRet (e1 (op1 tupD) (eLc 2 (iS (eCall (F_law_promises Γ) [])) (tV (e2 (op2 eqD) (eCall (F_law_taken Γ) [eV 0, eV 1]) (eC (.int (0))))) (eV 2)))
noncomputable def F_law_words (Γ : Cfg) : List D → M D := runD 3 (B_law_words Γ)
noncomputable def B_least_clashes (Γ : Cfg) : SM :=
  sRet (eCall (F_least_clashes_in Γ) [eC w_PROMISES])
noncomputable def F_least_clashes (Γ : Cfg) : List D → M D := runD 0 (B_least_clashes Γ)
-- greatest_sets (k03): SetComp
noncomputable def B_law_clashes (Γ : Cfg) : SM :=
  sSeq (sSet 0 (eLst [eC (.str [101, 118, 101, 110, 32, 104, 101, 97, 114, 100]), eC (.str [101, 118, 101, 110, 32, 111, 114, 100, 101, 114]), eC (.str [109, 111, 115, 116, 32, 112, 97, 114, 116, 115]), eC (.str [109, 111, 115, 116, 32, 114, 101, 112, 101, 97, 116]), eC (.str [109, 105, 120, 101, 100, 32, 111, 114, 100, 101, 114, 32, 114, 101, 112, 101, 97, 116]), eC (.str [97, 103, 114, 101, 101, 100, 32, 104, 101, 97, 114, 100, 32, 109, 105, 120, 101, 100, 32, 112, 97, 114, 116, 115]), eC (.str [97, 103, 114, 101, 101, 100, 32, 109, 105, 120, 101, 100, 32, 111, 114, 100, 101, 114, 32, 112, 97, 114, 116, 115])]))
  (sSeq (sSet 0 (e2 (op2 addD) (eV 0) (eLst [eC (.str [103, 114, 111, 119, 105, 110, 103, 32, 104, 101, 97, 114, 100, 32, 109, 105, 120, 101, 100, 32, 112, 97, 114, 116, 115]), eC (.str [103, 114, 111, 119, 105, 110, 103, 32, 104, 101, 97, 114, 100, 32, 109, 105, 120, 101, 100, 32, 114, 101, 112, 101, 97, 116]), eC (.str [103, 114, 111, 119, 105, 110, 103, 32, 109, 105, 120, 101, 100, 32, 111, 114, 100, 101, 114, 32, 112, 97, 114, 116, 115]), eC (.str [104, 101, 97, 114, 100, 32, 107, 101, 112, 116, 32, 109, 105, 120, 101, 100, 32, 112, 97, 114, 116, 115])])))
  (sRet (eLc 1 (iS (e2 (op2 addD) (eV 0) (eLst [eC (.str [104, 101, 97, 114, 100, 32, 107, 101, 112, 116, 32, 109, 105, 120, 101, 100, 32, 114, 101, 112, 101, 97, 116]), eC (.str [104, 101, 97, 114, 100, 32, 109, 105, 120, 101, 100, 32, 112, 97, 114, 116, 115, 32, 114, 101, 112, 101, 97, 116]), eC (.str [107, 101, 112, 116, 32, 109, 105, 120, 101, 100, 32, 111, 114, 100, 101, 114, 32, 112, 97, 114, 116, 115])]))) (tYesD) (e1 (op1 tupD) (eM1 splitS (eV 1) (eC (.str [32])))))))
noncomputable def F_law_clashes (Γ : Cfg) : List D → M D := runD 2 (B_law_clashes Γ)
noncomputable def B_law_goes (Γ : Cfg) : SM :=
  sSeq (sFor 1 (iS (eCall (F_law_ways Γ) [])) (sIf (tV (e2 (op2 eqD) (eLc 2 (iS (eV 0)) (tV (e2 (op2 notInD) (eV 2) (eCall (F_law_keeps Γ) [eV 1]))) (eV 2)) (eLst []))) (sRet (eC (.bl true))) (sNil)))
  (sRet (eC (.bl false)))
noncomputable def F_law_goes (Γ : Cfg) : List D → M D := runD 3 (B_law_goes Γ)
end C
set_option Elab.async false
set_option linter.all false
set_option maxRecDepth 100000
set_option maxHeartbeats 4000000
namespace K06
open PySem PySem.Spec PyProof.Rows L2 DL C
def topS (i : Nat) : Stmt := PySem.Challenge.pw_rulevoices_k06_whole_parts.main.body.getD i (.Pass ⟨0, 0, 0, 0⟩)
def Gam0 (A : Nat → Addr) (w : World) : Cfg := ⟨A, fun x => x == ("NotParts" : Str), fun j => j == 41, hsW w, spW w⟩
abbrev s_parts : Stmt := topS 27
theorem sc_parts : FnScope ["told", "row", "cut"] ["told"] (defScope s_parts) := ⟨rfl, rfl, rfl, by decide +kernel, rfl, by decide +kernel, by decide +kernel⟩
abbrev s_turned : Stmt := topS 9
abbrev s_turned_row : Stmt := topS 10
abbrev s_turned_at : Stmt := topS 11
abbrev s_greater_voice : Stmt := topS 12
abbrev s_with_more : Stmt := topS 13
theorem sc_with_more : FnScope ["rows", "many", "found", "_", "row", "voice"] ["rows", "many"] (defScope s_with_more) := ⟨rfl, rfl, rfl, by decide +kernel, rfl, by decide +kernel, by decide +kernel⟩
abbrev s_first_wrong : Stmt := topS 17
theorem sc_first_wrong : FnScope ["items", "index", "item"] ["items"] (defScope s_first_wrong) := ⟨rfl, rfl, rfl, by decide +kernel, rfl, by decide +kernel, by decide +kernel⟩
abbrev s_check_row : Stmt := topS 16
theorem sc_check_row : FnScope ["row", "wrong"] ["row"] (defScope s_check_row) := ⟨rfl, rfl, rfl, by decide +kernel, rfl, by decide +kernel, by decide +kernel⟩
abbrev s_agreed : Stmt := topS 19
abbrev s_even : Stmt := topS 20
abbrev s_growing : Stmt := topS 21
abbrev s_heard : Stmt := topS 22
abbrev s_kept : Stmt := topS 23
abbrev s_mixed : Stmt := topS 24
abbrev s_most : Stmt := topS 25
abbrev s_order : Stmt := topS 26
abbrev s_repeat : Stmt := topS 28
abbrev s_keeps_all : Stmt := topS 30
theorem sc_keeps_all : FnScope ["table", "wanted", "told", "promise", "check", "row", "voice"] ["table", "wanted"] (defScope s_keeps_all) := ⟨rfl, rfl, rfl, by decide +kernel, rfl, by decide +kernel, by decide +kernel⟩
abbrev s_by_parts : Stmt := topS 36
theorem sc_by_parts : FnScope ["small", "row", "told", "now", "voice", "short"] ["small", "row"] (defScope s_by_parts) := ⟨rfl, rfl, rfl, by decide +kernel, rfl, by decide +kernel, by decide +kernel⟩
abbrev s_is_parts : Stmt := topS 33
theorem sc_is_parts : FnScope ["small", "table", "item", "row"] ["small"] (defScope s_is_parts) := ⟨rfl, rfl, rfl, by decide +kernel, rfl, by decide +kernel, by decide +kernel⟩
abbrev s_parts_ways : Stmt := topS 34
theorem sc_parts_ways : FnScope ["small"] [] (defScope s_parts_ways) := ⟨rfl, rfl, rfl, by decide +kernel, rfl, by decide +kernel, by decide +kernel⟩
abbrev s_parts_answer : Stmt := topS 35
theorem sc_parts_answer : FnScope ["small", "row"] ["small", "row"] (defScope s_parts_answer) := ⟨rfl, rfl, rfl, by decide +kernel, rfl, by decide +kernel, by decide +kernel⟩
abbrev s_law_taken : Stmt := topS 38
theorem sc_law_taken : FnScope ["row", "many", "found", "cell"] ["row", "many"] (defScope s_law_taken) := ⟨rfl, rfl, rfl, by decide +kernel, rfl, by decide +kernel, by decide +kernel⟩
abbrev s_law_pick : Stmt := topS 39
theorem sc_law_pick : FnScope ["row", "kinds"] ["row", "kinds"] (defScope s_law_pick) := ⟨rfl, rfl, rfl, by decide +kernel, rfl, by decide +kernel, by decide +kernel⟩
abbrev s_law_alike : Stmt := topS 40
theorem sc_law_alike : FnScope ["found", "due", "k"] ["found", "due"] (defScope s_law_alike) := ⟨rfl, rfl, rfl, by decide +kernel, rfl, by decide +kernel, by decide +kernel⟩
abbrev s_law_is : Stmt := topS 41
theorem sc_law_is : FnScope ["found", "due"] ["found", "due"] (defScope s_law_is) := ⟨rfl, rfl, rfl, by decide +kernel, rfl, by decide +kernel, by decide +kernel⟩
abbrev s_law_rows : Stmt := topS 42
theorem sc_law_rows : FnScope ["length", "found", "turn", "longer", "text"] ["length"] (defScope s_law_rows) := ⟨rfl, rfl, rfl, by decide +kernel, rfl, by decide +kernel, by decide +kernel⟩
abbrev s_law_short : Stmt := topS 43
theorem sc_law_short : FnScope ["most", "found", "length"] ["most"] (defScope s_law_short) := ⟨rfl, rfl, rfl, by decide +kernel, rfl, by decide +kernel, by decide +kernel⟩
abbrev s_law_row : Stmt := topS 44
theorem sc_law_row : FnScope ["row", "most", "turn"] ["row", "most"] (defScope s_law_row) := ⟨rfl, rfl, rfl, by decide +kernel, rfl, by decide +kernel, by decide +kernel⟩
abbrev s_law_word : Stmt := topS 45
theorem sc_law_word : FnScope ["sign"] ["sign"] (defScope s_law_word) := ⟨rfl, rfl, rfl, by decide +kernel, rfl, by decide +kernel, by decide +kernel⟩
abbrev s_law_voices : Stmt := topS 46
theorem sc_law_voices : FnScope ["text", "sign"] ["text"] (defScope s_law_voices) := ⟨rfl, rfl, rfl, by decide +kernel, rfl, by decide +kernel, by decide +kernel⟩
abbrev s_law_by_parts : Stmt := topS 47
theorem sc_law_by_parts : FnScope ["told", "text", "row", "at"] ["told", "text", "row"] (defScope s_law_by_parts) := ⟨rfl, rfl, rfl, by decide +kernel, rfl, by decide +kernel, by decide +kernel⟩
abbrev s_law_is_whole : Stmt := topS 48
theorem sc_law_is_whole : FnScope ["told", "text"] ["told"] (defScope s_law_is_whole) := ⟨rfl, rfl, rfl, by decide +kernel, rfl, by decide +kernel, by decide +kernel⟩
abbrev s_law : Stmt := topS 49
theorem sc_law : FnScope ["script", "row", "some", "texts", "signs", "text", "told", "turn", "free", "bad", "e", "one"] ["script"] (defScope s_law) := ⟨rfl, rfl, rfl, by decide +kernel, rfl, by decide +kernel, by decide +kernel⟩
structure Fx (w : World) (K : PySem.W.Frag) (mg : Str → Option Value) (T : Tb) (CS : List (Addr × Addr)) where
  a_parts : Addr
  d_parts : FuncData
  F_parts : Fun K "_parts" "_parts" s_parts a_parts d_parts
  g_parts : mg "_parts" = some (.ref a_parts)
  b_parts : Binds K d_parts ["told"] []
  a_turned : Addr
  d_turned : FuncData
  F_turned : Fun K "turned" "turned" s_turned a_turned d_turned
  g_turned : mg "turned" = some (.ref a_turned)
  b_turned : Binds K d_turned ["voice"] []
  a_turned_row : Addr
  d_turned_row : FuncData
  F_turned_row : Fun K "turned_row" "turned_row" s_turned_row a_turned_row d_turned_row
  g_turned_row : mg "turned_row" = some (.ref a_turned_row)
  b_turned_row : Binds K d_turned_row ["row"] []
  k_turned_row : Addr
  t_turned_row : Addr
  e_turned_row : d_turned_row.code = .ref k_turned_row
  m_turned_row : (k_turned_row, t_turned_row) ∈ CS ∧ t_turned_row ∈ T
  a_turned_at : Addr
  d_turned_at : FuncData
  F_turned_at : Fun K "turned_at" "turned_at" s_turned_at a_turned_at d_turned_at
  g_turned_at : mg "turned_at" = some (.ref a_turned_at)
  b_turned_at : Binds K d_turned_at ["row", "place"] []
  a_greater_voice : Addr
  d_greater_voice : FuncData
  F_greater_voice : Fun K "greater_voice" "greater_voice" s_greater_voice a_greater_voice d_greater_voice
  g_greater_voice : mg "greater_voice" = some (.ref a_greater_voice)
  b_greater_voice : Binds K d_greater_voice ["row"] []
  a_with_more : Addr
  d_with_more : FuncData
  F_with_more : Fun K "with_more" "with_more" s_with_more a_with_more d_with_more
  g_with_more : mg "with_more" = some (.ref a_with_more)
  b_with_more : Binds K d_with_more ["rows", "many"] []
  a_first_wrong : Addr
  d_first_wrong : FuncData
  F_first_wrong : Fun K "_first_wrong" "_first_wrong" s_first_wrong a_first_wrong d_first_wrong
  g_first_wrong : mg "_first_wrong" = some (.ref a_first_wrong)
  b_first_wrong : Binds K d_first_wrong ["items"] []
  a_check_row : Addr
  d_check_row : FuncData
  F_check_row : Fun K "check_row" "check_row" s_check_row a_check_row d_check_row
  g_check_row : mg "check_row" = some (.ref a_check_row)
  b_check_row : Binds K d_check_row ["row"] []
  a_agreed : Addr
  d_agreed : FuncData
  F_agreed : Fun K "_agreed" "_agreed" s_agreed a_agreed d_agreed
  g_agreed : mg "_agreed" = some (.ref a_agreed)
  b_agreed : Binds K d_agreed ["told"] []
  k_agreed : Addr
  t_agreed : Addr
  e_agreed : d_agreed.code = .ref k_agreed
  m_agreed : (k_agreed, t_agreed) ∈ CS ∧ t_agreed ∈ T
  a_even : Addr
  d_even : FuncData
  F_even : Fun K "_even" "_even" s_even a_even d_even
  g_even : mg "_even" = some (.ref a_even)
  b_even : Binds K d_even ["told"] []
  k_even : Addr
  t_even : Addr
  e_even : d_even.code = .ref k_even
  m_even : (k_even, t_even) ∈ CS ∧ t_even ∈ T
  a_growing : Addr
  d_growing : FuncData
  F_growing : Fun K "_growing" "_growing" s_growing a_growing d_growing
  g_growing : mg "_growing" = some (.ref a_growing)
  b_growing : Binds K d_growing ["told"] []
  a_heard : Addr
  d_heard : FuncData
  F_heard : Fun K "_heard" "_heard" s_heard a_heard d_heard
  g_heard : mg "_heard" = some (.ref a_heard)
  b_heard : Binds K d_heard ["told"] []
  a_kept : Addr
  d_kept : FuncData
  F_kept : Fun K "_kept" "_kept" s_kept a_kept d_kept
  g_kept : mg "_kept" = some (.ref a_kept)
  b_kept : Binds K d_kept ["told"] []
  a_mixed : Addr
  d_mixed : FuncData
  F_mixed : Fun K "_mixed" "_mixed" s_mixed a_mixed d_mixed
  g_mixed : mg "_mixed" = some (.ref a_mixed)
  b_mixed : Binds K d_mixed ["told"] []
  a_most : Addr
  d_most : FuncData
  F_most : Fun K "_most" "_most" s_most a_most d_most
  g_most : mg "_most" = some (.ref a_most)
  b_most : Binds K d_most ["told"] []
  k_most : Addr
  t_most : Addr
  e_most : d_most.code = .ref k_most
  m_most : (k_most, t_most) ∈ CS ∧ t_most ∈ T
  a_order : Addr
  d_order : FuncData
  F_order : Fun K "_order" "_order" s_order a_order d_order
  g_order : mg "_order" = some (.ref a_order)
  b_order : Binds K d_order ["told"] []
  a_repeat : Addr
  d_repeat : FuncData
  F_repeat : Fun K "_repeat" "_repeat" s_repeat a_repeat d_repeat
  g_repeat : mg "_repeat" = some (.ref a_repeat)
  b_repeat : Binds K d_repeat ["told"] []
  a_keeps_all : Addr
  d_keeps_all : FuncData
  F_keeps_all : Fun K "keeps_all" "keeps_all" s_keeps_all a_keeps_all d_keeps_all
  g_keeps_all : mg "keeps_all" = some (.ref a_keeps_all)
  b_keeps_all : Binds K d_keeps_all ["table", "wanted"] []
  a_by_parts : Addr
  d_by_parts : FuncData
  F_by_parts : Fun K "_by_parts" "_by_parts" s_by_parts a_by_parts d_by_parts
  g_by_parts : mg "_by_parts" = some (.ref a_by_parts)
  b_by_parts : Binds K d_by_parts ["small", "row"] []
  a_is_parts : Addr
  d_is_parts : FuncData
  F_is_parts : Fun K "is_parts" "is_parts" s_is_parts a_is_parts d_is_parts
  g_is_parts : mg "is_parts" = some (.ref a_is_parts)
  b_is_parts : Binds K d_is_parts ["small"] []
  k_is_parts : Addr
  t_is_parts : Addr
  e_is_parts : d_is_parts.code = .ref k_is_parts
  m_is_parts : (k_is_parts, t_is_parts) ∈ CS ∧ t_is_parts ∈ T
  a_parts_ways : Addr
  d_parts_ways : FuncData
  F_parts_ways : Fun K "parts_ways" "parts_ways" s_parts_ways a_parts_ways d_parts_ways
  g_parts_ways : mg "parts_ways" = some (.ref a_parts_ways)
  b_parts_ways : Binds K d_parts_ways [] []
  k_parts_ways : Addr
  t_parts_ways : Addr
  e_parts_ways : d_parts_ways.code = .ref k_parts_ways
  m_parts_ways : (k_parts_ways, t_parts_ways) ∈ CS ∧ t_parts_ways ∈ T
  a_parts_answer : Addr
  d_parts_answer : FuncData
  F_parts_answer : Fun K "parts_answer" "parts_answer" s_parts_answer a_parts_answer d_parts_answer
  g_parts_answer : mg "parts_answer" = some (.ref a_parts_answer)
  b_parts_answer : Binds K d_parts_answer ["small", "row"] []
  a_law_taken : Addr
  d_law_taken : FuncData
  F_law_taken : Fun K "_law_taken" "_law_taken" s_law_taken a_law_taken d_law_taken
  g_law_taken : mg "_law_taken" = some (.ref a_law_taken)
  b_law_taken : Binds K d_law_taken ["row", "many"] []
  a_law_pick : Addr
  d_law_pick : FuncData
  F_law_pick : Fun K "_law_pick" "_law_pick" s_law_pick a_law_pick d_law_pick
  g_law_pick : mg "_law_pick" = some (.ref a_law_pick)
  b_law_pick : Binds K d_law_pick ["row", "kinds"] []
  a_law_alike : Addr
  d_law_alike : FuncData
  F_law_alike : Fun K "_law_alike" "_law_alike" s_law_alike a_law_alike d_law_alike
  g_law_alike : mg "_law_alike" = some (.ref a_law_alike)
  b_law_alike : Binds K d_law_alike ["found", "due"] []
  a_law_is : Addr
  d_law_is : FuncData
  F_law_is : Fun K "_law_is" "_law_is" s_law_is a_law_is d_law_is
  g_law_is : mg "_law_is" = some (.ref a_law_is)
  b_law_is : Binds K d_law_is ["found", "due"] []
  a_law_rows : Addr
  d_law_rows : FuncData
  F_law_rows : Fun K "_law_rows" "_law_rows" s_law_rows a_law_rows d_law_rows
  g_law_rows : mg "_law_rows" = some (.ref a_law_rows)
  b_law_rows : Binds K d_law_rows ["length"] []
  a_law_short : Addr
  d_law_short : FuncData
  F_law_short : Fun K "_law_short" "_law_short" s_law_short a_law_short d_law_short
  g_law_short : mg "_law_short" = some (.ref a_law_short)
  b_law_short : Binds K d_law_short ["most"] []
  a_law_row : Addr
  d_law_row : FuncData
  F_law_row : Fun K "_law_row" "_law_row" s_law_row a_law_row d_law_row
  g_law_row : mg "_law_row" = some (.ref a_law_row)
  b_law_row : Binds K d_law_row ["row", "most"] []
  a_law_word : Addr
  d_law_word : FuncData
  F_law_word : Fun K "_law_word" "_law_word" s_law_word a_law_word d_law_word
  g_law_word : mg "_law_word" = some (.ref a_law_word)
  b_law_word : Binds K d_law_word ["sign"] []
  a_law_voices : Addr
  d_law_voices : FuncData
  F_law_voices : Fun K "_law_voices" "_law_voices" s_law_voices a_law_voices d_law_voices
  g_law_voices : mg "_law_voices" = some (.ref a_law_voices)
  b_law_voices : Binds K d_law_voices ["text"] []
  a_law_by_parts : Addr
  d_law_by_parts : FuncData
  F_law_by_parts : Fun K "_law_by_parts" "_law_by_parts" s_law_by_parts a_law_by_parts d_law_by_parts
  g_law_by_parts : mg "_law_by_parts" = some (.ref a_law_by_parts)
  b_law_by_parts : Binds K d_law_by_parts ["told", "text", "row"] []
  a_law_is_whole : Addr
  d_law_is_whole : FuncData
  F_law_is_whole : Fun K "_law_is_whole" "_law_is_whole" s_law_is_whole a_law_is_whole d_law_is_whole
  g_law_is_whole : mg "_law_is_whole" = some (.ref a_law_is_whole)
  b_law_is_whole : Binds K d_law_is_whole ["told"] []
  a_law : Addr
  d_law : FuncData
  F_law : Fun K "law" "law" s_law a_law d_law
  g_law : mg "law" = some (.ref a_law)
  b_law : Binds K d_law ["script"] []
  c_ALLOW : ∃ w, mg "ALLOW" = some w ∧ RelV (.str (ST [97, 108, 108, 111, 119])) w
  c_DENY : ∃ w, mg "DENY" = some w ∧ RelV (.str (ST [100, 101, 110, 121])) w
  c_VOICES : ∃ w v, mg "VOICES" = some w ∧ RelV v w ∧ WR K v w_VOICES
  c_MOST_VOICES : ∃ w, mg "MOST_VOICES" = some w ∧ RelV (.int (12)) w
  c_SMALL_ROWS : ∃ w v, mg "SMALL_ROWS" = some w ∧ RelV v w ∧ WR K v w_SMALL_ROWS
  c__TOLD : ∃ w, mg "_TOLD" = some w ∧ RelV (.int (6)) w
  A : Nat → Addr
  A_41 : A 41 = a_parts
  ad_CHECKS : Addr
  g_CHECKS : mg "_CHECKS" = some (.ref ad_CHECKS)
  k_CHECKS : KTab K w ad_CHECKS (tb_CHECKS (Gam0 A w))
  ac_VoiceError : Addr
  gc_VoiceError : mg "VoiceError" = some (.ref ac_VoiceError)
  ac_NotParts : Addr
  gc_NotParts : mg "NotParts" = some (.ref ac_NotParts)
  tc_NotParts : TOne K ac_VoiceError ac_NotParts ac_NotParts
  x_NotParts : XCls K mg "NotParts" ac_NotParts
  z_range : mg "range" = none
  z_len : mg "len" = none
  z_tuple : mg "tuple" = none
  z_list : mg "list" = none
  z_isinstance : mg "isinstance" = none
  z_enumerate : mg "enumerate" = none
  z_all : mg "all" = none
  z_zip : mg "zip" = none
  z_int : mg "int" = none
  z_str : mg "str" = none
  z_bool : mg "bool" = none
  z_dict : mg "dict" = none
abbrev Fx.Gam {w : World} {K : PySem.W.Frag} {mg : Str → Option Value} {T : Tb} {CS : List (Addr × Addr)} (FX : Fx w K mg T CS) : Cfg := Gam0 FX.A w
section
variable {P : Program} {w : World} {K : PySem.W.Frag} {mg : Str → Option Value} {base : Heap} {T : Tb} {CS : List (Addr × Addr)} (FX : Fx w K mg T CS) (TB : ∀ p ∈ CS, GxR.TabB base mg p.1 p.2)
include FX TB
theorem ok_parts : FnOk P w K mg base CX0 1 FX.a_parts FX.d_parts ["told"] (spD K T mg 1 (F_parts FX.Gam)) := okD FX.F_parts sc_parts fun cdv A outer s H E hr hcd =>
  (pu_seq (pu_for PassesOwn.never rfl (pu_iKT (pvD 0)) (pg_name (i := 1) sc_parts.nd rfl (by first | exact .inl rfl | exact .inr rfl)) (pu_last (pu_for PassesOwn.never rfl (pu_iR2 (by rfl) FX.z_range pu_int (pu_callB cd_len (pvD 1) (by rfl) FX.z_len PySem.boot_len)) (pg_name (i := 2) sc_parts.nd rfl (by first | exact .inl rfl | exact .inr rfl)) (pu_last (pu_ifS (DL.pt_cmp (od_ne hr) (pu_ixT rfl hr (pvD 0) (pvD 1)) (pu_ixT rfl hr (pvD 0) (pu_tup (pu_cons (pu_ixT rfl hr (pvD 0) (pu_slice (pvD 1) puo_no (puo_so (pvD 2)))) (pu_cons (pu_ixT rfl hr (pvD 0) (pu_slice (pvD 1) (puo_so (pvD 2)) puo_no)) pu_nil)) (hl := by first | decide | exact Nat.le_of_ble_eq_true rfl))) (by rfl)) (pu_last (pu_ret pu_bl)) pu_snil)))))
  (pu_last (pu_ret pu_bl)))
theorem ok_with_more : FnOk P w K mg base CX0 1 FX.a_with_more FX.d_with_more ["rows", "many"] (spD K T mg 2 (F_with_more FX.Gam)) := okD FX.F_with_more sc_with_more fun cdv A outer s H E hr hcd =>
  (pu_seq (pu_set (i := 2) sc_with_more.nd rfl (by first | exact .inl rfl | exact .inr rfl) (pu_callT cd_list (pvD 0) (by rfl) FX.z_list PyProof.Rows.boot_list))
  (pu_seq (pu_for PassesOwn.never rfl (pu_iR1 (by rfl) FX.z_range (pvD 1)) (pg_name (i := 3) sc_with_more.nd rfl (by first | exact .inl rfl | exact .inr rfl)) (pu_last (by first | exact pu_setLc2 (x := "row") (y := "voice") (n := 2) rfl sc_with_more.nd rfl rfl (by rfl) (pu_iS (pvD 2)) (by show L2.BlkOk ["rows", "many", "found", "_", "row", "voice"] (defScope s_with_more) _ [("row", 4), ("voice", 5)]; exact ⟨rfl, by decide +kernel, by decide +kernel, by decide +kernel, by decide +kernel⟩) (fun _ _ _ _ _ => pg_name (i := 4) sc_with_more.nd rfl (by first | exact .inl rfl | exact .inr rfl)) (fun _ _ _ _ _ => (pu_iS (pu_gW (by rfl) FX.c_VOICES))) (fun _ _ _ _ _ => pg_name (i := 5) sc_with_more.nd rfl (by first | exact .inl rfl | exact .inr rfl)) (fun _ _ _ _ _ => pts_no) (fun _ _ _ _ _ => (pu_bin od_add (pvD 4) (pu_tup (pu_cons (pvD 5) pu_nil) (hl := by first | decide | exact Nat.le_of_ble_eq_true rfl)))) | exact pu_set (i := 2) sc_with_more.nd rfl (by first | exact .inl rfl | exact .inr rfl) (pu_lc2 (x := "row") (y := "voice") rfl sc_with_more.nd (pu_iS (pvD 2)) (by show L2.BlkOk ["rows", "many", "found", "_", "row", "voice"] (defScope s_with_more) _ [("row", 4), ("voice", 5)]; exact ⟨rfl, by decide +kernel, by decide +kernel, by decide +kernel, by decide +kernel⟩) (fun _ _ _ _ _ => pg_name (i := 4) sc_with_more.nd rfl (by first | exact .inl rfl | exact .inr rfl)) (fun _ _ _ _ _ => (pu_iS (pu_gW (by rfl) FX.c_VOICES))) (fun _ _ _ _ _ => pg_name (i := 5) sc_with_more.nd rfl (by first | exact .inl rfl | exact .inr rfl)) (fun _ _ _ _ _ => pts_no) (fun _ _ _ _ _ => (pu_bin od_add (pvD 4) (pu_tup (pu_cons (pvD 5) pu_nil) (hl := by first | decide | exact Nat.le_of_ble_eq_true rfl))))))))
  (pu_last (pu_ret (pvD 2)))))
theorem ok_first_wrong : FnOk P w K mg base CX0 1 FX.a_first_wrong FX.d_first_wrong ["items"] (spD K T mg 1 (F_first_wrong FX.Gam)) := okD FX.F_first_wrong sc_first_wrong fun cdv A outer s H E hr hcd =>
  (pu_seq (pu_forP PassesOwn.never rfl (pu_iEn (by rfl) FX.z_enumerate (pvD 0)) (pg_name (i := 1) sc_first_wrong.nd rfl (by first | exact .inl rfl | exact .inr rfl)) (pg_name (i := 2) sc_first_wrong.nd rfl (by first | exact .inl rfl | exact .inr rfl)) (pu_last (pu_ifS (DL.pt_cmp (od_notIn hr) (pvD 2) (pu_gW (by rfl) FX.c_VOICES) (by rfl)) (pu_last (pu_ret (pvD 1))) pu_snil)))
  (pu_last (pu_ret pu_non)))
theorem ok_check_row : FnOk P w K mg base CX0 2 FX.a_check_row FX.d_check_row ["row"] (spD K T mg 1 (F_check_row FX.Gam)) := okD FX.F_check_row sc_check_row fun cdv A outer s H E hr hcd =>
  (pu_seq (pu_ifS ((DL.pw_or (DL.pt_not (pt_v (pu_isi1 (by rfl) FX.z_isinstance (pvD 0) (by rfl) FX.z_tuple PyProof.Rows.boot_tuple))) (DL.pw_oneO (DL.pt_not (DL.pt_chain od_le od_le pu_int (pu_callB cd_len (pvD 0) (by rfl) FX.z_len PySem.boot_len) (pu_gc (by rfl) FX.c_MOST_VOICES fun _ => .int)))))).pt (pu_last pu_bad) pu_snil)
  (pu_seq (pu_set (i := 1) sc_check_row.nd rfl (by first | exact .inl rfl | exact .inr rfl) (pu_call (ok_first_wrong FX TB) (hr.mono (by decide)) (by rfl) FX.g_first_wrong FX.F_first_wrong.kp FX.b_first_wrong passD (pu_cons (pvD 0) pu_nil)))
  (pu_last (pu_ifS (DL.pt_cmp od_isNot (pvD 1) pu_non (by rfl)) (pu_last pu_bad) pu_snil))))
theorem hF_CHECKS : ∀ j F, fs_CHECKS FX.Gam j = some F → Held P w K mg base 1 (FX.A j) (spD K T mg 1 F) := by
  intro j F h
  unfold fs_CHECKS at h
  split at h
  · rw [if_neg (by exact Bool.false_ne_true)] at h; cases h
  · rw [if_neg (by exact Bool.false_ne_true)] at h; cases h
  · rw [if_neg (by exact Bool.false_ne_true)] at h; cases h
  · rw [if_neg (by exact Bool.false_ne_true)] at h; cases h
  · rw [if_neg (by exact Bool.false_ne_true)] at h; cases h
  · rw [if_neg (by exact Bool.false_ne_true)] at h; cases h
  · rw [if_neg (by exact Bool.false_ne_true)] at h; cases h
  · rw [if_neg (by exact Bool.false_ne_true)] at h; cases h
  · rw [if_pos (by rfl)] at h; cases h; rw [FX.A_41]; exact ⟨_, _, (ok_parts FX TB).mono (by decide), FX.F_parts.kp, FX.b_parts⟩
  · rw [if_neg (by exact Bool.false_ne_true)] at h; cases h
  · cases h
theorem ok_keeps_all : FnOk P w K mg base CX0 2 FX.a_keeps_all FX.d_keeps_all ["table", "wanted"] (spD K T mg 2 (F_keeps_all FX.Gam)) := okD FX.F_keeps_all sc_keeps_all fun cdv A outer s H E hr hcd =>
  (pu_seq (by first | exact pu_setDz (x := "row") (y := "voice") (n := 2) rfl hr (by decide) rfl sc_keeps_all.nd rfl rfl (by rfl) (pu_iZp (by rfl) FX.z_zip (pu_gW (by rfl) FX.c_SMALL_ROWS) (pvD 0)) (by show L2.BlkOk ["table", "wanted", "told", "promise", "check", "row", "voice"] (defScope s_keeps_all) _ [("row", 5), ("voice", 6)]; exact ⟨rfl, by decide +kernel, by decide +kernel, by decide +kernel, by decide +kernel⟩) (fun _ _ _ _ _ => pg_tup rfl (pgs_cons (pg_name (i := 5) sc_keeps_all.nd rfl (by first | exact .inl rfl | exact .inr rfl)) (pgs_cons (pg_name (i := 6) sc_keeps_all.nd rfl (by first | exact .inl rfl | exact .inr rfl)) pgs_nil))) (fun _ _ _ _ _ => pe_var (i := 5) rfl (by first | exact Or.inl rfl | exact Or.inr (Or.inl rfl) | exact Or.inr (Or.inr rfl))) (fun _ _ _ _ _ => pe_var (i := 6) rfl (by first | exact Or.inl rfl | exact Or.inr (Or.inl rfl) | exact Or.inr (Or.inr rfl))) | exact pu_set (i := 2) sc_keeps_all.nd rfl (by first | exact .inl rfl | exact .inr rfl) (pu_dz (x := "row") (y := "voice") rfl hr (by decide) rfl sc_keeps_all.nd (pu_iZp (by rfl) FX.z_zip (pu_gW (by rfl) FX.c_SMALL_ROWS) (pvD 0)) (by show L2.BlkOk ["table", "wanted", "told", "promise", "check", "row", "voice"] (defScope s_keeps_all) _ [("row", 5), ("voice", 6)]; exact ⟨rfl, by decide +kernel, by decide +kernel, by decide +kernel, by decide +kernel⟩) (fun _ _ _ _ _ => pg_tup rfl (pgs_cons (pg_name (i := 5) sc_keeps_all.nd rfl (by first | exact .inl rfl | exact .inr rfl)) (pgs_cons (pg_name (i := 6) sc_keeps_all.nd rfl (by first | exact .inl rfl | exact .inr rfl)) pgs_nil))) (fun _ _ _ _ _ => pe_var (i := 5) rfl (by first | exact Or.inl rfl | exact Or.inr (Or.inl rfl) | exact Or.inr (Or.inr rfl))) (fun _ _ _ _ _ => pe_var (i := 6) rfl (by first | exact Or.inl rfl | exact Or.inr (Or.inl rfl) | exact Or.inr (Or.inr rfl)))))
  (pu_seq (pu_for PassesOwn.never rfl (pu_iS (pvD 1)) (pg_name (i := 3) sc_keeps_all.nd rfl (by first | exact .inl rfl | exact .inr rfl)) (pu_seq (pu_set (i := 4) sc_keeps_all.nd rfl (by first | exact .inl rfl | exact .inr rfl) (pu_ixK (by rfl) FX.g_CHECKS FX.k_CHECKS (pvD 3)))
    (pu_last (pu_ifS (DL.pt_not (pt_v (pu_callN (i := 4) (hF_CHECKS FX TB) (hr.mono (by decide)) rfl (by first | exact Or.inl rfl | exact Or.inr (Or.inl rfl) | exact Or.inr (Or.inr rfl)) (pu_cons (pvD 2) pu_nil)))) (pu_last (pu_ret pu_bl)) pu_snil))))
  (pu_last (pu_ret pu_bl))))
theorem ok_by_parts : FnOk P w K mg base CX0 1 FX.a_by_parts FX.d_by_parts ["small", "row"] (spD K T mg 2 (F_by_parts FX.Gam)) := okD FX.F_by_parts sc_by_parts fun cdv A outer s H E hr hcd =>
  (pu_seq (by first | exact pu_setDz (x := "short") (y := "voice") (n := 2) rfl hr (by decide) rfl sc_by_parts.nd rfl rfl (by rfl) (pu_iZp (by rfl) FX.z_zip (pu_gW (by rfl) FX.c_SMALL_ROWS) (pvD 0)) (by show L2.BlkOk ["small", "row", "told", "now", "voice", "short"] (defScope s_by_parts) _ [("short", 5), ("voice", 4)]; exact ⟨rfl, by decide +kernel, by decide +kernel, by decide +kernel, by decide +kernel⟩) (fun _ _ _ _ _ => pg_tup rfl (pgs_cons (pg_name (i := 5) sc_by_parts.nd rfl (by first | exact .inl rfl | exact .inr rfl)) (pgs_cons (pg_name (i := 4) sc_by_parts.nd rfl (by first | exact .inl rfl | exact .inr rfl)) pgs_nil))) (fun _ _ _ _ _ => pe_var (i := 5) rfl (by first | exact Or.inl rfl | exact Or.inr (Or.inl rfl) | exact Or.inr (Or.inr rfl))) (fun _ _ _ _ _ => pe_var (i := 4) rfl (by first | exact Or.inl rfl | exact Or.inr (Or.inl rfl) | exact Or.inr (Or.inr rfl))) | exact pu_set (i := 2) sc_by_parts.nd rfl (by first | exact .inl rfl | exact .inr rfl) (pu_dz (x := "short") (y := "voice") rfl hr (by decide) rfl sc_by_parts.nd (pu_iZp (by rfl) FX.z_zip (pu_gW (by rfl) FX.c_SMALL_ROWS) (pvD 0)) (by show L2.BlkOk ["small", "row", "told", "now", "voice", "short"] (defScope s_by_parts) _ [("short", 5), ("voice", 4)]; exact ⟨rfl, by decide +kernel, by decide +kernel, by decide +kernel, by decide +kernel⟩) (fun _ _ _ _ _ => pg_tup rfl (pgs_cons (pg_name (i := 5) sc_by_parts.nd rfl (by first | exact .inl rfl | exact .inr rfl)) (pgs_cons (pg_name (i := 4) sc_by_parts.nd rfl (by first | exact .inl rfl | exact .inr rfl)) pgs_nil))) (fun _ _ _ _ _ => pe_var (i := 5) rfl (by first | exact Or.inl rfl | exact Or.inr (Or.inl rfl) | exact Or.inr (Or.inr rfl))) (fun _ _ _ _ _ => pe_var (i := 4) rfl (by first | exact Or.inl rfl | exact Or.inr (Or.inl rfl) | exact Or.inr (Or.inr rfl)))))
  (pu_seq (pu_set (i := 3) sc_by_parts.nd rfl (by first | exact .inl rfl | exact .inr rfl) (pu_ixT rfl hr (pvD 2) (pu_slice (pvD 1) puo_no (puo_so pu_int))))
  (pu_seq (pu_for PassesOwn.never rfl (pu_iS (pu_slice (pvD 1) (puo_so pu_int) puo_no)) (pg_name (i := 4) sc_by_parts.nd rfl (by first | exact .inl rfl | exact .inr rfl)) (pu_last (pu_set (i := 3) sc_by_parts.nd rfl (by first | exact .inl rfl | exact .inr rfl) (pu_ixT rfl hr (pvD 2) (pu_tup (pu_cons (pvD 3) (pu_cons (pu_ixT rfl hr (pvD 2) (pu_tup (pu_cons (pvD 4) pu_nil) (hl := by first | decide | exact Nat.le_of_ble_eq_true rfl))) pu_nil)) (hl := by first | decide | exact Nat.le_of_ble_eq_true rfl))))))
  (pu_last (pu_ret (pvD 3))))))
theorem ok_is_parts : FnOk P w K mg base CX0 3 FX.a_is_parts FX.d_is_parts ["small"] (spD K T mg 1 (F_is_parts FX.Gam)) := okD FX.F_is_parts sc_is_parts fun cdv A outer s H E hr hcd =>
  (pu_seq (pu_ifS ((DL.pw_or (DL.pt_not (pt_v (pu_isi1 (by rfl) FX.z_isinstance (pvD 0) (by rfl) FX.z_tuple PyProof.Rows.boot_tuple))) (DL.pw_oneO (DL.pt_cmp (od_ne hr) (pu_callB cd_len (pvD 0) (by rfl) FX.z_len PySem.boot_len) (pu_gc (by rfl) FX.c__TOLD fun _ => .int) (by rfl))))).pt (pu_last (pu_ret pu_bl)) pu_snil)
  (pu_seq (pu_ifS (DL.pt_not (pt_v (pu_all hr rfl (by rfl) FX.z_all (by decide +kernel) (TB _ FX.m_is_parts.1) FX.m_is_parts.2 (hcd.symm.trans FX.e_is_parts) (by show GX.GOk ["small", "table", "item", "row"] (defScope s_is_parts) _ [("item", 2)]; exact ⟨rfl, rfl, by decide +kernel, by decide +kernel, by decide +kernel, by decide +kernel, by decide +kernel⟩) sc_is_parts.nd (pu_iS (pvD 0)) (fun _ _ _ _ _ _ => pg_name (i := 2) sc_is_parts.nd rfl (by first | exact .inl rfl | exact .inr rfl)) (fun _ _ _ _ _ _ hg0 => pts_no) (fun _ _ _ _ _ _ hg0 => (pu_cmp (od_in hg0) (pvD 2) (pu_gW (by rfl) FX.c_VOICES) (by rfl)))))) (pu_last (pu_ret pu_bl)) pu_snil)
  (pu_seq (pu_set (i := 1) sc_is_parts.nd rfl (by first | exact .inl rfl | exact .inr rfl) (pu_bin od_add (pvD 0) (pu_tupG hr rfl (by rfl) FX.z_tuple PyProof.Rows.boot_tuple (TB _ FX.m_is_parts.1) FX.m_is_parts.2 (hcd.symm.trans FX.e_is_parts) (by show GX.GOk ["small", "table", "item", "row"] (defScope s_is_parts) _ [("row", 3)]; exact ⟨rfl, rfl, by decide +kernel, by decide +kernel, by decide +kernel, by decide +kernel, by decide +kernel⟩) sc_is_parts.nd (pu_iS (pu_slice (pu_gW (by rfl) FX.c_SMALL_ROWS) (puo_so (pu_gc (by rfl) FX.c__TOLD fun _ => .int)) puo_no)) (fun _ _ _ _ _ _ => pg_name (i := 3) sc_is_parts.nd rfl (by first | exact .inl rfl | exact .inr rfl)) (fun _ _ _ _ _ _ hg0 => pts_no) (fun _ _ _ _ _ _ hg0 => (pu_call (ok_by_parts FX TB) (hg0.mono (by decide)) (by rfl) FX.g_by_parts FX.F_by_parts.kp FX.b_by_parts passD (pu_cons (pvD 0) (pu_cons (pvD 3) pu_nil)))))))
  (pu_last (pu_ret (pu_call (ok_keeps_all FX TB) (hr.mono (by decide)) (by rfl) FX.g_keeps_all FX.F_keeps_all.kp FX.b_keeps_all passD (pu_cons (pvD 1) (pu_cons (pu_tup (pu_cons (pu_str (by rfl)) pu_nil) (hl := by first | decide | exact Nat.le_of_ble_eq_true rfl)) pu_nil))))))))
theorem ok_parts_ways : FnOk P w K mg base CX0 5 FX.a_parts_ways FX.d_parts_ways [] (spD K T mg 0 (F_parts_ways FX.Gam)) := okD FX.F_parts_ways sc_parts_ways fun cdv A outer s H E hr hcd =>
  (pu_last (pu_ret (pu_tupG hr rfl (by rfl) FX.z_tuple PyProof.Rows.boot_tuple (TB _ FX.m_parts_ways.1) FX.m_parts_ways.2 (hcd.symm.trans FX.e_parts_ways) (by show GX.GOk ["small"] (defScope s_parts_ways) _ [("small", 0)]; exact ⟨rfl, rfl, by decide +kernel, by decide +kernel, by decide +kernel, by decide +kernel, by decide +kernel⟩) sc_parts_ways.nd (pu_iS (pu_call (ok_with_more FX TB) (hr.mono (by decide)) (by rfl) FX.g_with_more FX.F_with_more.kp FX.b_with_more passD (pu_cons (pu_lst (pu_cons (pu_tup pu_nil (hl := by first | decide | exact Nat.le_of_ble_eq_true rfl)) pu_nil) (hl := by first | decide | exact Nat.le_of_ble_eq_true rfl)) (pu_cons (pu_gc (by rfl) FX.c__TOLD fun _ => .int) pu_nil)))) (fun _ _ _ _ _ _ => pg_name (i := 0) sc_parts_ways.nd rfl (by first | exact .inl rfl | exact .inr rfl)) (fun _ _ _ _ _ _ hg0 => (pts_yes (pt_v (pu_call (ok_is_parts FX TB) (hg0.mono (by decide)) (by rfl) FX.g_is_parts FX.F_is_parts.kp FX.b_is_parts passD (pu_cons (pvD 0) pu_nil))))) (fun _ _ _ _ _ _ hg0 => (pvD 0)))))
theorem ok_parts_answer : FnOk P w K mg base (L2N.CX P w) 4 FX.a_parts_answer FX.d_parts_answer ["small", "row"] (spD K T mg 2 (F_parts_answer FX.Gam)) := okXN FX.F_parts_answer sc_parts_answer fun cdv A outer s H E hr hcd =>
  (pu_seq (pu_ifS (DL.pt_not (pt_v (pu_call (ok_is_parts FX TB) (hr.mono (by decide)) (by rfl) FX.g_is_parts FX.F_is_parts.kp FX.b_is_parts passD (pu_cons (pvD 0) pu_nil)))) (pu_last (pu_rz (by rfl) (pu_raiseN rfl takesXN FX.x_NotParts (by rfl)))) pu_snil)
  (pu_seq (pu_expr (pu_call (ok_check_row FX TB) (hr.mono (by decide)) (by rfl) FX.g_check_row FX.F_check_row.kp FX.b_check_row passD (pu_cons (pvD 1) pu_nil)))
  (pu_last (pu_ret (pu_call (ok_by_parts FX TB) (hr.mono (by decide)) (by rfl) FX.g_by_parts FX.F_by_parts.kp FX.b_by_parts passD (pu_cons (pvD 0) (pu_cons (pvD 1) pu_nil)))))))
theorem ok_law_taken : FnOk P w K mg base CX0 1 FX.a_law_taken FX.d_law_taken ["row", "many"] (spD K T mg 2 (F_law_taken FX.Gam)) := okD FX.F_law_taken sc_law_taken fun cdv A outer s H E hr hcd =>
  (pu_seq (pu_ifS (DL.pt_cmp od_gt (pu_rowG (i := 0) rfl (Or.inl rfl)) pu_int (by rfl)) (pu_seq (pu_set (i := 2) sc_law_taken.nd rfl (by first | exact .inl rfl | exact .inr rfl) (pu_bin od_mod (pu_callT cd_int (pu_rowG (i := 0) rfl (Or.inl rfl)) (by rfl) FX.z_int PyProof.Rows.boot_int) (pvD 1)))
    (pu_seq (pu_rowS (i := 0) rfl (Or.inl rfl) (pu_bin od_fdiv (pu_rowG (i := 0) rfl (Or.inl rfl)) (pvD 1)))
    (pu_last (pu_ret (pvD 2))))) pu_snil)
  (pu_seq (pu_rowS (i := 0) rfl (Or.inl rfl) (pu_bin od_add (pu_rowG (i := 0) rfl (Or.inl rfl)) pu_int))
  (pu_seq (pu_ifS (DL.pt_cmp od_gt (pu_rowG (i := 0) rfl (Or.inl rfl)) (pu_rowL (i := 0) (by rfl) FX.z_len rfl (Or.inl rfl)) (by rfl)) (pu_seq (pu_rowS (i := 0) rfl (Or.inl rfl) (pu_bin od_mod (pu_callT cd_int (pu_bin od_add (pu_bin od_mulI (pu_rowG (i := 0) rfl (Or.inl rfl)) pu_int) pu_int) (by rfl) FX.z_int PyProof.Rows.boot_int) pu_int))
    (pu_last (pu_ret (pu_bin od_mod (pu_callT cd_int (pu_bin od_fdiv (pu_rowG (i := 0) rfl (Or.inl rfl)) pu_int) (by rfl) FX.z_int PyProof.Rows.boot_int) (pvD 1))))) pu_snil)
  (pu_seq (pu_set (i := 3) sc_law_taken.nd rfl (by first | exact .inl rfl | exact .inr rfl) (pu_rowC (i := 0) rfl (Or.inl rfl) (pu_bin od_sub (pu_rowG (i := 0) rfl (Or.inl rfl)) pu_int)))
  (pu_seq (pu_rowS (i := 0) rfl (Or.inl rfl) (pu_bin od_mod (pu_callT cd_int (pu_bin od_add (pu_bin od_add (pu_bin od_mulI (pu_rowG (i := 0) rfl (Or.inl rfl)) pu_int) (pvD 3)) pu_int) (by rfl) FX.z_int PyProof.Rows.boot_int) pu_int))
  (pu_seq (pu_ifS (DL.pt_cmp od_ge (pvD 3) (pu_bin od_pow pu_int pu_int) (by rfl)) (pu_last (pu_rowS (i := 0) rfl (Or.inl rfl) (pu_bin od_fdiv (pvD 3) (pvD 1)))) pu_snil)
  (pu_last (pu_ret (pu_bin od_mod (pu_callT cd_int (pvD 3) (by rfl) FX.z_int PyProof.Rows.boot_int) (pvD 1))))))))))
theorem ok_law_pick : FnOk P w K mg base CX0 2 FX.a_law_pick FX.d_law_pick ["row", "kinds"] (spD K T mg 2 (F_law_pick FX.Gam)) := okD FX.F_law_pick sc_law_pick fun cdv A outer s H E hr hcd =>
  (pu_last (pu_ret (pu_ix hr (pvD 1) (pu_call (ok_law_taken FX TB) (hr.mono (by decide)) (by rfl) FX.g_law_taken FX.F_law_taken.kp FX.b_law_taken passD (pu_cons (pvD 0) (pu_cons (pu_callB cd_len (pvD 1) (by rfl) FX.z_len PySem.boot_len) pu_nil))))))
theorem ok_law_alike : ∀ n : Nat, FnOk P w K mg base CX0 (n + 1) FX.a_law_alike FX.d_law_alike ["found", "due"] (spD K T mg 2 (F_law_alike FX.Gam n))
  | 0 => okD FX.F_law_alike sc_law_alike fun cdv A outer s H E hr hcd => pus_bad
  | n + 1 => by
    have hrec := ok_law_alike n
    exact okD FX.F_law_alike sc_law_alike fun cdv A outer s H E hr hcd =>
  (pu_seq (pu_ifS (pt_v (pu_isi (by rfl) FX.z_isinstance (pvD 1) (bt_cons (by rfl) FX.z_tuple PyProof.Rows.boot_tuple (bt_cons (by rfl) FX.z_list PyProof.Rows.boot_list bt_nil)))) (pu_seq (pu_ifS ((DL.pw_or (DL.pt_not (pt_v (pu_isi (by rfl) FX.z_isinstance (pvD 0) (bt_cons (by rfl) FX.z_tuple PyProof.Rows.boot_tuple (bt_cons (by rfl) FX.z_list PyProof.Rows.boot_list bt_nil))))) (DL.pw_oneO (DL.pt_cmp (od_ne hr) (pu_isi1 (by rfl) FX.z_isinstance (pvD 0) (by rfl) FX.z_list PyProof.Rows.boot_list) (pu_isi1 (by rfl) FX.z_isinstance (pvD 1) (by rfl) FX.z_list PyProof.Rows.boot_list) (by rfl))))).pt (pu_last (pu_ret pu_bl)) pu_snil)
    (pu_seq (pu_ifS (DL.pt_cmp (od_ne hr) (pu_callB cd_len (pvD 0) (by rfl) FX.z_len PySem.boot_len) (pu_callB cd_len (pvD 1) (by rfl) FX.z_len PySem.boot_len) (by rfl)) (pu_last (pu_ret pu_bl)) pu_snil)
    (pu_last (pu_ret (pu_cmp (od_eq hr) (pu_lc (x := "k") rfl sc_law_alike.nd (pu_iR1 (by rfl) FX.z_range (pu_callB cd_len (pvD 1) (by rfl) FX.z_len PySem.boot_len)) (by show L2.BlkOk ["found", "due", "k"] (defScope s_law_alike) _ [("k", 2)]; exact ⟨rfl, by decide +kernel, by decide +kernel, by decide +kernel, by decide +kernel⟩) (fun _ _ _ _ _ => pg_name (i := 2) sc_law_alike.nd rfl (by first | exact .inl rfl | exact .inr rfl)) (fun _ _ _ _ _ => (pts_yes (DL.pt_not (pt_v (pu_call hrec hr (by rfl) FX.g_law_alike FX.F_law_alike.kp FX.b_law_alike passD (pu_cons (pu_ix hr (pvD 0) (pvD 2)) (pu_cons (pu_ix hr (pvD 1) (pvD 2)) pu_nil))))))) (fun _ _ _ _ _ => (pvD 2))) (pu_lst pu_nil (hl := by first | decide | exact Nat.le_of_ble_eq_true rfl)) (by rfl)))))) pu_snil)
  (pu_seq (pu_ifS ((DL.pw_or (DL.pt_cmp od_is (pvD 1) pu_non (by rfl)) (DL.pw_oneO (pt_v (pu_isi1 (by rfl) FX.z_isinstance (pvD 1) (by rfl) FX.z_str PyProof.Rows.boot_str))))).pt (pu_last (pu_ret (pu_and (pu_cmp (od_eq hr) (pvD 0) (pvD 1) (by rfl)) (pu_one (pu_cmp (od_eq hr) (pu_isi1 (by rfl) FX.z_isinstance (pvD 0) (by rfl) FX.z_str PyProof.Rows.boot_str) (pu_isi1 (by rfl) FX.z_isinstance (pvD 1) (by rfl) FX.z_str PyProof.Rows.boot_str) (by rfl)))))) pu_snil)
  (pu_last (pu_ret (pu_and (pu_isi1 (by rfl) FX.z_isinstance (pvD 0) (by rfl) FX.z_int PyProof.Rows.boot_int) (pu_and (pu_cmp (od_eq hr) (pu_isi1 (by rfl) FX.z_isinstance (pvD 0) (by rfl) FX.z_bool (by decide +kernel)) (pu_isi1 (by rfl) FX.z_isinstance (pvD 1) (by rfl) FX.z_bool (by decide +kernel)) (by rfl)) (pu_one (pu_cmp (od_eq hr) (pvD 0) (pvD 1) (by rfl)))))))))
theorem ok_law_is : FnOk P w K mg base CX0 1 FX.a_law_is FX.d_law_is ["found", "due"] (spD K T mg 2 (F_law_is FX.Gam)) := okD FX.F_law_is sc_law_is fun cdv A outer s H E hr hcd =>
  (pu_last (pu_ret (pu_and (pu_isi1 (by rfl) FX.z_isinstance (pvD 0) (by rfl) FX.z_bool (by decide +kernel)) (pu_one (pu_cmp (od_eq hr) (pvD 0) (pvD 1) (by rfl))))))
theorem ok_law_rows : FnOk P w K mg base CX0 1 FX.a_law_rows FX.d_law_rows ["length"] (spD K T mg 1 (F_law_rows FX.Gam)) := okD FX.F_law_rows sc_law_rows fun cdv A outer s H E hr hcd =>
  (pu_seq (pu_set (i := 1) sc_law_rows.nd rfl (by first | exact .inl rfl | exact .inr rfl) (pu_lst (pu_cons (pu_str (by rfl)) pu_nil) (hl := by first | decide | exact Nat.le_of_ble_eq_true rfl)))
  (pu_seq (pu_for PassesOwn.never rfl (pu_iR1 (by rfl) FX.z_range (pvD 0)) (pg_name (i := 2) sc_law_rows.nd rfl (by first | exact .inl rfl | exact .inr rfl)) (pu_seq (pu_set (i := 3) sc_law_rows.nd rfl (by first | exact .inl rfl | exact .inr rfl) (pu_lst pu_nil (hl := by first | decide | exact Nat.le_of_ble_eq_true rfl)))
    (pu_seq (pu_for PassesOwn.never rfl (pu_iS (pvD 1)) (pg_name (i := 4) sc_law_rows.nd rfl (by first | exact .inl rfl | exact .inr rfl)) (pu_last (pu_set (i := 3) sc_law_rows.nd rfl (by first | exact .inl rfl | exact .inr rfl) (pu_bin od_add (pvD 3) (pu_lst (pu_cons (pu_bin od_add (pvD 4) (pu_str (by rfl))) (pu_cons (pu_bin od_add (pvD 4) (pu_str (by rfl))) pu_nil)) (hl := by first | decide | exact Nat.le_of_ble_eq_true rfl))))))
    (pu_last (pu_set (i := 1) sc_law_rows.nd rfl (by first | exact .inl rfl | exact .inr rfl) (pvD 3))))))
  (pu_last (pu_ret (pvD 1)))))
theorem ok_law_short : FnOk P w K mg base CX0 2 FX.a_law_short FX.d_law_short ["most"] (spD K T mg 1 (F_law_short FX.Gam)) := okD FX.F_law_short sc_law_short fun cdv A outer s H E hr hcd =>
  (pu_seq (pu_set (i := 1) sc_law_short.nd rfl (by first | exact .inl rfl | exact .inr rfl) (pu_lst pu_nil (hl := by first | decide | exact Nat.le_of_ble_eq_true rfl)))
  (pu_seq (pu_for PassesOwn.never rfl (pu_iR2 (by rfl) FX.z_range pu_int (pu_bin od_add (pvD 0) pu_int)) (pg_name (i := 2) sc_law_short.nd rfl (by first | exact .inl rfl | exact .inr rfl)) (pu_last (pu_set (i := 1) sc_law_short.nd rfl (by first | exact .inl rfl | exact .inr rfl) (pu_bin od_add (pvD 1) (pu_call (ok_law_rows FX TB) (hr.mono (by decide)) (by rfl) FX.g_law_rows FX.F_law_rows.kp FX.b_law_rows passD (pu_cons (pvD 2) pu_nil))))))
  (pu_last (pu_ret (pvD 1)))))
theorem ok_law_row : FnOk P w K mg base CX0 3 FX.a_law_row FX.d_law_row ["row", "most"] (spD K T mg 2 (F_law_row FX.Gam)) := okD FX.F_law_row sc_law_row fun cdv A outer s H E hr hcd =>
  (pu_last (pu_ret (pu_m1 md_join PySem.F.slot_str_join PySem.F.type_str_join (pu_str (by rfl)) (pu_lc (x := "turn") rfl sc_law_row.nd (pu_iR1 (by rfl) FX.z_range (pu_bin od_add pu_int (pu_call (ok_law_taken FX TB) (hr.mono (by decide)) (by rfl) FX.g_law_taken FX.F_law_taken.kp FX.b_law_taken passD (pu_cons (pvD 0) (pu_cons (pvD 1) pu_nil))))) (by show L2.BlkOk ["row", "most", "turn"] (defScope s_law_row) _ [("turn", 2)]; exact ⟨rfl, by decide +kernel, by decide +kernel, by decide +kernel, by decide +kernel⟩) (fun _ _ _ _ _ => pg_name (i := 2) sc_law_row.nd rfl (by first | exact .inl rfl | exact .inr rfl)) (fun _ _ _ _ _ => pts_no) (fun _ _ _ _ _ => (pu_call (ok_law_pick FX TB) (hr.mono (by decide)) (by rfl) FX.g_law_pick FX.F_law_pick.kp FX.b_law_pick passD (pu_cons (pvD 0) (pu_cons (pu_lst (pu_cons (pu_str (by rfl)) (pu_cons (pu_str (by rfl)) pu_nil)) (hl := by first | decide | exact Nat.le_of_ble_eq_true rfl)) pu_nil))))))))
theorem ok_law_word : FnOk P w K mg base CX0 1 FX.a_law_word FX.d_law_word ["sign"] (spD K T mg 1 (F_law_word FX.Gam)) := okD FX.F_law_word sc_law_word fun cdv A outer s H E hr hcd =>
  (pu_last (pu_ret (pu_ix hr (pu_disp (ppd_cons (by rfl) (pu_str (by rfl)) (ppd_cons (by rfl) (pu_str (by rfl)) ppd_nil))) (pvD 0))))
theorem ok_law_voices : FnOk P w K mg base CX0 2 FX.a_law_voices FX.d_law_voices ["text"] (spD K T mg 1 (F_law_voices FX.Gam)) := okD FX.F_law_voices sc_law_voices fun cdv A outer s H E hr hcd =>
  (pu_last (pu_ret (pu_callT cd_tuple (pu_lc (x := "sign") rfl sc_law_voices.nd (pu_iS (pvD 0)) (by show L2.BlkOk ["text", "sign"] (defScope s_law_voices) _ [("sign", 1)]; exact ⟨rfl, by decide +kernel, by decide +kernel, by decide +kernel, by decide +kernel⟩) (fun _ _ _ _ _ => pg_name (i := 1) sc_law_voices.nd rfl (by first | exact .inl rfl | exact .inr rfl)) (fun _ _ _ _ _ => pts_no) (fun _ _ _ _ _ => (pu_call (ok_law_word FX TB) (hr.mono (by decide)) (by rfl) FX.g_law_word FX.F_law_word.kp FX.b_law_word passD (pu_cons (pvD 1) pu_nil)))) (by rfl) FX.z_tuple PyProof.Rows.boot_tuple)))
theorem ok_law_by_parts : ∀ n : Nat, FnOk P w K mg base CX0 (n + 2) FX.a_law_by_parts FX.d_law_by_parts ["told", "text", "row"] (spD K T mg 3 (F_law_by_parts FX.Gam n))
  | 0 => okD FX.F_law_by_parts sc_law_by_parts fun cdv A outer s H E hr hcd => pus_bad
  | n + 1 => by
    have hrec := ok_law_by_parts n
    exact okD FX.F_law_by_parts sc_law_by_parts fun cdv A outer s H E hr hcd =>
  (pu_seq (pu_ifS (DL.pt_cmp od_lt (pu_callB cd_len (pvD 1) (by rfl) FX.z_len PySem.boot_len) pu_int (by rfl)) (pu_last (pu_ret (pu_ix hr (pvD 0) (pvD 1)))) pu_snil)
  (pu_seq (pu_set (i := 3) sc_law_by_parts.nd rfl (by first | exact .inl rfl | exact .inr rfl) (pu_bin od_add pu_int (pu_call (ok_law_taken FX TB) (hr.mono (by omega)) (by rfl) FX.g_law_taken FX.F_law_taken.kp FX.b_law_taken passD (pu_cons (pvD 2) (pu_cons (pu_bin od_sub (pu_callB cd_len (pvD 1) (by rfl) FX.z_len PySem.boot_len) pu_int) pu_nil)))))
  (pu_last (pu_ret (pu_ix hr (pvD 0) (pu_bin od_add (pu_call hrec hr (by rfl) FX.g_law_by_parts FX.F_law_by_parts.kp FX.b_law_by_parts passD (pu_cons (pvD 0) (pu_cons (pu_slice (pvD 1) puo_no (puo_so (pvD 3))) (pu_cons (pvD 2) pu_nil)))) (pu_call hrec hr (by rfl) FX.g_law_by_parts FX.F_law_by_parts.kp FX.b_law_by_parts passD (pu_cons (pvD 0) (pu_cons (pu_slice (pvD 1) (puo_so (pvD 3)) puo_no) (pu_cons (pvD 2) pu_nil))))))))))
theorem ok_law_is_whole : FnOk P w K mg base CX0 2 FX.a_law_is_whole FX.d_law_is_whole ["told"] (spD K T mg 1 (F_law_is_whole FX.Gam)) := okD FX.F_law_is_whole sc_law_is_whole fun cdv A outer s H E hr hcd =>
  (pu_seq (pu_for PassesOwn.never rfl (pu_iS (pu_call (ok_law_rows FX TB) (hr.mono (by decide)) (by rfl) FX.g_law_rows FX.F_law_rows.kp FX.b_law_rows passD (pu_cons pu_int pu_nil))) (pg_name (i := 1) sc_law_is_whole.nd rfl (by first | exact .inl rfl | exact .inr rfl)) (pu_last (pu_ifS (DL.pt_cmp (od_ne hr) (pu_ix hr (pvD 0) (pvD 1)) (pu_ix hr (pvD 0) (pu_bin od_add (pu_ix hr (pvD 0) (pu_ix hr (pvD 1) pu_int)) (pu_ix hr (pvD 0) (pu_ix hr (pvD 1) pu_int)))) (by rfl)) (pu_last (pu_ret pu_bl)) pu_snil)))
  (pu_seq (pu_for PassesOwn.never rfl (pu_iS (pu_call (ok_law_rows FX TB) (hr.mono (by decide)) (by rfl) FX.g_law_rows FX.F_law_rows.kp FX.b_law_rows passD (pu_cons pu_int pu_nil))) (pg_name (i := 1) sc_law_is_whole.nd rfl (by first | exact .inl rfl | exact .inr rfl)) (pu_last (pu_ifS (DL.pt_cmp (od_ne hr) (pu_ix hr (pvD 0) (pu_bin od_add (pu_ix hr (pvD 0) (pu_slice (pvD 1) puo_no (puo_so pu_int))) (pu_ix hr (pvD 0) (pu_ix hr (pvD 1) pu_int)))) (pu_ix hr (pvD 0) (pu_bin od_add (pu_ix hr (pvD 0) (pu_ix hr (pvD 1) pu_int)) (pu_ix hr (pvD 0) (pu_slice (pvD 1) (puo_so pu_int) puo_no)))) (by rfl)) (pu_last (pu_ret pu_bl)) pu_snil)))
  (pu_last (pu_ret pu_bl))))
end
noncomputable def B_law (Γ : Cfg) : SM :=
  sSeq (sUn 2)
  (sSeq (sNewPL 2 3 (eCall (F_law_short Γ) [eC (.int (2))]))
  (sSeq (sFor 4 (iS (eCall (F_law_rows Γ) [eC (.int (6))])) (sIf (tV (eCall (F_law_is_whole Γ) [e1 (op1 dictD) (e2 (op2 lzD) (eV 3) (eV 4))])) (sAppO 2 (eV 4)) (sNil)))
  (sSeq (sUn 2)
  (sSeq (sIf (tOr (tNot (tV (eCall (F_law_alike Γ 3) [eCall (F_parts_ways Γ) [], e1 (op1 tupD) (eLc 4 (iS (eV 2)) (tYesD) (eCall (F_law_voices Γ) [eV 4]))]))) (tV (e2 (op2 neD) (e1 (op1 lenD) (eV 2)) (eC (.int (16)))))) (sRet (eC (.bl false))) (sNil))
  (sSeq (sPar 4 5 (eCall (F_law_pick Γ) [eV 1, eV 2]) (eCall (F_law_row Γ) [eV 1, eC (.int (12))]))
  (sSeq (sSet 6 (e1 (op1 dictD) (e2 (op2 lzD) (eV 3) (eV 4))))
  (sSeq (sFor 7 (iR1 (eC (.int (3)))) (sIf (tNot (tV (eCall (F_law_alike Γ 3) [eCall (F_parts_answer Γ) [eCall (F_law_voices Γ) [eV 4], eCall (F_law_voices Γ) [eV 5]], eCall (F_law_word Γ) [eCall (F_law_by_parts Γ 12) [eV 6, eV 5, eV 1]]]))) (sRet (eC (.bl false))) (sNil)))
  (sSeq (sSet 8 (eCall (F_law_pick Γ) [eV 1, eCall (F_law_rows Γ) [eC (.int (6))]]))
  (sSeq (sIf (tNot (tV (eCall (F_law_is Γ) [eCall (F_is_parts Γ) [eCall (F_law_voices Γ) [eV 8]], e2 (op2 inD) (eV 8) (eV 2)]))) (sRet (eC (.bl false))) (sNil))
  (sSeq (sSet 9 (eCall (F_law_pick Γ) [eV 1, eLst [eC .non, eTup [], e1 (op1 listD) (eCall (F_law_voices Γ) [eV 4]), eSl (eCall (F_law_voices Γ) [eV 4]) pNo (pSo (eC (.int (5)))), e2 (op2 addD) (eCall (F_law_voices Γ) [eV 4]) (eTup [eC (.str [100, 101, 110, 121])]), e2 (op2 addW) (e2 (op2 repW) (eTup [eC (.str [97, 108, 108, 111, 119])]) (eC (.int (5)))) (eTup [eC .non]), eC (.str [97, 108, 108, 111, 119])]]))
  (sSeq (sIf (tV (e2 (op2 isNotD) (eCall (F_is_parts Γ) [eV 9]) (eC (.bl false)))) (sRet (eC (.bl false))) (sNil))
  (sSeq (sTryIs 10 (fun y => y == ("NotParts" : Str)) (F_parts_answer Γ) [eIf (tOr (tV (e2 (op2 eqD) (eCall (F_law_taken Γ) [eV 1, eC (.int (2))]) (eC (.int (0))))) (tV (e2 (op2 inD) (eV 8) (eV 2)))) (eV 9) (eCall (F_law_voices Γ) [eV 8]), eC .non] (e2 (op2 eqD) (e1 (op1 lenD) (eLc 11 (iL (eV 2)) (tV (e2 (op2 eqD) (e2 (op2 addD) (e2 (op2 addD) (e2 (op2 addD) (e2 (op2 ixS) (eV 11) (eC (.int (0)))) (e2 (op2 ixS) (eV 11) (eC (.int (1))))) (e2 (op2 ixS) (eV 11) (eC (.int (2))))) (e2 (op2 ixS) (eV 11) (eC (.int (5))))) (eC (.str [43, 45, 43, 45])))) (eV 11))) (eC (.int (4)))))
  (sRet (eC (.bl false)))))))))))))))
section
variable {P : Program} {w : World} {K : PySem.W.Frag} {mg : Str → Option Value} {base : Heap} {T : Tb} {CS : List (Addr × Addr)} (FX : Fx w K mg T CS) (TB : ∀ p ∈ CS, GxR.TabB base mg p.1 p.2)
include FX TB
theorem ok_law (hT : ∀ P ∈ T, P ∈ CS.map (·.2)) (hL : ∀ p ∈ T.ls, p.1 ∈ CS.map (·.2)) (hD : ∀ p ∈ T.ls, ¬ p.1 ∈ T) (hm : ∀ ns : List Int, ns.length ≤ 63 → (∀ z ∈ ns, Builtin.Int.intBits z ≤ 1048576) → ∃ z', B_law FX.Gam (rhoL 12) ⟨ns, 0, 15606, 0⟩ = .rt (.bl true) z') : FnOk P w K mg base CX0 15 FX.a_law FX.d_law ["script"] (spLaw K CS) :=
  ok_lawD FX.F_law sc_law rfl rfl rfl (by decide) (by decide) (fun _ _ _ _ _ _ => by rfl) (fun cdv A outer s H E hr hcd =>
  (pu_sun (i := 2)
  (pu_newPL (i := 2) (j := 3) sc_law.nd rfl rfl rfl rfl (by decide) (pu_call (ok_law_short FX TB) (hr.mono (by decide)) (by rfl) FX.g_law_short FX.F_law_short.kp FX.b_law_short passD (pu_cons pu_int pu_nil))
  (pu_seq (pu_for PassesOwn.never rfl (pu_iS (pu_call (ok_law_rows FX TB) (hr.mono (by decide)) (by rfl) FX.g_law_rows FX.F_law_rows.kp FX.b_law_rows passD (pu_cons pu_int pu_nil))) (pg_name (i := 4) sc_law.nd rfl (by first | exact .inl rfl | exact .inr rfl)) (pu_last (pu_ifS (pt_v (pu_call (ok_law_is_whole FX TB) (hr.mono (by decide)) (by rfl) FX.g_law_is_whole FX.F_law_is_whole.kp FX.b_law_is_whole passD (pu_cons (pu_dictP (by rfl) FX.z_dict (pu_listzip (by rfl) FX.z_list (by rfl) FX.z_zip (pvD 3) (pvD 4))) pu_nil))) (pu_last (pu_appO (i := 2) hr rfl (by first | exact Or.inl rfl | exact Or.inr (Or.inl rfl) | exact Or.inr (Or.inr rfl)) (pvD 4))) pu_snil)))
  (pu_sun (i := 2)
  (pu_seq (pu_ifS ((DL.pw_or (DL.pt_not (pt_v (pu_call (ok_law_alike FX TB 3) (hr.mono (by decide)) (by rfl) FX.g_law_alike FX.F_law_alike.kp FX.b_law_alike passD (pu_cons (pu_call0 (ok_parts_ways FX TB) (hr.mono (by decide)) (by rfl) FX.g_parts_ways FX.F_parts_ways.kp FX.b_parts_ways passD) (pu_cons (pu_callT cd_tuple (pu_lc (x := "signs") rfl sc_law.nd (pu_iS (pvD 2)) (by show L2.BlkOk ["script", "row", "some", "texts", "signs", "text", "told", "turn", "free", "bad", "e", "one"] (defScope s_law) _ [("signs", 4)]; exact ⟨rfl, by decide +kernel, by decide +kernel, by decide +kernel, by decide +kernel⟩) (fun _ _ _ _ _ => pg_name (i := 4) sc_law.nd rfl (by first | exact .inl rfl | exact .inr rfl)) (fun _ _ _ _ _ => pts_no) (fun _ _ _ _ _ => (pu_call (ok_law_voices FX TB) (hr.mono (by decide)) (by rfl) FX.g_law_voices FX.F_law_voices.kp FX.b_law_voices passD (pu_cons (pvD 4) pu_nil)))) (by rfl) FX.z_tuple PyProof.Rows.boot_tuple) pu_nil))))) (DL.pw_oneO (DL.pt_cmp (od_ne hr) (pu_callB cd_len (pvD 2) (by rfl) FX.z_len PySem.boot_len) pu_int (by rfl))))).pt (pu_last (pu_ret pu_bl)) pu_snil)
  (pu_seq (by first | exact pu_par rfl sc_law.nd rfl rfl (by decide) rfl rfl (pu_cons (pu_call (ok_law_pick FX TB) (hr.mono (by decide)) (by rfl) FX.g_law_pick FX.F_law_pick.kp FX.b_law_pick passD (pu_cons (pvD 1) (pu_cons (pvD 2) pu_nil))) (pu_cons (pu_call (ok_law_row FX TB) (hr.mono (by decide)) (by rfl) FX.g_law_row FX.F_law_row.kp FX.b_law_row passD (pu_cons (pvD 1) (pu_cons pu_int pu_nil))) pu_nil)) (by rfl) | exact pu_unp rfl (pg_name (i := 4) sc_law.nd rfl (by first | exact .inl rfl | exact .inr rfl)) (pg_name (i := 5) sc_law.nd rfl (by first | exact .inl rfl | exact .inr rfl)) (pu_cons (pu_call (ok_law_pick FX TB) (hr.mono (by decide)) (by rfl) FX.g_law_pick FX.F_law_pick.kp FX.b_law_pick passD (pu_cons (pvD 1) (pu_cons (pvD 2) pu_nil))) (pu_cons (pu_call (ok_law_row FX TB) (hr.mono (by decide)) (by rfl) FX.g_law_row FX.F_law_row.kp FX.b_law_row passD (pu_cons (pvD 1) (pu_cons pu_int pu_nil))) pu_nil)))
  (pu_seq (pu_set (i := 6) sc_law.nd rfl (by first | exact .inl rfl | exact .inr rfl) (pu_dictP (by rfl) FX.z_dict (pu_listzip (by rfl) FX.z_list (by rfl) FX.z_zip (pvD 3) (pvD 4))))
  (pu_seq (pu_for PassesOwn.never rfl (pu_iR1 (by rfl) FX.z_range pu_int) (pg_name (i := 7) sc_law.nd rfl (by first | exact .inl rfl | exact .inr rfl)) (pu_last (pu_ifS (DL.pt_not (pt_v (pu_call (ok_law_alike FX TB 3) (hr.mono (by decide)) (by rfl) FX.g_law_alike FX.F_law_alike.kp FX.b_law_alike passD (pu_cons (pu_call (ok_parts_answer FX TB) (hr.mono (by decide)) (by rfl) FX.g_parts_answer FX.F_parts_answer.kp FX.b_parts_answer passFN (pu_cons (pu_call (ok_law_voices FX TB) (hr.mono (by decide)) (by rfl) FX.g_law_voices FX.F_law_voices.kp FX.b_law_voices passD (pu_cons (pvD 4) pu_nil)) (pu_cons (pu_call (ok_law_voices FX TB) (hr.mono (by decide)) (by rfl) FX.g_law_voices FX.F_law_voices.kp FX.b_law_voices passD (pu_cons (pvD 5) pu_nil)) pu_nil))) (pu_cons (pu_call (ok_law_word FX TB) (hr.mono (by decide)) (by rfl) FX.g_law_word FX.F_law_word.kp FX.b_law_word passD (pu_cons (pu_call (ok_law_by_parts FX TB 12) (hr.mono (by decide)) (by rfl) FX.g_law_by_parts FX.F_law_by_parts.kp FX.b_law_by_parts passD (pu_cons (pvD 6) (pu_cons (pvD 5) (pu_cons (pvD 1) pu_nil)))) pu_nil)) pu_nil))))) (pu_last (pu_ret pu_bl)) pu_snil)))
  (pu_seq (pu_set (i := 8) sc_law.nd rfl (by first | exact .inl rfl | exact .inr rfl) (pu_call (ok_law_pick FX TB) (hr.mono (by decide)) (by rfl) FX.g_law_pick FX.F_law_pick.kp FX.b_law_pick passD (pu_cons (pvD 1) (pu_cons (pu_call (ok_law_rows FX TB) (hr.mono (by decide)) (by rfl) FX.g_law_rows FX.F_law_rows.kp FX.b_law_rows passD (pu_cons pu_int pu_nil)) pu_nil))))
  (pu_seq (pu_ifS (DL.pt_not (pt_v (pu_call (ok_law_is FX TB) (hr.mono (by decide)) (by rfl) FX.g_law_is FX.F_law_is.kp FX.b_law_is passD (pu_cons (pu_call (ok_is_parts FX TB) (hr.mono (by decide)) (by rfl) FX.g_is_parts FX.F_is_parts.kp FX.b_is_parts passD (pu_cons (pu_call (ok_law_voices FX TB) (hr.mono (by decide)) (by rfl) FX.g_law_voices FX.F_law_voices.kp FX.b_law_voices passD (pu_cons (pvD 8) pu_nil)) pu_nil)) (pu_cons (pu_cmp (od_in hr) (pvD 8) (pvD 2) (by rfl)) pu_nil))))) (pu_last (pu_ret pu_bl)) pu_snil)
  (pu_seq (pu_set (i := 9) sc_law.nd rfl (by first | exact .inl rfl | exact .inr rfl) (pu_call (ok_law_pick FX TB) (hr.mono (by decide)) (by rfl) FX.g_law_pick FX.F_law_pick.kp FX.b_law_pick passD (pu_cons (pvD 1) (pu_cons (pu_lst (pu_cons pu_non (pu_cons (pu_tup pu_nil (hl := by first | decide | exact Nat.le_of_ble_eq_true rfl)) (pu_cons (pu_callT cd_list (pu_call (ok_law_voices FX TB) (hr.mono (by decide)) (by rfl) FX.g_law_voices FX.F_law_voices.kp FX.b_law_voices passD (pu_cons (pvD 4) pu_nil)) (by rfl) FX.z_list PyProof.Rows.boot_list) (pu_cons (pu_slice (pu_call (ok_law_voices FX TB) (hr.mono (by decide)) (by rfl) FX.g_law_voices FX.F_law_voices.kp FX.b_law_voices passD (pu_cons (pvD 4) pu_nil)) puo_no (puo_so pu_int)) (pu_cons (pu_bin od_add (pu_call (ok_law_voices FX TB) (hr.mono (by decide)) (by rfl) FX.g_law_voices FX.F_law_voices.kp FX.b_law_voices passD (pu_cons (pvD 4) pu_nil)) (pu_tup (pu_cons (pu_str (by rfl)) pu_nil) (hl := by first | decide | exact Nat.le_of_ble_eq_true rfl))) (pu_cons (pu_bin od_addW (pu_bin od_repW (pu_tup (pu_cons (pu_str (by rfl)) pu_nil) (hl := by first | decide | exact Nat.le_of_ble_eq_true rfl)) pu_int) (pu_tup (pu_cons pu_non pu_nil) (hl := by first | decide | exact Nat.le_of_ble_eq_true rfl))) (pu_cons (pu_str (by rfl)) pu_nil))))))) (hl := by first | decide | exact Nat.le_of_ble_eq_true rfl)) pu_nil))))
  (pu_seq (pu_ifS (DL.pt_cmp od_isNot (pu_call (ok_is_parts FX TB) (hr.mono (by decide)) (by rfl) FX.g_is_parts FX.F_is_parts.kp FX.b_is_parts passD (pu_cons (pvD 9) pu_nil)) pu_bl (by rfl)) (pu_last (pu_ret pu_bl)) pu_snil)
  (pu_seq (pu_tryIsH (i := 10) (ok_parts_answer FX TB) (hr.mono (by decide)) (by rfl) FX.g_parts_answer FX.F_parts_answer.kp FX.b_parts_answer (fun _ _ => (pu_cons (pu_if ((DL.pw_or (DL.pt_cmp (od_eq hr) (pu_call (ok_law_taken FX TB) (hr.mono (by decide)) (by rfl) FX.g_law_taken FX.F_law_taken.kp FX.b_law_taken passD (pu_cons (pvD 1) (pu_cons pu_int pu_nil))) pu_int (by rfl)) (DL.pw_oneO (DL.pt_cmp (od_in hr) (pvD 8) (pvD 2) (by rfl))))).pt (pvD 9) (pu_call (ok_law_voices FX TB) (hr.mono (by decide)) (by rfl) FX.g_law_voices FX.F_law_voices.kp FX.b_law_voices passD (pu_cons (pvD 8) pu_nil))) (pu_cons pu_non pu_nil))) rfl (by decide) (by rfl) (by rfl) (by rfl) rfl rfl sc_law.nd rfl (by rfl) (by rfl) (by rfl) FX.gc_VoiceError (by decide) (by rfl) FX.gc_NotParts (by decide) (by rfl) FX.z_isinstance (by decide) (by decide) (fun y c hy hm => by have e := eq_of_beq hy; subst e; cases FX.gc_NotParts.symm.trans hm; exact FX.tc_NotParts) (fun _ _ _ hot => (pu_cmp (od_eqU hr.units) (pu_callB cd_len (pu_lcH (x := "one") hot sc_law.nd (pvD 2) (by show L2.BlkOk ["script", "row", "some", "texts", "signs", "text", "told", "turn", "free", "bad", "e", "one"] (defScope s_law) _ [("one", 11)]; exact ⟨rfl, by decide +kernel, by decide +kernel, by decide +kernel, by decide +kernel⟩) (fun _ _ _ _ _ => pg_name (i := 11) sc_law.nd rfl (by first | exact .inl rfl | exact .inr rfl)) (fun _ _ _ _ _ => (pts_yes (DL.pt_cmp (od_eqU hr.units) (pu_bin od_add (pu_bin od_add (pu_bin od_add (pu_ixS (pvD 11) pu_int) (pu_ixS (pvD 11) pu_int)) (pu_ixS (pvD 11) pu_int)) (pu_ixS (pvD 11) pu_int)) (pu_str (by rfl)) (by rfl)))) (fun _ _ _ _ _ => (pvD 11))) (by rfl) FX.z_len PySem.boot_len) pu_int (by rfl))) (by rfl) (by rfl) (by rfl))
  (pu_last (pu_ret pu_bl)))))))))))))))) hT hL hD hm
end
end K06
set_option Elab.async false
set_option linter.all false
set_option maxRecDepth 100000
set_option maxHeartbeats 4000000
namespace C
open PySem PySem.Spec PyProof.Rows L2 DL
variable {Γ : Cfg}
structure Good (z : S) : Prop where
  p0 : 0 ≤ z.place
  s0 : 0 ≤ z.seed
  s1 : z.seed < 2147483647
  r0 : 0 ≤ z.rest
theorem atI_there {α : Type} {xs : List α} {i : Int} (h0 : 0 ≤ i) (h1 : i < xs.length) : atI xs i = xs[i.toNat]? := by
  unfold atI ixN
  rw [if_pos h0, if_pos h1]
  rfl
theorem taken_ok {z : S} (g : Good z) {many : Int} (h1 : 0 < many) (h2 : many < 1000) : WP (F_law_taken Γ [.row, .int many]) z fun d z' => ∃ r, d = .int r ∧ 0 ≤ r ∧ r < many ∧ Good z' := by
  obtain ⟨p0, s0, s1, r0⟩ := g
  have b : many < 1073741824 := by omega
  have m0 : ∀ x : Int, 0 ≤ x % many := fun x => Int.emod_nonneg x (by omega)
  have m1 : ∀ x : Int, x % many < many := fun x => Int.emod_lt_of_pos x h1
  simp [F_law_taken, B_law_taken, rho0, h1, powD, mulI]
  split
  · exact ⟨b, m0 _, m1 _, p0, s0, s1, Int.ediv_nonneg r0 (by omega)⟩
  · split
    · exact ⟨m0 _, m1 _, by show 0 ≤ z.place + 1; omega, by show 0 ≤ _ % _; omega, by show _ % _ < _; omega, r0⟩
    · rename_i h3 h4
      obtain ⟨c, hc⟩ : ∃ c, atI z.script z.place = some c := by
        rw [atI_there p0 (by omega)]
        exact ⟨_, List.getElem?_eq_getElem (by omega)⟩
      simp [hc, h1, b]
      split
      · exact ⟨m0 _, m1 _, by show 0 ≤ z.place + 1; omega, by show 0 ≤ _ % _; omega, by show _ % _ < _; omega, Int.ediv_nonneg (by omega) (by omega)⟩
      · exact ⟨m0 _, m1 _, by show 0 ≤ z.place + 1; omega, by show 0 ≤ _ % _; omega, by show _ % _ < _; omega, r0⟩
theorem pick_ok {z : S} (g : Good z) {ks : List D} (h1 : ks ≠ []) (h2 : ks.length < 1000) : WP (F_law_pick Γ [.row, .lst ks]) z fun d z' => d ∈ ks ∧ Good z' := by
  have h0 : 0 < ks.length := List.length_pos_iff.mpr h1
  simp [F_law_pick, B_law_pick, rho0]
  refine WP_mono (taken_ok g (by omega) (by omega)) fun d z' ⟨r, e, r0, r1, g'⟩ => ?_
  subst e
  have e2 : atI ks r = some ks[r.toNat] := by
    rw [atI_there r0 r1, List.getElem?_eq_getElem (by omega)]
  simp [ixA, ixD, e2, g']
/-- a row of signs -/
def txt (bs : List Bool) : List Nat := bs.map fun b => if b then 43 else 45
theorem draw_ok : ∀ (xs : List D) (most : D) {z : S}, Good z → WP (compL 2 tYesD (eCall (F_law_pick Γ) [eV 0, eLst [eC (.str [43]), eC (.str [45])]]) xs [some (.val .row), some (.val most), none]) z fun ds z' => ∃ bs : List Bool, ds = (txt bs).map (fun c => D.str [c]) ∧ bs.length = xs.length ∧ Good z'
  | [], most, z, g => by
    simp
    exact ⟨[], rfl, rfl, g⟩
  | x :: xs, most, z, g => by
    rw [compL_cons]
    simp
    refine WP_mono (pick_ok g (by simp) (by simp)) fun d z' ⟨hd, g'⟩ => ?_
    refine WP_mono (draw_ok xs most g') fun ds z2 ⟨bs, e, hl, g2⟩ => ?_
    subst e
    simp at hd
    rcases hd with rfl | rfl
    · exact ⟨true :: bs, rfl, by simp [hl], g2⟩
    · exact ⟨false :: bs, rfl, by simp [hl], g2⟩
theorem strs_txt : ∀ bs : List Bool, strsD ((txt bs).map fun c => D.str [c]) = some ((txt bs).map fun c => [c])
  | [] => rfl
  | b :: bs => by
    show strsD (D.str _ :: _) = _
    unfold strsD
    rw [show List.map (fun c => D.str [c]) (List.map (fun b => if b = true then 43 else 45) bs) = (txt bs).map fun c => D.str [c] from rfl, strs_txt bs]
    rfl
theorem joinL_one : ∀ zs : List Nat, joinL [] (zs.map fun c => [c]) = zs
  | [] => rfl
  | [z] => rfl
  | z :: w :: r => by
    show [z] ++ [] ++ joinL [] ((w :: r).map fun c => [c]) = _
    rw [joinL_one (w :: r)]
    rfl
theorem join_txt {bs : List Bool} (h : bs.length ≤ 1000) : joinD [] (.lst ((txt bs).map fun c => D.str [c])) = some (.str (txt bs)) := by
  unfold joinD
  simp only [items_lst, Option.bind_some, strs_txt]
  rw [joinL_one, if_pos]
  have : ∀ zs : List Nat, ((zs.map fun c => [c]).map List.length).sum = zs.length := fun zs => by
    induction zs with
    | nil => rfl
    | cons z zs ih => simp at ih ⊢; omega
  rw [this]
  simp [txt]
  omega
theorem row_ok {z : S} (g : Good z) : WP (F_law_row Γ [.row, .int 12]) z fun d z' => ∃ bs : List Bool, d = .str (txt bs) ∧ bs ≠ [] ∧ bs.length ≤ 12 ∧ Good z' := by
  simp [F_law_row, B_law_row, rho0]
  refine WP_mono (taken_ok g (by omega) (by omega)) fun d z' ⟨r, e, r0, r1, g'⟩ => ?_
  subst e
  simp
  have hl : (rangeD 0 (1 + r).toNat).length = (1 + r).toNat := by simp [rangeD]
  refine ⟨⟨by omega, by omega⟩, by rw [hl, sizeLine_eq]; omega, ?_⟩
  refine WP_mono (draw_ok _ _ g') fun ds z2 ⟨bs, e, hb, g2⟩ => ?_
  subst e
  rw [hl] at hb
  rw [join_txt (by omega)]
  simp
  exact ⟨bs, rfl, fun e => by subst e; simp at hb; omega, by omega, g2⟩
def sg (b : Bool) : Nat := if b then 43 else 45
def nm : Nat → List Nat
  | 0 => [97, 108, 108, 111, 119, 32, 111, 118, 101, 114]
  | 1 => [97, 108, 119, 97, 121, 115, 32, 97, 108, 108, 111, 119]
  | 2 => [97, 108, 119, 97, 121, 115, 32, 100, 101, 110, 121]
  | 3 => [98, 111, 116, 104, 32, 101, 110, 100, 115]
  | 4 => [100, 101, 110, 121, 32, 111, 118, 101, 114]
  | 5 => [102, 105, 114, 115, 116]
  | 6 => [105, 115, 108, 97, 110, 100]
  | 7 => [108, 97, 115, 116]
  | 8 => [109, 111, 115, 116, 32, 111, 114, 32, 97, 108, 108, 111, 119]
  | 9 => [109, 111, 115, 116, 32, 111, 114, 32, 100, 101, 110, 121]
  | 10 => [109, 111, 115, 116, 32, 111, 114, 32, 102, 105, 114, 115, 116]
  | 11 => [109, 111, 115, 116, 32, 111, 114, 32, 108, 97, 115, 116]
  | _ => [111, 100, 100]
theorem okS_txt {bs : List Bool} : okS (txt bs) = true := by
  unfold okS txt
  rw [List.all_map, List.all_eq_true]
  intro b _
  cases b <;> rfl
theorem txt_len {bs : List Bool} : (txt bs).length = bs.length := by simp [txt]
theorem addD_str {a b : List Nat} (h : a.length + b.length ≤ 16777216) : addD (.str a) (.str b) = some (.str (a ++ b)) := by
  show (if a.length + b.length ≤ sizeLine then _ else _) = _
  rw [if_pos (by rw [sizeLine_eq]; exact h)]
def hd (bs : List Bool) : Bool := bs.head?.getD true
def la (bs : List Bool) : Bool := bs.getLast?.getD true
theorem get_last {bs : List Bool} (h : bs ≠ []) {α : Type} (f : Bool → α) : (bs.map f)[bs.length - 1]? = some (f (la bs)) := by
  unfold la
  rw [List.getElem?_map, ← List.getLast?_eq_getElem?]
  cases e : bs.getLast? with
  | none => exact absurd (List.getLast?_eq_none_iff.mp e) h
  | some x => rfl
/-- the changes of a row that begins behind p -/
def chg : Bool → List Bool → List Bool
  | _, [] => []
  | p, b :: r => if b = p then chg p r else b :: chg b r
def isl : List Bool → Bool
  | [] => false
  | true :: r => decide (chg true r = [])
  | false :: r => decide ((chg false r).length = 2)
def ans : Nat → List Bool → Bool
  | 0, bs => decide (true ∈ bs)
  | 1, _ => true
  | 2, _ => false
  | 3, bs => hd bs && la bs
  | 4, bs => !decide (false ∈ bs)
  | 5, bs => hd bs
  | 6, bs => isl bs
  | 7, bs => la bs
  | 8, bs => decide (bs.count false ≤ bs.count true)
  | 9, bs => decide (bs.count false < bs.count true)
  | 10, bs => if bs.count true = bs.count false then hd bs else decide (bs.count false < bs.count true)
  | 11, bs => if bs.count true = bs.count false then la bs else decide (bs.count false < bs.count true)
  | _, bs => decide (bs.count false % 2 = 0)
/-- where a row changes -/
def cks (bs : List Bool) : List Nat := (List.range (bs.length - 1)).filter fun k => (bs[k + 1]? != bs[k]?)
theorem txt_get {bs : List Bool} {k : Nat} (h : k < bs.length) : (txt bs)[k]? = some (sg bs[k]) := by
  unfold txt
  rw [List.getElem?_map, List.getElem?_eq_getElem h]
  rfl
end C
set_option Elab.async false
set_option linter.all false
set_option maxRecDepth 100000
set_option maxHeartbeats 4000000
namespace C
open PySem PySem.Spec PyProof.Rows L2 DL
variable {Γ : Cfg}
def vc : Bool → List Nat
  | true => [97, 108, 108, 111, 119]
  | false => [100, 101, 110, 121]
def vs (bs : List Bool) : List D := bs.map fun b => .str (vc b)
theorem vs_map (bs : List Bool) : vs bs = (bs.map vc).map .str := by unfold vs; rw [List.map_map]; rfl
theorem okS_vc (b : Bool) : okS (vc b) = true := by cases b <;> rfl
theorem ok_vs (bs : List Bool) : ∀ z ∈ bs.map vc, okS z = true := by
  intro z hz
  obtain ⟨b, _, rfl⟩ := List.mem_map.mp hz
  exact okS_vc b
theorem vc_inj {a b : Bool} : vc a = vc b ↔ a = b := by cases a <;> cases b <;> simp [vc]
theorem vs_len {bs : List Bool} : (vs bs).length = bs.length := by simp [vs]
theorem vs_0 {bs : List Bool} (h : bs ≠ []) : atI (vs bs) 0 = some (.str (vc (hd bs))) := by
  cases bs with
  | nil => exact absurd rfl h
  | cons b r => rw [atI_pos (by omega)]; rfl
theorem vs_m1 {bs : List Bool} (h : bs ≠ []) : atI (vs bs) (-1) = some (.str (vc (la bs))) := by
  have hp := List.length_pos_iff.mpr h
  rw [atI_neg (by omega) (by rw [vs_len]; omega), vs_len, show ((-1 : Int) + bs.length).toNat = bs.length - 1 by omega]
  exact get_last h _
theorem any_vc {c : Bool} {bs : List Bool} : ((bs.map vc).any fun z => decide (z = vc c)) = decide (c ∈ bs) := by
  induction bs with
  | nil => rfl
  | cons b bs ih =>
    rw [List.map_cons, List.any_cons, ih]
    by_cases h : b = c
    · subst h; simp
    · have h2 : ¬ vc b = vc c := fun e => h (vc_inj.mp e)
      have h3 : ¬ c = b := fun e => h e.symm
      simp [h2, h3]
theorem in_vs {c : Bool} {bs : List Bool} : inD (.str (vc c)) (.tup (vs bs)) = some (.bl (decide (c ∈ bs))) := by
  rw [vs_map, inD_tup (okS_vc c) (ok_vs bs), any_vc]
theorem cnt_vs {c : Bool} {bs : List Bool} : countT (.tup (vs bs)) (.str (vc c)) = some (.int (bs.count c)) := by
  rw [vs_map, countT_strs, List.countP_map]
  congr 2
  unfold List.count
  apply congrArg
  apply congrFun
  apply congrArg
  funext b
  show decide (vc b = vc c) = (b == c)
  cases b <;> cases c <;> rfl
theorem in_t {bs : List Bool} : inD (.str [97, 108, 108, 111, 119]) (.tup (vs bs)) = some (.bl (decide (true ∈ bs))) := in_vs (c := true)
theorem in_f {bs : List Bool} : inD (.str [100, 101, 110, 121]) (.tup (vs bs)) = some (.bl (decide (false ∈ bs))) := in_vs (c := false)
theorem cnt_t {bs : List Bool} : countT (.tup (vs bs)) (.str [97, 108, 108, 111, 119]) = some (.int (bs.count true)) := cnt_vs (c := true)
theorem cnt_f {bs : List Bool} : countT (.tup (vs bs)) (.str [100, 101, 110, 121]) = some (.int (bs.count false)) := cnt_vs (c := false)
/-- a greater voice -/
def grt (bs : List Bool) : D := if bs.count true = bs.count false then .non else if bs.count false < bs.count true then .str (vc true) else .str (vc false)
theorem greater_ok {bs : List Bool} : F_greater_voice Γ [.tup (vs bs)] = mpure (grt bs) := WP_pure_of fun z => by
  simp [F_greater_voice, B_greater_voice, rho0, cnt_t, cnt_f, grt]
  by_cases h : bs.count true = bs.count false
  · simp [h]
  · have h2 : ¬ ((bs.count true : Int) = bs.count false) := by omega
    by_cases h3 : bs.count false < bs.count true
    · simp [h, h2, h3, vc]
    · simp [h, h2, h3, vc]
/-- a row's stretches -/
theorem vs_get {bs : List Bool} {k : Nat} (h : k < bs.length) : (vs bs)[k]? = some (.str (vc bs[k])) := by
  unfold vs
  rw [List.getElem?_map, List.getElem?_eq_getElem h]
  rfl
def str (bs : List Bool) : List Bool := match bs with
  | [] => []
  | b :: r => b :: chg b r
theorem vcs_inj {a b : List Bool} : a.map vc = b.map vc ↔ a = b := by
  constructor
  · intro h
    exact List.map_inj_right (f := vc) (fun x y => vc_inj.mp) |>.mp h
  · intro h; rw [h]
section
variable {bs : List Bool} (h0 : bs ≠ []) (h1 : bs.length ≤ 12)
include h0 h1
theorem p0 : F_allow_over Γ [.tup (vs bs)] = mpure (.str (vc (ans 0 bs))) := WP_pure_of fun z => by
  simp [F_allow_over, B_allow_over, rho0, in_t, ans]
  by_cases h : true ∈ bs <;> simp [h, vc]
theorem p1 : F_always_allow Γ [.tup (vs bs)] = mpure (.str (vc (ans 1 bs))) := WP_pure_of fun z => by
  simp [F_always_allow, B_always_allow, rho0, ans, vc]
theorem p2 : F_always_deny Γ [.tup (vs bs)] = mpure (.str (vc (ans 2 bs))) := WP_pure_of fun z => by
  simp [F_always_deny, B_always_deny, rho0, ans, vc]
theorem p3 : F_both_ends_ways Γ [.tup (vs bs)] = mpure (.str (vc (ans 3 bs))) := WP_pure_of fun z => by
  simp [F_both_ends_ways, B_both_ends_ways, rho0, ans, vs_0 h0, vs_m1 h0, eqD_str, okS_vc]
  cases hd bs <;> cases la bs <;> simp [vc]
theorem p5 : F_first Γ [.tup (vs bs)] = mpure (.str (vc (ans 5 bs))) := WP_pure_of fun z => by
  simp [F_first, B_first, rho0, ans, vs_0 h0]
theorem p7 : F_last Γ [.tup (vs bs)] = mpure (.str (vc (ans 7 bs))) := WP_pure_of fun z => by
  simp [F_last, B_last, rho0, ans, vs_m1 h0]
end
end C
set_option Elab.async false
set_option linter.all false
set_option maxRecDepth 100000
set_option maxHeartbeats 4000000
namespace C
open PySem PySem.Spec PyProof.Rows L2 DL
variable {Γ : Cfg}
def W : List (List Nat) := [nm 0, nm 1, nm 2, nm 3, nm 4, nm 5, nm 6, nm 7, nm 8, nm 9, nm 10, nm 11, nm 12]
theorem in_voices (b : Bool) : notInD (.str (vc b)) w_VOICES = some (.bl false) := by
  rw [show w_VOICES = .tup (([true, false].map vc).map .str) from rfl, notInD_tup (okS_vc b) (ok_vs _), any_vc]
  cases b <;> rfl
theorem wrong_loop {Qr : D → S → Prop} : ∀ (bs : List Bool) (k : Nat) (ρ : EnD) (z : S) (Qn : EnD → S → Prop), ρ.length = 3 → ownAt ρ 1 = false → ownAt ρ 2 = false → (∀ ρ', Qn ρ' z) →
    WS (forP 1 2 (sIf (tV (e2 (op2 notInD) (eV 2) (eC w_VOICES))) (sRet (eV 1)) sNil) (enumD k (vs bs)) ρ z) Qn Qr
  | [], k, ρ, z, Qn, hl, o1, o2, q => q ρ
  | b :: bs, k, ρ, z, Qn, hl, o1, o2, q => by
    match ρ, hl with
    | [x0, x1, x2], _ =>
      refine forP_cons o1 o2 ?_
      simp [in_voices]
      exact wrong_loop bs (k + 1) _ z Qn rfl rfl rfl q
theorem wrong_ok {bs : List Bool} : F_first_wrong Γ [.tup (vs bs)] = mpure .non := WP_pure_of fun z => by
  simp [F_first_wrong, B_first_wrong, rho0]
  exact wrong_loop bs 0 _ z _ rfl rfl rfl fun ρ' => rfl
theorem check_row_ok {bs : List Bool} (h0 : bs ≠ []) (h1 : bs.length ≤ 12) : F_check_row Γ [.tup (vs bs)] = mpure .non := WP_pure_of fun z => by
  have hp := List.length_pos_iff.mpr h0
  have e1 : (1 : Int) ≤ bs.length := by omega
  have e2 : (bs.length : Int) ≤ 12 := by omega
  simp [F_check_row, B_check_row, rho0, isiD, tyD, isK, vs_len, e1, e2, wrong_ok, isNonD]
/-- the def that a way's name hands out -/
theorem look : ∀ i, i < 13 → getS (tb_ANSWERS Γ) (nm i) = some (.fn i (Γ.A i))
  | 0, _ => by simp [getS, tb_ANSWERS, nm]
  | 1, _ => by simp [getS, tb_ANSWERS, nm]
  | 2, _ => by simp [getS, tb_ANSWERS, nm]
  | 3, _ => by simp [getS, tb_ANSWERS, nm]
  | 4, _ => by simp [getS, tb_ANSWERS, nm]
  | 5, _ => by simp [getS, tb_ANSWERS, nm]
  | 6, _ => by simp [getS, tb_ANSWERS, nm]
  | 7, _ => by simp [getS, tb_ANSWERS, nm]
  | 8, _ => by simp [getS, tb_ANSWERS, nm]
  | 9, _ => by simp [getS, tb_ANSWERS, nm]
  | 10, _ => by simp [getS, tb_ANSWERS, nm]
  | 11, _ => by simp [getS, tb_ANSWERS, nm]
  | 12, _ => by simp [getS, tb_ANSWERS, nm]
section
variable {bs : List Bool} (h0 : bs ≠ []) (h1 : bs.length ≤ 12)
include h0 h1
end
end C
set_option Elab.async false
set_option linter.all false
set_option maxRecDepth 100000
set_option maxHeartbeats 4000000
namespace C
open PySem PySem.Spec PyProof.Rows L2 DL
variable {Γ : Cfg}
def flp (bs : List Bool) (k : Nat) : List Bool := bs.take k ++ [!(bs[k]?.getD true)] ++ bs.drop (k + 1)
theorem flp_len {bs : List Bool} {k : Nat} (h : k < bs.length) : (flp bs k).length = bs.length := by
  simp [flp]; omega
theorem flp_ne {bs : List Bool} {k : Nat} : flp bs k ≠ [] := by simp [flp]
theorem turned_ok (b : Bool) : F_turned Γ [.str (vc b)] = mpure (.str (vc !b)) := WP_pure_of fun z => by
  cases b <;> simp [F_turned, B_turned, rho0, eqD_str, vc]
theorem addD_tup {a b : List D} (h : a.length + b.length ≤ 16777216) : addD (.tup a) (.tup b) = some (.tup (a ++ b)) := by
  show (if a.length + b.length ≤ sizeLine then _ else _) = _
  rw [if_pos (by rw [sizeLine_eq]; exact h)]
theorem turned_at_ok {bs : List Bool} {k : Nat} (h : k < bs.length) (h1 : bs.length ≤ 12) : F_turned_at Γ [.tup (vs bs), .int k] = mpure (.tup (vs (flp bs k))) := WP_pure_of fun z => by
  have e1 : atI (vs bs) (k : Int) = some (.str (vc bs[k])) := by rw [atI_pos (by omega), Int.toNat_natCast, vs_get h]
  have e2 : cutL (vs bs) none (some (k : Int)) = vs (bs.take k) := by
    rw [cutL_hi (by omega), Int.toNat_natCast]; unfold vs; rw [List.map_take]
  have e3 : cutL (vs bs) (some ((k : Int) + 1)) none = vs (bs.drop (k + 1)) := by
    rw [cutL_lo (by omega), show ((k : Int) + 1).toNat = k + 1 by omega]; unfold vs; rw [List.map_drop]
  have l1 : (vs (bs.take k)).length + 1 ≤ 16777216 := by rw [vs_len, List.length_take]; omega
  have l2 : (vs (bs.take k)).length + 1 + (vs (bs.drop (k + 1))).length ≤ 16777216 := by rw [vs_len, vs_len, List.length_take, List.length_drop]; omega
  have e4 : addD (.tup (vs (bs.take k))) (.tup [.str (vc !bs[k])]) = some (.tup (vs (bs.take k) ++ [.str (vc !bs[k])])) := addD_tup l1
  have e5 : addD (.tup (vs (bs.take k) ++ [.str (vc !bs[k])])) (.tup (vs (bs.drop (k + 1)))) = some (.tup (vs (bs.take k) ++ [.str (vc !bs[k])] ++ vs (bs.drop (k + 1)))) := addD_tup (by rw [List.length_append]; exact l2)
  simp [F_turned_at, B_turned_at, rho0, e1, e2, e3, turned_ok, e4]
  rw [e5]
  simp
  unfold flp
  rw [List.getElem?_eq_getElem h]
  simp [vs]
theorem word_ok (b : Bool) : F_law_word Γ [.str [sg b]] = mpure (.str (vc b)) := WP_pure_of fun z => by
  cases b <;> simp [F_law_word, B_law_word, rho0, sg, vc, DL.putAll, putS, getS]
theorem voices_ok {bs : List Bool} (h1 : bs.length ≤ 12) : F_law_voices Γ [.str (txt bs)] = mpure (.tup (vs bs)) := WP_pure_of fun z => by
  have e : ∀ d, compL 1 tYesD (eCall (F_law_word Γ) [eV 1]) ((txt bs).map fun c => .str [c]) [some (.val d), none] = mpure (vs bs) := fun d => by
    clear h1
    induction bs with
    | nil => rfl
    | cons b bs ih =>
      apply WP_pure_of
      intro z
      rw [show (txt (b :: bs)).map (fun c => D.str [c]) = .str [sg b] :: (txt bs).map fun c => .str [c] from rfl, compL_cons]
      simp [word_ok, ih]
      rfl
  simp [F_law_voices, B_law_voices, rho0, txt_len, e]
  rw [sizeLine_eq]; omega
theorem sg_ok (b : Bool) : okS [sg b] = true := by cases b <;> rfl
/-- where a voice matters -/
def mts (i : Nat) (bs : List Bool) : List Nat := (List.range bs.length).filter fun k => (ans i (flp bs k) != ans i bs)
end C
set_option Elab.async false
set_option linter.all false
set_option maxRecDepth 100000
set_option maxHeartbeats 4000000
namespace C
open PySem PySem.Spec PyProof.Rows L2 DL
variable {Γ : Cfg}
def C (a b : Int) : Int := PySem.W.mcComb a b
def rowsW (n l : Int) : Int := ((List.range (n + 1 - l).toNat).map fun (k : Nat) => C n (l + (k : Int))).sum
def cnt : Nat → Int → Int
  | 0, n => 2 ^ n.toNat - 1
  | 1, n => 2 ^ n.toNat
  | 2, _ => 0
  | 3, n => if n = 1 then 1 else 2 ^ (n - 2).toNat
  | 4, _ => 1
  | 6, n => 1 + C (n - 1) 2
  | 8, n => rowsW n ((n + 1) / 2)
  | 9, n => rowsW n (n / 2 + 1)
  | _, n => 2 ^ (n - 1).toNat
def doubt (n l : Int) : Int := 2 * C (n - 1) (l - 1)
def pw : Nat → Int → Int → Int
  | 0, _, _ => 2
  | 1, _, _ => 0
  | 2, _, _ => 0
  | 3, n, k => if k = 0 ∨ k = n - 1 then if n = 1 then 2 else 2 ^ (n - 1).toNat else 0
  | 4, _, _ => 2
  | 5, n, k => if k = 0 then 2 ^ n.toNat else 0
  | 6, n, k => 2 * (1 + C (n - 1) 2 - 2 * if 0 < k ∧ k < n - 1 then n - 3 else 0)
  | 7, n, k => if k = n - 1 then 2 ^ n.toNat else 0
  | 8, n, _ => doubt n ((n + 1) / 2)
  | 9, n, _ => doubt n (n / 2 + 1)
  | 10, n, k => if n % 2 = 1 then doubt n ((n + 1) / 2) else if k = 0 then 2 * C n ((n + 1) / 2) else 4 * C (n - 2) ((n + 1) / 2)
  | 11, n, k => if n % 2 = 1 then doubt n ((n + 1) / 2) else if n - 1 - k = 0 then 2 * C n ((n + 1) / 2) else 4 * C (n - 2) ((n + 1) / 2)
  | _, n, _ => 2 ^ n.toNat
section
variable {n : Int} (h1 : 1 ≤ n) (h2 : n ≤ 60)
include h1 h2
omit h1 h2 in
omit h1 h2 in
omit h1 h2 in
omit h1 h2 in
end
section
variable {n k : Int} (h1 : 1 ≤ n) (h2 : n ≤ 60) (h3 : 0 ≤ k) (h4 : k < n)
include h1 h2
include h3 h4
end
def jc : Nat → Nat
  | 0 => 13 | 1 => 14 | 2 => 15 | 3 => 16 | 4 => 17 | 6 => 19 | 8 => 20 | 9 => 21 | _ => 18
def jm : Nat → Nat
  | 0 => 22 | 1 => 23 | 2 => 23 | 3 => 24 | 4 => 22 | 5 => 25 | 6 => 26 | 7 => 27 | 8 => 28 | 9 => 29 | 10 => 30 | 11 => 31 | _ => 32
section
variable {n : Int} (h1 : 1 ≤ n) (h2 : n ≤ 60)
include h1 h2
end
end C
set_option Elab.async false
set_option linter.all false
set_option maxRecDepth 100000
set_option maxHeartbeats 4000000
namespace C
open PySem PySem.Spec PyProof.Rows L2 DL
variable {Γ : Cfg}
def two (bs : List Bool) : List (List Bool) := [bs ++ [true], bs ++ [false]]
def rws : Nat → List (List Bool)
  | 0 => [[]]
  | n + 1 => (rws n).flatMap two
def strT (bs : List Bool) : D := .str (txt bs)
theorem rws_mem : ∀ {n : Nat} {bs : List Bool}, bs ∈ rws n → bs.length = n
  | 0, bs, h => by simp [rws] at h; subst h; rfl
  | n + 1, bs, h => by
    obtain ⟨cs, hc, h⟩ := List.mem_flatMap.mp h
    have := rws_mem hc
    simp [two] at h
    rcases h with rfl | rfl <;> simp [this]
theorem two_len (l : List (List Bool)) : (l.flatMap two).length = 2 * l.length := by
  induction l with
  | nil => rfl
  | cons a l ih => rw [List.flatMap_cons, List.length_append, ih, List.length_cons]; simp [two]; omega
theorem rws_len : ∀ n, (rws n).length = 2 ^ n
  | 0 => rfl
  | n + 1 => by rw [show rws (n + 1) = (rws n).flatMap two from rfl, two_len, rws_len n, Nat.pow_succ]; omega
theorem all_rws : ∀ bs : List Bool, bs ∈ rws bs.length := by
  have h : ∀ n (bs : List Bool), bs.length = n → bs ∈ rws n := by
    intro n
    induction n with
    | zero => intro bs h; rw [List.length_eq_zero_iff.mp h]; exact List.mem_singleton.mpr rfl
    | succ n ih =>
      intro bs h
      have hne : bs ≠ [] := fun e => by rw [e] at h; cases h
      have e := List.dropLast_concat_getLast hne
      have hl : bs.dropLast.length = n := by rw [List.length_dropLast, h]; rfl
      refine List.mem_flatMap.mpr ⟨bs.dropLast, ih _ hl, ?_⟩
      rw [← e]
      cases bs.getLast hne <;> simp [two]
  exact fun bs => h _ bs rfl
theorem txt_app (bs : List Bool) (b : Bool) : txt (bs ++ [b]) = txt bs ++ [sg b] := by simp [txt, sg]
theorem txt_inj {a b : List Bool} (h : txt a = txt b) : a = b := by
  have : ∀ x y : Bool, (if x then 43 else 45 : Nat) = (if y then 43 else 45) → x = y := by decide
  exact List.map_inj_right (f := fun b : Bool => (if b then 43 else 45 : Nat)) this |>.mp h
theorem addD_lst {a b : List D} (h : a.length + b.length ≤ 16777216) : addD (.lst a) (.lst b) = some (.lst (a ++ b)) := by
  show (if a.length + b.length ≤ sizeLine then _ else _) = _
  rw [if_pos (by rw [sizeLine_eq]; exact h)]
theorem WS_mono {o : Out} {Qn Qn' : EnD → S → Prop} {Qr : D → S → Prop} (h : WS o Qn Qr) (i : ∀ ρ z, Qn ρ z → Qn' ρ z) : WS o Qn' Qr := by
  unfold WS at h ⊢
  cases o <;> first | exact i _ _ h | exact h
theorem rows_in {x0 x1 x2 : Option Sl} {z : S} {Qr : D → S → Prop} (bss : List (List Bool)) : ∀ (acc : List (List Bool)) (y : Option D), acc.length + 2 * bss.length ≤ 100000 → (∀ bs ∈ bss, bs.length ≤ 100) →
    WS (forD 4 (sSet 3 (e2 (op2 addD) (eV 3) (eLst [e2 (op2 addD) (eV 4) (eC (.str [43])), e2 (op2 addD) (eV 4) (eC (.str [45]))]))) (bss.map strT) [x0, x1, x2, some (.val (.lst (acc.map strT))), y.map .val] z)
      (fun ρ z' => z' = z ∧ ∃ o : Option D, ρ = [x0, x1, x2, some (.val (.lst ((acc ++ bss.flatMap two).map strT))), o.map .val]) Qr := by
  induction bss with
  | nil => exact fun acc y _ _ => ⟨rfl, y, by simp⟩
  | cons bs bss ih =>
    intro acc y hl hb
    have hb0 := hb bs (List.mem_cons_self ..)
    rw [List.length_cons] at hl
    refine forD_cons (by cases y <;> rfl) ?_
    have a1 : addD (strT bs) (.str [43]) = some (strT (bs ++ [true])) := by
      unfold strT; rw [addD_str (by rw [txt_len]; show bs.length + 1 ≤ _; omega), txt_app]; rfl
    have a2 : addD (strT bs) (.str [45]) = some (strT (bs ++ [false])) := by
      unfold strT; rw [addD_str (by rw [txt_len]; show bs.length + 1 ≤ _; omega), txt_app]; rfl
    have a3 : addD (.lst (acc.map strT)) (.lst [strT (bs ++ [true]), strT (bs ++ [false])]) = some (.lst ((acc ++ two bs).map strT)) := by
      rw [addD_lst (by rw [List.length_map]; show acc.length + 2 ≤ _; omega), List.map_append]; rfl
    have h := ih (acc ++ two bs) (some (strT bs)) (by rw [List.length_append]; show acc.length + 2 + _ ≤ _; omega) fun b q => hb b (List.mem_cons_of_mem _ q)
    rw [List.append_assoc, ← List.flatMap_cons] at h
    simp only [List.set_cons_succ, List.set_cons_zero, sSet_ev, e2_ev, eV_succ, eV_zero, WP_pure, eC_ev, op2_ev, a1, a2, a3, WP_some, eLst_ev, evs_cons, evs_nil, ownAt_succ, ownAt_zv, Bool.false_eq_true, if_false]
    exact h
theorem rows_out {x0 : Option Sl} {z : S} {Qr : D → S → Prop} (ks : List D) : ∀ (m : Nat) (y2 y3 y4 : Option D), m + ks.length ≤ 12 →
    WS (forD 2 (sSeq (sSet 3 (eLst [])) (sSeq (sFor 4 (iS (eV 1)) (sSet 3 (e2 (op2 addD) (eV 3) (eLst [e2 (op2 addD) (eV 4) (eC (.str [43])), e2 (op2 addD) (eV 4) (eC (.str [45]))])))) (sSet 1 (eV 3)))) ks [x0, some (.val (.lst ((rws m).map strT))), y2.map .val, y3.map .val, y4.map .val] z)
      (fun ρ z' => z' = z ∧ ∃ o2 o3 o4 : Option D, ρ = [x0, some (.val (.lst ((rws (m + ks.length)).map strT))), o2.map .val, o3.map .val, o4.map .val]) Qr := by
  induction ks with
  | nil => exact fun m y2 y3 y4 _ => ⟨rfl, y2, y3, y4, rfl⟩
  | cons k ks ih =>
    intro m y2 y3 y4 hm
    rw [List.length_cons] at hm
    have o3 : ∀ r : EnD, ownAt (y3.map Sl.val :: r) 0 = false := fun r => by cases y3 <;> rfl
    refine forD_cons (by cases y2 <;> rfl) ?_
    simp only [List.set_cons_succ, List.set_cons_zero, sSeq_ev, sSet_ev, eLst_ev, evs_nil, ownAt_succ, o3, Bool.false_eq_true, if_false, sFor_ev, iS_ev, eV_succ, eV_zero, WP_pure, iterD, items_lst, WP_some]
    have hl : (rws m).length ≤ 4096 := by rw [rws_len]; exact Nat.pow_le_pow_right (by decide) (show m ≤ 12 by omega)
    refine WS_mono (rows_in (rws m) [] y4 (by show 0 + 2 * _ ≤ _; omega) fun bs hb => by rw [rws_mem hb]; omega) fun ρ z' ⟨ez, o, e⟩ => ?_
    subst ez e
    simp only [List.nil_append, eV_succ, eV_zero, WP_pure, ownAt_succ, ownAt_zv, Bool.false_eq_true, if_false, List.set_cons_succ, List.set_cons_zero]
    have h := ih (m + 1) (some k) (some (.lst ((rws (m + 1)).map strT))) o (by omega)
    rw [show m + 1 + ks.length = m + (k :: ks).length by rw [List.length_cons]; omega] at h
    exact h
theorem rows_ok {n : Int} (h0 : 0 ≤ n) (hn : n ≤ 12) : F_law_rows Γ [.int n] = mpure (.lst ((rws n.toNat).map strT)) := WP_pure_of fun z => by
  have hl : (rangeD 0 n.toNat).length = n.toNat := by simp [rangeD]
  unfold F_law_rows B_law_rows
  rw [run_ev, show rho0 5 [D.int n] = [some (.val (.int n)), none, none, none, none] from rfl]
  simp only [sSeq_ev, sSet_ev, eLst_ev, evs_cons, evs_nil, eC_ev, WP_pure, List.set_cons_succ, List.set_cons_zero, ownAt_succ, ownAt_zn, Bool.false_eq_true, if_false, sFor_ev, iR1_ev, eV_zero, asI_int, WP_some]
  rw [if_pos (by omega)]
  refine WS_mono (rows_out (x0 := some (.val (.int n))) (rangeD 0 n.toNat) 0 none none none (by rw [hl]; omega)) fun ρ z' ⟨ez, o2, o3, o4, e⟩ => ?_
  subst ez e
  rw [hl, Nat.zero_add]
  simp
/-- a table by rows -/
def tab (f : List Bool → D) (bss : List (List Bool)) : List (List Nat × D) := bss.map fun bs => (txt bs, f bs)
theorem tab_get {f : List Bool → D} {bs : List Bool} : ∀ {bss : List (List Bool)}, bs ∈ bss → getS (tab f bss) (txt bs) = some (f bs)
  | [], h => by cases h
  | c :: bss, h => by
    unfold getS
    show Option.map _ (List.find? _ ((txt c, f c) :: tab f bss)) = _
    rw [List.find?_cons]
    by_cases e : c = bs
    · subst e; simp
    · have h2 : ¬ txt c = txt bs := fun q => e (txt_inj q)
      simp only [h2, decide_false]
      exact tab_get (by rcases List.mem_cons.mp h with q | q; exact absurd q.symm e; exact q)
end C
set_option Elab.async false
set_option linter.all false
set_option maxRecDepth 100000
set_option maxHeartbeats 4000000
namespace C
open PySem PySem.Spec PyProof.Rows L2 DL
variable {Γ : Cfg}
def back : Nat → Nat
  | 5 => 7
  | 7 => 5
  | 10 => 11
  | 11 => 10
  | i => i
/-- the mirror, if there is one -/
def mir : Nat → Option Nat
  | 0 => some 4
  | 4 => some 0
  | 1 => some 2
  | 2 => some 1
  | 8 => some 9
  | 9 => some 8
  | 5 => some 5
  | 7 => some 7
  | 10 => some 10
  | 11 => some 11
  | _ => none
def PW (i : Nat) (n : Int) : List Int := (List.range n.toNat).map fun (k : Nat) => pw i n k
end C
set_option Elab.async false
set_option linter.all false
set_option maxRecDepth 100000
set_option maxHeartbeats 4000000
namespace C
open PySem PySem.Spec PyProof.Rows L2 DL
variable {Γ : Cfg}
theorem compL_map {α : Type} {g : α → D} {i : Nat} {t : EnD → M Bool} {f : EnD → M D} {tb : α → Bool} {fb : α → D} {ρ : EnD} : ∀ {l : List α}, (∀ x ∈ l, t ((ρ.set i none).set i (some (.val (g x)))) = mpure (tb x) ∧ (tb x = true → f ((ρ.set i none).set i (some (.val (g x)))) = mpure (fb x))) → compL i t f (l.map g) ρ = mpure ((l.filter tb).map fb)
  | [], _ => rfl
  | x :: l, h => by
    apply WP_pure_of
    intro z
    rw [List.map_cons, compL_cons, (h x (List.mem_cons_self ..)).1, WP_pure, compL_map fun y hy => h y (List.mem_cons_of_mem _ hy)]
    cases e : tb x with
    | true =>
      rw [if_pos rfl, (h x (List.mem_cons_self ..)).2 e, WP_pure, WP_pure, List.filter_cons_of_pos e]
      exact ⟨rfl, rfl⟩
    | false =>
      rw [if_neg Bool.false_ne_true, WP_pure, List.filter_cons_of_neg (by rw [e]; exact Bool.false_ne_true)]
      exact ⟨rfl, rfl⟩
theorem sg_ne (a b : Bool) : neD (.str [sg a]) (.str [sg b]) = some (.bl (a != b)) := by
  rw [neD_str (sg_ok a) (sg_ok b)]; cases a <;> cases b <;> rfl
/-- a way's answer, as a sign -/
def fA (i : Nat) (bs : List Bool) : D := .str [sg (ans i bs)]
def nxt (l : List Int) : List Int := [1] ++ (List.range (l.length - 1)).map (fun k => (l[k]?.getD 0) + (l[k + 1]?.getD 0)) ++ [1]
def psc : Nat → List Int
  | 0 => [1]
  | n + 1 => nxt (psc n)
end C
set_option Elab.async false
set_option linter.all false
set_option maxRecDepth 100000
set_option maxHeartbeats 4000000
namespace C
open PySem PySem.Spec PyProof.Rows L2 DL
variable {Γ : Cfg}
theorem lturn1_ok (b : Bool) : F_law_turned Γ [.str [sg b]] = mpure (.str [sg !b]) := WP_pure_of fun z => by
  cases b
  · simp [F_law_turned, B_law_turned, rho0, sg, sizeLine_eq, compL_cons, eqD_str, joinD, strsD, joinL]
  · simp [F_law_turned, B_law_turned, rho0, sg, sizeLine_eq, compL_cons, eqD_str, joinD, strsD, joinL]
theorem flip_ok {bs : List Bool} {k : Nat} (h : k < bs.length) (h1 : bs.length ≤ 12) : F_law_flip Γ [.str (txt bs), .int k] = mpure (.str (txt (flp bs k))) := WP_pure_of fun z => by
  have hl : bs.length ≤ 16777216 := by omega
  have e1 : atI (txt bs) (k : Int) = some (sg bs[k]) := by rw [atI_pos (by omega), Int.toNat_natCast, txt_get h]
  have e2 : cutL (txt bs) none (some (k : Int)) = txt (bs.take k) := by
    rw [cutL_hi (by omega), Int.toNat_natCast]; unfold txt; rw [List.map_take]
  have e3 : cutL (txt bs) (some ((k : Int) + 1)) none = txt (bs.drop (k + 1)) := by
    rw [cutL_lo (by omega), show ((k : Int) + 1).toNat = k + 1 by omega]; unfold txt; rw [List.map_drop]
  have l1 : (bs.take k).length + 1 ≤ 16777216 := by rw [List.length_take]; omega
  have l2 : (bs.take k).length + 1 + (bs.drop (k + 1)).length ≤ 16777216 := by rw [List.length_take, List.length_drop]; omega
  have e4 : addD (.str (txt (bs.take k))) (.str [sg !bs[k]]) = some (.str (txt (bs.take k) ++ [sg !bs[k]])) := addD_str (by rw [txt_len]; exact l1)
  have e5 : addD (.str (txt (bs.take k) ++ [sg !bs[k]])) (.str (txt (bs.drop (k + 1)))) = some (.str (txt (bs.take k) ++ [sg !bs[k]] ++ txt (bs.drop (k + 1)))) := addD_str (by rw [List.length_append, txt_len, txt_len]; exact l2)
  simp [F_law_flip, B_law_flip, rho0, slD_str, txt_len, hl, e1, e2, e3, lturn1_ok, ixA_str, e4]
  rw [e5]
  simp
  unfold flp
  rw [List.getElem?_eq_getElem h]
  simp [txt, sg]
theorem alike_str {n : Nat} {a : List Nat} (h : okS a = true) : F_law_alike Γ (n + 1) [.str a, .str a] = mpure (.bl true) := WP_pure_of fun z => by
  simp [F_law_alike, B_law_alike, rho0, isiD, tyD, isK, isNonD, eqD_str, h]
end C
set_option Elab.async false
set_option linter.all false
set_option maxRecDepth 100000
set_option maxHeartbeats 4000000
namespace C
open PySem PySem.Spec PyProof.Rows L2 DL
variable {Γ : Cfg}
section
variable {α : Type} {z z1 : S} {ρ ρ1 : EnD} {i : Nat}
theorem WP_eq {m : M α} {x : α} (h : WP m z fun d z' => d = x ∧ z' = z1) : m z = .ok x z1 := by
  unfold WP at h
  split at h
  · rename_i e; obtain ⟨rfl, rfl⟩ := h; exact e
  · exact h.elim
theorem sIf_true {t : EnD → M Bool} {a b : SM} (h : WP (t ρ) z fun c z' => c = true ∧ z' = z) : sIf t a b ρ z = a ρ z := by
  unfold sIf; rw [WP_eq h]; rfl
theorem sSeq_exc {a b : SM} {x : Exn} (h : a ρ z = .exc x z1) : sSeq a b ρ z = .exc x z1 := by unfold sSeq; rw [h]
theorem run_exc {n : Nat} {b : SM} {ds : List D} {x : Exn} (h : b (rho0 n ds) z = .exc x z1) : runD n b ds z = .exc x z1 := by unfold runD; rw [h]
theorem rz_exc {x : Str} (h : Γ.E x = true) : sRz Γ x ρ z = .exc ⟨x, none⟩ z := by unfold sRz; rw [if_pos h]; rfl
theorem eStopG_ev {b : Bool} {xs : EnD → M (List D)} {t : EnD → M Bool} {f : EnD → M D} {Q : D → S → Prop} : WP (eStopG b i xs t f ρ) z Q = WP (xs ρ) z fun l z' => if ownAt ρ i = false then WP (stopL b i t f l ρ) z' fun c z'' => Q (.bl c) z'' else False := by
  unfold eStopG; rw [WP_bind]; congr; funext x z1; rw [WP_ite, WP_bind]; rfl
theorem all_map {g : α → D} {f : EnD → M D} {fb : α → Bool} : ∀ {l : List α}, (∀ x ∈ l, f ((ρ.set i none).set i (some (.val (g x)))) = mpure (.bl (fb x))) → stopL false i tYesD f (l.map g) ρ = mpure (l.all fb)
  | [], _ => rfl
  | x :: l, h => by
    have ih := all_map (l := l) fun y hy => h y (List.mem_cons_of_mem _ hy)
    have h1 := h x (List.mem_cons_self ..)
    rw [List.map_cons]
    unfold stopL
    rw [h1, ih]
    funext z
    cases hb : fb x <;> simp [mbind, mne, tYesD, mpure, mopt, asB, hb]
end
def sgn (c : Nat) : Bool := decide (43 = c) || decide (45 = c)
end C
set_option Elab.async false
set_option linter.all false
set_option maxRecDepth 100000
set_option maxHeartbeats 1000000
namespace C
open PySem PySem.Spec PyProof.Rows L2 DL
variable {Γ : Cfg}
def T14 : List (List Bool) := rws 1 ++ rws 2 ++ rws 3
theorem T14_len : T14.length = 14 := by decide +kernel
theorem T14_nodup : T14.Nodup := by decide +kernel
theorem forD_nil' {i : Nat} {b : SM} {ρ : EnD} {z : S} : forD i b [] ρ z = .nx ρ z := by unfold forD; rfl
theorem nx_ev' {ρ : EnD} {z : S} {Qn : EnD → S → Prop} {Qr : D → S → Prop} : WS (.nx ρ z) Qn Qr = Qn ρ z := by unfold WS; rfl
theorem short_step {n : Int} {Ln L' acc xs : List D} {y : Option D} {x0 : Option Sl} {z : S} {Qn : EnD → S → Prop} {Qr : D → S → Prop} (r : F_law_rows Γ [.int n] = mpure (.lst Ln)) (a : addD (.lst acc) (.lst Ln) = some (.lst L'))
    (h : WS (forD 2 (sSet 1 (e2 (op2 addD) (eV 1) (eCall (F_law_rows Γ) [eV 2]))) xs [x0, some (.val (.lst L')), some (.val (.int n))] z) Qn Qr) :
    WS (forD 2 (sSet 1 (e2 (op2 addD) (eV 1) (eCall (F_law_rows Γ) [eV 2]))) (.int n :: xs) [x0, some (.val (.lst acc)), y.map .val] z) Qn Qr := by
  refine forD_cons (by cases y <;> rfl) ?_
  simp only [List.set_cons_succ, List.set_cons_zero, sSet_ev, e2_ev, eV_succ, eV_zero, WP_pure, eCall_ev, evs_cons, evs_nil, r, op2_ev, a, WP_some, ownAt_succ, ownAt_zv, Bool.false_eq_true, if_false]
  exact h
end C
set_option Elab.async false
set_option linter.all false
set_option maxRecDepth 100000
set_option maxHeartbeats 1000000
namespace C
open PySem PySem.Spec PyProof.Rows L2 DL
variable {Γ : Cfg}
def fT (F : List Bool → Bool) : List Bool → D := fun bs => .str [sg (F bs)]
end C
set_option Elab.async false
set_option linter.all false
set_option maxRecDepth 100000
set_option maxHeartbeats 1000000
namespace C
open PySem PySem.Spec PyProof.Rows L2 DL
variable {Γ : Cfg}
theorem alike_vs {n : Nat} {bs : List Bool} (h : bs.length ≤ 1000) : F_law_alike Γ (n + 2) [.tup (vs bs), .tup (vs bs)] = mpure (.bl true) := WP_pure_of fun z => by
  have e : compL 2 (tNot (tV (eCall (F_law_alike Γ (n + 1)) [e2 (op2 ixA) (eV 0) (eV 2), e2 (op2 ixA) (eV 1) (eV 2)]))) (eV 2) (rangeD 0 bs.length) [some (.val (.tup (vs bs))), some (.val (.tup (vs bs))), none] = mpure [] := by
    rw [compL_range (tb := fun _ => false) (fb := fun k => .int k) fun k hk => ⟨WP_pure_of fun z => ?_, fun h => by cases h⟩]
    · rw [List.filter_eq_nil_iff.mpr (by simp)]; rfl
    · have e1 : atI (vs bs) (k : Int) = some (.str (vc bs[k])) := by rw [atI_pos (by omega), Int.toNat_natCast, vs_get hk]
      have e2 : okS (vc bs[k]) = true := by cases bs[k] <;> rfl
      simp [e1, alike_str e2]
  have e2 : eqD (.lst []) (.lst []) = some (.bl true) := rfl
  rw [show F_law_alike Γ (n + 2) = runD 3 (B_law_alike Γ (F_law_alike Γ (n + 1))) from rfl]
  have e3 : neD (.bl false) (.bl false) = some (.bl false) := rfl
  simp [B_law_alike, rho0, isiD, tyD, isK, isNonD, vs_len, e, e2, e3]
  refine ⟨by omega, by simp [rangeD, sizeLine_eq]; omega⟩
end C
set_option Elab.async false
set_option linter.all false
set_option maxRecDepth 100000
set_option maxHeartbeats 1000000
namespace C
open PySem PySem.Spec PyProof.Rows L2 DL
variable {Γ : Cfg}
theorem small_14 : lenD w_SMALL_ROWS = some (.int 14) := rfl
end C
set_option Elab.async false
set_option linter.all false
set_option maxRecDepth 100000
set_option maxHeartbeats 1000000
namespace C
open PySem PySem.Spec PyProof.Rows L2 DL
variable {Γ : Cfg}
def tdR (Γ : Cfg) (R : List (List Bool)) (F : List Bool → Bool) : D := .dT Γ.hs (R.map fun bs => (bs.map vc, .str (vc (F bs))))
theorem getT_map {f : List Bool → D} {bs : List Bool} : ∀ {R : List (List Bool)}, getT (R.map fun bs => (bs.map vc, f bs)) (bs.map vc) = if bs ∈ R then some (f bs) else none
  | [] => rfl
  | c :: R => by
    have ih := getT_map (f := f) (bs := bs) (R := R)
    unfold getT at ih ⊢
    rw [List.map_cons, List.find?_cons]
    by_cases e : c = bs
    · subst e; simp
    · have : decide (c.map vc = bs.map vc) = false := decide_eq_false fun z => e (vcs_inj.mp z)
      simp only [this]
      rw [ih]
      simp [Ne.symm e]
theorem keyD_vs (bs : List Bool) : keyD (.tup (vs bs)) = some (bs.map vc) := by
  show strsD (vs bs) = _
  induction bs with
  | nil => rfl
  | cons b bs ih =>
    show strsD (D.str (vc b) :: vs bs) = _
    unfold strsD
    rw [ih] <;> rfl
section
variable {R : List (List Bool)} {F : List Bool → Bool} {m : Nat}
theorem ixT_td {bs : List Bool} (h : bs ∈ R) : ixT Γ.hs (tdR Γ R F) (.tup (vs bs)) = some (.str (vc (F bs))) := by
  unfold tdR ixT
  dsimp only
  rw [if_pos rfl, keyD_vs, Option.bind_some, getT_map (f := fun bs => .str (vc (F bs))), if_pos h]
theorem inT_td {bs : List Bool} : inT Γ.hs (.tup (vs bs)) (tdR Γ R F) = some (.bl (decide (bs ∈ R))) := by
  unfold tdR inT
  dsimp only
  rw [if_pos rfl, keyD_vs, Option.bind_some, getT_map (f := fun bs => .str (vc (F bs)))]
  by_cases h : bs ∈ R
  · rw [if_pos h, decide_eq_true h] <;> rfl
  · rw [if_neg h, decide_eq_false h] <;> rfl
theorem lenT_td : lenT Γ.hs (tdR Γ R F) = some (.int R.length) := by
  unfold tdR lenT
  dsimp only
  rw [if_pos rfl, List.length_map]
def rowT (bs : List Bool) : D := .tup (vs bs)
theorem keysD_td : keysD (tdR Γ R F) = some (R.map rowT) := by
  unfold tdR keysD rowT
  dsimp only
  rw [List.map_map]
  congr 2
  funext bs
  show D.tup ((bs.map vc).map .str) = _
  rw [← vs_map]
theorem iKT_ev {ρ : EnD} {z : S} {f : EnD → M D} {Q : List D → S → Prop} : WP (iKT f ρ) z Q = WP (f ρ) z fun d z' => WP (mopt (keysD d)) z' Q := WP_bind
end
/-- a loop that ends with False at a fault -/
theorem for_find {α : Type} {i : Nat} {body : SM} {g : α → D} {flt : α → Bool} {P : EnD → Prop} {z : S} (hP : ∀ ρ, P ρ → ownAt ρ i = false) : ∀ {l : List α},
    (∀ x ∈ l, ∀ ρ, P ρ → WS (body (ρ.set i (some (.val (g x)))) z) (fun ρ' z' => flt x = false ∧ P ρ' ∧ z' = z) (fun d z' => flt x = true ∧ d = .bl false ∧ z' = z)) → ∀ {ρ : EnD}, P ρ →
    WS (forD i body (l.map g) ρ z) (fun ρ' z' => l.any flt = false ∧ P ρ' ∧ z' = z) (fun d z' => l.any flt = true ∧ d = .bl false ∧ z' = z)
  | [], _, ρ, p => ⟨rfl, p, rfl⟩
  | x :: l, h, ρ, p => by
    have ih := fun {ρ : EnD} (p : P ρ) => for_find (l := l) hP (fun y hy => h y (List.mem_cons_of_mem _ hy)) (ρ := ρ) p
    rw [List.map_cons]
    refine forD_cons (hP ρ p) ?_
    have h1 := h x (List.mem_cons_self ..) ρ p
    unfold WS at h1 ⊢
    cases e : body (ρ.set i (some (.val (g x)))) z with
    | nx ρ' z' =>
      rw [e] at h1
      obtain ⟨c, p', ez⟩ := h1
      rw [ez]
      have h2 := ih p'
      simp only [List.any_cons, c, Bool.false_or]
      exact h2
    | rt d z' =>
      rw [e] at h1
      obtain ⟨c, ed, ez⟩ := h1
      simp only [List.any_cons, c, Bool.true_or]
      exact ⟨trivial, ed, ez⟩
    | bk ρ' z' => rw [e] at h1; exact h1.elim
    | ct ρ' z' => rw [e] at h1; exact h1.elim
    | exc x z' => rw [e] at h1; exact h1.elim
    | bad => rw [e] at h1; exact h1.elim
/-- .. over a range -/
theorem for_rng {i : Nat} {body : SM} {flt : Nat → Bool} {P : EnD → Prop} {z : S} {lo : Int} {n : Nat} (hP : ∀ ρ, P ρ → ownAt ρ i = false)
    (h : ∀ k, k < n → ∀ ρ, P ρ → WS (body (ρ.set i (some (.val (.int (lo + (k : Int)))))) z) (fun ρ' z' => flt k = false ∧ P ρ' ∧ z' = z) (fun d z' => flt k = true ∧ d = .bl false ∧ z' = z)) {ρ : EnD} (p : P ρ) :
    WS (forD i body (rangeD lo n) ρ z) (fun ρ' z' => (List.range n).any flt = false ∧ P ρ' ∧ z' = z) (fun d z' => (List.range n).any flt = true ∧ d = .bl false ∧ z' = z) :=
  for_find (l := List.range n) (g := fun (k : Nat) => D.int (lo + (k : Int))) hP (fun k hk => h k (List.mem_range.mp hk)) p
/-- .. over pairs -/
theorem forP_find {i j : Nat} {body : SM} {g : Nat → D × D} {flt : Nat → Bool} {P : EnD → Prop} {z : S} (hi : ∀ ρ, P ρ → ownAt ρ i = false) (hj : ∀ ρ, P ρ → ownAt ρ j = false) : ∀ {l : List Nat},
    (∀ x ∈ l, ∀ ρ, P ρ → WS (body ((ρ.set i (some (.val (g x).1))).set j (some (.val (g x).2))) z) (fun ρ' z' => flt x = false ∧ P ρ' ∧ z' = z) (fun d z' => flt x = true ∧ d = .bl false ∧ z' = z)) → ∀ {ρ : EnD}, P ρ →
    WS (forP i j body (l.map g) ρ z) (fun ρ' z' => l.any flt = false ∧ P ρ' ∧ z' = z) (fun d z' => l.any flt = true ∧ d = .bl false ∧ z' = z)
  | [], _, ρ, p => ⟨rfl, p, rfl⟩
  | x :: l, h, ρ, p => by
    have ih := fun {ρ : EnD} (p : P ρ) => forP_find (l := l) hi hj (fun y hy => h y (List.mem_cons_of_mem _ hy)) (ρ := ρ) p
    rw [List.map_cons]
    show WS (forP i j body (((g x).1, (g x).2) :: l.map g) ρ z) _ _
    refine forP_cons (hi ρ p) (hj ρ p) ?_
    have h1 := h x (List.mem_cons_self ..) ρ p
    unfold WS at h1 ⊢
    cases e : body ((ρ.set i (some (.val (g x).1))).set j (some (.val (g x).2))) z with
    | nx ρ' z' =>
      rw [e] at h1
      obtain ⟨c, p', ez⟩ := h1
      rw [ez]
      have h2 := ih p'
      simp only [List.any_cons, c, Bool.false_or]
      exact h2
    | rt d z' =>
      rw [e] at h1
      obtain ⟨c, ed, ez⟩ := h1
      simp only [List.any_cons, c, Bool.true_or]
      exact ⟨trivial, ed, ez⟩
    | bk ρ' z' => rw [e] at h1; exact h1.elim
    | ct ρ' z' => rw [e] at h1; exact h1.elim
    | exc x z' => rw [e] at h1; exact h1.elim
    | bad => rw [e] at h1; exact h1.elim
theorem enum_map {α : Type} (g : α → D) : ∀ (xs : List α) (k : Nat), enumD k (xs.map g) = (List.range xs.length).map fun i => (D.int ((k + i : Nat) : Int), ((xs.map g)[i]?).getD .non)
  | [], _ => rfl
  | x :: xs, k => by
    rw [List.map_cons, enumD, enum_map g xs (k + 1), List.length_cons, List.range_succ_eq_map, List.map_cons, List.map_map]
    congr 1
    refine List.map_congr_left fun i _ => ?_
    show _ = (D.int ((k + (i + 1) : Nat) : Int), ((g x :: xs.map g)[i + 1]?).getD .non)
    rw [List.getElem?_cons_succ, show k + (i + 1) = k + 1 + i by omega]
/-- all(.. for .. if ..) -/
theorem all_mapT {α : Type} {i : Nat} {ρ : EnD} {g : α → D} {t : EnD → M Bool} {f : EnD → M D} {tb fb : α → Bool} : ∀ {l : List α}, (∀ x ∈ l, t ((ρ.set i none).set i (some (.val (g x)))) = mpure (tb x) ∧ (tb x = true → f ((ρ.set i none).set i (some (.val (g x)))) = mpure (.bl (fb x)))) → stopL false i t f (l.map g) ρ = mpure (l.all fun x => !tb x || fb x)
  | [], _ => rfl
  | x :: l, h => by
    have ih := all_mapT (l := l) fun y hy => h y (List.mem_cons_of_mem _ hy)
    obtain ⟨h1, h2⟩ := h x (List.mem_cons_self ..)
    rw [List.map_cons]
    unfold stopL
    rw [h1, ih]
    funext z
    cases ht : tb x with
    | false => simp [mbind, mne, mpure, ht]
    | true =>
      rw [h2 ht]
      cases hb : fb x <;> simp [mbind, mne, mpure, mopt, asB, hb, ht]
theorem asP {n : Nat} {b : SM} {ds : List D} {v : Bool} (h : ∀ z, WS (b (rho0 n ds) z) (fun _ _ => False) (fun d z' => d = .bl v ∧ z' = z)) : runD n b ds = mpure (.bl v) := WP_pure_of fun z => by
  rw [run_ev]
  have := h z
  unfold WS at this ⊢
  cases e : b (rho0 n ds) z <;> rw [e] at this <;> first | exact this | exact this.elim
/-- a search, then True -/
theorem search_run {n : Nat} {ds : List D} {b : SM} {v : Bool} {P : EnD → Prop} (h : ∀ z, WS (b (rho0 n ds) z) (fun ρ' z' => v = false ∧ P ρ' ∧ z' = z) (fun d z' => v = true ∧ d = .bl false ∧ z' = z)) : runD n (sSeq b (sRet (eC (.bl true)))) ds = mpure (.bl (!v)) := by
  refine asP fun z => ?_
  rw [sSeq_ev]
  have := h z
  unfold WS at this ⊢
  cases e : b (rho0 n ds) z with
  | nx ρ' z' =>
    rw [e] at this
    obtain ⟨c, _, ez⟩ := this
    rw [c, ez]
    exact ⟨rfl, rfl⟩
  | rt d z' =>
    rw [e] at this
    obtain ⟨c, ed, ez⟩ := this
    rw [c]
    exact ⟨ed, ez⟩
  | bk ρ' z' => rw [e] at this; exact this.elim
  | ct ρ' z' => rw [e] at this; exact this.elim
  | exc x z' => rw [e] at this; exact this.elim
  | bad => rw [e] at this; exact this.elim
end C
set_option Elab.async false
set_option linter.all false
set_option maxRecDepth 100000
set_option maxHeartbeats 1000000
namespace C
open PySem PySem.Spec PyProof.Rows L2 DL
variable {Γ : Cfg}
theorem all_any {α : Type} {p q : α → Bool} (h : ∀ x, p x = !q x) : ∀ l : List α, l.all p = !l.any q
  | [] => rfl
  | x :: l => by rw [List.all_cons, List.any_cons, all_any h l, h x, Bool.not_or]
def swp (bs : List Bool) (k : Nat) : List Bool := bs.take k ++ [bs[k + 1]?.getD true, bs[k]?.getD true] ++ bs.drop (k + 2)
def ins (bs : List Bool) (b : Bool) (k : Nat) : List Bool := bs.take k ++ [b] ++ bs.drop k
def rem (bs : List Bool) (k : Nat) : List Bool := bs.take k ++ bs.drop (k + 1)
def agB (F : List Bool → Bool) (bs : List Bool) : Bool := decide (bs.count (hd bs) = bs.length) && (F bs != hd bs)
def evB (F : List Bool → Bool) (bs : List Bool) : Bool := F (bs.map not) == F bs
def grB (F : List Bool → Bool) (bs : List Bool) : Bool := (List.range bs.length).any fun k => (bs[k]?.getD true == false) && F bs && !F (flp bs k)
def kpB (R : List (List Bool)) (F : List Bool → Bool) (bs : List Bool) : Bool := (List.range (bs.length + 1)).any fun k => decide (ins bs (F bs) k ∈ R) && (F (ins bs (F bs) k) != F bs)
def moB (F : List Bool → Bool) (bs : List Bool) : Bool := decide (bs.count true ≠ bs.count false) && (F bs != decide (bs.count false < bs.count true))
def orB (F : List Bool → Bool) (bs : List Bool) : Bool := (List.range (bs.length - 1)).any fun k => F (swp bs k) != F bs
def paB (F : List Bool → Bool) (bs : List Bool) : Bool := (List.range (bs.length - 1)).any fun k => F [F (bs.take (k + 1)), F (bs.drop (k + 1))] != F bs
def rpB (F : List Bool → Bool) (bs : List Bool) : Bool := (List.range (bs.length - 1)).any fun k => (bs[k + 1]?.getD true == bs[k]?.getD true) && (F bs != F (rem bs (k + 1)))
/-- what told, what the loops' slots hold -/
def SlT (Γ : Cfg) (R : List (List Bool)) (F : List Bool → Bool) (n : Nat) (ρ : EnD) : Prop := ∃ os : List (Option D), os.length = n ∧ ρ = some (.val (tdR Γ R F)) :: os.map (Option.map .val)
theorem SlT.own {R : List (List Bool)} {F : List Bool → Bool} {n : Nat} {ρ : EnD} (h : SlT Γ R F n ρ) (i : Nat) : ownAt ρ i = false := by
  obtain ⟨os, _, rfl⟩ := h
  cases i with
  | zero => rfl
  | succ i =>
    unfold ownAt
    rw [List.getElem?_cons_succ, List.getElem?_map]
    cases os[i]? with
    | none => rfl
    | some o => cases o <;> rfl
theorem SlT.set {R : List (List Bool)} {F : List Bool → Bool} {n : Nat} {ρ : EnD} (h : SlT Γ R F n ρ) (i : Nat) (d : D) : SlT Γ R F n (ρ.set (i + 1) (some (.val d))) := by
  obtain ⟨os, hl, rfl⟩ := h
  refine ⟨os.set i (some d), by rw [List.length_set]; exact hl, ?_⟩
  rw [List.set_cons_succ, List.map_set]
  rfl
theorem SlT.start {R : List (List Bool)} {F : List Bool → Bool} {n : Nat} : SlT Γ R F n (rho0 (n + 1) [tdR Γ R F]) := by
  refine ⟨List.replicate n none, List.length_replicate, ?_⟩
  unfold rho0
  simp
theorem eqD_vc {a b : Bool} : eqD (.str (vc a)) (.str (vc b)) = some (.bl (a == b)) := by
  rw [eqD_str (okS_vc a) (okS_vc b)]
  cases a <;> cases b <;> rfl
theorem neD_vc {a b : Bool} : neD (.str (vc a)) (.str (vc b)) = some (.bl (a != b)) := by
  rw [neD_str (okS_vc a) (okS_vc b)]
  cases a <;> cases b <;> rfl
theorem in_nv {d : D} {p : PyData} {c : Bool} (hd : shp d = some p) : inD d (.tup [.non, .str (vc c)]) = some (.bl (PyData.eqv .none p || PyData.eqv (.str (ST (vc c))) p)) := by
  have e : pyAll [.non, .str (vc c)] = some [.none, .str (ST (vc c))] := rfl
  unfold inD
  rw [show items (.tup [.non, .str (vc c)]) = some [.non, .str (vc c)] from rfl, Option.bind_some, hd, Option.bind_some, e, Option.bind_some, if_pos (by cases c <;> decide +kernel)]
  simp
section
variable {R : List (List Bool)} {F : List Bool → Bool} {m : Nat} (hR : ∀ bs, bs ∈ R ↔ bs ≠ [] ∧ bs.length ≤ m) (hm : m ≤ 3)
include hR hm
theorem agreed_ok : F_agreed Γ [tdR Γ R F] = mpure (.bl (!R.any (agB F))) := asP fun z => by
  unfold B_agreed
  rw [sRet_ev, eStopG_ev, iKT_ev, show rho0 2 [tdR Γ R F] = [some (.val (tdR Γ R F)), none] from rfl, eV_zero, WP_pure, keysD_td, WP_some]
  rw [if_pos (show ownAt [some (Sl.val (tdR Γ R F)), none] 1 = false from rfl), all_mapT (tb := fun bs => decide (bs.count (hd bs) = bs.length)) (fb := fun bs => F bs == hd bs) fun bs hb => ?_, WP_pure]
  · exact ⟨congrArg D.bl (all_any (fun bs => by unfold agB; cases decide (bs.count (hd bs) = bs.length) <;> cases F bs <;> cases hd bs <;> rfl) R), rfl⟩
  · obtain ⟨h0, h1⟩ := (hR bs).mp hb
    refine ⟨WP_pure_of fun z => ?_, fun _ => WP_pure_of fun z => ?_⟩
    · simp only [List.set_cons_succ, List.set_cons_zero, tV_ev, e2_ev, e1_ev, eTCount_ev, eV_succ, eV_zero, eC_ev, WP_pure, rowT, asT_tup, WP_some, op1_ev, op2_ev, lenD_tup, ixA_tup, vs_0 h0, cnt_vs, eqD_int, asB_bl, vs_len]
      refine ⟨?_, trivial⟩
      rw [decide_eq_decide]
      exact Int.ofNat_inj
    · simp only [List.set_cons_succ, List.set_cons_zero, e2_ev, eV_succ, eV_zero, eC_ev, WP_pure, rowT, op2_ev, ixA_tup, vs_0 h0, WP_some, ixT_td hb, eqD_vc]
      exact ⟨trivial, trivial⟩
theorem turned_row_ok {bs : List Bool} (h1 : bs.length ≤ 12) : F_turned_row Γ [.tup (vs bs)] = mpure (.tup (vs (bs.map not))) := WP_pure_of fun z => by
  have e : compL 1 tYesD (eCall (F_turned Γ) [eV 1]) (vs bs) [some (.val (.tup (vs bs))), none] = mpure (vs (bs.map not)) := by
    have := compL_map (i := 1) (t := tYesD) (f := eCall (F_turned Γ) [eV 1]) (ρ := [some (.val (.tup (vs bs))), none]) (g := fun b => D.str (vc b)) (tb := fun _ => true) (fb := fun b => D.str (vc !b)) (l := bs) fun b _ => ⟨rfl, fun _ => WP_pure_of fun z => by
      simp only [List.set_cons_succ, List.set_cons_zero, eCall_ev, evs_cons, evs_nil, eV_succ, eV_zero, WP_pure, turned_ok]
      exact ⟨trivial, trivial⟩⟩
    rw [List.filter_eq_self.mpr fun _ _ => rfl] at this
    rw [show vs (bs.map not) = bs.map fun b => D.str (vc !b) by unfold vs; rw [List.map_map] <;> rfl]
    exact this
  unfold F_turned_row B_turned_row
  rw [run_ev, sRet_ev, show rho0 2 [D.tup (vs bs)] = [some (.val (.tup (vs bs))), none] from rfl, eTupG_ev, iS_ev, eV_zero, WP_pure, iterD_tup, WP_some, if_pos ⟨by rw [vs_len, sizeLine_eq]; omega, rfl⟩, e, WP_pure]
  exact ⟨rfl, rfl⟩
theorem even_ok : F_even Γ [tdR Γ R F] = mpure (.bl (!R.any (evB F))) := asP fun z => by
  unfold B_even
  rw [sRet_ev, eStopG_ev, iKT_ev, show rho0 2 [tdR Γ R F] = [some (.val (tdR Γ R F)), none] from rfl, eV_zero, WP_pure, keysD_td, WP_some]
  rw [if_pos (show ownAt [some (Sl.val (tdR Γ R F)), none] 1 = false from rfl), all_mapT (tb := fun _ => true) (fb := fun bs => F (bs.map not) == !F bs) fun bs hb => ?_, WP_pure]
  · exact ⟨congrArg D.bl (all_any (fun bs => by unfold evB; cases F (bs.map not) <;> cases F bs <;> rfl) R), rfl⟩
  · obtain ⟨h0, h1⟩ := (hR bs).mp hb
    have ht := turned_row_ok (Γ := Γ) hR hm (bs := bs) (by omega)
    have hb' : bs.map not ∈ R := (hR _).mpr ⟨by simpa using h0, by rw [List.length_map]; exact h1⟩
    refine ⟨rfl, fun _ => WP_pure_of fun z => ?_⟩
    simp only [List.set_cons_succ, List.set_cons_zero, e2_ev, eCall_ev, evs_cons, evs_nil, eV_succ, eV_zero, WP_pure, rowT, ht, op2_ev, ixT_td hb, ixT_td hb', WP_some, turned_ok, eqD_vc]
    exact ⟨trivial, trivial⟩
theorem most_rule_ok : F_most Γ [tdR Γ R F] = mpure (.bl (!R.any (moB F))) := asP fun z => by
  unfold B_most
  rw [sRet_ev, eStopG_ev, iKT_ev, show rho0 2 [tdR Γ R F] = [some (.val (tdR Γ R F)), none] from rfl, eV_zero, WP_pure, keysD_td, WP_some]
  rw [if_pos (show ownAt [some (Sl.val (tdR Γ R F)), none] 1 = false from rfl), all_mapT (tb := fun _ => true) (fb := fun bs => !moB F bs) fun bs hb => ?_, WP_pure]
  · exact ⟨congrArg D.bl (all_any (fun bs => by cases moB F bs <;> rfl) R), rfl⟩
  · refine ⟨rfl, fun _ => WP_pure_of fun z => ?_⟩
    simp only [List.set_cons_succ, List.set_cons_zero, e2_ev, eCall_ev, eTup_ev, evs_cons, evs_nil, eV_succ, eV_zero, eC_ev, WP_pure, rowT, greater_ok, op2_ev, ixT_td hb, WP_some]
    have e : inD (grt bs) (.tup [.non, .str (vc (F bs))]) = some (.bl (!moB F bs)) := by
      unfold grt moB
      by_cases c : bs.count true = bs.count false
      · rw [if_pos c, in_nv shp_non]
        simp only [c, ne_eq, not_true_eq_false, decide_false, Bool.false_and, Bool.not_false]
        rfl
      · rw [if_neg c]
        simp only [c, ne_eq, not_false_eq_true, decide_true, Bool.true_and]
        by_cases c2 : bs.count false < bs.count true
        · rw [if_pos c2, decide_eq_true c2, in_nv (shp_str (okS_vc _))]
          cases F bs <;> simp [vc, PyData.eqv] <;> decide +kernel
        · rw [if_neg c2, decide_eq_false c2, in_nv (shp_str (okS_vc _))]
          cases F bs <;> simp [vc, PyData.eqv] <;> decide +kernel
    rw [e, WP_some]
    exact ⟨rfl, rfl⟩
end
end C
set_option Elab.async false
set_option linter.all false
set_option maxRecDepth 100000
set_option maxHeartbeats 1000000
namespace C
open PySem PySem.Spec PyProof.Rows L2 DL
variable {Γ : Cfg}
theorem WS_imp {o : Out} {Qn Qn' : EnD → S → Prop} {Qr Qr' : D → S → Prop} (h : WS o Qn Qr) (i : ∀ ρ z, Qn ρ z → Qn' ρ z) (j : ∀ d z, Qr d z → Qr' d z) : WS o Qn' Qr' := by
  unfold WS at h ⊢
  cases o <;> first | exact i _ _ h | exact j _ _ h | exact h.elim
theorem eq_allow {b : Bool} : eqD (.str (vc b)) (.str [97, 108, 108, 111, 119]) = some (.bl (b == true)) := eqD_vc (a := b) (b := true)
theorem eq_deny {b : Bool} : eqD (.str (vc b)) (.str [100, 101, 110, 121]) = some (.bl (b == false)) := eqD_vc (a := b) (b := false)
section
variable {R : List (List Bool)} {F : List Bool → Bool} {m : Nat}
theorem SlT.three {ρ : EnD} (h : SlT Γ R F 3 ρ) : ∃ a b c : Option D, ρ = [some (.val (tdR Γ R F)), a.map .val, b.map .val, c.map .val] := by
  obtain ⟨os, hl, rfl⟩ := h
  match os, hl with
  | [a, b, c], _ => exact ⟨a, b, c, rfl⟩
theorem SlT.two {ρ : EnD} (h : SlT Γ R F 2 ρ) : ∃ a b : Option D, ρ = [some (.val (tdR Γ R F)), a.map .val, b.map .val] := by
  obtain ⟨os, hl, rfl⟩ := h
  match os, hl with
  | [a, b], _ => exact ⟨a, b, rfl⟩
/-- a row's loop: told, the row, two more slots -/
def Lp (Γ : Cfg) (R : List (List Bool)) (F : List Bool → Bool) (bs : List Bool) (ρ : EnD) : Prop := ∃ a b : Option D, ρ = [some (.val (tdR Γ R F)), some (.val (rowT bs)), a.map .val, b.map .val]
theorem Lp.own {bs : List Bool} {ρ : EnD} (h : Lp Γ R F bs ρ) (i : Nat) : ownAt ρ i = false := by
  obtain ⟨a, b, rfl⟩ := h
  match i with
  | 0 => rfl
  | 1 => rfl
  | 2 => cases a <;> rfl
  | 3 => cases b <;> rfl
  | n + 4 => rfl
theorem Lp.sl {bs : List Bool} {ρ : EnD} (h : Lp Γ R F bs ρ) : SlT Γ R F 3 ρ := by
  obtain ⟨a, b, rfl⟩ := h
  exact ⟨[some (rowT bs), a, b], rfl, rfl⟩
theorem SlT.lp {bs : List Bool} {ρ : EnD} (h : SlT Γ R F 3 ρ) : Lp Γ R F bs (ρ.set 1 (some (.val (rowT bs)))) := by
  obtain ⟨a, b, c, rfl⟩ := h.three
  exact ⟨b, c, rfl⟩
def Lq (Γ : Cfg) (R : List (List Bool)) (F : List Bool → Bool) (bs : List Bool) (ρ : EnD) : Prop := ∃ a : Option D, ρ = [some (.val (tdR Γ R F)), some (.val (rowT bs)), a.map .val]
theorem Lq.own {bs : List Bool} {ρ : EnD} (h : Lq Γ R F bs ρ) (i : Nat) : ownAt ρ i = false := by
  obtain ⟨a, rfl⟩ := h
  match i with
  | 0 => rfl
  | 1 => rfl
  | 2 => cases a <;> rfl
  | n + 3 => rfl
theorem Lq.sl {bs : List Bool} {ρ : EnD} (h : Lq Γ R F bs ρ) : SlT Γ R F 2 ρ := by
  obtain ⟨a, rfl⟩ := h
  exact ⟨[some (rowT bs), a], rfl, rfl⟩
theorem SlT.lq {bs : List Bool} {ρ : EnD} (h : SlT Γ R F 2 ρ) : Lq Γ R F bs (ρ.set 1 (some (.val (rowT bs)))) := by
  obtain ⟨a, b, rfl⟩ := h.two
  exact ⟨b, rfl⟩
theorem cut_hi {bs : List Bool} {k : Nat} : cutL (vs bs) none (some (k : Int)) = vs (bs.take k) := by
  rw [cutL_hi (by omega), Int.toNat_natCast]; unfold vs; rw [List.map_take]
theorem cut_lo {bs : List Bool} {k : Nat} : cutL (vs bs) (some (k : Int)) none = vs (bs.drop k) := by
  rw [cutL_lo (by omega), Int.toNat_natCast]; unfold vs; rw [List.map_drop]
theorem vs_at {bs : List Bool} {k : Nat} (h : k < bs.length) : atI (vs bs) (k : Int) = some (.str (vc (bs[k]?.getD true))) := by
  rw [atI_pos (by omega), Int.toNat_natCast, vs_get h, List.getElem?_eq_getElem h] <;> rfl
theorem add_vs {a b : List Bool} (h : a.length + b.length ≤ 1000) : addD (.tup (vs a)) (.tup (vs b)) = some (.tup (vs (a ++ b))) := by
  rw [addD_tup (by rw [vs_len, vs_len]; omega)]
  unfold vs
  rw [List.map_append]
variable (hR : ∀ bs, bs ∈ R ↔ bs ≠ [] ∧ bs.length ≤ m) (hm : m ≤ 3)
include hR hm
theorem growing_ok : F_growing Γ [tdR Γ R F] = mpure (.bl (!R.any (grB F))) := search_run (P := SlT Γ R F 3) fun z => by
  rw [sFor_ev, iKT_ev, show rho0 4 [tdR Γ R F] = [some (.val (tdR Γ R F)), none, none, none] from rfl, eV_zero, WP_pure, keysD_td, WP_some]
  refine for_find (g := rowT) (flt := grB F) (P := SlT Γ R F 3) (fun ρ h => h.own 1) (fun bs hb ρ hp => ?_) ⟨[none, none, none], rfl, rfl⟩
  obtain ⟨h0, h1⟩ := (hR bs).mp hb
  obtain ⟨a, b, e⟩ := hp.lp (bs := bs)
  rw [e, sForP_ev, iEn_ev, eV_succ, eV_zero, WP_pure, show asT (rowT bs) = some (vs bs) from rfl, Option.map_some, WP_some, show vs bs = bs.map (fun b => D.str (vc b)) from rfl, enum_map]
  refine WS_imp (forP_find (flt := fun k => (bs[k]?.getD true == false) && F bs && !F (flp bs k)) (P := Lp Γ R F bs) (fun ρ h => h.own 2) (fun ρ h => h.own 3) (fun k hk ρ hp => ?_) ⟨a, b, rfl⟩) (fun ρ z h => ⟨h.1, h.2.1.sl, h.2.2⟩) (fun d z h => h)
  have hk := List.mem_range.mp hk
  obtain ⟨a, b, rfl⟩ := hp
  have ef := turned_at_ok (Γ := Γ) (bs := bs) hk (by omega)
  have hf : flp bs k ∈ R := (hR _).mpr ⟨flp_ne, by rw [flp_len hk]; exact h1⟩
  have eg : ((List.map (fun b => D.str (vc b)) bs)[k]?).getD .non = .str (vc (bs[k]?.getD true)) := by
    rw [List.getElem?_map, List.getElem?_eq_getElem hk] <;> rfl
  rw [eg]
  simp only [List.set_cons_succ, List.set_cons_zero, sIf_ev, tAnd_ev, tV_ev, e2_ev, eCall_ev, evs_cons, evs_nil, eV_succ, eV_zero, eC_ev, WP_pure, op2_ev, eq_deny, eq_allow, WP_some, asB_bl, rowT, ixT_td hb, Nat.zero_add, ef, ixT_td hf]
  have fin : Lp Γ R F bs [some (.val (tdR Γ R F)), some (.val (rowT bs)), some (.val (.int (k : Int))), some (.val (.str (vc (bs[k]?.getD true))))] := ⟨some (.int (k : Int)), some (.str (vc (bs[k]?.getD true))), rfl⟩
  cases e1 : bs[k]?.getD true <;> cases e2 : F bs <;> cases e3 : F (flp bs k) <;> rw [e1] at fin <;> first | exact ⟨rfl, fin, rfl⟩ | exact ⟨rfl, rfl, rfl⟩
theorem kept_ok : F_kept Γ [tdR Γ R F] = mpure (.bl (!R.any (kpB R F))) := search_run (P := SlT Γ R F 3) fun z => by
  rw [sFor_ev, iKT_ev, show rho0 4 [tdR Γ R F] = [some (.val (tdR Γ R F)), none, none, none] from rfl, eV_zero, WP_pure, keysD_td, WP_some]
  refine for_find (g := rowT) (flt := kpB R F) (P := SlT Γ R F 3) (fun ρ h => h.own 1) (fun bs hb ρ hp => ?_) ⟨[none, none, none], rfl, rfl⟩
  obtain ⟨h0, h1⟩ := (hR bs).mp hb
  obtain ⟨a, b, e⟩ := hp.lp (bs := bs)
  have el : addD (.int (bs.length : Int)) (.int 1) = some (.int ((bs.length + 1 : Nat) : Int)) := rfl
  rw [e, sFor_ev, iR1_ev, e2_ev, e1_ev, eV_succ, eV_zero, WP_pure, op1_ev, show lenD (rowT bs) = some (.int (bs.length : Int)) by show some (D.int (vs bs).length) = _; rw [vs_len], WP_some, eC_ev, WP_pure, op2_ev, el, WP_some, asI_int, WP_some, if_pos (by omega), Int.toNat_natCast]
  refine WS_imp (for_rng (flt := fun k => decide (ins bs (F bs) k ∈ R) && (F (ins bs (F bs) k) != F bs)) (P := Lp Γ R F bs) (fun ρ h => h.own 2) (fun k hk ρ hp => ?_) ⟨a, b, rfl⟩) (fun ρ z h => ⟨h.1, h.2.1.sl, h.2.2⟩) (fun d z h => h)
  obtain ⟨a, b, rfl⟩ := hp
  have e1 : addD (.tup (vs (bs.take k))) (.tup [.str (vc (F bs))]) = some (.tup (vs (bs.take k ++ [F bs]))) := add_vs (b := [F bs]) (by simp; omega)
  have e2 : addD (.tup (vs (bs.take k ++ [F bs]))) (.tup (vs (bs.drop k))) = some (.tup (vs (ins bs (F bs) k))) := add_vs (by simp; omega)
  have ob : ownAt [some (Sl.val (tdR Γ R F)), some (Sl.val (rowT bs)), some (Sl.val (.int (k : Int))), b.map Sl.val] 3 = false := by cases b <;> rfl
  simp only [List.set_cons_succ, List.set_cons_zero, sSeq_ev, sSet_ev, e2_ev, eSl_ev, pNo_ev, pSo_ev, eTup_ev, evs_cons, evs_nil, eV_succ, eV_zero, eC_ev, WP_pure, op2_ev, Int.zero_add, asI_int, Option.map_some, WP_some, rowT, slD_tup, cut_hi, cut_lo, ixT_td hb, e1, e2]
  rw [show ownAt [some (Sl.val (tdR Γ R F)), some (Sl.val (D.tup (vs bs))), some (Sl.val (.int (k : Int))), b.map Sl.val] 3 = false from ob]
  simp only [Bool.false_eq_true, if_false, sIf_ev, tAnd_ev, tV_ev, e2_ev, eV_succ, eV_zero, WP_pure, op2_ev, inT_td, WP_some, asB_bl]
  have fin : Lp Γ R F bs [some (.val (tdR Γ R F)), some (.val (rowT bs)), some (.val (.int (k : Int))), some (.val (.tup (vs (ins bs (F bs) k))))] := ⟨some (.int (k : Int)), some (.tup (vs (ins bs (F bs) k))), rfl⟩
  by_cases hi : ins bs (F bs) k ∈ R
  · simp only [hi, decide_true, if_true, ixT_td hi, ixT_td hb, WP_some, neD_vc, asB_bl, Bool.true_and]
    cases e3 : (F (ins bs (F bs) k) != F bs)
    · exact ⟨rfl, fin, rfl⟩
    · exact ⟨rfl, rfl, rfl⟩
  · simp only [hi, decide_false, Bool.false_eq_true, if_false, Bool.false_and]
    first | exact ⟨rfl, fin, rfl⟩ | exact ⟨trivial, fin, trivial⟩ | exact ⟨trivial, fin, rfl⟩ | exact ⟨rfl, fin, trivial⟩
theorem order_ok : F_order Γ [tdR Γ R F] = mpure (.bl (!R.any (orB F))) := search_run (P := SlT Γ R F 3) fun z => by
  rw [sFor_ev, iKT_ev, show rho0 4 [tdR Γ R F] = [some (.val (tdR Γ R F)), none, none, none] from rfl, eV_zero, WP_pure, keysD_td, WP_some]
  refine for_find (g := rowT) (flt := orB F) (P := SlT Γ R F 3) (fun ρ h => h.own 1) (fun bs hb ρ hp => ?_) ⟨[none, none, none], rfl, rfl⟩
  obtain ⟨h0, h1⟩ := (hR bs).mp hb
  have hp0 := List.length_pos_iff.mpr h0
  obtain ⟨a, b, e⟩ := hp.lp (bs := bs)
  have el : subD (.int (bs.length : Int)) (.int 1) = some (.int ((bs.length - 1 : Nat) : Int)) := by rw [subD_int]; congr 2; omega
  rw [e, sFor_ev, iR1_ev, e2_ev, e1_ev, eV_succ, eV_zero, WP_pure, op1_ev, show lenD (rowT bs) = some (.int (bs.length : Int)) by show some (D.int (vs bs).length) = _; rw [vs_len], WP_some, eC_ev, WP_pure, op2_ev, el, WP_some, asI_int, WP_some, if_pos (by omega), Int.toNat_natCast]
  refine WS_imp (for_rng (flt := fun k => F (swp bs k) != F bs) (P := Lp Γ R F bs) (fun ρ h => h.own 2) (fun k hk ρ hp => ?_) ⟨a, b, rfl⟩) (fun ρ z h => ⟨h.1, h.2.1.sl, h.2.2⟩) (fun d z h => h)
  obtain ⟨a, b, rfl⟩ := hp
  have i1 : addD (.int (k : Int)) (.int 1) = some (.int ((k + 1 : Nat) : Int)) := rfl
  have i2 : addD (.int (k : Int)) (.int 2) = some (.int ((k + 2 : Nat) : Int)) := rfl
  have e1 : addD (.tup (vs (bs.take k))) (.tup [.str (vc (bs[k + 1]?.getD true)), .str (vc (bs[k]?.getD true))]) = some (.tup (vs (bs.take k ++ [bs[k + 1]?.getD true, bs[k]?.getD true]))) := add_vs (b := [bs[k + 1]?.getD true, bs[k]?.getD true]) (by simp; omega)
  have e2 : addD (.tup (vs (bs.take k ++ [bs[k + 1]?.getD true, bs[k]?.getD true]))) (.tup (vs (bs.drop (k + 2)))) = some (.tup (vs (swp bs k))) := add_vs (by simp; omega)
  have hs : swp bs k ∈ R := (hR _).mpr ⟨by simp [swp], by unfold swp; rw [List.length_append, List.length_append, List.length_take, List.length_drop]; simp only [List.length_cons, List.length_nil]; omega⟩
  have ob : ownAt [some (Sl.val (tdR Γ R F)), some (Sl.val (D.tup (vs bs))), some (Sl.val (.int (k : Int))), b.map Sl.val] 3 = false := by cases b <;> rfl
  simp only [List.set_cons_succ, List.set_cons_zero, sSeq_ev, sSet_ev, e2_ev, eSl_ev, pNo_ev, pSo_ev, eTup_ev, evs_cons, evs_nil, eV_succ, eV_zero, eC_ev, WP_pure, op2_ev, Int.zero_add, asI_int, Option.map_some, WP_some, rowT, slD_tup, cut_hi, cut_lo, ixA_tup, i1, i2, vs_at (show k + 1 < bs.length by omega), vs_at (show k < bs.length by omega), e1, e2, ob]
  simp only [Bool.false_eq_true, if_false, sIf_ev, tV_ev, e2_ev, eV_succ, eV_zero, WP_pure, op2_ev, ixT_td hs, ixT_td hb, WP_some, neD_vc, asB_bl]
  have fin : Lp Γ R F bs [some (.val (tdR Γ R F)), some (.val (rowT bs)), some (.val (.int (k : Int))), some (.val (.tup (vs (swp bs k))))] := ⟨some (.int (k : Int)), some (.tup (vs (swp bs k))), rfl⟩
  cases e3 : (F (swp bs k) != F bs)
  · exact ⟨rfl, fin, rfl⟩
  · exact ⟨rfl, rfl, rfl⟩
theorem parts_ok : F_parts Γ [tdR Γ R F] = mpure (.bl (!R.any (paB F))) := search_run (P := SlT Γ R F 2) fun z => by
  rw [sFor_ev, iKT_ev, show rho0 3 [tdR Γ R F] = [some (.val (tdR Γ R F)), none, none] from rfl, eV_zero, WP_pure, keysD_td, WP_some]
  refine for_find (g := rowT) (flt := paB F) (P := SlT Γ R F 2) (fun ρ h => h.own 1) (fun bs hb ρ hp => ?_) ⟨[none, none], rfl, rfl⟩
  obtain ⟨h0, h1⟩ := (hR bs).mp hb
  have hp0 := List.length_pos_iff.mpr h0
  obtain ⟨a, e⟩ := hp.lq (bs := bs)
  rw [e, sFor_ev, iR2_ev, eC_ev, WP_pure, asI_int, WP_some, e1_ev, eV_succ, eV_zero, WP_pure, op1_ev, show lenD (rowT bs) = some (.int (bs.length : Int)) by show some (D.int (vs bs).length) = _; rw [vs_len], WP_some, asI_int, WP_some, if_pos (by omega), show ((bs.length : Int) - 1).toNat = bs.length - 1 by omega]
  refine WS_imp (for_rng (flt := fun k => F [F (bs.take (k + 1)), F (bs.drop (k + 1))] != F bs) (P := Lq Γ R F bs) (fun ρ h => h.own 2) (fun k hk ρ hp => ?_) ⟨a, rfl⟩) (fun ρ z h => ⟨h.1, h.2.1.sl, h.2.2⟩) (fun d z h => h)
  obtain ⟨a, rfl⟩ := hp
  have i1 : (1 : Int) + (k : Int) = ((k + 1 : Nat) : Int) := by omega
  have ha : bs.take (k + 1) ∈ R := (hR _).mpr ⟨fun e => by have := congrArg List.length e; rw [List.length_take, List.length_nil] at this; omega, by rw [List.length_take]; omega⟩
  have hd' : bs.drop (k + 1) ∈ R := (hR _).mpr ⟨fun e => by have := congrArg List.length e; rw [List.length_drop, List.length_nil] at this; omega, by rw [List.length_drop]; omega⟩
  have hp2 : [F (bs.take (k + 1)), F (bs.drop (k + 1))] ∈ R := (hR _).mpr ⟨by simp, by show 2 ≤ m; omega⟩
  have e2 := ixT_td (Γ := Γ) (F := F) hp2
  simp only [List.set_cons_succ, List.set_cons_zero, sIf_ev, tV_ev, e2_ev, eSl_ev, pNo_ev, pSo_ev, eTup_ev, evs_cons, evs_nil, eV_succ, eV_zero, eC_ev, WP_pure, op2_ev, i1, asI_int, Option.map_some, WP_some, rowT, slD_tup, cut_hi, cut_lo, ixT_td ha, ixT_td hd', ixT_td hb]
  rw [show D.tup [D.str (vc (F (bs.take (k + 1)))), D.str (vc (F (bs.drop (k + 1))))] = .tup (vs [F (bs.take (k + 1)), F (bs.drop (k + 1))]) from rfl, e2]
  simp only [WP_some, neD_vc, asB_bl]
  have fin : Lq Γ R F bs [some (.val (tdR Γ R F)), some (.val (rowT bs)), some (.val (.int ((k + 1 : Nat) : Int)))] := ⟨some (.int ((k + 1 : Nat) : Int)), rfl⟩
  rw [show (F bs != F [F (bs.take (k + 1)), F (bs.drop (k + 1))]) = (F [F (bs.take (k + 1)), F (bs.drop (k + 1))] != F bs) from Bool.xor_comm _ _]
  cases e3 : (F [F (bs.take (k + 1)), F (bs.drop (k + 1))] != F bs)
  · exact ⟨rfl, fin, rfl⟩
  · exact ⟨rfl, rfl, rfl⟩
theorem repeat_ok : F_repeat Γ [tdR Γ R F] = mpure (.bl (!R.any (rpB F))) := search_run (P := SlT Γ R F 3) fun z => by
  rw [sFor_ev, iKT_ev, show rho0 4 [tdR Γ R F] = [some (.val (tdR Γ R F)), none, none, none] from rfl, eV_zero, WP_pure, keysD_td, WP_some]
  refine for_find (g := rowT) (flt := rpB F) (P := SlT Γ R F 3) (fun ρ h => h.own 1) (fun bs hb ρ hp => ?_) ⟨[none, none, none], rfl, rfl⟩
  obtain ⟨h0, h1⟩ := (hR bs).mp hb
  have hp0 := List.length_pos_iff.mpr h0
  obtain ⟨a, b, e⟩ := hp.lp (bs := bs)
  rw [e, sFor_ev, iR2_ev, eC_ev, WP_pure, asI_int, WP_some, e1_ev, eV_succ, eV_zero, WP_pure, op1_ev, show lenD (rowT bs) = some (.int (bs.length : Int)) by show some (D.int (vs bs).length) = _; rw [vs_len], WP_some, asI_int, WP_some, if_pos (by omega), show ((bs.length : Int) - 1).toNat = bs.length - 1 by omega]
  refine WS_imp (for_rng (flt := fun k => (bs[k + 1]?.getD true == bs[k]?.getD true) && (F bs != F (rem bs (k + 1)))) (P := Lp Γ R F bs) (fun ρ h => h.own 2) (fun k hk ρ hp => ?_) ⟨a, b, rfl⟩) (fun ρ z h => ⟨h.1, h.2.1.sl, h.2.2⟩) (fun d z h => h)
  obtain ⟨a, b, rfl⟩ := hp
  have i1 : (1 : Int) + (k : Int) = ((k + 1 : Nat) : Int) := by omega
  have i2 : addD (.int ((k + 1 : Nat) : Int)) (.int 1) = some (.int ((k + 1 + 1 : Nat) : Int)) := rfl
  have i3 : subD (.int ((k + 1 : Nat) : Int)) (.int 1) = some (.int (k : Int)) := by rw [subD_int]; congr 2; omega
  have e2 : addD (.tup (vs (bs.take (k + 1)))) (.tup (vs (bs.drop (k + 1 + 1)))) = some (.tup (vs (rem bs (k + 1)))) := add_vs (by simp; omega)
  have hs : rem bs (k + 1) ∈ R := (hR _).mpr ⟨fun e => by have := congrArg List.length e; unfold rem at this; rw [List.length_append, List.length_take, List.length_drop, List.length_nil] at this; omega, by unfold rem; rw [List.length_append, List.length_take, List.length_drop]; omega⟩
  have ob : ownAt [some (Sl.val (tdR Γ R F)), some (Sl.val (D.tup (vs bs))), some (Sl.val (.int ((k + 1 : Nat) : Int))), b.map Sl.val] 3 = false := by cases b <;> rfl
  simp only [List.set_cons_succ, List.set_cons_zero, sSeq_ev, sSet_ev, e2_ev, eSl_ev, pNo_ev, pSo_ev, eV_succ, eV_zero, eC_ev, WP_pure, op2_ev, i1, i2, asI_int, Option.map_some, WP_some, rowT, slD_tup, cut_hi, cut_lo, e2, ob]
  simp only [Bool.false_eq_true, if_false, sIf_ev, tAnd_ev, tV_ev, e2_ev, eV_succ, eV_zero, eC_ev, WP_pure, op2_ev, ixA_tup, i3, vs_at (show k + 1 < bs.length by omega), vs_at (show k < bs.length by omega), WP_some, eqD_vc, asB_bl, ixT_td hs, ixT_td hb, neD_vc]
  have fin : Lp Γ R F bs [some (.val (tdR Γ R F)), some (.val (rowT bs)), some (.val (.int ((k + 1 : Nat) : Int))), some (.val (.tup (vs (rem bs (k + 1)))))] := ⟨some (.int ((k + 1 : Nat) : Int)), some (.tup (vs (rem bs (k + 1)))), rfl⟩
  cases e4 : (bs[k + 1]?.getD true == bs[k]?.getD true) <;> cases e3 : (F bs != F (rem bs (k + 1))) <;> first | exact ⟨rfl, fin, rfl⟩ | exact ⟨rfl, rfl, rfl⟩
end
end C
set_option Elab.async false
set_option linter.all false
set_option maxRecDepth 100000
set_option maxHeartbeats 4000000
namespace C
open PySem PySem.Spec PyProof.Rows L2 DL
variable {Γ : Cfg}
def pmn : Nat → List Nat
  | 0 => [97, 103, 114, 101, 101, 100]
  | 1 => [101, 118, 101, 110]
  | 2 => [103, 114, 111, 119, 105, 110, 103]
  | 3 => [104, 101, 97, 114, 100]
  | 4 => [107, 101, 112, 116]
  | 5 => [109, 105, 120, 101, 100]
  | 6 => [109, 111, 115, 116]
  | 7 => [111, 114, 100, 101, 114]
  | 8 => [112, 97, 114, 116, 115]
  | _ => [114, 101, 112, 101, 97, 116]
def PR : List (List Nat) := [pmn 0, pmn 1, pmn 2, pmn 3, pmn 4, pmn 5, pmn 6, pmn 7, pmn 8, pmn 9]
def kpi : Nat → List Nat
  | 0 => [0, 2, 3, 4, 7, 8, 9]
  | 1 => [2, 4, 7, 8, 9]
  | 2 => [2, 4, 7, 8, 9]
  | 3 => [0, 2, 4, 5, 9]
  | 4 => [0, 2, 3, 4, 7, 8, 9]
  | 5 => [0, 1, 2, 4, 5, 8, 9]
  | 6 => [0, 3, 5, 9]
  | 7 => [0, 1, 2, 4, 5, 8, 9]
  | 8 => [0, 2, 3, 4, 5, 6, 7]
  | 9 => [0, 2, 3, 4, 5, 6, 7]
  | 10 => [0, 1, 2, 4, 5, 6]
  | 11 => [0, 1, 2, 4, 5, 6]
  | _ => [3, 5, 7, 8]
def KP (i : Nat) : List (List Nat) := (kpi i).map pmn
def kpb (i : Nat) (p : List Nat) : Bool := (KP i).any fun z => decide (z = p)
end C
set_option Elab.async false
set_option linter.all false
set_option maxRecDepth 100000
set_option maxHeartbeats 1000000
namespace C
open PySem PySem.Spec PyProof.Rows L2 DL
variable {Γ : Cfg}
theorem comp2_map {α : Type} {b2 i j : Nat} {lf : EnD → M (List D)} {t : EnD → M Bool} {f : EnD → M D} {g : α → D} {ks : α → List D} {es : α → List D} {ρ : EnD} : ∀ {l : List α},
    (∀ x ∈ l, lf ((wipe2D ρ i j).set i (some (.val (g x)))) = mpure (ks x) ∧ (ks x).length ≤ b2 ∧ compL j t f (ks x) ((wipe2D ρ i j).set i (some (.val (g x)))) = mpure (es x)) → comp2L b2 i j lf t f (l.map g) ρ = mpure (l.flatMap es)
  | [], _ => rfl
  | x :: l, h => by
    have ih := comp2_map (l := l) fun y hy => h y (List.mem_cons_of_mem _ hy)
    obtain ⟨h1, h2, h3⟩ := h x (List.mem_cons_self ..)
    rw [List.map_cons]
    unfold comp2L
    rw [h1, ih]
    funext z
    simp only [mbind, mne, mpure, h2, if_true, h3, List.flatMap_cons]
theorem eSc2_ev {ρ : EnD} {z : S} {sp : SetSp} {i j : Nat} {xs l : EnD → M (List D)} {t : EnD → M Bool} {f : EnD → M D} {Q : D → S → Prop} : WP (eSc2 sp i j xs l t f ρ) z Q = WP (xs ρ) z fun ds z' => if ds.length ≤ 20 ∧ ownAt ρ i = false ∧ ownAt ρ j = false then WP (comp2L 3 i j l t (eChk f) ds ρ) z' fun es z'' => Q (.st sp (es.filterMap tupI)) z'' else False := by
  unfold eSc2; rw [WP_bind]; congr; funext x z1; rw [WP_ite, WP_bind]; rfl
theorem chk_pair {f : EnD → M D} {ρ : EnD} {a b : Int} (h : f ρ = mpure (.tup [.int a, .int b])) : eChk f ρ = mpure (.tup [.int a, .int b]) := by
  unfold eChk
  rw [h]
  rfl
def pairD (n k : Nat) : D := .tup [.int (n : Int), .int (k : Int)]
theorem pairs_map (R : List (List Bool)) (p : List Bool → Nat → Bool) : (R.flatMap fun bs => ((List.range bs.length).filter (p bs)).map (pairD bs.length)).filterMap tupI = R.flatMap fun bs => ((List.range bs.length).filter (p bs)).map fun (k : Nat) => [(bs.length : Int), (k : Int)] := by
  induction R with
  | nil => rfl
  | cons bs R ih =>
    rw [List.flatMap_cons, List.flatMap_cons, List.filterMap_append, ih]
    congr 1
    generalize (List.range bs.length).filter (p bs) = l
    induction l with
    | nil => rfl
    | cons k l ih2 =>
      rw [List.map_cons, List.map_cons, List.filterMap_cons]
      show [(bs.length : Int), (k : Int)] :: List.filterMap tupI (l.map (pairD bs.length)) = _
      rw [ih2]
def plc (R : List (List Bool)) (p : List Bool → Nat → Bool) : List (List Int) := R.flatMap fun bs => ((List.range bs.length).filter (p bs)).map fun (k : Nat) => [(bs.length : Int), (k : Int)]
def hrK (R : List (List Bool)) (F : List Bool → Bool) : Bool := eqMem (plc R fun _ _ => true) (plc R fun bs k => F bs != F (flp bs k))
def mxK (R : List (List Bool)) (F : List Bool → Bool) : Bool := ((R.filter fun bs => decide (true ∈ bs) && decide (false ∈ bs)).any fun bs => F bs) && ((R.filter fun bs => decide (true ∈ bs) && decide (false ∈ bs)).any fun bs => !F bs)
section
variable {R : List (List Bool)} {F : List Bool → Bool} {m : Nat}
theorem in_strs {c : Bool} (l : List (List Bool)) : inD (.str (vc c)) (.lst (l.map fun bs => D.str (vc (F bs)))) = some (.bl (l.any fun bs => F bs == c)) := by
  have e : (l.map fun bs => D.str (vc (F bs))) = (l.map fun bs => vc (F bs)).map .str := by rw [List.map_map]; rfl
  rw [e, inD_lst (okS_vc c) fun z hz => ?_]
  · rw [List.any_map]
    congr 2
    congr 1
    funext bs
    show decide (vc (F bs) = vc c) = _
    cases F bs <;> cases c <;> rfl
  · obtain ⟨bs, _, rfl⟩ := List.mem_map.mp hz
    exact okS_vc _
theorem in_allow {l : List (List Bool)} : inD (.str [97, 108, 108, 111, 119]) (.lst (l.map fun bs => D.str (vc (F bs)))) = some (.bl (l.any fun bs => F bs == true)) := in_strs (c := true) l
theorem in_deny {l : List (List Bool)} : inD (.str [100, 101, 110, 121]) (.lst (l.map fun bs => D.str (vc (F bs)))) = some (.bl (l.any fun bs => F bs == false)) := in_strs (c := false) l
variable (hR : ∀ bs, bs ∈ R ↔ bs ≠ [] ∧ bs.length ≤ m) (hm : m ≤ 3) (hl : R.length ≤ 14)
include hR hm hl
theorem set_ok {t : EnD → M Bool} {p : List Bool → Nat → Bool} {x1 x2 : Option Sl} (ht : ∀ bs ∈ R, ∀ k, k < bs.length → t [some (.val (tdR Γ R F)), x1, x2, some (.val (rowT bs)), some (.val (.int (k : Int)))] = mpure (p bs k)) {z : S} :
    WP (eSc2 Γ.sp 3 4 (iKT (eV 0)) (iR1 (e1 (op1 lenD) (eV 3))) t (eTup [e1 (op1 lenD) (eV 3), eV 4]) [some (.val (tdR Γ R F)), x1, x2, none, none]) z fun d z' => d = .st Γ.sp (plc R p) ∧ z' = z := by
  have le : ∀ bs, lenD (rowT bs) = some (.int (bs.length : Int)) := fun bs => by show some (D.int (vs bs).length) = _; rw [vs_len]
  rw [eSc2_ev, iKT_ev, eV_zero, WP_pure, keysD_td, WP_some, if_pos ⟨by rw [List.length_map]; omega, rfl, rfl⟩]
  rw [comp2_map (ks := fun bs => rangeD 0 bs.length) (es := fun bs => ((List.range bs.length).filter (p bs)).map (pairD bs.length)) fun bs hb => ?_, WP_pure]
  · exact ⟨congrArg (D.st Γ.sp) (pairs_map R p), rfl⟩
  · obtain ⟨h0, h1⟩ := (hR bs).mp hb
    show iR1 _ [some (.val (tdR Γ R F)), x1, x2, some (.val (rowT bs)), none] = _ ∧ _ ∧ compL 4 t _ _ [some (.val (tdR Γ R F)), x1, x2, some (.val (rowT bs)), none] = _
    refine ⟨WP_pure_of fun z => ?_, by simp [rangeD]; omega, ?_⟩
    · rw [iR1_ev, e1_ev, eV_succ, eV_succ, eV_succ, eV_zero, WP_pure, op1_ev, le, WP_some, asI_int, WP_some, if_pos (by omega), Int.toNat_natCast]
      exact ⟨rfl, rfl⟩
    · refine compL_range fun k hk => ⟨?_, fun _ => ?_⟩
      · rw [Int.zero_add]
        exact ht bs hb k hk
      · refine chk_pair (WP_pure_of fun z => ?_)
        simp only [List.set_cons_succ, List.set_cons_zero, eTup_ev, evs_cons, evs_nil, e1_ev, eV_succ, eV_zero, WP_pure, op1_ev, le, WP_some, Int.zero_add]
        exact ⟨trivial, trivial⟩
theorem heard_ok : F_heard Γ [tdR Γ R F] = mpure (.bl (hrK R F)) := WP_pure_of fun z => by
  unfold F_heard B_heard
  rw [run_ev, sSeq_ev, sSet_ev, show rho0 5 [tdR Γ R F] = [some (.val (tdR Γ R F)), none, none, none, none] from rfl]
  refine WP_mono (set_ok hR hm hl (p := fun _ _ => true) fun bs hb k hk => rfl) fun d z' ⟨e, ez⟩ => ?_
  subst e ez
  rw [if_neg (by simp [ownAt_succ]), sSeq_ev, sSet_ev]
  simp only [List.set_cons_succ, List.set_cons_zero]
  refine WP_mono (set_ok hR hm hl (p := fun bs k => F bs != F (flp bs k)) fun bs hb k hk => WP_pure_of fun z => ?_) fun d z' ⟨e, ez⟩ => ?_
  · obtain ⟨h0, h1⟩ := (hR bs).mp hb
    have ef := turned_at_ok (Γ := Γ) (bs := bs) hk (by omega)
    have hf : flp bs k ∈ R := (hR _).mpr ⟨flp_ne, by rw [flp_len hk]; exact h1⟩
    simp only [tV_ev, e2_ev, eCall_ev, evs_cons, evs_nil, eV_succ, eV_zero, WP_pure, op2_ev, rowT, ixT_td hb, ef, ixT_td hf, WP_some, neD_vc, asB_bl]
    exact ⟨trivial, trivial⟩
  subst e ez
  simp only [List.set_cons_succ, List.set_cons_zero, ownAt_succ, ownAt_zn, Bool.false_eq_true, if_false, sRet_ev, e2_ev, eV_succ, eV_zero, WP_pure, op2_ev]
  have e : eqSt Γ.sp (.st Γ.sp (plc R fun _ _ => true)) (.st Γ.sp (plc R fun bs k => F bs != F (flp bs k))) = some (.bl (hrK R F)) := by
    unfold eqSt
    dsimp only
    rw [if_pos ⟨rfl, rfl⟩]
    rfl
  rw [e, WP_some]
  exact ⟨rfl, rfl⟩
theorem mixed_ok : F_mixed Γ [tdR Γ R F] = mpure (.bl (decide (R.length < 14) || mxK R F)) := WP_pure_of fun z => by
  have e2 : lenD w_SMALL_ROWS = some (.int 14) := small_14
  have e3 : ltD (.int (R.length : Int)) (.int 14) = some (.bl (decide (R.length < 14))) := by
    rw [ltD_int]
    congr 2
    rw [decide_eq_decide]
    omega
  unfold F_mixed B_mixed
  rw [run_ev, sSeq_ev, sIf_ev, tV_ev, e2_ev, e1_ev, show rho0 3 [tdR Γ R F] = [some (.val (tdR Γ R F)), none, none] from rfl, eV_zero, WP_pure, op1_ev, lenT_td, WP_some, e1_ev, eC_ev, WP_pure, op1_ev, e2, WP_some, op2_ev, e3, WP_some, asB_bl, WP_some]
  by_cases c : R.length < 14
  · rw [decide_eq_true c, if_pos rfl, sRet_ev, eC_ev, WP_pure]
    first | exact ⟨rfl, rfl⟩ | exact ⟨trivial, trivial⟩ | exact ⟨rfl, trivial⟩ | exact ⟨trivial, rfl⟩
  · rw [decide_eq_false c, if_neg (by decide), sNil_ev, sSeq_ev, sSet_ev, eLc_ev, iKT_ev, eV_zero, WP_pure, keysD_td, WP_some, if_pos ⟨by rw [List.length_map, sizeLine_eq]; omega, rfl⟩]
    rw [compL_map (tb := fun bs => decide (true ∈ bs) && decide (false ∈ bs)) (fb := fun bs => D.str (vc (F bs))) fun bs hb => ⟨WP_pure_of fun z => ?_, fun _ => WP_pure_of fun z => ?_⟩, WP_pure]
    · rw [if_neg (by simp [ownAt_succ]), sRet_ev]
      simp only [List.set_cons_succ, List.set_cons_zero, eAnd_ev, e2_ev, eC_ev, eV_succ, eV_zero, WP_pure, op2_ev, in_allow, in_deny, WP_some, asB_bl, Bool.false_or]
      have ea : ((R.filter fun bs => decide (true ∈ bs) && decide (false ∈ bs)).any fun bs => F bs == true) = (R.filter fun bs => decide (true ∈ bs) && decide (false ∈ bs)).any fun bs => F bs := by congr 1; funext bs; cases F bs <;> rfl
      have eb : ((R.filter fun bs => decide (true ∈ bs) && decide (false ∈ bs)).any fun bs => F bs == false) = (R.filter fun bs => decide (true ∈ bs) && decide (false ∈ bs)).any fun bs => !F bs := by congr 1; funext bs; cases F bs <;> rfl
      rw [ea, eb]
      unfold mxK
      cases ((R.filter fun bs => decide (true ∈ bs) && decide (false ∈ bs)).any fun bs => F bs)
      · first | exact ⟨rfl, rfl⟩ | exact ⟨trivial, trivial⟩ | exact ⟨rfl, trivial⟩ | exact ⟨trivial, rfl⟩
      · first | exact ⟨rfl, rfl⟩ | exact ⟨trivial, trivial⟩ | exact ⟨rfl, trivial⟩ | exact ⟨trivial, rfl⟩
    · simp only [List.set_cons_succ, List.set_cons_zero, tAnd_ev, tV_ev, e2_ev, eC_ev, eV_succ, eV_zero, WP_pure, op2_ev, rowT, in_t, in_f, WP_some, asB_bl]
      cases decide (true ∈ bs)
      · first | exact ⟨rfl, rfl⟩ | exact ⟨trivial, trivial⟩ | exact ⟨rfl, trivial⟩ | exact ⟨trivial, rfl⟩
      · first | exact ⟨rfl, rfl⟩ | exact ⟨trivial, trivial⟩ | exact ⟨rfl, trivial⟩ | exact ⟨trivial, rfl⟩
    · simp only [List.set_cons_succ, List.set_cons_zero, e2_ev, eV_succ, eV_zero, WP_pure, op2_ev, rowT, ixT_td hb, WP_some]
      exact ⟨trivial, trivial⟩
end
/-- what the p-th check answers -/
def ckB (R : List (List Bool)) (F : List Bool → Bool) : Nat → Bool
  | 0 => !R.any (agB F)
  | 1 => !R.any (evB F)
  | 2 => !R.any (grB F)
  | 3 => hrK R F
  | 4 => !R.any (kpB R F)
  | 5 => decide (R.length < 14) || mxK R F
  | 6 => !R.any (moB F)
  | 7 => !R.any (orB F)
  | 8 => !R.any (paB F)
  | _ => !R.any (rpB F)
theorem look_ck : ∀ p, p < 10 → getS (tb_CHECKS Γ) (pmn p) = some (.fn (33 + p) (Γ.A (33 + p)))
  | 0, _ => by simp [getS, tb_CHECKS, pmn]
  | 1, _ => by simp [getS, tb_CHECKS, pmn]
  | 2, _ => by simp [getS, tb_CHECKS, pmn]
  | 3, _ => by simp [getS, tb_CHECKS, pmn]
  | 4, _ => by simp [getS, tb_CHECKS, pmn]
  | 5, _ => by simp [getS, tb_CHECKS, pmn]
  | 6, _ => by simp [getS, tb_CHECKS, pmn]
  | 7, _ => by simp [getS, tb_CHECKS, pmn]
  | 8, _ => by simp [getS, tb_CHECKS, pmn]
  | 9, _ => by simp [getS, tb_CHECKS, pmn]
section
variable {R : List (List Bool)} {F : List Bool → Bool} {m : Nat} (hR : ∀ bs, bs ∈ R ↔ bs ≠ [] ∧ bs.length ≤ m) (hm : m ≤ 3) (hl : R.length ≤ 14)
include hR hm hl
theorem check_ok : ∀ p, p < 10 → Γ.ck (33 + p) = true → ∃ G, fs_CHECKS Γ (33 + p) = some G ∧ G [tdR Γ R F] = mpure (.bl (ckB R F p))
  | 0, _, h => ⟨_, by show (if Γ.ck 33 = true then _ else _) = _; rw [if_pos h], agreed_ok hR hm⟩
  | 1, _, h => ⟨_, by show (if Γ.ck 34 = true then _ else _) = _; rw [if_pos h], even_ok hR hm⟩
  | 2, _, h => ⟨_, by show (if Γ.ck 35 = true then _ else _) = _; rw [if_pos h], growing_ok hR hm⟩
  | 3, _, h => ⟨_, by show (if Γ.ck 36 = true then _ else _) = _; rw [if_pos h], heard_ok hR hm hl⟩
  | 4, _, h => ⟨_, by show (if Γ.ck 37 = true then _ else _) = _; rw [if_pos h], kept_ok hR hm⟩
  | 5, _, h => ⟨_, by show (if Γ.ck 38 = true then _ else _) = _; rw [if_pos h], mixed_ok hR hm hl⟩
  | 6, _, h => ⟨_, by show (if Γ.ck 39 = true then _ else _) = _; rw [if_pos h], most_rule_ok hR hm⟩
  | 7, _, h => ⟨_, by show (if Γ.ck 40 = true then _ else _) = _; rw [if_pos h], order_ok hR hm⟩
  | 8, _, h => ⟨_, by show (if Γ.ck 41 = true then _ else _) = _; rw [if_pos h], parts_ok hR hm⟩
  | 9, _, h => ⟨_, by show (if Γ.ck 42 = true then _ else _) = _; rw [if_pos h], repeat_ok hR hm⟩
end
end C
set_option Elab.async false
set_option linter.all false
set_option maxRecDepth 100000
set_option maxHeartbeats 1000000
namespace C
open PySem PySem.Spec PyProof.Rows L2 DL
variable {Γ : Cfg}
theorem putT_new {f : List Bool → D} {bs : List Bool} {R : List (List Bool)} {v : D} (h : bs ∉ R) : putT (R.map fun bs => (bs.map vc, f bs)) (bs.map vc) v = (R.map fun bs => (bs.map vc, f bs)) ++ [(bs.map vc, v)] := by
  unfold putT
  rw [getT_map, if_neg h]
  rfl
theorem dz_new {f : List Bool → D} : ∀ (R acc : List (List Bool)), (acc ++ R).Nodup → dzD (acc.map fun bs => (bs.map vc, f bs)) (R.map fun bs => (rowT bs, f bs)) = some ((acc ++ R).map fun bs => (bs.map vc, f bs))
  | [], acc, _ => by rw [List.append_nil]; rfl
  | bs :: R, acc, h => by
    have hn : bs ∉ acc := fun q => by
      rw [List.nodup_append] at h
      exact h.2.2 bs q bs (List.mem_cons_self ..) rfl
    have ih := dz_new (f := f) R (acc ++ [bs]) (by rw [List.append_assoc]; exact h)
    rw [List.map_cons]
    show (keyD (.tup (vs bs))).bind _ = _
    rw [keyD_vs, Option.bind_some, putT_new hn]
    rw [List.map_append, List.append_assoc] at ih
    exact ih
theorem zip_pre {α β γ : Type} {f : α → β} {g : α → γ} : ∀ (l : List α) (n : Nat), (l.map f).zip ((l.take n).map g) = (l.take n).map fun x => (f x, g x)
  | [], n => by rw [List.take_nil]; rfl
  | x :: l, 0 => by rw [List.take_zero]; rfl
  | x :: l, n + 1 => by
    have ih := zip_pre (f := f) (g := g) l n
    rw [List.take_succ_cons, List.map_cons, List.map_cons, List.zip_cons_cons, ih, List.map_cons]
theorem w_rows : w_SMALL_ROWS = .tup (T14.map rowT) := rfl
theorem dz_ok {F : List Bool → Bool} {R : List (List Bool)} {n : Nat} (h : R = T14.take n) {x1 x2 x3 x4 x5 x6 : Option Sl} : eDz Γ.hs 5 6 (iZp (eC w_SMALL_ROWS) (eV 0)) [some (.val (.tup (vs (R.map F)))), x1, x2, x3, x4, x5, x6] = mpure (tdR Γ R F) := by
  have e1 : (T14.map rowT).zip (vs (R.map F)) = R.map fun bs => (rowT bs, D.str (vc (F bs))) := by
    subst h
    have := zip_pre (f := rowT) (g := fun bs => D.str (vc (F bs))) T14 n
    unfold vs
    rw [List.map_map]
    exact this
  have e2 : dzD [] (R.map fun bs => (rowT bs, D.str (vc (F bs)))) = some (R.map fun bs => (bs.map vc, D.str (vc (F bs)))) := dz_new (f := fun bs => D.str (vc (F bs))) R [] (by
    rw [List.nil_append, h]; exact T14_nodup.sublist (List.take_sublist ..))
  have hl : R.length ≤ 14 := by rw [h, List.length_take, T14_len]; omega
  refine WP_pure_of fun z => ?_
  unfold eDz iZp
  simp only [WP_bind, eC_ev, eV_zero, WP_pure, w_rows, asT_tup, Option.bind_some, Option.map_some, WP_some, e1, List.length_map, WP_ite, e2]
  rw [if_pos ⟨by rw [sizeLine_eq]; omega, by simp, by simp⟩]
  first | exact ⟨rfl, rfl⟩ | exact ⟨trivial, trivial⟩ | exact ⟨trivial, rfl⟩ | exact ⟨rfl, trivial⟩
section
variable {R : List (List Bool)} {F : List Bool → Bool} {m : Nat} (hR : ∀ bs, bs ∈ R ↔ bs ≠ [] ∧ bs.length ≤ m) (hm : m ≤ 3) {n : Nat} (hp : R = T14.take n)
include hR hm hp
def Kp (Γ : Cfg) (R : List (List Bool)) (F : List Bool → Bool) (w : D) (ρ : EnD) : Prop := ∃ a b : Option D, ρ = [some (.val (.tup (vs (R.map F)))), some (.val w), some (.val (tdR Γ R F)), a.map .val, b.map .val, none, none]
theorem keeps_all_ok {ps : List Nat} (h : ∀ p ∈ ps, p < 10 ∧ Γ.ck (33 + p) = true) (hl : ps.length ≤ 1000) : F_keeps_all Γ [.tup (vs (R.map F)), .tup (ps.map fun p => .str (pmn p))] = mpure (.bl (!ps.any fun p => !ckB R F p)) := asP fun z => by
  have hl14 : R.length ≤ 14 := by rw [hp, List.length_take, T14_len]; omega
  unfold B_keeps_all
  rw [sSeq_ev, sSet_ev, show rho0 7 [D.tup (vs (R.map F)), .tup (ps.map fun p => .str (pmn p))] = [some (.val (.tup (vs (R.map F)))), some (.val (.tup (ps.map fun p => .str (pmn p)))), none, none, none, none, none] from rfl, dz_ok hp, WP_pure, if_neg (by simp [ownAt_succ])]
  rw [sSeq_ev]
  have hk := for_find (i := 3) (body := sSeq (sSet 4 (e1 (op1 (tblD (tb_CHECKS Γ))) (eV 3))) (sIf (tNot (tV (eCallN Γ.A (fs_CHECKS Γ) 4 [eV 2]))) (sRet (eC (.bl false))) (sNil))) (g := fun p => D.str (pmn p)) (flt := fun p => !ckB R F p) (P := Kp Γ R F (.tup (ps.map fun p => .str (pmn p)))) (z := z)
    (fun ρ ⟨a, b, e⟩ => by subst e; cases a <;> rfl) (l := ps) (fun p hpp ρ ⟨a, b, e⟩ => by
      subst e
      obtain ⟨h1, h2⟩ := h p hpp
      obtain ⟨G, hG, hv⟩ := check_ok hR hm hl14 (F := F) p h1 h2
      have el : tblD (tb_CHECKS Γ) (.str (pmn p)) = some (.fn (33 + p) (Γ.A (33 + p))) := look_ck p h1
      have eo : ownAt (b.map Sl.val :: [none, none]) 0 = false := by cases b <;> rfl
      simp only [List.set_cons_succ, List.set_cons_zero, sSeq_ev, sSet_ev, e1_ev, eV_succ, eV_zero, WP_pure, op1_ev, el, WP_some, ownAt_succ, eo, Bool.false_eq_true, if_false, sIf_ev, tNot_ev, tV_ev]
      rw [eCallN_ev (j := 33 + p) rfl hG]
      simp only [evs_cons, evs_nil, eV_succ, eV_zero, WP_pure, hv, WP_some, asB_bl]
      cases ckB R F p
      · exact ⟨rfl, rfl, rfl⟩
      · exact ⟨rfl, ⟨some (.str (pmn p)), some _, rfl⟩, rfl⟩) (ρ := [some (.val (.tup (vs (R.map F)))), some (.val (.tup (ps.map fun p => .str (pmn p)))), some (.val (tdR Γ R F)), none, none, none, none]) ⟨none, none, rfl⟩
  simp only [List.set_cons_succ, List.set_cons_zero, sFor_ev, iS_ev, eV_succ, eV_zero, WP_pure, iterD_tup, WP_some]
  refine WS_imp hk (fun ρ z' ⟨c, _, ez⟩ => ?_) (fun d z' ⟨c, ed, ez⟩ => ?_)
  · rw [c, ez, sRet_ev, eC_ev, WP_pure]
    exact ⟨rfl, rfl⟩
  · rw [c]
    exact ⟨ed, ez⟩
end
theorem T14_R : ∀ bs, bs ∈ T14 ↔ bs ≠ [] ∧ bs.length ≤ 3 := fun bs => by
  constructor
  · have : ∀ bs ∈ T14, bs ≠ [] ∧ bs.length ≤ 3 := by decide +kernel
    exact this bs
  · rintro ⟨h0, h1⟩
    have := all_rws bs
    have h2 := List.length_pos_iff.mpr h0
    unfold T14
    rw [List.mem_append, List.mem_append]
    have : bs.length = 1 ∨ bs.length = 2 ∨ bs.length = 3 := by omega
    rcases this with e | e | e
    · exact .inl (.inl (by rw [← e]; exact all_rws bs))
    · exact .inl (.inr (by rw [← e]; exact all_rws bs))
    · exact .inr (by rw [← e]; exact all_rws bs)
end C
set_option Elab.async false
set_option linter.all false
set_option maxRecDepth 100000
set_option maxHeartbeats 1000000
namespace C
open PySem PySem.Spec PyProof.Rows L2 DL
variable {Γ : Cfg}
theorem flt_empty {α : Type} {p : α → Bool} : ∀ l : List α, (l.filter p).isEmpty = !l.any p
  | [] => rfl
  | x :: l => by
    have ih := flt_empty (p := p) l
    rw [List.any_cons, List.filter_cons]
    cases p x
    · rw [if_neg (by decide), ih, Bool.false_or]
    · rw [if_pos rfl]; rfl
theorem map_empty {α β : Type} {f : α → β} (l : List α) : decide (l.map f = []) = l.isEmpty := by cases l <;> rfl
theorem found_int {i : Nat} {xs : EnD → M (List D)} {t : EnD → M Bool} {tb : Nat → Bool} {lo : Int} {n : Nat} {ρ : EnD} (hi : i < ρ.length) (ho : ownAt ρ i = false) (hx : xs ρ = mpure (rangeD lo n)) (hn : n ≤ 1000)
    (h : ∀ k, k < n → t (ρ.set i (some (.val (.int (lo + (k : Int)))))) = mpure (tb k)) : (e2 (op2 neD) (eLc i xs t (eV i)) (eLst [])) ρ = mpure (.bl ((List.range n).any tb)) ∧ (e2 (op2 eqD) (eLc i xs t (eV i)) (eLst [])) ρ = mpure (.bl (!(List.range n).any tb)) := by
  have e : compL i t (eV i) (rangeD lo n) ρ = mpure ((((List.range n).filter tb).map fun (k : Nat) => lo + (k : Int)).map .int) := by
    rw [List.map_map]
    refine compL_range (i := i) (t := t) (f := eV i) (tb := tb) (fb := fun k => .int (lo + (k : Int))) (ρ := ρ) fun k hk => ?_
    rw [List.set_set]
    refine ⟨h k hk, fun _ => ?_⟩
    unfold eV
    rw [List.getElem?_set_self hi]
  have hs : (rangeD lo n).length ≤ sizeLine ∧ ownAt ρ i = false := ⟨by rw [sizeLine_eq]; simp [rangeD]; omega, ho⟩
  have e0 : shp (.lst []) = some (.list []) := rfl
  refine ⟨WP_pure_of fun z => ?_, WP_pure_of fun z => ?_⟩
  · rw [e2_ev, eLc_ev, hx, WP_pure, if_pos hs, e, WP_pure, eLst_ev, evs_nil, op2_ev]
    unfold neD
    rw [shp_ints.1, e0, Option.bind_some, Option.bind_some]
    refine ⟨?_, rfl⟩
    have := eqv_ints ((((List.range n).filter tb).map fun (k : Nat) => lo + (k : Int))) []
    rw [List.map_nil] at this
    simp only [PyData.eqv, this, map_empty, flt_empty, Bool.not_not]
  · rw [e2_ev, eLc_ev, hx, WP_pure, if_pos hs, e, WP_pure, eLst_ev, evs_nil, op2_ev]
    unfold eqD
    rw [shp_ints.1, e0, Option.bind_some, Option.bind_some]
    refine ⟨?_, rfl⟩
    have := eqv_ints ((((List.range n).filter tb).map fun (k : Nat) => lo + (k : Int))) []
    rw [List.map_nil] at this
    simp only [PyData.eqv, this, map_empty, flt_empty]
theorem found_txt {i : Nat} {xs : EnD → M (List D)} {t : EnD → M Bool} {tb : List Bool → Bool} {l : List (List Bool)} {ρ : EnD} (hi : i < ρ.length) (ho : ownAt ρ i = false) (hx : xs ρ = mpure (l.map strT)) (hn : l.length ≤ 100000)
    (h : ∀ bs ∈ l, t (ρ.set i (some (.val (strT bs)))) = mpure (tb bs)) : (e2 (op2 eqD) (eLc i xs t (eV i)) (eLst [])) ρ = mpure (.bl (!l.any tb)) := by
  have e : compL i t (eV i) (l.map strT) ρ = mpure (((l.filter tb).map txt).map .str) := by
    rw [List.map_map]
    refine compL_map (g := strT) (i := i) (t := t) (f := eV i) (tb := tb) (fb := strT) (ρ := ρ) fun k hk => ?_
    rw [List.set_set]
    refine ⟨h k hk, fun _ => ?_⟩
    unfold eV
    rw [List.getElem?_set_self hi]
  refine WP_pure_of fun z => ?_
  rw [e2_ev, eLc_ev, hx, WP_pure, if_pos ⟨by rw [sizeLine_eq, List.length_map]; omega, ho⟩, e, WP_pure, eLst_ev, evs_nil, op2_ev]
  have e0 : shp (.lst []) = some (.list []) := rfl
  unfold eqD
  rw [(shp_strs fun z hz => ?_).2, e0, Option.bind_some, Option.bind_some]
  · refine ⟨?_, rfl⟩
    have := eqv_strs ((l.filter tb).map txt) []
    rw [List.map_nil] at this
    simp only [PyData.eqv, this, map_empty, flt_empty]
  · obtain ⟨c, _, rfl⟩ := List.mem_map.mp hz
    exact okS_txt
theorem tcut_hi {bs : List Bool} {k : Nat} : cutL (txt bs) none (some (k : Int)) = txt (bs.take k) := by
  rw [cutL_hi (by omega), Int.toNat_natCast]; unfold txt; rw [List.map_take]
theorem tcut_lo {bs : List Bool} {k : Nat} : cutL (txt bs) (some (k : Int)) none = txt (bs.drop k) := by
  rw [cutL_lo (by omega), Int.toNat_natCast]; unfold txt; rw [List.map_drop]
theorem txt_at {bs : List Bool} {k : Nat} (h : k < bs.length) (hl : bs.length ≤ 1000) : ixA (.str (txt bs)) (.int (k : Int)) = some (.str (txt [bs[k]?.getD true])) := by
  rw [ixA_str (by rw [txt_len]; omega), atI_pos (by omega), Int.toNat_natCast, txt_get h, List.getElem?_eq_getElem h]
  rfl
theorem add_txt {a b : List Bool} (h : a.length + b.length ≤ 1000) : addD (.str (txt a)) (.str (txt b)) = some (.str (txt (a ++ b))) := by
  rw [addD_str (by rw [txt_len, txt_len]; omega)]
  unfold txt
  rw [List.map_append]
theorem sl_txt {bs : List Bool} {lo hi : Option Int} (h : bs.length ≤ 1000) : slD (.str (txt bs)) lo hi = some (.str (cutL (txt bs) lo hi)) := slD_str (by rw [txt_len]; omega)
theorem eq_txt {a b : List Bool} : eqD (.str (txt a)) (.str (txt b)) = some (.bl (decide (a = b))) := by
  rw [eqD_str okS_txt okS_txt]
  congr 2
  rw [decide_eq_decide]
  exact ⟨txt_inj, fun h => by rw [h]⟩
theorem ne_txt {a b : List Bool} : neD (.str (txt a)) (.str (txt b)) = some (.bl (decide (a ≠ b))) := by
  rw [neD_str okS_txt okS_txt]
  congr 2
  by_cases h : a = b
  · subst h; simp
  · have : txt a ≠ txt b := fun q => h (txt_inj q)
    simp [h, this]
theorem ne_sg {a b : Bool} : neD (.str (txt [a])) (.str (txt [b])) = some (.bl (a != b)) := by rw [ne_txt]; cases a <;> cases b <;> rfl
def Told (es : List (List Nat × D)) (R : List (List Bool)) (F : List Bool → Bool) : Prop := ∀ bs, getS es (txt bs) = if bs ∈ R then some (.str (txt [F bs])) else none
end C
set_option Elab.async false
set_option linter.all false
set_option maxRecDepth 100000
set_option maxHeartbeats 1000000
namespace C
open PySem PySem.Spec PyProof.Rows L2 DL
variable {Γ : Cfg}
/-- the slots of torn, once the three are set -/
def Et (es : List (List Nat × D)) (p : List Nat) (bs : List Bool) (b : Bool) (x : Option Sl) : EnD := [some (.val (.dS es)), some (.val (.str p)), some (.val (.str (txt bs))), some (.val (.str (txt [b]))), some (.val (.lst (rangeD 0 bs.length))), some (.val (.int ((bs.count true : Int) - (bs.count false : Int)))), x]
section
variable {es : List (List Nat × D)} {p : List Nat} {bs : List Bool} {x : Option Sl} {R : List (List Bool)} {F : List Bool → Bool} {m : Nat}
end
end C
set_option Elab.async false
set_option linter.all false
set_option maxRecDepth 100000
set_option maxHeartbeats 1000000
namespace C
open PySem PySem.Spec PyProof.Rows L2 DL
variable {Γ : Cfg}
section
variable {es : List (List Nat × D)} {bs : List Bool} {R : List (List Bool)} {F : List Bool → Bool} {m : Nat}
/-- what a row's neighbours are told -/
structure Near (R : List (List Bool)) (bs : List Bool) : Prop where
  nt : bs.map not ∈ R
  fl : ∀ k, k < bs.length → flp bs k ∈ R
  sw : ∀ k, k + 1 < bs.length → swp bs k ∈ R
  tk : ∀ k, k + 1 < bs.length → bs.take (k + 1) ∈ R
  dr : ∀ k, k + 1 < bs.length → bs.drop (k + 1) ∈ R
  pr : 1 < bs.length → ∀ a b, [a, b] ∈ R
variable (h0 : bs ≠ []) (h1 : bs.length ≤ 12) (hT : Told es R F) (hb : bs ∈ R) (hN : Near R bs)
include h0 h1 hT hb hN
/-- a sign doubled -/
def rdB (R : List (List Bool)) (F : List Bool → Bool) (bs : List Bool) : Bool := (List.range bs.length).any fun k => decide (ins bs (bs[k]?.getD true) k ∈ R) && (F (ins bs (bs[k]?.getD true) k) != F bs)
end
section
variable {es : List (List Nat × D)} {bs : List Bool} {R : List (List Bool)} {F : List Bool → Bool} {m : Nat}
variable (hR : ∀ bs, bs ∈ R ↔ bs ≠ [] ∧ bs.length ≤ m) (hm : m ≤ 12) (hT : Told es R F) (hb : bs ∈ R)
include hR hm hT hb
end
end C
set_option Elab.async false
set_option linter.all false
set_option maxRecDepth 100000
set_option maxHeartbeats 1000000
namespace C
open PySem PySem.Spec PyProof.Rows L2 DL
variable {Γ : Cfg}
def dfB (F : List Bool → Bool) (n : Nat) : Bool := (List.range n).any fun k => !((rws n).any fun bs => F bs != F (flp bs k))
/-- a list of signs: how many kinds -/
theorem cnt_signs : ∀ (l : List Bool) (σ : List (List Nat)) , σ.length = (if [sg true] ∈ σ then 1 else 0) + (if [sg false] ∈ σ then 1 else 0) →
    ((l.map fun b => [sg b]).foldl ddZ σ).length = (if [sg true] ∈ σ ∨ true ∈ l then 1 else 0) + (if [sg false] ∈ σ ∨ false ∈ l then 1 else 0)
  | [], σ, h => by simpa using h
  | b :: l, σ, h => by
    rw [List.map_cons, List.foldl_cons]
    by_cases c : [sg b] ∈ σ
    · have e : ddZ σ [sg b] = σ := by
        unfold ddZ
        rw [if_pos (List.any_eq_true.mpr ⟨_, c, by simp⟩)]
      rw [e, cnt_signs l σ h]
      cases b <;> simp [c]
    · have e : ddZ σ [sg b] = σ ++ [[sg b]] := by
        unfold ddZ
        rw [if_neg fun q => ?_]
        obtain ⟨y, hy, q⟩ := List.any_eq_true.mp q
        rw [of_decide_eq_true q] at hy
        exact c hy
      have e2 : ∀ b', [sg b'] ∈ σ ++ [[sg b]] ↔ ([sg b'] ∈ σ ∨ b' = b) := fun b' => by
        rw [List.mem_append, List.mem_singleton]
        cases b <;> cases b' <;> simp [sg]
      rw [e, cnt_signs l _ ?_]
      · simp only [e2, List.mem_cons]
        cases b <;> simp
      · rw [List.length_append, h]
        simp only [e2]
        cases b
        · simp only [c, if_false]; simp
        · simp only [c, if_false]; simp; omega
theorem cnt_sg (l : List Bool) : cntZ (l.map fun b => [sg b]) = (if true ∈ l then 1 else 0) + (if false ∈ l then 1 else 0) := by
  have := cnt_signs l [] rfl
  simpa [cntZ] using this
theorem kinds_txt {bs : List Bool} (h : bs.length ≤ 50) : lenSetD (.str (txt bs)) = some (.int (((if true ∈ bs then 1 else 0) + (if false ∈ bs then 1 else 0) : Nat) : Int)) := by
  unfold lenSetD
  dsimp only
  rw [txt_len, if_pos h]
  have e : ((txt bs).map fun c => [c]) = bs.map fun b => [sg b] := by unfold txt; rw [List.map_map]; rfl
  rw [e, cnt_sg]
theorem strs_of (l : List (List Nat)) : strsD (l.map .str) = some l := by
  induction l with
  | nil => rfl
  | cons a l ih => rw [List.map_cons]; unfold strsD; rw [ih] <;> rfl
section
variable {es : List (List Nat × D)} {R : List (List Bool)} {F : List Bool → Bool} {m : Nat}
variable (hT : Told es R F) {n : Nat} (h0 : 1 ≤ n) (h1 : n ≤ 12) (hA : ∀ bs ∈ rws n, bs ∈ R)
include hT h0 h1 hA
theorem d1 : (iR1 (eV 1)) [some (.val (.dS es)), some (.val (.int (n : Int))), some (.val (.lst ((rws n).map strT))), none, none] = mpure (rangeD 0 n) := WP_pure_of fun z => by
      rw [iR1_ev, eV_succ, eV_zero, WP_pure, asI_int, WP_some, if_pos (by omega), Int.toNat_natCast]
      exact ⟨rfl, rfl⟩
theorem d2 : (rws n).length ≤ 100000 := by rw [rws_len]; exact Nat.le_trans (Nat.pow_le_pow_right (Nat.le_of_ble_eq_true rfl) (show n ≤ 12 by omega)) (Nat.le_of_ble_eq_true rfl)
theorem d3 {k : Nat} (hk : k < n) : ∀ bs ∈ rws n, (tV (e2 (op2 neD) (e2 (op2 ixA) (eV 0) (eV 4)) (e2 (op2 ixA) (eV 0) (eCall (F_law_flip Γ) [eV 4, eV 3])))) ([some (.val (.dS es)), some (.val (.int (n : Int))), some (.val (.lst ((rws n).map strT))), some (.val (.int (k : Int))), none].set 4 (some (.val (strT bs)))) = mpure (F bs != F (flp bs k)) := fun bs hb => WP_pure_of fun z => by
      have hl := rws_mem hb
      have h2 : bs ∈ R := hA bs hb
      have h3 : flp bs k ∈ R := hA _ (by have := all_rws (flp bs k); rw [flp_len (by omega), hl] at this; exact this)
      have g1 := hT bs
      rw [if_pos h2] at g1
      have g2 := hT (flp bs k)
      rw [if_pos h3] at g2
      simp only [List.set_cons_succ, List.set_cons_zero, tV_ev, e2_ev, eV_succ, eV_zero, WP_pure, op2_ev, strT, ixA_dS, g1, eCall_ev, evs_cons, evs_nil, flip_ok (Γ := Γ) (show k < bs.length by omega) (show bs.length ≤ 12 by omega), g2, WP_some, ne_sg, asB_bl]
      exact ⟨trivial, trivial⟩
theorem d4 {k : Nat} (hk : k < n) : (e2 (op2 eqD) (eLc 4 (iS (eV 2)) (tV (e2 (op2 neD) (e2 (op2 ixA) (eV 0) (eV 4)) (e2 (op2 ixA) (eV 0) (eCall (F_law_flip Γ) [eV 4, eV 3])))) (eV 4)) (eLst [])) [some (.val (.dS es)), some (.val (.int (n : Int))), some (.val (.lst ((rws n).map strT))), some (.val (.int (k : Int))), none] = mpure (.bl (!(rws n).any fun bs => F bs != F (flp bs k))) := by
  have it : ∀ l, iterD (.lst l) = some l := fun _ => rfl
  exact found_txt (i := 4) (xs := iS (eV 2)) (t := tV (e2 (op2 neD) (e2 (op2 ixA) (eV 0) (eV 4)) (e2 (op2 ixA) (eV 0) (eCall (F_law_flip Γ) [eV 4, eV 3])))) (tb := fun bs => F bs != F (flp bs k)) (l := rws n) (ρ := [some (.val (.dS es)), some (.val (.int (n : Int))), some (.val (.lst ((rws n).map strT))), some (.val (.int (k : Int))), none]) (show 4 < 5 by decide) rfl (WP_pure_of fun z => by
        simp only [iS_ev, eV_succ, eV_zero, WP_pure, it, WP_some]
        exact ⟨trivial, trivial⟩) (d2 hT h0 h1 hA) (d3 hT h0 h1 hA hk)
theorem d5 : (e2 (op2 neD) (eLc 3 (iR1 (eV 1)) (tV (e2 (op2 eqD) (eLc 4 (iS (eV 2)) (tV (e2 (op2 neD) (e2 (op2 ixA) (eV 0) (eV 4)) (e2 (op2 ixA) (eV 0) (eCall (F_law_flip Γ) [eV 4, eV 3])))) (eV 4)) (eLst []))) (eV 3)) (eLst [])) [some (.val (.dS es)), some (.val (.int (n : Int))), some (.val (.lst ((rws n).map strT))), none, none] = mpure (.bl (dfB F n)) :=
  (found_int (i := 3) (xs := iR1 (eV 1)) (t := tV (e2 (op2 eqD) (eLc 4 (iS (eV 2)) (tV (e2 (op2 neD) (e2 (op2 ixA) (eV 0) (eV 4)) (e2 (op2 ixA) (eV 0) (eCall (F_law_flip Γ) [eV 4, eV 3])))) (eV 4)) (eLst []))) (tb := fun k => !((rws n).any fun bs => F bs != F (flp bs k))) (lo := 0) (n := n) (ρ := [some (.val (.dS es)), some (.val (.int (n : Int))), some (.val (.lst ((rws n).map strT))), none, none]) (show 3 < 5 by decide) rfl (d1 hT h0 h1 hA) (by omega) fun k hk => WP_pure_of fun z => by
    rw [Int.zero_add, tV_ev]
    simp only [List.set_cons_succ, List.set_cons_zero]
    rw [d4 hT h0 h1 hA hk, WP_pure, asB_bl, WP_some]
    exact ⟨rfl, rfl⟩).1
theorem deafA_ok : F_law_deaf Γ [.dS es, .int (n : Int)] = mpure (.bl (dfB F n)) := WP_pure_of fun z => by
  have hr := rows_ok (Γ := Γ) (n := (n : Int)) (by omega) (by omega)
  rw [Int.toNat_natCast] at hr
  have hf := d5 (Γ := Γ) hT h0 h1 hA
  unfold F_law_deaf B_law_deaf
  rw [run_ev, show rho0 5 [D.dS es, .int (n : Int)] = [some (.val (.dS es)), some (.val (.int (n : Int))), none, none, none] from rfl, sSeq_ev, sSet_ev]
  rw [eCall_ev, evs_cons, eV_succ, eV_zero, WP_pure, evs_nil, hr, WP_pure, if_neg (by simp [ownAt_succ]), sRet_ev]
  simp only [List.set_cons_succ, List.set_cons_zero]
  rw [hf, WP_pure]
  exact ⟨rfl, rfl⟩
end
section
variable {es : List (List Nat × D)} {R : List (List Bool)} {F : List Bool → Bool} {m : Nat}
variable (hR : ∀ bs, bs ∈ R ↔ bs ≠ [] ∧ bs.length ≤ m) (hm : m ≤ 12) (hT : Told es R F)
include hR hm hT
theorem deaf_ok {n : Nat} (h0 : 1 ≤ n) (h1 : n ≤ m) : F_law_deaf Γ [.dS es, .int (n : Int)] = mpure (.bl (dfB F n)) := deafA_ok hT h0 (by omega) fun bs hb => (hR _).mpr ⟨fun q => by have := rws_mem hb; rw [q, List.length_nil] at this; omega, by have := rws_mem hb; omega⟩
def hdB (F : List Bool → Bool) (m : Nat) : Bool := !(List.range m).any fun k => dfB F (k + 1)
/-- what the law finds -/
def lwB (R : List (List Bool)) (F : List Bool → Bool) (m : Nat) : Nat → Bool
  | 0 => !R.any (agB F)
  | 1 => !R.any (evB F)
  | 2 => !R.any (grB F)
  | 3 => hdB F m
  | 4 => !R.any (kpB R F)
  | 5 => mxK R F
  | 6 => !R.any (moB F)
  | 7 => !R.any (orB F)
  | 8 => !R.any (paB F)
  | _ => !R.any (rdB R F)
theorem h1 : (e2 (op2 eqD) (eLc 4 (iR2 (eC (.int (1))) (e2 (op2 addD) (eV 2) (eC (.int (1))))) (tV (eCall (F_law_deaf Γ) [eV 0, eV 4])) (eV 4)) (eLst [])) [some (.val (.dS es)), some (.val (.str (pmn 3))), some (.val (.int (m : Int))), none, none, none] = mpure (.bl (hdB F m)) :=
  (found_int (i := 4) (xs := iR2 (eC (.int (1))) (e2 (op2 addD) (eV 2) (eC (.int (1))))) (t := tV (eCall (F_law_deaf Γ) [eV 0, eV 4])) (tb := fun k => dfB F (k + 1)) (lo := 1) (n := m) (ρ := [some (.val (.dS es)), some (.val (.str (pmn 3))), some (.val (.int (m : Int))), none, none, none]) (show 4 < 6 by decide) rfl (WP_pure_of fun z => by
      have e1 : addD (.int (m : Int)) (.int 1) = some (.int ((m : Int) + 1)) := rfl
      rw [iR2_ev, eC_ev, WP_pure, asI_int, WP_some, e2_ev, eV_succ, eV_succ, eV_zero, WP_pure, eC_ev, WP_pure, op2_ev, e1, WP_some, asI_int, WP_some]
      rw [if_pos (by omega), show ((m : Int) + 1 - 1).toNat = m by omega]
      exact ⟨rfl, rfl⟩) (by omega) fun k hk => WP_pure_of fun z => by
    have hd := deaf_ok (Γ := Γ) hR hm hT (n := k + 1) (by omega) (by omega)
    have i0 : (1 : Int) + (k : Int) = ((k + 1 : Nat) : Int) := by omega
    rw [i0, tV_ev]
    simp only [List.set_cons_succ, List.set_cons_zero]
    rw [eCall_ev, evs_cons, eV_zero, WP_pure, evs_cons, eV_succ, eV_succ, eV_succ, eV_succ, eV_zero, WP_pure, evs_nil, hd, WP_pure, asB_bl, WP_some]
    exact ⟨rfl, rfl⟩).2
variable (hS : F_law_short Γ [.int (m : Int)] = mpure (.lst (R.map strT))) (hl : R.length ≤ 50)
include hS hl
theorem m1 : compL 5 (tV (e2 (op2 eqD) (e1 (op1 lenSetD) (eV 5)) (eC (.int (2))))) (e2 (op2 ixA) (eV 0) (eV 5)) (R.map strT) [some (.val (.dS es)), some (.val (.str (pmn 5))), some (.val (.int (m : Int))), some (.val (.lst (R.map strT))), none, none] = mpure ((R.filter fun bs => decide (true ∈ bs) && decide (false ∈ bs)).map fun bs => D.str [sg (F bs)]) := by
  refine compL_map (g := strT) (tb := fun bs => decide (true ∈ bs) && decide (false ∈ bs)) (fb := fun bs => D.str [sg (F bs)]) fun bs hb => ⟨WP_pure_of fun z => ?_, fun _ => WP_pure_of fun z => ?_⟩
  · obtain ⟨h0, h1⟩ := (hR bs).mp hb
    simp only [List.set_cons_succ, List.set_cons_zero, tV_ev, e2_ev, e1_ev, eV_succ, eV_zero, eC_ev, WP_pure, op1_ev, op2_ev, strT, kinds_txt (show bs.length ≤ 50 by omega), WP_some, eqD_int, asB_bl]
    by_cases c1 : true ∈ bs <;> by_cases c2 : false ∈ bs <;> simp [c1, c2]
  · have g1 := hT bs
    rw [if_pos hb] at g1
    simp only [List.set_cons_succ, List.set_cons_zero, e2_ev, eV_succ, eV_zero, WP_pure, op2_ev, strT, ixA_dS, g1, WP_some]
    first | exact ⟨rfl, rfl⟩ | exact ⟨trivial, trivial⟩ | exact ⟨rfl, trivial⟩ | exact ⟨trivial, rfl⟩
theorem t1 {p : Nat} {tb : List Bool → Bool} (ht : ∀ bs ∈ R, F_law_torn Γ [.dS es, .str (pmn p), .str (txt bs)] = mpure (.bl (tb bs))) : (e2 (op2 eqD) (eLc 5 (iS (eV 3)) (tV (eCall (F_law_torn Γ) [eV 0, eV 1, eV 5])) (eV 5)) (eLst [])) [some (.val (.dS es)), some (.val (.str (pmn p))), some (.val (.int (m : Int))), some (.val (.lst (R.map strT))), none, none] = mpure (.bl (!R.any tb)) := by
  have it : ∀ l, iterD (.lst l) = some l := fun _ => rfl
  exact found_txt (i := 5) (xs := iS (eV 3)) (t := tV (eCall (F_law_torn Γ) [eV 0, eV 1, eV 5])) (tb := tb) (l := R) (ρ := [some (.val (.dS es)), some (.val (.str (pmn p))), some (.val (.int (m : Int))), some (.val (.lst (R.map strT))), none, none]) (show 5 < 6 by decide) rfl (WP_pure_of fun z => by
      simp only [iS_ev, eV_succ, eV_zero, WP_pure, it, WP_some]
      exact ⟨trivial, trivial⟩) (by omega) fun bs hb => WP_pure_of fun z => by
    simp only [List.set_cons_succ, List.set_cons_zero, tV_ev, eCall_ev, evs_cons, evs_nil, eV_succ, eV_zero, WP_pure, strT, ht bs hb, asB_bl, WP_some]
    exact ⟨trivial, trivial⟩
end
section
variable {R : List (List Bool)} {F : List Bool → Bool} {m : Nat}
variable (hR : ∀ bs, bs ∈ R ↔ bs ≠ [] ∧ bs.length ≤ m)
include hR
end
end C
set_option Elab.async false
set_option linter.all false
set_option maxRecDepth 100000
set_option maxHeartbeats 1000000
namespace C
open PySem PySem.Spec PyProof.Rows L2 DL
variable {Γ : Cfg}
theorem is_ok {a : Bool} : F_law_is Γ [.bl a, .bl a] = mpure (.bl true) := WP_pure_of fun z => by
  have e : eqD (.bl a) (.bl a) = some (.bl true) := by cases a <;> rfl
  simp [F_law_is, B_law_is, rho0, isiD, tyD, isK, e]
end C
set_option Elab.async false
set_option linter.all false
set_option maxRecDepth 100000
set_option maxHeartbeats 1000000
namespace C
def Aw : Nat → Nat → Nat → Bool → Bool → Bool
  | 0, a, _, _, _ => decide (0 < a)
  | 1, _, _, _, _ => true
  | 2, _, _, _, _ => false
  | 3, _, _, h, l => h && l
  | 4, _, b, _, _ => decide (b = 0)
  | 5, _, _, h, _ => h
  | 7, _, _, _, l => l
  | 8, a, b, _, _ => decide (b ≤ a)
  | 9, a, b, _, _ => decide (b < a)
  | 10, a, b, h, _ => if a = b then h else decide (b < a)
  | 11, a, b, _, l => if a = b then l else decide (b < a)
  | _, _, b, _, _ => decide (b % 2 = 0)
def kpA (F : List Bool → Bool) (bs : List Bool) : Bool := (List.range (bs.length + 1)).any fun k => F (ins bs (F bs) k) != F bs
def rdA (F : List Bool → Bool) (bs : List Bool) : Bool := (List.range bs.length).any fun k => F (ins bs (bs[k]?.getD true) k) != F bs
end C
set_option Elab.async false
set_option linter.all false
set_option maxRecDepth 100000
set_option maxHeartbeats 1000000
namespace C
open PySem PySem.Spec PyProof.Rows L2 DL
variable {Γ : Cfg}
theorem getS_cons {p : List Nat × D} {es : List (List Nat × D)} {k : List Nat} : getS (p :: es) k = if p.1 = k then some p.2 else getS es k := by
  unfold getS
  rw [List.find?_cons]
  by_cases h : p.1 = k
  · rw [if_pos h, decide_eq_true h]; rfl
  · rw [if_neg h, decide_eq_false h]
theorem getS_app {q : List Nat × D} {k : List Nat} : ∀ {es : List (List Nat × D)}, getS (es ++ [q]) k = match getS es k with | some d => some d | none => if q.1 = k then some q.2 else none
  | [] => by rw [List.nil_append, getS_cons]; rfl
  | p :: es => by
    rw [List.cons_append, getS_cons, getS_cons, getS_app (es := es)]
    by_cases h : p.1 = k
    · rw [if_pos h, if_pos h]
    · rw [if_neg h, if_neg h]
theorem any_getS {k : List Nat} : ∀ {es : List (List Nat × D)}, (es.any fun p => decide (p.1 = k)) = (getS es k).isSome
  | [] => rfl
  | p :: es => by
    rw [List.any_cons, any_getS (es := es), getS_cons]
    by_cases h : p.1 = k
    · rw [if_pos h, decide_eq_true h]; rfl
    · rw [if_neg h, decide_eq_false h, Bool.false_or]
theorem getS_set {k k' : List Nat} {v : D} : ∀ {es : List (List Nat × D)}, getS (es.map fun p => if p.1 = k then (p.1, v) else p) k' = if k' = k then (getS es k).map (fun _ => v) else getS es k'
  | [] => by by_cases h : k' = k <;> simp [h, getS]
  | p :: es => by
    rw [List.map_cons, getS_cons, getS_set (es := es), getS_cons, getS_cons]
    by_cases h : p.1 = k
    · rw [if_pos h, if_pos h]
      by_cases h2 : k' = k
      · rw [if_pos h2, if_pos h2, if_pos (by rw [h, h2])]; rfl
      · rw [if_neg h2, if_neg h2, if_neg fun q => h2 (by rw [← q]; exact h), if_neg fun q => h2 (by rw [← q, h])]
    · rw [if_neg h, if_neg h]
      by_cases h2 : k' = k
      · rw [if_pos h2, if_pos h2, if_neg fun q => h (by rw [q, h2])]
      · rw [if_neg h2, if_neg h2]
theorem getS_put {es : List (List Nat × D)} {k k' : List Nat} {v : D} : getS (putS es k v) k' = if k' = k then some v else getS es k' := by
  unfold putS
  rw [any_getS]
  cases e : getS es k with
  | some d =>
    rw [if_pos (show (some d).isSome = true from rfl), getS_set, e]
    rfl
  | none =>
    rw [if_neg (show ¬ (none : Option D).isSome = true by decide), getS_app]
    by_cases h : k' = k
    · subst h; rw [e]
    · rw [if_neg h]
      cases getS es k' with
      | some d => rfl
      | none => exact if_neg fun q => h q.symm
theorem Told.put {es : List (List Nat × D)} {R : List (List Bool)} {F : List Bool → Bool} (h : Told es R F) (b : List Bool) : Told (putS es (txt b) (.str (txt [F b]))) (b :: R) F := fun c => by
  rw [getS_put]
  by_cases q : c = b
  · subst q; rw [if_pos rfl, if_pos (List.mem_cons_self ..)]
  · rw [if_neg fun e => q (txt_inj e), h c]
    by_cases m : c ∈ R
    · rw [if_pos m, if_pos (List.mem_cons_of_mem _ m)]
    · rw [if_neg m, if_neg fun e => by
        rcases List.mem_cons.mp e with e | e
        · exact q e
        · exact m e]
theorem Told.nil {F : List Bool → Bool} : Told [] [] F := fun c => by rw [if_neg (by simp)]; rfl
/-- a row with two places put about, or the row -/
def swq (bs : List Bool) (k : Nat) : List Bool := bs.take k ++ (bs.drop (k + 1)).take 1 ++ [bs[k]?.getD true] ++ bs.drop (k + 2)
def nearA (bs : List Bool) (k : Nat) : List (List Bool) := [flp bs k, ins bs (bs[k]?.getD true) k, bs.take k, bs.drop k, swq bs k]
def nearC (bs : List Bool) : List (List Bool) := [[true], [false], [true, true], [true, false], [false, true], [false, false], bs ++ [true], bs ++ [false]]
def nearL (bs : List Bool) (k : Nat) : List (List Bool) := nearA bs k ++ [ins bs true k, ins bs false k] ++ nearC bs
end C
set_option Elab.async false
set_option linter.all false
set_option maxRecDepth 100000
set_option maxHeartbeats 1000000
namespace C
open PySem PySem.Spec PyProof.Rows L2 DL
variable {Γ : Cfg}
def Lg (i : Nat) (bs : List Bool) (es : List (List Nat × D)) (ρ : EnD) : Prop := ∃ a b c e : Option D, ρ = [some (.val (.str (nm i))), some (.val (.str (txt bs))), some (.own (.dS es)), a.map .val, b.map .val, c.map .val, e.map .val]
def LP (i : Nat) (bs : List Bool) (base : List (List Bool)) (c : Nat) (z0 : S) (acc : List (List Bool)) (ρ : EnD) (z : S) : Prop := z = z0 ∧ ∃ es R, Lg i bs es ρ ∧ Told es R (ans i) ∧ (∀ b ∈ base ++ acc, b ≠ [] → b ∈ R) ∧ es.length ≤ c + acc.length
theorem LP.step {i : Nat} {bs x : List Bool} {base acc : List (List Bool)} {c : Nat} {z0 z' : S} {es : List (List Nat × D)} {R : List (List Bool)} {ρ' : EnD} (hz : z' = z0) (ht : Told es R (ans i)) (hb : ∀ b ∈ base ++ acc, b ≠ [] → b ∈ R) (hl : es.length ≤ c + acc.length)
    (h : Lg i bs (putS es (txt x) (.str (txt [ans i x]))) ρ') : LP i bs base c z0 (acc ++ [x]) ρ' z' := by
  refine ⟨hz, _, x :: R, h, ht.put x, fun b hm hn => ?_, ?_⟩
  · rw [← List.append_assoc, List.mem_append, List.mem_singleton] at hm
    rcases hm with hm | hm
    · exact List.mem_cons_of_mem _ (hb b hm hn)
    · rw [hm]; exact List.mem_cons_self ..
  · have := putS_len es (txt x) (.str (txt [ans i x]))
    rw [List.length_append, List.length_singleton]
    omega
section
variable {bs : List Bool} {k : Nat} (hk : k < bs.length) (h1 : bs.length ≤ 12) {x0 x2 x3 x5 x6 : Option Sl}
include hk h1
end
def LQ (i : Nat) (bs : List Bool) (z0 : S) (acc : List Nat) (ρ : EnD) (z : S) : Prop := z = z0 ∧ ∃ es R, Lg i bs es ρ ∧ Told es R (ans i) ∧ (bs ∈ R ∧ bs.map not ∈ R) ∧ (∀ k ∈ acc, ∀ b ∈ nearL bs k, b ≠ [] → b ∈ R) ∧ es.length ≤ 2 + 15 * acc.length
end C
set_option Elab.async false
set_option linter.all false
set_option maxRecDepth 100000
set_option maxHeartbeats 4000000
namespace C
open PySem PySem.Spec PyProof.Rows L2 DL
variable {Γ : Cfg}
def kW : Nat → List Nat
  | 0 => [97, 103, 114, 101, 101, 100, 32, 103, 114, 111, 119, 105, 110, 103, 32, 104, 101, 97, 114, 100, 32, 107, 101, 112, 116, 32, 111, 114, 100, 101, 114, 32, 112, 97, 114, 116, 115, 32, 114, 101, 112, 101, 97, 116]
  | 1 => [103, 114, 111, 119, 105, 110, 103, 32, 107, 101, 112, 116, 32, 111, 114, 100, 101, 114, 32, 112, 97, 114, 116, 115, 32, 114, 101, 112, 101, 97, 116]
  | 2 => [103, 114, 111, 119, 105, 110, 103, 32, 107, 101, 112, 116, 32, 111, 114, 100, 101, 114, 32, 112, 97, 114, 116, 115, 32, 114, 101, 112, 101, 97, 116]
  | 3 => [97, 103, 114, 101, 101, 100, 32, 103, 114, 111, 119, 105, 110, 103, 32, 107, 101, 112, 116, 32, 109, 105, 120, 101, 100, 32, 114, 101, 112, 101, 97, 116]
  | 4 => [97, 103, 114, 101, 101, 100, 32, 103, 114, 111, 119, 105, 110, 103, 32, 104, 101, 97, 114, 100, 32, 107, 101, 112, 116, 32, 111, 114, 100, 101, 114, 32, 112, 97, 114, 116, 115, 32, 114, 101, 112, 101, 97, 116]
  | 5 => [97, 103, 114, 101, 101, 100, 32, 101, 118, 101, 110, 32, 103, 114, 111, 119, 105, 110, 103, 32, 107, 101, 112, 116, 32, 109, 105, 120, 101, 100, 32, 112, 97, 114, 116, 115, 32, 114, 101, 112, 101, 97, 116]
  | 6 => [97, 103, 114, 101, 101, 100, 32, 104, 101, 97, 114, 100, 32, 109, 105, 120, 101, 100, 32, 114, 101, 112, 101, 97, 116]
  | 7 => [97, 103, 114, 101, 101, 100, 32, 101, 118, 101, 110, 32, 103, 114, 111, 119, 105, 110, 103, 32, 107, 101, 112, 116, 32, 109, 105, 120, 101, 100, 32, 112, 97, 114, 116, 115, 32, 114, 101, 112, 101, 97, 116]
  | 8 => [97, 103, 114, 101, 101, 100, 32, 103, 114, 111, 119, 105, 110, 103, 32, 104, 101, 97, 114, 100, 32, 107, 101, 112, 116, 32, 109, 105, 120, 101, 100, 32, 109, 111, 115, 116, 32, 111, 114, 100, 101, 114]
  | 9 => [97, 103, 114, 101, 101, 100, 32, 103, 114, 111, 119, 105, 110, 103, 32, 104, 101, 97, 114, 100, 32, 107, 101, 112, 116, 32, 109, 105, 120, 101, 100, 32, 109, 111, 115, 116, 32, 111, 114, 100, 101, 114]
  | 10 => [97, 103, 114, 101, 101, 100, 32, 101, 118, 101, 110, 32, 103, 114, 111, 119, 105, 110, 103, 32, 107, 101, 112, 116, 32, 109, 105, 120, 101, 100, 32, 109, 111, 115, 116]
  | 11 => [97, 103, 114, 101, 101, 100, 32, 101, 118, 101, 110, 32, 103, 114, 111, 119, 105, 110, 103, 32, 107, 101, 112, 116, 32, 109, 105, 120, 101, 100, 32, 109, 111, 115, 116]
  | _ => [104, 101, 97, 114, 100, 32, 109, 105, 120, 101, 100, 32, 111, 114, 100, 101, 114, 32, 112, 97, 114, 116, 115]
def kD : List (List Nat × D) := putS (putS (putS (putS (putS (putS (putS (putS (putS (putS ([([111, 100, 100], D.str [104, 101, 97, 114, 100, 32, 109, 105, 120, 101, 100, 32, 111, 114, 100, 101, 114, 32, 112, 97, 114, 116, 115]), ([105, 115, 108, 97, 110, 100], D.str [97, 103, 114, 101, 101, 100, 32, 104, 101, 97, 114, 100, 32, 109, 105, 120, 101, 100, 32, 114, 101, 112, 101, 97, 116]), ([98, 111, 116, 104, 32, 101, 110, 100, 115], D.str [97, 103, 114, 101, 101, 100, 32, 103, 114, 111, 119, 105, 110, 103, 32, 107, 101, 112, 116, 32, 109, 105, 120, 101, 100, 32, 114, 101, 112, 101, 97, 116])]) [102, 105, 114, 115, 116] (D.str [97, 103, 114, 101, 101, 100, 32, 101, 118, 101, 110, 32, 103, 114, 111, 119, 105, 110, 103, 32, 107, 101, 112, 116, 32, 109, 105, 120, 101, 100, 32, 112, 97, 114, 116, 115, 32, 114, 101, 112, 101, 97, 116])) [108, 97, 115, 116] (D.str [97, 103, 114, 101, 101, 100, 32, 101, 118, 101, 110, 32, 103, 114, 111, 119, 105, 110, 103, 32, 107, 101, 112, 116, 32, 109, 105, 120, 101, 100, 32, 112, 97, 114, 116, 115, 32, 114, 101, 112, 101, 97, 116])) [97, 108, 108, 111, 119, 32, 111, 118, 101, 114] (D.str [97, 103, 114, 101, 101, 100, 32, 103, 114, 111, 119, 105, 110, 103, 32, 104, 101, 97, 114, 100, 32, 107, 101, 112, 116, 32, 111, 114, 100, 101, 114, 32, 112, 97, 114, 116, 115, 32, 114, 101, 112, 101, 97, 116])) [97, 108, 119, 97, 121, 115, 32, 97, 108, 108, 111, 119] (D.str [103, 114, 111, 119, 105, 110, 103, 32, 107, 101, 112, 116, 32, 111, 114, 100, 101, 114, 32, 112, 97, 114, 116, 115, 32, 114, 101, 112, 101, 97, 116])) [109, 111, 115, 116, 32, 111, 114, 32, 97, 108, 108, 111, 119] (D.str [97, 103, 114, 101, 101, 100, 32, 103, 114, 111, 119, 105, 110, 103, 32, 104, 101, 97, 114, 100, 32, 107, 101, 112, 116, 32, 109, 105, 120, 101, 100, 32, 109, 111, 115, 116, 32, 111, 114, 100, 101, 114])) [100, 101, 110, 121, 32, 111, 118, 101, 114] (D.str [97, 103, 114, 101, 101, 100, 32, 103, 114, 111, 119, 105, 110, 103, 32, 104, 101, 97, 114, 100, 32, 107, 101, 112, 116, 32, 111, 114, 100, 101, 114, 32, 112, 97, 114, 116, 115, 32, 114, 101, 112, 101, 97, 116])) [97, 108, 119, 97, 121, 115, 32, 100, 101, 110, 121] (D.str [103, 114, 111, 119, 105, 110, 103, 32, 107, 101, 112, 116, 32, 111, 114, 100, 101, 114, 32, 112, 97, 114, 116, 115, 32, 114, 101, 112, 101, 97, 116])) [109, 111, 115, 116, 32, 111, 114, 32, 100, 101, 110, 121] (D.str [97, 103, 114, 101, 101, 100, 32, 103, 114, 111, 119, 105, 110, 103, 32, 104, 101, 97, 114, 100, 32, 107, 101, 112, 116, 32, 109, 105, 120, 101, 100, 32, 109, 111, 115, 116, 32, 111, 114, 100, 101, 114])) [109, 111, 115, 116, 32, 111, 114, 32, 102, 105, 114, 115, 116] (D.str [97, 103, 114, 101, 101, 100, 32, 101, 118, 101, 110, 32, 103, 114, 111, 119, 105, 110, 103, 32, 107, 101, 112, 116, 32, 109, 105, 120, 101, 100, 32, 109, 111, 115, 116])) [109, 111, 115, 116, 32, 111, 114, 32, 108, 97, 115, 116] (D.str [97, 103, 114, 101, 101, 100, 32, 101, 118, 101, 110, 32, 103, 114, 111, 119, 105, 110, 103, 32, 107, 101, 112, 116, 32, 109, 105, 120, 101, 100, 32, 109, 111, 115, 116])
end C
set_option Elab.async false
set_option linter.all false
set_option maxRecDepth 100000
set_option maxHeartbeats 1000000
namespace C
open PySem PySem.Spec PyProof.Rows L2 DL
variable {Γ : Cfg}
end C
set_option Elab.async false
set_option linter.all false
set_option maxRecDepth 100000
set_option maxHeartbeats 1000000
namespace C
open PySem PySem.Spec PyProof.Rows L2 DL
variable {Γ : Cfg}
def fv (v : List Bool) : List Bool → Bool
  | [a] => (v[if a then 0 else 1]?).getD true
  | [a, b] => (v[if a then (if b then 2 else 3) else (if b then 4 else 5)]?).getD true
  | _ => true
def T6 : List (List Bool) := T14.take 6
theorem six {v : List Bool} (h : v.length = 6) : ∃ a b c d e f, v = [a, b, c, d, e, f] := by
  match v, h with
  | [a, b, c, d, e, f], _ => exact ⟨a, b, c, d, e, f, rfl⟩
theorem T6_eq : T6 = [[true], [false], [true, true], [true, false], [false, true], [false, false]] := by decide +kernel
theorem T6_fv {v : List Bool} (h : v.length = 6) : T6.map (fv v) = v := by
  obtain ⟨a, b, c, d, e, f, rfl⟩ := six h
  rw [T6_eq]
  rfl
def bp (F : List Bool → Bool) : List Bool → Bool
  | [] => true
  | x :: r => r.foldl (fun now y => F [now, F [y]]) (F [x])
def big (F : List Bool → Bool) (bs : List Bool) : Bool := if bs.length ≤ 2 then F bs else bp F bs
def isP (v : List Bool) : Bool := !T14.any (paB (big (fv v)))
def w2 (F : List Bool → Bool) (t : List Bool) : Bool := F t != F [F [t[0]?.getD true], F [t[1]?.getD true]]
def w3 (F : List Bool → Bool) (t : List Bool) : Bool := F [F (t.take 2), F [t[2]?.getD true]] != F [F [t[0]?.getD true], F (t.drop 1)]
def wh (F : List Bool → Bool) : Bool := !(rws 2).any (w2 F) && !(rws 3).any (w3 F)
def im (F : List Bool → Bool) (x : Bool) : Bool := (F [true] == x) || (F [false] == x) || (rws 2).any fun t => F t == x
theorem isP_wh : ∀ v ∈ rws 6, isP v = wh (fv v) := by decide +kernel
def SIX : List (List Bool) := (rws 6).filter fun v => wh (fv v)
theorem SIX_len : SIX.length = 16 := by decide +kernel
def ends (v : List Bool) : Bool := decide ([v[0]?.getD true, v[1]?.getD true, v[2]?.getD true, v[5]?.getD true] = [true, false, true, false])
theorem SIX_four : (SIX.filter ends).length = 4 := by decide +kernel
theorem wh_assoc : ∀ v ∈ rws 6, wh (fv v) = true → ∀ x y z : Bool, im (fv v) x = true → im (fv v) y = true → fv v [fv v [x, y], fv v [z]] = fv v [x, fv v [y, fv v [z]]] := by decide +kernel
theorem bp_snoc {F : List Bool → Bool} {a : List Bool} {y : Bool} (h : a ≠ []) : bp F (a ++ [y]) = F [bp F a, F [y]] := by
  cases a with
  | nil => exact absurd rfl h
  | cons x r => simp [bp, List.foldl_append]
theorem two_in (x y : Bool) : [x, y] ∈ rws 2 := by cases x <;> cases y <;> decide
theorem im_two {F : List Bool → Bool} (x y : Bool) : im F (F [x, y]) = true := by
  unfold im
  rw [Bool.or_eq_true]
  exact .inr (List.any_eq_true.mpr ⟨[x, y], two_in x y, beq_self_eq_true _⟩)
theorem im_one {F : List Bool → Bool} (x : Bool) : im F (F [x]) = true := by
  unfold im
  cases x <;> simp
theorem snoc_of {α : Type} {l : List α} (h : l ≠ []) : ∃ r x, l = r ++ [x] := ⟨l.dropLast, l.getLast h, (List.dropLast_concat_getLast h).symm⟩
theorem bp_im {F : List Bool → Bool} {a : List Bool} (h : a ≠ []) : im F (bp F a) = true := by
  obtain ⟨r, x, rfl⟩ := snoc_of h
  by_cases hr : r = []
  · subst hr; exact im_one x
  · rw [bp_snoc hr]; exact im_two _ _
theorem bp_parts {v : List Bool} (hv : v ∈ rws 6) (hw : wh (fv v) = true) {a : List Bool} (ha : a ≠ []) : ∀ (n : Nat) {b : List Bool}, b.length = n → b ≠ [] → fv v [bp (fv v) a, bp (fv v) b] = bp (fv v) (a ++ b)
  | 0, b, hl, hb => absurd (List.length_eq_zero_iff.mp hl) hb
  | n + 1, b, hl, hb => by
    obtain ⟨r, x, rfl⟩ := snoc_of hb
    by_cases hr : r = []
    · subst hr
      rw [List.nil_append, bp_snoc ha]
      rfl
    · have ih := bp_parts hv hw ha n (b := r) (by simpa using hl) hr
      rw [bp_snoc hr, ← List.append_assoc, bp_snoc (by simp [ha]), ← ih]
      exact (wh_assoc v hv hw _ _ _ (bp_im ha) (bp_im hr)).symm
theorem dz6 {v : List Bool} (hv : v.length = 6) {x1 x2 x3 x4 x5 : Option Sl} : eDz Γ.hs 5 4 (iZp (eC w_SMALL_ROWS) (eV 0)) [some (.val (.tup (vs v))), x1, x2, x3, x4, x5] = mpure (tdR Γ T6 (fv v)) := by
  have e1 : (T14.map rowT).zip (vs v) = T6.map fun bs => (rowT bs, D.str (vc (fv v bs))) := by
    have h1 : vs v = T6.map fun bs => D.str (vc (fv v bs)) := by
      conv => lhs; rw [← T6_fv hv]
      unfold vs
      rw [List.map_map] <;> rfl
    rw [h1]
    exact zip_pre (f := rowT) (g := fun bs => D.str (vc (fv v bs))) T14 6
  have e2 : dzD [] (T6.map fun bs => (rowT bs, D.str (vc (fv v bs)))) = some (T6.map fun bs => (bs.map vc, D.str (vc (fv v bs)))) := dz_new (f := fun bs => D.str (vc (fv v bs))) T6 [] (by
    rw [List.nil_append]; exact T14_nodup.sublist (List.take_sublist ..))
  refine WP_pure_of fun z => ?_
  unfold eDz iZp
  simp only [WP_bind, eC_ev, eV_zero, WP_pure, w_rows, asT_tup, Option.bind_some, Option.map_some, WP_some, e1, List.length_map, WP_ite, e2]
  rw [if_pos ⟨by rw [sizeLine_eq, T6_eq]; decide, by simp, by simp⟩]
  first | exact ⟨rfl, rfl⟩ | exact ⟨trivial, trivial⟩ | exact ⟨trivial, rfl⟩ | exact ⟨rfl, trivial⟩
theorem in6_1 (x : Bool) : [x] ∈ T6 := by rw [T6_eq]; cases x <;> decide
theorem in6_2 (x y : Bool) : [x, y] ∈ T6 := by rw [T6_eq]; cases x <;> cases y <;> decide
theorem bp_loop {v : List Bool} {y1 y2 : Option Sl} {z : S} {Qr : D → S → Prop} : ∀ (r : List Bool) (now : Bool) (x4 : Option D),
    WS (forD 4 (sSet 3 (e2 (op2 (ixT Γ.hs)) (eV 2) (eTup [eV 3, e2 (op2 (ixT Γ.hs)) (eV 2) (eTup [eV 4])]))) (vs r) [y1, y2, some (.val (tdR Γ T6 (fv v))), some (.val (.str (vc now))), x4.map .val, none] z)
      (fun ρ z' => z' = z ∧ ∃ o : Option D, ρ = [y1, y2, some (.val (tdR Γ T6 (fv v))), some (.val (.str (vc (r.foldl (fun now y => fv v [now, fv v [y]]) now)))), o.map .val, none]) Qr
  | [], now, x4 => ⟨rfl, x4, rfl⟩
  | x :: r, now, x4 => by
    refine forD_cons (by cases x4 <;> rfl) ?_
    have t1 : ixT Γ.hs (tdR Γ T6 (fv v)) (.tup [.str (vc x)]) = some (.str (vc (fv v [x]))) := ixT_td (bs := [x]) (in6_1 x)
    have t2 : ixT Γ.hs (tdR Γ T6 (fv v)) (.tup [.str (vc now), .str (vc (fv v [x]))]) = some (.str (vc (fv v [now, fv v [x]]))) := ixT_td (bs := [now, fv v [x]]) (in6_2 _ _)
    simp only [List.set_cons_succ, List.set_cons_zero, sSet_ev, e2_ev, eV_succ, eV_zero, WP_pure, eTup_ev, evs_cons, evs_nil, op2_ev, t1, t2, WP_some, ownAt_succ, ownAt_zv, Bool.false_eq_true, if_false]
    exact bp_loop r (fv v [now, fv v [x]]) (some (.str (vc x)))
theorem by_parts_ok {v row : List Bool} (hv : v.length = 6) (h0 : row ≠ []) : F_by_parts Γ [.tup (vs v), .tup (vs row)] = mpure (.str (vc (bp (fv v) row))) := WP_pure_of fun z => by
  cases row with
  | nil => exact absurd rfl h0
  | cons x r =>
    have c1 : cutL (vs (x :: r)) none (some (1 : Int)) = vs [x] := by rw [show (1 : Int) = ((1 : Nat) : Int) from rfl, cut_hi]; rfl
    have c2 : cutL (vs (x :: r)) (some (1 : Int)) none = vs r := by rw [show (1 : Int) = ((1 : Nat) : Int) from rfl, cut_lo]; rfl
    have t1 : ixT Γ.hs (tdR Γ T6 (fv v)) (.tup (vs [x])) = some (.str (vc (fv v [x]))) := ixT_td (bs := [x]) (in6_1 x)
    unfold F_by_parts B_by_parts
    rw [run_ev, show rho0 6 [D.tup (vs v), .tup (vs (x :: r))] = [some (.val (.tup (vs v))), some (.val (.tup (vs (x :: r)))), none, none, none, none] from rfl, sSeq_ev, sSet_ev, dz6 hv, WP_pure, if_neg (by simp [ownAt_succ])]
    simp only [List.set_cons_succ, List.set_cons_zero, sSeq_ev, sSet_ev, e2_ev, eV_succ, eV_zero, WP_pure, eSl_ev, pNo_ev, pSo_ev, eC_ev, asI_int, Option.map_some, WP_some, slD_tup, c1, op2_ev, t1, ownAt_succ, ownAt_zn, Bool.false_eq_true, if_false, sFor_ev, iS_ev, c2, iterD_tup]
    refine WS_mono (bp_loop (v := v) r (fv v [x]) none) fun ρ z' ⟨ez, o, e⟩ => ?_
    subst ez e
    rw [sRet_ev, eV_succ, eV_succ, eV_succ, eV_zero, WP_pure]
    exact ⟨rfl, rfl⟩
end C
set_option Elab.async false
set_option linter.all false
set_option maxRecDepth 100000
set_option maxHeartbeats 1000000
namespace C
open PySem PySem.Spec PyProof.Rows L2 DL
variable {Γ : Cfg}
def kI (i p : Nat) : Bool := kpb i (pmn p)
/-- some told way keeps all of these -/
def good (ps : List Nat) : Bool := (List.range 13).any fun i => ps.all fun p => kI i p
def CL : List (List Nat) := [[1, 3], [1, 7], [6, 8], [6, 9], [5, 7, 9], [0, 3, 5, 8], [0, 5, 7, 8], [2, 3, 5, 8], [2, 3, 5, 9], [2, 5, 7, 8], [3, 4, 5, 8], [3, 4, 5, 9], [3, 5, 8, 9], [4, 5, 7, 8]]
def lies (f g : List Nat) : Bool := f.all fun p => g.contains p
def sel (bs : List Bool) : List Nat := (List.range 10).filter fun p => bs[p]?.getD false
def kT : List (List Nat) := [[0, 2, 3, 4, 7, 8, 9], [2, 4, 7, 8, 9], [0, 2, 4, 5, 9], [0, 1, 2, 4, 5, 8, 9], [0, 3, 5, 9], [0, 2, 3, 4, 5, 6, 7], [0, 1, 2, 4, 5, 6], [3, 5, 7, 8]]
def goodT (ps : List Nat) : Bool := kT.any fun k => lies ps k
def tv (v : List Bool) : List Bool → Bool
  | [a] => (v[if a then 0 else 1]?).getD true
  | [a, b] => (v[if a then (if b then 2 else 3) else (if b then 4 else 5)]?).getD true
  | [a, b, c] => (v[if a then (if b then (if c then 6 else 7) else (if c then 8 else 9)) else (if b then (if c then 10 else 11) else (if c then 12 else 13))]?).getD true
  | _ => true
theorem fourteen {v : List Bool} (h : v.length = 14) : ∃ a b c d e f g i j k l m n o, v = [a, b, c, d, e, f, g, i, j, k, l, m, n, o] := by
  match v, h with
  | [a, b, c, d, e, f, g, i, j, k, l, m, n, o], _ => exact ⟨a, b, c, d, e, f, g, i, j, k, l, m, n, o, rfl⟩
theorem T14_eq : T14 = [[true], [false], [true, true], [true, false], [false, true], [false, false], [true, true, true], [true, true, false], [true, false, true], [true, false, false], [false, true, true], [false, true, false], [false, false, true], [false, false, false]] := by decide +kernel
def exE (w : List Bool) : List Bool := [w[0]?.getD true, !(w[0]?.getD true), w[1]?.getD true, w[2]?.getD true, !(w[2]?.getD true), !(w[1]?.getD true), w[3]?.getD true, w[4]?.getD true, w[5]?.getD true, w[6]?.getD true, !(w[6]?.getD true), !(w[5]?.getD true), !(w[4]?.getD true), !(w[3]?.getD true)]
def exR (w : List Bool) : List Bool := [w[0]?.getD true, w[1]?.getD true, w[0]?.getD true, w[2]?.getD true, w[3]?.getD true, w[1]?.getD true, w[0]?.getD true, w[2]?.getD true, w[4]?.getD true, w[2]?.getD true, w[3]?.getD true, w[5]?.getD true, w[3]?.getD true, w[1]?.getD true]
def exM (w : List Bool) : List Bool := [true, false, true, w[0]?.getD true, w[1]?.getD true, false, true, true, true, false, true, false, false, false]
def exP (w : List Bool) : List Bool := w ++ (rws 3).map fun bs => tv w [tv w (bs.take 1), tv w (bs.drop 1)]
theorem any_no {α : Type} {p : α → Bool} {l : List α} (h : (!l.any p) = true) {x : α} (hx : x ∈ l) : p x = false := by
  cases e : p x with
  | false => rfl
  | true =>
    have : l.any p = true := List.any_eq_true.mpr ⟨x, hx, e⟩
    rw [this] at h
    cases h
theorem in14 {bs : List Bool} (h : decide (bs ∈ [[true], [false], [true, true], [true, false], [false, true], [false, false], [true, true, true], [true, true, false], [true, false, true], [true, false, false], [false, true, true], [false, true, false], [false, false, true], [false, false, false]]) = true) : bs ∈ T14 := by
  rw [T14_eq]
  exact of_decide_eq_true h
theorem ne_not {a b : Bool} (h : (a == b) = false) : a = !b := by cases a <;> cases b <;> first | rfl | cases h
theorem v_even {v : List Bool} (hv : v.length = 14) (h : ckB T14 (tv v) 1 = true) : ∃ w ∈ rws 7, v = exE w := by
  obtain ⟨a, b, c, d, e, f, g, i, j, k, l, m, n, o, rfl⟩ := fourteen hv
  have h1 := ne_not (show (b == a) = false from any_no h (x := [true]) (in14 rfl))
  have h2 := ne_not (show (f == c) = false from any_no h (x := [true, true]) (in14 rfl))
  have h3 := ne_not (show (e == d) = false from any_no h (x := [true, false]) (in14 rfl))
  have h4 := ne_not (show (o == g) = false from any_no h (x := [true, true, true]) (in14 rfl))
  have h5 := ne_not (show (n == i) = false from any_no h (x := [true, true, false]) (in14 rfl))
  have h6 := ne_not (show (m == j) = false from any_no h (x := [true, false, true]) (in14 rfl))
  have h7 := ne_not (show (l == k) = false from any_no h (x := [true, false, false]) (in14 rfl))
  subst h1 h2 h3 h4 h5 h6 h7
  exact ⟨[a, c, d, g, i, j, k], all_rws _, rfl⟩
theorem ne_same {a b : Bool} (h : (a != b) = false) : a = b := by cases a <;> cases b <;> first | rfl | cases h
theorem v_most {v : List Bool} (hv : v.length = 14) (h : ckB T14 (tv v) 6 = true) : ∃ w ∈ rws 2, v = exM w := by
  obtain ⟨a, b, c, d, e, f, g, i, j, k, l, m, n, o, rfl⟩ := fourteen hv
  have h1 := ne_same (show (a != true) = false from any_no h (x := [true]) (in14 rfl))
  have h2 := ne_same (show (b != false) = false from any_no h (x := [false]) (in14 rfl))
  have h3 := ne_same (show (c != true) = false from any_no h (x := [true, true]) (in14 rfl))
  have h4 := ne_same (show (f != false) = false from any_no h (x := [false, false]) (in14 rfl))
  have h5 := ne_same (show (g != true) = false from any_no h (x := [true, true, true]) (in14 rfl))
  have h6 := ne_same (show (i != true) = false from any_no h (x := [true, true, false]) (in14 rfl))
  have h7 := ne_same (show (j != true) = false from any_no h (x := [true, false, true]) (in14 rfl))
  have h8 := ne_same (show (k != false) = false from any_no h (x := [true, false, false]) (in14 rfl))
  have h9 := ne_same (show (l != true) = false from any_no h (x := [false, true, true]) (in14 rfl))
  have h10 := ne_same (show (m != false) = false from any_no h (x := [false, true, false]) (in14 rfl))
  have h11 := ne_same (show (n != false) = false from any_no h (x := [false, false, true]) (in14 rfl))
  have h12 := ne_same (show (o != false) = false from any_no h (x := [false, false, false]) (in14 rfl))
  subst h1 h2 h3 h4 h5 h6 h7 h8 h9 h10 h11 h12
  exact ⟨[d, e], all_rws _, rfl⟩
def allK (v : List Bool) (ps : List Nat) : Bool := ps.all fun p => ckB T14 (tv v) p
end C
set_option Elab.async false
set_option linter.all false
set_option maxRecDepth 100000
set_option maxHeartbeats 1000000
namespace C
open PySem PySem.Spec PyProof.Rows L2 DL
variable {Γ : Cfg}
def pS (p : Nat) : D := .str (pmn p)
def pT (ps : List Nat) : D := .tup (ps.map pS)
def KW (ps : List Nat) : List Nat := (List.range 13).filter fun i => ps.all (kI i)
end C
set_option Elab.async false
set_option linter.all false
set_option maxRecDepth 100000
set_option maxHeartbeats 1000000
namespace C
open PySem PySem.Spec PyProof.Rows L2 DL
variable {Γ : Cfg}
def stp (acc : List (List Nat)) (g : List Nat) : List (List Nat) := if (!good g && !(acc.any fun f => lies f g)) = true then acc ++ [g] else acc
def LCs (ps : List Nat) (n : Nat) (acc : List (List Nat)) : List (List Nat) := (List.range n).foldl (fun acc s => (cmb (s + 1) ps).foldl stp acc) acc
def LC (ps : List Nat) : List (List Nat) := LCs ps ps.length []
end C
set_option Elab.async false
set_option linter.all false
set_option maxRecDepth 100000
set_option maxHeartbeats 1000000
namespace C
open PySem PySem.Spec PyProof.Rows L2 DL
variable {Γ : Cfg}
def mor : List (List Bool) → Nat → List (List Bool)
  | L, 0 => L
  | L, n + 1 => mor (L.flatMap two) n
theorem two_cons (b : Bool) (v : List Bool) : two (b :: v) = (two v).map (b :: ·) := rfl
theorem flat_two_cons (b : Bool) (L : List (List Bool)) : (L.map (b :: ·)).flatMap two = (L.flatMap two).map (b :: ·) := by
  induction L with
  | nil => rfl
  | cons v L ih => rw [List.map_cons, List.flatMap_cons, List.flatMap_cons, List.map_append, ih, two_cons]
theorem rws_cons : ∀ n, rws (n + 1) = (rws n).map (true :: ·) ++ (rws n).map (false :: ·)
  | 0 => rfl
  | n + 1 => by
    show (rws (n + 1)).flatMap two = _
    conv => lhs; rw [rws_cons n, List.flatMap_append, flat_two_cons, flat_two_cons]
    rfl
theorem mor_eq : ∀ (n : Nat) (L : List (List Bool)), mor L n = L.flatMap fun v => (rws n).map (v ++ ·)
  | 0, L => by
    unfold mor rws
    induction L with
    | nil => rfl
    | cons v L ih => rw [List.flatMap_cons, ← ih]; simp
  | n + 1, L => by
    unfold mor
    rw [mor_eq n]
    induction L with
    | nil => rfl
    | cons v L ih =>
      rw [List.flatMap_cons, List.flatMap_append, List.flatMap_cons, ih, rws_cons, List.map_append]
      congr 1
      show ([v ++ [true], v ++ [false]] : List (List Bool)).flatMap _ = _
      rw [List.flatMap_cons, List.flatMap_cons, List.flatMap_nil, List.append_nil, List.map_map, List.map_map]
      congr 1 <;> exact List.map_congr_left fun u _ => by simp
theorem wm_step {L : List (List Bool)} (hl : L.length ≤ 65536) (hb : ∀ v ∈ L, v.length ≤ 100) {x0 x1 x3 : Option Sl} :
    (eLc2 4 5 (iS (eV 2)) (iS (eC w_VOICES)) (tYesD) (e2 (op2 addD) (eV 4) (eTup [eV 5]))) [x0, x1, some (.val (.lst (L.map rowT))), x3, none, none] = mpure (.lst ((L.flatMap two).map rowT)) := by
  have e : comp2L 256 4 5 (iS (eC w_VOICES)) (tYesD) (e2 (op2 addD) (eV 4) (eTup [eV 5])) (L.map rowT) [x0, x1, some (.val (.lst (L.map rowT))), x3, none, none] = mpure (L.flatMap fun v => (two v).map rowT) :=
    comp2_map (g := rowT) (ks := fun _ => [D.str (vc true), .str (vc false)]) (es := fun v => (two v).map rowT) fun v hv => ⟨rfl, by show 2 ≤ 256; decide, WP_pure_of fun z => by
      have hv := hb v hv
      have a1 : ∀ b : Bool, addD (.tup (vs v)) (.tup [.str (vc b)]) = some (rowT (v ++ [b])) := fun b => add_vs (a := v) (b := [b]) (by show v.length + 1 ≤ _; omega)
      show WP (compL 5 tYesD _ [D.str (vc true), .str (vc false)] [x0, x1, some (.val (.lst (L.map rowT))), x3, some (.val (rowT v)), none]) z _
      rw [compL_cons, tYes_ev, if_pos rfl, e2_ev]
      simp only [List.set_cons_succ, List.set_cons_zero, eV_succ, eV_zero, WP_pure, eTup_ev, evs_cons, evs_nil, op2_ev, rowT, a1, WP_some]
      rw [compL_cons, tYes_ev, if_pos rfl, e2_ev]
      simp only [List.set_cons_succ, List.set_cons_zero, eV_succ, eV_zero, WP_pure, eTup_ev, evs_cons, evs_nil, op2_ev, rowT, a1, WP_some, compL_nil]
      first | exact ⟨rfl, rfl⟩ | exact ⟨trivial, rfl⟩ | exact ⟨rfl, trivial⟩ | exact ⟨trivial, trivial⟩⟩
  refine WP_pure_of fun z => ?_
  unfold eLc2
  rw [WP_bind, iS_ev, eV_succ, eV_succ, eV_zero, WP_pure, iterD_lst, WP_some, WP_ite, if_pos ⟨by rw [List.length_map]; exact hl, rfl, rfl⟩, WP_bind, e, WP_pure, WP_pure]
  refine ⟨?_, rfl⟩
  congr 1
  clear e
  induction L with
  | nil => rfl
  | cons v L ih => rw [List.flatMap_cons, List.flatMap_cons, List.map_append, ih (by rw [List.length_cons] at hl; omega) (fun u hu => hb u (List.mem_cons_of_mem _ hu))]
theorem two_lens {L : List (List Bool)} {n : Nat} (h : ∀ v ∈ L, v.length = n) : ∀ v ∈ L.flatMap two, v.length = n + 1 := fun v hv => by
  obtain ⟨u, hu, hv⟩ := List.mem_flatMap.mp hv
  have := h u hu
  unfold two at hv
  simp only [List.mem_cons, List.not_mem_nil, or_false] at hv
  rcases hv with rfl | rfl <;> simp [this]
theorem wm_loop {x0 x1 : Option Sl} {z : S} {Qr : D → S → Prop} : ∀ (ks : List D) (L : List (List Bool)) (n : Nat) (y3 : Option D), (∀ v ∈ L, v.length = n) → n + ks.length ≤ 50 → L.length * 2 ^ ks.length ≤ 65536 →
    WS (forD 3 (sSet 2 (eLc2 4 5 (iS (eV 2)) (iS (eC w_VOICES)) (tYesD) (e2 (op2 addD) (eV 4) (eTup [eV 5])))) ks [x0, x1, some (.val (.lst (L.map rowT))), y3.map .val, none, none] z)
      (fun ρ z' => z' = z ∧ ∃ o : Option D, ρ = [x0, x1, some (.val (.lst ((mor L ks.length).map rowT))), o.map .val, none, none]) Qr
  | [], L, n, y3, _, _, _ => ⟨rfl, y3, rfl⟩
  | k :: ks, L, n, y3, hv, hn, hl => by
    rw [List.length_cons] at hn hl ⊢
    have hp := Nat.one_le_two_pow (n := ks.length)
    rw [Nat.pow_succ] at hl
    have hl2 : L.length ≤ 65536 := by
      have : L.length * 1 ≤ L.length * (2 ^ ks.length * 2) := Nat.mul_le_mul_left _ (by omega)
      omega
    refine forD_cons (by cases y3 <;> rfl) ?_
    simp only [List.set_cons_succ, List.set_cons_zero]
    rw [sSet_ev, wm_step hl2 (fun v h => by rw [hv v h]; omega), WP_pure, if_neg (by simp [ownAt_succ])]
    simp only [List.set_cons_succ, List.set_cons_zero]
    exact wm_loop ks (L.flatMap two) (n + 1) (some k) (two_lens hv) (by omega) (by rw [two_len, Nat.mul_assoc, Nat.mul_comm, Nat.mul_assoc]; exact hl)
theorem with_more_ok {L : List (List Bool)} {n k : Nat} (hv : ∀ v ∈ L, v.length = n) (hn : n + k ≤ 50) (hl : L.length * 2 ^ k ≤ 65536) : F_with_more Γ [.lst (L.map rowT), .int (k : Int)] = mpure (.lst ((mor L k).map rowT)) := WP_pure_of fun z => by
  have er : (rangeD 0 (k : Int).toNat).length = k := by simp [rangeD]
  unfold F_with_more B_with_more
  rw [run_ev, show rho0 6 [D.lst (L.map rowT), .int (k : Int)] = [some (.val (.lst (L.map rowT))), some (.val (.int (k : Int))), none, none, none, none] from rfl, sSeq_ev, sSet_ev, e1_ev, eV_zero, WP_pure, op1_ev, show listD (.lst (L.map rowT)) = some (.lst (L.map rowT)) from rfl, WP_some, if_neg (by simp [ownAt_succ])]
  simp only [List.set_cons_succ, List.set_cons_zero]
  rw [sSeq_ev, sFor_ev, iR1_ev, eV_succ, eV_zero, WP_pure, asI_int, WP_some, if_pos (by omega)]
  refine WS_mono (wm_loop _ L n none hv (by rw [er]; exact hn) (by rw [er]; exact hl)) fun ρ z' ⟨ez, o, e⟩ => ?_
  subst ez e
  rw [er, sRet_ev, eV_succ, eV_succ, eV_zero, WP_pure]
  exact ⟨rfl, rfl⟩
def TR (m : Nat) : List (List Bool) := T14.take (2 ^ (m + 1) - 2)
def PL (W : List Nat) : Nat → List (List Bool)
  | 0 => [[]]
  | m + 1 => (mor (PL W m) (2 ^ (m + 1))).filter fun v => W.all fun p => ckB (TR (m + 1)) (tv v) p
section
variable {W : List Nat} (hW : ∀ p ∈ W, p < 10 ∧ Γ.ck (33 + p) = true) (hWl : W.length ≤ 10)
include hW hWl
end
end C
set_option Elab.async false
set_option linter.all false
set_option maxRecDepth 100000
set_option maxHeartbeats 1000000
namespace C
open PySem PySem.Spec PyProof.Rows L2 DL
variable {Γ : Cfg}
theorem in_voice (b : Bool) : inD (.str (vc b)) w_VOICES = some (.bl true) := by
  show inD (.str (vc b)) (.tup (([true, false].map vc).map .str)) = _
  rw [inD_tup (okS_vc b) (ok_vs [true, false])]
  cases b <;> rfl
theorem big_all {v : List Bool} (hv : v.length = 6) : v ++ (T14.drop 6).map (bp (fv v)) = T14.map (big (fv v)) := by
  obtain ⟨a, b, c, d, e, f, rfl⟩ := six hv
  rw [T14_eq]
  rfl
theorem drop_ne : ∀ bs ∈ T14.drop 6, bs ≠ [] := by decide +kernel
theorem is_parts_ok {v : List Bool} (hv : v.length = 6) (hc : Γ.ck 41 = true) : F_is_parts Γ [.tup (vs v)] = mpure (.bl (isP v)) := WP_pure_of fun z => by
  have ht : isiD ["tuple"] (.tup (vs v)) = some (.bl true) := rfl
  have ea : stopL false 2 tYesD (e2 (op2 inD) (eV 2) (eC w_VOICES)) (vs v) [some (.val (.tup (vs v))), none, none, none] = mpure true := by
    have := all_map (g := fun b => D.str (vc b)) (i := 2) (f := e2 (op2 inD) (eV 2) (eC w_VOICES)) (fb := fun _ => true) (ρ := [some (.val (.tup (vs v))), none, none, none]) (l := v) fun b _ => WP_pure_of fun z => by
      simp only [List.set_cons_succ, List.set_cons_zero, e2_ev, eV_succ, eV_zero, WP_pure, eC_ev, op2_ev, in_voice, WP_some]
      exact ⟨trivial, trivial⟩
    exact this.trans (congrArg mpure (List.all_eq_true.mpr fun _ _ => rfl))
  have es : slD w_SMALL_ROWS (some (6 : Int)) none = some (.tup ((T14.drop 6).map rowT)) := by
    rw [w_rows, slD_tup, cutL_lo (by omega), ← List.map_drop]
    rfl
  have ec : compL 3 tYesD (eCall (F_by_parts Γ) [eV 0, eV 3]) ((T14.drop 6).map rowT) [some (.val (.tup (vs v))), none, none, none] = mpure (vs ((T14.drop 6).map (bp (fv v)))) := by
    have := compL_map (g := rowT) (l := T14.drop 6) (i := 3) (t := tYesD) (f := eCall (F_by_parts Γ) [eV 0, eV 3]) (ρ := [some (.val (.tup (vs v))), none, none, none]) (tb := fun _ => true) (fb := fun bs => D.str (vc (bp (fv v) bs))) fun bs hb => ⟨rfl, fun _ => WP_pure_of fun z => by
      simp only [List.set_cons_succ, List.set_cons_zero, eCall_ev, evs_cons, evs_nil, eV_succ, eV_zero, WP_pure, rowT, by_parts_ok hv (drop_ne bs hb)]
      exact ⟨trivial, trivial⟩⟩
    rw [this, List.filter_eq_self.mpr fun _ _ => rfl]
    unfold vs
    rw [List.map_map] <;> rfl
  have ek := keeps_all_ok (Γ := Γ) (R := T14) (F := big (fv v)) T14_R (by decide) (n := 14) (by decide +kernel) (ps := [8]) (fun p hp => by
    rw [List.mem_singleton.mp hp]
    exact ⟨by decide, hc⟩) (by decide)
  have ev : (!([8] : List Nat).any fun p => !ckB T14 (big (fv v)) p) = isP v := by
    show (!(!ckB T14 (big (fv v)) 8 || false)) = isP v
    rw [Bool.or_false, Bool.not_not]
    rfl
  have ad : addD (.tup (vs v)) (.tup (vs ((T14.drop 6).map (bp (fv v))))) = some (.tup (vs (T14.map (big (fv v))))) := by
    rw [add_vs (by rw [hv, List.length_map, List.length_drop, T14_len]; decide), big_all hv]
  unfold F_is_parts B_is_parts
  rw [run_ev, show rho0 4 [D.tup (vs v)] = [some (.val (.tup (vs v))), none, none, none] from rfl, sSeq_ev, sIf_ev, tOr_ev, tNot_ev, tV_ev, e1_ev, eV_zero, WP_pure, op1_ev, ht, WP_some, asB_bl, WP_some, if_neg (by decide), tV_ev, e2_ev, e1_ev, eV_zero, WP_pure, op1_ev, lenD_tup, WP_some, eC_ev, WP_pure, op2_ev, neD_int, WP_some, asB_bl, WP_some, if_neg (by rw [vs_len, hv]; decide), sNil_ev,
    sSeq_ev, sIf_ev, tNot_ev, tV_ev, eStopG_ev, iS_ev, eV_zero, WP_pure, iterD_tup, WP_some, if_pos (show ownAt [some (Sl.val (D.tup (vs v))), none, none, none] 2 = false from rfl), ea, WP_pure, asB_bl, WP_some, if_neg (by decide), sNil_ev,
    sSeq_ev, sSet_ev, e2_ev, eV_zero, WP_pure, eTupG_ev, iS_ev, eSl_ev, eC_ev, WP_pure, pSo_ev, eC_ev, WP_pure, asI_int]
  simp only [WP_some, Option.map_some, pNo_ev, es, iterD_tup]
  rw [if_pos ⟨by rw [sizeLine_eq, List.length_map, List.length_drop, T14_len]; decide, rfl⟩, ec, WP_pure, op2_ev, ad, WP_some, if_neg (by simp [ownAt_succ])]
  simp only [List.set_cons_succ, List.set_cons_zero]
  rw [sRet_ev, eCall_ev, evs_cons, eV_succ, eV_zero, WP_pure, evs_cons, eTup_ev, evs_cons, eC_ev, WP_pure, evs_nil, evs_nil]
  rw [show D.tup [.str [112, 97, 114, 116, 115]] = .tup (([8] : List Nat).map fun p => .str (pmn p)) from rfl, ek, WP_pure, ev]
  exact ⟨rfl, rfl⟩
theorem SIX_in {v : List Bool} (h : v ∈ SIX) : v ∈ rws 6 ∧ v.length = 6 ∧ wh (fv v) = true ∧ isP v = true := by
  obtain ⟨h1, h2⟩ := List.mem_filter.mp h
  exact ⟨h1, rws_mem h1, h2, by rw [isP_wh v h1]; exact h2⟩
theorem parts_ways_ok (hc : Γ.ck 41 = true) : F_parts_ways Γ [] = mpure (.tup (SIX.map rowT)) := WP_pure_of fun z => by
  have hm : mor [[]] 6 = rws 6 := by rw [mor_eq]; simp
  have hw := with_more_ok (Γ := Γ) (L := [[]]) (n := 0) (k := 6) (fun v hv => by rw [List.mem_singleton.mp hv]; rfl) (by decide) (by decide)
  rw [hm] at hw
  have e : compL 0 (tV (eCall (F_is_parts Γ) [eV 0])) (eV 0) ((rws 6).map rowT) [none] = mpure (SIX.map rowT) := by
    have := compL_map (g := rowT) (l := rws 6) (i := 0) (t := tV (eCall (F_is_parts Γ) [eV 0])) (f := eV 0) (ρ := [none]) (tb := isP) (fb := rowT) fun v hv => ⟨WP_pure_of fun z => by
      simp only [List.set_cons_succ, List.set_cons_zero, tV_ev, eCall_ev, evs_cons, evs_nil, eV_succ, eV_zero, WP_pure, rowT, is_parts_ok (rws_mem hv) hc, asB_bl, WP_some]
      exact ⟨trivial, trivial⟩, fun _ => rfl⟩
    rw [this, show (rws 6).filter isP = SIX from List.filter_congr fun v hv => isP_wh v hv]
  unfold F_parts_ways B_parts_ways
  rw [run_ev, show rho0 1 ([] : List D) = [none] from rfl, sRet_ev, eTupG_ev, iS_ev, eCall_ev, evs_cons, eLst_ev, evs_cons, eTup_ev, evs_nil, evs_nil, evs_cons, eC_ev, WP_pure, evs_nil]
  rw [show D.lst [.tup []] = .lst (([[]] : List (List Bool)).map rowT) from rfl, show D.int 6 = .int ((6 : Nat) : Int) from rfl, hw, WP_pure, iterD_lst, WP_some, if_pos ⟨by rw [sizeLine_eq, List.length_map, rws_len]; decide, rfl⟩, e, WP_pure]
  exact ⟨rfl, rfl⟩
theorem parts_answer_ok {v bs : List Bool} (hv : v.length = 6) (hp : isP v = true) (h0 : bs ≠ []) (h1 : bs.length ≤ 12) (hc : Γ.ck 41 = true) : F_parts_answer Γ [.tup (vs v), .tup (vs bs)] = mpure (.str (vc (bp (fv v) bs))) := WP_pure_of fun z => by
  unfold F_parts_answer B_parts_answer
  rw [run_ev, show rho0 2 [D.tup (vs v), .tup (vs bs)] = [some (.val (.tup (vs v))), some (.val (.tup (vs bs)))] from rfl, sSeq_ev, sIf_ev, tNot_ev, tV_ev, eCall_ev, evs_cons, eV_zero, WP_pure, evs_nil, is_parts_ok hv hc, WP_pure, asB_bl, WP_some, hp, if_neg (by decide), sNil_ev, sSeq_ev, sEx_ev, eCall_ev, evs_cons, eV_succ, eV_zero, WP_pure, evs_nil, check_row_ok h0 h1, WP_pure,
    sRet_ev, eCall_ev, evs_cons, eV_zero, WP_pure, evs_cons, eV_succ, eV_zero, WP_pure, evs_nil, by_parts_ok hv h0, WP_pure]
  exact ⟨rfl, rfl⟩
theorem parts_answer_bad {d e : D} {z : S} (hE : Γ.E "NotParts" = true) (h : F_is_parts Γ [d] = mpure (.bl false)) : F_parts_answer Γ [d, e] z = .exc ⟨"NotParts", none⟩ z := by
  refine run_exc ?_
  rw [show rho0 2 [d, e] = [some (.val d), some (.val e)] from rfl]
  unfold B_parts_answer
  refine sSeq_exc ?_
  rw [sIf_true, rz_exc hE]
  rw [tNot_ev, tV_ev, eCall_ev, evs_cons, eV_zero, WP_pure, evs_nil, h, WP_pure, asB_bl, WP_some]
  exact ⟨rfl, rfl⟩
end C
set_option Elab.async false
set_option linter.all false
set_option maxRecDepth 100000
set_option maxHeartbeats 1000000
namespace C
open PySem PySem.Spec PyProof.Rows L2 DL
variable {Γ : Cfg}
theorem alike_rows {n : Nat} {L : List (List Bool)} (h : L.length ≤ 1000) (hb : ∀ v ∈ L, v.length ≤ 1000) : F_law_alike Γ (n + 3) [.tup (L.map rowT), .tup (L.map rowT)] = mpure (.bl true) := WP_pure_of fun z => by
  have e : compL 2 (tNot (tV (eCall (F_law_alike Γ (n + 2)) [e2 (op2 ixA) (eV 0) (eV 2), e2 (op2 ixA) (eV 1) (eV 2)]))) (eV 2) (rangeD 0 L.length) [some (.val (.tup (L.map rowT))), some (.val (.tup (L.map rowT))), none] = mpure [] := by
    rw [compL_range (tb := fun _ => false) (fb := fun k => .int k) fun k hk => ⟨WP_pure_of fun z => ?_, fun h => by cases h⟩]
    · rw [List.filter_eq_nil_iff.mpr (by simp)]; rfl
    · have e1 : atI (L.map rowT) (k : Int) = some (.tup (vs L[k])) := by
        rw [atI_pos (by omega), Int.toNat_natCast, List.getElem?_map, List.getElem?_eq_getElem hk]; rfl
      have e2 := alike_vs (Γ := Γ) (n := n) (hb _ (List.getElem_mem hk))
      simp [e1, e2]
  have e2 : eqD (.lst []) (.lst []) = some (.bl true) := rfl
  rw [show F_law_alike Γ (n + 3) = runD 3 (B_law_alike Γ (F_law_alike Γ (n + 2))) from rfl]
  have e3 : neD (.bl false) (.bl false) = some (.bl false) := rfl
  simp [B_law_alike, rho0, isiD, tyD, isK, isNonD, e, e2, e3]
  refine ⟨by omega, by simp [rangeD, sizeLine_eq]; omega⟩
/-- told, six answers -/
abbrev D6 (F : List Bool → Bool) : D := .dS (tab (fT F) T6)
theorem at6 {F : List Bool → Bool} {bs : List Bool} (h : bs ∈ T6) : ixA (D6 F) (.str (txt bs)) = some (.str (txt [F bs])) := by
  show getS (tab (fT F) T6) (txt bs) = _
  rw [tab_get h]
  rfl
theorem at6_1 {F : List Bool → Bool} (x : Bool) : ixA (D6 F) (.str (txt [x])) = some (.str (txt [F [x]])) := at6 (in6_1 x)
theorem at6_2 {F : List Bool → Bool} (x y : Bool) : ixA (D6 F) (.str (txt [x, y])) = some (.str (txt [F [x, y]])) := at6 (in6_2 x y)
theorem ad11 (x y : Bool) : addD (.str (txt [x])) (.str (txt [y])) = some (.str (txt [x, y])) := add_txt (a := [x]) (b := [y]) (by show 1 + 1 ≤ 1000; decide)
theorem rws2 {t : List Bool} (h : t ∈ rws 2) : ∃ x y, t = [x, y] := by
  match t, rws_mem h with
  | [x, y], _ => exact ⟨x, y, rfl⟩
theorem rws3 {t : List Bool} (h : t ∈ rws 3) : ∃ x y z, t = [x, y, z] := by
  match t, rws_mem h with
  | [x, y, z], _ => exact ⟨x, y, z, rfl⟩
def Iw (F : List Bool → Bool) (ρ : EnD) : Prop := ∃ a : Option D, ρ = [some (.val (D6 F)), a.map .val]
theorem at_txt {bs : List Bool} {k : Int} {n : Nat} (hk : k = (n : Int)) (h : n < bs.length) (hl : bs.length ≤ 1000) : ixA (.str (txt bs)) (.int k) = some (.str (txt [bs[n]?.getD true])) := by
  subst hk
  exact txt_at h hl
theorem is_whole_ok {F : List Bool → Bool} : F_law_is_whole Γ [D6 F] = mpure (.bl (wh F)) := asP fun z => by
  have h2 : F_law_rows Γ [.int 2] = mpure (.lst ((rws 2).map strT)) := rows_ok (by decide) (by decide)
  have h3 : F_law_rows Γ [.int 3] = mpure (.lst ((rws 3).map strT)) := rows_ok (by decide) (by decide)
  unfold B_law_is_whole
  rw [show rho0 2 [D6 F] = [some (.val (D6 F)), none] from rfl, sSeq_ev, sFor_ev, iS_ev, eCall_ev, evs_cons, eC_ev, WP_pure, evs_nil, h2, WP_pure, iterD_lst, WP_some]
  refine WS_imp (for_find (g := strT) (flt := w2 F) (P := Iw F) (z := z) (fun ρ ⟨a, e⟩ => by subst e; cases a <;> rfl) (l := rws 2) (fun t ht ρ ⟨a, e⟩ => by
    subst e
    obtain ⟨x, y, rfl⟩ := rws2 ht
    have i0 : ixA (.str (txt [x, y])) (.int 0) = some (.str (txt [x])) := at_txt (n := 0) rfl (by simp) (by simp)
    have i1 : ixA (.str (txt [x, y])) (.int 1) = some (.str (txt [y])) := at_txt (n := 1) rfl (by simp) (by simp)
    have en : neD (.str (txt [F [x, y]])) (.str (txt [F [F [x], F [y]]])) = some (.bl (w2 F [x, y])) := sg_ne _ _
    simp only [List.set_cons_succ, List.set_cons_zero, sIf_ev, tV_ev, e2_ev, eV_succ, eV_zero, WP_pure, eC_ev, op2_ev, strT, i0, i1, at6_1, at6_2, ad11, en, WP_some, asB_bl]
    cases w2 F [x, y]
    · rw [if_neg (by decide), sNil_ev]
      exact ⟨rfl, ⟨some _, rfl⟩, rfl⟩
    · rw [if_pos (by rfl), sRet_ev, eC_ev, WP_pure]
      exact ⟨rfl, rfl, rfl⟩) ⟨none, rfl⟩) (fun ρ z' ⟨c, hI, ez⟩ => ?_) (fun d z' ⟨c, ed, ez⟩ => ?_)
  · subst ez
    have c2 : (rws 2).any (w2 F) = false := c
    obtain ⟨a, e⟩ := hI
    subst e
    rw [sSeq_ev, sFor_ev, iS_ev, eCall_ev, evs_cons, eC_ev, WP_pure, evs_nil, h3, WP_pure, iterD_lst, WP_some]
    refine WS_imp (for_find (g := strT) (flt := w3 F) (P := Iw F) (z := z') (fun ρ ⟨a, e⟩ => by subst e; cases a <;> rfl) (l := rws 3) (fun t ht ρ ⟨a, e⟩ => by
      subst e
      obtain ⟨x, y, u, rfl⟩ := rws3 ht
      have i0 : ixA (.str (txt [x, y, u])) (.int 0) = some (.str (txt [x])) := at_txt (n := 0) rfl (by simp) (by simp)
      have i2 : ixA (.str (txt [x, y, u])) (.int 2) = some (.str (txt [u])) := at_txt (n := 2) rfl (by simp) (by simp)
      have s0 : slD (.str (txt [x, y, u])) none (some (2 : Int)) = some (.str (txt [x, y])) := by
        rw [sl_txt (by simp), show (2 : Int) = ((2 : Nat) : Int) from rfl, tcut_hi]; rfl
      have s1 : slD (.str (txt [x, y, u])) (some (1 : Int)) none = some (.str (txt [y, u])) := by
        rw [sl_txt (by simp), show (1 : Int) = ((1 : Nat) : Int) from rfl, tcut_lo]; rfl
      have en : neD (.str (txt [F [F [x, y], F [u]]])) (.str (txt [F [F [x], F [y, u]]])) = some (.bl (w3 F [x, y, u])) := sg_ne _ _
      simp only [List.set_cons_succ, List.set_cons_zero, sIf_ev, tV_ev, e2_ev, eV_succ, eV_zero, WP_pure, eC_ev, eSl_ev, pNo_ev, pSo_ev, asI_int, Option.map_some, op2_ev, strT, i0, i2, s0, s1, at6_1, at6_2, ad11, en, WP_some, asB_bl]
      cases w3 F [x, y, u]
      · rw [if_neg (by decide), sNil_ev]
        exact ⟨rfl, ⟨some _, rfl⟩, rfl⟩
      · rw [if_pos (by rfl), sRet_ev, eC_ev, WP_pure]
        exact ⟨rfl, rfl, rfl⟩) ⟨a, rfl⟩) (fun ρ z'' ⟨c, hI, ez⟩ => ?_) (fun d z'' ⟨c, ed, ez⟩ => ?_)
    · subst ez
      have c3 : (rws 3).any (w3 F) = false := c
      rw [sRet_ev, eC_ev, WP_pure]
      unfold wh
      rw [c2, c3]
      exact ⟨rfl, rfl⟩
    · have c3 : (rws 3).any (w3 F) = true := c
      unfold wh
      rw [c2, c3]
      exact ⟨ed, ez⟩
  · have c2 : (rws 2).any (w2 F) = true := c
    unfold wh
    rw [c2]
    exact ⟨ed, ez⟩
theorem by_parts_law {v : List Bool} (hv : v ∈ rws 6) (hw : wh (fv v) = true) : ∀ (n : Nat) (bs : List Bool) (z : S), Good z → bs ≠ [] → bs.length ≤ n → n ≤ 12 →
    WP (F_law_by_parts Γ n [D6 (fv v), .str (txt bs), .row]) z fun d z' => d = .str [sg (bp (fv v) bs)] ∧ Good z'
  | 0, bs, z, _, h0, hl, _ => absurd (List.length_eq_zero_iff.mp (Nat.le_zero.mp hl)) h0
  | n + 1, bs, z, g, h0, hl, hn => by
    have hp := List.length_pos_iff.mpr h0
    rw [show F_law_by_parts Γ (n + 1) = runD 4 (B_law_by_parts Γ (F_law_by_parts Γ n)) from rfl]
    unfold B_law_by_parts
    rw [run_ev, show rho0 4 [D6 (fv v), D.str (txt bs), D.row] = [some (.val (D6 (fv v))), some (.val (.str (txt bs))), some (.val .row), none] from rfl, sSeq_ev, sIf_ev, tV_ev, e2_ev, e1_ev, eV_succ, eV_zero, WP_pure, op1_ev, lenD_str (by rw [txt_len]; omega), WP_some, eC_ev, WP_pure, op2_ev, ltD_int, WP_some, asB_bl, WP_some, txt_len]
    by_cases c : bs.length < 2
    · rw [if_pos (by simp; omega), sRet_ev, e2_ev]
      match bs, h0, c with
      | [x], _, _ =>
        simp only [eV_succ, eV_zero, WP_pure, op2_ev, at6_1, WP_some]
        exact ⟨rfl, g⟩
    · rw [if_neg (by simp; omega), sNil_ev, sSeq_ev, sSet_ev, e2_ev, eC_ev, WP_pure, eCall_ev, evs_cons, eV_succ, eV_succ, eV_zero, WP_pure, evs_cons, e2_ev, e1_ev, eV_succ, eV_zero, WP_pure, op1_ev, lenD_str (by rw [txt_len]; omega), WP_some, eC_ev, WP_pure, op2_ev, subD_int, WP_some, evs_nil, txt_len]
      refine WP_mono (taken_ok g (by omega) (by omega)) fun d z2 ⟨k, e, k0, k1, g2⟩ => ?_
      subst e
      obtain ⟨j, hj⟩ : ∃ j : Nat, (1 : Int) + k = (j : Int) := ⟨(1 + k).toNat, by omega⟩
      rw [op2_ev, addD_int, WP_some, hj, if_neg (by simp [ownAt_succ])]
      simp only [List.set_cons_succ, List.set_cons_zero]
      have j1 : 1 ≤ j := by omega
      have j2 : j < bs.length := by omega
      have c1 : slD (.str (txt bs)) none (some (j : Int)) = some (.str (txt (bs.take j))) := by rw [sl_txt (by omega), tcut_hi]
      have c2 : slD (.str (txt bs)) (some (j : Int)) none = some (.str (txt (bs.drop j))) := by rw [sl_txt (by omega), tcut_lo]
      have n1 : bs.take j ≠ [] := fun e => by have := congrArg List.length e; rw [List.length_take, List.length_nil] at this; omega
      have n2 : bs.drop j ≠ [] := fun e => by have := congrArg List.length e; rw [List.length_drop, List.length_nil] at this; omega
      rw [sRet_ev, e2_ev, eV_zero, WP_pure, e2_ev, eCall_ev, evs_cons, eV_zero, WP_pure, evs_cons, eSl_ev]
      simp only [eV_succ, eV_zero, WP_pure, pNo_ev, pSo_ev, asI_int, Option.map_some, WP_some, c1, evs_cons, evs_nil]
      refine WP_mono (by_parts_law hv hw n (bs.take j) z2 g2 n1 (by rw [List.length_take]; omega) (by omega)) fun d z3 ⟨ed, g3⟩ => ?_
      subst ed
      rw [eCall_ev, evs_cons]
      simp only [eV_succ, eV_zero, WP_pure, pNo_ev, pSo_ev, asI_int, Option.map_some, WP_some, evs_cons, evs_nil, eSl_ev, c2]
      refine WP_mono (by_parts_law hv hw n (bs.drop j) z3 g3 n2 (by rw [List.length_drop]; omega) (by omega)) fun d z4 ⟨ed, g4⟩ => ?_
      subst ed
      have ad : addD (.str [sg (bp (fv v) (bs.take j))]) (.str [sg (bp (fv v) (bs.drop j))]) = some (.str (txt [bp (fv v) (bs.take j), bp (fv v) (bs.drop j)])) := ad11 _ _
      rw [op2_ev, ad, WP_some, op2_ev, at6_2, WP_some, bp_parts hv hw n1 _ rfl n2, List.take_append_drop]
      exact ⟨rfl, g4⟩
/-- dict(list(zip(texts, signs))) -/
theorem told6 {v : List Bool} (hv : v.length = 6) : ∃ B, lzD (.lst (T6.map strT)) (.str (txt v)) = some (.lst B) ∧ dictD (.lst B) = some (D6 (fv v)) := by
  have hall : ((txt v).all fun c => decide (c < 128)) = true := List.all_eq_true.mpr fun c hc => by
    unfold txt at hc
    obtain ⟨b, _, rfl⟩ := List.mem_map.mp hc
    cases b <;> rfl
  have h6 : T6.length = 6 := by rw [T6_eq]; rfl
  refine ⟨((T6.map strT).zip (txt v)).map fun p => D.tup [p.1, .str [p.2]], ?_, ?_⟩
  · unfold lzD
    dsimp only
    rw [if_pos ⟨by rw [txt_len, List.length_map, h6, hv], by rw [List.length_map, h6]; decide, hall⟩]
  · obtain ⟨a, b, c, d, e, f, rfl⟩ := six hv
    unfold D6
    rw [T6_eq]
    rfl
theorem short2T {z : S} : F_law_short Γ [.int 2] = mpure (.lst (T6.map strT)) := WP_pure_of fun z => by
  have r1 : F_law_rows Γ [.int 1] = mpure (.lst ((rws 1).map strT)) := rows_ok (by decide) (by decide)
  have r2 : F_law_rows Γ [.int 2] = mpure (.lst ((rws 2).map strT)) := rows_ok (by decide) (by decide)
  have a1 : addD (.lst []) (.lst ((rws 1).map strT)) = some (.lst ((rws 1).map strT)) := by rw [addD_lst (by rw [List.length_map, rws_len]; decide), List.nil_append]
  have a2 : addD (.lst ((rws 1).map strT)) (.lst ((rws 2).map strT)) = some (.lst ((rws 1 ++ rws 2).map strT)) := by rw [addD_lst (by rw [List.length_map, List.length_map, rws_len, rws_len]; decide), List.map_append]
  have e : addD (.int 2) (.int 1) = some (.int 3) := rfl
  have et : T6 = rws 1 ++ rws 2 := by decide +kernel
  rw [et]
  generalize rws 1 ++ rws 2 = L12 at a2
  generalize (rws 1).map strT = L1 at r1 a1 a2
  generalize (rws 2).map strT = L2' at r2 a2
  unfold F_law_short B_law_short
  rw [run_ev, show rho0 3 [D.int 2] = [some (.val (.int 2)), none, none] from rfl, sSeq_ev, sSet_ev, eLst_ev, evs_nil, if_neg (by simp [ownAt_succ])]
  simp only [List.set_cons_succ, List.set_cons_zero]
  rw [sSeq_ev, sFor_ev, iR2_ev, eC_ev, WP_pure, asI_int, WP_some, e2_ev, eV_zero, WP_pure, eC_ev, WP_pure, op2_ev, e, WP_some, asI_int, WP_some, if_pos (by omega), show rangeD 1 ((3 : Int) - 1).toNat = [.int 1, .int 2] from rfl]
  refine short_step (y := none) r1 a1 ?_
  have last : ∀ Qn Qr, Qn [some (.val (.int 2)), some (.val (.lst (L12.map strT))), some (.val (.int 2))] z → WS (forD 2 (sSet 1 (e2 (op2 addD) (eV 1) (eCall (F_law_rows Γ) [eV 2]))) [.int 2] [some (.val (.int 2)), some (.val (.lst L1)), (some (D.int 1)).map Sl.val] z) Qn Qr := fun Qn Qr q =>
    short_step (n := 2) (xs := []) (y := some (.int 1)) r2 a2 (by rw [forD_nil', nx_ev']; exact q)
  refine last _ _ ?_
  rw [sRet_ev, eV_succ, eV_zero, WP_pure]
  exact ⟨rfl, rfl⟩
end C
set_option Elab.async false
set_option linter.all false
set_option maxRecDepth 100000
set_option maxHeartbeats 1000000
namespace K06
open PySem PySem.Spec PyProof.Rows L2 DL C
theorem own_map {o : Option D} {r : EnD} : ownAt (o.map Sl.val :: r) 0 = false := by cases o <;> rfl
theorem gather {Γ : Cfg} {x5 x6 x7 x8 x9 x10 x11 : Option Sl} {z : S} {Qr : D → S → Prop} : ∀ (l acc : List (List Bool)) (y4 : Option D), (∀ v ∈ l, v.length = 6) → acc.length + l.length ≤ 1000 →
    WS (forD 4 (sIf (tV (eCall (F_law_is_whole Γ) [e1 (op1 dictD) (e2 (op2 lzD) (eV 3) (eV 4))])) (sAppO 2 (eV 4)) (sNil)) (l.map strT) [none, some (.val .row), some (.own (.lst (acc.map strT))), some (.val (.lst (T6.map strT))), y4.map .val, x5, x6, x7, x8, x9, x10, x11] z)
      (fun ρ z' => z' = z ∧ ∃ o : Option D, ρ = [none, some (.val .row), some (.own (.lst ((acc ++ l.filter fun v => wh (fv v)).map strT))), some (.val (.lst (T6.map strT))), o.map .val, x5, x6, x7, x8, x9, x10, x11]) Qr
  | [], acc, y4, _, _ => ⟨rfl, y4, by rw [List.filter_nil, List.append_nil]⟩
  | v :: l, acc, y4, hv, hl => by
    rw [List.length_cons] at hl
    obtain ⟨B, e1', e2'⟩ := told6 (hv v (List.mem_cons_self ..))
    rw [List.map_cons]
    refine forD_cons (by simp only [ownAt_succ]; exact own_map) ?_
    simp only [List.set_cons_succ, List.set_cons_zero]
    rw [sIf_ev, tV_ev, eCall_ev, evs_cons, e1_ev, e2_ev]
    simp only [eV_succ, eV_zero, WP_pure, op2_ev, strT, e1', WP_some, op1_ev, e2', evs_nil, is_whole_ok, asB_bl]
    have h1 : ∀ u ∈ l, u.length = 6 := fun u hu => hv u (List.mem_cons_of_mem _ hu)
    cases c : wh (fv v) with
    | false =>
      rw [if_neg (by decide), sNil_ev, List.filter_cons, if_neg (by rw [c]; decide)]
      exact gather l acc (some (strT v)) h1 (by omega)
    | true =>
      rw [if_pos (by rfl), sAppO_ev (ds := acc.map strT) rfl]
      simp only [eV_succ, eV_zero, WP_pure]
      rw [if_pos (by rw [List.length_map]; omega), List.filter_cons, if_pos c]
      simp only [List.set_cons_succ, List.set_cons_zero]
      have ih := gather (Γ := Γ) (x5 := x5) (x6 := x6) (x7 := x7) (x8 := x8) (x9 := x9) (x10 := x10) (x11 := x11) (z := z) (Qr := Qr) l (acc ++ [v]) (some (strT v)) h1 (by rw [List.length_append]; show acc.length + 1 + _ ≤ _; omega)
      rw [List.map_append, List.append_assoc] at ih
      exact ih
theorem gather_all {Γ : Cfg} {x5 x6 x7 x8 x9 x10 x11 : Option Sl} {z : S} {Qr : D → S → Prop} :
    WS (forD 4 (sIf (tV (eCall (F_law_is_whole Γ) [e1 (op1 dictD) (e2 (op2 lzD) (eV 3) (eV 4))])) (sAppO 2 (eV 4)) (sNil)) ((rws 6).map strT) [none, some (.val .row), some (.own (.lst [])), some (.val (.lst (T6.map strT))), none, x5, x6, x7, x8, x9, x10, x11] z)
      (fun ρ z' => z' = z ∧ ∃ o : Option D, ρ = [none, some (.val .row), some (.own (.lst (SIX.map strT))), some (.val (.lst (T6.map strT))), o.map .val, x5, x6, x7, x8, x9, x10, x11]) Qr :=
  gather (rws 6) [] none (fun v hv => rws_mem hv) (by rw [rws_len]; decide)
theorem turns {Γ : Cfg} (hc : Γ.ck 41 = true) {v bs : List Bool} (hv : v ∈ SIX) (h0 : bs ≠ []) (h1 : bs.length ≤ 12) {x2 x3 x8 x9 x10 x11 : Option Sl} {Qr : D → S → Prop} : ∀ (ks : List D) (y7 : Option D) (z : S), Good z →
    WS (forD 7 (sIf (tNot (tV (eCall (F_law_alike Γ 3) [eCall (F_parts_answer Γ) [eCall (F_law_voices Γ) [eV 4], eCall (F_law_voices Γ) [eV 5]], eCall (F_law_word Γ) [eCall (F_law_by_parts Γ 12) [eV 6, eV 5, eV 1]]]))) (sRet (eC (.bl false))) (sNil)) ks [none, some (.val .row), x2, x3, some (.val (strT v)), some (.val (strT bs)), some (.val (D6 (fv v))), y7.map .val, x8, x9, x10, x11] z)
      (fun ρ z' => Good z' ∧ ∃ o : Option D, ρ = [none, some (.val .row), x2, x3, some (.val (strT v)), some (.val (strT bs)), some (.val (D6 (fv v))), o.map .val, x8, x9, x10, x11]) Qr
  | [], y7, z, g => ⟨g, y7, rfl⟩
  | k :: ks, y7, z, g => by
    obtain ⟨s1, s2, s3, s4⟩ := SIX_in hv
    refine forD_cons (by simp only [ownAt_succ]; exact own_map) ?_
    simp only [List.set_cons_succ, List.set_cons_zero]
    rw [sIf_ev, tNot_ev, tV_ev, eCall_ev, evs_cons, eCall_ev, evs_cons, eCall_ev, evs_cons]
    simp only [eV_succ, eV_zero, WP_pure, evs_nil, strT, voices_ok (Γ := Γ) (bs := v) (by rw [s2]; decide)]
    rw [evs_cons, eCall_ev, evs_cons]
    simp only [eV_succ, eV_zero, WP_pure, evs_nil, strT, voices_ok h1, parts_answer_ok s2 s4 h0 h1 hc]
    rw [evs_cons, eCall_ev, evs_cons, eCall_ev, evs_cons]
    simp only [eV_succ, eV_zero, WP_pure, evs_cons, evs_nil]
    refine WP_mono (by_parts_law s1 s3 12 bs z g h0 h1 (Nat.le_refl _)) fun d z2 ⟨ed, g2⟩ => ?_
    subst ed
    rw [word_ok, WP_pure, alike_str (okS_vc _), WP_pure, asB_bl, WP_some, if_neg (by decide), sNil_ev]
    exact turns hc hv h0 h1 ks (some k) z2 g2
end K06
set_option Elab.async false
set_option linter.all false
set_option maxRecDepth 100000
set_option maxHeartbeats 1000000
namespace K06
open PySem PySem.Spec PyProof.Rows L2 DL C
variable {Γ : Cfg}
theorem not_tup {d : D} (h : isiD ["tuple"] d = some (.bl false)) : F_is_parts Γ [d] = mpure (.bl false) := WP_pure_of fun z => by
  unfold F_is_parts B_is_parts
  rw [run_ev, show rho0 4 [d] = [some (.val d), none, none, none] from rfl, sSeq_ev, sIf_ev, tOr_ev, tNot_ev, tV_ev, e1_ev, eV_zero, WP_pure, op1_ev, h, WP_some, asB_bl, WP_some, if_pos (by rfl), if_pos (by rfl), sRet_ev, eC_ev, WP_pure]
  exact ⟨rfl, rfl⟩
theorem not_six {ds : List D} (h : ds.length ≠ 6) : F_is_parts Γ [.tup ds] = mpure (.bl false) := WP_pure_of fun z => by
  have ht : isiD ["tuple"] (.tup ds) = some (.bl true) := rfl
  unfold F_is_parts B_is_parts
  rw [run_ev, show rho0 4 [D.tup ds] = [some (.val (.tup ds)), none, none, none] from rfl, sSeq_ev, sIf_ev, tOr_ev, tNot_ev, tV_ev, e1_ev, eV_zero, WP_pure, op1_ev, ht, WP_some, asB_bl, WP_some, if_neg (by decide), tV_ev, e2_ev, e1_ev, eV_zero, WP_pure, op1_ev, lenD_tup, WP_some, eC_ev, WP_pure, op2_ev, neD_int, WP_some, asB_bl, WP_some, if_pos (by simp; omega), sRet_ev, eC_ev, WP_pure]
  exact ⟨rfl, rfl⟩
theorem in_none : inD .non w_VOICES = some (.bl false) := by
  unfold inD
  rw [show items w_VOICES = some ([vc true, vc false].map .str) from rfl, show shp .non = some .none from rfl]
  simp only [Option.bind_some, py_strs]
  rw [if_pos (shaped_strs (zs := [vc true, vc false]) (ok_vs [true, false]))]
  rfl
theorem stop_non {ρ : EnD} (hρ : 2 < ρ.length) : ∀ l : List Bool, stopL false 2 tYesD (e2 (op2 inD) (eV 2) (eC w_VOICES)) ((l.map fun b => D.str (vc b)) ++ [.non]) ρ = mpure false := by
  have at2 : ∀ d : D, eV 2 ((ρ.set 2 none).set 2 (some (.val d))) = mpure d := fun d => by
    unfold eV
    rw [List.getElem?_set_self (by rw [List.length_set]; exact hρ)]
  have ev : ∀ (d : D) (b : Bool), inD d w_VOICES = some (.bl b) → e2 (op2 inD) (eV 2) (eC w_VOICES) ((ρ.set 2 none).set 2 (some (.val d))) = mpure (.bl b) := fun d b h => WP_pure_of fun z => by
    rw [e2_ev, at2, WP_pure, eC_ev, WP_pure, op2_ev, h, WP_some]
    exact ⟨rfl, rfl⟩
  intro l
  induction l with
  | nil =>
    refine WP_pure_of fun z => ?_
    show WP (stopL false 2 tYesD _ [D.non] ρ) z _
    unfold stopL
    rw [ev _ _ in_none]
    exact ⟨rfl, rfl⟩
  | cons b l ih =>
    rw [List.map_cons, List.cons_append]
    unfold stopL
    rw [ev _ _ (in_voice b), ih]
    rfl
theorem not_all (l : List Bool) (h : l.length = 5) : F_is_parts Γ [.tup ((l.map fun b => D.str (vc b)) ++ [.non])] = mpure (.bl false) := WP_pure_of fun z => by
  have hs := stop_non (ρ := [some (.val (.tup ((l.map fun b => D.str (vc b)) ++ [.non]))), none, none, none]) (by show 2 < 4; decide) l
  have hl : ((l.map fun b => D.str (vc b)) ++ [D.non]).length = 6 := by rw [List.length_append, List.length_map, h]; rfl
  generalize (l.map fun b => D.str (vc b)) ++ [D.non] = ds at hs hl
  have ht : isiD ["tuple"] (.tup ds) = some (.bl true) := rfl
  unfold F_is_parts B_is_parts
  rw [run_ev, show rho0 4 [D.tup ds] = [some (.val (.tup ds)), none, none, none] from rfl, sSeq_ev, sIf_ev, tOr_ev, tNot_ev, tV_ev, e1_ev, eV_zero, WP_pure, op1_ev, ht, WP_some, asB_bl, WP_some, if_neg (by decide), tV_ev, e2_ev, e1_ev, eV_zero, WP_pure, op1_ev, lenD_tup, WP_some, eC_ev, WP_pure, op2_ev, neD_int, WP_some, asB_bl, WP_some, if_neg (by rw [hl]; decide), sNil_ev,
    sSeq_ev, sIf_ev, tNot_ev, tV_ev, eStopG_ev, iS_ev, eV_zero, WP_pure, iterD_tup, WP_some, if_pos (show ownAt [some (Sl.val (D.tup ds)), none, none, none] 2 = false from rfl), hs, WP_pure, asB_bl, WP_some, if_pos (by rfl), sRet_ev, eC_ev, WP_pure]
  exact ⟨rfl, rfl⟩
def bads (v : List Bool) : List D := [.non, .tup [], .lst (vs v), .tup (vs (v.take 5)), .tup (vs (v ++ [false])), .tup (([true, true, true, true, true].map fun b => D.str (vc b)) ++ [.non]), .str (vc true)]
theorem bads_ok {v : List Bool} (hv : v.length = 6) {d : D} (h : d ∈ bads v) : F_is_parts Γ [d] = mpure (.bl false) := by
  simp only [bads, List.mem_cons, List.not_mem_nil, or_false] at h
  rcases h with rfl | rfl | rfl | rfl | rfl | rfl | rfl
  · exact not_tup rfl
  · exact not_six (by decide)
  · exact not_tup rfl
  · exact not_six (by rw [vs_len, List.length_take]; omega)
  · exact not_six (by rw [vs_len, List.length_append, hv]; decide)
  · exact not_all _ rfl
  · exact not_tup rfl
theorem in_SIX {u : List Bool} (hu : u ∈ rws 6) : inD (.str (txt u)) (.lst (SIX.map strT)) = some (.bl (isP u)) := by
  rw [show SIX.map strT = (SIX.map txt).map .str by rw [List.map_map] <;> rfl, inD_lst okS_txt (fun z hz => by
    obtain ⟨b, _, rfl⟩ := List.mem_map.mp hz
    exact okS_txt)]
  congr 2
  rw [Bool.eq_iff_iff, List.any_eq_true]
  constructor
  · rintro ⟨z, hz, e⟩
    obtain ⟨b, hb, rfl⟩ := List.mem_map.mp hz
    have : b = u := txt_inj (of_decide_eq_true e)
    rw [← this]
    exact (SIX_in hb).2.2.2
  · intro h
    exact ⟨txt u, List.mem_map.mpr ⟨u, List.mem_filter.mpr ⟨hu, by rw [← isP_wh u hu]; exact h⟩, rfl⟩, decide_eq_true rfl⟩
/-- one[0] + one[1] + one[2] + one[5] == '+-+-' -/
theorem four_ok {x2 : Option Sl} {r : EnD} (hr : r = [none, some (.val .row), some (.val (.lst (SIX.map strT)))] ++ r.drop 3) (hl : r.length = 12) : compL 11 (tV (e2 (op2 eqD) (e2 (op2 addD) (e2 (op2 addD) (e2 (op2 addD) (e2 (op2 ixS) (eV 11) (eC (.int (0)))) (e2 (op2 ixS) (eV 11) (eC (.int (1))))) (e2 (op2 ixS) (eV 11) (eC (.int (2))))) (e2 (op2 ixS) (eV 11) (eC (.int (5))))) (eC (.str [43, 45, 43, 45])))) (eV 11) (SIX.map strT) r = mpure ((SIX.filter ends).map strT) := by
  have at11 : ∀ d : D, eV 11 ((r.set 11 none).set 11 (some (.val d))) = mpure d := fun d => by
    unfold eV
    rw [List.getElem?_set_self (by rw [List.length_set, hl]; decide)]
  refine compL_map (g := strT) (tb := ends) (fb := strT) fun v hv => ⟨WP_pure_of fun z => ?_, fun _ => at11 _⟩
  obtain ⟨a, b, c, d, e, f, rfl⟩ := six (SIX_in hv).2.1
  have i0 : ixS (.str (txt [a, b, c, d, e, f])) (.int 0) = some (.str (txt [a])) := at_txt (n := 0) rfl (by simp) (by simp)
  have i1 : ixS (.str (txt [a, b, c, d, e, f])) (.int 1) = some (.str (txt [b])) := at_txt (n := 1) rfl (by simp) (by simp)
  have i2 : ixS (.str (txt [a, b, c, d, e, f])) (.int 2) = some (.str (txt [c])) := at_txt (n := 2) rfl (by simp) (by simp)
  have i5 : ixS (.str (txt [a, b, c, d, e, f])) (.int 5) = some (.str (txt [f])) := at_txt (n := 5) rfl (by simp) (by simp)
  have a1 : addD (.str (txt [a])) (.str (txt [b])) = some (.str (txt [a, b])) := ad11 a b
  have a2 : addD (.str (txt [a, b])) (.str (txt [c])) = some (.str (txt [a, b, c])) := add_txt (a := [a, b]) (b := [c]) (by simp)
  have a3 : addD (.str (txt [a, b, c])) (.str (txt [f])) = some (.str (txt [a, b, c, f])) := add_txt (a := [a, b, c]) (b := [f]) (by simp)
  have eq : eqD (.str (txt [a, b, c, f])) (.str [43, 45, 43, 45]) = some (.bl (ends [a, b, c, d, e, f])) := eq_txt (a := [a, b, c, f]) (b := [true, false, true, false])
  simp only [tV_ev, e2_ev, at11, WP_pure, eC_ev, op2_ev, strT, i0, i1, i2, i5, a1, a2, a3, eq, WP_some, asB_bl]
  first | exact ⟨rfl, rfl⟩ | exact ⟨trivial, trivial⟩
end K06
set_option Elab.async false
set_option linter.all false
set_option maxRecDepth 100000
set_option maxHeartbeats 1000000
namespace K06
open PySem PySem.Spec PyProof.Rows L2 DL C
theorem SIX_ne : SIX.map strT ≠ [] := fun e => by
  have := congrArg List.length e
  rw [List.length_map, SIX_len] at this
  cases this
theorem pick6 {Γ : Cfg} {z : S} (g : Good z) : WP (F_law_pick Γ [.row, .lst (SIX.map strT)]) z fun d z' => (∃ v ∈ SIX, d = strT v) ∧ Good z' := WP_mono (pick_ok g SIX_ne (by rw [List.length_map, SIX_len]; decide)) fun d z' ⟨h, g'⟩ => by
  obtain ⟨v, hv, rfl⟩ := List.mem_map.mp h
  exact ⟨⟨v, hv, rfl⟩, g'⟩
theorem pick64 {Γ : Cfg} {z : S} (g : Good z) : WP (F_law_pick Γ [.row, .lst ((rws 6).map strT)]) z fun d z' => (∃ v ∈ rws 6, d = strT v) ∧ Good z' := WP_mono (pick_ok g (fun e => by
  have := congrArg List.length e
  rw [List.length_map, rws_len] at this
  cases this) (by rw [List.length_map, rws_len]; decide)) fun d z' ⟨h, g'⟩ => by
  obtain ⟨v, hv, rfl⟩ := List.mem_map.mp h
  exact ⟨⟨v, hv, rfl⟩, g'⟩
/-- the try -/
theorem tried {Γ : Cfg} (hE : Γ.E "NotParts" = true) {v u : List Bool} (hu : u ∈ rws 6) {bad : D} (hb : F_is_parts Γ [bad] = mpure (.bl false)) (hc : Γ.ck 41 = true) {x3 x4 x5 x6 : D} {x7 : Option D} {z : S} {Qn : EnD → S → Prop} (g : Good z) :
    WS (sTryIs 10 (fun y => y == ("NotParts" : Str)) (F_parts_answer Γ) [eIf (tOr (tV (e2 (op2 eqD) (eCall (F_law_taken Γ) [eV 1, eC (.int (2))]) (eC (.int (0))))) (tV (e2 (op2 inD) (eV 8) (eV 2)))) (eV 9) (eCall (F_law_voices Γ) [eV 8]), eC .non] (e2 (op2 eqD) (e1 (op1 lenD) (eLc 11 (iL (eV 2)) (tV (e2 (op2 eqD) (e2 (op2 addD) (e2 (op2 addD) (e2 (op2 addD) (e2 (op2 ixS) (eV 11) (eC (.int (0)))) (e2 (op2 ixS) (eV 11) (eC (.int (1))))) (e2 (op2 ixS) (eV 11) (eC (.int (2))))) (e2 (op2 ixS) (eV 11) (eC (.int (5))))) (eC (.str [43, 45, 43, 45])))) (eV 11))) (eC (.int (4))))
      [none, some (.val .row), some (.val (.lst (SIX.map strT))), some (.val x3), some (.val x4), some (.val x5), some (.val x6), x7.map .val, some (.val (strT u)), some (.val bad), none, none] z) Qn (fun d _ => d = .bl true) := by
  have ea : WP (evs [eIf (tOr (tV (e2 (op2 eqD) (eCall (F_law_taken Γ) [eV 1, eC (.int (2))]) (eC (.int (0))))) (tV (e2 (op2 inD) (eV 8) (eV 2)))) (eV 9) (eCall (F_law_voices Γ) [eV 8]), eC .non] [none, some (.val .row), some (.val (.lst (SIX.map strT))), some (.val x3), some (.val x4), some (.val x5), some (.val x6), x7.map .val, some (.val (strT u)), some (.val bad), none, none]) z
      fun ds z' => ∃ d, ds = [d, .non] ∧ F_is_parts Γ [d] = mpure (.bl false) := by
    rw [evs_cons, eIf_ev, tOr_ev, tV_ev, e2_ev, eCall_ev, evs_cons]
    simp only [eV_succ, eV_zero, WP_pure, evs_cons, evs_nil, eC_ev]
    refine WP_mono (taken_ok g (by omega) (by omega)) fun d z2 ⟨k, e, k0, k1, g2⟩ => ?_
    subst e
    rw [op2_ev, eqD_int, WP_some, asB_bl, WP_some]
    by_cases ck : k = 0
    · rw [if_pos (by simpa using ck), if_pos trivial]
      exact ⟨bad, rfl, hb⟩
    · rw [if_neg (by simpa using ck), tV_ev, e2_ev]
      simp only [eV_succ, eV_zero, WP_pure, op2_ev, strT, in_SIX hu, WP_some, asB_bl]
      cases c : isP u with
      | true =>
        rw [if_pos (by rfl)]
        try simp only [eV_succ, eV_zero, WP_pure]
        exact ⟨bad, rfl, hb⟩
      | false =>
        rw [if_neg (by decide), eCall_ev, evs_cons]
        simp only [eV_succ, eV_zero, WP_pure, evs_nil, strT, voices_ok (Γ := Γ) (bs := u) (by rw [rws_mem hu]; decide)]
        exact ⟨_, rfl, by rw [is_parts_ok (rws_mem hu) hc, c]⟩
  unfold sTryIs
  rw [if_pos ⟨by cases x7 <;> rfl, by show 10 < 12; decide⟩]
  unfold WP at ea
  cases ee : evs [eIf (tOr (tV (e2 (op2 eqD) (eCall (F_law_taken Γ) [eV 1, eC (.int (2))]) (eC (.int (0))))) (tV (e2 (op2 inD) (eV 8) (eV 2)))) (eV 9) (eCall (F_law_voices Γ) [eV 8]), eC .non] [none, some (.val .row), some (.val (.lst (SIX.map strT))), some (.val x3), some (.val x4), some (.val x5), some (.val x6), x7.map .val, some (.val (strT u)), some (.val bad), none, none] z with
  | bad => rw [ee] at ea; exact ea.elim
  | exc x z' => rw [ee] at ea; exact ea.elim
  | ok ds z1 =>
    rw [ee] at ea
    obtain ⟨d, rfl, hd⟩ := ea
    dsimp only
    rw [parts_answer_bad hE hd]
    dsimp only
    rw [if_pos (by rfl)]
    have eg : (e2 (op2 eqD) (e1 (op1 lenD) (eLc 11 (iL (eV 2)) (tV (e2 (op2 eqD) (e2 (op2 addD) (e2 (op2 addD) (e2 (op2 addD) (e2 (op2 ixS) (eV 11) (eC (.int (0)))) (e2 (op2 ixS) (eV 11) (eC (.int (1))))) (e2 (op2 ixS) (eV 11) (eC (.int (2))))) (e2 (op2 ixS) (eV 11) (eC (.int (5))))) (eC (.str [43, 45, 43, 45])))) (eV 11))) (eC (.int (4)))) ([none, some (.val .row), some (.val (.lst (SIX.map strT))), some (.val x3), some (.val x4), some (.val x5), some (.val x6), x7.map .val, some (.val (strT u)), some (.val bad), none, none] : EnD) = mpure (.bl true) := WP_pure_of fun z => by
      rw [e2_ev, e1_ev, eLc_ev]
      unfold iL
      rw [WP_bind]
      simp only [eV_succ, eV_zero, WP_pure, WP_some]
      rw [if_pos ⟨by rw [List.length_map, SIX_len, sizeLine_eq]; decide, rfl⟩, four_ok (x2 := none) rfl rfl, WP_pure, op1_ev, lenD_lst, WP_some, eC_ev, WP_pure, op2_ev, eqD_int, WP_some, List.length_map, SIX_four]
      exact ⟨rfl, rfl⟩
    have es : ([none, some (.val .row), some (.val (.lst (SIX.map strT))), some (.val x3), some (.val x4), some (.val x5), some (.val x6), x7.map .val, some (.val (strT u)), some (.val bad), none, none] : EnD).set 10 none = [none, some (.val .row), some (.val (.lst (SIX.map strT))), some (.val x3), some (.val x4), some (.val x5), some (.val x6), x7.map .val, some (.val (strT u)), some (.val bad), none, none] := rfl
    rw [es, eg]
    exact rfl
end K06
set_option Elab.async false
set_option linter.all false
set_option maxRecDepth 100000
set_option maxHeartbeats 1000000
namespace K06
open PySem PySem.Spec PyProof.Rows L2 DL C
theorem bads_ev {Γ : Cfg} {v : List Bool} (hv : v.length = 6) {x0 x1 x2 x3 x5 x6 x7 x8 x9 x10 x11 : Option Sl} : eLst [eC .non, eTup [], e1 (op1 listD) (eCall (F_law_voices Γ) [eV 4]), eSl (eCall (F_law_voices Γ) [eV 4]) pNo (pSo (eC (.int (5)))), e2 (op2 addD) (eCall (F_law_voices Γ) [eV 4]) (eTup [eC (.str [100, 101, 110, 121])]), e2 (op2 addW) (e2 (op2 repW) (eTup [eC (.str [97, 108, 108, 111, 119])]) (eC (.int (5)))) (eTup [eC .non]), eC (.str [97, 108, 108, 111, 119])]
    [x0, x1, x2, x3, some (.val (strT v)), x5, x6, x7, x8, x9, x10, x11] = mpure (.lst (bads v)) := WP_pure_of fun z => by
  have ev : ∀ z : S, WP (eCall (F_law_voices Γ) [eV 4] [x0, x1, x2, x3, some (.val (strT v)), x5, x6, x7, x8, x9, x10, x11]) z fun d z' => d = .tup (vs v) ∧ z' = z := fun z => by
    rw [eCall_ev, evs_cons]
    simp only [eV_succ, eV_zero, WP_pure, evs_nil, strT, voices_ok (Γ := Γ) (bs := v) (by rw [hv]; decide)]
    first | exact ⟨rfl, rfl⟩ | exact ⟨trivial, trivial⟩ | trivial
  have e : eCall (F_law_voices Γ) [eV 4] [x0, x1, x2, x3, some (.val (strT v)), x5, x6, x7, x8, x9, x10, x11] = mpure (.tup (vs v)) := WP_pure_of ev
  have c5 : cutL (vs v) none (some (5 : Int)) = vs (v.take 5) := by rw [show (5 : Int) = ((5 : Nat) : Int) from rfl, cut_hi]
  have ad : addD (.tup (vs v)) (.tup [.str [100, 101, 110, 121]]) = some (.tup (vs (v ++ [false]))) := add_vs (a := v) (b := [false]) (by rw [hv]; decide)
  have er : repW (.tup [.str [97, 108, 108, 111, 119]]) (.int 5) = some (.wt [.str [97, 108, 108, 111, 119], .str [97, 108, 108, 111, 119], .str [97, 108, 108, 111, 119], .str [97, 108, 108, 111, 119], .str [97, 108, 108, 111, 119]]) := by
    unfold repW
    dsimp only
    rw [if_pos ⟨by simp, by decide, by decide, by simp⟩]
    rfl
  have ew : addW (.wt [.str [97, 108, 108, 111, 119], .str [97, 108, 108, 111, 119], .str [97, 108, 108, 111, 119], .str [97, 108, 108, 111, 119], .str [97, 108, 108, 111, 119]]) (.tup [.non]) = some (.tup (([true, true, true, true, true].map fun b => D.str (vc b)) ++ [.non])) := by
    unfold addW
    dsimp only
    rw [if_pos ⟨by simp, by simp, by simp⟩]
    rfl
  rw [eLst_ev, evs_cons, eC_ev, WP_pure, evs_cons, eTup_ev, evs_nil, evs_cons, e1_ev, e, WP_pure, op1_ev, show listD (.tup (vs v)) = some (.lst (vs v)) from rfl, WP_some, evs_cons, eSl_ev, e, WP_pure]
  simp only [pNo_ev, pSo_ev, eC_ev, WP_pure, asI_int, WP_some, Option.map_some, slD_tup, c5]
  rw [evs_cons, e2_ev, e, WP_pure, eTup_ev, evs_cons, eC_ev, WP_pure, evs_nil, op2_ev, ad, WP_some, evs_cons, e2_ev, e2_ev, eTup_ev, evs_cons, eC_ev, WP_pure, evs_nil, eC_ev, WP_pure, op2_ev, er, WP_some, eTup_ev, evs_cons, eC_ev, WP_pure, evs_nil, op2_ev, ew, WP_some, evs_cons, eC_ev, WP_pure, evs_nil]
  exact ⟨rfl, rfl⟩
theorem law_true : ∀ (A : Nat → Addr) (w : World) (ns : List Int), ns.length ≤ 63 → (∀ z ∈ ns, Builtin.Int.intBits z ≤ 1048576) → ∃ z', B_law (Gam0 A w) (rhoL 12) ⟨ns, 0, 15606, 0⟩ = .rt (.bl true) z' := by
  intro A w ns _ _
  have g : Good ⟨ns, 0, 15606, 0⟩ := ⟨by show (0 : Int) ≤ 0; omega, by show (0 : Int) ≤ 15606; omega, by show (15606 : Int) < 2147483647; omega, by show (0 : Int) ≤ 0; omega⟩
  have hc : (Gam0 A w).ck 41 = true := rfl
  have hE : (Gam0 A w).E "NotParts" = true := by first | rfl | decide
  have h : WS (B_law (Gam0 A w) [none, some (.val .row), none, none, none, none, none, none, none, none, none, none] ⟨ns, 0, 15606, 0⟩) (fun _ _ => False) (fun d z' => d = .bl true) := by
    unfold B_law
    generalize Gam0 A w = Γ at hc hE
    have hr : F_law_rows Γ [.int 6] = mpure (.lst ((rws 6).map strT)) := rows_ok (by decide) (by decide)
    rw [sSeq_ev, sUn_ev, unO_succ, unO_succ, unO_none, sSeq_ev, sNewPL_ev, eCall_ev, evs_cons, eC_ev, WP_pure, evs_nil, short2T (z := ⟨ns, 0, 15606, 0⟩), WP_pure, if_pos ⟨rfl, by show 2 < 12; decide, rfl, by decide⟩]
    simp only [List.set_cons_succ, List.set_cons_zero]
    rw [sSeq_ev, sFor_ev, iS_ev, eCall_ev, evs_cons, eC_ev, WP_pure, evs_nil, hr, WP_pure, iterD_lst, WP_some]
    refine WS_mono gather_all fun ρ z' ⟨ez, o, e⟩ => ?_
    subst ez e
    rw [sSeq_ev, sUn_ev, unO_succ, unO_succ, unO_own, sSeq_ev, sIf_ev, tOr_ev, tNot_ev, tV_ev, eCall_ev, evs_cons, eCall_ev, evs_nil, parts_ways_ok hc, WP_pure, evs_cons, e1_ev, eLc_ev, iS_ev]
    simp only [eV_succ, eV_zero, WP_pure, iterD_lst, WP_some]
    have ec : compL 4 tYesD (eCall (F_law_voices Γ) [eV 4]) (SIX.map strT) [none, some (.val .row), some (.val (.lst (SIX.map strT))), some (.val (.lst (T6.map strT))), o.map .val, none, none, none, none, none, none, none] = mpure (SIX.map rowT) := by
      have := compL_map (g := strT) (l := SIX) (i := 4) (t := tYesD) (f := eCall (F_law_voices Γ) [eV 4]) (ρ := [none, some (.val .row), some (.val (.lst (SIX.map strT))), some (.val (.lst (T6.map strT))), o.map .val, none, none, none, none, none, none, none]) (tb := fun _ => true) (fb := rowT) fun v hv => ⟨rfl, fun _ => WP_pure_of fun z => by
        simp only [List.set_cons_succ, List.set_cons_zero, eCall_ev, evs_cons, evs_nil, eV_succ, eV_zero, WP_pure, strT, voices_ok (Γ := Γ) (bs := v) (by rw [(SIX_in hv).2.1]; decide)]
        exact ⟨rfl, trivial⟩⟩
      rw [this, List.filter_eq_self.mpr fun _ _ => rfl]
    rw [if_pos ⟨by rw [List.length_map, SIX_len, sizeLine_eq]; decide, by simp only [ownAt_succ]; exact own_map⟩, ec, WP_pure, op1_ev, tupD_lst, WP_some, evs_nil, alike_rows (n := 0) (by rw [SIX_len]; decide) (fun v hv => by rw [(SIX_in hv).2.1]; decide), WP_pure, asB_bl, WP_some, if_neg (by decide), tV_ev, e2_ev, e1_ev]
    simp only [eV_succ, eV_zero, WP_pure, op1_ev, lenD_lst, WP_some, List.length_map, SIX_len, eC_ev, op2_ev, neD_int, asB_bl]
    rw [if_neg (by decide), sNil_ev, sSeq_ev, sPar_ev, eCall_ev, evs_cons]
    simp only [eV_succ, eV_zero, WP_pure, evs_cons, evs_nil]
    refine WP_mono (pick6 g) fun d z1 ⟨⟨v, hv, ed⟩, g1⟩ => ?_
    subst ed
    obtain ⟨s1, s2, s3, s4⟩ := SIX_in hv
    rw [eCall_ev, evs_cons]
    simp only [eV_succ, eV_zero, WP_pure, evs_cons, evs_nil, eC_ev]
    refine WP_mono (row_ok g1) fun d z2 ⟨bs, ed, h0, h1, g2⟩ => ?_
    subst ed
    rw [if_neg (by simp only [ownAt_succ]; rw [own_map]; decide)]
    simp only [List.set_cons_succ, List.set_cons_zero]
    obtain ⟨B, e1', e2'⟩ := told6 s2
    rw [sSeq_ev, sSet_ev, e1_ev, e2_ev]
    simp only [eV_succ, eV_zero, WP_pure, op2_ev, strT, e1', WP_some, op1_ev, e2', ownAt_succ, ownAt_zn, Bool.false_eq_true, if_false, List.set_cons_succ, List.set_cons_zero]
    rw [sSeq_ev, sFor_ev, iR1_ev, eC_ev, WP_pure, asI_int, WP_some, if_pos (by decide)]
    refine WS_mono (turns hc hv h0 h1 _ none z2 g2) fun ρ z3 ⟨g3, o7, e⟩ => ?_
    subst e
    rw [sSeq_ev, sSet_ev, eCall_ev, evs_cons]
    simp only [eV_succ, eV_zero, WP_pure, evs_cons, evs_nil, eCall_ev, eC_ev, hr]
    refine WP_mono (pick64 g3) fun d z4 ⟨⟨u, hu, ed⟩, g4⟩ => ?_
    subst ed
    rw [if_neg (by simp only [ownAt_succ, ownAt_zn]; decide)]
    simp only [List.set_cons_succ, List.set_cons_zero]
    have hp := is_parts_ok (Γ := Γ) (rws_mem hu) hc
    rw [sSeq_ev, sIf_ev, tNot_ev, tV_ev, eCall_ev, evs_cons, eCall_ev, evs_cons, eCall_ev, evs_cons]
    simp only [eV_succ, eV_zero, WP_pure, evs_nil, strT, voices_ok (Γ := Γ) (bs := u) (by rw [rws_mem hu]; decide), hp, evs_cons, e2_ev, op2_ev, in_SIX hu, WP_some, is_ok, asB_bl]
    rw [if_neg (by decide), sNil_ev, sSeq_ev, sSet_ev, eCall_ev, evs_cons]
    simp only [eV_succ, eV_zero, WP_pure]
    rw [evs_cons, show (D.str (txt v)) = strT v from rfl, bads_ev s2, WP_pure, evs_nil]
    refine WP_mono (pick_ok g4 (by unfold bads; simp) (by unfold bads; simp)) fun bad z5 ⟨hb, g5⟩ => ?_
    have hbp := bads_ok (Γ := Γ) s2 hb
    have e0 : isNotD (.bl false) (.bl false) = some (.bl false) := rfl
    rw [if_neg (by simp only [ownAt_succ, ownAt_zn]; decide)]
    simp only [List.set_cons_succ, List.set_cons_zero]
    rw [sSeq_ev, sIf_ev, tV_ev, e2_ev, eCall_ev, evs_cons]
    simp only [eV_succ, eV_zero, WP_pure, evs_nil, hbp, eC_ev, op2_ev, e0, WP_some, asB_bl]
    rw [if_neg (by decide), sNil_ev, sSeq_ev]
    exact tried (v := v) hE hu hbp hc g5
  rw [show rhoL 12 = [none, some (.val .row), none, none, none, none, none, none, none, none, none, none] from rfl]
  unfold WS at h
  cases e : B_law (Gam0 A w) [none, some (.val .row), none, none, none, none, none, none, none, none, none, none] ⟨ns, 0, 15606, 0⟩ with
  | rt d z' => rw [e] at h; exact ⟨z', by rw [h]⟩
  | nx ρ z' => rw [e] at h; exact h.elim
  | bk ρ z' => rw [e] at h; exact h.elim
  | ct ρ z' => rw [e] at h; exact h.elim
  | exc x z' => rw [e] at h; exact h.elim
  | bad => rw [e] at h; exact h.elim
end K06
set_option Elab.async false
set_option linter.all false
set_option maxRecDepth 100000
set_option maxHeartbeats 8000000
namespace K06
open PySem PySem.Spec PyProof.Rows L2 DL C
theorem at_mk {l : PySem.W.OpenLaw} {w : World} {K : PySem.W.Frag} {h : Heap} {mg : Str → Option Value} {fa : Addr} {q : Program}
    {f_parts f_turned f_turned_row cp_turned_row tb_turned_row f_turned_at f_greater_voice f_with_more f_first_wrong f_check_row f_agreed cp_agreed tb_agreed f_even cp_even tb_even f_growing f_heard f_kept f_mixed f_most cp_most tb_most f_order f_repeat f_keeps_all f_by_parts f_is_parts cp_is_parts tb_is_parts f_parts_ways cp_parts_ways tb_parts_ways f_parts_answer f_law_taken f_law_pick f_law_alike f_law_is f_law_rows f_law_short f_law_row f_law_word f_law_voices f_law_by_parts f_law_is_whole f_law p_CVOICES p_CSMALL_ROWS py1 py2 py3 py4 py5 py6 py7 py8 py9 py10 py11 py12 py13 py14 p_CHECKS C_VoiceError C_NotParts : Addr}
    {od_parts an_parts od_turned an_turned od_turned_row an_turned_row q2_turned_row od_turned_at an_turned_at od_greater_voice an_greater_voice od_with_more an_with_more od_first_wrong an_first_wrong od_check_row an_check_row od_agreed an_agreed q2_agreed od_even an_even q2_even od_growing an_growing od_heard an_heard od_kept an_kept od_mixed an_mixed od_most an_most q2_most od_order an_order od_repeat an_repeat od_keeps_all an_keeps_all od_by_parts an_by_parts od_is_parts an_is_parts q2_is_parts od_parts_ways an_parts_ways q2_parts_ways od_parts_answer an_parts_answer od_law_taken an_law_taken od_law_pick an_law_pick od_law_alike an_law_alike od_law_is an_law_is od_law_rows an_law_rows od_law_short an_law_short od_law_row an_law_row od_law_word an_law_word od_law_voices an_law_voices od_law_by_parts an_law_by_parts od_law_is_whole an_law_is_whole od_law an_law : Option Addr}
    {sl_parts sl_turned sl_turned_row q4_turned_row sl_turned_at sl_greater_voice sl_with_more sl_first_wrong sl_check_row sl_agreed q4_agreed sl_even q4_even sl_growing sl_heard sl_kept sl_mixed sl_most q4_most sl_order sl_repeat sl_keeps_all sl_by_parts sl_is_parts q4_is_parts sl_parts_ways q4_parts_ways sl_parts_answer sl_law_taken sl_law_pick sl_law_alike sl_law_is sl_law_rows sl_law_short sl_law_row sl_law_word sl_law_voices sl_law_by_parts sl_law_is_whole sl_law s_CVOICES s_CSMALL_ROWS sy1 sy2 sy3 sy4 sy5 sy6 sy7 sy8 sy9 sy10 sy11 sy12 sy13 sy14 : Array (Option Value)}
    {oc_parts kV_parts dc_parts pm_parts ct_parts cd_parts oc_turned kV_turned dc_turned pm_turned ct_turned cd_turned oc_turned_row kV_turned_row dc_turned_row pm_turned_row ct_turned_row q1_turned_row oc_turned_at kV_turned_at dc_turned_at pm_turned_at ct_turned_at cd_turned_at oc_greater_voice kV_greater_voice dc_greater_voice pm_greater_voice ct_greater_voice cd_greater_voice oc_with_more kV_with_more dc_with_more pm_with_more ct_with_more cd_with_more oc_first_wrong kV_first_wrong dc_first_wrong pm_first_wrong ct_first_wrong cd_first_wrong oc_check_row kV_check_row dc_check_row pm_check_row ct_check_row cd_check_row oc_agreed kV_agreed dc_agreed pm_agreed ct_agreed q1_agreed oc_even kV_even dc_even pm_even ct_even q1_even oc_growing kV_growing dc_growing pm_growing ct_growing cd_growing oc_heard kV_heard dc_heard pm_heard ct_heard cd_heard oc_kept kV_kept dc_kept pm_kept ct_kept cd_kept oc_mixed kV_mixed dc_mixed pm_mixed ct_mixed cd_mixed oc_most kV_most dc_most pm_most ct_most q1_most oc_order kV_order dc_order pm_order ct_order cd_order oc_repeat kV_repeat dc_repeat pm_repeat ct_repeat cd_repeat oc_keeps_all kV_keeps_all dc_keeps_all pm_keeps_all ct_keeps_all cd_keeps_all oc_by_parts kV_by_parts dc_by_parts pm_by_parts ct_by_parts cd_by_parts oc_is_parts kV_is_parts dc_is_parts pm_is_parts ct_is_parts q1_is_parts oc_parts_ways kV_parts_ways dc_parts_ways pm_parts_ways ct_parts_ways q1_parts_ways oc_parts_answer kV_parts_answer dc_parts_answer pm_parts_answer ct_parts_answer cd_parts_answer oc_law_taken kV_law_taken dc_law_taken pm_law_taken ct_law_taken cd_law_taken oc_law_pick kV_law_pick dc_law_pick pm_law_pick ct_law_pick cd_law_pick oc_law_alike kV_law_alike dc_law_alike pm_law_alike ct_law_alike cd_law_alike oc_law_is kV_law_is dc_law_is pm_law_is ct_law_is cd_law_is oc_law_rows kV_law_rows dc_law_rows pm_law_rows ct_law_rows cd_law_rows oc_law_short kV_law_short dc_law_short pm_law_short ct_law_short cd_law_short oc_law_row kV_law_row dc_law_row pm_law_row ct_law_row cd_law_row oc_law_word kV_law_word dc_law_word pm_law_word ct_law_word cd_law_word oc_law_voices kV_law_voices dc_law_voices pm_law_voices ct_law_voices cd_law_voices oc_law_by_parts kV_law_by_parts dc_law_by_parts pm_law_by_parts ct_law_by_parts cd_law_by_parts oc_law_is_whole kV_law_is_whole dc_law_is_whole pm_law_is_whole ct_law_is_whole cd_law_is_whole oc_law kV_law dc_law pm_law ct_law cd_law w_ALLOW w_DENY w_MOST_VOICES w__TOLD : Value}
    {vs_turned_row vs_agreed vs_even vs_most vs_is_parts vs_parts_ways i_CVOICES i_CSMALL_ROWS iy1 iy2 iy3 iy4 iy5 iy6 iy7 iy8 iy9 iy10 iy11 iy12 iy13 iy14 : Array Value}
    {m_CVOICES m_CSMALL_ROWS my1 my2 my3 my4 my5 my6 my7 my8 my9 my10 my11 my12 my13 my14 m_CHECKS : Nat}
    {e_turned_row e_agreed e_even e_most e_is_parts e_parts_ways : DefRec}
    {es_CHECKS : Array DictEntry}
    (KX : K.In h) (G : h.Ns mainGlobals mg) (hfa : mg "law" = some (.ref fa)) (tab : ∀ (y : Str) (e : DefRec) (c P : Addr), (recsOf q).find? (fun e => e.name == y) = some e → PySem.W.tabIn K y = some (c, P) → PySem.W.CodeHd h c P ∧ h.get? P = some { cls := .none, data := .fields #[] })
    (a_parts : PySem.W.nsIn K mainGlobals "_parts" = some (some (.ref f_parts)))
    (l_parts : K.lookup f_parts = some ⟨oc_parts, od_parts, .func (PySem.W.fnOf "_parts" "_parts" (defArgs s_parts) (defBody s_parts) (defScope s_parts) .none kV_parts dc_parts pm_parts an_parts cd_parts ct_parts), sl_parts⟩)
    (c_parts : PySem.W.codeIn K cd_parts "_parts" = true)
    (k_parts : PySem.W.keepIn K (.ref f_parts) = true)
    (a_turned : PySem.W.nsIn K mainGlobals "turned" = some (some (.ref f_turned)))
    (l_turned : K.lookup f_turned = some ⟨oc_turned, od_turned, .func (PySem.W.fnOf "turned" "turned" (defArgs s_turned) (defBody s_turned) (defScope s_turned) .none kV_turned dc_turned pm_turned an_turned cd_turned ct_turned), sl_turned⟩)
    (c_turned : PySem.W.codeIn K cd_turned "turned" = true)
    (k_turned : PySem.W.keepIn K (.ref f_turned) = true)
    (a_turned_row : PySem.W.nsIn K mainGlobals "turned_row" = some (some (.ref f_turned_row)))
    (l_turned_row : K.lookup f_turned_row = some ⟨oc_turned_row, od_turned_row, .func (PySem.W.fnOf "turned_row" "turned_row" (defArgs s_turned_row) (defBody s_turned_row) (defScope s_turned_row) .none kV_turned_row dc_turned_row pm_turned_row an_turned_row (.ref cp_turned_row) ct_turned_row), sl_turned_row⟩)
    (c_turned_row : PySem.W.codeIn K (.ref cp_turned_row) "turned_row" = true)
    (k_turned_row : PySem.W.keepIn K (.ref f_turned_row) = true)
    (u_turned_row : K.lookup cp_turned_row = some ⟨q1_turned_row, q2_turned_row, .fields vs_turned_row, q4_turned_row⟩)
    (v_turned_row : vs_turned_row[11]? = some (.ref tb_turned_row))
    (n_turned_row : K.lookup tb_turned_row = none)
    (r_turned_row : (recsOf q).find? (fun e => e.name == ("turned_row" : Str)) = some e_turned_row)
    (a_turned_at : PySem.W.nsIn K mainGlobals "turned_at" = some (some (.ref f_turned_at)))
    (l_turned_at : K.lookup f_turned_at = some ⟨oc_turned_at, od_turned_at, .func (PySem.W.fnOf "turned_at" "turned_at" (defArgs s_turned_at) (defBody s_turned_at) (defScope s_turned_at) .none kV_turned_at dc_turned_at pm_turned_at an_turned_at cd_turned_at ct_turned_at), sl_turned_at⟩)
    (c_turned_at : PySem.W.codeIn K cd_turned_at "turned_at" = true)
    (k_turned_at : PySem.W.keepIn K (.ref f_turned_at) = true)
    (a_greater_voice : PySem.W.nsIn K mainGlobals "greater_voice" = some (some (.ref f_greater_voice)))
    (l_greater_voice : K.lookup f_greater_voice = some ⟨oc_greater_voice, od_greater_voice, .func (PySem.W.fnOf "greater_voice" "greater_voice" (defArgs s_greater_voice) (defBody s_greater_voice) (defScope s_greater_voice) .none kV_greater_voice dc_greater_voice pm_greater_voice an_greater_voice cd_greater_voice ct_greater_voice), sl_greater_voice⟩)
    (c_greater_voice : PySem.W.codeIn K cd_greater_voice "greater_voice" = true)
    (k_greater_voice : PySem.W.keepIn K (.ref f_greater_voice) = true)
    (a_with_more : PySem.W.nsIn K mainGlobals "with_more" = some (some (.ref f_with_more)))
    (l_with_more : K.lookup f_with_more = some ⟨oc_with_more, od_with_more, .func (PySem.W.fnOf "with_more" "with_more" (defArgs s_with_more) (defBody s_with_more) (defScope s_with_more) .none kV_with_more dc_with_more pm_with_more an_with_more cd_with_more ct_with_more), sl_with_more⟩)
    (c_with_more : PySem.W.codeIn K cd_with_more "with_more" = true)
    (k_with_more : PySem.W.keepIn K (.ref f_with_more) = true)
    (a_first_wrong : PySem.W.nsIn K mainGlobals "_first_wrong" = some (some (.ref f_first_wrong)))
    (l_first_wrong : K.lookup f_first_wrong = some ⟨oc_first_wrong, od_first_wrong, .func (PySem.W.fnOf "_first_wrong" "_first_wrong" (defArgs s_first_wrong) (defBody s_first_wrong) (defScope s_first_wrong) .none kV_first_wrong dc_first_wrong pm_first_wrong an_first_wrong cd_first_wrong ct_first_wrong), sl_first_wrong⟩)
    (c_first_wrong : PySem.W.codeIn K cd_first_wrong "_first_wrong" = true)
    (k_first_wrong : PySem.W.keepIn K (.ref f_first_wrong) = true)
    (a_check_row : PySem.W.nsIn K mainGlobals "check_row" = some (some (.ref f_check_row)))
    (l_check_row : K.lookup f_check_row = some ⟨oc_check_row, od_check_row, .func (PySem.W.fnOf "check_row" "check_row" (defArgs s_check_row) (defBody s_check_row) (defScope s_check_row) .none kV_check_row dc_check_row pm_check_row an_check_row cd_check_row ct_check_row), sl_check_row⟩)
    (c_check_row : PySem.W.codeIn K cd_check_row "check_row" = true)
    (k_check_row : PySem.W.keepIn K (.ref f_check_row) = true)
    (a_agreed : PySem.W.nsIn K mainGlobals "_agreed" = some (some (.ref f_agreed)))
    (l_agreed : K.lookup f_agreed = some ⟨oc_agreed, od_agreed, .func (PySem.W.fnOf "_agreed" "_agreed" (defArgs s_agreed) (defBody s_agreed) (defScope s_agreed) .none kV_agreed dc_agreed pm_agreed an_agreed (.ref cp_agreed) ct_agreed), sl_agreed⟩)
    (c_agreed : PySem.W.codeIn K (.ref cp_agreed) "_agreed" = true)
    (k_agreed : PySem.W.keepIn K (.ref f_agreed) = true)
    (u_agreed : K.lookup cp_agreed = some ⟨q1_agreed, q2_agreed, .fields vs_agreed, q4_agreed⟩)
    (v_agreed : vs_agreed[11]? = some (.ref tb_agreed))
    (n_agreed : K.lookup tb_agreed = none)
    (r_agreed : (recsOf q).find? (fun e => e.name == ("_agreed" : Str)) = some e_agreed)
    (a_even : PySem.W.nsIn K mainGlobals "_even" = some (some (.ref f_even)))
    (l_even : K.lookup f_even = some ⟨oc_even, od_even, .func (PySem.W.fnOf "_even" "_even" (defArgs s_even) (defBody s_even) (defScope s_even) .none kV_even dc_even pm_even an_even (.ref cp_even) ct_even), sl_even⟩)
    (c_even : PySem.W.codeIn K (.ref cp_even) "_even" = true)
    (k_even : PySem.W.keepIn K (.ref f_even) = true)
    (u_even : K.lookup cp_even = some ⟨q1_even, q2_even, .fields vs_even, q4_even⟩)
    (v_even : vs_even[11]? = some (.ref tb_even))
    (n_even : K.lookup tb_even = none)
    (r_even : (recsOf q).find? (fun e => e.name == ("_even" : Str)) = some e_even)
    (a_growing : PySem.W.nsIn K mainGlobals "_growing" = some (some (.ref f_growing)))
    (l_growing : K.lookup f_growing = some ⟨oc_growing, od_growing, .func (PySem.W.fnOf "_growing" "_growing" (defArgs s_growing) (defBody s_growing) (defScope s_growing) .none kV_growing dc_growing pm_growing an_growing cd_growing ct_growing), sl_growing⟩)
    (c_growing : PySem.W.codeIn K cd_growing "_growing" = true)
    (k_growing : PySem.W.keepIn K (.ref f_growing) = true)
    (a_heard : PySem.W.nsIn K mainGlobals "_heard" = some (some (.ref f_heard)))
    (l_heard : K.lookup f_heard = some ⟨oc_heard, od_heard, .func (PySem.W.fnOf "_heard" "_heard" (defArgs s_heard) (defBody s_heard) (defScope s_heard) .none kV_heard dc_heard pm_heard an_heard cd_heard ct_heard), sl_heard⟩)
    (c_heard : PySem.W.codeIn K cd_heard "_heard" = true)
    (k_heard : PySem.W.keepIn K (.ref f_heard) = true)
    (a_kept : PySem.W.nsIn K mainGlobals "_kept" = some (some (.ref f_kept)))
    (l_kept : K.lookup f_kept = some ⟨oc_kept, od_kept, .func (PySem.W.fnOf "_kept" "_kept" (defArgs s_kept) (defBody s_kept) (defScope s_kept) .none kV_kept dc_kept pm_kept an_kept cd_kept ct_kept), sl_kept⟩)
    (c_kept : PySem.W.codeIn K cd_kept "_kept" = true)
    (k_kept : PySem.W.keepIn K (.ref f_kept) = true)
    (a_mixed : PySem.W.nsIn K mainGlobals "_mixed" = some (some (.ref f_mixed)))
    (l_mixed : K.lookup f_mixed = some ⟨oc_mixed, od_mixed, .func (PySem.W.fnOf "_mixed" "_mixed" (defArgs s_mixed) (defBody s_mixed) (defScope s_mixed) .none kV_mixed dc_mixed pm_mixed an_mixed cd_mixed ct_mixed), sl_mixed⟩)
    (c_mixed : PySem.W.codeIn K cd_mixed "_mixed" = true)
    (k_mixed : PySem.W.keepIn K (.ref f_mixed) = true)
    (a_most : PySem.W.nsIn K mainGlobals "_most" = some (some (.ref f_most)))
    (l_most : K.lookup f_most = some ⟨oc_most, od_most, .func (PySem.W.fnOf "_most" "_most" (defArgs s_most) (defBody s_most) (defScope s_most) .none kV_most dc_most pm_most an_most (.ref cp_most) ct_most), sl_most⟩)
    (c_most : PySem.W.codeIn K (.ref cp_most) "_most" = true)
    (k_most : PySem.W.keepIn K (.ref f_most) = true)
    (u_most : K.lookup cp_most = some ⟨q1_most, q2_most, .fields vs_most, q4_most⟩)
    (v_most : vs_most[11]? = some (.ref tb_most))
    (n_most : K.lookup tb_most = none)
    (r_most : (recsOf q).find? (fun e => e.name == ("_most" : Str)) = some e_most)
    (a_order : PySem.W.nsIn K mainGlobals "_order" = some (some (.ref f_order)))
    (l_order : K.lookup f_order = some ⟨oc_order, od_order, .func (PySem.W.fnOf "_order" "_order" (defArgs s_order) (defBody s_order) (defScope s_order) .none kV_order dc_order pm_order an_order cd_order ct_order), sl_order⟩)
    (c_order : PySem.W.codeIn K cd_order "_order" = true)
    (k_order : PySem.W.keepIn K (.ref f_order) = true)
    (a_repeat : PySem.W.nsIn K mainGlobals "_repeat" = some (some (.ref f_repeat)))
    (l_repeat : K.lookup f_repeat = some ⟨oc_repeat, od_repeat, .func (PySem.W.fnOf "_repeat" "_repeat" (defArgs s_repeat) (defBody s_repeat) (defScope s_repeat) .none kV_repeat dc_repeat pm_repeat an_repeat cd_repeat ct_repeat), sl_repeat⟩)
    (c_repeat : PySem.W.codeIn K cd_repeat "_repeat" = true)
    (k_repeat : PySem.W.keepIn K (.ref f_repeat) = true)
    (a_keeps_all : PySem.W.nsIn K mainGlobals "keeps_all" = some (some (.ref f_keeps_all)))
    (l_keeps_all : K.lookup f_keeps_all = some ⟨oc_keeps_all, od_keeps_all, .func (PySem.W.fnOf "keeps_all" "keeps_all" (defArgs s_keeps_all) (defBody s_keeps_all) (defScope s_keeps_all) .none kV_keeps_all dc_keeps_all pm_keeps_all an_keeps_all cd_keeps_all ct_keeps_all), sl_keeps_all⟩)
    (c_keeps_all : PySem.W.codeIn K cd_keeps_all "keeps_all" = true)
    (k_keeps_all : PySem.W.keepIn K (.ref f_keeps_all) = true)
    (a_by_parts : PySem.W.nsIn K mainGlobals "_by_parts" = some (some (.ref f_by_parts)))
    (l_by_parts : K.lookup f_by_parts = some ⟨oc_by_parts, od_by_parts, .func (PySem.W.fnOf "_by_parts" "_by_parts" (defArgs s_by_parts) (defBody s_by_parts) (defScope s_by_parts) .none kV_by_parts dc_by_parts pm_by_parts an_by_parts cd_by_parts ct_by_parts), sl_by_parts⟩)
    (c_by_parts : PySem.W.codeIn K cd_by_parts "_by_parts" = true)
    (k_by_parts : PySem.W.keepIn K (.ref f_by_parts) = true)
    (a_is_parts : PySem.W.nsIn K mainGlobals "is_parts" = some (some (.ref f_is_parts)))
    (l_is_parts : K.lookup f_is_parts = some ⟨oc_is_parts, od_is_parts, .func (PySem.W.fnOf "is_parts" "is_parts" (defArgs s_is_parts) (defBody s_is_parts) (defScope s_is_parts) .none kV_is_parts dc_is_parts pm_is_parts an_is_parts (.ref cp_is_parts) ct_is_parts), sl_is_parts⟩)
    (c_is_parts : PySem.W.codeIn K (.ref cp_is_parts) "is_parts" = true)
    (k_is_parts : PySem.W.keepIn K (.ref f_is_parts) = true)
    (u_is_parts : K.lookup cp_is_parts = some ⟨q1_is_parts, q2_is_parts, .fields vs_is_parts, q4_is_parts⟩)
    (v_is_parts : vs_is_parts[11]? = some (.ref tb_is_parts))
    (n_is_parts : K.lookup tb_is_parts = none)
    (r_is_parts : (recsOf q).find? (fun e => e.name == ("is_parts" : Str)) = some e_is_parts)
    (a_parts_ways : PySem.W.nsIn K mainGlobals "parts_ways" = some (some (.ref f_parts_ways)))
    (l_parts_ways : K.lookup f_parts_ways = some ⟨oc_parts_ways, od_parts_ways, .func (PySem.W.fnOf "parts_ways" "parts_ways" (defArgs s_parts_ways) (defBody s_parts_ways) (defScope s_parts_ways) .none kV_parts_ways dc_parts_ways pm_parts_ways an_parts_ways (.ref cp_parts_ways) ct_parts_ways), sl_parts_ways⟩)
    (c_parts_ways : PySem.W.codeIn K (.ref cp_parts_ways) "parts_ways" = true)
    (k_parts_ways : PySem.W.keepIn K (.ref f_parts_ways) = true)
    (u_parts_ways : K.lookup cp_parts_ways = some ⟨q1_parts_ways, q2_parts_ways, .fields vs_parts_ways, q4_parts_ways⟩)
    (v_parts_ways : vs_parts_ways[11]? = some (.ref tb_parts_ways))
    (n_parts_ways : K.lookup tb_parts_ways = none)
    (r_parts_ways : (recsOf q).find? (fun e => e.name == ("parts_ways" : Str)) = some e_parts_ways)
    (a_parts_answer : PySem.W.nsIn K mainGlobals "parts_answer" = some (some (.ref f_parts_answer)))
    (l_parts_answer : K.lookup f_parts_answer = some ⟨oc_parts_answer, od_parts_answer, .func (PySem.W.fnOf "parts_answer" "parts_answer" (defArgs s_parts_answer) (defBody s_parts_answer) (defScope s_parts_answer) .none kV_parts_answer dc_parts_answer pm_parts_answer an_parts_answer cd_parts_answer ct_parts_answer), sl_parts_answer⟩)
    (c_parts_answer : PySem.W.codeIn K cd_parts_answer "parts_answer" = true)
    (k_parts_answer : PySem.W.keepIn K (.ref f_parts_answer) = true)
    (a_law_taken : PySem.W.nsIn K mainGlobals "_law_taken" = some (some (.ref f_law_taken)))
    (l_law_taken : K.lookup f_law_taken = some ⟨oc_law_taken, od_law_taken, .func (PySem.W.fnOf "_law_taken" "_law_taken" (defArgs s_law_taken) (defBody s_law_taken) (defScope s_law_taken) .none kV_law_taken dc_law_taken pm_law_taken an_law_taken cd_law_taken ct_law_taken), sl_law_taken⟩)
    (c_law_taken : PySem.W.codeIn K cd_law_taken "_law_taken" = true)
    (k_law_taken : PySem.W.keepIn K (.ref f_law_taken) = true)
    (a_law_pick : PySem.W.nsIn K mainGlobals "_law_pick" = some (some (.ref f_law_pick)))
    (l_law_pick : K.lookup f_law_pick = some ⟨oc_law_pick, od_law_pick, .func (PySem.W.fnOf "_law_pick" "_law_pick" (defArgs s_law_pick) (defBody s_law_pick) (defScope s_law_pick) .none kV_law_pick dc_law_pick pm_law_pick an_law_pick cd_law_pick ct_law_pick), sl_law_pick⟩)
    (c_law_pick : PySem.W.codeIn K cd_law_pick "_law_pick" = true)
    (k_law_pick : PySem.W.keepIn K (.ref f_law_pick) = true)
    (a_law_alike : PySem.W.nsIn K mainGlobals "_law_alike" = some (some (.ref f_law_alike)))
    (l_law_alike : K.lookup f_law_alike = some ⟨oc_law_alike, od_law_alike, .func (PySem.W.fnOf "_law_alike" "_law_alike" (defArgs s_law_alike) (defBody s_law_alike) (defScope s_law_alike) .none kV_law_alike dc_law_alike pm_law_alike an_law_alike cd_law_alike ct_law_alike), sl_law_alike⟩)
    (c_law_alike : PySem.W.codeIn K cd_law_alike "_law_alike" = true)
    (k_law_alike : PySem.W.keepIn K (.ref f_law_alike) = true)
    (a_law_is : PySem.W.nsIn K mainGlobals "_law_is" = some (some (.ref f_law_is)))
    (l_law_is : K.lookup f_law_is = some ⟨oc_law_is, od_law_is, .func (PySem.W.fnOf "_law_is" "_law_is" (defArgs s_law_is) (defBody s_law_is) (defScope s_law_is) .none kV_law_is dc_law_is pm_law_is an_law_is cd_law_is ct_law_is), sl_law_is⟩)
    (c_law_is : PySem.W.codeIn K cd_law_is "_law_is" = true)
    (k_law_is : PySem.W.keepIn K (.ref f_law_is) = true)
    (a_law_rows : PySem.W.nsIn K mainGlobals "_law_rows" = some (some (.ref f_law_rows)))
    (l_law_rows : K.lookup f_law_rows = some ⟨oc_law_rows, od_law_rows, .func (PySem.W.fnOf "_law_rows" "_law_rows" (defArgs s_law_rows) (defBody s_law_rows) (defScope s_law_rows) .none kV_law_rows dc_law_rows pm_law_rows an_law_rows cd_law_rows ct_law_rows), sl_law_rows⟩)
    (c_law_rows : PySem.W.codeIn K cd_law_rows "_law_rows" = true)
    (k_law_rows : PySem.W.keepIn K (.ref f_law_rows) = true)
    (a_law_short : PySem.W.nsIn K mainGlobals "_law_short" = some (some (.ref f_law_short)))
    (l_law_short : K.lookup f_law_short = some ⟨oc_law_short, od_law_short, .func (PySem.W.fnOf "_law_short" "_law_short" (defArgs s_law_short) (defBody s_law_short) (defScope s_law_short) .none kV_law_short dc_law_short pm_law_short an_law_short cd_law_short ct_law_short), sl_law_short⟩)
    (c_law_short : PySem.W.codeIn K cd_law_short "_law_short" = true)
    (k_law_short : PySem.W.keepIn K (.ref f_law_short) = true)
    (a_law_row : PySem.W.nsIn K mainGlobals "_law_row" = some (some (.ref f_law_row)))
    (l_law_row : K.lookup f_law_row = some ⟨oc_law_row, od_law_row, .func (PySem.W.fnOf "_law_row" "_law_row" (defArgs s_law_row) (defBody s_law_row) (defScope s_law_row) .none kV_law_row dc_law_row pm_law_row an_law_row cd_law_row ct_law_row), sl_law_row⟩)
    (c_law_row : PySem.W.codeIn K cd_law_row "_law_row" = true)
    (k_law_row : PySem.W.keepIn K (.ref f_law_row) = true)
    (a_law_word : PySem.W.nsIn K mainGlobals "_law_word" = some (some (.ref f_law_word)))
    (l_law_word : K.lookup f_law_word = some ⟨oc_law_word, od_law_word, .func (PySem.W.fnOf "_law_word" "_law_word" (defArgs s_law_word) (defBody s_law_word) (defScope s_law_word) .none kV_law_word dc_law_word pm_law_word an_law_word cd_law_word ct_law_word), sl_law_word⟩)
    (c_law_word : PySem.W.codeIn K cd_law_word "_law_word" = true)
    (k_law_word : PySem.W.keepIn K (.ref f_law_word) = true)
    (a_law_voices : PySem.W.nsIn K mainGlobals "_law_voices" = some (some (.ref f_law_voices)))
    (l_law_voices : K.lookup f_law_voices = some ⟨oc_law_voices, od_law_voices, .func (PySem.W.fnOf "_law_voices" "_law_voices" (defArgs s_law_voices) (defBody s_law_voices) (defScope s_law_voices) .none kV_law_voices dc_law_voices pm_law_voices an_law_voices cd_law_voices ct_law_voices), sl_law_voices⟩)
    (c_law_voices : PySem.W.codeIn K cd_law_voices "_law_voices" = true)
    (k_law_voices : PySem.W.keepIn K (.ref f_law_voices) = true)
    (a_law_by_parts : PySem.W.nsIn K mainGlobals "_law_by_parts" = some (some (.ref f_law_by_parts)))
    (l_law_by_parts : K.lookup f_law_by_parts = some ⟨oc_law_by_parts, od_law_by_parts, .func (PySem.W.fnOf "_law_by_parts" "_law_by_parts" (defArgs s_law_by_parts) (defBody s_law_by_parts) (defScope s_law_by_parts) .none kV_law_by_parts dc_law_by_parts pm_law_by_parts an_law_by_parts cd_law_by_parts ct_law_by_parts), sl_law_by_parts⟩)
    (c_law_by_parts : PySem.W.codeIn K cd_law_by_parts "_law_by_parts" = true)
    (k_law_by_parts : PySem.W.keepIn K (.ref f_law_by_parts) = true)
    (a_law_is_whole : PySem.W.nsIn K mainGlobals "_law_is_whole" = some (some (.ref f_law_is_whole)))
    (l_law_is_whole : K.lookup f_law_is_whole = some ⟨oc_law_is_whole, od_law_is_whole, .func (PySem.W.fnOf "_law_is_whole" "_law_is_whole" (defArgs s_law_is_whole) (defBody s_law_is_whole) (defScope s_law_is_whole) .none kV_law_is_whole dc_law_is_whole pm_law_is_whole an_law_is_whole cd_law_is_whole ct_law_is_whole), sl_law_is_whole⟩)
    (c_law_is_whole : PySem.W.codeIn K cd_law_is_whole "_law_is_whole" = true)
    (k_law_is_whole : PySem.W.keepIn K (.ref f_law_is_whole) = true)
    (a_law : PySem.W.nsIn K mainGlobals "law" = some (some (.ref f_law)))
    (l_law : K.lookup f_law = some ⟨oc_law, od_law, .func (PySem.W.fnOf "law" "law" (defArgs s_law) (defBody s_law) (defScope s_law) .none kV_law dc_law pm_law an_law cd_law ct_law), sl_law⟩)
    (c_law : PySem.W.codeIn K cd_law "law" = true)
    (k_law : PySem.W.keepIn K (.ref f_law) = true)
    (n_ALLOW : PySem.W.nsIn K mainGlobals "ALLOW" = some (some w_ALLOW))
    (r_ALLOW : RelV (.str (ST [97, 108, 108, 111, 119])) w_ALLOW)
    (n_DENY : PySem.W.nsIn K mainGlobals "DENY" = some (some w_DENY))
    (r_DENY : RelV (.str (ST [100, 101, 110, 121])) w_DENY)
    (n_VOICES : PySem.W.nsIn K mainGlobals "VOICES" = some (some (.ref p_CVOICES)))
    (l_CVOICES : K.lookup p_CVOICES = some ⟨.type "tuple", none, .seq i_CVOICES m_CVOICES, s_CVOICES⟩)
    (z_CVOICES : i_CVOICES.size ≤ sizeLine)
    (v_CVOICES : Vals [.str (ST [97, 108, 108, 111, 119]), .str (ST [100, 101, 110, 121])] i_CVOICES.toList)
    (n_MOST_VOICES : PySem.W.nsIn K mainGlobals "MOST_VOICES" = some (some w_MOST_VOICES))
    (r_MOST_VOICES : RelV (.int (12)) w_MOST_VOICES)
    (n_SMALL_ROWS : PySem.W.nsIn K mainGlobals "SMALL_ROWS" = some (some (.ref p_CSMALL_ROWS)))
    (l_CSMALL_ROWS : K.lookup p_CSMALL_ROWS = some ⟨.type "tuple", none, .seq i_CSMALL_ROWS m_CSMALL_ROWS, s_CSMALL_ROWS⟩)
    (z_CSMALL_ROWS : i_CSMALL_ROWS.size ≤ sizeLine)
    (v_CSMALL_ROWS : Vals [.ref py1, .ref py2, .ref py3, .ref py4, .ref py5, .ref py6, .ref py7, .ref py8, .ref py9, .ref py10, .ref py11, .ref py12, .ref py13, .ref py14] i_CSMALL_ROWS.toList)
    (ly1 : K.lookup py1 = some ⟨.type "tuple", none, .seq iy1 my1, sy1⟩)
    (zy1 : iy1.size ≤ sizeLine)
    (vy1 : Vals [.str (ST [97, 108, 108, 111, 119])] iy1.toList)
    (ly2 : K.lookup py2 = some ⟨.type "tuple", none, .seq iy2 my2, sy2⟩)
    (zy2 : iy2.size ≤ sizeLine)
    (vy2 : Vals [.str (ST [100, 101, 110, 121])] iy2.toList)
    (ly3 : K.lookup py3 = some ⟨.type "tuple", none, .seq iy3 my3, sy3⟩)
    (zy3 : iy3.size ≤ sizeLine)
    (vy3 : Vals [.str (ST [97, 108, 108, 111, 119]), .str (ST [97, 108, 108, 111, 119])] iy3.toList)
    (ly4 : K.lookup py4 = some ⟨.type "tuple", none, .seq iy4 my4, sy4⟩)
    (zy4 : iy4.size ≤ sizeLine)
    (vy4 : Vals [.str (ST [97, 108, 108, 111, 119]), .str (ST [100, 101, 110, 121])] iy4.toList)
    (ly5 : K.lookup py5 = some ⟨.type "tuple", none, .seq iy5 my5, sy5⟩)
    (zy5 : iy5.size ≤ sizeLine)
    (vy5 : Vals [.str (ST [100, 101, 110, 121]), .str (ST [97, 108, 108, 111, 119])] iy5.toList)
    (ly6 : K.lookup py6 = some ⟨.type "tuple", none, .seq iy6 my6, sy6⟩)
    (zy6 : iy6.size ≤ sizeLine)
    (vy6 : Vals [.str (ST [100, 101, 110, 121]), .str (ST [100, 101, 110, 121])] iy6.toList)
    (ly7 : K.lookup py7 = some ⟨.type "tuple", none, .seq iy7 my7, sy7⟩)
    (zy7 : iy7.size ≤ sizeLine)
    (vy7 : Vals [.str (ST [97, 108, 108, 111, 119]), .str (ST [97, 108, 108, 111, 119]), .str (ST [97, 108, 108, 111, 119])] iy7.toList)
    (ly8 : K.lookup py8 = some ⟨.type "tuple", none, .seq iy8 my8, sy8⟩)
    (zy8 : iy8.size ≤ sizeLine)
    (vy8 : Vals [.str (ST [97, 108, 108, 111, 119]), .str (ST [97, 108, 108, 111, 119]), .str (ST [100, 101, 110, 121])] iy8.toList)
    (ly9 : K.lookup py9 = some ⟨.type "tuple", none, .seq iy9 my9, sy9⟩)
    (zy9 : iy9.size ≤ sizeLine)
    (vy9 : Vals [.str (ST [97, 108, 108, 111, 119]), .str (ST [100, 101, 110, 121]), .str (ST [97, 108, 108, 111, 119])] iy9.toList)
    (ly10 : K.lookup py10 = some ⟨.type "tuple", none, .seq iy10 my10, sy10⟩)
    (zy10 : iy10.size ≤ sizeLine)
    (vy10 : Vals [.str (ST [97, 108, 108, 111, 119]), .str (ST [100, 101, 110, 121]), .str (ST [100, 101, 110, 121])] iy10.toList)
    (ly11 : K.lookup py11 = some ⟨.type "tuple", none, .seq iy11 my11, sy11⟩)
    (zy11 : iy11.size ≤ sizeLine)
    (vy11 : Vals [.str (ST [100, 101, 110, 121]), .str (ST [97, 108, 108, 111, 119]), .str (ST [97, 108, 108, 111, 119])] iy11.toList)
    (ly12 : K.lookup py12 = some ⟨.type "tuple", none, .seq iy12 my12, sy12⟩)
    (zy12 : iy12.size ≤ sizeLine)
    (vy12 : Vals [.str (ST [100, 101, 110, 121]), .str (ST [97, 108, 108, 111, 119]), .str (ST [100, 101, 110, 121])] iy12.toList)
    (ly13 : K.lookup py13 = some ⟨.type "tuple", none, .seq iy13 my13, sy13⟩)
    (zy13 : iy13.size ≤ sizeLine)
    (vy13 : Vals [.str (ST [100, 101, 110, 121]), .str (ST [100, 101, 110, 121]), .str (ST [97, 108, 108, 111, 119])] iy13.toList)
    (ly14 : K.lookup py14 = some ⟨.type "tuple", none, .seq iy14 my14, sy14⟩)
    (zy14 : iy14.size ≤ sizeLine)
    (vy14 : Vals [.str (ST [100, 101, 110, 121]), .str (ST [100, 101, 110, 121]), .str (ST [100, 101, 110, 121])] iy14.toList)
    (n__TOLD : PySem.W.nsIn K mainGlobals "_TOLD" = some (some w__TOLD))
    (r__TOLD : RelV (.int (6)) w__TOLD)
    (z_range : PySem.W.nsIn K mainGlobals "range" = some none)
    (z_len : PySem.W.nsIn K mainGlobals "len" = some none)
    (z_tuple : PySem.W.nsIn K mainGlobals "tuple" = some none)
    (z_list : PySem.W.nsIn K mainGlobals "list" = some none)
    (z_isinstance : PySem.W.nsIn K mainGlobals "isinstance" = some none)
    (z_enumerate : PySem.W.nsIn K mainGlobals "enumerate" = some none)
    (z_all : PySem.W.nsIn K mainGlobals "all" = some none)
    (z_zip : PySem.W.nsIn K mainGlobals "zip" = some none)
    (z_int : PySem.W.nsIn K mainGlobals "int" = some none)
    (z_str : PySem.W.nsIn K mainGlobals "str" = some none)
    (z_bool : PySem.W.nsIn K mainGlobals "bool" = some none)
    (z_dict : PySem.W.nsIn K mainGlobals "dict" = some none)
    (n_CHECKS : PySem.W.nsIn K mainGlobals "_CHECKS" = some (some (.ref p_CHECKS)))
    (l_CHECKS : K.lookup p_CHECKS = some ⟨.type "dict", none, .dict es_CHECKS m_CHECKS, #[]⟩)
    (kl_CHECKS : PySem.W.KeysLit w.params es_CHECKS.toList)
    (x_CHECKS_0 : PySem.W.nsIn K p_CHECKS "agreed" = some (some (.ref f_agreed)))
    (x_CHECKS_1 : PySem.W.nsIn K p_CHECKS "even" = some (some (.ref f_even)))
    (x_CHECKS_2 : PySem.W.nsIn K p_CHECKS "growing" = some (some (.ref f_growing)))
    (x_CHECKS_3 : PySem.W.nsIn K p_CHECKS "heard" = some (some (.ref f_heard)))
    (x_CHECKS_4 : PySem.W.nsIn K p_CHECKS "kept" = some (some (.ref f_kept)))
    (x_CHECKS_5 : PySem.W.nsIn K p_CHECKS "mixed" = some (some (.ref f_mixed)))
    (x_CHECKS_6 : PySem.W.nsIn K p_CHECKS "most" = some (some (.ref f_most)))
    (x_CHECKS_7 : PySem.W.nsIn K p_CHECKS "order" = some (some (.ref f_order)))
    (x_CHECKS_8 : PySem.W.nsIn K p_CHECKS "parts" = some (some (.ref f_parts)))
    (x_CHECKS_9 : PySem.W.nsIn K p_CHECKS "repeat" = some (some (.ref f_repeat)))
    (nc_VoiceError : PySem.W.nsIn K mainGlobals "VoiceError" = some (some (.ref C_VoiceError)))
    (nc_NotParts : PySem.W.nsIn K mainGlobals "NotParts" = some (some (.ref C_NotParts)))
    (sv : PySem.W.subIn K (.ref C_VoiceError) (.type "BaseException") = some true)
    (dv : PySem.W.hasDictIn K C_VoiceError = true)
    (tv : PySem.W.typeIn K (.ref C_VoiceError) = some (.type "type"))
    (xe_NotParts : PySem.W.excIn K C_NotParts [.type "ValueError", .type "Exception", .type "BaseException", .type "object"] "ValueError.__new__" = true)
    (xk_NotParts : PySem.W.keepIn K (.ref C_NotParts) = true)
    (xs_NotParts : PySem.W.subIn K (.ref C_NotParts) (.type "BaseException") = some true)
    (xt_NotParts : PySem.W.typeIn K (.ref C_NotParts) = some (.type "type"))
    (xg_NotParts : PySem.W.findIn K (.ref C_NotParts) "__getattribute__" = some (some (.builtin "BaseException.__getattribute__")))
    (xa_NotParts : PySem.W.findIn K (.ref C_NotParts) "__getattr__" = some none)
    (xd_NotParts : PySem.W.hasDictIn K C_NotParts = true)
    (xc_NotParts : PySem.W.findIn K (.ref C_NotParts) "__class__" = some (some (.builtin "object.__class__")))
    (xm_NotParts : PySem.W.mroIn K C_NotParts (.type "object") = some true)
    (xv_NotParts : PySem.W.subIn K (.ref C_NotParts) (.ref C_VoiceError) = some true)
    (x1_NotParts : PySem.W.kitOne K (.ref C_NotParts) (.ref C_NotParts) = some true)
    (sn_cls : PySem.W.specialIn K (.builtin "object.__class__") "__get__" = some (some (.builtin "getset_descriptor.__get__")))
    (st_cls : PySem.W.takesIn K (.builtin "object.__class__") = some true)
    : LamX.LawAtS l w K CX0 15 63 "script" mg fa h := by
  have e0 := hfa.symm.trans (PySem.W.mg_of KX G a_law)
  have e : f_law = fa := (Value.ref.inj (Option.some.inj e0)).symm
  subst e
  let FX : Fx w K mg ⟨([(cp_turned_row, tb_turned_row), (cp_agreed, tb_agreed), (cp_even, tb_even), (cp_most, tb_most), (cp_is_parts, tb_is_parts), (cp_parts_ways, tb_parts_ways)] : List (Addr × Addr)).map (·.2), []⟩ [(cp_turned_row, tb_turned_row), (cp_agreed, tb_agreed), (cp_even, tb_even), (cp_most, tb_most), (cp_is_parts, tb_is_parts), (cp_parts_ways, tb_parts_ways)] := {
    a_parts := f_parts,
    d_parts := (PySem.W.fnOf "_parts" "_parts" (defArgs s_parts) (defBody s_parts) (defScope s_parts) .none kV_parts dc_parts pm_parts an_parts cd_parts ct_parts),
    F_parts := fun_mk (st := s_parts) l_parts c_parts k_parts,
    g_parts := PySem.W.mg_of KX G a_parts,
    b_parts := (fun_mk (st := s_parts) l_parts c_parts k_parts).binds (ps := ["told"]) fun _ _ _ _ _ _ us hl => match us, hl with | [_], _ => rfl,
    a_turned := f_turned,
    d_turned := (PySem.W.fnOf "turned" "turned" (defArgs s_turned) (defBody s_turned) (defScope s_turned) .none kV_turned dc_turned pm_turned an_turned cd_turned ct_turned),
    F_turned := fun_mk (st := s_turned) l_turned c_turned k_turned,
    g_turned := PySem.W.mg_of KX G a_turned,
    b_turned := (fun_mk (st := s_turned) l_turned c_turned k_turned).binds (ps := ["voice"]) fun _ _ _ _ _ _ us hl => match us, hl with | [_], _ => rfl,
    a_turned_row := f_turned_row,
    d_turned_row := (PySem.W.fnOf "turned_row" "turned_row" (defArgs s_turned_row) (defBody s_turned_row) (defScope s_turned_row) .none kV_turned_row dc_turned_row pm_turned_row an_turned_row (.ref cp_turned_row) ct_turned_row),
    F_turned_row := fun_mk (st := s_turned_row) l_turned_row c_turned_row k_turned_row,
    g_turned_row := PySem.W.mg_of KX G a_turned_row,
    b_turned_row := (fun_mk (st := s_turned_row) l_turned_row c_turned_row k_turned_row).binds (ps := ["row"]) fun _ _ _ _ _ _ us hl => match us, hl with | [_], _ => rfl,
    k_turned_row := cp_turned_row,
    t_turned_row := tb_turned_row,
    e_turned_row := rfl,
    m_turned_row := ⟨by simp, by simp⟩,
    a_turned_at := f_turned_at,
    d_turned_at := (PySem.W.fnOf "turned_at" "turned_at" (defArgs s_turned_at) (defBody s_turned_at) (defScope s_turned_at) .none kV_turned_at dc_turned_at pm_turned_at an_turned_at cd_turned_at ct_turned_at),
    F_turned_at := fun_mk (st := s_turned_at) l_turned_at c_turned_at k_turned_at,
    g_turned_at := PySem.W.mg_of KX G a_turned_at,
    b_turned_at := (fun_mk (st := s_turned_at) l_turned_at c_turned_at k_turned_at).binds (ps := ["row", "place"]) fun _ _ _ _ _ _ us hl => match us, hl with | [_, _], _ => rfl,
    a_greater_voice := f_greater_voice,
    d_greater_voice := (PySem.W.fnOf "greater_voice" "greater_voice" (defArgs s_greater_voice) (defBody s_greater_voice) (defScope s_greater_voice) .none kV_greater_voice dc_greater_voice pm_greater_voice an_greater_voice cd_greater_voice ct_greater_voice),
    F_greater_voice := fun_mk (st := s_greater_voice) l_greater_voice c_greater_voice k_greater_voice,
    g_greater_voice := PySem.W.mg_of KX G a_greater_voice,
    b_greater_voice := (fun_mk (st := s_greater_voice) l_greater_voice c_greater_voice k_greater_voice).binds (ps := ["row"]) fun _ _ _ _ _ _ us hl => match us, hl with | [_], _ => rfl,
    a_with_more := f_with_more,
    d_with_more := (PySem.W.fnOf "with_more" "with_more" (defArgs s_with_more) (defBody s_with_more) (defScope s_with_more) .none kV_with_more dc_with_more pm_with_more an_with_more cd_with_more ct_with_more),
    F_with_more := fun_mk (st := s_with_more) l_with_more c_with_more k_with_more,
    g_with_more := PySem.W.mg_of KX G a_with_more,
    b_with_more := (fun_mk (st := s_with_more) l_with_more c_with_more k_with_more).binds (ps := ["rows", "many"]) fun _ _ _ _ _ _ us hl => match us, hl with | [_, _], _ => rfl,
    a_first_wrong := f_first_wrong,
    d_first_wrong := (PySem.W.fnOf "_first_wrong" "_first_wrong" (defArgs s_first_wrong) (defBody s_first_wrong) (defScope s_first_wrong) .none kV_first_wrong dc_first_wrong pm_first_wrong an_first_wrong cd_first_wrong ct_first_wrong),
    F_first_wrong := fun_mk (st := s_first_wrong) l_first_wrong c_first_wrong k_first_wrong,
    g_first_wrong := PySem.W.mg_of KX G a_first_wrong,
    b_first_wrong := (fun_mk (st := s_first_wrong) l_first_wrong c_first_wrong k_first_wrong).binds (ps := ["items"]) fun _ _ _ _ _ _ us hl => match us, hl with | [_], _ => rfl,
    a_check_row := f_check_row,
    d_check_row := (PySem.W.fnOf "check_row" "check_row" (defArgs s_check_row) (defBody s_check_row) (defScope s_check_row) .none kV_check_row dc_check_row pm_check_row an_check_row cd_check_row ct_check_row),
    F_check_row := fun_mk (st := s_check_row) l_check_row c_check_row k_check_row,
    g_check_row := PySem.W.mg_of KX G a_check_row,
    b_check_row := (fun_mk (st := s_check_row) l_check_row c_check_row k_check_row).binds (ps := ["row"]) fun _ _ _ _ _ _ us hl => match us, hl with | [_], _ => rfl,
    a_agreed := f_agreed,
    d_agreed := (PySem.W.fnOf "_agreed" "_agreed" (defArgs s_agreed) (defBody s_agreed) (defScope s_agreed) .none kV_agreed dc_agreed pm_agreed an_agreed (.ref cp_agreed) ct_agreed),
    F_agreed := fun_mk (st := s_agreed) l_agreed c_agreed k_agreed,
    g_agreed := PySem.W.mg_of KX G a_agreed,
    b_agreed := (fun_mk (st := s_agreed) l_agreed c_agreed k_agreed).binds (ps := ["told"]) fun _ _ _ _ _ _ us hl => match us, hl with | [_], _ => rfl,
    k_agreed := cp_agreed,
    t_agreed := tb_agreed,
    e_agreed := rfl,
    m_agreed := ⟨by simp, by simp⟩,
    a_even := f_even,
    d_even := (PySem.W.fnOf "_even" "_even" (defArgs s_even) (defBody s_even) (defScope s_even) .none kV_even dc_even pm_even an_even (.ref cp_even) ct_even),
    F_even := fun_mk (st := s_even) l_even c_even k_even,
    g_even := PySem.W.mg_of KX G a_even,
    b_even := (fun_mk (st := s_even) l_even c_even k_even).binds (ps := ["told"]) fun _ _ _ _ _ _ us hl => match us, hl with | [_], _ => rfl,
    k_even := cp_even,
    t_even := tb_even,
    e_even := rfl,
    m_even := ⟨by simp, by simp⟩,
    a_growing := f_growing,
    d_growing := (PySem.W.fnOf "_growing" "_growing" (defArgs s_growing) (defBody s_growing) (defScope s_growing) .none kV_growing dc_growing pm_growing an_growing cd_growing ct_growing),
    F_growing := fun_mk (st := s_growing) l_growing c_growing k_growing,
    g_growing := PySem.W.mg_of KX G a_growing,
    b_growing := (fun_mk (st := s_growing) l_growing c_growing k_growing).binds (ps := ["told"]) fun _ _ _ _ _ _ us hl => match us, hl with | [_], _ => rfl,
    a_heard := f_heard,
    d_heard := (PySem.W.fnOf "_heard" "_heard" (defArgs s_heard) (defBody s_heard) (defScope s_heard) .none kV_heard dc_heard pm_heard an_heard cd_heard ct_heard),
    F_heard := fun_mk (st := s_heard) l_heard c_heard k_heard,
    g_heard := PySem.W.mg_of KX G a_heard,
    b_heard := (fun_mk (st := s_heard) l_heard c_heard k_heard).binds (ps := ["told"]) fun _ _ _ _ _ _ us hl => match us, hl with | [_], _ => rfl,
    a_kept := f_kept,
    d_kept := (PySem.W.fnOf "_kept" "_kept" (defArgs s_kept) (defBody s_kept) (defScope s_kept) .none kV_kept dc_kept pm_kept an_kept cd_kept ct_kept),
    F_kept := fun_mk (st := s_kept) l_kept c_kept k_kept,
    g_kept := PySem.W.mg_of KX G a_kept,
    b_kept := (fun_mk (st := s_kept) l_kept c_kept k_kept).binds (ps := ["told"]) fun _ _ _ _ _ _ us hl => match us, hl with | [_], _ => rfl,
    a_mixed := f_mixed,
    d_mixed := (PySem.W.fnOf "_mixed" "_mixed" (defArgs s_mixed) (defBody s_mixed) (defScope s_mixed) .none kV_mixed dc_mixed pm_mixed an_mixed cd_mixed ct_mixed),
    F_mixed := fun_mk (st := s_mixed) l_mixed c_mixed k_mixed,
    g_mixed := PySem.W.mg_of KX G a_mixed,
    b_mixed := (fun_mk (st := s_mixed) l_mixed c_mixed k_mixed).binds (ps := ["told"]) fun _ _ _ _ _ _ us hl => match us, hl with | [_], _ => rfl,
    a_most := f_most,
    d_most := (PySem.W.fnOf "_most" "_most" (defArgs s_most) (defBody s_most) (defScope s_most) .none kV_most dc_most pm_most an_most (.ref cp_most) ct_most),
    F_most := fun_mk (st := s_most) l_most c_most k_most,
    g_most := PySem.W.mg_of KX G a_most,
    b_most := (fun_mk (st := s_most) l_most c_most k_most).binds (ps := ["told"]) fun _ _ _ _ _ _ us hl => match us, hl with | [_], _ => rfl,
    k_most := cp_most,
    t_most := tb_most,
    e_most := rfl,
    m_most := ⟨by simp, by simp⟩,
    a_order := f_order,
    d_order := (PySem.W.fnOf "_order" "_order" (defArgs s_order) (defBody s_order) (defScope s_order) .none kV_order dc_order pm_order an_order cd_order ct_order),
    F_order := fun_mk (st := s_order) l_order c_order k_order,
    g_order := PySem.W.mg_of KX G a_order,
    b_order := (fun_mk (st := s_order) l_order c_order k_order).binds (ps := ["told"]) fun _ _ _ _ _ _ us hl => match us, hl with | [_], _ => rfl,
    a_repeat := f_repeat,
    d_repeat := (PySem.W.fnOf "_repeat" "_repeat" (defArgs s_repeat) (defBody s_repeat) (defScope s_repeat) .none kV_repeat dc_repeat pm_repeat an_repeat cd_repeat ct_repeat),
    F_repeat := fun_mk (st := s_repeat) l_repeat c_repeat k_repeat,
    g_repeat := PySem.W.mg_of KX G a_repeat,
    b_repeat := (fun_mk (st := s_repeat) l_repeat c_repeat k_repeat).binds (ps := ["told"]) fun _ _ _ _ _ _ us hl => match us, hl with | [_], _ => rfl,
    a_keeps_all := f_keeps_all,
    d_keeps_all := (PySem.W.fnOf "keeps_all" "keeps_all" (defArgs s_keeps_all) (defBody s_keeps_all) (defScope s_keeps_all) .none kV_keeps_all dc_keeps_all pm_keeps_all an_keeps_all cd_keeps_all ct_keeps_all),
    F_keeps_all := fun_mk (st := s_keeps_all) l_keeps_all c_keeps_all k_keeps_all,
    g_keeps_all := PySem.W.mg_of KX G a_keeps_all,
    b_keeps_all := (fun_mk (st := s_keeps_all) l_keeps_all c_keeps_all k_keeps_all).binds (ps := ["table", "wanted"]) fun _ _ _ _ _ _ us hl => match us, hl with | [_, _], _ => rfl,
    a_by_parts := f_by_parts,
    d_by_parts := (PySem.W.fnOf "_by_parts" "_by_parts" (defArgs s_by_parts) (defBody s_by_parts) (defScope s_by_parts) .none kV_by_parts dc_by_parts pm_by_parts an_by_parts cd_by_parts ct_by_parts),
    F_by_parts := fun_mk (st := s_by_parts) l_by_parts c_by_parts k_by_parts,
    g_by_parts := PySem.W.mg_of KX G a_by_parts,
    b_by_parts := (fun_mk (st := s_by_parts) l_by_parts c_by_parts k_by_parts).binds (ps := ["small", "row"]) fun _ _ _ _ _ _ us hl => match us, hl with | [_, _], _ => rfl,
    a_is_parts := f_is_parts,
    d_is_parts := (PySem.W.fnOf "is_parts" "is_parts" (defArgs s_is_parts) (defBody s_is_parts) (defScope s_is_parts) .none kV_is_parts dc_is_parts pm_is_parts an_is_parts (.ref cp_is_parts) ct_is_parts),
    F_is_parts := fun_mk (st := s_is_parts) l_is_parts c_is_parts k_is_parts,
    g_is_parts := PySem.W.mg_of KX G a_is_parts,
    b_is_parts := (fun_mk (st := s_is_parts) l_is_parts c_is_parts k_is_parts).binds (ps := ["small"]) fun _ _ _ _ _ _ us hl => match us, hl with | [_], _ => rfl,
    k_is_parts := cp_is_parts,
    t_is_parts := tb_is_parts,
    e_is_parts := rfl,
    m_is_parts := ⟨by simp, by simp⟩,
    a_parts_ways := f_parts_ways,
    d_parts_ways := (PySem.W.fnOf "parts_ways" "parts_ways" (defArgs s_parts_ways) (defBody s_parts_ways) (defScope s_parts_ways) .none kV_parts_ways dc_parts_ways pm_parts_ways an_parts_ways (.ref cp_parts_ways) ct_parts_ways),
    F_parts_ways := fun_mk (st := s_parts_ways) l_parts_ways c_parts_ways k_parts_ways,
    g_parts_ways := PySem.W.mg_of KX G a_parts_ways,
    b_parts_ways := (fun_mk (st := s_parts_ways) l_parts_ways c_parts_ways k_parts_ways).binds (ps := []) fun _ _ _ _ _ _ us hl => match us, hl with | [], _ => rfl,
    k_parts_ways := cp_parts_ways,
    t_parts_ways := tb_parts_ways,
    e_parts_ways := rfl,
    m_parts_ways := ⟨by simp, by simp⟩,
    a_parts_answer := f_parts_answer,
    d_parts_answer := (PySem.W.fnOf "parts_answer" "parts_answer" (defArgs s_parts_answer) (defBody s_parts_answer) (defScope s_parts_answer) .none kV_parts_answer dc_parts_answer pm_parts_answer an_parts_answer cd_parts_answer ct_parts_answer),
    F_parts_answer := fun_mk (st := s_parts_answer) l_parts_answer c_parts_answer k_parts_answer,
    g_parts_answer := PySem.W.mg_of KX G a_parts_answer,
    b_parts_answer := (fun_mk (st := s_parts_answer) l_parts_answer c_parts_answer k_parts_answer).binds (ps := ["small", "row"]) fun _ _ _ _ _ _ us hl => match us, hl with | [_, _], _ => rfl,
    a_law_taken := f_law_taken,
    d_law_taken := (PySem.W.fnOf "_law_taken" "_law_taken" (defArgs s_law_taken) (defBody s_law_taken) (defScope s_law_taken) .none kV_law_taken dc_law_taken pm_law_taken an_law_taken cd_law_taken ct_law_taken),
    F_law_taken := fun_mk (st := s_law_taken) l_law_taken c_law_taken k_law_taken,
    g_law_taken := PySem.W.mg_of KX G a_law_taken,
    b_law_taken := (fun_mk (st := s_law_taken) l_law_taken c_law_taken k_law_taken).binds (ps := ["row", "many"]) fun _ _ _ _ _ _ us hl => match us, hl with | [_, _], _ => rfl,
    a_law_pick := f_law_pick,
    d_law_pick := (PySem.W.fnOf "_law_pick" "_law_pick" (defArgs s_law_pick) (defBody s_law_pick) (defScope s_law_pick) .none kV_law_pick dc_law_pick pm_law_pick an_law_pick cd_law_pick ct_law_pick),
    F_law_pick := fun_mk (st := s_law_pick) l_law_pick c_law_pick k_law_pick,
    g_law_pick := PySem.W.mg_of KX G a_law_pick,
    b_law_pick := (fun_mk (st := s_law_pick) l_law_pick c_law_pick k_law_pick).binds (ps := ["row", "kinds"]) fun _ _ _ _ _ _ us hl => match us, hl with | [_, _], _ => rfl,
    a_law_alike := f_law_alike,
    d_law_alike := (PySem.W.fnOf "_law_alike" "_law_alike" (defArgs s_law_alike) (defBody s_law_alike) (defScope s_law_alike) .none kV_law_alike dc_law_alike pm_law_alike an_law_alike cd_law_alike ct_law_alike),
    F_law_alike := fun_mk (st := s_law_alike) l_law_alike c_law_alike k_law_alike,
    g_law_alike := PySem.W.mg_of KX G a_law_alike,
    b_law_alike := (fun_mk (st := s_law_alike) l_law_alike c_law_alike k_law_alike).binds (ps := ["found", "due"]) fun _ _ _ _ _ _ us hl => match us, hl with | [_, _], _ => rfl,
    a_law_is := f_law_is,
    d_law_is := (PySem.W.fnOf "_law_is" "_law_is" (defArgs s_law_is) (defBody s_law_is) (defScope s_law_is) .none kV_law_is dc_law_is pm_law_is an_law_is cd_law_is ct_law_is),
    F_law_is := fun_mk (st := s_law_is) l_law_is c_law_is k_law_is,
    g_law_is := PySem.W.mg_of KX G a_law_is,
    b_law_is := (fun_mk (st := s_law_is) l_law_is c_law_is k_law_is).binds (ps := ["found", "due"]) fun _ _ _ _ _ _ us hl => match us, hl with | [_, _], _ => rfl,
    a_law_rows := f_law_rows,
    d_law_rows := (PySem.W.fnOf "_law_rows" "_law_rows" (defArgs s_law_rows) (defBody s_law_rows) (defScope s_law_rows) .none kV_law_rows dc_law_rows pm_law_rows an_law_rows cd_law_rows ct_law_rows),
    F_law_rows := fun_mk (st := s_law_rows) l_law_rows c_law_rows k_law_rows,
    g_law_rows := PySem.W.mg_of KX G a_law_rows,
    b_law_rows := (fun_mk (st := s_law_rows) l_law_rows c_law_rows k_law_rows).binds (ps := ["length"]) fun _ _ _ _ _ _ us hl => match us, hl with | [_], _ => rfl,
    a_law_short := f_law_short,
    d_law_short := (PySem.W.fnOf "_law_short" "_law_short" (defArgs s_law_short) (defBody s_law_short) (defScope s_law_short) .none kV_law_short dc_law_short pm_law_short an_law_short cd_law_short ct_law_short),
    F_law_short := fun_mk (st := s_law_short) l_law_short c_law_short k_law_short,
    g_law_short := PySem.W.mg_of KX G a_law_short,
    b_law_short := (fun_mk (st := s_law_short) l_law_short c_law_short k_law_short).binds (ps := ["most"]) fun _ _ _ _ _ _ us hl => match us, hl with | [_], _ => rfl,
    a_law_row := f_law_row,
    d_law_row := (PySem.W.fnOf "_law_row" "_law_row" (defArgs s_law_row) (defBody s_law_row) (defScope s_law_row) .none kV_law_row dc_law_row pm_law_row an_law_row cd_law_row ct_law_row),
    F_law_row := fun_mk (st := s_law_row) l_law_row c_law_row k_law_row,
    g_law_row := PySem.W.mg_of KX G a_law_row,
    b_law_row := (fun_mk (st := s_law_row) l_law_row c_law_row k_law_row).binds (ps := ["row", "most"]) fun _ _ _ _ _ _ us hl => match us, hl with | [_, _], _ => rfl,
    a_law_word := f_law_word,
    d_law_word := (PySem.W.fnOf "_law_word" "_law_word" (defArgs s_law_word) (defBody s_law_word) (defScope s_law_word) .none kV_law_word dc_law_word pm_law_word an_law_word cd_law_word ct_law_word),
    F_law_word := fun_mk (st := s_law_word) l_law_word c_law_word k_law_word,
    g_law_word := PySem.W.mg_of KX G a_law_word,
    b_law_word := (fun_mk (st := s_law_word) l_law_word c_law_word k_law_word).binds (ps := ["sign"]) fun _ _ _ _ _ _ us hl => match us, hl with | [_], _ => rfl,
    a_law_voices := f_law_voices,
    d_law_voices := (PySem.W.fnOf "_law_voices" "_law_voices" (defArgs s_law_voices) (defBody s_law_voices) (defScope s_law_voices) .none kV_law_voices dc_law_voices pm_law_voices an_law_voices cd_law_voices ct_law_voices),
    F_law_voices := fun_mk (st := s_law_voices) l_law_voices c_law_voices k_law_voices,
    g_law_voices := PySem.W.mg_of KX G a_law_voices,
    b_law_voices := (fun_mk (st := s_law_voices) l_law_voices c_law_voices k_law_voices).binds (ps := ["text"]) fun _ _ _ _ _ _ us hl => match us, hl with | [_], _ => rfl,
    a_law_by_parts := f_law_by_parts,
    d_law_by_parts := (PySem.W.fnOf "_law_by_parts" "_law_by_parts" (defArgs s_law_by_parts) (defBody s_law_by_parts) (defScope s_law_by_parts) .none kV_law_by_parts dc_law_by_parts pm_law_by_parts an_law_by_parts cd_law_by_parts ct_law_by_parts),
    F_law_by_parts := fun_mk (st := s_law_by_parts) l_law_by_parts c_law_by_parts k_law_by_parts,
    g_law_by_parts := PySem.W.mg_of KX G a_law_by_parts,
    b_law_by_parts := (fun_mk (st := s_law_by_parts) l_law_by_parts c_law_by_parts k_law_by_parts).binds (ps := ["told", "text", "row"]) fun _ _ _ _ _ _ us hl => match us, hl with | [_, _, _], _ => rfl,
    a_law_is_whole := f_law_is_whole,
    d_law_is_whole := (PySem.W.fnOf "_law_is_whole" "_law_is_whole" (defArgs s_law_is_whole) (defBody s_law_is_whole) (defScope s_law_is_whole) .none kV_law_is_whole dc_law_is_whole pm_law_is_whole an_law_is_whole cd_law_is_whole ct_law_is_whole),
    F_law_is_whole := fun_mk (st := s_law_is_whole) l_law_is_whole c_law_is_whole k_law_is_whole,
    g_law_is_whole := PySem.W.mg_of KX G a_law_is_whole,
    b_law_is_whole := (fun_mk (st := s_law_is_whole) l_law_is_whole c_law_is_whole k_law_is_whole).binds (ps := ["told"]) fun _ _ _ _ _ _ us hl => match us, hl with | [_], _ => rfl,
    a_law := f_law,
    d_law := (PySem.W.fnOf "law" "law" (defArgs s_law) (defBody s_law) (defScope s_law) .none kV_law dc_law pm_law an_law cd_law ct_law),
    F_law := fun_mk (st := s_law) l_law c_law k_law,
    g_law := PySem.W.mg_of KX G a_law,
    b_law := (fun_mk (st := s_law) l_law c_law k_law).binds (ps := ["script"]) fun _ _ _ _ _ _ us hl => match us, hl with | [_], _ => rfl,
    c_ALLOW := ⟨_, PySem.W.mg_of KX G n_ALLOW, r_ALLOW⟩,
    c_DENY := ⟨_, PySem.W.mg_of KX G n_DENY, r_DENY⟩,
    c_VOICES := ⟨.ref p_CVOICES, .ref p_CVOICES, PySem.W.mg_of KX G n_VOICES, rfl, (wr_tup l_CVOICES z_CVOICES v_CVOICES (.cons (wr_atom fun _ => .str) (.cons (wr_atom fun _ => .str) .nil)))⟩,
    c_MOST_VOICES := ⟨_, PySem.W.mg_of KX G n_MOST_VOICES, r_MOST_VOICES⟩,
    c_SMALL_ROWS := ⟨.ref p_CSMALL_ROWS, .ref p_CSMALL_ROWS, PySem.W.mg_of KX G n_SMALL_ROWS, rfl, (wr_tup l_CSMALL_ROWS z_CSMALL_ROWS v_CSMALL_ROWS (.cons (wr_tup ly1 zy1 vy1 (.cons (wr_atom fun _ => .str) .nil)) (.cons (wr_tup ly2 zy2 vy2 (.cons (wr_atom fun _ => .str) .nil)) (.cons (wr_tup ly3 zy3 vy3 (.cons (wr_atom fun _ => .str) (.cons (wr_atom fun _ => .str) .nil))) (.cons (wr_tup ly4 zy4 vy4 (.cons (wr_atom fun _ => .str) (.cons (wr_atom fun _ => .str) .nil))) (.cons (wr_tup ly5 zy5 vy5 (.cons (wr_atom fun _ => .str) (.cons (wr_atom fun _ => .str) .nil))) (.cons (wr_tup ly6 zy6 vy6 (.cons (wr_atom fun _ => .str) (.cons (wr_atom fun _ => .str) .nil))) (.cons (wr_tup ly7 zy7 vy7 (.cons (wr_atom fun _ => .str) (.cons (wr_atom fun _ => .str) (.cons (wr_atom fun _ => .str) .nil)))) (.cons (wr_tup ly8 zy8 vy8 (.cons (wr_atom fun _ => .str) (.cons (wr_atom fun _ => .str) (.cons (wr_atom fun _ => .str) .nil)))) (.cons (wr_tup ly9 zy9 vy9 (.cons (wr_atom fun _ => .str) (.cons (wr_atom fun _ => .str) (.cons (wr_atom fun _ => .str) .nil)))) (.cons (wr_tup ly10 zy10 vy10 (.cons (wr_atom fun _ => .str) (.cons (wr_atom fun _ => .str) (.cons (wr_atom fun _ => .str) .nil)))) (.cons (wr_tup ly11 zy11 vy11 (.cons (wr_atom fun _ => .str) (.cons (wr_atom fun _ => .str) (.cons (wr_atom fun _ => .str) .nil)))) (.cons (wr_tup ly12 zy12 vy12 (.cons (wr_atom fun _ => .str) (.cons (wr_atom fun _ => .str) (.cons (wr_atom fun _ => .str) .nil)))) (.cons (wr_tup ly13 zy13 vy13 (.cons (wr_atom fun _ => .str) (.cons (wr_atom fun _ => .str) (.cons (wr_atom fun _ => .str) .nil)))) (.cons (wr_tup ly14 zy14 vy14 (.cons (wr_atom fun _ => .str) (.cons (wr_atom fun _ => .str) (.cons (wr_atom fun _ => .str) .nil)))) .nil)))))))))))))))⟩,
    c__TOLD := ⟨_, PySem.W.mg_of KX G n__TOLD, r__TOLD⟩,
    z_range := PySem.W.mg_none_of KX G z_range,
    z_len := PySem.W.mg_none_of KX G z_len,
    z_tuple := PySem.W.mg_none_of KX G z_tuple,
    z_list := PySem.W.mg_none_of KX G z_list,
    z_isinstance := PySem.W.mg_none_of KX G z_isinstance,
    z_enumerate := PySem.W.mg_none_of KX G z_enumerate,
    z_all := PySem.W.mg_none_of KX G z_all,
    z_zip := PySem.W.mg_none_of KX G z_zip,
    z_int := PySem.W.mg_none_of KX G z_int,
    z_str := PySem.W.mg_none_of KX G z_str,
    z_bool := PySem.W.mg_none_of KX G z_bool,
    z_dict := PySem.W.mg_none_of KX G z_dict,
    A := fun j => ([0, 0, 0, 0, 0, 0, 0, 0, 0, 0, 0, 0, 0, 0, 0, 0, 0, 0, 0, 0, 0, 0, 0, 0, 0, 0, 0, 0, 0, 0, 0, 0, 0, f_agreed, f_even, f_growing, f_heard, f_kept, f_mixed, f_most, f_order, f_parts, f_repeat] : List Addr).getD j 0,
    A_41 := rfl,
    ad_CHECKS := p_CHECKS,
    g_CHECKS := PySem.W.mg_of KX G n_CHECKS,
    k_CHECKS := ktab_of (by
      intro p hp
      simp only [tb_CHECKS, List.mem_cons, List.not_mem_nil, or_false] at hp
      rcases hp with rfl | rfl | rfl | rfl | rfl | rfl | rfl | rfl | rfl | rfl
      · exact ⟨.ref f_agreed, ⟨es_CHECKS, m_CHECKS, _, l_CHECKS, kl_CHECKS, x_CHECKS_0, rfl⟩, wr_atom fun _ => .fn⟩
      · exact ⟨.ref f_even, ⟨es_CHECKS, m_CHECKS, _, l_CHECKS, kl_CHECKS, x_CHECKS_1, rfl⟩, wr_atom fun _ => .fn⟩
      · exact ⟨.ref f_growing, ⟨es_CHECKS, m_CHECKS, _, l_CHECKS, kl_CHECKS, x_CHECKS_2, rfl⟩, wr_atom fun _ => .fn⟩
      · exact ⟨.ref f_heard, ⟨es_CHECKS, m_CHECKS, _, l_CHECKS, kl_CHECKS, x_CHECKS_3, rfl⟩, wr_atom fun _ => .fn⟩
      · exact ⟨.ref f_kept, ⟨es_CHECKS, m_CHECKS, _, l_CHECKS, kl_CHECKS, x_CHECKS_4, rfl⟩, wr_atom fun _ => .fn⟩
      · exact ⟨.ref f_mixed, ⟨es_CHECKS, m_CHECKS, _, l_CHECKS, kl_CHECKS, x_CHECKS_5, rfl⟩, wr_atom fun _ => .fn⟩
      · exact ⟨.ref f_most, ⟨es_CHECKS, m_CHECKS, _, l_CHECKS, kl_CHECKS, x_CHECKS_6, rfl⟩, wr_atom fun _ => .fn⟩
      · exact ⟨.ref f_order, ⟨es_CHECKS, m_CHECKS, _, l_CHECKS, kl_CHECKS, x_CHECKS_7, rfl⟩, wr_atom fun _ => .fn⟩
      · exact ⟨.ref f_parts, ⟨es_CHECKS, m_CHECKS, _, l_CHECKS, kl_CHECKS, x_CHECKS_8, rfl⟩, wr_atom fun _ => .fn⟩
      · exact ⟨.ref f_repeat, ⟨es_CHECKS, m_CHECKS, _, l_CHECKS, kl_CHECKS, x_CHECKS_9, rfl⟩, wr_atom fun _ => .fn⟩),
    ac_VoiceError := C_VoiceError,
    gc_VoiceError := PySem.W.mg_of KX G nc_VoiceError,
    ac_NotParts := C_NotParts,
    gc_NotParts := PySem.W.mg_of KX G nc_NotParts,
    x_NotParts := ⟨⟨_, _, _, _, PySem.F.excBase_ValueError, xe_NotParts⟩, PySem.W.mg_of KX G nc_NotParts, xk_NotParts, xs_NotParts, xt_NotParts⟩,
    tc_NotParts := ⟨⟨xg_NotParts, xa_NotParts, xs_NotParts, xd_NotParts, xc_NotParts, sn_cls, st_cls, xm_NotParts⟩, PySem.W.exm_ref sv dv tv xv_NotParts, x1_NotParts⟩ }
  have T_turned_row := tab _ _ cp_turned_row tb_turned_row r_turned_row (tabIn_of a_turned_row l_turned_row rfl u_turned_row v_turned_row)
  have T_agreed := tab _ _ cp_agreed tb_agreed r_agreed (tabIn_of a_agreed l_agreed rfl u_agreed v_agreed)
  have T_even := tab _ _ cp_even tb_even r_even (tabIn_of a_even l_even rfl u_even v_even)
  have T_most := tab _ _ cp_most tb_most r_most (tabIn_of a_most l_most rfl u_most v_most)
  have T_is_parts := tab _ _ cp_is_parts tb_is_parts r_is_parts (tabIn_of a_is_parts l_is_parts rfl u_is_parts v_is_parts)
  have T_parts_ways := tab _ _ cp_parts_ways tb_parts_ways r_parts_ways (tabIn_of a_parts_ways l_parts_ways rfl u_parts_ways v_parts_ways)
  have hT : ∀ p ∈ ([(cp_turned_row, tb_turned_row), (cp_agreed, tb_agreed), (cp_even, tb_even), (cp_most, tb_most), (cp_is_parts, tb_is_parts), (cp_parts_ways, tb_parts_ways)] : List (Addr × Addr)), h.get? p.2 = some { cls := .none, data := .fields #[] } := by
    intro p hp
    simp only [List.mem_cons, List.not_mem_nil, or_false] at hp
    rcases hp with rfl | rfl | rfl | rfl | rfl | rfl
    · exact T_turned_row.2
    · exact T_agreed.2
    · exact T_even.2
    · exact T_most.2
    · exact T_is_parts.2
    · exact T_parts_ways.2
  have nT : ∀ p ∈ ([(cp_turned_row, tb_turned_row), (cp_agreed, tb_agreed), (cp_even, tb_even), (cp_most, tb_most), (cp_is_parts, tb_is_parts), (cp_parts_ways, tb_parts_ways)] : List (Addr × Addr)), K.lookup p.2 = none := by
    intro p hp
    simp only [List.mem_cons, List.not_mem_nil, or_false] at hp
    rcases hp with rfl | rfl | rfl | rfl | rfl | rfl
    · exact n_turned_row
    · exact n_agreed
    · exact n_even
    · exact n_most
    · exact n_is_parts
    · exact n_parts_ways
  have hC : ∀ p ∈ ([(cp_turned_row, tb_turned_row), (cp_agreed, tb_agreed), (cp_even, tb_even), (cp_most, tb_most), (cp_is_parts, tb_is_parts), (cp_parts_ways, tb_parts_ways)] : List (Addr × Addr)), PySem.W.CodeHd h p.1 p.2 := by
    intro p hp
    simp only [List.mem_cons, List.not_mem_nil, or_false] at hp
    rcases hp with rfl | rfl | rfl | rfl | rfl | rfl
    · exact T_turned_row.1
    · exact T_agreed.1
    · exact T_even.1
    · exact T_most.1
    · exact T_is_parts.1
    · exact T_parts_ways.1
  exact ⟨FX.d_law, [(cp_turned_row, tb_turned_row), (cp_agreed, tb_agreed), (cp_even, tb_even), (cp_most, tb_most), (cp_is_parts, tb_is_parts), (cp_parts_ways, tb_parts_ways)], spLaw K [(cp_turned_row, tb_turned_row), (cp_agreed, tb_agreed), (cp_even, tb_even), (cp_most, tb_most), (cp_is_parts, tb_is_parts), (cp_parts_ways, tb_parts_ways)], hT, nT, hC, fun s v => .of_eq rfl, fun H a ns hl hb ht hS => ⟨a, ns, rfl, hS, hl, hb, ht, fun _ => rfl⟩, fun base hb hns TB => ok_law FX (fun p hp => ⟨(TB p hp).code, (TB p hp).bm, (TB p hp).gP⟩) (fun P h => h) (fun p h => by cases h) (fun p h => by cases h) (law_true _ _)⟩
end K06
set_option Elab.async false
set_option linter.all false
set_option maxRecDepth 100000
open PySem PySem.W PyProof.Rows
set_option maxHeartbeats 0 in
theorem PySem.Challenge.cw_rulevoices_k06_whole_parts_holds : PySem.Challenge.rw_rulevoices_k06_whole_parts.Holds := by
  w_on; o_law; k_head; (case hw => w_witness2)
  k_fill
  refine DL.walk_D (l := PySem.Challenge.rw_rulevoices_k06_whole_parts) (n := 63) (k := 15) (x := "script") (CX := fun _ => L2.CX0) rfl (by decide) rfl ⟨rfl, by decide, by decide⟩ (fun w h Y => PySem.W.kIn_of Y) ?F (fun w H s e s' h => h)
  case F =>
    intro w mg fa h Y KX G hmg tab
    refine' K06.at_mk KX G hmg tab ?a_parts ?l_parts ?c_parts ?k_parts ?a_turned ?l_turned ?c_turned ?k_turned ?a_turned_row ?l_turned_row ?c_turned_row ?k_turned_row ?u_turned_row ?v_turned_row ?n_turned_row ?r_turned_row ?a_turned_at ?l_turned_at ?c_turned_at ?k_turned_at ?a_greater_voice ?l_greater_voice ?c_greater_voice ?k_greater_voice ?a_with_more ?l_with_more ?c_with_more ?k_with_more ?a_first_wrong ?l_first_wrong ?c_first_wrong ?k_first_wrong ?a_check_row ?l_check_row ?c_check_row ?k_check_row ?a_agreed ?l_agreed ?c_agreed ?k_agreed ?u_agreed ?v_agreed ?n_agreed ?r_agreed ?a_even ?l_even ?c_even ?k_even ?u_even ?v_even ?n_even ?r_even ?a_growing ?l_growing ?c_growing ?k_growing ?a_heard ?l_heard ?c_heard ?k_heard ?a_kept ?l_kept ?c_kept ?k_kept ?a_mixed ?l_mixed ?c_mixed ?k_mixed ?a_most ?l_most ?c_most ?k_most ?u_most ?v_most ?n_most ?r_most ?a_order ?l_order ?c_order ?k_order ?a_repeat ?l_repeat ?c_repeat ?k_repeat ?a_keeps_all ?l_keeps_all ?c_keeps_all ?k_keeps_all ?a_by_parts ?l_by_parts ?c_by_parts ?k_by_parts ?a_is_parts ?l_is_parts ?c_is_parts ?k_is_parts ?u_is_parts ?v_is_parts ?n_is_parts ?r_is_parts ?a_parts_ways ?l_parts_ways ?c_parts_ways ?k_parts_ways ?u_parts_ways ?v_parts_ways ?n_parts_ways ?r_parts_ways ?a_parts_answer ?l_parts_answer ?c_parts_answer ?k_parts_answer ?a_law_taken ?l_law_taken ?c_law_taken ?k_law_taken ?a_law_pick ?l_law_pick ?c_law_pick ?k_law_pick ?a_law_alike ?l_law_alike ?c_law_alike ?k_law_alike ?a_law_is ?l_law_is ?c_law_is ?k_law_is ?a_law_rows ?l_law_rows ?c_law_rows ?k_law_rows ?a_law_short ?l_law_short ?c_law_short ?k_law_short ?a_law_row ?l_law_row ?c_law_row ?k_law_row ?a_law_word ?l_law_word ?c_law_word ?k_law_word ?a_law_voices ?l_law_voices ?c_law_voices ?k_law_voices ?a_law_by_parts ?l_law_by_parts ?c_law_by_parts ?k_law_by_parts ?a_law_is_whole ?l_law_is_whole ?c_law_is_whole ?k_law_is_whole ?a_law ?l_law ?c_law ?k_law ?n_ALLOW ?r_ALLOW ?n_DENY ?r_DENY ?n_VOICES ?l_CVOICES ?z_CVOICES ?v_CVOICES ?n_MOST_VOICES ?r_MOST_VOICES ?n_SMALL_ROWS ?l_CSMALL_ROWS ?z_CSMALL_ROWS ?v_CSMALL_ROWS ?ly1 ?zy1 ?vy1 ?ly2 ?zy2 ?vy2 ?ly3 ?zy3 ?vy3 ?ly4 ?zy4 ?vy4 ?ly5 ?zy5 ?vy5 ?ly6 ?zy6 ?vy6 ?ly7 ?zy7 ?vy7 ?ly8 ?zy8 ?vy8 ?ly9 ?zy9 ?vy9 ?ly10 ?zy10 ?vy10 ?ly11 ?zy11 ?vy11 ?ly12 ?zy12 ?vy12 ?ly13 ?zy13 ?vy13 ?ly14 ?zy14 ?vy14 ?n__TOLD ?r__TOLD ?z_range ?z_len ?z_tuple ?z_list ?z_isinstance ?z_enumerate ?z_all ?z_zip ?z_int ?z_str ?z_bool ?z_dict ?n_CHECKS ?l_CHECKS ?kl_CHECKS ?x_CHECKS_0 ?x_CHECKS_1 ?x_CHECKS_2 ?x_CHECKS_3 ?x_CHECKS_4 ?x_CHECKS_5 ?x_CHECKS_6 ?x_CHECKS_7 ?x_CHECKS_8 ?x_CHECKS_9 ?nc_VoiceError ?nc_NotParts ?sv ?dv ?tv ?xe_NotParts ?xk_NotParts ?xs_NotParts ?xt_NotParts ?xg_NotParts ?xa_NotParts ?xd_NotParts ?xc_NotParts ?xm_NotParts ?xv_NotParts ?x1_NotParts ?sn_cls ?st_cls
    (case a_parts => k_is)
    (case l_parts => k_is)
    (case c_parts => k_is)
    (case k_parts => k_is)
    (case a_turned => k_is)
    (case l_turned => k_is)
    (case c_turned => k_is)
    (case k_turned => k_is)
    (case a_turned_row => k_is)
    (case l_turned_row => k_is)
    (case c_turned_row => k_is)
    (case k_turned_row => k_is)
    (case u_turned_row => k_is)
    (case v_turned_row => exact rfl)
    (case n_turned_row => kernel_rfl)
    (case r_turned_row => exact rfl)
    (case a_turned_at => k_is)
    (case l_turned_at => k_is)
    (case c_turned_at => k_is)
    (case k_turned_at => k_is)
    (case a_greater_voice => k_is)
    (case l_greater_voice => k_is)
    (case c_greater_voice => k_is)
    (case k_greater_voice => k_is)
    (case a_with_more => k_is)
    (case l_with_more => k_is)
    (case c_with_more => k_is)
    (case k_with_more => k_is)
    (case a_first_wrong => k_is)
    (case l_first_wrong => k_is)
    (case c_first_wrong => k_is)
    (case k_first_wrong => k_is)
    (case a_check_row => k_is)
    (case l_check_row => k_is)
    (case c_check_row => k_is)
    (case k_check_row => k_is)
    (case a_agreed => k_is)
    (case l_agreed => k_is)
    (case c_agreed => k_is)
    (case k_agreed => k_is)
    (case u_agreed => k_is)
    (case v_agreed => exact rfl)
    (case n_agreed => kernel_rfl)
    (case r_agreed => exact rfl)
    (case a_even => k_is)
    (case l_even => k_is)
    (case c_even => k_is)
    (case k_even => k_is)
    (case u_even => k_is)
    (case v_even => exact rfl)
    (case n_even => kernel_rfl)
    (case r_even => exact rfl)
    (case a_growing => k_is)
    (case l_growing => k_is)
    (case c_growing => k_is)
    (case k_growing => k_is)
    (case a_heard => k_is)
    (case l_heard => k_is)
    (case c_heard => k_is)
    (case k_heard => k_is)
    (case a_kept => k_is)
    (case l_kept => k_is)
    (case c_kept => k_is)
    (case k_kept => k_is)
    (case a_mixed => k_is)
    (case l_mixed => k_is)
    (case c_mixed => k_is)
    (case k_mixed => k_is)
    (case a_most => k_is)
    (case l_most => k_is)
    (case c_most => k_is)
    (case k_most => k_is)
    (case u_most => k_is)
    (case v_most => exact rfl)
    (case n_most => kernel_rfl)
    (case r_most => exact rfl)
    (case a_order => k_is)
    (case l_order => k_is)
    (case c_order => k_is)
    (case k_order => k_is)
    (case a_repeat => k_is)
    (case l_repeat => k_is)
    (case c_repeat => k_is)
    (case k_repeat => k_is)
    (case a_keeps_all => k_is)
    (case l_keeps_all => k_is)
    (case c_keeps_all => k_is)
    (case k_keeps_all => k_is)
    (case a_by_parts => k_is)
    (case l_by_parts => k_is)
    (case c_by_parts => k_is)
    (case k_by_parts => k_is)
    (case a_is_parts => k_is)
    (case l_is_parts => k_is)
    (case c_is_parts => k_is)
    (case k_is_parts => k_is)
    (case u_is_parts => k_is)
    (case v_is_parts => exact rfl)
    (case n_is_parts => kernel_rfl)
    (case r_is_parts => exact rfl)
    (case a_parts_ways => k_is)
    (case l_parts_ways => k_is)
    (case c_parts_ways => k_is)
    (case k_parts_ways => k_is)
    (case u_parts_ways => k_is)
    (case v_parts_ways => exact rfl)
    (case n_parts_ways => kernel_rfl)
    (case r_parts_ways => exact rfl)
    (case a_parts_answer => k_is)
    (case l_parts_answer => k_is)
    (case c_parts_answer => k_is)
    (case k_parts_answer => k_is)
    (case a_law_taken => k_is)
    (case l_law_taken => k_is)
    (case c_law_taken => k_is)
    (case k_law_taken => k_is)
    (case a_law_pick => k_is)
    (case l_law_pick => k_is)
    (case c_law_pick => k_is)
    (case k_law_pick => k_is)
    (case a_law_alike => k_is)
    (case l_law_alike => k_is)
    (case c_law_alike => k_is)
    (case k_law_alike => k_is)
    (case a_law_is => k_is)
    (case l_law_is => k_is)
    (case c_law_is => k_is)
    (case k_law_is => k_is)
    (case a_law_rows => k_is)
    (case l_law_rows => k_is)
    (case c_law_rows => k_is)
    (case k_law_rows => k_is)
    (case a_law_short => k_is)
    (case l_law_short => k_is)
    (case c_law_short => k_is)
    (case k_law_short => k_is)
    (case a_law_row => k_is)
    (case l_law_row => k_is)
    (case c_law_row => k_is)
    (case k_law_row => k_is)
    (case a_law_word => k_is)
    (case l_law_word => k_is)
    (case c_law_word => k_is)
    (case k_law_word => k_is)
    (case a_law_voices => k_is)
    (case l_law_voices => k_is)
    (case c_law_voices => k_is)
    (case k_law_voices => k_is)
    (case a_law_by_parts => k_is)
    (case l_law_by_parts => k_is)
    (case c_law_by_parts => k_is)
    (case k_law_by_parts => k_is)
    (case a_law_is_whole => k_is)
    (case l_law_is_whole => k_is)
    (case c_law_is_whole => k_is)
    (case k_law_is_whole => k_is)
    (case a_law => k_is)
    (case l_law => k_is)
    (case c_law => k_is)
    (case k_law => k_is)
    (case n_ALLOW => k_is)
    (case r_ALLOW => exact ⟨_, rfl⟩)
    (case n_DENY => k_is)
    (case r_DENY => exact ⟨_, rfl⟩)
    (case n_VOICES => k_is)
    (case l_CVOICES => k_is)
    (case z_CVOICES => exact DL.small_len (by decide))
    (case v_CVOICES => exact (.cons ⟨_, rfl⟩ (.cons ⟨_, rfl⟩ .nil)))
    (case n_MOST_VOICES => k_is)
    (case r_MOST_VOICES => exact ⟨_, rfl⟩)
    (case n_SMALL_ROWS => k_is)
    (case l_CSMALL_ROWS => k_is)
    (case z_CSMALL_ROWS => exact DL.small_len (by decide))
    (case v_CSMALL_ROWS => exact (.cons rfl (.cons rfl (.cons rfl (.cons rfl (.cons rfl (.cons rfl (.cons rfl (.cons rfl (.cons rfl (.cons rfl (.cons rfl (.cons rfl (.cons rfl (.cons rfl .nil)))))))))))))))
    (case ly1 => k_is)
    (case zy1 => exact DL.small_len (by decide))
    (case vy1 => exact (.cons ⟨_, rfl⟩ .nil))
    (case ly2 => k_is)
    (case zy2 => exact DL.small_len (by decide))
    (case vy2 => exact (.cons ⟨_, rfl⟩ .nil))
    (case ly3 => k_is)
    (case zy3 => exact DL.small_len (by decide))
    (case vy3 => exact (.cons ⟨_, rfl⟩ (.cons ⟨_, rfl⟩ .nil)))
    (case ly4 => k_is)
    (case zy4 => exact DL.small_len (by decide))
    (case vy4 => exact (.cons ⟨_, rfl⟩ (.cons ⟨_, rfl⟩ .nil)))
    (case ly5 => k_is)
    (case zy5 => exact DL.small_len (by decide))
    (case vy5 => exact (.cons ⟨_, rfl⟩ (.cons ⟨_, rfl⟩ .nil)))
    (case ly6 => k_is)
    (case zy6 => exact DL.small_len (by decide))
    (case vy6 => exact (.cons ⟨_, rfl⟩ (.cons ⟨_, rfl⟩ .nil)))
    (case ly7 => k_is)
    (case zy7 => exact DL.small_len (by decide))
    (case vy7 => exact (.cons ⟨_, rfl⟩ (.cons ⟨_, rfl⟩ (.cons ⟨_, rfl⟩ .nil))))
    (case ly8 => k_is)
    (case zy8 => exact DL.small_len (by decide))
    (case vy8 => exact (.cons ⟨_, rfl⟩ (.cons ⟨_, rfl⟩ (.cons ⟨_, rfl⟩ .nil))))
    (case ly9 => k_is)
    (case zy9 => exact DL.small_len (by decide))
    (case vy9 => exact (.cons ⟨_, rfl⟩ (.cons ⟨_, rfl⟩ (.cons ⟨_, rfl⟩ .nil))))
    (case ly10 => k_is)
    (case zy10 => exact DL.small_len (by decide))
    (case vy10 => exact (.cons ⟨_, rfl⟩ (.cons ⟨_, rfl⟩ (.cons ⟨_, rfl⟩ .nil))))
    (case ly11 => k_is)
    (case zy11 => exact DL.small_len (by decide))
    (case vy11 => exact (.cons ⟨_, rfl⟩ (.cons ⟨_, rfl⟩ (.cons ⟨_, rfl⟩ .nil))))
    (case ly12 => k_is)
    (case zy12 => exact DL.small_len (by decide))
    (case vy12 => exact (.cons ⟨_, rfl⟩ (.cons ⟨_, rfl⟩ (.cons ⟨_, rfl⟩ .nil))))
    (case ly13 => k_is)
    (case zy13 => exact DL.small_len (by decide))
    (case vy13 => exact (.cons ⟨_, rfl⟩ (.cons ⟨_, rfl⟩ (.cons ⟨_, rfl⟩ .nil))))
    (case ly14 => k_is)
    (case zy14 => exact DL.small_len (by decide))
    (case vy14 => exact (.cons ⟨_, rfl⟩ (.cons ⟨_, rfl⟩ (.cons ⟨_, rfl⟩ .nil))))
    (case n__TOLD => k_is)
    (case r__TOLD => exact ⟨_, rfl⟩)
    (case z_range => k_is)
    (case z_len => k_is)
    (case z_tuple => k_is)
    (case z_list => k_is)
    (case z_isinstance => k_is)
    (case z_enumerate => k_is)
    (case z_all => k_is)
    (case z_zip => k_is)
    (case z_int => k_is)
    (case z_str => k_is)
    (case z_bool => k_is)
    (case z_dict => k_is)
    (case n_CHECKS => k_is)
    (case l_CHECKS => k_is)
    (case kl_CHECKS => repeat (first | exact True.intro | refine ⟨⟨_, _, rfl, rfl⟩, ?_⟩))
    (case x_CHECKS_0 => k_is)
    (case x_CHECKS_1 => k_is)
    (case x_CHECKS_2 => k_is)
    (case x_CHECKS_3 => k_is)
    (case x_CHECKS_4 => k_is)
    (case x_CHECKS_5 => k_is)
    (case x_CHECKS_6 => k_is)
    (case x_CHECKS_7 => k_is)
    (case x_CHECKS_8 => k_is)
    (case x_CHECKS_9 => k_is)
    (case nc_VoiceError => k_is)
    (case nc_NotParts => k_is)
    (case sv => k_is)
    (case dv => k_is)
    (case tv => k_is)
    (case xe_NotParts => kernel_rfl)
    (case xk_NotParts => k_is)
    (case xs_NotParts => k_is)
    (case xt_NotParts => k_is)
    (case xg_NotParts => k_is)
    (case xa_NotParts => k_is)
    (case xd_NotParts => k_is)
    (case xc_NotParts => k_is)
    (case xm_NotParts => k_is)
    (case xv_NotParts => k_is)
    (case x1_NotParts => kernel_rfl)
    (case sn_cls => k_is)
    (case st_cls => k_is)
