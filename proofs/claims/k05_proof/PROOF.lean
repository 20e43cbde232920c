import PyProof.Rows.All
import Wide.All
import OpenK.AllK
import Wide.FinOn
import PySem.Challenge.RW_rulevoices_k05_whole_any_table
import PyProof.ZipIter
import PyProof.CallType
import PyProof.Walk
import PyProof.WalkLemmas
import PyProof.RangeIter
import PyProof.RulesTry
import PyProof.TupleOfSeq
import HandS.ForMost
import HandS.AnyAll
import HandS.GenList
import PyProof.TupleOfGen
import PyProof.JoinWalk
import HandS.JoinGen
import HandS.Lambda
import HandS.TupAny
import HandS.Dict
import HandS.Iter
import HandS.TupSets
import HandS.Style
import PyProof.P3In
import PyProof.StrBlock2
import HandS.Text
import HandS.IsInst
import PyProof.Rows.StrTemp
import HandS.EndTab
import HandS.Words
import KE.GoesEnum
import HandS.Zip
import HandS.DictTup
import HandS.DictComp
import HandS.CallLocal
import HandS.More
import PyProof.SumAny
import KE.KMathGC
import HandS.DictSub
import KE.KRevSl
import PyProof.Rows.SumAny
import HandS.SortInts
import HandS.Small
import HandS.TupLen
import HandS.SetBool
import HandS.Strs
import HandS.Conv
import HandS.ExcOwn
import KE.KDflt
import HandS.ExcIs
import HandS.TupMul
set_option Elab.async false
set_option linter.all false
set_option maxRecDepth 100000
set_option maxHeartbeats 2000000
namespace CMB
open PySem PySem.Spec
open Sem (wp)
theorem mro_c : mroOf (.type "itertools.combinations") = pure [.type "itertools.combinations", .type "object"] := by rw [mroOf_type]; kernel_rfl
theorem lookup_c_new : typeLookup (.type "itertools.combinations") "__new__" = pure (some (.builtin "itertools.combinations.__new__")) := by rw [typeLookup_type, builtinLookup_eq_fast]; kernel_rfl
theorem slot_c_init : Slot "itertools.combinations" "__init__" "object.__init__" :=
  .of (owner := "object") (n := "__init__") (by rw [typeLookup_type, builtinLookup_eq_fast]; kernel_rfl) (by decide +kernel) (by decide +kernel) (by decide +kernel)
    (by first | exact .inl (by decide +kernel) | exact .inr (by decide +kernel)) (by rw [isSubtype_type]; kernel_rfl)
theorem sub_c : isSubtype (.type "itertools.combinations") (.type "itertools.combinations") = pure true := by rw [isSubtype_type]; kernel_rfl
theorem called_c : TypeCalled "itertools.combinations" "itertools.combinations.__new__" "object.__init__" :=
  ⟨by decide +kernel, by decide +kernel, ⟨_, _, mro_c⟩, madeBy_type mro_c lookup_c_new (by decide +kernel), by decide +kernel, sub_c, slot_c_init⟩
theorem typeCall_c_2 (a b : Value) : checkTypeCall "itertools.combinations" ⟨[a, b], []⟩ = pure () := by kernel_rfl
theorem newCall_c_2 (a b : Value) : checkBuiltinCall "itertools.combinations.__new__" ⟨[.type "itertools.combinations", a, b], []⟩ = pure () := by kernel_rfl
theorem entry_c_new : entryFor table "itertools.combinations.__new__" = some Builtin.«itertools.combinations.__new__» := entryFor_of_tree (by kernel_rfl)
theorem slot_c_iter : Slot "itertools.combinations" "__iter__" "itertools.combinations.__iter__" :=
  .of (owner := "itertools.combinations") (n := "__iter__") (by rw [typeLookup_type, builtinLookup_eq_fast]; kernel_rfl) (by decide +kernel) (by decide +kernel) (by decide +kernel)
    (by first | exact .inl (by decide +kernel) | exact .inr (by decide +kernel)) sub_c
theorem slot_c_next : Slot "itertools.combinations" "__next__" "itertools.combinations.__next__" :=
  .of (owner := "itertools.combinations") (n := "__next__") (by rw [typeLookup_type, builtinLookup_eq_fast]; kernel_rfl) (by decide +kernel) (by decide +kernel) (by decide +kernel)
    (by first | exact .inl (by decide +kernel) | exact .inr (by decide +kernel)) sub_c
theorem entry_c_iter : entryFor table "itertools.combinations.__iter__" = some Builtin.«dict_keyiterator.__iter__» :=
  entryFor_alias (id' := "dict_keyiterator.__iter__") (by kernel_rfl) (by first | rfl | decide +kernel | (unfold String.splitOn; simp +decide [String.splitOnAux])) (by decide +kernel) (by kernel_rfl)
theorem entry_c_next : entryFor table "itertools.combinations.__next__" = some Builtin.«itertools.combinations.__next__» := entryFor_of_tree (by kernel_rfl)
theorem owner_c : Manifest.owners.lookup (String.ofList ['s', 'n', 'o', 'i', 't', 'a', 'n', 'i', 'b', 'm', 'o', 'c', '.', 's', 'l', 'o', 'o', 't', 'r', 'e', 't', 'i'].reverse) = some Manifest.sig_itertools_combinations := by kernel_rfl
theorem args_c_iter (a : Value) : argsOk "itertools.combinations.__iter__" ⟨[a], []⟩ := by
  unfold argsOk; rw [signature?_of (id := "itertools.combinations.__iter__") (n := ['_', '_', 'r', 'e', 't', 'i', '_', '_']) (o := ['s', 'n', 'o', 'i', 't', 'a', 'n', 'i', 'b', 'm', 'o', 'c', '.', 's', 'l', 'o', 'o', 't', 'r', 'e', 't', 'i']) (by kernel_rfl) owner_c]; kernel_rfl
theorem args_c_next (a : Value) : argsOk "itertools.combinations.__next__" ⟨[a], []⟩ := by
  unfold argsOk; rw [signature?_of (id := "itertools.combinations.__next__") (n := ['_', '_', 't', 'x', 'e', 'n', '_', '_']) (o := ['s', 'n', 'o', 'i', 't', 'a', 'n', 'i', 'b', 'm', 'o', 'c', '.', 's', 'l', 'o', 'o', 't', 'r', 'e', 't', 'i']) (by kernel_rfl) owner_c]; kernel_rfl
theorem noDict_c : typeHasDict (.type "itertools.combinations") = false := by decide +kernel
end CMB
set_option Elab.async false
set_option linter.all false
set_option maxRecDepth 100000
set_option maxHeartbeats 2000000
namespace CMB
open PySem PySem.Spec
open Sem (wp)
def nums (idx : List Nat) : List Value := idx.map fun (n : Nat) => rawInt n
/-- a combinations object: its pool, its state, what it gave last, its indices -/
abbrev IsComb (h : Heap) (it pl : Addr) (st : Int) (last : Value) (idx : List Nat) : Prop := h.get? it = some { cls := .type "itertools.combinations", dict := none, data := .fields ([.ref pl, rawInt st, last] ++ nums idx).toArray, slots := #[] }
/-- the next indices -/
def nxtC (n : Nat) (indices : List Nat) : Option (List Nat) :=
  let r := indices.length
  match (List.range r).reverse.find? fun i => indices.getD i 0 != i + n - r with
  | none => none
  | some i => some (indices.take i ++ (List.range (r - i)).map (indices.getD i 0 + 1 + ·))
theorem meets_c_new (l : Addr) (o : Obj) (items : Array Value) (n : Nat) (hc : o.cls = .type "list") (hd : o.data = .seq items n) (hsz : items.size ≤ sizeLine) (r : Int) (t : Tok) (h0 : 0 ≤ r) (h1 : r < 1000) :
    Meets (Builtin.«itertools.combinations.__new__» ⟨[.type "itertools.combinations", .ref l, .int r t], []⟩)
      (fun _ R s => s.heap.get? l = some o ∧ ∀ h' : Heap, (∀ b o', s.heap.get? b = some o' → h'.get? b = some o') →
        R (.ok (.ret (.ref (h'.push { cls := .type "tuple", data := .seq items }).objs.size))) { s with heap := (h'.push { cls := .type "tuple", data := .seq items }).push { cls := .type "itertools.combinations", data := .fields ([.ref h'.objs.size, rawInt (if r.toNat > items.size then 2 else 0), .none] ++ nums (List.range r.toNat)).toArray } }) :=
  .of_wp fun prog w A R s h => by
    obtain ⟨hp, g, dd, tk, os⟩ := s; obtain ⟨ht, h⟩ := h
    have hsub := sub_c
    have hdd := noDict_c
    have hn : ¬ ((decide (r < -(2 ^ 63 : Int)) || decide (r ≥ (2 ^ 63 : Int))) = true) := by
      have a : decide (r < -(2 ^ 63 : Int)) = false := decide_eq_false (by omega)
      have b : decide (r ≥ (2 ^ 63 : Int)) = false := decide_eq_false (by omega)
      rw [a, b]
      decide
    have hneg : ¬ r < 0 := by omega
    have hmany : Builtin.Itertools.itTooMany r = false := by
      unfold Builtin.Itertools.itTooMany
      exact decide_eq_false (by omega)
    have es : ("itertools." ++ "combinations" : String) = "itertools.combinations" := by decide +kernel
    repeat (first
      | wp_step
      | simp only [List.head?_cons, Option.some_or, List.getElem?_cons_succ, List.getElem?_cons_zero, List.length_cons, List.length_nil, List.forIn_nil]
      | (refine wpAny_ite_false (decide_eq_false hn) ?_))
    rw [es, hsub]
    refine wpAny_pure ?_
    repeat (first
      | (with_reducible refine wpAny_collect_seq (hsz := hsz) l (.inl rfl) ht hc hd fun h' hk => ?_)
      | wp_step
      | simp only [List.head?_cons, Option.some_or, List.getElem?_cons_succ, List.getElem?_cons_zero, List.length_cons, List.length_nil, List.forIn_nil]
      | (refine wpAny_ite_false (decide_eq_false hn) ?_)
      | rw [if_neg hneg]
      | rw [hmany])
    rw [if_neg (by simp [sizeLine]; omega)]
    repeat wp_step
    refine ⟨_, rfl, ?_⟩
    have q := h h' hk
    simp only [Array.toArray_toList, Array.length_toList]
    exact q
end CMB
set_option Elab.async false
set_option linter.all false
set_option maxRecDepth 100000
set_option maxHeartbeats 2000000
namespace CMB
open PySem PySem.Spec
open Sem (wp)
section
variable {prog : Program} {w : World} {A : Around} {E : Value → Shared → Prop} {s : Shared}
def combO (pl : Addr) (st : Int) (last : Value) (idx : List Nat) : Obj := { cls := .type "itertools.combinations", data := .fields ([.ref pl, rawInt st, last] ++ nums idx).toArray }
theorem call_comb {l : Addr} {o : Obj} {items : Array Value} {n : Nat} {r : Int} {t : Tok} {Q : Value → Shared → Prop} (ho : s.heap.get? l = some o) (hc : o.cls = .type "list") (hd : o.data = .seq items n) (hsz : items.size ≤ sizeLine) (h0 : 0 ≤ r) (h1 : r < 1000)
    (h : ∀ h' : Heap, (∀ b o, s.heap.get? b = some o → h'.get? b = some o) →
      Q (.ref (h'.push { cls := .type "tuple", data := .seq items }).objs.size) { s with heap := (h'.push { cls := .type "tuple", data := .seq items }).push (combO h'.objs.size (if r.toNat > items.size then 2 else 0) .none (List.range r.toNat)) }) :
    wpAny (model prog w) A (call (.type "itertools.combinations") [.ref l, .int r t]) Q E s := by
  refine callType_new called_c (by decide +kernel) (typeCall_c_2 _ _) (newCall_c_2 _ _) (fun obj => F.args_object_init_3 obj _ _) entry_c_new (meets_c_new l o items n hc hd hsz r t h0 h1) ⟨ho, fun h' hk => ?_⟩
  show _ ∧ _
  exact ⟨⟨_, Heap.get?_push_size _ rfl, rfl⟩, h h' hk⟩
theorem iter_comb {it pl : Addr} {st : Int} {last : Value} {idx : List Nat} {Q : Value → Shared → Prop} (hit : IsComb s.heap it pl st last idx) (h : Q (.ref it) s) : wpAny (model prog w) A (pyIter (.ref it)) Q E s := by
  have hT : s.TypeIs (.ref it) "itertools.combinations" := ⟨_, hit, rfl⟩
  refine wpAny_pyIter_slot hT slot_c_iter (wpAny_call_entry slot_c_iter hT entry_c_iter ?_ (args_c_iter _))
  show wpAny _ _ (ret (.ref it)) _ _ s
  exact wpAny_pure ⟨_, rfl, "itertools.combinations", _, hT, slot_c_next.lookup, h⟩
theorem numbers_of {M : Model} {A : Around} {it pl : Addr} {st : Int} {last : Value} {idx : List Nat} {Q : List Nat → Shared → Prop} (hit : IsComb s.heap it pl st last idx) (h : Q idx s) : wpAny M A (Builtin.Itertools.itNumbersFrom (.ref it) 3) Q E s := by
  unfold Builtin.Itertools.itNumbersFrom
  show wpAny _ _ (load it >>= _) _ _ s
  refine wpAny_bind (wpAny_load hit ?_)
  have key : ∀ l : List Nat, l = idx → Q l s := fun l e => by rw [e]; exact h
  refine wpAny_pure (key _ ?_)
  show ((nums idx).map _) = idx
  unfold nums
  rw [List.map_map]
  conv => rhs; rw [← List.map_id idx]
  exact List.map_congr_left fun n _ => rfl
theorem state_of {M : Model} {A : Around} {it pl : Addr} {st : Int} {last : Value} {idx : List Nat} {Q : Int → Shared → Prop} (hit : IsComb s.heap it pl st last idx) (h : Q st s) : wpAny M A (Builtin.Itertools.itIntField (.ref it) 1) Q E s := by
  unfold Builtin.Itertools.itIntField
  refine wpAny_bind (wpAny_field hit rfl (x := rawInt st) rfl ?_)
  exact wpAny_pure h
theorem pool_of {M : Model} {A : Around} {pl : Addr} {items : Array Value} {Q : Array Value → Shared → Prop} (hpl : s.heap.IsTuple pl items) (h : Q items s) : wpAny M A (Builtin.Itertools.itPoolItems (.ref pl)) Q E s := by
  obtain ⟨o, ho, hc, n, hd⟩ := hpl
  unfold Builtin.Itertools.itPoolItems
  refine wpAny_bind (wpAny_seqItems ho hd ?_)
  exact wpAny_pure h
def picked (items : Array Value) (idx : List Nat) : List Value := idx.map fun i => items.getD i .none
theorem put1 {pl : Addr} {st st' : Int} {last : Value} {idx : List Nat} : (([Value.ref pl, rawInt st, last] ++ nums idx).toArray).setIfInBounds 1 (rawInt st') = ([Value.ref pl, rawInt st', last] ++ nums idx).toArray := by simp
theorem put2 {pl : Addr} {st : Int} {last last' : Value} {idx : List Nat} : (([Value.ref pl, rawInt st, last] ++ nums idx).toArray).setIfInBounds 2 last' = ([Value.ref pl, rawInt st, last'] ++ nums idx).toArray := by simp
theorem set_st {h : Heap} {it pl : Addr} {st st' : Int} {last : Value} {idx : List Nat} (hit : IsComb h it pl st last idx) : IsComb (h.update it (Obj.mapFields (·.setIfInBounds 1 (rawInt st')))) it pl st' last idx := by
  have q := Heap.get?_update_self (Obj.mapFields (·.setIfInBounds 1 (rawInt st'))) hit rfl
  unfold IsComb
  rw [← put1 (st := st)]
  exact q
theorem set_last {h : Heap} {it pl : Addr} {st : Int} {last last' : Value} {idx : List Nat} (hit : IsComb h it pl st last idx) : IsComb (h.update it (Obj.mapFields (·.setIfInBounds 2 last'))) it pl st last' idx := by
  have q := Heap.get?_update_self (Obj.mapFields (·.setIfInBounds 2 last')) hit rfl
  unfold IsComb
  rw [← put2 (last := last)]
  exact q
theorem set_nums {h : Heap} {it pl : Addr} {st : Int} {last : Value} {idx idx' : List Nat} (hit : IsComb h it pl st last idx) : IsComb (h.update it (Obj.mapFields fun fs => fs.extract 0 3 ++ (idx'.map fun (n : Nat) => rawInt n).toArray)) it pl st last idx' := by
  have q := Heap.get?_update_self (Obj.mapFields fun fs => fs.extract 0 3 ++ (idx'.map fun (n : Nat) => rawInt n).toArray) hit rfl
  have e : (([Value.ref pl, rawInt st, last] ++ nums idx).toArray).extract 0 3 ++ (idx'.map fun (n : Nat) => rawInt n).toArray = ([Value.ref pl, rawInt st, last] ++ nums idx').toArray := by
    simp [nums]
  unfold IsComb
  rw [← e]
  exact q
theorem picked_ok {items : Array Value} {idx : List Nat} (hz : idx.length ≤ 1000) : sizeOk (.seq (picked items idx).toArray) := by
  show (picked items idx).toArray.size ≤ sizeLine
  simp only [List.size_toArray, picked, List.length_map, sizeLine]
  omega
/-- the first -/
theorem comb_first {it pl : Addr} {items : Array Value} {last : Value} {idx : List Nat} {Q : Option Value → Shared → Prop} (hit : IsComb s.heap it pl 0 last idx) (hpl : s.heap.IsTuple pl items) (hz : idx.length ≤ 1000)
    (hQ : ∀ h', h'.get? s.heap.objs.size = some { cls := .type "tuple", data := .seq (picked items idx).toArray } → IsComb h' it pl 1 (.ref s.heap.objs.size) idx → (∀ b o, b ≠ it → s.heap.get? b = some o → h'.get? b = some o) → Q (some (.ref s.heap.objs.size)) { s with heap := h' }) :
    wpAny (model prog w) A (pyNext (.ref it)) Q E s := by
  have hT : s.TypeIs (.ref it) "itertools.combinations" := ⟨_, hit, rfl⟩
  have hlt : it < s.heap.objs.size := Heap.lt_size hit
  have hltp : pl < s.heap.objs.size := by obtain ⟨o, e, _⟩ := hpl; exact Heap.lt_size e
  have hne : pl ≠ it := fun e => by
    obtain ⟨o, ho, hc, _⟩ := hpl
    rw [e] at ho
    rw [hit] at ho
    cases ho
    exact absurd (Value.type.inj hc) (by decide)
  unfold pyNext
  refine wpAny_bind (wpAny_attempt (wpAny_callSpecial?_slot (name := Str.ofString "__next__") hT slot_c_next
    (wpAny_call_entry slot_c_next hT entry_c_next ?_ (args_c_next _))))
  show wpAny _ _ (field (.ref it) 0 >>= _) _ _ s
  refine wpAny_bind (wpAny_field hit rfl (x := .ref pl) rfl ?_)
  refine wpAny_bind (numbers_of hit ?_)
  show wpAny _ _ (Builtin.Itertools.itIntField (.ref it) 1 >>= _) _ _ s
  refine wpAny_bind (state_of hit ?_)
  show wpAny _ _ (setField (.ref it) 1 (rawInt 1) >>= _) _ _ s
  refine wpAny_bind (wpAny_setField hit rfl (by simp) ?_)
  have hit1 := set_st (st' := 1) hit
  have hsz1 : (s.heap.update it (Obj.mapFields (·.setIfInBounds 1 (rawInt 1)))).objs.size = s.heap.objs.size := Heap.size_update ..
  have hpl1 : (s.heap.update it (Obj.mapFields (·.setIfInBounds 1 (rawInt 1)))).IsTuple pl items := by
    obtain ⟨o, ho, r⟩ := hpl
    exact ⟨o, (Heap.get?_update_other _ _ (Ne.symm hne)).trans ho, r⟩
  have k1 : ∀ b o, b ≠ it → s.heap.get? b = some o → (s.heap.update it (Obj.mapFields (·.setIfInBounds 1 (rawInt 1)))).get? b = some o := fun b o n e => (Heap.get?_update_other _ _ (Ne.symm n)).trans e
  generalize s.heap.update it (Obj.mapFields (·.setIfInBounds 1 (rawInt 1))) = H1 at hit1 hsz1 hpl1 k1 ⊢
  show wpAny _ _ ((Builtin.Itertools.itPoolItems (.ref pl) >>= _) >>= _) _ _ _
  refine wpAny_bind (wpAny_bind (pool_of hpl1 ?_))
  show wpAny _ _ (newTuple (picked items idx)) _ _ _
  simp only [newTuple]
  refine wpAny_newObj_type ?_ ?_
  rotate_left
  · exact picked_ok hz
  have hq : (H1.push { cls := .type "tuple", data := .seq (picked items idx).toArray }).get? H1.objs.size = some { cls := .type "tuple", data := .seq (picked items idx).toArray } := Heap.get?_push_size _ rfl
  have hit2 : IsComb (H1.push { cls := .type "tuple", data := .seq (picked items idx).toArray }) it pl 1 last idx := Heap.get?_push_of_some _ hit1
  have k2 : ∀ b o, b ≠ it → s.heap.get? b = some o → (H1.push { cls := .type "tuple", data := .seq (picked items idx).toArray }).get? b = some o := fun b o n e => Heap.get?_push_of_some _ (k1 b o n e)
  rw [hsz1] at hq
  show wpAny _ _ (field (.ref it) 2 >>= _) _ _ { s with heap := H1.push { cls := .type "tuple", data := .seq (picked items idx).toArray } }
  generalize H1.push { cls := .type "tuple", data := .seq (picked items idx).toArray } = H2 at hq hit2 k2 ⊢
  refine wpAny_bind (wpAny_field hit2 rfl (x := last) rfl ?_)
  show wpAny _ _ (setField (.ref it) 2 (.ref H1.objs.size) >>= _) _ _ _
  refine wpAny_bind (wpAny_setField hit2 rfl (by simp) ?_)
  refine wpAny_bind (wpAny_letGo ?_)
  refine wpAny_pure ⟨_, rfl, ?_⟩
  refine wpAny_pure ?_
  rw [hsz1]
  refine hQ _ ?_ (set_last hit2) fun b o n e => (Heap.get?_update_other _ _ (Ne.symm n)).trans (k2 b o n e)
  exact (Heap.get?_update_other _ _ (Nat.ne_of_lt hlt)).trans hq
/-- a later one -/
theorem comb_next {it pl : Addr} {items : Array Value} {last : Value} {idx idx' : List Nat} {Q : Option Value → Shared → Prop} (hit : IsComb s.heap it pl 1 last idx) (hpl : s.heap.IsTuple pl items) (hn : nxtC items.size idx = some idx') (hz : idx'.length ≤ 1000)
    (hQ : ∀ h', h'.get? s.heap.objs.size = some { cls := .type "tuple", data := .seq (picked items idx').toArray } → IsComb h' it pl 1 (.ref s.heap.objs.size) idx' → (∀ b o, b ≠ it → s.heap.get? b = some o → h'.get? b = some o) → Q (some (.ref s.heap.objs.size)) { s with heap := h' }) :
    wpAny (model prog w) A (pyNext (.ref it)) Q E s := by
  have hT : s.TypeIs (.ref it) "itertools.combinations" := ⟨_, hit, rfl⟩
  have hlt : it < s.heap.objs.size := Heap.lt_size hit
  have hne : pl ≠ it := fun e => by
    obtain ⟨o, ho, hc, _⟩ := hpl
    rw [e] at ho
    rw [hit] at ho
    cases ho
    exact absurd (Value.type.inj hc) (by decide)
  unfold pyNext
  refine wpAny_bind (wpAny_attempt (wpAny_callSpecial?_slot (name := Str.ofString "__next__") hT slot_c_next
    (wpAny_call_entry slot_c_next hT entry_c_next ?_ (args_c_next _))))
  show wpAny _ _ (field (.ref it) 0 >>= _) _ _ s
  refine wpAny_bind (wpAny_field hit rfl (x := .ref pl) rfl ?_)
  refine wpAny_bind (numbers_of hit ?_)
  show wpAny _ _ (Builtin.Itertools.itIntField (.ref it) 1 >>= _) _ _ s
  refine wpAny_bind (state_of hit ?_)
  show wpAny _ _ (Builtin.Itertools.itPoolItems (.ref pl) >>= _) _ _ s
  refine wpAny_bind (pool_of hpl ?_)
  show wpAny _ _ (match nxtC items.size idx with | some next => _ | none => _) _ _ s
  rw [hn]
  show wpAny _ _ (Builtin.Itertools.itSetNumbersFrom (.ref it) 3 idx' >>= _) _ _ s
  refine wpAny_bind ?_
  unfold Builtin.Itertools.itSetNumbersFrom
  refine wpAny_updateFields hit rfl ?_ ?_
  rotate_left
  · simp [sizeLine]; omega
  have hit1 := set_nums (idx' := idx') hit
  have hsz1 : (s.heap.update it (Obj.mapFields fun fs => fs.extract 0 3 ++ (idx'.map fun (n : Nat) => rawInt n).toArray)).objs.size = s.heap.objs.size := Heap.size_update ..
  have hpl1 : (s.heap.update it (Obj.mapFields fun fs => fs.extract 0 3 ++ (idx'.map fun (n : Nat) => rawInt n).toArray)).IsTuple pl items := by
    obtain ⟨o, ho, r⟩ := hpl
    exact ⟨o, (Heap.get?_update_other _ _ (Ne.symm hne)).trans ho, r⟩
  have k1 : ∀ b o, b ≠ it → s.heap.get? b = some o → (s.heap.update it (Obj.mapFields fun fs => fs.extract 0 3 ++ (idx'.map fun (n : Nat) => rawInt n).toArray)).get? b = some o := fun b o n e => (Heap.get?_update_other _ _ (Ne.symm n)).trans e
  generalize s.heap.update it (Obj.mapFields fun fs => fs.extract 0 3 ++ (idx'.map fun (n : Nat) => rawInt n).toArray) = H1 at hit1 hsz1 hpl1 k1 ⊢
  show wpAny _ _ ((Builtin.Itertools.itPoolItems (.ref pl) >>= _) >>= _) _ _ _
  refine wpAny_bind (wpAny_bind (pool_of hpl1 ?_))
  show wpAny _ _ (newTuple (picked items idx')) _ _ _
  simp only [newTuple]
  refine wpAny_newObj_type ?_ ?_
  rotate_left
  · exact picked_ok hz
  have hq : (H1.push { cls := .type "tuple", data := .seq (picked items idx').toArray }).get? H1.objs.size = some { cls := .type "tuple", data := .seq (picked items idx').toArray } := Heap.get?_push_size _ rfl
  have hit2 : IsComb (H1.push { cls := .type "tuple", data := .seq (picked items idx').toArray }) it pl 1 last idx' := Heap.get?_push_of_some _ hit1
  have k2 : ∀ b o, b ≠ it → s.heap.get? b = some o → (H1.push { cls := .type "tuple", data := .seq (picked items idx').toArray }).get? b = some o := fun b o n e => Heap.get?_push_of_some _ (k1 b o n e)
  rw [hsz1] at hq
  show wpAny _ _ (field (.ref it) 2 >>= _) _ _ { s with heap := H1.push { cls := .type "tuple", data := .seq (picked items idx').toArray } }
  generalize H1.push { cls := .type "tuple", data := .seq (picked items idx').toArray } = H2 at hq hit2 k2 ⊢
  refine wpAny_bind (wpAny_field hit2 rfl (x := last) rfl ?_)
  show wpAny _ _ (setField (.ref it) 2 (.ref H1.objs.size) >>= _) _ _ _
  refine wpAny_bind (wpAny_setField hit2 rfl (by simp) ?_)
  refine wpAny_bind (wpAny_letGo ?_)
  refine wpAny_pure ⟨_, rfl, ?_⟩
  refine wpAny_pure ?_
  rw [hsz1]
  refine hQ _ ?_ (set_last hit2) fun b o n e => (Heap.get?_update_other _ _ (Ne.symm n)).trans (k2 b o n e)
  exact (Heap.get?_update_other _ _ (Nat.ne_of_lt hlt)).trans hq
theorem stop_of {M : Model} {A : Around} {E : Value → Shared → Prop} {s : Shared} {α : Type} {Q : α → Shared → Prop} (hh : A.handled = none)
    (hQ : ∀ h' a o, h'.get? a = some o → o.cls = .type "StopIteration" → (∀ b o, s.heap.get? b = some o → h'.get? b = some o) → E (.ref a) { s with heap := h' }) : wpAny M A (Builtin.Itertools.itStop (α := α)) Q E s := by
  show wpAny _ _ (newExc (.type "StopIteration") [] >>= _) _ _ _
  refine wpAny_bind ?_
  simp only [newExc, newTuple]
  refine wpAny_bind (wpAny_newObj_type ?_ (by size_fits))
  refine wpAny_bind (m := firstArgMember _ _) (wpAny_of_eq (a := Value.none) (by first | rfl | (simp only [firstArgMember]; rfl)) ?_)
  refine wpAny_newObj_type ?_ (by size_fits)
  simp only [raiseNew]
  refine wpAny_bind (wpAny_handled ?_)
  rw [hh]
  refine wpAny_bind (wpAny_pure (wpAny_throw ?_))
  exact hQ _ _ _ (Heap.get?_push_size _ rfl) rfl fun b o e => Heap.get?_push_of_some _ (Heap.get?_push_of_some _ e)
/-- no more: amid, or from the start -/
theorem comb_end {it pl : Addr} {items : Array Value} {st : Int} {last : Value} {idx : List Nat} {Q : Option Value → Shared → Prop} (hh : A.handled = none) (hit : IsComb s.heap it pl st last idx) (hpl : s.heap.IsTuple pl items) (hn : st = 2 ∨ (st = 1 ∧ nxtC items.size idx = none))
    (hQ : ∀ h', (∀ b o, b ≠ it → s.heap.get? b = some o → h'.get? b = some o) → Q none { s with heap := h' }) : wpAny (model prog w) A (pyNext (.ref it)) Q E s := by
  have hT : s.TypeIs (.ref it) "itertools.combinations" := ⟨_, hit, rfl⟩
  unfold pyNext
  refine wpAny_bind (wpAny_attempt (wpAny_callSpecial?_slot (name := Str.ofString "__next__") hT slot_c_next
    (wpAny_call_entry slot_c_next hT entry_c_next ?_ (args_c_next _))))
  show wpAny _ _ (field (.ref it) 0 >>= _) _ _ s
  refine wpAny_bind (wpAny_field hit rfl (x := .ref pl) rfl ?_)
  refine wpAny_bind (numbers_of hit ?_)
  show wpAny _ _ (Builtin.Itertools.itIntField (.ref it) 1 >>= _) _ _ s
  refine wpAny_bind (state_of hit ?_)
  rcases hn with rfl | ⟨rfl, hn⟩
  · show wpAny _ _ (rule "itertools.combinations.ended" >>= _) _ _ s
    refine wpAny_bind (wpAny_rule ?_)
    refine stop_of hh fun h' a o ho hc hk => ?_
    refine wpAny_bind (wpAny_isInstance (T := "StopIteration") (b := true) ⟨_, ho, hc⟩ isSubtype_stop ?_)
    exact wpAny_pure (hQ _ fun b o n e => hk b o e)
  · show wpAny _ _ (Builtin.Itertools.itPoolItems (.ref pl) >>= _) _ _ s
    refine wpAny_bind (pool_of hpl ?_)
    show wpAny _ _ (match nxtC items.size idx with | some next => _ | none => _) _ _ s
    rw [hn]
    show wpAny _ _ (setField (.ref it) 1 (rawInt 2) >>= _) _ _ s
    refine wpAny_bind (wpAny_setField hit rfl (by simp) ?_)
    refine stop_of hh fun h' a o ho hc hk => ?_
    refine wpAny_bind (wpAny_isInstance (T := "StopIteration") (b := true) ⟨_, ho, hc⟩ isSubtype_stop ?_)
    exact wpAny_pure (hQ _ fun b o n e => hk b o ((Heap.get?_update_other _ _ (Ne.symm n)).trans e))
end
end CMB
set_option Elab.async false
set_option linter.all false
set_option maxRecDepth 100000
set_option maxHeartbeats 1000000
namespace GX
open PySem PySem.Spec PyProof.Rows L2 GenW

theorem over_L {A : Around} {it acc : Value} {env : Env} {elt : Expr} {gs : List Comprehension} {sc : Scope} {pos : Pos} : A.over (.compLoop (.GeneratorExp elt gs sc pos) 0 it acc env) [] = A.deeper env := by rfl

/-- the context of a generator expression's own frame, made at s -/
abbrev gcx (X : L2.Cx) (s : Shared) (H : Hp) (cenv : Env) (A : Around) (fp : List Addr) : L2.Cx :=
  { X with s_0 := s, H_0 := H, env := cenv, A := A, outer := X.stack, stack := cenv :: X.stack, ex := fp, fn := fun _ => false, pn := [], xe := fun _ _ => False }

/-- the names of a generator expression: its own (with their places in N), or captured -/
structure GOk (N : List Str) (sc scope : Scope) (own : List (Str × Nat)) : Prop where
  kind : scope.kind = .function
  co : scope.isCoroutine = false
  cell : ∀ y ∈ scope.names, y.2 ≠ .cell
  dot : scope.names.lookup (".0" : Str) = some NameKind.local
  ix : ∀ p ∈ own, N[p.2]? = some p.1
  free : ∀ y ∈ scope.names, y.2 = .free → sc.names.lookup y.1 = some .cell ∨ sc.names.lookup y.1 = some .free
  own : ∀ y ∈ scope.names, y.2 = .local → y.1 ∈ own.map (·.1) ∨ y.1 ∉ N

section
variable {X : L2.Cx} {pins : List (Addr × Obj)} {σ : L2.St} {H : Hp} {s : Shared}
theorem GOk.has {scope : Scope} {own : List (Str × Nat)} (ok : GOk X.N X.env.scope scope own) (I : Inv X pins σ H s) : ∀ y ∈ scope.names, y.2 = .free → ∃ c, X.env.cells.lookup y.1 = some c := fun y hy e => by
  rcases ok.free y hy e with k | k
  · exact I.ok.has _ (.inl k)
  · exact I.ok.has _ (.inr k)

/-- the frame, as it stands whenever the generator is woken -/
theorem gen_start {scope : Scope} {own : List (Str × Nat)} {fp : List Addr} {code it : Value} {A : Around} {h' : Heap} {go : Obj} {s2 : Shared}
    (I : Inv X pins σ H s) (ok : GOk X.N X.env.scope scope own) (hN : X.N.Nodup) (hfp : ∀ b ∈ fp, FpOk X pins H b ∧ b < s.heap.objs.size)
    (hn' : h'.Ns s.heap.objs.size (fun y => if y = ".0" then some it else none)) (hs' : Heap.SameBut s.heap.objs.size (s.heap.push { cls := .type "frame", data := .dict #[] }) h')
    (hgo : ∀ v, go.data ≠ .cell v) (hgp : ∀ h : Heap, (h.push go).get? h.objs.size = some go)
    (hh : A.handled = none) (hfr : A.frames = some (genEnv scope (cloFrom X.env.cells scope.names []) s.heap.objs.size code builtinsNs X.env :: X.stack))
    (hk : ∀ b o, (h'.push go).get? b = some o → s2.heap.get? b = some o) (hos : s2.os = s.os) (hb : AllBare s2.gens) :
    Inv (gcx X s H (genEnv scope (cloFrom X.env.cells scope.names []) s.heap.objs.size code builtinsNs X.env) A fp) [(h'.objs.size, go)] (wipe σ (own.map (·.2))) H s2 := by
  have hfree := ok.has I
  generalize hcenv : genEnv scope (cloFrom X.env.cells scope.names []) s.heap.objs.size code builtinsNs X.env = cenv at hfr ⊢
  have hsz : h'.objs.size = s.heap.objs.size + 1 := by rw [hs'.1, Heap.size_push]
  have kp1 : ∀ b o, s.heap.get? b = some o → h'.get? b = some o := fun b o e => hs'.extBut b o (Nat.ne_of_lt (Heap.lt_size e)) (Heap.get?_push_of_some _ e)
  have kp : ∀ b o, s.heap.get? b = some o → s2.heap.get? b = some o := fun b o e => hk b o (Heap.get?_push_of_some _ (kp1 b o e))
  have hL : cenv.locals = s.heap.objs.size := by rw [← hcenv] <;> rfl
  have hcl : cenv.cells = cloFrom X.env.cells scope.names [] := by rw [← hcenv] <;> rfl
  have hsc : cenv.scope = scope := by rw [← hcenv] <;> rfl
  have cm : ∀ {y c}, (y, c) ∈ cloFrom X.env.cells scope.names [] → X.env.cells.lookup y = some c ∧ c < s.heap.objs.size := fun {y c} hm => by
    rcases cloFrom_mem hm with hm | ⟨h1, rfl⟩
    · cases hm
    · obtain ⟨c, hc⟩ := hfree _ h1 rfl
      rw [hc]
      obtain ⟨w, z⟩ := I.cell _ _ hc
      exact ⟨rfl, z.lt⟩
  have mem : ∀ {y c}, cenv.cells.lookup y = some c → X.env.cells.lookup y = some c ∧ c < s.heap.objs.size := fun {y c} e => by
    rw [hcl] at e
    exact cm (PySem.mem_of_lookup e)
  have look : ∀ {y}, scope.names.lookup y = some .free → ∃ c, cenv.cells.lookup y = some c ∧ X.env.cells.lookup y = some c := fun {y} hl => by
    have hy : (y, NameKind.free) ∈ scope.names := PySem.mem_of_lookup hl
    obtain ⟨c', e'⟩ := mem_lookup (cloFrom_has (cells := X.env.cells) (acc := []) hy)
    rw [← hcl] at e'
    exact ⟨c', e', (mem e').1⟩
  have okG : (gcx X s H cenv A fp).Ok := by
    refine ⟨I.ok.mod, by show cenv.scope.kind = _; rw [hsc]; exact ok.kind, by show cenv.globals = _; rw [← hcenv]; exact I.ok.glob, by show cenv.builtins = _; rw [← hcenv] <;> rfl, by show s.heap.objs.size ≤ cenv.locals; rw [hL]; exact Nat.le_refl _,
      fun y z c e1 e2 => ?_, fun y hy => ?_, fun y c z e => ?_, fun _ => hh, hfr, .inr ⟨rfl, by show cenv.frame = some cenv.locals; rw [← hcenv] <;> rfl⟩, fun b hb => ⟨?_, fun y c e z => ?_⟩, I.bs, Nat.le_trans I.ok.bsz I.sz, fun b o e hb => ?_, fun b hb z => ?_, I.stack, I.stkFree⟩
    · exact I.ok.inj y z c (mem e1).1 (mem e2).1
    · have hy : cenv.scope.names.lookup y = some .cell ∨ cenv.scope.names.lookup y = some .free := hy
      rw [hsc] at hy
      rcases hy with hy | hy
      · exact absurd rfl (ok.cell _ (PySem.mem_of_lookup hy))
      · obtain ⟨c, h1, _⟩ := look hy
        exact ⟨c, h1⟩
    · exact absurd (show false = true from z) Bool.false_ne_true
    · show b ≠ cenv.locals
      rw [hL]; exact Nat.ne_of_lt (hfp b hb).2
    · exact (hfp b hb).1.2.2.2.2.1 y c (mem e).1 z
    · rcases (hfp b hb).1.2.2.2.1 with z | z
      · exact I.ok.noex b o e z
      · exact absurd (Nat.lt_of_lt_of_le (Heap.lt_size e) (Nat.le_trans I.ok.bsz z)) (Nat.lt_irrefl _)
    · rcases List.mem_cons.mp (I.stkSub b z) with z | z
      · exact (hfp b hb).1.2.1 z
      · exact (hfp b hb).1.2.2.1 z
  refine ⟨okG, hos, hb, Un.kept kp, ⟨fun y => if y = ".0" then some it else none, ?_, fun i y av e1 e2 e3 => ?_⟩, fun y c e => ?_, ?_, fun y c e => ?_, fun p hp => ?_, I.hok.kept kp, by rw [wipe_length]; exact I.len⟩
  · show Heap.Ns _ cenv.locals _
    rw [hL]
    exact Heap.Ns.keeps hn' fun b o e => hk b o (Heap.get?_push_of_some _ e)
  · obtain ⟨e2, hne⟩ := wipe_some e2
    have e3 : Vis cenv.scope y := e3
    have hfr : scope.names.lookup y = some .free := by
      unfold Vis at e3
      rw [hsc] at e3
      rcases e3 with k | k | k
      · rcases ok.own _ (PySem.mem_of_lookup k) rfl with e' | e'
        · obtain ⟨p, hp, hpy⟩ := List.mem_map.mp e'
          have e4 := ok.ix p hp
          have e5 : p.1 = y := hpy
          rw [e5] at e4
          exact absurd (List.mem_map.mpr ⟨p, hp, nodup_ix hN e4 e1⟩) hne
        · exact absurd (List.mem_of_getElem? e1) e'
      · exact absurd rfl (ok.cell _ (PySem.mem_of_lookup k))
      · exact k
    obtain ⟨m, hn, hl⟩ := I.loc
    have hvis : Vis X.env.scope y := (ok.free _ (PySem.mem_of_lookup hfr) rfl).elim (fun k => .inr (.inl k)) (fun k => .inr (.inr k))
    obtain ⟨w, r, q⟩ := hl i y av e1 e2 hvis
    refine ⟨w, r, .inr ⟨.inr (by show cenv.scope.names.lookup y = _; rw [hsc]; exact hfr), ?_⟩⟩
    obtain ⟨c, h1, h2⟩ := look hfr
    rcases q with ⟨k, _⟩ | ⟨_, c', e', z⟩
    · have k : X.env.scope.names.lookup y = some .local := k
      rcases ok.free _ (PySem.mem_of_lookup hfr) rfl with k' | k' <;> rw [show X.env.scope.names.lookup y = _ from k'] at k <;> cases k
    · rw [h2] at e'; cases e'
      exact ⟨c, h1, z.keeps kp⟩
  · obtain ⟨h1, _⟩ := mem e
    obtain ⟨w, z⟩ := I.cell y c h1
    exact ⟨w, z.keeps kp⟩
  · show H cenv.locals = none
    rw [hL]; exact I.hok.fresh (Nat.le_refl _)
  · exact I.freeC y c (mem e).1
  · have hp : p = (h'.objs.size, go) := by
      have : p ∈ [(h'.objs.size, go)] := hp
      simpa using this
    subst hp
    refine ⟨hk _ _ (hgp _), I.hok.fresh (by show s.heap.objs.size ≤ h'.objs.size; omega), ?_, fun hm => ?_, hgo⟩
    · show h'.objs.size ≠ cenv.locals
      rw [hL, hsz]; exact Nat.succ_ne_self _
    · have hm : h'.objs.size ∈ frs X.stack := hm
      rcases List.mem_cons.mp (I.stkSub _ hm) with z | z
      · have h3 : X.env.locals < s.heap.objs.size := I.lt
        rw [← z] at h3
        have h4 : s.heap.objs.size < h'.objs.size := by rw [hsz]; exact Nat.lt_succ_self _
        exact absurd (Nat.lt_trans h3 h4) (Nat.lt_irrefl _)
      · exact I.nofs (a := h'.objs.size) (by rw [hsz]; exact Nat.le_succ _) z
end
end GX
set_option Elab.async false
set_option linter.all false
set_option maxRecDepth 100000
set_option maxHeartbeats 1000000
namespace GX
open PySem PySem.Spec PyProof.Rows L2 GenW

/-- amid a walk: the iterator at turn i, the pins that the consumer knows -/
def SG (Z : L2.Cx) (σ0 : L2.St) (fp : List Addr) (tn : Nat → Heap → Prop) {κ : Type} (PO : κ → List (Addr × Obj) → Prop) (i : Nat) (k : κ) (H : Hp) (s : Shared) : Prop :=
  tn i s.heap ∧ (∀ b ∈ fp, H b = none) ∧ ∃ pins, PO k pins ∧ Inv Z pins σ0 H s ∧ ∀ b ∈ fp, ∀ p ∈ pins, p.1 ≠ b

structure GTurn {κ : Type} (J : It) (g : TG) (tt : TT) (te : TE) (vs : List Nat) (σ0 : L2.St) (W : Nat → Nat → κ → Hp → Prop) (Zd : κ → Hp → Prop) (Yd : Nat → Nat → κ → V → Hp → Prop) : Prop where
  turn : ∀ i m k H, W i m k H → (J.stop i H ∧ Zd k H) ∨ (J.go i H ∧ ∀ x H', J.yld i H x H' → g x σ0 H' fun σ2 H2 => wipe σ2 vs = σ0 ∧ tt σ2 H2 fun b H3 =>
    if b = true then te σ2 H3 fun y H4 => Yd i m k y H4 else ∃ m', m' < m ∧ W (i + 1) m' k H3)

section
variable {Z : L2.Cx} {A : Around} {R : GenEnd} {Y : Protocol} {κ : Type} {J : It} {tg elt iter : Expr} {ifs : List Expr} {scope : Scope} {pos : Pos} {it : Addr} {fp : List Addr} {tn : Nat → Heap → Prop} {σ0 : L2.St} {g : TG} {tt : TT} {te : TE} {vs : List Nat}
  {PO : κ → List (Addr × Obj) → Prop} {W : Nat → Nat → κ → Hp → Prop} {Zd : κ → Hp → Prop} {Yd : Nat → Nat → κ → V → Hp → Prop} {Fu : Nat → κ → Nat → Prop}

theorem seg_gx (hA : Z.A = A.deeper Z.env) (hxe : Z.xe = fun _ _ => False) (hc : Z.calm = true) (hpn : Z.pn = []) (hex : Z.ex = fp) (hco : Z.env.scope.isCoroutine = false)
    (T : Turn Z.prog Z.w Z.K tg J fp it tn) (pg : PG Z tg g) (pt : PTs Z ifs tt) (pe : PE Z elt te)
    (gt : GTurn J g tt te vs σ0 W Zd Yd)
    (hF : ∀ n k m m', Fu n k m → m' < m → Fu n k m')
    (hpos : ∀ n i m k y H, Fu n k m → Yd i m k y H → 0 < n)
    (hZ : ∀ n s₀ s k m pins H, Fu n k m → PO k pins → Inv Z pins σ0 H s → Zd k H → R n s₀ (.ok .next) s)
    (hY : ∀ n s₀ v s i m k y H kap, Fu (n + 1) k m → SG Z σ0 fp tn PO (i + 1) k H s → RelV y v → Yd i m k y H →
      (∀ s' k' m' H', m' < m → Fu n k' m' → W (i + 1) m' k' H' → SG Z σ0 fp tn PO (i + 1) k' H' s' → kap (.send .none) s') → Y n s₀ v s kap) :
    ∀ (m n i : Nat) (k : κ) (H : Hp) (s₀ s : Shared), Fu n k m → W i m k H → SG Z σ0 fp tn PO i k H s →
      Seg (model Z.prog Z.w) A R Y n s₀ (.compLoop (.GeneratorExp elt [⟨tg, iter, ifs, 0⟩] scope pos) 0 (.ref it) .none Z.env)
        ((model Z.prog Z.w).den (.compLoop (.GeneratorExp elt [⟨tg, iter, ifs, 0⟩] scope pos) 0 (.ref it) .none Z.env)) [] s := by
  intro m
  induction m using Nat.strongRecOn with
  | ind m ih =>
    intro n i k H s₀ s hfu hw hS
    obtain ⟨st, nfp, pins, hPO, I, hpf⟩ := hS
    have fpok : ∀ {pins : List (Addr × Obj)} {σ' : L2.St} {H' : Hp} {s' : Shared}, Inv Z pins σ' H' s' → (∀ b ∈ fp, H' b = none) → (∀ b ∈ fp, ∀ p ∈ pins, p.1 ≠ b) → ∀ b ∈ fp, FpOk Z pins H' b := fun {pins σ' H' s'} I' hn hq b hb =>
      ⟨hn b hb, (I'.ok.exf b (by rw [hex]; exact hb)).1, I'.ok.exfs b (by rw [hex]; exact hb), .inl (by rw [hex]; exact hb), fun x c e => (I'.ok.exf b (by rw [hex]; exact hb)).2 x c e, fun p hp => by
        rw [hpn] at hp
        exact hq b hb p (by simpa using hp)⟩
    have ov : A.over (.compLoop (.GeneratorExp elt [⟨tg, iter, ifs, 0⟩] scope pos) 0 (.ref it) .none Z.env) [] = Z.A := by rw [hA]; exact over_L
    show Seg _ A _ _ _ s₀ _ ((compTurn (.GeneratorExp elt [⟨tg, iter, ifs, 0⟩] scope pos) 0 (.ref it) .none Z.env).onRaise (leaving Z.env)) [] s
    rw [compTurn_gen, Sem.onRaise_eq_wrap]
    refine seg_bind_wrap (wpAny_standAt ?_)
    rcases gt.turn i m k H hw with ⟨stop, zd⟩ | ⟨go, step⟩
    · have td := T.done Z rfl rfl rfl hc i pins s _ H (fun _ _ => False) I (fpok I nfp hpf) st stop
      refine seg_bind_wrap ?_
      rw [ov]
      refine thnF td fun r s6 ⟨hr, I6⟩ => ?_
      subst hr
      exact seg_end (.ok .next) (hZ n s₀ s6 k m pins H hfu hPO I6 zd)
    · have ti := T.item Z rfl rfl rfl hc i pins s _ H (fun _ _ => False) I (fpok I nfp hpf) st go
      refine seg_bind_wrap ?_
      rw [ov]
      refine thnF ti fun r s6 ⟨u, hr, h6⟩ => ?_
      subst hr
      refine seg_bind_wrap ?_
      rw [ov]
      refine thnF h6 fun _ s7 ⟨x, H7, I7, r7, y7, st7, n7⟩ => ?_
      have I7' := I7.pinned (fpok I7 n7 hpf) (T.obj _ _ st7)
      refine seg_bind_wrap ?_
      rw [ov]
      have hxe' : ∀ e s', Z.xe e s' → False := fun e s' z => by rw [hxe] at z; exact z
      refine wpAny_mono (pg.run _ s7 _ H7 x u _ I7' r7 (step x H7 y7)) (fun _ s8 ⟨σ8, H8, I8, hw8, q8⟩ => ?_) fun e s' z => (hxe' e s' z).elim
      refine seg_bind_wrap ?_
      rw [ov]
      refine wpAny_mono (pt.run _ s8 σ8 H8 _ I8 q8) (fun b s9 ⟨H9, I9, q9⟩ => ?_) fun e s' z => (hxe' e s' z).elim
      have fin : ∀ {s' : Shared} {H' : Hp}, Inv Z (pins ++ pinsAt fp s7.heap) σ8 H' s' → SG Z σ0 fp tn PO (i + 1) k H' s' := fun {s' H'} I' => by
        have pin' : ∀ b ∈ fp, ∀ o, s7.heap.get? b = some o → s'.heap.get? b = some o ∧ H' b = none := fun b hb o e =>
          let z := I'.pin (b, o) (List.mem_append_right _ (List.mem_append_right _ (mem_pinsAt hb e)))
          ⟨z.1, z.2.1⟩
        have hl : σ0.length = σ8.length := by rw [← hw8, wipe_length]
        refine ⟨T.keep _ _ _ st7 fun b hb o e => (pin' b hb o e).1, fun b hb => ?_, pins, hPO, (I'.unpinned (pins := pins)).weak hl (fun j v e => ?_), hpf⟩
        · obtain ⟨o, e, _⟩ := T.obj _ _ st7 b hb
          exact (pin' b hb o e).2
        · rw [← hw8] at e
          exact (wipe_some e).1
      cases b with
      | false =>
        simp only [Bool.false_eq_true, if_false] at q9 ⊢
        obtain ⟨m', hm, w'⟩ := q9
        exact seg_again rfl (ih m' hm n (i + 1) k H9 s₀ s9 (hF n k m m' hfu hm) w' (fin I9))
      | true =>
        simp only [if_true] at q9 ⊢
        have hy : ∀ v, yieldOut Z.env v = yieldValue v := fun v => by simp only [yieldOut, hco, Bool.false_eq_true, if_false]
        simp only [hy]
        rw [Sem.bind_eq_wrap', Sem.bind_eq_wrap', Sem.wrap_wrap, Sem.wrap_wrap]
        refine seg_wrap ?_
        rw [ov]
        refine wpAny_mono (pe.run _ s9 σ8 H9 _ I9 q9) (fun z s10 ⟨yv, H10, I10, r10, q10⟩ => ?_) fun e s' z => (hxe' e s' z).elim
        have hn := hpos n i m k yv H10 hfu q10
        obtain ⟨n, rfl⟩ : ∃ n', n = n' + 1 := ⟨n - 1, by omega⟩
        refine seg_at (seg_yield rfl rfl rfl (hY n s₀ z s10 i m k yv H10 _ hfu (fin I10) r10 q10 fun s' k' m' H' hm' hfu' w' hS' => ?_))
        exact seg_again rfl (ih m' hm' n (i + 1) k' H' s' s' hfu' w' hS')
theorem seg_gx0 (hA : Z.A = A.deeper Z.env) (hh : A.handled = none) (T : Turn Z.prog Z.w Z.K tg J fp it tn) {n i : Nat} {s₀ s : Shared} (st : tn i s.heap)
    (loop : Seg (model Z.prog Z.w) A R Y n s₀ (.compLoop (.GeneratorExp elt [⟨tg, iter, ifs, 0⟩] scope pos) 0 (.ref it) .none Z.env)
        ((model Z.prog Z.w).den (.compLoop (.GeneratorExp elt [⟨tg, iter, ifs, 0⟩] scope pos) 0 (.ref it) .none Z.env)) [] s) :
      Seg (model Z.prog Z.w) A R Y n s₀ (.compStart (.GeneratorExp elt [⟨tg, iter, ifs, 0⟩] scope pos) 0 (.ref it) .none Z.env)
        ((model Z.prog Z.w).den (.compStart (.GeneratorExp elt [⟨tg, iter, ifs, 0⟩] scope pos) 0 (.ref it) .none Z.env)) [] s := by
  show Seg _ A R Y n s₀ _ ((compStart (.GeneratorExp elt [⟨tg, iter, ifs, 0⟩] scope pos) 0 (.ref it) .none Z.env).onRaise (leaving Z.env)) [] s
  unfold compStart
  rw [Sem.onRaise_eq_wrap]
  show Seg _ A R Y n s₀ _ ((ask >>= _).wrap _ _ _ _) [] s
  refine seg_bind_wrap (wpAny_askSetting ?_)
  split
  · exact seg_again rfl loop
  · first
      | exact seg_bind_wrap (wpAny_rule (seg_bind_wrap (wpAny_standAt (seg_bind_wrap (T.self _ i s _ _ st (seg_again rfl loop))))))
      | (refine seg_bind_wrap (wpAny_rule ?_); show Seg _ A _ _ _ s₀ _ ((standAt iter.pos >>= _).wrap _ _ _ _) [] s; exact seg_bind_wrap (wpAny_standAt (seg_bind_wrap (T.self _ i s _ _ st (seg_again rfl loop)))))
end
end GX
set_option Elab.async false
set_option linter.all false
set_option maxRecDepth 100000
set_option maxHeartbeats 1000000
namespace GX
open PySem PySem.Spec PyProof.Rows L2 GenW GxR

/-- a generator that has not begun: how it goes on when it is woken -/
structure Made (X : L2.Cx) (pins : List (Addr × Obj)) (σ : L2.St) (own : List (Str × Nat)) (tg elt iter : Expr) (ifs : List Expr) (scope : Scope) (pos : Pos) (J : It) (H : Hp) (a g : Nat) (sc s5 : Shared) (cenv : Env) (fp : List Addr) (it : Addr) (tn : Nat → Heap → Prop) (go : Obj) : Prop where
  inv : Inv X pins σ H sc
  turn : Turn X.prog X.w X.K tg J fp it tn
  fpok : ∀ b ∈ fp, FpOk X pins H b ∧ b < sc.heap.objs.size
  sz : sc.heap.objs.size < a
  sz5 : s5.heap.objs.size = a + 1
  st : s5.gens[g]? = some (.fresh (.compStart (.GeneratorExp elt [⟨tg, iter, ifs, 0⟩] scope pos) 0 (.ref it) .none cenv))
  os : s5.os = sc.os
  bare : AllBare s5.gens
  lim : s5.heap.NoLimit
  kept : ∀ b o, sc.heap.get? b = some o → s5.heap.get? b = some o
  at5 : s5.heap.get? a = some go
  gen : ∀ h : Heap, h.get? a = some go → h.IsGen a g
  cell : ∀ v, go.data ≠ .cell v
  scope : cenv.scope = scope
  wake : ∀ (A : Around) (s2 : Shared), A.handled = none → A.frames = some X.stack → (∀ b o, s5.heap.get? b = some o → s2.heap.get? b = some o) → s2.os = sc.os → AllBare s2.gens →
    tn 0 s2.heap ∧ Inv (gcx X sc H cenv (A.deeper cenv) fp) [(a, go)] (wipe σ (own.map (·.2))) H s2

section
variable {X : L2.Cx} {pins : List (Addr × Obj)} {σ : L2.St} {H : Hp} {s : Shared}
theorem gx_make {c P : Addr} {elt iter tg : Expr} {ifs : List Expr} {gpos : Pos} {scope : Scope} {own : List (Str × Nat)} {wi : TI} {k : Nat} {Q' : Value → Shared → Prop} {R : It → Hp → Prop}
    (hr : Room k X.A) (TB : TabB X.base X.mg c P) (hcode : X.env.code = .ref c) (ok : GOk X.N X.env.scope scope own) (hN : X.N.Nodup) (hi : PI X tg iter wi)
    (hs : ∀ v, genFold iter X.env v = pure v) (I : Inv X pins σ H s) (h : wi σ H fun J H1 => TabG H1 P ∧ ∀ H2, Tabbed P H1 H2 → R J H2)
    (hQ : ∀ J H2 a g sc s5 C code fp it tn go, R J H2 →
      Made X pins σ own tg elt iter ifs scope gpos J H2 a g sc s5 (genEnv scope (cloFrom X.env.cells scope.names []) C code builtinsNs X.env) fp it tn go → Q' (.ref a) s5) :
    wpAny (model X.prog X.w) X.A (eval (.GeneratorExp elt [⟨tg, iter, ifs, 0⟩] scope gpos) X.env) Q' X.xe s := by
  have hfree := ok.has I
  refine wpAny_GeneratorExp_make ok.co (closure_ok hfree) ok.cell ok.dot ok.kind (by have := hr.dp; omega) ?_ hs
  refine thn (hi.run pins s σ H _ I h) fun xv s1 h1 => thn h1 fun itv s2 h2 => ?_
  obtain ⟨it, fp, tn, J, H1, e, I2, T, st2, f2, ⟨ps, hP, ht⟩, hR⟩ := h2
  subst e
  have hPs : s2.heap.get? P = some { cls := .none, data := .fields ps } := I2.hok P _ hP
  have hPlt : P < s2.heap.objs.size := Heap.lt_size hPs
  have cd : PySem.W.CodeHd s2.heap c P := TB.code.keeps fun b u e => I2.bk b u e
  have lim2 : s2.heap.NoLimit := I2.nolimit
  have cont : ∀ (code : Value) (h3 : Heap) (tk : Nat) (more : Array Value), Heap.ExtBut P s2.heap h3 → s2.heap.objs.size ≤ h3.objs.size → h3.get? P = some { cls := .none, data := .fields (ps ++ more) } → TriplesOk (ps ++ more).toList →
      wpAny (model X.prog X.w) X.A (builtinsFor X.env.globals X.env.builtins) (fun bi s₄ =>
        ∀ h', h'.Ns s₄.heap.objs.size (fun y => if y = ".0" then some (.ref it) else none) → Heap.SameBut s₄.heap.objs.size (s₄.heap.push { cls := .type "frame", data := .dict #[] }) h' →
          Q' (.ref h'.objs.size) { s₄ with
            gens := s₄.gens.push (.fresh (.compStart (.GeneratorExp elt [⟨tg, iter, ifs, 0⟩] scope gpos) 0 (.ref it) .none (genEnv scope (cloFrom X.env.cells scope.names []) s₄.heap.objs.size code bi X.env))),
            toks := s₄.toks + 1 + 1 + 1,
            heap := h'.push { cls := .type "generator", data := .fields #[.int s₄.gens.size 0, .str "<genexpr>" (s₄.toks + 1), .str (X.env.qual ++ "<genexpr>") (s₄.toks + 1 + 1)] } }) X.xe { s2 with heap := h3, toks := tk } := by
    intro code h3 tk more hx hsz hP3 ht3
    obtain ⟨bm, ob, e1, e2, e3, e4, e5, e6, e7, e8⟩ := TB.bm
    have keep3 : ∀ b u, b ≠ P → s2.heap.get? b = some u → h3.get? b = some u := fun b u hb e => hx b u hb e
    refine wpAny_builtinsFor (m := X.mg) (by rw [I2.ok.glob]; exact (I2.mod.glob.keeps I2.bk).extBut hx TB.gP) e1 e2 (keep3 _ _ e4 (I2.bk _ _ e5)) e6 e7 e8 ?_
    have I3 : Inv X pins σ (upd H1 P (.tbl (ps ++ more))) { s2 with heap := h3, gens := s2.gens, drawn := s2.drawn, toks := tk } := inv_tab I2 hP keep3 hP3 I2.bare
    have hT : Tabbed P H1 (upd H1 P (.tbl (ps ++ more))) := ⟨⟨ps ++ more, upd_same, ht3⟩, fun b hb => upd_ne hb⟩
    have fne : ∀ b ∈ fp, b ≠ P := fun b hb z => by
      have := (f2 b hb).1
      rw [z, hP] at this
      cases this
    have f3 : ∀ b ∈ fp, FpOk X pins (upd H1 P (.tbl (ps ++ more))) b ∧ b < h3.objs.size := fun b hb => by
      refine ⟨⟨by rw [upd_ne (fne b hb)]; exact (f2 b hb).1, (f2 b hb).2⟩, ?_⟩
      obtain ⟨o, e, _⟩ := T.obj _ _ st2 b hb
      exact Nat.lt_of_lt_of_le (Heap.lt_size e) hsz
    have st3 : tn 0 h3 := T.keep _ _ _ st2 fun b hb o e => keep3 b o (fne b hb) e
    intro h' hn' hs'
    have hsz' : h'.objs.size = h3.objs.size + 1 := by rw [hs'.1, Heap.size_push]
    have kp1 : ∀ b o, h3.get? b = some o → h'.get? b = some o := fun b o e => hs'.extBut b o (Nat.ne_of_lt (Heap.lt_size e)) (Heap.get?_push_of_some _ e)
    refine hQ J (upd H1 P (.tbl (ps ++ more))) h'.objs.size s2.gens.size { s2 with heap := h3, toks := tk } _ h3.objs.size code fp it tn
      { cls := .type "generator", data := .fields #[.int s2.gens.size 0, .str "<genexpr>" (tk + 1), .str (X.env.qual ++ "<genexpr>") (tk + 1 + 1)] } (hR _ hT)
      ⟨I3, T, f3, by show h3.objs.size < _; rw [hsz']; exact Nat.lt_succ_self _, Heap.size_push .., Array.getElem?_push_size .., rfl, AllBare.push I3.bare rfl, (I3.nolimit.keeps kp1).push _, fun b o e => Heap.get?_push_of_some _ (kp1 b o e),
        Heap.get?_push_size _ rfl, fun h e => ⟨_, _, _, e, rfl, rfl, rfl⟩, (fun v q => by cases q), rfl, fun A s3 hh hfr hk hos hb => ⟨?_, ?_⟩⟩
    · exact T.keep _ _ _ st3 fun b _ o e => hk b o (Heap.get?_push_of_some _ (kp1 b o e))
    · exact gen_start (s := { s2 with heap := h3, toks := tk }) I3 ok hN f3 hn' hs' (fun v q => by cases q) (fun h => Heap.get?_push_size _ rfl) hh (by show Option.map _ A.frames = _; rw [hfr] <;> rfl) hk hos hb
  refine ⟨lim2, ?_⟩
  cases hf : codeAmong gpos ps.toList with
  | none =>
    refine wpAny_genexprCodeX hcode (cd.code hPs ht) (cd.tab hPs) hf fun c' h' tk hx hge hlt hco' _ htab' _ => ?_
    obtain ⟨o1, vs, f1, tf, fl, tg, inF, tx, tt, op, _, _, _, _, _, _, _, _, _, htr, _⟩ := hco'
    exact cont _ h' tk _ hx (Nat.le_trans hge (Nat.le_of_lt hlt)) htab'.2 htr
  | some cv =>
    refine wpAny_genexprCode_hit hcode (cd.code hPs ht) hf ?_
    exact cont cv s2.heap s2.toks #[] (Heap.ExtBut.refl _ _) (Nat.le_refl _) (by simpa using hPs) (by simpa using ht)
end
end GX
set_option Elab.async false
set_option linter.all false
set_option maxRecDepth 100000
set_option maxHeartbeats 1000000
namespace GX
open PySem PySem.Spec PyProof.Rows L2 GenW GxR

/-- between two turns nothing is changed -/
structure Bet (s s' : Shared) : Prop where
  os : s'.os = s.os
  bare : AllBare s'.gens
  kept : ∀ b o, s.heap.get? b = some o → s'.heap.get? b = some o
def YA (X : L2.Cx) (sc : Shared) (H : Hp) (fp : List Addr) (a g : Nat) (stp : Bool) (Qs : Hp → Prop) : Protocol := fun n s₀ v s kap =>
  s.os = sc.os ∧ AllBare s.gens ∧ s.heap.NoLimit ∧ s.heap.IsGen a g ∧ ∃ b H', v = Value.bool b ∧ Un (frs X.stack) fp H H' sc.heap s.heap ∧ HOk X.prog X.w H' s.heap ∧
    if b = stp then Qs H' else ∀ s', Bet s s' → kap (.send .none) s'
def EA (X : L2.Cx) (sc : Shared) (H : Hp) (fp : List Addr) (Qe : Hp → Prop) (n : Nat) (s₀ s : Shared) : Prop :=
  s.os = sc.os ∧ AllBare s.gens ∧ ∃ H', Un (frs X.stack) fp H H' sc.heap s.heap ∧ HOk X.prog X.w H' s.heap ∧ Qe H'
def RA (X : L2.Cx) (sc : Shared) (H : Hp) (fp : List Addr) (Qe : Hp → Prop) : GenEnd := fun n s₀ r s => r = .ok .next ∧ EA X sc H fp Qe n s₀ s

section
variable {X : L2.Cx} {sc : Shared} {H : Hp} {fp : List Addr} {a g : Nat} {Qs Qe : Hp → Prop} {A : Around} {R : Result → Shared → Prop}
theorem all_loop (hh : A.handled = none) (hd : A.depth < recursionLimit)
    (hstop : ∀ s' H', s'.os = sc.os → AllBare s'.gens → Un (frs X.stack) fp H H' sc.heap s'.heap → HOk X.prog X.w H' s'.heap → Qs H' → R (.ok (.ret (.bool false))) s')
    (hend : ∀ s' H', s'.os = sc.os → AllBare s'.gens → Un (frs X.stack) fp H H' sc.heap s'.heap → HOk X.prog X.w H' s'.heap → Qe H' → R (.ok (.ret (.bool true))) s') :
    ∀ (m : Nat) (s : Shared), s.heap.IsGen a g → s.heap.NoLimit →
      (∃ gs, s.gens[g]? = some gs ∧ gs.Goes (model X.prog X.w) A.in1.in1 (RA X sc H fp Qe) (YA X sc H fp a g false Qs) m (.send .none) (s.setGen g .running)) →
      codeAny (model X.prog X.w) A (.builtin "all.loop" ⟨[.ref a], []⟩) R s := by
  intro m
  induction m with
  | zero =>
    intro s hg hl ⟨gs, hgs, hgo⟩
    refine codeAny_builtin F.entry_all_loop ?_
    rw [Around.under_plainId F.plain_all_loop _]
    show wpAny _ A.in1 (pyNext (.ref a) >>= _) _ _ s
    refine wpAny_bind (wpAny_pyNext_genexpQ (A := A.in1) (P := EA X sc H fp Qe) hh hl hd hg hgs hgo (fun v s₁ gs' hbare hv => ?_) (fun s₁ hp h' hk => ?_))
    · obtain ⟨os1, hb1, hl1, hg1, b, H', rfl, un, hok, hq⟩ := hv
      refine wpAny_bind (wpAny_holding (wpAny_truthy_bool ?_))
      refine wpAny_bind (wpAny_letGo ?_)
      cases b with
      | true =>
        rw [if_neg (by decide)] at hq
        exact (hq s₁ ⟨rfl, hb1, fun _ _ e => e⟩).elim
      | false =>
        rw [if_pos rfl] at hq
        simp only [Bool.false_eq_true, if_false]
        refine wpAny_bind (wpAny_rule (wpAny_pure ?_))
        exact hstop _ H' os1 (allBare_setGen hb1 hbare) un hok hq
    · obtain ⟨os1, hb1, H', un, hok, hq⟩ := hp
      refine wpAny_bind (wpAny_rule (wpAny_pure ?_))
      exact hend _ H' os1 (allBare_setGen hb1 rfl) (un.trans (Un.kept hk)) (hok.kept hk) hq
  | succ m ih =>
    intro s hg hl ⟨gs, hgs, hgo⟩
    have hgl : g < s.gens.size := (Array.getElem?_eq_some_iff.mp hgs).1
    refine codeAny_builtin F.entry_all_loop ?_
    rw [Around.under_plainId F.plain_all_loop _]
    show wpAny _ A.in1 (pyNext (.ref a) >>= _) _ _ s
    refine wpAny_bind (wpAny_gsz (n := g + 1) hgl (wpAny_pyNext_genexpQ (A := A.in1) (P := EA X sc H fp Qe) hh hl hd hg hgs hgo (fun v s₁ gs' hbare hv => ?_) (fun s₁ hp h' hk => ?_)))
    · intro hsz
      obtain ⟨os1, hb1, hl1, hg1, b, H', rfl, un, hok, hq⟩ := hv
      refine wpAny_bind (wpAny_holding (wpAny_truthy_bool ?_))
      refine wpAny_bind (wpAny_letGo ?_)
      cases b with
      | true =>
        rw [if_neg (by decide)] at hq
        simp only [if_true]
        have hsz1 : g < s₁.gens.size := by
          have q : (s₁.setGen g gs').gens.size = s₁.gens.size := setGen_size _ _ _
          have hsz' : g + 1 ≤ (s₁.setGen g gs').gens.size := hsz
          omega
        refine wpAny_pure ⟨plainId_quiet F.plain_all_loop _, ih (s₁.setGen g gs') hg1 hl1 ⟨gs', setGen_at hsz1, ?_⟩⟩
        exact hq _ ⟨rfl, allBare_setGen (s := s₁.setGen g gs') (allBare_setGen hb1 hbare) rfl, fun _ _ e => e⟩
      | false =>
        rw [if_pos rfl] at hq
        simp only [Bool.false_eq_true, if_false]
        refine wpAny_bind (wpAny_rule (wpAny_pure ?_))
        exact hstop _ H' os1 (allBare_setGen hb1 hbare) un hok hq
    · intro hsz
      obtain ⟨os1, hb1, H', un, hok, hq⟩ := hp
      refine wpAny_bind (wpAny_rule (wpAny_pure ?_))
      exact hend _ H' os1 (allBare_setGen hb1 rfl) (un.trans (Un.kept hk)) (hok.kept hk) hq
theorem any_loop (hh : A.handled = none) (hd : A.depth < recursionLimit)
    (hstop : ∀ s' H', s'.os = sc.os → AllBare s'.gens → Un (frs X.stack) fp H H' sc.heap s'.heap → HOk X.prog X.w H' s'.heap → Qs H' → R (.ok (.ret (.bool true))) s')
    (hend : ∀ s' H', s'.os = sc.os → AllBare s'.gens → Un (frs X.stack) fp H H' sc.heap s'.heap → HOk X.prog X.w H' s'.heap → Qe H' → R (.ok (.ret (.bool false))) s') :
    ∀ (m : Nat) (s : Shared), s.heap.IsGen a g → s.heap.NoLimit →
      (∃ gs, s.gens[g]? = some gs ∧ gs.Goes (model X.prog X.w) A.in1.in1 (RA X sc H fp Qe) (YA X sc H fp a g true Qs) m (.send .none) (s.setGen g .running)) →
      codeAny (model X.prog X.w) A (.builtin "any.loop" ⟨[.ref a], []⟩) R s := by
  intro m
  induction m with
  | zero =>
    intro s hg hl ⟨gs, hgs, hgo⟩
    refine codeAny_builtin F.entry_any_loop ?_
    rw [Around.under_plainId F.plain_any_loop _]
    show wpAny _ A.in1 (pyNext (.ref a) >>= _) _ _ s
    refine wpAny_bind (wpAny_pyNext_genexpQ (A := A.in1) (P := EA X sc H fp Qe) hh hl hd hg hgs hgo (fun v s₁ gs' hbare hv => ?_) (fun s₁ hp h' hk => ?_))
    · obtain ⟨os1, hb1, hl1, hg1, b, H', rfl, un, hok, hq⟩ := hv
      refine wpAny_bind (wpAny_holding (wpAny_truthy_bool ?_))
      refine wpAny_bind (wpAny_letGo ?_)
      cases b with
      | false =>
        rw [if_neg (by decide)] at hq
        exact (hq s₁ ⟨rfl, hb1, fun _ _ e => e⟩).elim
      | true =>
        rw [if_pos rfl] at hq
        simp only [if_true]
        refine wpAny_bind (wpAny_rule (wpAny_pure ?_))
        exact hstop _ H' os1 (allBare_setGen hb1 hbare) un hok hq
    · obtain ⟨os1, hb1, H', un, hok, hq⟩ := hp
      refine wpAny_bind (wpAny_rule (wpAny_pure ?_))
      exact hend _ H' os1 (allBare_setGen hb1 rfl) (un.trans (Un.kept hk)) (hok.kept hk) hq
  | succ m ih =>
    intro s hg hl ⟨gs, hgs, hgo⟩
    have hgl : g < s.gens.size := (Array.getElem?_eq_some_iff.mp hgs).1
    refine codeAny_builtin F.entry_any_loop ?_
    rw [Around.under_plainId F.plain_any_loop _]
    show wpAny _ A.in1 (pyNext (.ref a) >>= _) _ _ s
    refine wpAny_bind (wpAny_gsz (n := g + 1) hgl (wpAny_pyNext_genexpQ (A := A.in1) (P := EA X sc H fp Qe) hh hl hd hg hgs hgo (fun v s₁ gs' hbare hv => ?_) (fun s₁ hp h' hk => ?_)))
    · intro hsz
      obtain ⟨os1, hb1, hl1, hg1, b, H', rfl, un, hok, hq⟩ := hv
      refine wpAny_bind (wpAny_holding (wpAny_truthy_bool ?_))
      refine wpAny_bind (wpAny_letGo ?_)
      cases b with
      | false =>
        rw [if_neg (by decide)] at hq
        simp only [Bool.false_eq_true, if_false]
        have hsz1 : g < s₁.gens.size := by
          have q : (s₁.setGen g gs').gens.size = s₁.gens.size := setGen_size _ _ _
          have hsz' : g + 1 ≤ (s₁.setGen g gs').gens.size := hsz
          omega
        refine wpAny_pure ⟨plainId_quiet F.plain_any_loop _, ih (s₁.setGen g gs') hg1 hl1 ⟨gs', setGen_at hsz1, ?_⟩⟩
        exact hq _ ⟨rfl, allBare_setGen (s := s₁.setGen g gs') (allBare_setGen hb1 hbare) rfl, fun _ _ e => e⟩
      | true =>
        rw [if_pos rfl] at hq
        simp only [if_true]
        refine wpAny_bind (wpAny_rule (wpAny_pure ?_))
        exact hstop _ H' os1 (allBare_setGen hb1 hbare) un hok hq
    · intro hsz
      obtain ⟨os1, hb1, H', un, hok, hq⟩ := hp
      refine wpAny_bind (wpAny_rule (wpAny_pure ?_))
      exact hend _ H' os1 (allBare_setGen hb1 rfl) (un.trans (Un.kept hk)) (hok.kept hk) hq
end
end GX
set_option Elab.async false
set_option linter.all false
set_option maxRecDepth 100000
set_option maxHeartbeats 1000000
namespace GX
open PySem PySem.Spec PyProof.Rows L2 GenW GxR

theorem room_gen {k : Nat} {A A' : Around} {env : Env} (hr : Room (k + 1) A) (h1 : A'.handled = A.handled) (h2 : A'.depth = A.depth) (h3 : A'.units ≤ A.units + 10) : Room k (A'.deeper env) :=
  ⟨h1.trans hr.hd, by have := hr.dp; show A'.depth + 1 + 3 * k + 5 < _; omega, by have := hr.un; show A'.units + 3 + 16 * k + 200 < _; omega⟩
theorem room_gen2 {k : Nat} {A : Around} {env : Env} (hr : Room (k + 1) A) : Room k (A.in1.in1.deeper env) := room_gen hr rfl rfl (by show A.units + 1 + 1 ≤ _; omega)

/-- one turn of a generator expression whose items are bools: stp ends it -/
def GT2 (J : It) (g : TG) (tt : TT) (te : TE) (vs : List Nat) (σ0 : L2.St) (stp : Bool) (Qs Qe : Hp → Prop) (W : Nat → Nat → Hp → Prop) : Prop :=
  ∀ i m H, W i m H → (J.stop i H ∧ Qe H) ∨ (J.go i H ∧ ∀ x H', J.yld i H x H' → g x σ0 H' fun σ2 H2 => wipe σ2 vs = σ0 ∧ tt σ2 H2 fun b H3 =>
    if b = true then te σ2 H3 fun y H4 => 0 < m ∧ ∃ b, y = .bl b ∧ (b = stp → Qs H4) ∧ (b ≠ stp → ∃ m', m' < m ∧ W (i + 1) m' H4) else ∃ m', m' < m ∧ W (i + 1) m' H3)
def tGx (P : Addr) (wi : TI) (body : It → L2.St → Hp → VK → Prop) : TE := fun σ H Q => wi σ H fun J H1 => TabG H1 P ∧ ∀ H2, Tabbed P H1 H2 → body J σ H2 Q
def bAll (g : TG) (tt : TT) (te : TE) (vs : List Nat) : It → L2.St → Hp → VK → Prop := fun J σ H Q => ∃ W, (∃ m, W 0 m H) ∧ GT2 J g tt te vs (wipe σ vs) false (Q (.bl false)) (Q (.bl true)) W
def bAny (g : TG) (tt : TT) (te : TE) (vs : List Nat) : It → L2.St → Hp → VK → Prop := fun J σ H Q => ∃ W, (∃ m, W 0 m H) ∧ GT2 J g tt te vs (wipe σ vs) true (Q (.bl true)) (Q (.bl false)) W

section
variable {X : L2.Cx} {pins : List (Addr × Obj)} {σ : L2.St} {H : Hp}
theorem sg_bet {Z : L2.Cx} {σ0 : L2.St} {fp : List Addr} {tn : Nat → Heap → Prop} {κ : Type} {PO : κ → List (Addr × Obj) → Prop} {i : Nat} {k : κ} {H : Hp} {s s' : Shared} {J : It} {tg : Expr} {it : Addr} (T : Turn Z.prog Z.w Z.K tg J fp it tn)
    (h : SG Z σ0 fp tn PO i k H s) (b : Bet s s') : SG Z σ0 fp tn PO i k H s' := by
  obtain ⟨st, n, pins, po, I, q⟩ := h
  exact ⟨T.keep _ _ _ st fun c _ o e => b.kept c o e, n, pins, po, I.call' (ch := []) b.os (Un.kept b.kept) (I.hok.kept b.kept) b.bare (fun c hc => absurd hc (by simp)), q⟩

/-- what a consumer of bools is given -/
theorem made_bools {J : It} {elt tg iter : Expr} {ifs : List Expr} {scope : Scope} {own : List (Str × Nat)} {gpos : Pos} {a g' : Nat} {sc s5 : Shared} {cenv : Env} {fp : List Addr} {it : Addr} {tn : Nat → Heap → Prop} {go : Obj} {g : TG} {tt : TT} {te : TE} {stp : Bool} {Qs Qe : Hp → Prop} {W : Nat → Nat → Hp → Prop} {m0 : Nat} {A : Around}
    (M : Made X pins σ own tg elt iter ifs scope gpos J H a g' sc s5 cenv fp it tn go) (hc : X.calm = true) (hh : A.handled = none) (hfr : A.frames = some X.stack) (hco : scope.isCoroutine = false)
    (hg : PG (gcx X sc H cenv (A.deeper cenv) fp) tg g) (ht : PTs (gcx X sc H cenv (A.deeper cenv) fp) ifs tt) (he : PE (gcx X sc H cenv (A.deeper cenv) fp) elt te)
    (hw : W 0 m0 H) (gt : GT2 J g tt te (own.map (·.2)) (wipe σ (own.map (·.2))) stp Qs Qe W) :
    (∃ gs, s5.gens[g']? = some gs ∧ gs.Goes (model X.prog X.w) A (RA X sc H fp Qe) (YA X sc H fp a g' stp Qs) m0 (.send .none) (s5.setGen g' .running)) := by
  refine ⟨_, M.st, rfl, ?_⟩
  obtain ⟨st2, I2⟩ := M.wake A (s5.setGen g' .running) hh hfr (fun _ _ e => e) M.os (allBare_setGen M.bare rfl)
  have S0 : SG (gcx X sc H cenv (A.deeper cenv) fp) (wipe σ (own.map (·.2))) fp tn (fun (_ : Unit) p => p = [(a, go)]) 0 () H (s5.setGen g' .running) := by
    refine ⟨st2, fun b hb => (M.fpok b hb).1.1, _, rfl, I2, fun b hb p hp z => ?_⟩
    have e : p = (a, go) := by simpa using hp
    subst e
    have h1 := (M.fpok b hb).2
    have h2 := M.sz
    rw [← z] at h1
    exact absurd (Nat.lt_trans h1 h2) (Nat.lt_irrefl _)
  have T' : Turn (gcx X sc H cenv (A.deeper cenv) fp).prog (gcx X sc H cenv (A.deeper cenv) fp).w (gcx X sc H cenv (A.deeper cenv) fp).K tg J fp it tn := M.turn
  refine seg_gx0 (Z := gcx X sc H cenv (A.deeper cenv) fp) rfl hh M.turn st2 ?_
  refine seg_gx (Z := gcx X sc H cenv (A.deeper cenv) fp) (κ := Unit) (σ0 := wipe σ (own.map (·.2))) (vs := own.map (·.2)) (PO := fun (_ : Unit) p => p = [(a, go)]) (Fu := fun n _ m => m ≤ n) (W := fun i m _ H => W i m H) (Zd := fun _ H => Qe H)
    (Yd := fun i m _ y H4 => 0 < m ∧ ∃ b, y = .bl b ∧ (b = stp → Qs H4) ∧ (b ≠ stp → ∃ m', m' < m ∧ W (i + 1) m' H4))
    rfl rfl hc rfl rfl (by show cenv.scope.isCoroutine = false; rw [M.scope]; exact hco) M.turn hg ht he ⟨fun i m k H hw => gt i m H hw⟩
    (fun n k m m' h1 h2 => by omega) (fun n i m k y H h1 h2 => by have := h2.1; omega) ?_ ?_ m0 m0 0 () H _ _ (Nat.le_refl _) hw S0
  · rintro n s₀ s k m pins' H' hfu rfl I hq
    exact ⟨rfl, I.os, I.bare, H', I.base, I.hok, hq⟩
  · rintro n s₀ v s i m k y H' kap hfu S r ⟨hm, b, rfl, q1, q2⟩ hk
    obtain ⟨st, nf, pins', rfl, I, hpf⟩ := id S
    have hv : v = Value.bool b := r
    refine ⟨I.os, I.bare, I.nolimit, M.gen _ (I.pin (a, go) (by simp)).1, b, H', hv, I.base, I.hok, ?_⟩
    by_cases hb : b = stp
    · rw [if_pos hb]
      exact q1 hb
    · rw [if_neg hb]
      intro s' hbet
      obtain ⟨m', hm', w'⟩ := q2 hb
      exact hk s' () m' H' hm' (by omega) w' (sg_bet T' S hbet)

theorem out_inv {fp : List Addr} {sc s' : Shared} {H' : Hp} (I : Inv X pins σ H sc) (hfp : ∀ b ∈ fp, FpOk X pins H b ∧ b < sc.heap.objs.size) (os : s'.os = sc.os) (hb : AllBare s'.gens) (un : Un (frs X.stack) fp H H' sc.heap s'.heap) (hok : HOk X.prog X.w H' s'.heap) : Inv X pins σ H' s' :=
  I.call' (ch := fp) os un hok hb fun b hb => ⟨(hfp b hb).1.2.2.2.1, (hfp b hb).1.2.1, (hfp b hb).1.2.2.2.2.1, (hfp b hb).1.2.2.2.2.2⟩

abbrev GCtx (X : L2.Cx) (scope : Scope) (C : Addr) (code : Value) : Env := genEnv scope (cloFrom X.env.cells scope.names []) C code builtinsNs X.env
theorem pe_all {c P : Addr} {elt iter tg : Expr} {ifs : List Expr} {p pos gpos : Pos} {scope : Scope} {own : List (Str × Nat)} {wi : TI} {g : TG} {tt : TT} {te : TE} {k : Nat}
    (hr : Room (k + 1) X.A) (hc : X.calm = true) (hgl : Gl X "all") (hm : X.mg "all" = none) (hb : bootBuiltins "all" = some (.builtin "all")) (TB : TabB X.base X.mg c P) (hcode : X.env.code = .ref c)
    (ok : GOk X.N X.env.scope scope own) (hN : X.N.Nodup) (hi : PI X tg iter wi)
    (hg : ∀ s H C code A' fp, PG (gcx X s H (GCtx X scope C code) A' fp) tg g)
    (ht : ∀ s H C code A' fp, Room k A' → PTs (gcx X s H (GCtx X scope C code) A' fp) ifs tt)
    (he : ∀ s H C code A' fp, Room k A' → PE (gcx X s H (GCtx X scope C code) A' fp) elt te)
    (hs : ∀ v, genFold iter X.env v = pure v := by intro _; rfl)
    (hst : starEach [.GeneratorExp elt [⟨tg, iter, ifs, 0⟩] scope gpos] X.env = (false, eval (.GeneratorExp elt [⟨tg, iter, ifs, 0⟩] scope gpos) X.env) :: starEach [] X.env := by rfl) :
    PE X (.Call (.Name "all" p) [.GeneratorExp elt [⟨tg, iter, ifs, 0⟩] scope gpos] [] pos) (tGx P wi (bAll g tt te (own.map (·.2)))) := by
  refine ⟨fun pins s σ H Q I h => ?_⟩
  refine wpAny_Call_Name_kw (ld_blt I hgl hm hb ?_)
  refine PyProof.Rows.callWith_builtin1 ?_ hst (by rfl)
  rw [hst]
  show wpAny _ _ (spliced ((false, eval (.GeneratorExp elt [⟨tg, iter, ifs, 0⟩] scope gpos) X.env) :: backTo pos (starEach [] X.env))) _ _ s
  refine Calls.spliced_cons (gx_make hr TB hcode ok hN hi hs I h fun J H2 a g' sc s5 C code fp it tn go hR M => ?_)
  refine Calls.spliced_nil ?_
  obtain ⟨W, ⟨m0, hw⟩, gt⟩ := hR
  refine call_function_tree F.kind_all F.plain_all F.entry_all (F.args_all1 _) ?_
  unfold Builtin.«all»
  refine wpAny_bind (m := oneArg "all" _) (wpAny_pure ?_)
  refine wpAny_bind (wpAny_pyIter_gen (M.gen _ M.at5) ?_)
  refine wpAny_pure ⟨plainId_quiet F.plain_all_loop _, ?_⟩
  refine all_loop (X := X) (sc := sc) (H := H2) (fp := fp) (Qs := Q (.bl false)) (Qe := Q (.bl true)) (g := g') hr.hd (by have := hr.dp; show X.A.depth < _; omega)
    (fun s' H' os hb un hok hq => ⟨.bl false, H', out_inv M.inv M.fpok os hb un hok, rfl, hq⟩) (fun s' H' os hb un hok hq => ⟨.bl true, H', out_inv M.inv M.fpok os hb un hok, rfl, hq⟩)
    m0 s5 (M.gen _ M.at5) M.lim ?_
  exact made_bools M hc hr.hd M.inv.ok.frames ok.co (hg ..) (ht _ _ _ _ _ _ (room_gen2 hr)) (he _ _ _ _ _ _ (room_gen2 hr)) hw gt
theorem pe_any {c P : Addr} {elt iter tg : Expr} {ifs : List Expr} {p pos gpos : Pos} {scope : Scope} {own : List (Str × Nat)} {wi : TI} {g : TG} {tt : TT} {te : TE} {k : Nat}
    (hr : Room (k + 1) X.A) (hc : X.calm = true) (hgl : Gl X "any") (hm : X.mg "any" = none) (TB : TabB X.base X.mg c P) (hcode : X.env.code = .ref c)
    (ok : GOk X.N X.env.scope scope own) (hN : X.N.Nodup) (hi : PI X tg iter wi)
    (hg : ∀ s H C code A' fp, PG (gcx X s H (GCtx X scope C code) A' fp) tg g)
    (ht : ∀ s H C code A' fp, Room k A' → PTs (gcx X s H (GCtx X scope C code) A' fp) ifs tt)
    (he : ∀ s H C code A' fp, Room k A' → PE (gcx X s H (GCtx X scope C code) A' fp) elt te)
    (hs : ∀ v, genFold iter X.env v = pure v := by intro _; rfl)
    (hst : starEach [.GeneratorExp elt [⟨tg, iter, ifs, 0⟩] scope gpos] X.env = (false, eval (.GeneratorExp elt [⟨tg, iter, ifs, 0⟩] scope gpos) X.env) :: starEach [] X.env := by rfl) :
    PE X (.Call (.Name "any" p) [.GeneratorExp elt [⟨tg, iter, ifs, 0⟩] scope gpos] [] pos) (tGx P wi (bAny g tt te (own.map (·.2)))) := by
  refine ⟨fun pins s σ H Q I h => ?_⟩
  refine wpAny_Call_Name_kw (ld_blt I hgl hm boot_any ?_)
  refine PyProof.Rows.callWith_builtin1 ?_ hst (by rfl)
  rw [hst]
  show wpAny _ _ (spliced ((false, eval (.GeneratorExp elt [⟨tg, iter, ifs, 0⟩] scope gpos) X.env) :: backTo pos (starEach [] X.env))) _ _ s
  refine Calls.spliced_cons (gx_make hr TB hcode ok hN hi hs I h fun J H2 a g' sc s5 C code fp it tn go hR M => ?_)
  refine Calls.spliced_nil ?_
  obtain ⟨W, ⟨m0, hw⟩, gt⟩ := hR
  refine call_function_tree F.kind_any F.plain_any F.entry_any (F.args_any1 _) ?_
  unfold Builtin.«any»
  refine wpAny_bind (m := oneArg "any" _) (wpAny_pure ?_)
  refine wpAny_bind (wpAny_pyIter_gen (M.gen _ M.at5) ?_)
  refine wpAny_pure ⟨plainId_quiet F.plain_any_loop _, ?_⟩
  refine any_loop (X := X) (sc := sc) (H := H2) (fp := fp) (Qs := Q (.bl true)) (Qe := Q (.bl false)) (g := g') hr.hd (by have := hr.dp; show X.A.depth < _; omega)
    (fun s' H' os hb un hok hq => ⟨.bl true, H', out_inv M.inv M.fpok os hb un hok, rfl, hq⟩) (fun s' H' os hb un hok hq => ⟨.bl false, H', out_inv M.inv M.fpok os hb un hok, rfl, hq⟩)
    m0 s5 (M.gen _ M.at5) M.lim ?_
  exact made_bools M hc hr.hd M.inv.ok.frames ok.co (hg ..) (ht _ _ _ _ _ _ (room_gen2 hr)) (he _ _ _ _ _ _ (room_gen2 hr)) hw gt
end
end GX
set_option Elab.async false
set_option linter.all false
set_option maxRecDepth 100000
set_option maxHeartbeats 1000000
namespace GX
open PySem PySem.Spec PyProof.Rows L2 GenW GxR

/-- one turn of a generator expression whose items are all taken; ys: what is out -/
def GTL (J : It) (g : TG) (tt : TT) (te : TE) (vs : List Nat) (σ0 : L2.St) (Qe : List V → Hp → Prop) (W : Nat → Nat → List V → Hp → Prop) : Prop :=
  ∀ i m ys H, W i m ys H → (J.stop i H ∧ Qe ys H) ∨ (J.go i H ∧ ∀ x H', J.yld i H x H' → g x σ0 H' fun σ2 H2 => wipe σ2 vs = σ0 ∧ tt σ2 H2 fun b H3 =>
    if b = true then te σ2 H3 fun y H4 => ys.length < sizeLine ∧ ∃ m', m' < m ∧ W (i + 1) m' (ys ++ [y]) H4 else ∃ m', m' < m ∧ W (i + 1) m' ys H3)
def bLst (g : TG) (tt : TT) (te : TE) (vs : List Nat) (Qe : List V → Hp → VK → Prop) : It → L2.St → Hp → VK → Prop := fun J σ H Q => ∃ W, (∃ m, W 0 m [] H) ∧ GTL J g tt te vs (wipe σ vs) (fun ys H' => Qe ys H' Q) W

section
variable {X : L2.Cx} {pins : List (Addr × Obj)} {σ : L2.St} {H : Hp}
theorem slept_inv {Z : L2.Cx} {σ0 : L2.St} {H : Hp} {s s' : Shared} {S a : Addr} {go : Obj} {acc : Array Value} {c : Nat} {v : Value} (hpn : Z.pn = []) (h0 : Z.s_0.heap.objs.size ≤ S) (hSa : a ≠ S) (I : Inv Z [(S, lstObj acc c), (a, go)] σ0 H s) (z : Slept S v s s') :
    ∃ c', Inv Z [(S, lstObj (acc.push v) c'), (a, go)] σ0 H s' := by
  obtain ⟨e1, e2, e3, e4, _⟩ := I.pin (S, lstObj acc c) (by simp)
  have I0 : Inv Z [(a, go)] σ0 H s := I.pins_of fun p hp => I.pin p (List.mem_append_right _ (List.mem_cons_of_mem _ hp))
  obtain ⟨c', eS⟩ := z.own acc c e1
  have J1 : Inv Z [(a, go)] σ0 H { s with heap := s'.heap, toks := s'.toks } := I0.turned (it := S) (fun b o hb e => z.keep b o hb e) e2 e3 (.inr h0) (fun x cc e hz => by
    obtain ⟨w, o, ho, hd⟩ := I0.cell x cc e
    rw [hz] at ho
    have e1' : s.heap.get? S = some (lstObj acc c) := e1
    rw [e1'] at ho
    cases ho
    cases hd) (fun p hp hz => by
      rw [hpn] at hp
      have : p = (a, go) := by simpa using hp
      subst this
      exact hSa hz)
  have J2 : Inv Z [(a, go)] σ0 H s' := J1.call' (ch := []) z.os Un.refl J1.hok z.bare fun c hc => absurd hc (by simp)
  refine ⟨c', J2.pins_of fun p hp => ?_⟩
  rcases List.mem_cons.mp hp with hp | hp
  · subst hp
    exact ⟨eS, e2, e3, e4, fun v q => by cases q⟩
  · exact J2.pin p (List.mem_append_right _ hp)

theorem made_list {J : It} {elt tg iter : Expr} {ifs : List Expr} {scope : Scope} {own : List (Str × Nat)} {gpos : Pos} {a g' : Nat} {sc s5 s2 : Shared} {cenv : Env} {fp : List Addr} {it : Addr} {tn : Nat → Heap → Prop} {go : Obj} {g : TG} {tt : TT} {te : TE} {Qe : List V → Hp → Prop} {W : Nat → Nat → List V → Hp → Prop} {m0 : Nat} {A : Around} {S : Addr} {c0 : Nat}
    (M : Made X pins σ own tg elt iter ifs scope gpos J H a g' sc s5 cenv fp it tn go) (hc : X.calm = true) (hh : A.handled = none) (hfr : A.frames = some X.stack) (hco : scope.isCoroutine = false)
    (hg : PG (gcx X sc H cenv (A.deeper cenv) fp) tg g) (ht : PTs (gcx X sc H cenv (A.deeper cenv) fp) ifs tt) (he : PE (gcx X sc H cenv (A.deeper cenv) fp) elt te)
    (hw : W 0 m0 [] H) (gt : GTL J g tt te (own.map (·.2)) (wipe σ (own.map (·.2))) Qe W)
    (hS : s5.heap.objs.size ≤ S) (hk2 : ∀ b o, s5.heap.get? b = some o → s2.heap.get? b = some o) (hos : s2.os = sc.os) (hb2 : AllBare s2.gens) (hg2 : s2.gens = s5.gens) (heS : s2.heap.get? S = some (lstObj #[] c0)) :
    (∃ gs, s2.gens[g']? = some gs ∧ gs.Goes (model X.prog X.w) A (REnd X.prog X.w X.stack H sc fp S a g' Qe (fun _ _ _ => False)) (YItem sc S a g') sizeLine (.send .none) (s2.setGen g' .running)) := by
  have hst := M.st
  rw [← hg2] at hst
  refine ⟨_, hst, rfl, ?_⟩
  obtain ⟨st2, I2⟩ := M.wake A (s2.setGen g' .running) hh hfr hk2 hos (allBare_setGen hb2 rfl)
  have hSa : a ≠ S := by
    have h1 := M.sz5
    intro z
    rw [← z, h1] at hS
    exact absurd hS (Nat.not_succ_le_self _)
  have hSc : sc.heap.objs.size ≤ S := by
    have h1 := M.sz5
    have h2 := M.sz
    exact Nat.le_trans (Nat.le_of_lt h2) (Nat.le_trans (by rw [h1]; exact Nat.le_succ _) hS)
  have young : ∀ b, sc.heap.objs.size < b → H b = none ∧ b ≠ cenv.locals → True := fun _ _ _ => trivial
  have I3 : Inv (gcx X sc H cenv (A.deeper cenv) fp) [(S, lstObj #[] c0), (a, go)] (wipe σ (own.map (·.2))) H (s2.setGen g' .running) := I2.pins_of fun p hp => by
    rcases List.mem_cons.mp hp with hp | hp
    · subst hp
      refine ⟨heS, M.inv.hok.fresh hSc, fun z => ?_, fun hm => ?_, fun v q => by cases q⟩
      · obtain ⟨m, ⟨o, es, ep, ho, hd, _⟩, _⟩ := I2.loc
        have z' : S = cenv.locals := z
        have ho' : s2.heap.get? cenv.locals = some o := ho
        rw [← z', heS] at ho'
        cases ho'
        cases hd
      · have hm : S ∈ frs X.stack := hm
        rcases List.mem_cons.mp (M.inv.stkSub _ hm) with z | z
        · exact absurd (Nat.lt_of_lt_of_le M.inv.lt (z ▸ hSc)) (Nat.lt_irrefl _)
        · exact M.inv.nofs hSc z
    · exact I2.pin p (List.mem_append_right _ hp)
  have hpf : ∀ (acc : Array Value) (c : Nat), ∀ b ∈ fp, ∀ p ∈ [(S, lstObj acc c), (a, go)], p.1 ≠ b := fun acc c b hb p hp z => by
    have h1 := (M.fpok b hb).2
    rcases List.mem_cons.mp hp with hp | hp
    · subst hp
      rw [← z] at h1
      exact absurd (Nat.lt_of_lt_of_le h1 hSc) (Nat.lt_irrefl _)
    · have e : p = (a, go) := by simpa using hp
      subst e
      rw [← z] at h1
      exact absurd (Nat.lt_trans h1 M.sz) (Nat.lt_irrefl _)
  have S0 : SG (gcx X sc H cenv (A.deeper cenv) fp) (wipe σ (own.map (·.2))) fp tn (fun (ys : List V) p => ∃ acc c, p = [(S, lstObj acc c), (a, go)] ∧ Vals ys acc.toList) 0 [] H (s2.setGen g' .running) :=
    ⟨st2, fun b hb => (M.fpok b hb).1.1, _, ⟨#[], c0, rfl, .nil⟩, I3, hpf _ _⟩
  refine seg_gx0 (Z := gcx X sc H cenv (A.deeper cenv) fp) rfl hh M.turn st2 ?_
  refine seg_gx (Z := gcx X sc H cenv (A.deeper cenv) fp) (κ := List V) (σ0 := wipe σ (own.map (·.2))) (vs := own.map (·.2)) (PO := fun (ys : List V) p => ∃ acc c, p = [(S, lstObj acc c), (a, go)] ∧ Vals ys acc.toList) (Fu := fun n ys m => n + ys.length = sizeLine) (W := W) (Zd := Qe)
    (Yd := fun i m ys y H4 => ys.length < sizeLine ∧ ∃ m', m' < m ∧ W (i + 1) m' (ys ++ [y]) H4)
    rfl rfl hc rfl rfl (by show cenv.scope.isCoroutine = false; rw [M.scope]; exact hco) M.turn hg ht he ⟨fun i m k H hw => gt i m k H hw⟩
    (fun n k m m' h1 h2 => h1) (fun n i m k y H h1 h2 => by have := h2.1; omega) ?_ ?_ m0 sizeLine 0 [] H _ _ (Nat.add_zero _) hw S0
  · rintro n s₀ s ys m pins' H' hfu ⟨acc, c, rfl, rv⟩ I hq
    obtain ⟨e1, e2, _⟩ := I.pin (S, lstObj acc c) (by simp)
    exact .inl ⟨.inr rfl, H', ys, acc, c, I.os, I.bare, I.base, I.hok, e2, e1, rv, by omega, hq⟩
  · rintro n s₀ v s i m ys y H' kap hfu Sg r ⟨hl, m', hm', w'⟩ hk
    obtain ⟨st, nf, pins', ⟨acc, c, rfl, rv⟩, I, hpf'⟩ := Sg
    obtain ⟨e1, e2, _⟩ := I.pin (S, lstObj acc c) (by simp)
    have hsz : acc.size = ys.length := by
      have e1 := rv.length
      have e2 : acc.toList.length = acc.size := by simp
      omega
    refine ⟨I.os, I.bare, I.nolimit, M.gen _ (I.pin (a, go) (by simp)).1, ⟨acc, c, e1, by omega⟩, fun s' z => ?_⟩
    obtain ⟨c', J2⟩ := slept_inv rfl hSc hSa I z
    refine hk s' (ys ++ [y]) m' H' hm' (by rw [List.length_append]; simp only [List.length_cons, List.length_nil]; omega) w' ⟨M.turn.keep _ _ _ st fun b hb o e => z.keep b o (fun q => hpf' b hb (S, lstObj acc c) (by simp) q.symm) e, nf, _, ⟨acc.push v, c', rfl, ?_⟩, J2, hpf _ _⟩
    rw [Array.toList_push]
    exact rv.append (.cons r .nil)
end
end GX
set_option Elab.async false
set_option linter.all false
set_option maxRecDepth 100000
set_option maxHeartbeats 1000000
namespace GX
open PySem PySem.Spec PyProof.Rows L2 GenW GxR

/-- what a consumer of all items needs: the generator, when it stands at s5, with every list S that comes -/
structure Full (X : L2.Cx) (H : Hp) (a g : Nat) (sc s5 : Shared) (fp : List Addr) (A : Around) (Qe : List V → Hp → Prop) : Prop where
  hh : A.handled = none
  dp : A.depth < recursionLimit
  gen : s5.heap.IsGen a g
  lim : s5.heap.NoLimit
  os : s5.os = sc.os
  bare : AllBare s5.gens
  lt : a < s5.heap.objs.size
  go : ∀ (S c0 : Nat) (s2 : Shared), s5.heap.objs.size ≤ S → (∀ b o, s5.heap.get? b = some o → s2.heap.get? b = some o) → s2.os = sc.os → s2.gens = s5.gens → s2.heap.get? S = some (lstObj #[] c0) →
    (∃ gs, s2.gens[g]? = some gs ∧ gs.Goes (model X.prog X.w) A (REnd X.prog X.w X.stack H sc fp S a g Qe (fun _ _ _ => False)) (YItem sc S a g) sizeLine (.send .none) (s2.setGen g .running))

section
variable {X : L2.Cx} {H : Hp} {a g : Nat} {sc s5 : Shared} {fp : List Addr} {Qe : List V → Hp → Prop} {A : Around} {E : Value → Shared → Prop}
theorem collect_gx {Qc : List Value → Shared → Prop} (M : Full X H a g sc s5 fp A.in1.in1 Qe)
    (hQ : ∀ (s' : Shared) (vs : List Value) (ys : List V) (H' : Hp), s5.heap.objs.size ≤ s'.heap.objs.size → Vals ys vs → ys.length ≤ sizeLine → s'.os = sc.os → AllBare s'.gens → Un (frs X.stack) fp H H' sc.heap s'.heap → HOk X.prog X.w H' s'.heap → Qe ys H' → Qc vs s') :
    wpAny (model X.prog X.w) A (collect (.ref a)) Qc E s5 := by
  have hSI : s5.heap.objs.size ≠ a := Nat.ne_of_gt M.lt
  have hcl : cStatics < s5.heap.objs.size := let ⟨_, hn, _⟩ := M.lim; hn.lt
  have gty : ∀ {h : Heap}, (∀ b o, s5.heap.get? b = some o → h.get? b = some o) → h.IsGen a g := fun {h} q => M.gen.keeps q
  have k1 : ∀ b o, s5.heap.get? b = some o → (s5.heap.push { cls := .type "list", data := .seq ([] : List Value).toArray }).get? b = some o := fun b o e => Heap.get?_push_of_some _ e
  unfold collect
  refine wpAny_bind (wpAny_runValue (codeAny_builtin F.entry_proto_collect ?_))
  rw [Around.under_plainId F.plain_proto_collect _]
  show wpAny _ A.in1 (newList [] >>= fun l => again (.builtin "list.__iadd__" ⟨[l, .ref a], []⟩)) _ _ s5
  refine wpAny_bind (wpAny_newObj_type ?_)
  refine wpAny_pure ⟨plainId_quiet F.plain_list_iadd _, codeAny_builtin F.entry_list_iadd ?_⟩
  rw [Around.under_plainId F.plain_list_iadd _]
  show wpAny _ A.in1 (Builtin.List.listExtendWith (.ref s5.heap.objs.size) (.ref a) (.ref s5.heap.objs.size)) _ _ _
  unfold Builtin.List.listExtendWith
  refine wpAny_bind (wpAny_typeOf (Heap.IsGen.typeIs (s := { s5 with heap := _ }) (gty k1)) ?_)
  have h1 : Builtin.List.listSameRef (.ref s5.heap.objs.size) (.ref a) = false := by simp [Builtin.List.listSameRef, hSI]
  have h2 : (Value.type "generator" == Value.type "list") = false := by decide
  have h3 : (Value.type "generator" == Value.type "tuple") = false := by decide
  simp only [h1, h2, h3, Bool.or_false, Bool.false_eq_true, if_false]
  refine wpAny_bind (wpAny_pyIter_gen (s := { s5 with heap := _ }) (gty k1) ?_)
  refine wpAny_bind (wpAny_holding ?_)
  unfold Builtin.List.listLengthHint
  refine wpAny_bind (wpAny_specialOf (Heap.IsGen.typeIs (s := { s5 with heap := _ }) (gty k1)) F.gen_no_len ?_)
  show wpAny _ A.in1 (specialOf (Value.ref a) (Str.ofString "__length_hint__") >>= _) _ _ _
  refine wpAny_bind (wpAny_specialOf (Heap.IsGen.typeIs (s := { s5 with heap := _ }) (gty k1)) F.gen_no_hint ?_)
  refine wpAny_pure ?_
  show wpAny _ A.in1 (rule "list.extend.makes-room" >>= fun _ => Builtin.List.listTouch (.ref s5.heap.objs.size) >>= fun _ =>
    again (.builtin "list.extend.loop" ⟨[.ref s5.heap.objs.size, .ref a, .ref s5.heap.objs.size], []⟩)) _ _ _
  refine wpAny_bind (wpAny_rule ?_)
  have hS₁ : (s5.heap.push { cls := .type "list", data := .seq ([] : List Value).toArray }).get? s5.heap.objs.size = some { cls := .type "list", data := .seq ([] : List Value).toArray } := Heap.get?_push_size _ rfl
  refine wpAny_bind ?_
  show wpAny _ A.in1 (updateSeq s5.heap.objs.size (·.push .none) >>= fun _ => updateSeq s5.heap.objs.size (·.pop)) _ _ _
  refine wpAny_bind (wpAny_updateSeq hS₁ rfl ?_)
  have hS₂ := Heap.get?_update_self (Obj.mapSeq (·.push Value.none)) hS₁ rfl
  refine wpAny_updateSeq hS₂ rfl ?_
  have hS₃ := Heap.get?_update_self (Obj.mapSeq (·.pop)) hS₂ rfl
  have oth : ∀ b o, b ≠ s5.heap.objs.size → (s5.heap.push { cls := .type "list", data := .seq ([] : List Value).toArray }).get? b = some o →
      (((s5.heap.push { cls := .type "list", data := .seq ([] : List Value).toArray }).update s5.heap.objs.size (Obj.mapSeq (·.push Value.none))).update s5.heap.objs.size (Obj.mapSeq (·.pop))).get? b = some o :=
    fun b o hb e => (Heap.get?_update_other _ _ (Ne.symm hb)).trans ((Heap.get?_update_other _ _ (Ne.symm hb)).trans e)
  have k4 : ∀ b o, s5.heap.get? b = some o → (((s5.heap.push { cls := .type "list", data := .seq ([] : List Value).toArray }).update s5.heap.objs.size (Obj.mapSeq (·.push Value.none))).update s5.heap.objs.size (Obj.mapSeq (·.pop))).get? b = some o :=
    fun b o e => oth b o (Nat.ne_of_lt (Heap.lt_size e)) (k1 b o e)
  refine wpAny_pure ⟨plainId_quiet F.plain_extend_loop _, ?_⟩
  refine drain (P := X.prog) (w := X.w) (outer := X.stack) (H := H) (sc := sc) (ex := fp) (Q := Qe) (EX := fun _ _ _ => False) (A := A) (S := s5.heap.objs.size) (g := g) M.hh M.dp hSI (Nat.ne_of_gt hcl)
    (fun s' acc c H' ys q1 q2 q3 q4 q5 q6 q7 q8 q9 => ?_) (fun e s' hc => ?_)
    sizeLine _ (gty k4) (M.lim.keeps k4) (M.go _ _ { s5 with heap := _ } (Nat.le_refl _) k4 M.os rfl hS₃)
  · show wpAny _ A (load s5.heap.objs.size >>= _) _ _ s'
    refine wpAny_bind (wpAny_load q1 ?_)
    exact wpAny_pure (hQ s' acc.toList ys H' (Nat.le_of_lt (Heap.lt_size q1)) q2 q3 q4 q5 q6 q7 q9)
  · obtain ⟨aa, B, H', cls, d, _, fl, _, _, _, _, _, hW⟩ := hc
    exact hW.elim

theorem code_tuple_gx {Q₁ : Value → Shared → Prop} (M : Full X H a g sc s5 fp A.in1.in1.in1 Qe)
    (hQ : ∀ (s' : Shared) (vs : List Value) (ys : List V) (H' : Hp), s5.heap.objs.size ≤ s'.heap.objs.size → Vals ys vs → ys.length ≤ sizeLine → s'.os = sc.os → AllBare s'.gens → Un (frs X.stack) fp H H' sc.heap s'.heap → HOk X.prog X.w H' s'.heap → Qe ys H' →
      Q₁ (.ref s'.heap.objs.size) { s' with heap := s'.heap.push { cls := .type "tuple", data := .seq vs.toArray } }) :
    codeAny (model X.prog X.w) A (.call (.builtin "tuple.__new__") ⟨[.type "tuple", .ref a], []⟩) (wants Q₁ E) s5 := by
  refine codeAny_of_tree ?_
  show wpAny _ A.in1 (do checkBuiltinCall "tuple.__new__" ⟨[.type "tuple", .ref a], []⟩; again (.builtin "tuple.__new__" ⟨[.type "tuple", .ref a], []⟩)) _ _ s5
  refine wpAny_bind (wpAny_of_eq (F.newCall_tuple_1 _) (wpAny_pure ⟨plainId_quiet F.plain_tuple_new _, codeAny_builtin F.entry_tuple_new ?_⟩))
  rw [Around.under_plainId F.plain_tuple_new _]
  have hsub := sub_tuple_self
  have hinit := init_tuple_lookup
  have hmh := madeHere_tuple
  have hTI := M.gen.typeIs
  wp_walk using wpAny_typeOf hTI, collect_gx M
  intro s' acc ys H' hsz r hl q1 q2 q3 q4 q5
  show wpAny _ _ (Builtin.Tuple.tupleExact acc.toArray >>= fun v => ret v) _ _ _
  unfold Builtin.Tuple.tupleExact
  refine wpAny_bind (wpAny_newObj_type ?_ (by show acc.toArray.size ≤ sizeLine; rw [List.size_toArray, ← r.length]; exact hl))
  exact wpAny_pure (hQ s' acc ys H' hsz r hl q1 q2 q3 q4 q5)
theorem call_tuple_gx {Q : Value → Shared → Prop} (M : Full X H a g sc s5 fp A.in1.in1.in1.in1 Qe)
    (hQ : ∀ (s' : Shared) (vs : List Value) (ys : List V) (H' : Hp), s5.heap.objs.size ≤ s'.heap.objs.size → Vals ys vs → ys.length ≤ sizeLine → s'.os = sc.os → AllBare s'.gens → Un (frs X.stack) fp H H' sc.heap s'.heap → HOk X.prog X.w H' s'.heap → Qe ys H' →
      Q (.ref s'.heap.objs.size) { s' with heap := s'.heap.push { cls := .type "tuple", data := .seq vs.toArray } }) :
    wpAny (model X.prog X.w) A (call (.type "tuple") [.ref a]) Q E s5 := by
  refine callType_codes (Q₁ := fun obj s₁ => s₁.TypeIs obj "tuple" ∧ Q obj s₁) F.called_tuple (F.typeCall_tuple_1 _) F.entry_object_init
    (code_tuple_gx M fun s' vs ys H' h1 h2 h3 h4 h5 h6 h7 h8 => ⟨⟨_, Heap.get?_push_size _ rfl, rfl⟩, hQ s' vs ys H' h1 h2 h3 h4 h5 h6 h7 h8⟩) fun obj s₁ h₁ => ?_
  exact ⟨h₁.1, F.args_object_init_2 obj _, object_init_meets F.called_tuple.init.lookup F.called_tuple.made (by decide) X.prog X.w A.in1 _ s₁ ⟨h₁.1, rfl, h₁.2⟩⟩
end
end GX
set_option Elab.async false
set_option linter.all false
set_option maxRecDepth 100000
set_option maxHeartbeats 1000000
namespace GX
open PySem PySem.Spec PyProof.Rows L2 GenW GxR

def eTup : List V → Hp → VK → Prop := fun ys H' Q => ∀ p, H' p = none → Q (.ref p) (upd H' p (.tup ys))
def eJoin (sep : Str) : List V → Hp → VK → Prop := fun ys H' Q => ∃ zs : List Str, ys = zs.map V.str ∧ JoinOk sep zs = true ∧ Q (.str (Txt.join sep zs)) H'

section
variable {X : L2.Cx} {pins : List (Addr × Obj)} {σ : L2.St} {H : Hp}
theorem full_of {J : It} {elt tg iter : Expr} {ifs : List Expr} {scope : Scope} {own : List (Str × Nat)} {gpos : Pos} {a g' : Nat} {sc s5 : Shared} {cenv : Env} {fp : List Addr} {it : Addr} {tn : Nat → Heap → Prop} {go : Obj} {g : TG} {tt : TT} {te : TE} {Qe : List V → Hp → Prop} {W : Nat → Nat → List V → Hp → Prop} {m0 : Nat} {A : Around}
    (M : Made X pins σ own tg elt iter ifs scope gpos J H a g' sc s5 cenv fp it tn go) (hc : X.calm = true) (hh : A.handled = none) (hdp : A.depth < recursionLimit) (hfr : A.frames = some X.stack) (hco : scope.isCoroutine = false)
    (hg : PG (gcx X sc H cenv (A.deeper cenv) fp) tg g) (ht : PTs (gcx X sc H cenv (A.deeper cenv) fp) ifs tt) (he : PE (gcx X sc H cenv (A.deeper cenv) fp) elt te)
    (hw : W 0 m0 [] H) (gt : GTL J g tt te (own.map (·.2)) (wipe σ (own.map (·.2))) Qe W) : Full X H a g' sc s5 fp A Qe :=
  ⟨hh, hdp, M.gen _ M.at5, M.lim, M.os, M.bare, Heap.lt_size M.at5, fun S c0 s2 hS hk hos hg2 heS => made_list M hc hh hfr hco hg ht he hw gt hS hk hos (by rw [hg2]; exact M.bare) hg2 heS⟩

theorem strs_of : ∀ {zs : List Str} {vs : List Value}, Vals (zs.map V.str) vs → ∃ l : List (Str × Tok), strValues l = vs ∧ l.map (·.1) = zs
  | [], _, h => by cases h; exact ⟨[], rfl, rfl⟩
  | z :: zs, _, h => by
    cases h with
    | cons r t =>
      obtain ⟨tk, rfl⟩ := r
      obtain ⟨l, e1, e2⟩ := strs_of t
      subst e1
      exact ⟨(z, tk) :: l, rfl, by rw [List.map_cons, e2]⟩

end
end GX
set_option Elab.async false
set_option linter.all false
set_option maxRecDepth 100000
set_option maxHeartbeats 1000000
namespace DL
open PySem PySem.Spec PyProof.Rows L2 GX GenW GxR

def NT (H : Hp) (ys : List V) (Q : VK) : Prop := ∀ p (ob : Obj), H p = none → ob.dict = none → Q (.ref p) (upd H p (.frz ob (.tup ys)))
section
variable {X : L2.Cx} {pins : List (Addr × Obj)} {σ : L2.St} {H : Hp} {s : Shared}
theorem laidT {Q : VK} {ys : List V} {its : List Value} {h' : Heap} {t' : Nat} (I : Inv X pins σ H s) (r : Vals ys its) (z : ys.length ≤ sizeLine) (k : ∀ b u, s.heap.get? b = some u → h'.get? b = some u) (hp : s.heap.objs.size ≤ h'.objs.size) (q : NT H ys Q) :
    EP X pins σ Q (.ref h'.objs.size) { s with heap := h'.push { cls := .type "tuple", data := .seq its.toArray }, toks := t' } := by
  refine ⟨.ref h'.objs.size, _, I.laid (t' := t') (o := .frz { cls := .type "tuple", data := .seq its.toArray } (.tup ys)) (fun b u e => Heap.get?_push_of_some _ (k b u e)) hp ?_, rfl, q _ _ (I.hok.fresh hp) rfl⟩
  exact ⟨Heap.get?_push_size _ rfl, z, its, r, _, Heap.get?_push_size _ rfl, rfl, _, rfl⟩

def tTupF (t : TA) : TE := fun σ H Q => t σ H fun xs H1 => xs.length ≤ sizeLine ∧ NT H1 xs Q
theorem pe_tupF {es : List Expr} {t : TA} {pos : Pos} {x1} (h : PA X es t) : PE X (.Tuple es x1 pos) (tTupF t) := by
  refine ⟨fun pins s σ H Q I hq => ?_⟩
  refine wpAny_Tuple_spliced (thn (h.run pos pins s σ H _ I hq) fun us s1 ⟨xs, H1, I1, r, z, q⟩ => ⟨by rw [← r.length]; exact z, ?_⟩)
  exact laidT (t' := s1.toks) I1 r z (fun _ _ e => e) (Nat.le_refl _) q
def rCatF (K : PySem.W.Frag) : R2 := fun x y H Q => ∃ a b xs ys, x = .ref a ∧ y = .ref b ∧ SqT K H a xs ∧ SqT K H b ys ∧ xs.length + ys.length ≤ sizeLine ∧
  (xs = [] → Q (.ref b) H) ∧ (xs ≠ [] → ys = [] → Q (.ref a) H) ∧ (xs ≠ [] → ys ≠ [] → NT H (xs ++ ys) Q)
theorem op_catF : OpR X (binaryOp .Add) (rCatF X.K) := by
  intro pins s σ H x y v u Q I rx ry h
  obtain ⟨a, b, xs, ys, rfl, rfl, ha, hb, hz, q0, q1, q2⟩ := h
  cases rx
  cases ry
  obtain ⟨its, r1, p1, _⟩ := I.tuple ha
  obtain ⟨its2, r2, p2, _⟩ := I.tuple hb
  by_cases hx : xs = []
  · subst hx
    cases r1
    exact cat_tup0 p1 p2 ⟨.ref b, H, I, rfl, q0 rfl⟩
  · refine HT.cat_tup p1 p2 (fun z => hx (r1.nil_iff.mp z)) (fun z => ⟨.ref a, H, I, rfl, q1 hx (r2.nil_iff.mp z)⟩) (fun z => ?_) (by rw [← r1.length, ← r2.length]; exact hz)
    exact laidT (t' := s.toks) I (r1.append r2) (by rw [List.length_append]; exact hz) (fun _ _ e => e) (Nat.le_refl _) (q2 hx fun w => z (r2.nil_iff.mpr w))
def rSlF (K : PySem.W.Frag) : V → Option Int → Option Int → Hp → VK → Prop := fun x lo hi H Q => ∃ a xs, x = .ref a ∧ SqT K H a xs ∧
  (HT.sIx xs.length 0 lo = 0 ∧ HT.sIx xs.length xs.length hi = xs.length → Q (.ref a) H) ∧ (¬ (HT.sIx xs.length 0 lo = 0 ∧ HT.sIx xs.length xs.length hi = xs.length) → NT H (cutV xs lo hi) Q)
theorem sl_tupF : SlR X (rSlF X.K) := by
  intro pins s σ H x v vl vu lo hi sl Q I rx hs pl pu h
  obtain ⟨a, xs, rfl, hx, q1, q2⟩ := h
  cases rx
  obtain ⟨its, r, ht, hz⟩ := I.tuple hx
  have hlen : its.toArray.size = xs.length := by rw [List.size_toArray]; exact r.length.symm
  by_cases hw : HT.sIx xs.length 0 lo = 0 ∧ HT.sIx xs.length xs.length hi = xs.length
  · refine ⟨"tuple", _, PyProof.Rows.slot_tuple_getitem.lookup, ht.typeIs, ?_⟩
    exact getItem_tuple_whole ht hs pl pu (by rw [hlen]; exact hw) ⟨.ref a, H, I, rfl, q1 hw⟩
  · refine ⟨"tuple", _, PyProof.Rows.slot_tuple_getitem.lookup, ht.typeIs, ?_⟩
    refine HT.getItem_tuple_cut ht hs pl pu (by rw [hlen]; exact hw) ?_ (by rw [hlen]; exact hz)
    rw [hlen]
    exact laidT (t' := s.toks) I ((r.drop (HT.sIx xs.length 0 lo)).take (HT.sIx xs.length xs.length hi - HT.sIx xs.length 0 lo)) (Nat.le_trans (cutV_length xs lo hi) hz) (fun _ _ e => e) (Nat.le_refl _) (q2 hw)
theorem call_tupF : CallR X (.type "tuple") (fun xs H Q => ∃ p ys, xs = [.ref p] ∧ SqL X.K H p ys ∧ NT H ys Q) := by
  intro pins s σ H xs us Q I r h
  obtain ⟨p, ys, rfl, hq, q⟩ := h
  obtain ⟨u, rfl, rx⟩ := vals1 r
  cases rx
  obtain ⟨its, r', pl, hz⟩ := I.list hq
  have hlen := r'.length
  refine call_tuple_list pl.isList (fun h' kp => ?_) (by simp only [List.size_toArray] <;> omega)
  have I1 : Inv X pins σ H { s with heap := h' } := I.kept (t' := s.toks) kp
  exact laidT (s := { s with heap := h' }) (t' := s.toks) I1 r' hz (fun _ _ e => e) (Nat.le_refl _) q

/-- a tuple with no dict of its own: known as it stands, or written -/
def TupX (K : PySem.W.Frag) (H : Hp) (a : Addr) (us : List V) : Prop :=
  (∃ o : Obj, H a = some (.frz o (.tup us)) ∧ o.dict = none) ∨
    ∃ (o : Obj) (its : Array Value) (n : Nat), K.lookup a = some o ∧ o.cls = .type "tuple" ∧ o.dict = none ∧ o.data = .seq its n ∧ its.size ≤ sizeLine ∧ Vals us its.toList
theorem TupX.at {a : Addr} {us : List V} (I : Inv X pins σ H s) (h : TupX X.K H a us) : ∃ (o : Obj) (its : List Value) (n : Nat), s.heap.get? a = some o ∧ o.cls = .type "tuple" ∧ o.dict = none ∧ o.data = .seq its.toArray n ∧ its.length ≤ sizeLine ∧ Vals us its := by
  rcases h with ⟨o, h, hd⟩ | ⟨o, its, n, h1, h2, h3, h4, h5, h6⟩
  · obtain ⟨e, z, its, r, o2, e2, c2, n, d2⟩ := I.hok a _ h
    rw [e] at e2
    cases e2
    exact ⟨o, its, n, e, c2, hd, d2, by rw [← r.length]; exact z, r⟩
  · exact ⟨o, its.toList, n, I.kIn a o h1, h2, h3, by rw [h4], by simpa using h5, h6⟩
def tBMT (K : PySem.W.Frag) (r : V → List V → Hp → VK → Prop) (to : TE) (t : TA) : TE := fun σ H Q => to σ H fun x H1 => (∃ a us, x = .ref a ∧ TupX K H1 a us) ∧ t σ H1 fun xs H2 => r x xs H2 Q
end
def eTupF : List V → Hp → VK → Prop := fun ys H' Q => NT H' ys Q
section
variable {X : L2.Cx} {pins : List (Addr × Obj)} {σ : L2.St} {H : Hp}
theorem pe_tupGF {c P : Addr} {elt iter tg : Expr} {ifs : List Expr} {p pos gpos : Pos} {scope : Scope} {own : List (Str × Nat)} {wi : TI} {g : TG} {tt : TT} {te : TE} {k : Nat}
    (hr : Room (k + 1) X.A) (hc : X.calm = true) (hgl : Gl X "tuple") (hm : X.mg "tuple" = none) (hb : bootBuiltins "tuple" = some (.type "tuple")) (TB : TabB X.base X.mg c P) (hcode : X.env.code = .ref c)
    (ok : GOk X.N X.env.scope scope own) (hN : X.N.Nodup) (hi : PI X tg iter wi)
    (hg : ∀ s H C code A' fp, PG (gcx X s H (GCtx X scope C code) A' fp) tg g)
    (ht : ∀ s H C code A' fp, Room k A' → PTs (gcx X s H (GCtx X scope C code) A' fp) ifs tt)
    (he : ∀ s H C code A' fp, Room k A' → PE (gcx X s H (GCtx X scope C code) A' fp) elt te)
    (hs : ∀ v, genFold iter X.env v = pure v := by intro _; rfl)
    (hst : starEach [.GeneratorExp elt [⟨tg, iter, ifs, 0⟩] scope gpos] X.env = (false, eval (.GeneratorExp elt [⟨tg, iter, ifs, 0⟩] scope gpos) X.env) :: starEach [] X.env := by rfl) :
    PE X (.Call (.Name "tuple" p) [.GeneratorExp elt [⟨tg, iter, ifs, 0⟩] scope gpos] [] pos) (tGx P wi (bLst g tt te (own.map (·.2)) eTupF)) := by
  refine ⟨fun pins s σ H Q I h => ?_⟩
  refine wpAny_Call_Name_kw (ld_blt I hgl hm hb ?_)
  refine PyProof.Rows.callWith_type1 ?_ hst (by rfl)
  rw [hst]
  show wpAny _ _ (spliced ((false, eval (.GeneratorExp elt [⟨tg, iter, ifs, 0⟩] scope gpos) X.env) :: backTo pos (starEach [] X.env))) _ _ s
  refine Calls.spliced_cons (gx_make hr TB hcode ok hN hi hs I h fun J H2 a g' sc s5 C code fp it tn go hR M => ?_)
  refine Calls.spliced_nil ?_
  obtain ⟨W, ⟨m0, hw⟩, gt⟩ := hR
  refine call_tuple_gx (X := X) (H := H2) (g := g') (sc := sc) (fp := fp) (full_of M hc hr.hd (by have := hr.dp; show X.A.depth < _; omega) M.inv.ok.frames ok.co (hg ..) (ht _ _ _ _ _ _ (room_gen hr rfl rfl (by show X.A.units + 1 + 1 + 1 + 1 ≤ _; omega))) (he _ _ _ _ _ _ (room_gen hr rfl rfl (by show X.A.units + 1 + 1 + 1 + 1 ≤ _; omega))) hw gt)
    fun s' vs ys H' hsz r hl os hb un hok hq => ?_
  exact laidT (t' := s'.toks) (out_inv M.inv M.fpok os hb un hok) r hl (fun _ _ e => e) (Nat.le_refl _) hq
end
end DL
set_option Elab.async false
set_option linter.all false
set_option maxRecDepth 100000
set_option maxHeartbeats 1000000
namespace DL
open PySem PySem.Spec PyProof.Rows L2

/-- something stands there -/
def alive (D : Addr) : HO := .ext fun h => ∃ o, h.get? D = some o
/-- the object of a dict with such keys, hs their hash -/
def TDo (hs : List Key → Int) (D : Addr) (o : Obj) (xs : List (List Key × Addr × Value)) : Prop :=
  (D == sysModules) = false ∧ o.ExactDict ∧ xs.length ≤ sizeLine ∧ (xs.map (·.1)).Nodup ∧ ∃ (es : Array DictEntry) (ep : Nat), o.data = .dict es ep ∧ es.toList = xs.map fun x => (⟨hs x.1, .ref x.2.1, x.2.2⟩ : DictEntry)
/-- the hash of such keys -/
def hsOf (P : Program) (w : World) : List Key → Int := (tupleKind (mixKind P w)).hash
/-- the hash of a set's members, and whether the text's order holds -/
structure SetSp where
  hs : List Int → Int
  fl : Bool
  deriving Inhabited
/-- the object of a set of tuples of ints -/
def SetOb (sp : SetSp) (o : Obj) (L : List (Addr × List Int)) : Prop :=
  ∃ (es : Array (Int × Value)) (ep : Nat) (t : SetTable), o.ExactSet ∧ o.data = .set es ep t ∧ es.toList = L.map (fun p => (sp.hs p.2, Value.ref p.1)) ∧ TabOk t (L.map fun p => sp.hs p.2) ∧ (L.map (·.2)).Nodup ∧ t.plain = true ∧ (sp.fl = true ∨ t.led = true) ∧ L.length * 5 < t.mask * 3 ∧ L.length < 64
def spOf (P : Program) (w : World) : SetSp := ⟨thash P w, w.params.followText "set-order"⟩
section
variable {P : Program} {w : World} {H : Hp} {h : Heap} {D : Addr} {o : Obj} {xs : List (List Key × Addr × Value)}
theorem TDo.of (hd : (D == sysModules) = false) (hz : xs.length ≤ sizeLine) (m : h.DictOfH (tupleKind (mixKind P w)) D xs) : ∃ o, h.get? D = some o ∧ TDo (hsOf P w) D o xs := by
  obtain ⟨o, es, ep, ho, hx, hdt, he, _, hn⟩ := m
  exact ⟨o, ho, hd, hx, hz, hn, es, ep, hdt, he⟩
theorem TDo.dict (t : TDo (hsOf P w) D o xs) (ho : h.get? D = some o) (hk : ∀ x ∈ xs, (tupleKind (mixKind P w)).is h x.1 x.2.1) : h.DictOfH (tupleKind (mixKind P w)) D xs := by
  obtain ⟨hd, hx, hz, hn, es, ep, hdt, he⟩ := t
  exact ⟨o, es, ep, ho, hx, hdt, he, hk, hn⟩
theorem items_mix : ∀ {ks : List Key} {us : List Value}, Vals (ks.map kV) us → ItemsAre (mixKind P w) ks us
  | [], _, .nil => .nil
  | k :: ks, _, .cons r t => .cons (kV_is r) (items_mix t)
end
section
variable {X : L2.Cx} {pins : List (Addr × Obj)} {σ : L2.St} {H : Hp} {s : Shared} {b D : Addr} {k : List Key}
theorem key_is (I : Inv X pins σ H s) (h : SqT X.K H b (k.map kV)) : (tupleKind (mixKind X.prog X.w)).is s.heap k b := by
  obtain ⟨its, r, ⟨o, ho, hc, n, hd⟩, _⟩ := I.tuple h
  exact ⟨o, its.toArray, n, ho, hc, hd, by simpa using items_mix r⟩
end
section
variable {P : Program} {w : World} {h : Heap} {a : Addr} {o : Obj} {L : List (Addr × List Int)} {es : Array (Int × Value)} {ep : Nat} {t : SetTable}
theorem SetOb.of (R : SetTR P w h a L es ep t) : ∃ o, h.get? a = some o ∧ SetOb (spOf P w) o L := by
  obtain ⟨o, ho, hx, hd⟩ := R.ob
  exact ⟨o, ho, es, ep, t, hx, hd, R.rows, R.tab, R.nd, R.plain, R.led, R.room, R.few⟩
end
end DL
set_option Elab.async false
set_option linter.all false
set_option maxRecDepth 100000
set_option maxHeartbeats 1000000
namespace DL
open PySem PySem.Spec PyProof.Rows L2

/-- plain data -/
inductive D where
  | non | bl (b : Bool) | int (i : Int) | str (z : List Nat) | ty (n : String)
  | tup (xs : List D) | wt (xs : List D) | lst (xs : List D) | dS (kvs : List (List Nat × D)) | dT (hs : List Key → Int) (kvs : List (List (List Nat) × D))
  | st (sp : SetSp) (ks : List (List Int))
  | row | fn (j : Nat) (a : Addr)
  deriving Inhabited

/-- the drawn row -/
structure S where
  script : List Int
  place : Int
  seed : Int
  rest : Int

/-- an exception: its class's name, what its attribute index holds -/
structure Exn where
  cls : Str
  idx : Option D

inductive Res (α : Type) where
  | ok (a : α) (s : S)
  | exc (x : Exn) (s : S)
  | bad
abbrev M (α : Type) := S → Res α
def mpure {α : Type} (a : α) : M α := fun s => .ok a s
def mbad {α : Type} : M α := fun _ => .bad
def mbind {α β : Type} (m : M α) (k : α → M β) : M β := fun s => match m s with
  | .ok a s' => k a s'
  | .exc x s' => .exc x s'
  | .bad => .bad
def mopt {α : Type} (o : Option α) : M α := fun s => match o with
  | some a => .ok a s
  | none => .bad
def ST (z : List Nat) : Str := ⟨z.toArray⟩
theorem ST_len (z : List Nat) : (ST z).length = z.length := by simp [ST, Str.length]
theorem ST_toList (z : List Nat) : (ST z).cps.toList = z := by simp [ST]
theorem ST_inj {a b : List Nat} (h : ST a = ST b) : a = b := by
  have := congrArg (fun s : Str => s.cps.toList) h
  simpa [ST] using this

/-- flat data -/
inductive Atom (R : Addr) : V → D → Prop
  | non : Atom R .non .non
  | bl {b : Bool} : Atom R (.bl b) (.bl b)
  | int {i : Int} : Atom R (.int i) (.int i)
  | str {z : List Nat} : Atom R (.str (ST z)) (.str z)
  | ty {n : String} : Atom R (.ty n) (.ty n)
  | row : Atom R (.ref R) .row
  | fn {j : Nat} {a : Addr} : Atom R (.ref a) (.fn j a)

def kS : List Nat × D → Key := fun p => .inr (ST p.1)
def kT : List (List Nat) × D → List Key := fun p => p.1.map fun z => .inr (ST z)

theorem TupX.sq {K : PySem.W.Frag} {H : Hp} {a : Addr} {us : List V} (h : TupX K H a us) : SqT K H a us := by
  rcases h with ⟨o, h, _⟩ | ⟨o, its, n, h1, h2, h3, h4, h5, h6⟩
  · exact .inl (.inr ⟨o, h⟩)
  · exact .inr ⟨o, its, n, h1, h2, h4, h5, h6⟩
/-- these values stand for these data; nothing of it stands where B says -/
inductive Rs (K : PySem.W.Frag) (H : Hp) (R : Addr) (B : Addr → Prop) : List V → List D → Prop
  | nil : Rs K H R B [] []
  | atom {v : V} {d : D} {vs : List V} {ds : List D} : Atom R v d → Rs K H R B vs ds → Rs K H R B (v :: vs) (d :: ds)
  | tup {a : Addr} {us vs : List V} {es ds : List D} : TupX K H a us → ¬ B a → Rs K H R B us es → Rs K H R B vs ds → Rs K H R B (.ref a :: vs) (.tup es :: ds)
  | wt {a : Addr} {us vs : List V} {es ds : List D} : SqT K H a us → ¬ B a → Rs K H R B us es → Rs K H R B vs ds → Rs K H R B (.ref a :: vs) (.wt es :: ds)
  | lst {a : Addr} {us vs : List V} {es ds : List D} : H a = some (.lst us) → ¬ B a → Rs K H R B us es → Rs K H R B vs ds → Rs K H R B (.ref a :: vs) (.lst es :: ds)
  | dS {a : Addr} {o : Obj} {kvs : List (Key × V)} {es : List (List Nat × D)} {vs : List V} {ds : List D} : H a = some (.frz o (.dK kvs)) → ¬ B a → kvs.map (·.1) = es.map kS → Rs K H R B (kvs.map (·.2)) (es.map (·.2)) → Rs K H R B vs ds → Rs K H R B (.ref a :: vs) (.dS es :: ds)
  | dT {hs : List Key → Int} {a : Addr} {o : Obj} {xs : List (List Key × Addr × Value)} {us : List V} {es : List (List (List Nat) × D)} {vs : List V} {ds : List D} : H a = some (.frz o (alive a)) → ¬ B a → (TDo hs a o xs ∧ xs.map (·.1) = es.map kT ∧ Vals us (xs.map (·.2.2))) →
      Rs K H R B (xs.map fun x => .ref x.2.1) (es.map fun e => .tup (e.1.map .str)) → Rs K H R B us (es.map (·.2)) → Rs K H R B vs ds → Rs K H R B (.ref a :: vs) (.dT hs es :: ds)
  | st {sp : SetSp} {a : Addr} {o : Obj} {L : List (Addr × List Int)} {ks : List (List Int)} {vs : List V} {ds : List D} : H a = some (.frz o (alive a)) → ¬ B a → (SetOb sp o L ∧ ∀ k, k ∈ L.map (·.2) ↔ k ∈ ks) →
      Rs K H R B (L.map fun p => .ref p.1) (L.map fun p => .tup (p.2.map .int)) → Rs K H R B vs ds → Rs K H R B (.ref a :: vs) (.st sp ks :: ds)
abbrev R1 (K : PySem.W.Frag) (H : Hp) (R : Addr) (B : Addr → Prop) (v : V) (d : D) : Prop := Rs K H R B [v] [d]

def DataHO : HO → Prop
  | .lst _ => True
  | .tup _ => True
  | .dK _ => True
  | .dT _ => True
  | _ => False
/-- what may be read at H may be read at H' -/
def RdLe (B : Addr → Prop) (H H' : Hp) : Prop := (∀ a u, ¬ B a → DataHO u → Rd H a u → Rd H' a u) ∧ (∀ a o u, ¬ B a → H a = some (.frz o u) → H' a = some (.frz o u)) ∧ ∀ a us, ¬ B a → H a = some (.lst us) → H' a = some (.lst us)
section
variable {K : PySem.W.Frag} {H H' : Hp} {R : Addr} {B B' : Addr → Prop} {v : V} {d : D} {vs us : List V} {ds es : List D}
theorem RdLe.sqL {a : Addr} {xs : List V} (r : RdLe B H H') (n : ¬ B a) (h : SqL K H a xs) : SqL K H' a xs := by
  rcases h with h | h
  · exact .inl (r.1 a _ n trivial h)
  · exact .inr h
theorem RdLe.sqT {a : Addr} {xs : List V} (r : RdLe B H H') (n : ¬ B a) (h : SqT K H a xs) : SqT K H' a xs := by
  rcases h with h | h
  · exact .inl (r.1 a _ n trivial h)
  · exact .inr h
theorem RdLe.tupX {a : Addr} {xs : List V} (r : RdLe B H H') (n : ¬ B a) (h : TupX K H a xs) : TupX K H' a xs := by
  rcases h with ⟨o, h, hd⟩ | h
  · exact .inl ⟨o, r.2.1 a o _ n h, hd⟩
  · exact .inr h
theorem Rs.mono (r : RdLe B H H') (h : Rs K H R B vs ds) : Rs K H' R B vs ds := by
  induction h with
  | nil => exact .nil
  | atom a _ ih => exact .atom a ih
  | tup s n _ _ ih1 ih2 => exact .tup (r.tupX n s) n ih1 ih2
  | wt s n _ _ ih1 ih2 => exact .wt (r.sqT n s) n ih1 ih2
  | lst s n _ _ ih1 ih2 => exact .lst (r.2.2 _ _ n s) n ih1 ih2
  | dS s n e _ _ ih1 ih2 => exact .dS (r.2.1 _ _ _ n s) n e ih1 ih2
  | dT s n e _ _ _ ih1 ih2 ih3 => exact .dT (r.2.1 _ _ _ n s) n e ih1 ih2 ih3
  | st s n e _ _ ih1 ih2 => exact .st (r.2.1 _ _ _ n s) n e ih1 ih2
theorem Rs.less (hb : ∀ a, B' a → B a) (h : Rs K H R B vs ds) : Rs K H R B' vs ds := by
  induction h with
  | nil => exact .nil
  | atom a _ ih => exact .atom a ih
  | tup s n _ _ ih1 ih2 => exact .tup s (fun z => n (hb _ z)) ih1 ih2
  | wt s n _ _ ih1 ih2 => exact .wt s (fun z => n (hb _ z)) ih1 ih2
  | lst s n _ _ ih1 ih2 => exact .lst s (fun z => n (hb _ z)) ih1 ih2
  | dS s n e _ _ ih1 ih2 => exact .dS s (fun z => n (hb _ z)) e ih1 ih2
  | dT s n e _ _ _ ih1 ih2 ih3 => exact .dT s (fun z => n (hb _ z)) e ih1 ih2 ih3
  | st s n e _ _ ih1 ih2 => exact .st s (fun z => n (hb _ z)) e ih1 ih2
theorem Rs.length (h : Rs K H R B vs ds) : vs.length = ds.length := by
  induction h <;> simp_all
theorem Rs.split (h : Rs K H R B (v :: vs) (d :: ds)) : R1 K H R B v d ∧ Rs K H R B vs ds := by
  cases h with
  | atom a t => exact ⟨.atom a .nil, t⟩
  | tup s n x t => exact ⟨.tup s n x .nil, t⟩
  | wt s n x t => exact ⟨.wt s n x .nil, t⟩
  | lst s n x t => exact ⟨.lst s n x .nil, t⟩
  | dS s n e x t => exact ⟨.dS s n e x .nil, t⟩
  | dT s n e y x t => exact ⟨.dT s n e y x .nil, t⟩
  | st s n e x t => exact ⟨.st s n e x .nil, t⟩
theorem Rs.cons (h : R1 K H R B v d) (t : Rs K H R B vs ds) : Rs K H R B (v :: vs) (d :: ds) := by
  cases h with
  | atom a _ => exact .atom a t
  | tup s n x _ => exact .tup s n x t
  | wt s n x _ => exact .wt s n x t
  | lst s n x _ => exact .lst s n x t
  | dS s n e x _ => exact .dS s n e x t
  | dT s n e y x _ => exact .dT s n e y x t
  | st s n e x _ => exact .st s n e x t
theorem Rs.append : ∀ {vs us : List V} {ds es : List D}, Rs K H R B vs ds → Rs K H R B us es → Rs K H R B (vs ++ us) (ds ++ es)
  | [], us, ds, es, h, t => by cases h; exact t
  | v :: vs, us, ds, es, h, t => by
    cases ds with
    | nil => cases h
    | cons d ds =>
      obtain ⟨a, b⟩ := h.split
      exact Rs.cons a (Rs.append b t)
theorem Rs.get : ∀ {vs : List V} {ds : List D} {i : Nat} {d : D}, Rs K H R B vs ds → ds[i]? = some d → ∃ v, vs[i]? = some v ∧ R1 K H R B v d
  | [], ds, i, d, h, e => by cases h; simp at e
  | v :: vs, [], i, d, h, e => by cases h
  | v :: vs, d' :: ds, 0, d, h, e => by
    simp at e; subst e
    exact ⟨v, rfl, h.split.1⟩
  | v :: vs, d' :: ds, i + 1, d, h, e => by
    obtain ⟨w, h1, h2⟩ := Rs.get (i := i) (d := d) h.split.2 (by simpa using e)
    exact ⟨w, by simpa using h1, h2⟩
theorem Rs.getV : ∀ {vs : List V} {ds : List D} {i : Nat} {v : V}, Rs K H R B vs ds → vs[i]? = some v → ∃ d, ds[i]? = some d ∧ R1 K H R B v d := fun {vs ds i v} h e => by
  have hl := h.length
  have hi : i < vs.length := (List.getElem?_eq_some_iff.mp e).1
  obtain ⟨v', e', r⟩ := h.get (i := i) (d := ds[i]'(by omega)) (List.getElem?_eq_getElem _)
  rw [e] at e'
  cases e'
  exact ⟨_, List.getElem?_eq_getElem _, r⟩
theorem Rs.drop : ∀ {vs : List V} {ds : List D} (n : Nat), Rs K H R B vs ds → Rs K H R B (vs.drop n) (ds.drop n)
  | _, _, 0, h => h
  | [], ds, n + 1, h => by cases h; exact .nil
  | v :: vs, [], n + 1, h => by cases h
  | v :: vs, d :: ds, n + 1, h => Rs.drop n h.split.2
theorem Rs.take : ∀ {vs : List V} {ds : List D} (n : Nat), Rs K H R B vs ds → Rs K H R B (vs.take n) (ds.take n)
  | _, _, 0, h => by simp; exact .nil
  | [], ds, n + 1, h => by cases h; exact .nil
  | v :: vs, [], n + 1, h => by cases h
  | v :: vs, d :: ds, n + 1, h => by
    simp only [List.take_succ_cons]
    exact Rs.cons h.split.1 (Rs.take n h.split.2)
end

/-- what a def's run knows: the row's place, what is kept away from, the heap at the entry -/
structure G where
  R : Addr
  B : Addr → Prop
  H0 : Hp

/-- the tables: those of generator expressions, and those that tell lambdas of a name -/
structure Tb where
  gs : List Addr
  ls : List (Addr × Str)
instance : Membership Addr Tb := ⟨fun T P => P ∈ T.gs⟩
@[simp] theorem Tb.mem_mk {P : Addr} {a : List Addr} {b : List (Addr × Str)} : P ∈ (⟨a, b⟩ : Tb) ↔ P ∈ a := Iff.rfl
theorem codeO_ext (c : Addr) (q : Str) : ∃ φ, LamX.CodeO c q = .ext φ := by unfold LamX.CodeO; exact ⟨_, rfl⟩
/-- what keeps the tables that tell lambdas -/
theorem tabs_keep {ls : List (Addr × Str)} {H H' : Hp} (t : LamX.Tabs ls H) (k1 : ∀ p ∈ ls, ∀ ps, H p.1 = some (.tbl ps) → H' p.1 = some (.tbl ps)) (k2 : ∀ c φ, H c = some (.ext φ) → H' c = some (.ext φ)) : LamX.Tabs ls H' := fun p hp => by
  obtain ⟨ps, h1, h2, h3⟩ := t p hp
  refine ⟨ps, k1 p hp ps h1, h2, fun pos cv hc => ?_⟩
  obtain ⟨c, e1, e2⟩ := h3 pos cv hc
  obtain ⟨φ, eφ⟩ := codeO_ext c p.2
  exact ⟨c, e1, by rw [eφ] at e2 ⊢; exact k2 c φ e2⟩
structure Wo (K : PySem.W.Frag) (T : Tb) (g : G) (H : Hp) (z : S) : Prop where
  row : ∃ SA, ¬ g.B SA ∧ SqL K H SA (z.script.map V.int) ∧ H g.R = some (.lst [.ref SA, .int z.place, .int z.seed, .int z.rest])
  tabs : ∀ P ∈ T, GxR.TabG H P
  bad : g.B g.R
  dom : ∀ a, g.B a → H a ≠ none
  kn : ∀ a, g.B a → K.lookup a = none
  lam : LamX.Tabs T.ls H
  dis : ∀ p ∈ T.ls, ¬ p.1 ∈ T
structure Ext (R : Addr) (H H' : Hp) : Prop where
  keep : ∀ a o, H a = some o → a ≠ R → (∀ ps, o ≠ .tbl ps) → H' a = some o
  dom : ∀ a, H a ≠ none → H' a ≠ none
  row : ∀ x xs, H R = some (.lst (x :: xs)) → ∃ ys, H' R = some (.lst (x :: ys))
section
variable {K : PySem.W.Frag} {T : Tb} {g : G} {H H' H2 : Hp} {z : S} {R : Addr} {B : Addr → Prop}
theorem Ext.refl : Ext R H H := ⟨fun _ _ e _ _ => e, fun _ e => e, fun _ xs e => ⟨xs, e⟩⟩
theorem Ext.trans (a : Ext R H H') (b : Ext R H' H2) : Ext R H H2 := ⟨fun c o e h1 h2 => b.keep c o (a.keep c o e h1 h2) h1 h2, fun c h => b.dom c (a.dom c h), fun x xs e => (a.row x xs e).elim fun ys e2 => b.row x ys e2⟩
theorem Ext.rd (a : Ext R H H') (hB : B R) : RdLe B H H' := ⟨fun c u n du r => by
  have hc : c ≠ R := fun e => n (by rw [e]; exact hB)
  rcases r with r | ⟨o, r⟩
  · exact .inl (a.keep c _ r hc (fun ps e => by rw [e] at du; exact du))
  · exact .inr ⟨o, a.keep c _ r hc (fun ps e => by cases e)⟩, fun c o us n e => a.keep c _ e (fun z => n (by rw [z]; exact hB)) (fun ps z => by cases z), fun c us n e => a.keep c _ e (fun z => n (by rw [z]; exact hB)) (fun ps z => by cases z)⟩
theorem Ext.new {p : Addr} {o : HO} (hp : H p = none) : Ext R H (upd H p o) :=
  ⟨fun a u e _ _ => by rw [upd_ne (ne_of_none e hp)]; exact e, fun a h => by
    by_cases e : a = p
    · rw [e, upd_same]; exact fun z => by cases z
    · rw [upd_ne e]; exact h, fun x xs e => ⟨xs, by rw [upd_ne (ne_of_none e hp)]; exact e⟩⟩
theorem Wo.new {p : Addr} {o : HO} (w : Wo K T g H z) (hp : H p = none) : Wo K T g (upd H p o) z := by
  obtain ⟨⟨SA, h1, h2, h3⟩, ht, hb, hd, hk, hl, hi⟩ := w
  refine ⟨⟨SA, h1, ?_, ?_⟩, fun P hP => ?_, hb, fun a ha => ?_, hk, tabs_keep hl (fun q _ ps e => by rw [upd_ne (ne_of_none e hp)]; exact e) fun c φ e => by rw [upd_ne (ne_of_none e hp)]; exact e, hi⟩
  · rcases h2 with (q | ⟨ob, q⟩) | q
    · exact .inl (.inl (by rw [upd_ne (ne_of_none q hp)]; exact q))
    · exact .inl (.inr ⟨ob, by rw [upd_ne (ne_of_none q hp)]; exact q⟩)
    · exact .inr q
  · rw [upd_ne (ne_of_none h3 hp)]; exact h3
  · obtain ⟨ps, q, r⟩ := ht P hP
    exact ⟨ps, by rw [upd_ne (ne_of_none q hp)]; exact q, r⟩
  · by_cases e : a = p
    · rw [e, upd_same]; exact fun z => by cases z
    · rw [upd_ne e]; exact hd a ha
theorem Wo.less {B' : Addr → Prop} {H0' : Hp} (w : Wo K T g H z) (hb : ∀ a, B' a → g.B a) (hR : B' g.R) : Wo K T ⟨g.R, B', H0'⟩ H z := by
  obtain ⟨⟨SA, h1, h2, h3⟩, ht, hb', hd, hk, hl, hi⟩ := w
  exact ⟨⟨SA, fun q => h1 (hb _ q), h2, h3⟩, ht, hR, fun a h => hd a (hb a h), fun a h => hk a (hb a h), hl, hi⟩
end
end DL
set_option Elab.async false
set_option linter.all false
set_option maxRecDepth 100000
set_option maxHeartbeats 1000000
namespace DL
open PySem PySem.Spec PyProof.Rows L2

inductive Sl where
  | val (d : D)
  | own (d : D)
abbrev EnD := List (Option Sl)

structure Yx where
  K : PySem.W.Frag
  T : Tb
  mg : Str → Option Value
  E : XK

def Own (σ : L2.St) (ρ : EnD) (a : Addr) : Prop := ∃ (i : Nat) (d : D), ρ[i]? = some (some (.own d)) ∧ σ[i]? = some (some (.ref a))
def bad (g : G) (σ : L2.St) (ρ : EnD) (a : Addr) : Prop := g.B a ∨ Own σ ρ a

def OwnAt (K : PySem.W.Frag) (H : Hp) (R : Addr) (B : Addr → Prop) (a : Addr) : D → Prop
  | .lst ds => ∃ vs, H a = some (.lst vs) ∧ Rs K H R B vs ds
  | .dS es => ∃ kvs : List (Key × V), H a = some (.dK kvs) ∧ kvs.map (·.1) = es.map kS ∧ Rs K H R B (kvs.map (·.2)) (es.map (·.2))
  | _ => False

abbrev gb (g : G) (σ : L2.St) (ρ : EnD) : G := ⟨g.R, bad g σ ρ, g.H0⟩
structure StR (Y : Yx) (g : G) (H : Hp) (σ : L2.St) (ρ : EnD) (z : S) : Prop where
  wo : Wo Y.K Y.T (gb g σ ρ) H z
  gR : g.B g.R
  len : σ.length = ρ.length
  val : ∀ (i : Nat) (d : D), ρ[i]? = some (some (.val d)) → ∃ v, σ[i]? = some (some v) ∧ R1 Y.K H g.R (bad g σ ρ) v d
  own : ∀ (i : Nat) (d : D), ρ[i]? = some (some (.own d)) → ∃ a, σ[i]? = some (some (.ref a)) ∧ ¬ g.B a ∧ g.H0 a = none ∧ Y.K.lookup a = none ∧ OwnAt Y.K H g.R (bad g σ ρ) a d
  inj : ∀ (i j : Nat) (d e : D) (a : Addr), ρ[i]? = some (some (.own d)) → ρ[j]? = some (some (.own e)) → σ[i]? = some (some (.ref a)) → σ[j]? = some (some (.ref a)) → i = j
  ext : Ext g.R g.H0 H

section
variable {Y : Yx} {g : G} {H H' H2 : Hp} {σ σ' : L2.St} {ρ ρ' : EnD} {z z' : S}
theorem OwnAt.there {K : PySem.W.Frag} {R a : Addr} {B : Addr → Prop} {d : D} (h : OwnAt K H R B a d) : ∃ o, H a = some o ∧ Mut (some o) ∧ (∀ ps, o ≠ .tbl ps) := by
  cases d <;> first | exact h.elim | (obtain ⟨x, e, _⟩ := h; exact ⟨_, e, trivial, fun ps q => by cases q⟩)
theorem StR.badR (s : StR Y g H σ ρ z) : bad g σ ρ g.R := s.wo.bad
theorem StR.badDom (s : StR Y g H σ ρ z) {a : Addr} (h : bad g σ ρ a) : H a ≠ none := s.wo.dom a h
theorem StR.badK (s : StR Y g H σ ρ z) {a : Addr} (h : bad g σ ρ a) : Y.K.lookup a = none := s.wo.kn a h
theorem StR.wog (s : StR Y g H σ ρ z) : Wo Y.K Y.T g H z := s.wo.less (fun a h => .inl h) s.gR
theorem StR.fresh (s : StR Y g H σ ρ z) {p : Addr} (h : H p = none) : ¬ bad g σ ρ p := fun b => s.badDom b h
theorem StR.ownNe (s : StR Y g H σ ρ z) {a : Addr} (h : Own σ ρ a) : a ≠ g.R := by
  obtain ⟨i, d, h1, h2⟩ := h
  obtain ⟨b, e1, nb, _⟩ := s.own i d h1
  rw [h2] at e1
  cases e1
  exact fun e => nb (by rw [e]; exact s.gR)
theorem OwnAt.mono {K : PySem.W.Frag} {R a : Addr} {B : Addr → Prop} {d : D} (r : RdLe B H H') (k : ∀ o, H a = some o → (∀ ps, o ≠ .tbl ps) → H' a = some o) (h : OwnAt K H R B a d) : OwnAt K H' R B a d := by
  cases d <;> first
    | exact h.elim
    | (obtain ⟨x, e, q⟩ := h; exact ⟨x, k _ e (fun ps q => by cases q), q.mono r⟩)
    | (obtain ⟨x, e, e2, q⟩ := h; exact ⟨x, k _ e (fun ps q => by cases q), e2, q.mono r⟩)
theorem StR.step (s : StR Y g H σ ρ z) (e : Ext g.R H H') (w : Wo Y.K Y.T (gb g σ ρ) H' z') : StR Y g H' σ ρ z' where
  wo := w
  gR := s.gR
  len := s.len
  val := fun i d h => by
    obtain ⟨v, h1, h2⟩ := s.val i d h
    exact ⟨v, h1, h2.mono (e.rd s.badR)⟩
  own := fun i d h => by
    obtain ⟨a, h1, h2, h3, h4, h5⟩ := s.own i d h
    exact ⟨a, h1, h2, h3, h4, h5.mono (e.rd s.badR) fun o q nt => e.keep a o q (s.ownNe ⟨i, d, h, h1⟩) nt⟩
  inj := s.inj
  ext := s.ext.trans e
theorem StR.new (s : StR Y g H σ ρ z) {p : Addr} {o : HO} (hp : H p = none) : StR Y g (upd H p o) σ ρ z := s.step (.new hp) (s.wo.new hp)
theorem StR.tup (s : StR Y g H σ ρ z) {p : Addr} {o : Obj} {vs : List V} {ds : List D} (hp : H p = none) (ho : o.dict = none) (r : Rs Y.K H g.R (bad g σ ρ) vs ds) :
    R1 Y.K (upd H p (.frz o (.tup vs))) g.R (bad g σ ρ) (.ref p) (.tup ds) :=
  .tup (.inl ⟨o, upd_same, ho⟩) (s.fresh hp) (r.mono (Ext.rd (.new hp) s.badR)) .nil
theorem StR.lst (s : StR Y g H σ ρ z) {p : Addr} {vs : List V} {ds : List D} (hp : H p = none) (r : Rs Y.K H g.R (bad g σ ρ) vs ds) :
    R1 Y.K (upd H p (.lst vs)) g.R (bad g σ ρ) (.ref p) (.lst ds) :=
  .lst upd_same (s.fresh hp) (r.mono (Ext.rd (.new hp) s.badR)) .nil

/-- an exception, as the caller may see it -/
def XRep (Y : Yx) (g : G) (H : Hp) (x : Exn) (C : Value) (d : Option Addr) : Prop :=
  ∃ c, Y.mg x.cls = some (.ref c) ∧ C = .ref c ∧ (match x.idx with
    | none => d = none
    | some i => ∃ dx v, d = some dx ∧ H dx = some (.xd [("index", v)]) ∧ R1 Y.K H g.R g.B v i)
def XOk (Y : Yx) (g : G) (x : Exn) (z : S) : Prop := ∀ H' C d, Wo Y.K Y.T g H' z → Ext g.R g.H0 H' → XRep Y g H' x C d → Y.E C d H'
/-- behind a run -/
def After {α : Type} (Y : Yx) (g : G) : Res α → (α → S → Prop) → Prop
  | .ok a z, P => P a z
  | .exc x z, _ => XOk Y g x z
  | .bad, _ => False
theorem After.imp {α : Type} {r : Res α} {P Q : α → S → Prop} (h : After Y g r P) (i : ∀ a z, r = .ok a z → P a z → Q a z) : After Y g r Q := by
  cases r with
  | ok a z => exact i a z rfl h
  | exc x z => exact h
  | bad => exact h
theorem After.bind {α β : Type} {m : M α} {k : α → M β} {P : β → S → Prop} (h : After Y g (mbind m k z) P) : After Y g (m z) fun a z' => After Y g (k a z') P := by
  unfold mbind at h
  cases e : m z with
  | ok a z' => rw [e] at h; exact h
  | exc x z' => rw [e] at h; exact h
  | bad => rw [e] at h; exact h

/-- an expression's reading by its data -/
def tD (Y : Yx) (f : EnD → M D) : TE := fun σ H Q => ∃ g ρ z, StR Y g H σ ρ z ∧ After Y g (f ρ z) fun d z' => ∀ v H', StR Y g H' σ ρ z' → Ext g.R H H' → R1 Y.K H' g.R (bad g σ ρ) v d → Q v H'
def ttD (Y : Yx) (f : EnD → M Bool) : TT := fun σ H Q => ∃ g ρ z, StR Y g H σ ρ z ∧ After Y g (f ρ z) fun b z' => ∀ H', StR Y g H' σ ρ z' → Ext g.R H H' → Q b H'
def taD (Y : Yx) (f : EnD → M (List D)) : TA := fun σ H Q => ∃ g ρ z, StR Y g H σ ρ z ∧ After Y g (f ρ z) fun ds z' => ∀ vs H', StR Y g H' σ ρ z' → Ext g.R H H' → Rs Y.K H' g.R (bad g σ ρ) vs ds → Q vs H'
/-- amid: the values vs have come -/
def tDs (Y : Yx) (vs : List V) (k : List D → M D) : TE := fun σ H Q => ∃ g ρ z ds, StR Y g H σ ρ z ∧ Rs Y.K H g.R (bad g σ ρ) vs ds ∧ After Y g (k ds z) fun d z' => ∀ v H', StR Y g H' σ ρ z' → Ext g.R H H' → R1 Y.K H' g.R (bad g σ ρ) v d → Q v H'
def ttDs (Y : Yx) (vs : List V) (k : List D → M Bool) : TT := fun σ H Q => ∃ g ρ z ds, StR Y g H σ ρ z ∧ Rs Y.K H g.R (bad g σ ρ) vs ds ∧ After Y g (k ds z) fun b z' => ∀ H', StR Y g H' σ ρ z' → Ext g.R H H' → Q b H'

theorem PE_imp {X : Cx} {e : Expr} {t t' : TE} (h : PE X e t) (i : ∀ σ H Q, t' σ H Q → t σ H Q) : PE X e t' := ⟨fun pins s σ H Q I q => h.run pins s σ H Q I (i σ H Q q)⟩
theorem PT_imp {X : Cx} {e : Expr} {t t' : TT} (h : PT X e t) (i : ∀ σ H Q, t' σ H Q → t σ H Q) : PT X e t' := ⟨fun pins s σ H Q I q => h.run pins s σ H Q I (i σ H Q q)⟩
theorem PA_imp {X : Cx} {e : List Expr} {t t' : TA} (h : PA X e t) (i : ∀ σ H Q, t' σ H Q → t σ H Q) : PA X e t' := ⟨fun pos pins s σ H Q I q => h.run pos pins s σ H Q I (i σ H Q q)⟩
theorem PS_imp {X : Cx} {e : Stmt} {t t' : TS} (h : PS X e t) (i : ∀ D σ H, t' D σ H → t D σ H) : PS X e t' := ⟨fun pins s σ H D I q => h.run pins s σ H D I (i D σ H q)⟩
theorem PSs_imp {X : Cx} {e : List Stmt} {t t' : TS} (h : PSs X e t) (i : ∀ D σ H, t' D σ H → t D σ H) : PSs X e t' := ⟨fun pins s σ H D I q => h.run pins s σ H D I (i D σ H q)⟩

/-- one, then what follows with it -/
theorem tD_bind {f : EnD → M D} {k : EnD → D → M D} {Q : VK} (h : tD Y (fun ρ => mbind (f ρ) (k ρ)) σ H Q) :
    tD Y f σ H fun v H1 => ∃ g ρ z d, StR Y g H1 σ ρ z ∧ R1 Y.K H1 g.R (bad g σ ρ) v d ∧ After Y g (k ρ d z) fun d z' => ∀ v H', StR Y g H' σ ρ z' → Ext g.R H1 H' → R1 Y.K H' g.R (bad g σ ρ) v d → Q v H' := by
  obtain ⟨g, ρ, z, st, a⟩ := h
  refine ⟨g, ρ, z, st, a.bind.imp fun d z1 _ h1 v H1 st1 e1 r1 => ⟨g, ρ, z1, d, st1, r1, h1.imp fun d2 z2 _ h2 v2 H2 st2 e2 r2 => h2 v2 H2 st2 (e1.trans e2) r2⟩⟩
/-- two, then what follows with them -/
theorem tD_bind2 {f f' : EnD → M D} {k : D → D → M D} {Q : VK} (h : tD Y (fun ρ => mbind (f ρ) fun x => mbind (f' ρ) fun y => k x y) σ H Q) :
    tD Y f σ H fun v H1 => tD Y f' σ H1 fun w H2 => ∃ g ρ z d e, StR Y g H2 σ ρ z ∧ R1 Y.K H2 g.R (bad g σ ρ) v d ∧ R1 Y.K H2 g.R (bad g σ ρ) w e ∧
      After Y g (k d e z) fun d z' => ∀ v H', StR Y g H' σ ρ z' → Ext g.R H2 H' → R1 Y.K H' g.R (bad g σ ρ) v d → Q v H' := by
  obtain ⟨g, ρ, z, st, a⟩ := h
  refine ⟨g, ρ, z, st, a.bind.imp fun d z1 _ h1 v H1 st1 e1 r1 => ⟨g, ρ, z1, st1, h1.bind.imp fun e z2 _ h2 w H2 st2 e2 r2 => ?_⟩⟩
  exact ⟨g, ρ, z2, d, e, st2, r1.mono (e2.rd st1.badR), r2, h2.imp fun d3 z3 _ h3 v3 H3 st3 e3 r3 => h3 v3 H3 st3 (e1.trans (e2.trans e3)) r3⟩
end
end DL
set_option Elab.async false
set_option linter.all false
set_option maxRecDepth 100000
set_option maxHeartbeats 1000000
namespace DL
open PySem PySem.Spec PyProof.Rows L2

abbrev yx (X : Cx) (T : Tb) (E : XK) : Yx := ⟨X.K, T, X.mg, E⟩

def eV (i : Nat) : EnD → M D := fun ρ => match ρ[i]? with
  | some (some (.val d)) => mpure d
  | _ => mbad
def eC (d : D) : EnD → M D := fun _ => mpure d
def e1 (F : D → M D) (f : EnD → M D) : EnD → M D := fun ρ => mbind (f ρ) F
def e2 (F : D → D → M D) (f f' : EnD → M D) : EnD → M D := fun ρ => mbind (f ρ) fun x => mbind (f' ρ) fun y => F x y
def eIf (t : EnD → M Bool) (f f' : EnD → M D) : EnD → M D := fun ρ => mbind (t ρ) fun b => if b then f ρ else f' ρ
def asB : D → Option Bool
  | .bl b => some b
  | _ => none
/-- an expression whose value is a bool, as a test -/
def tV (f : EnD → M D) : EnD → M Bool := fun ρ => mbind (f ρ) fun d => mopt (asB d)
def tNot (t : EnD → M Bool) : EnD → M Bool := fun ρ => mbind (t ρ) fun b => mpure (!b)
def tAnd (t u : EnD → M Bool) : EnD → M Bool := fun ρ => mbind (t ρ) fun b => if b then u ρ else mpure false
def tOr (t u : EnD → M Bool) : EnD → M Bool := fun ρ => mbind (t ρ) fun b => if b then mpure true else u ρ
def eB (t : EnD → M Bool) : EnD → M D := fun ρ => mbind (t ρ) fun b => mpure (.bl b)

section
variable {X : Cx} {T : Tb} {E : XK} {a b c : Expr} {f fa fb : EnD → M D} {t u : EnD → M Bool} {pos : Pos} {σ : L2.St} {H : Hp} {Q : VK}
theorem After.pure {α : Type} {Y : Yx} {g : G} {x : α} {z : S} {P : α → S → Prop} (h : After Y g (mpure x z) P) : P x z := h
theorem After.opt {α : Type} {Y : Yx} {g : G} {x : Option α} {z : S} {P : α → S → Prop} (h : After Y g (mopt x z) P) : ∃ y, x = some y ∧ P y z := by
  cases x with
  | none => exact h.elim
  | some y => exact ⟨y, rfl, h⟩

theorem pu_v {i : Nat} {x : Str} (hN : X.N[i]? = some x) (hv : Vis X.env.scope x) (hd : (x == ("__debug__" : Str)) = false := by decide) (hcd : (x == ("__classdict__" : Str)) = false := by decide) :
    PE X (.Name x pos) (tD (yx X T E) (eV i)) := by
  refine PE_imp (pe_var hN hv hd hcd) fun σ H Q ⟨g, ρ, z, st, h⟩ => ?_
  unfold eV at h
  cases hs : ρ[i]? with
  | none => rw [hs] at h; exact h.elim
  | some o =>
    cases o with
    | none => rw [hs] at h; exact h.elim
    | some sl =>
      cases sl with
      | own d => rw [hs] at h; exact h.elim
      | val d =>
        rw [hs] at h
        obtain ⟨v, h1, h2⟩ := st.val i d hs
        exact ⟨v, h1, (After.pure h) v H st .refl h2⟩
theorem tC_imp {v : V} {d : D} (r : ∀ g : G, ∀ ρ z, StR (yx X T E) g H σ ρ z → R1 X.K H g.R (bad g σ ρ) v d) (h : tD (yx X T E) (eC d) σ H Q) : tC v σ H Q := by
  obtain ⟨g, ρ, z, st, h⟩ := h
  exact (After.pure h) v H st .refl (r g ρ z st)
theorem pu_int {i : Int} {j : Nat} : PE X (.Constant (.int i) j pos) (tD (yx X T E) (eC (.int i))) := PE_imp pe_int fun σ H Q h => tC_imp (fun _ _ _ _ => .atom .int .nil) h
theorem pu_bl {i : Bool} {j : Nat} : PE X (.Constant (.bool i) j pos) (tD (yx X T E) (eC (.bl i))) := PE_imp pe_bl fun σ H Q h => tC_imp (fun _ _ _ _ => .atom .bl .nil) h
theorem pu_str {x : Str} {z : List Nat} {j : Nat} (hx : x = DL.ST z) : PE X (.Constant (.str x) j pos) (tD (yx X T E) (eC (.str z))) := by
  subst hx
  exact PE_imp pe_str fun σ H Q h => tC_imp (fun _ _ _ _ => .atom .str .nil) h
/-- a module's tuple, written -/
def WR (K : PySem.W.Frag) (v : V) (d : D) : Prop := ∀ (H : Hp) (R : Addr) (B : Addr → Prop), (∀ a, B a → K.lookup a = none) → R1 K H R B v d
theorem pu_gT {x : Str} {v : V} {d : D} {w : Value} (hg : Gl X x) (hm : X.mg x = some w) (r : RelV v w) (hw : WR X.K v d) (hd : (x == ("__debug__" : Str)) = false := by decide) : PE X (.Name x pos) (tD (yx X T E) (eC d)) :=
  PE_imp (pe_glob hg hm r hd) fun σ H Q h => tC_imp (fun g ρ z st => hw _ _ _ fun a ha => st.badK ha) h

def rOp (X : Cx) (f : Value → Value → Sem Value) : R2 := fun x y H Q => ∃ r, OpR X f r ∧ r x y H Q
theorem opOp {f : Value → Value → Sem Value} : OpR X f (rOp X f) := fun pins s σ H x y v u Q I rx ry ⟨r, ho, q⟩ => ho pins s σ H x y v u Q I rx ry q
def OpD (X : Cx) (T : Tb) (E : XK) (f : Value → Value → Sem Value) (F : D → D → M D) : Prop :=
  ∀ (g : G) (H : Hp) (σ : L2.St) (ρ : EnD) (z : S) (v w : V) (d e : D) (Q : VK), StR (yx X T E) g H σ ρ z → R1 X.K H g.R (bad g σ ρ) v d → R1 X.K H g.R (bad g σ ρ) w e →
    After (yx X T E) g (F d e z) (fun d' z' => ∀ v H', StR (yx X T E) g H' σ ρ z' → Ext g.R H H' → R1 X.K H' g.R (bad g σ ρ) v d' → Q v H') → rOp X f v w H Q
theorem pu_bin {op : Operator} {F : D → D → M D} (hop : OpD X T E (binaryOp op) F) (ha : PE X a (tD (yx X T E) fa)) (hb : PE X b (tD (yx X T E) fb)) : PE X (.BinOp a op b pos) (tD (yx X T E) (e2 F fa fb)) :=
  PE_imp (pe_op opOp ha hb) fun σ H Q h => by
    obtain ⟨g, ρ, z, st, a⟩ := tD_bind2 h
    refine ⟨g, ρ, z, st, a.imp fun d z1 _ h1 v H1 st1 e1 r1 => ?_⟩
    obtain ⟨g2, ρ2, z2, st2, a2⟩ := h1 v H1 st1 e1 r1
    exact ⟨g2, ρ2, z2, st2, a2.imp fun e z3 _ h3 w H3 st3 e3 r3 => by
      obtain ⟨g4, ρ4, z4, d4, e4, st4, rv, rw, a4⟩ := h3 w H3 st3 e3 r3
      exact hop g4 H3 σ ρ4 z4 v w d4 e4 Q st4 rv rw a4⟩
theorem pu_cmp {op : CmpOp} {F : D → D → M D} (hop : OpD X T E (compareOp op) F) (ha : PE X a (tD (yx X T E) fa)) (hb : PE X b (tD (yx X T E) fb)) (hm : behindInMarks op b = false) : PE X (.Compare a [op] [b] pos) (tD (yx X T E) (e2 F fa fb)) :=
  PE_imp (pe_cmpR opOp ha hb hm) fun σ H Q h => by
    obtain ⟨g, ρ, z, st, a⟩ := tD_bind2 h
    refine ⟨g, ρ, z, st, a.imp fun d z1 _ h1 v H1 st1 e1 r1 => ?_⟩
    obtain ⟨g2, ρ2, z2, st2, a2⟩ := h1 v H1 st1 e1 r1
    exact ⟨g2, ρ2, z2, st2, a2.imp fun e z3 _ h3 w H3 st3 e3 r3 => by
      obtain ⟨g4, ρ4, z4, d4, e4, st4, rv, rw, a4⟩ := h3 w H3 st3 e3 r3
      exact hop g4 H3 σ ρ4 z4 v w d4 e4 Q st4 rv rw a4⟩

/-- a bool's value -/
theorem tV_imp {f : EnD → M D} {Q : Bool → Hp → Prop} (h : ttD (yx X T E) (tV f) σ H Q) : tD (yx X T E) f σ H fun x H1 => ∃ k, x = .bl k ∧ Q k H1 := by
  obtain ⟨g, ρ, z, st, a⟩ := h
  refine ⟨g, ρ, z, st, a.bind.imp fun d z1 _ h1 v H1 st1 e1 r1 => ?_⟩
  obtain ⟨b, hb, q⟩ := h1.opt
  cases d <;> first | (cases hb; cases r1 with | atom x _ => cases x; exact ⟨_, rfl, q H1 st1 e1⟩) | cases hb
theorem pt_cmp {op : CmpOp} {F : D → D → M D} (hop : OpD X T E (compareOp op) F) (ha : PE X a (tD (yx X T E) fa)) (hb : PE X b (tD (yx X T E) fb)) (hm : behindInMarks op b = false) : PT X (.Compare a [op] [b] pos) (ttD (yx X T E) (tV (e2 F fa fb))) :=
  PT_imp (pt_cmpR opOp ha hb hm) fun σ H Q h => by
    have h := tV_imp h
    obtain ⟨g, ρ, z, st, a⟩ := tD_bind2 h
    refine ⟨g, ρ, z, st, a.imp fun d z1 _ h1 v H1 st1 e1 r1 => ?_⟩
    obtain ⟨g2, ρ2, z2, st2, a2⟩ := h1 v H1 st1 e1 r1
    exact ⟨g2, ρ2, z2, st2, a2.imp fun e z3 _ h3 w H3 st3 e3 r3 => by
      obtain ⟨g4, ρ4, z4, d4, e4, st4, rv, rw, a4⟩ := h3 w H3 st3 e3 r3
      exact hop g4 H3 σ ρ4 z4 v w d4 e4 _ st4 rv rw a4⟩
/-- any other expression whose value is a bool -/
theorem pt_v (h : PE X a (tD (yx X T E) f)) (he : ∀ whole, isTrue a X.env whole = (do let v ← whole; standAt a.pos; holding [v] (truthy v)) := by intro _; rfl) : PT X a (ttD (yx X T E) (tV f)) :=
  PT_imp (pt_val h he) fun σ H Q h => by
    obtain ⟨g, ρ, z, st, a⟩ := tV_imp h
    exact ⟨g, ρ, z, st, a.imp fun d z1 _ h1 v H1 st1 e1 r1 => by
      obtain ⟨k, e, q⟩ := h1 v H1 st1 e1 r1
      exact ⟨k, e, q⟩⟩
theorem tt_bind {t : EnD → M Bool} {k : EnD → Bool → M Bool} {Q : Bool → Hp → Prop} (h : ttD (yx X T E) (fun ρ => mbind (t ρ) (k ρ)) σ H Q) :
    ttD (yx X T E) t σ H fun b H1 => ttD (yx X T E) (fun ρ => k ρ b) σ H1 Q := by
  obtain ⟨g, ρ, z, st, a⟩ := h
  exact ⟨g, ρ, z, st, a.bind.imp fun b z1 _ h1 H1 st1 e1 => ⟨g, ρ, z1, st1, h1.imp fun c z2 _ h2 H2 st2 e2 => h2 H2 st2 (e1.trans e2)⟩⟩
theorem tt_bindE {t : EnD → M Bool} {k : EnD → Bool → M D} (h : tD (yx X T E) (fun ρ => mbind (t ρ) (k ρ)) σ H Q) :
    ttD (yx X T E) t σ H fun b H1 => tD (yx X T E) (fun ρ => k ρ b) σ H1 Q := by
  obtain ⟨g, ρ, z, st, a⟩ := h
  exact ⟨g, ρ, z, st, a.bind.imp fun b z1 _ h1 H1 st1 e1 => ⟨g, ρ, z1, st1, h1.imp fun c z2 _ h2 v H2 st2 e2 r2 => h2 v H2 st2 (e1.trans e2) r2⟩⟩
theorem tt_mono {t : EnD → M Bool} {Q Q' : Bool → Hp → Prop} (h : ttD (yx X T E) t σ H Q) (i : ∀ b H', Q b H' → Q' b H') : ttD (yx X T E) t σ H Q' := by
  obtain ⟨g, ρ, z, st, a⟩ := h
  exact ⟨g, ρ, z, st, a.imp fun b z1 _ h1 H1 st1 e1 => i _ _ (h1 H1 st1 e1)⟩
theorem td_mono {Q Q' : VK} (h : tD (yx X T E) f σ H Q) (i : ∀ b H', Q b H' → Q' b H') : tD (yx X T E) f σ H Q' := by
  obtain ⟨g, ρ, z, st, a⟩ := h
  exact ⟨g, ρ, z, st, a.imp fun b z1 _ h1 v H1 st1 e1 r1 => i _ _ (h1 v H1 st1 e1 r1)⟩
theorem tt_pure {b : Bool} {Q : Bool → Hp → Prop} (h : ttD (yx X T E) (fun _ => mpure b) σ H Q) : Q b H := by
  obtain ⟨g, ρ, z, st, a⟩ := h
  exact a.pure H st .refl
theorem pt_not (ha : PT X a (ttD (yx X T E) t)) : PT X (.UnaryOp .Not a pos) (ttD (yx X T E) (tNot t)) :=
  PT_imp (L2.pt_not ha) fun σ H Q h => tt_mono (tt_bind h) fun b H' q => tt_pure (b := !b) q
theorem pw_one (ha : PT X a (ttD (yx X T E) t)) : PW X (.BoolOp .And [a] pos) (ttD (yx X T E) t) := pw_and1 ha
theorem PW_imp {X : Cx} {e : Expr} {t t' : TT} (h : PW X e t) (i : ∀ σ H Q, t' σ H Q → t σ H Q) : PW X e t' := ⟨fun wh pins s σ H Q I q => h.run wh pins s σ H Q I (i σ H Q q)⟩
variable {rest : List Expr}
theorem pw_and (ha : PT X a (ttD (yx X T E) t)) (hb : PW X (.BoolOp .And (b :: rest) pos) (ttD (yx X T E) u)) : PW X (.BoolOp .And (a :: b :: rest) pos) (ttD (yx X T E) (tAnd t u)) :=
  PW_imp (L2.pw_and ha hb) fun σ H Q h => tt_mono (tt_bind h) fun k H' q => by
    cases k with
    | true => exact q
    | false => exact tt_pure (b := false) q
theorem pw_or (ha : PT X a (ttD (yx X T E) t)) (hb : PW X (.BoolOp .Or (b :: rest) pos) (ttD (yx X T E) u)) : PW X (.BoolOp .Or (a :: b :: rest) pos) (ttD (yx X T E) (tOr t u)) :=
  PW_imp (L2.pw_or ha hb) fun σ H Q h => tt_mono (tt_bind h) fun k H' q => by
    cases k with
    | true => exact tt_pure (b := true) q
    | false => exact q
theorem pu_if (ht : PT X c (ttD (yx X T E) t)) (ha : PE X a (tD (yx X T E) fa)) (hb : PE X b (tD (yx X T E) fb)) : PE X (.IfExp c a b pos) (tD (yx X T E) (eIf t fa fb)) :=
  PE_imp (pe_ifExp ht ha hb) fun σ H Q h => tt_mono (tt_bindE h) fun k H' q => by
    cases k with
    | true => exact q
    | false => exact q
/-- and, or as values: all but the last bools -/
theorem tb_bind {f : EnD → M D} {k : EnD → Bool → M D} (h : tD (yx X T E) (fun ρ => mbind (mbind (f ρ) fun d => mopt (asB d)) (k ρ)) σ H Q) :
    tD (yx X T E) f σ H fun x H1 => ∃ c, x = .bl c ∧ tD (yx X T E) (fun ρ => k ρ c) σ H1 Q := by
  exact tV_imp (tt_bindE h)
def eAnd (f f' : EnD → M D) : EnD → M D := fun ρ => mbind (mbind (f ρ) fun d => mopt (asB d)) fun b => if b then f' ρ else mpure (.bl false)
def eOr (f f' : EnD → M D) : EnD → M D := fun ρ => mbind (mbind (f ρ) fun d => mopt (asB d)) fun b => if b then mpure (.bl true) else f' ρ
def eNot (f : EnD → M D) : EnD → M D := fun ρ => mbind (mbind (f ρ) fun d => mopt (asB d)) fun b => mpure (.bl (!b))
theorem tD_blp {b : Bool} (h : tD (yx X T E) (fun _ => mpure (.bl b)) σ H Q) : Q (.bl b) H := by
  obtain ⟨g, ρ, z, st, a⟩ := h
  exact a.pure _ H st .refl (.atom .bl .nil)
theorem pu_one {op : BoolOp} (h : PE X a (tD (yx X T E) f)) : PE X (.BoolOp op [a] pos) (tD (yx X T E) f) := pe_one h
theorem pu_and (ha : PE X a (tD (yx X T E) fa)) (hb : PE X (.BoolOp .And (b :: rest) pos) (tD (yx X T E) fb)) : PE X (.BoolOp .And (a :: b :: rest) pos) (tD (yx X T E) (eAnd fa fb)) :=
  PE_imp (pe_and ha hb) fun σ H Q h => td_mono (tb_bind h) fun x H' q => by
    obtain ⟨c, e, q⟩ := q
    refine ⟨c, e, ?_⟩
    cases c with
    | true => exact q
    | false => exact tD_blp q
theorem pu_or (ha : PE X a (tD (yx X T E) fa)) (hb : PE X (.BoolOp .Or (b :: rest) pos) (tD (yx X T E) fb)) : PE X (.BoolOp .Or (a :: b :: rest) pos) (tD (yx X T E) (eOr fa fb)) :=
  PE_imp (pe_or ha hb) fun σ H Q h => td_mono (tb_bind h) fun x H' q => by
    obtain ⟨c, e, q⟩ := q
    refine ⟨c, e, ?_⟩
    cases c with
    | true => exact tD_blp q
    | false => exact q
end
end DL
set_option Elab.async false
set_option linter.all false
set_option maxRecDepth 100000
set_option maxHeartbeats 1000000
namespace DL
open PySem PySem.Spec PyProof.Rows L2

mutual
/-- as plain data that may be compared -/
def py : D → Option PyData
  | .non => some .none
  | .bl b => some (.bool b)
  | .int i => some (.int i)
  | .str z => some (.str (ST z))
  | .tup xs => (pyAll xs).map .tuple
  | .wt xs => (pyAll xs).map .tuple
  | .lst xs => (pyAll xs).map .list
  | _ => none
def pyAll : List D → Option (List PyData)
  | [] => some []
  | x :: xs => (py x).bind fun p => (pyAll xs).map fun ps => p :: ps
end
def shp (d : D) : Option PyData := (py d).bind fun p => if SeqAt.shaped p = true then some p else none
def eqD (d e : D) : Option D := (shp d).bind fun p => (shp e).bind fun q => some (.bl (PyData.eqv p q))
def neD (d e : D) : Option D := (shp d).bind fun p => (shp e).bind fun q => some (.bl (!PyData.eqv p q))
def items : D → Option (List D)
  | .tup xs => some xs
  | .wt xs => some xs
  | .lst xs => some xs
  | _ => none
def inD (d e : D) : Option D := (items e).bind fun xs => (shp d).bind fun p => (pyAll xs).bind fun ps => if SeqAt.shaped (.list ps) = true then some (.bl (ps.any fun z => PyData.eqv z p)) else none
def notInD (d e : D) : Option D := (items e).bind fun xs => (shp d).bind fun p => (pyAll xs).bind fun ps => if SeqAt.shaped (.list ps) = true then some (.bl (!ps.any fun z => PyData.eqv z p)) else none
def isNonD : D → Bool
  | .non => true
  | _ => false
def isD : D → D → Option D
  | d, .non => some (.bl (isNonD d))
  | .bl a, .bl b => some (.bl (a == b))
  | _, _ => none
def isNotD (d e : D) : Option D := (isD d e).bind fun r => match r with | .bl b => some (.bl (!b)) | _ => none
def addD : D → D → Option D
  | .int i, .int j => some (.int (i + j))
  | .str a, .str b => if a.length + b.length ≤ sizeLine then some (.str (a ++ b)) else none
  | .tup a, .tup b => if a.length + b.length ≤ sizeLine then some (.tup (a ++ b)) else none
  | .lst a, .lst b => if a.length + b.length ≤ sizeLine then some (.lst (a ++ b)) else none
  | _, _ => none
def subD : D → D → Option D
  | .int i, .int j => some (.int (i - j))
  | _, _ => none
def mulD : D → D → Option D
  | .int i, .int j => if (-(2 ^ 64) < i ∧ i < 2 ^ 64) ∨ (-(2 ^ 64) < j ∧ j < 2 ^ 64) then some (.int (i * j)) else none
  | .str a, .int n => if 0 ≤ n ∧ n ≤ 1000 ∧ a.length ≤ 1000 then some (.str (List.replicate n.toNat a).flatten) else none
  | _, _ => none
def modD : D → D → Option D
  | .int i, .int j => if 0 < j then some (.int (i % j)) else none
  | _, _ => none
def fdivD : D → D → Option D
  | .int i, .int j => if 0 < j ∧ j < 1073741824 then some (.int (i / j)) else none
  | _, _ => none
def powD : D → D → Option D
  | .int i, .int j => if 0 ≤ j ∧ j ≤ 1000000 ∧ i.natAbs < 2 ^ 64 then some (.int (i ^ j.toNat)) else none
  | _, _ => none
def shlD : D → D → Option D
  | .int i, .int j => if 0 ≤ j ∧ j ≤ 1000000 ∧ i.natAbs < 2 ^ 64 then some (.int (i * 2 ^ j.toNat)) else none
  | _, _ => none
def ltD : D → D → Option D
  | .int i, .int j => some (.bl (decide (i < j)))
  | _, _ => none
def leD : D → D → Option D
  | .int i, .int j => some (.bl (decide (i ≤ j)))
  | _, _ => none
def gtD : D → D → Option D
  | .int i, .int j => some (.bl (decide (j < i)))
  | _, _ => none
def geD : D → D → Option D
  | .int i, .int j => some (.bl (decide (j ≤ i)))
  | _, _ => none
def negD : D → Option D
  | .int i => some (.int (-i))
  | _ => none
abbrev op2 (F : D → D → Option D) : D → D → M D := fun d e => mopt (F d e)
abbrev op1 (F : D → Option D) : D → M D := fun d => mopt (F d)

section
variable {X : Cx} {T : Tb} {E : XK} {K : PySem.W.Frag} {H : Hp} {R : Addr} {B : Addr → Prop}
theorem Rs.dp {vs : List V} {ds : List D} (h : Rs K H R B vs ds) : ∀ ps, pyAll ds = some ps → DpAll K H vs ps := by
  induction h with
  | nil => intro ps e; simp [pyAll] at e; subst e; exact .nil
  | @atom v d vs ds a _ ih =>
    intro ps e
    unfold pyAll at e
    cases a <;> simp only [py, Option.bind_none, Option.bind_some, Option.map_eq_some_iff, reduceCtorEq] at e
    case non => obtain ⟨qs, e, rfl⟩ := e; exact .cons .non (ih _ e)
    case bl => obtain ⟨qs, e, rfl⟩ := e; exact .cons (.bl _) (ih _ e)
    case int => obtain ⟨qs, e, rfl⟩ := e; exact .cons (.int _) (ih _ e)
    case str => obtain ⟨qs, e, rfl⟩ := e; exact .cons (.str _) (ih _ e)
  | tup s n _ _ ih1 ih2 =>
    intro ps e
    unfold pyAll at e
    simp only [py, Option.bind_eq_some_iff, Option.map_eq_some_iff] at e
    obtain ⟨p, ⟨qs, e1, rfl⟩, rs, e2, rfl⟩ := e
    exact .cons (.tup s.sq (ih1 _ e1)) (ih2 _ e2)
  | wt s n _ _ ih1 ih2 =>
    intro ps e
    unfold pyAll at e
    simp only [py, Option.bind_eq_some_iff, Option.map_eq_some_iff] at e
    obtain ⟨p, ⟨qs, e1, rfl⟩, rs, e2, rfl⟩ := e
    exact .cons (.tup s (ih1 _ e1)) (ih2 _ e2)
  | lst s n _ _ ih1 ih2 =>
    intro ps e
    unfold pyAll at e
    simp only [py, Option.bind_eq_some_iff, Option.map_eq_some_iff] at e
    obtain ⟨p, ⟨qs, e1, rfl⟩, rs, e2, rfl⟩ := e
    exact .cons (.lst (.inl (.inl s)) (ih1 _ e1)) (ih2 _ e2)
  | dS s n e _ _ ih1 ih2 => intro ps e; simp [pyAll, py] at e
  | dT s n e _ _ _ ih1 ih2 ih3 => intro ps e; simp [pyAll, py] at e
  | st s n e _ _ ih1 ih2 => intro ps e; simp [pyAll, py] at e
theorem R1.dp {v : V} {d : D} {p : PyData} (h : R1 K H R B v d) (e : py d = some p) : Dp K H v p := by
  have := Rs.dp h [p] (by simp [pyAll, e])
  cases this with
  | cons a _ => exact a
theorem shp_some {d : D} {p : PyData} (h : shp d = some p) : py d = some p ∧ SeqAt.shaped p = true := by
  unfold shp at h
  rw [Option.bind_eq_some_iff] at h
  obtain ⟨q, e, h⟩ := h
  by_cases c : SeqAt.shaped q = true
  · rw [if_pos c] at h; cases h; exact ⟨e, c⟩
  · rw [if_neg c] at h; cases h
/-- an operation that makes no state -/
theorem opD_of {f : Value → Value → Sem Value} {F : D → D → Option D}
    (h : ∀ (g : G) (H : Hp) (σ : L2.St) (ρ : EnD) (z : S) (v w : V) (d e r : D) (Q : VK), StR (yx X T E) g H σ ρ z → R1 X.K H g.R (bad g σ ρ) v d → R1 X.K H g.R (bad g σ ρ) w e → F d e = some r →
      (∀ u H', StR (yx X T E) g H' σ ρ z → Ext g.R H H' → R1 X.K H' g.R (bad g σ ρ) u r → Q u H') → rOp X f v w H Q) : OpD X T E f (op2 F) := by
  intro g H σ ρ z v w d e Q st rv rw' a
  obtain ⟨r, e1, q⟩ := a.opt
  exact h g H σ ρ z v w d e r Q st rv rw' e1 q
/-- .. whose answer is flat -/
theorem opD_flat {f : Value → Value → Sem Value} {F : D → D → Option D}
    (h : ∀ (H : Hp) (R : Addr) (B : Addr → Prop) (v w : V) (d e r : D) (Q : VK), R1 X.K H R B v d → R1 X.K H R B w e → F d e = some r → (∀ u, Atom R u r → Q u H) → rOp X f v w H Q) : OpD X T E f (op2 F) :=
  opD_of fun g H σ ρ z v w d e r Q st rv rw' e1 q => h H g.R (bad g σ ρ) v w d e r Q rv rw' e1 fun u a => q u H st .refl (.atom a .nil)
theorem od_eq {k : Nat} (hr : Room k X.A) : OpD X T E (compareOp .Eq) (op2 eqD) := opD_flat fun H R B v w d e r Q rv rw' h q => by
  unfold eqD at h
  simp only [Option.bind_eq_some_iff] at h
  obtain ⟨p, h1, p2, h2, h3⟩ := h
  cases h3
  obtain ⟨a1, b1⟩ := shp_some h1
  obtain ⟨a2, b2⟩ := shp_some h2
  exact ⟨_, op_eqD hr.units, p, p2, rv.dp a1, rw'.dp a2, b1, b2, q _ .bl⟩
theorem od_ne {k : Nat} (hr : Room k X.A) : OpD X T E (compareOp .NotEq) (op2 neD) := opD_flat fun H R B v w d e r Q rv rw' h q => by
  unfold neD at h
  simp only [Option.bind_eq_some_iff] at h
  obtain ⟨p, h1, p2, h2, h3⟩ := h
  cases h3
  obtain ⟨a1, b1⟩ := shp_some h1
  obtain ⟨a2, b2⟩ := shp_some h2
  exact ⟨_, op_neD hr.units, p, p2, rv.dp a1, rw'.dp a2, b1, b2, q _ .bl⟩
theorem room65 {k : Nat} {A : Around} {xs : List PyData} {d : PyData} (hr : Room k A) (sd : SeqAt.shaped d = true) : A.units + 1 + min (PyData.depthAll xs) d.depth < cLine := by
  have h1 := SeqAt.depth_of_shaped sd
  have h2 : min (PyData.depthAll xs) d.depth ≤ d.depth := Nat.min_le_right _ _
  have h3 := hr.un
  omega
def rInA (K : PySem.W.Frag) (neg : Bool) : R2 := fun x y H Q => ∃ d ds a us, y = .ref a ∧ (SqL K H a us ∨ SqT K H a us) ∧ DpAll K H us ds ∧ Dp K H x d ∧ SeqAt.shaped d = true ∧ SeqAt.shaped (.list ds) = true ∧ Q (.bl (if neg then !ds.any fun z => PyData.eqv z d else ds.any fun z => PyData.eqv z d)) H
theorem shaped_lt {ds : List PyData} (h : SeqAt.shaped (.list ds) = true) : PyData.canLayAll0 ds = true := by
  have := SeqAt.canLay_of_shaped h
  simpa [PyData.canLay0] using this
theorem op_inA {k : Nat} (hr : Room k X.A) : OpR X (compareOp .In) (rInA X.K false) := by
  intro pins s σ H x y v u Q I rx ry h
  obtain ⟨d, ds, a, us, rfl, hq, hds, hd, sd, se, q⟩ := h
  obtain ⟨as, r1⟩ := Dp.reads I d x v hd rx
  rcases hq with hq | hq
  · obtain ⟨bs, r2⟩ := Dp.reads I (.list ds) (.ref a) u (.lst hq hds) ry
    exact SeqAt.in_list_reads r2 r1 (shaped_lt se) (SeqAt.canLay_of_shaped sd) (room65 hr sd) ⟨.bl _, H, I, rfl, q⟩
  · obtain ⟨bs, r2⟩ := Dp.reads I (.tuple ds) (.ref a) u (.tup hq hds) ry
    exact SeqAt.in_tuple_reads r2 r1 (shaped_lt se) (SeqAt.canLay_of_shaped sd) (room65 hr sd) ⟨.bl _, H, I, rfl, q⟩
theorem op_notInA {k : Nat} (hr : Room k X.A) : OpR X (compareOp .NotIn) (rInA X.K true) := by
  intro pins s σ H x y v u Q I rx ry h
  obtain ⟨d, ds, a, us, rfl, hq, hds, hd, sd, se, q⟩ := h
  obtain ⟨as, r1⟩ := Dp.reads I d x v hd rx
  rcases hq with hq | hq
  · obtain ⟨bs, r2⟩ := Dp.reads I (.list ds) (.ref a) u (.lst hq hds) ry
    exact SeqAt.notIn_list_reads r2 r1 (shaped_lt se) (SeqAt.canLay_of_shaped sd) (room65 hr sd) ⟨.bl _, H, I, rfl, q⟩
  · obtain ⟨bs, r2⟩ := Dp.reads I (.tuple ds) (.ref a) u (.tup hq hds) ry
    exact SeqAt.notIn_tuple_reads r2 r1 (shaped_lt se) (SeqAt.canLay_of_shaped sd) (room65 hr sd) ⟨.bl _, H, I, rfl, q⟩
/-- a list, a tuple by its items -/
theorem R1.items {v : V} {d : D} {xs : List D} (h : R1 K H R B v d) (e : items d = some xs) : ∃ a us, v = .ref a ∧ (SqL K H a us ∨ SqT K H a us) ∧ Rs K H R B us xs := by
  cases d <;> simp only [DL.items, reduceCtorEq, Option.some.injEq] at e
  all_goals subst e
  all_goals cases h
  case tup.atom a _ => cases a
  case tup.tup s n r _ => exact ⟨_, _, rfl, .inr s.sq, r⟩
  case wt.atom a _ => cases a
  case wt.wt s n r _ => exact ⟨_, _, rfl, .inr s, r⟩
  case lst.atom a _ => cases a
  case lst.lst s n r _ => exact ⟨_, _, rfl, .inl (.inl (.inl s)), r⟩
theorem od_in {k : Nat} (hr : Room k X.A) : OpD X T E (compareOp .In) (op2 inD) := opD_flat fun H R B v w d e r Q rv rw' h q => by
  unfold inD at h
  simp only [Option.bind_eq_some_iff] at h
  obtain ⟨xs, h0, p, h1, ps, h2, h3⟩ := h
  split at h3
  · rename_i c
    cases h3
    obtain ⟨a1, b1⟩ := shp_some h1
    obtain ⟨a, us, rfl, hq, rs⟩ := rw'.items h0
    exact ⟨_, op_inA hr, p, ps, a, us, rfl, hq, rs.dp _ h2, rv.dp a1, b1, c, q _ .bl⟩
  · cases h3
theorem od_notIn {k : Nat} (hr : Room k X.A) : OpD X T E (compareOp .NotIn) (op2 notInD) := opD_flat fun H R B v w d e r Q rv rw' h q => by
  unfold notInD at h
  simp only [Option.bind_eq_some_iff] at h
  obtain ⟨xs, h0, p, h1, ps, h2, h3⟩ := h
  split at h3
  · rename_i c
    cases h3
    obtain ⟨a1, b1⟩ := shp_some h1
    obtain ⟨a, us, rfl, hq, rs⟩ := rw'.items h0
    exact ⟨_, op_notInA hr, p, ps, a, us, rfl, hq, rs.dp _ h2, rv.dp a1, b1, c, q _ .bl⟩
  · cases h3
theorem R1.int {v : V} {i : Int} (h : R1 K H R B v (.int i)) : v = .int i := by
  cases h with | atom a _ => cases a; rfl
theorem R1.bl {v : V} {i : Bool} (h : R1 K H R B v (.bl i)) : v = .bl i := by
  cases h with | atom a _ => cases a; rfl
theorem R1.str {v : V} {i : List Nat} (h : R1 K H R B v (.str i)) : v = .str (ST i) := by
  cases h with | atom a _ => cases a; rfl
theorem R1.non {v : V} (h : R1 K H R B v .non) : v = .non := by
  cases h with | atom a _ => cases a; rfl
theorem R1.tupl {v : V} {xs : List D} (h : R1 K H R B v (.tup xs)) : ∃ a us, v = .ref a ∧ TupX K H a us ∧ ¬ B a ∧ Rs K H R B us xs := by
  cases h with
  | atom a _ => cases a
  | tup s n r _ => exact ⟨_, _, rfl, s, n, r⟩
theorem R1.list {v : V} {xs : List D} (h : R1 K H R B v (.lst xs)) : ∃ a us, v = .ref a ∧ H a = some (.lst us) ∧ ¬ B a ∧ Rs K H R B us xs := by
  cases h with
  | atom a _ => cases a
  | lst s n r _ => exact ⟨_, _, rfl, s, n, r⟩
theorem R1.isNon {v : V} {d : D} (h : R1 K H R B v d) : decide (v = .non) = isNonD d := by
  cases h with
  | atom a _ => cases a <;> rfl
  | _ => rfl
theorem od_isNot : OpD X T E (compareOp .IsNot) (op2 isNotD) := opD_flat fun H R B v w d e r Q rv rw' h q => by
  unfold isNotD isD at h
  split at h
  · cases h
    cases rw'.non
    refine ⟨_, op_notN, rfl, ?_⟩
    rw [rv.isNon]
    exact q _ .bl
  · cases h
    cases rv.bl
    cases rw'.bl
    refine ⟨_, op_notBl, _, _, rfl, rfl, ?_⟩
    rw [show decide (_ = _) = (_ == _) from (Bool.beq_eq_decide_eq _ _).symm]
    exact q _ .bl
  · cases h
theorem ST_app (a b : List Nat) : ST a ++ ST b = ST (a ++ b) := by
  show Str.mk _ = Str.mk _
  simp [ST]
theorem od_sub : OpD X T E (binaryOp .Sub) (op2 subD) := opD_flat fun H R B v w d e r Q rv rw' h q => by
  unfold subD at h
  split at h
  · cases h; cases rv.int; cases rw'.int; exact ⟨_, op_sub, _, _, rfl, rfl, q _ .int⟩
  · cases h
theorem od_mod : OpD X T E (binaryOp .Mod) (op2 modD) := opD_flat fun H R B v w d e r Q rv rw' h q => by
  unfold modD at h
  split at h
  · split at h
    · rename_i c; cases h; cases rv.int; cases rw'.int; exact ⟨_, op_mod, _, _, rfl, rfl, c, q _ .int⟩
    · cases h
  · cases h
theorem od_fdiv : OpD X T E (binaryOp .FloorDiv) (op2 fdivD) := opD_flat fun H R B v w d e r Q rv rw' h q => by
  unfold fdivD at h
  split at h
  · split at h
    · rename_i c; cases h; cases rv.int; cases rw'.int; exact ⟨_, op_fdiv, _, _, rfl, rfl, c, q _ .int⟩
    · cases h
  · cases h
theorem od_pow : OpD X T E (binaryOp .Pow) (op2 powD) := opD_flat fun H R B v w d e r Q rv rw' h q => by
  unfold powD at h
  split at h
  · split at h
    · rename_i c; cases h; cases rv.int; cases rw'.int; exact ⟨_, op_pow, _, _, rfl, rfl, c, q _ .int⟩
    · cases h
  · cases h
theorem od_gt : OpD X T E (compareOp .Gt) (op2 gtD) := opD_flat fun H R B v w d e r Q rv rw' h q => by
  unfold gtD at h
  split at h
  · cases h; cases rv.int; cases rw'.int; exact ⟨_, op_gt, _, _, rfl, rfl, q _ .bl⟩
  · cases h
theorem od_ge : OpD X T E (compareOp .GtE) (op2 geD) := opD_flat fun H R B v w d e r Q rv rw' h q => by
  unfold geD at h
  split at h
  · cases h; cases rv.int; cases rw'.int; exact ⟨_, op_ge, _, _, rfl, rfl, q _ .bl⟩
  · cases h
theorem od_add : OpD X T E (binaryOp .Add) (op2 addD) := opD_of fun g H σ ρ z v w d e r Q st rv rw' h q => by
  unfold addD at h
  split at h
  · cases h; cases rv.int; cases rw'.int; exact ⟨_, op_add, _, _, rfl, rfl, q _ H st .refl (.atom .int .nil)⟩
  · split at h
    · rename_i c; cases h; cases rv.str; cases rw'.str
      refine ⟨_, op_add_str, _, _, rfl, rfl, by rw [ST_len, ST_len]; exact c, ?_⟩
      rw [ST_app]
      exact q _ H st .refl (.atom .str .nil)
    · cases h
  · split at h
    · rename_i c; cases h
      obtain ⟨a, us, rfl, ta, na, ra⟩ := rv.tupl
      obtain ⟨b, ws, rfl, tb, nb, rb⟩ := rw'.tupl
      have la := ra.length
      have lb := rb.length
      refine ⟨_, op_catF, a, b, us, ws, rfl, rfl, ta.sq, tb.sq, by rw [la, lb]; exact c, fun e => ?_, fun _ e => ?_, fun _ _ p ob hp hd => ?_⟩
      · subst e
        cases ra
        exact q _ H st .refl rw'
      · subst e
        cases rb
        rw [List.append_nil] at q
        exact q _ H st .refl rv
      · exact q _ _ (st.new hp) (.new hp) (st.tup hp hd (ra.append rb))
    · cases h
  · split at h
    · rename_i c; cases h
      obtain ⟨a, us, rfl, ta, na, ra⟩ := rv.list
      obtain ⟨b, ws, rfl, tb, nb, rb⟩ := rw'.list
      have la := ra.length
      have lb := rb.length
      exact ⟨_, op_cat, a, b, us, ws, rfl, rfl, ta, tb, by rw [la, lb]; exact c, fun p hp => q _ _ (st.new hp) (.new hp) (st.lst hp (ra.append rb))⟩
    · cases h
  · cases h
end
end DL
set_option Elab.async false
set_option linter.all false
set_option maxRecDepth 100000
set_option maxHeartbeats 1000000
namespace DL
open PySem PySem.Spec PyProof.Rows L2

def evs : List (EnD → M D) → EnD → M (List D)
  | [] => fun _ => mpure []
  | f :: fs => fun ρ => mbind (f ρ) fun d => mbind (evs fs ρ) fun ds => mpure (d :: ds)
def eTup (fs : List (EnD → M D)) : EnD → M D := fun ρ => mbind (evs fs ρ) fun ds => mpure (.tup ds)
def eLst (fs : List (EnD → M D)) : EnD → M D := fun ρ => mbind (evs fs ρ) fun ds => mpure (.lst ds)
def eCall (F : List D → M D) (fs : List (EnD → M D)) : EnD → M D := fun ρ => mbind (evs fs ρ) F
theorem evs_length {fs : List (EnD → M D)} : ∀ {ρ : EnD} {z z' : S} {ds : List D}, evs fs ρ z = .ok ds z' → ds.length = fs.length := by
  induction fs with
  | nil => intro ρ z z' ds h; simp [evs, mpure] at h; simp [h.1]
  | cons f fs ih =>
    intro ρ z z' ds h
    unfold evs mbind at h
    cases e : f ρ z with
    | ok d z1 =>
      rw [e] at h
      simp only at h
      cases e2 : evs fs ρ z1 with
      | ok es z2 =>
        simp only [mbind, e2, mpure, Res.ok.injEq] at h
        rw [← h.1, List.length_cons, List.length_cons, ih e2]
      | exc x z2 => simp [mbind, e2] at h
      | bad => simp [mbind, e2] at h
    | exc x z1 => rw [e] at h; simp at h
    | bad => rw [e] at h; simp at h

section
variable {X : Cx} {T : Tb} {E : XK} {e a b : Expr} {es : List Expr} {f fa fb : EnD → M D} {fs : List (EnD → M D)} {pos : Pos} {σ : L2.St} {H : Hp} {Q : VK}
theorem pu_nil : PA X [] (taD (yx X T E) (evs [])) := PA_imp pa_nil fun σ H Q h => by
  obtain ⟨g, ρ, z, st, a⟩ := h
  exact a.pure [] H st .refl .nil
theorem pu_cons (he : PE X e (tD (yx X T E) f)) (hs : PA X es (taD (yx X T E) (evs fs))) (hst : starEach (e :: es) X.env = (false, eval e X.env) :: starEach es X.env := by rfl) : PA X (e :: es) (taD (yx X T E) (evs (f :: fs))) :=
  PA_imp (pa_cons he hs hst) fun σ H Q h => by
    obtain ⟨g, ρ, z, st, a⟩ := h
    refine ⟨g, ρ, z, st, a.bind.imp fun d z1 _ h1 v H1 st1 e1 r1 => ⟨g, ρ, z1, st1, h1.bind.imp fun ds z2 _ h2 vs H2 st2 e2 r2 => ?_⟩⟩
    exact h2.pure (v :: vs) H2 st2 (e1.trans e2) (Rs.cons (r1.mono (e2.rd st1.badR)) r2)
/-- the arguments, then what follows -/
theorem ta_bind {k : List D → M D} (h : tD (yx X T E) (fun ρ => mbind (evs fs ρ) k) σ H Q) :
    taD (yx X T E) (evs fs) σ H fun vs H1 => vs.length = fs.length ∧ ∃ g ρ z ds, StR (yx X T E) g H1 σ ρ z ∧ Rs X.K H1 g.R (bad g σ ρ) vs ds ∧ After (yx X T E) g (k ds z) fun d z' => ∀ v H', StR (yx X T E) g H' σ ρ z' → Ext g.R H1 H' → R1 X.K H' g.R (bad g σ ρ) v d → Q v H' := by
  obtain ⟨g, ρ, z, st, a⟩ := h
  refine ⟨g, ρ, z, st, a.bind.imp fun ds z1 he h1 vs H1 st1 e1 r1 => ⟨by rw [r1.length]; exact evs_length he, g, ρ, z1, ds, st1, r1, h1.imp fun d z2 _ h2 v H2 st2 e2 r2 => h2 v H2 st2 (e1.trans e2) r2⟩⟩
theorem ta_mono {fs : EnD → M (List D)} {Q Q' : List V → Hp → Prop} (h : taD (yx X T E) fs σ H Q) (i : ∀ b H', Q b H' → Q' b H') : taD (yx X T E) fs σ H Q' := by
  obtain ⟨g, ρ, z, st, a⟩ := h
  exact ⟨g, ρ, z, st, a.imp fun b z1 _ h1 v H1 st1 e1 r1 => i _ _ (h1 v H1 st1 e1 r1)⟩
theorem small_len {n : Nat} (h : n ≤ 10000) : n ≤ sizeLine := by rw [sizeLine_eq]; omega
theorem pu_tup {x1} (h : PA X es (taD (yx X T E) (evs fs))) (hl : fs.length ≤ 10000 := by decide) : PE X (.Tuple es x1 pos) (tD (yx X T E) (eTup fs)) :=
  PE_imp (pe_tupF h) fun σ H Q h => ta_mono (ta_bind h) fun vs H1 ⟨hn, g, ρ, z, ds, st, r, a⟩ => ⟨by rw [hn]; exact small_len hl, fun p ob hp hd => a.pure _ _ (st.new hp) (.new hp) (st.tup hp hd r)⟩
theorem pu_lst (h : PA X es (taD (yx X T E) (evs fs))) (hl : fs.length ≤ 10000 := by decide) : PE X (.List es pos) (tD (yx X T E) (eLst fs)) :=
  PE_imp (pe_lst h) fun σ H Q h => ta_mono (ta_bind h) fun vs H1 ⟨hn, g, ρ, z, ds, st, r, a⟩ => ⟨by rw [hn]; exact small_len hl, fun p hp => a.pure _ _ (st.new hp) (.new hp) (st.lst hp r)⟩

/-- what a def promises, by its data -/
def spD (K : PySem.W.Frag) (T : Tb) (mg : Str → Option Value) (n : Nat) (F : List D → M D) : Sp := fun vs H Q E => vs.length = n ∧ ∃ g ds z, g.H0 = H ∧ Wo K T g H z ∧ Rs K H g.R g.B vs ds ∧
  After ⟨K, T, mg, E⟩ g (F ds z) fun d z' => ∀ v H', Wo K T g H' z' → Ext g.R H H' → R1 K H' g.R g.B v d → Q v H'
variable {CX : CXT} {k n : Nat} {fa' : Addr} {fd : FuncData} {ps : List Str} {F : List D → M D} {x : Str} {p : Pos}
/-- a call from amid a def -/
theorem spD_of {g : G} {ρ : EnD} {z : S} {vs : List V} {ds : List D} (hn : vs.length = n) (st : StR (yx X T E) g H σ ρ z) (r : Rs X.K H g.R (bad g σ ρ) vs ds)
    (a : After (yx X T E) g (F ds z) fun d z' => ∀ v H', StR (yx X T E) g H' σ ρ z' → Ext g.R H H' → R1 X.K H' g.R (bad g σ ρ) v d → Q v H') : spD X.K T X.mg n F vs H Q E := by
  refine ⟨hn, ⟨g.R, bad g σ ρ, H⟩, ds, z, rfl, st.wo.less (fun _ h => h) st.badR, r, ?_⟩
  cases e : F ds z with
  | ok d z' =>
    rw [e] at a
    exact fun v H' w ex r1 => a v H' (st.step ex (w.less (fun _ h => h) st.badR)) ex r1
  | exc x z' =>
    rw [e] at a
    intro H' C d w ex xr
    obtain ⟨c, h1, h2, h3⟩ := xr
    refine a H' C d (w.less (fun _ h => .inl h) st.gR) (st.ext.trans ex) ⟨c, h1, h2, ?_⟩
    cases hx : x.idx with
    | none => rw [hx] at h3; exact h3
    | some i =>
      rw [hx] at h3
      obtain ⟨dx, v, h4, h5, h6⟩ := h3
      exact ⟨dx, v, h4, h5, h6.less fun a h => .inl h⟩
  | bad => rw [e] at a; exact a
theorem pu_call (FN : FnOk X.prog X.w X.K X.mg X.base CX k fa' fd ps (spD X.K T X.mg n F)) (hr : Room k X.A) (hg : Gl X x) (hm : X.mg x = some (.ref fa')) (hk : PySem.W.keepIn X.K (.ref fa') = true) (hb : Binds X.K fd ps []) (hx : Passes CX X E)
    (ha : PA X (e :: es) (taD (yx X T E) (evs fs))) (hn : fs.length = n := by rfl) (hdb : (x == ("__debug__" : Str)) = false := by decide) (he : starEach (e :: es) X.env = (false, eval e X.env) :: starEach es X.env := by rfl) (hpl : (backTo pos (starEach es X.env)).any (·.1) = false := by rfl) :
    PE X (.Call (.Name x p) (e :: es) [] pos) (tD (yx X T E) (eCall F fs)) :=
  PE_imp (pe_call FN hr hg hm hk hb .nil hx ha hdb he hpl) fun σ H Q h => ta_mono (ta_bind h) fun vs H1 ⟨hl, g, ρ, z, ds, st, r, a⟩ => by
    rw [List.append_nil]
    exact spD_of (hl.trans hn) st r a
theorem pu_call0 (FN : FnOk X.prog X.w X.K X.mg X.base CX k fa' fd ps (spD X.K T X.mg 0 F)) (hr : Room k X.A) (hg : Gl X x) (hm : X.mg x = some (.ref fa')) (hk : PySem.W.keepIn X.K (.ref fa') = true) (hb : Binds X.K fd ps []) (hx : Passes CX X E)
    (hdb : (x == ("__debug__" : Str)) = false := by decide) : PE X (.Call (.Name x p) [] [] pos) (tD (yx X T E) (eCall F [])) :=
  PE_imp (pe_call0 FN hr hg hm hk hb .nil hx hdb) fun σ H Q h => by
    obtain ⟨g, ρ, z, st, a⟩ := h
    show spD X.K T X.mg 0 F ([] ++ []) H Q E
    exact spD_of (ds := []) rfl st .nil a.bind.pure

def rCall (X : Cx) (f : Value) : List V → Hp → VK → Prop := fun xs H Q => ∃ r, CallR X f r ∧ r xs H Q
theorem callCall {f : Value} : CallR X f (rCall X f) := fun pins s σ H xs us Q I r ⟨r', hc, q⟩ => hc pins s σ H xs us Q I r q
/-- a builtin's call, one argument -/
def CallD1 (X : Cx) (T : Tb) (E : XK) (f : Value) (F : D → M D) : Prop :=
  ∀ (g : G) (H : Hp) (σ : L2.St) (ρ : EnD) (z : S) (v : V) (d : D) (Q : VK), StR (yx X T E) g H σ ρ z → R1 X.K H g.R (bad g σ ρ) v d →
    After (yx X T E) g (F d z) (fun d' z' => ∀ v H', StR (yx X T E) g H' σ ρ z' → Ext g.R H H' → R1 X.K H' g.R (bad g σ ρ) v d' → Q v H') → rCall X f [v] H Q
theorem callD1_of {f : Value} {F : D → Option D}
    (h : ∀ (g : G) (H : Hp) (σ : L2.St) (ρ : EnD) (z : S) (v : V) (d r : D) (Q : VK), StR (yx X T E) g H σ ρ z → R1 X.K H g.R (bad g σ ρ) v d → F d = some r →
      (∀ u H', StR (yx X T E) g H' σ ρ z → Ext g.R H H' → R1 X.K H' g.R (bad g σ ρ) u r → Q u H') → rCall X f [v] H Q) : CallD1 X T E f (op1 F) := by
  intro g H σ ρ z v d Q st rv a
  obtain ⟨r, e1, q⟩ := a.opt
  exact h g H σ ρ z v d r Q st rv e1 q
end
end DL
set_option Elab.async false
set_option linter.all false
set_option maxRecDepth 100000
set_option maxHeartbeats 1000000
namespace DL
open PySem PySem.Spec PyProof.Rows L2

def lenD : D → Option D
  | .str z => if z.length ≤ sizeLine then some (.int z.length) else none
  | .tup xs => some (.int xs.length)
  | .wt xs => some (.int xs.length)
  | .lst xs => some (.int xs.length)
  | _ => none
def intD : D → Option D
  | .int i => some (.int i)
  | .bl b => some (.int (if b then 1 else 0))
  | _ => none
def tupD : D → Option D
  | .lst xs => some (.tup xs)
  | .tup xs => some (.tup xs)
  | _ => none
def listD : D → Option D
  | .lst xs => some (.lst xs)
  | .tup xs => some (.lst xs)
  | _ => none
def countS (z : List Nat) : D → Option D
  | .str [c] => some (.int (z.count c))
  | _ => none
/-- flat data, as they are compared -/
def flatD : D → Option V
  | .non => some .non
  | .bl b => some (.bl b)
  | .int i => some (.int i)
  | .str z => some (.str (ST z))
  | _ => none
def countT : D → D → Option D
  | .tup xs, d => (flatD d).bind fun v => (xs.mapM flatD).bind fun vs => some (.int (vs.countP fun w => eqV w v))
  | _, _ => none
def strsD : List D → Option (List (List Nat))
  | [] => some []
  | .str z :: r => (strsD r).map fun zs => z :: zs
  | _ => none
def joinL (sep : List Nat) : List (List Nat) → List Nat
  | [] => []
  | [z] => z
  | z :: r => z ++ sep ++ joinL sep r
def joinD (sep : List Nat) (d : D) : Option D := (items d).bind fun xs => (strsD xs).bind fun zs => if (zs.map List.length).sum + zs.length * sep.length ≤ 100000 then some (.str (joinL sep zs)) else none
def asS : D → Option (List Nat)
  | .str z => some z
  | _ => none
def eM1 (F : List Nat → D → Option D) (fo f : EnD → M D) : EnD → M D := fun ρ => mbind (fo ρ) fun d => mbind (mopt (asS d)) fun z => mbind (f ρ) fun e => mopt (F z e)
def ixD : D → D → Option D
  | .str z, .int i => if z.length ≤ sizeLine then (atI z i).map fun c => .str [c] else none
  | d, .int i => (items d).bind fun xs => atI xs i
  | _, _ => none
def cutL {α : Type} (xs : List α) (lo hi : Option Int) : List α := (xs.drop (HT.sIx xs.length 0 lo)).take (HT.sIx xs.length xs.length hi - HT.sIx xs.length 0 lo)
def slD : D → Option Int → Option Int → Option D
  | .str z, lo, hi => if z.length ≤ sizeLine then some (.str (cutL z lo hi)) else none
  | .tup xs, lo, hi => some (.tup (cutL xs lo hi))
  | .lst xs, lo, hi => some (.lst (cutL xs lo hi))
  | _, _, _ => none
/-- an end of a slice -/
def pNo : EnD → M (Option Int) := fun _ => mpure none
def asI : D → Option Int
  | .int i => some i
  | _ => none
def pSo (f : EnD → M D) : EnD → M (Option Int) := fun ρ => mbind (f ρ) fun d => mopt ((asI d).map some)
def eSl (f : EnD → M D) (lo hi : EnD → M (Option Int)) : EnD → M D := fun ρ => mbind (f ρ) fun d => mbind (lo ρ) fun l => mbind (hi ρ) fun h => mopt (slD d l h)

section
variable {X : Cx} {T : Tb} {E : XK} {e a b o : Expr} {es : List Expr} {f fa fb fo : EnD → M D} {pos p apos : Pos} {σ : L2.St} {H : Hp} {Q : VK} {x : Str}
theorem pu_callB {id : String} {F : D → M D} (hc : CallD1 X T E (.builtin id) F) (ha : PE X a (tD (yx X T E) fa)) (hg : Gl X x) (hm : X.mg x = none) (hv : bootBuiltins x = some (.builtin id)) (hn : x ≠ "__name__" := by decide) (hdb : (x == ("__debug__" : Str)) = false := by decide)
    (he : starEach [a] X.env = (false, eval a X.env) :: starEach [] X.env := by rfl) (hpl : (backTo pos (starEach [] X.env)).any (·.1) = false := by rfl) : PE X (.Call (.Name x p) [a] [] pos) (tD (yx X T E) (e1 F fa)) :=
  PE_imp (pe_callB callCall hg hm hv (pa_cons ha pa_nil he) hn hdb he hpl) fun σ H Q h => by
    obtain ⟨g, ρ, z, st, a⟩ := tD_bind (k := fun _ => F) h
    exact ⟨g, ρ, z, st, a.imp fun d z1 _ h1 v H1 st1 e1 r1 => by
      obtain ⟨g2, ρ2, z2, d2, st2, r2, a2⟩ := h1 v H1 st1 e1 r1
      exact hc g2 H1 σ ρ2 z2 v d2 Q st2 r2 a2⟩
theorem pu_callT {id : String} {F : D → M D} (hc : CallD1 X T E (.type id) F) (ha : PE X a (tD (yx X T E) fa)) (hg : Gl X x) (hm : X.mg x = none) (hv : bootBuiltins x = some (.type id)) (hn : x ≠ "__name__" := by decide) (hdb : (x == ("__debug__" : Str)) = false := by decide)
    (he : starEach [a] X.env = (false, eval a X.env) :: starEach [] X.env := by rfl) (hpl : (backTo pos (starEach [] X.env)).any (·.1) = false := by rfl) : PE X (.Call (.Name x p) [a] [] pos) (tD (yx X T E) (e1 F fa)) :=
  PE_imp (pe_callTy callCall hg hm hv (pa_cons ha pa_nil he) hn hdb he hpl) fun σ H Q h => by
    obtain ⟨g, ρ, z, st, a⟩ := tD_bind (k := fun _ => F) h
    exact ⟨g, ρ, z, st, a.imp fun d z1 _ h1 v H1 st1 e1 r1 => by
      obtain ⟨g2, ρ2, z2, d2, st2, r2, a2⟩ := h1 v H1 st1 e1 r1
      exact hc g2 H1 σ ρ2 z2 v d2 Q st2 r2 a2⟩
theorem cd_len : CallD1 X T E (.builtin "len") (op1 lenD) := callD1_of fun g H σ ρ z v d r Q st rv h q => by
  cases d <;> simp only [lenD, reduceCtorEq, Option.some.injEq, Option.ite_none_right_eq_some] at h
  case str zz =>
    obtain ⟨c, h⟩ := h
    subst h
    cases rv.str
    exact ⟨_, call_len, _, zz.length, rfl, ⟨by rw [ST_len]; exact c, by rw [ST_len]⟩, q _ H st .refl (.atom .int .nil)⟩
  case tup xs =>
    subst h
    obtain ⟨a, us, rfl, hq, rs⟩ := rv.items rfl
    refine ⟨_, call_len, _, us.length, rfl, ?_, ?_⟩
    · rcases hq with hq | hq
      · exact .inl ⟨us, hq, rfl⟩
      · exact .inr ⟨us, hq, rfl⟩
    · rw [rs.length]; exact q _ H st .refl (.atom .int .nil)
  case wt xs =>
    subst h
    obtain ⟨a, us, rfl, hq, rs⟩ := rv.items rfl
    refine ⟨_, call_len, _, us.length, rfl, ?_, ?_⟩
    · rcases hq with hq | hq
      · exact .inl ⟨us, hq, rfl⟩
      · exact .inr ⟨us, hq, rfl⟩
    · rw [rs.length]; exact q _ H st .refl (.atom .int .nil)
  case lst xs =>
    subst h
    obtain ⟨a, us, rfl, hq, rs⟩ := rv.items rfl
    refine ⟨_, call_len, _, us.length, rfl, ?_, ?_⟩
    · rcases hq with hq | hq
      · exact .inl ⟨us, hq, rfl⟩
      · exact .inr ⟨us, hq, rfl⟩
    · rw [rs.length]; exact q _ H st .refl (.atom .int .nil)
theorem cd_int : CallD1 X T E (.type "int") (op1 intD) := callD1_of fun g H σ ρ z v d r Q st rv h q => by
  cases d <;> simp only [intD, reduceCtorEq, Option.some.injEq] at h
  case bl i =>
    subst h
    cases rv.bl
    exact ⟨_, call_int1, .inr ⟨_, rfl, q _ H st .refl (.atom .int .nil)⟩⟩
  case int i =>
    subst h
    cases rv.int
    exact ⟨_, call_int1, .inl ⟨_, rfl, q _ H st .refl (.atom .int .nil)⟩⟩
theorem cd_tuple : CallD1 X T E (.type "tuple") (op1 tupD) := callD1_of fun g H σ ρ z v d r Q st rv h q => by
  cases d <;> simp only [tupD, reduceCtorEq, Option.some.injEq] at h
  case tup xs =>
    subst h
    obtain ⟨a, us, e, hq, n, rs⟩ := rv.tupl
    subst e
    exact ⟨_, call_tupleT, _, _, rfl, hq.sq, q _ H st .refl rv⟩
  case lst xs =>
    subst h
    obtain ⟨a, us, rfl, hq, n, rs⟩ := rv.list
    exact ⟨_, call_tupF, _, _, rfl, .inl (.inl hq), fun p ob hp hd => q _ _ (st.new hp) (.new hp) (st.tup hp hd rs)⟩
theorem cd_list : CallD1 X T E (.type "list") (op1 listD) := callD1_of fun g H σ ρ z v d r Q st rv h q => by
  cases d <;> simp only [listD, reduceCtorEq, Option.some.injEq] at h
  case tup xs =>
    subst h
    obtain ⟨a, us, rfl, hq, n, rs⟩ := rv.tupl
    exact ⟨_, call_list_of, _, _, rfl, .inr hq.sq, fun p hp => q _ _ (st.new hp) (.new hp) (st.lst hp rs)⟩
  case lst xs =>
    subst h
    obtain ⟨a, us, rfl, hq, n, rs⟩ := rv.list
    exact ⟨_, call_list_of, _, _, rfl, .inl (.inl (.inl hq)), fun p hp => q _ _ (st.new hp) (.new hp) (st.lst hp rs)⟩

open PySem.StrLaws Builtin Builtin.Str in
theorem occ_one (x : Str) (c : Nat) : ∀ (l : List Nat) (st : Array Nat × Nat) (lim : Nat), st.fst.size + l.length ≤ lim → (∀ i ∈ l, st.snd ≤ i) → l.Pairwise (· < ·) →
    (forIn l st (occBody x ⟨#[c]⟩ x.length lim)).run.fst.size = st.fst.size + l.countP fun i => decide (x.cps.toList[i]? = some c)
  | [], st, lim, _, _, _ => by simp
  | a :: l, st, lim, hl, hf, hp => by
    have hl' : st.fst.size + (l.length + 1) ≤ lim := hl
    rw [List.pairwise_cons] at hp
    rw [List.forIn_cons, List.countP_cons]
    unfold occBody
    by_cases hc : a + (⟨#[c]⟩ : Str).length ≤ x.length ∧ subAt x ⟨#[c]⟩ a = true
    · have c1 : (st.fst.size < lim ∧ st.snd ≤ a) ∧ a + (⟨#[c]⟩ : Str).length ≤ x.length := ⟨⟨by omega, hf a (List.mem_cons_self ..)⟩, hc.1⟩
      rw [if_pos ⟨c1, hc.2⟩, decide_eq_true ((subAt_one x c a).mp hc)]
      have ih := occ_one x c l (st.fst.push a, a + (⟨#[c]⟩ : Str).length) lim (by simp; omega) (fun i hi => by
        have := hp.1 i hi
        show a + 1 ≤ i
        omega) hp.2
      unfold occBody at ih
      refine Eq.trans ih ?_
      simp
      omega
    · have c2 : ¬ (((st.fst.size < lim ∧ st.snd ≤ a) ∧ a + (⟨#[c]⟩ : Str).length ≤ x.length) ∧ subAt x ⟨#[c]⟩ a = true) := fun h => hc ⟨h.1.2, h.2⟩
      rw [if_neg c2, decide_eq_false fun h => hc ((subAt_one x c a).mpr h)]
      have ih := occ_one x c l st lim (by omega) (fun i hi => hf i (List.mem_cons_of_mem _ hi)) hp.2
      unfold occBody at ih
      refine Eq.trans ih ?_
      simp
theorem countP_get (c : Nat) : ∀ (z : List Nat), (List.range' 0 (z.length + 1)).countP (fun i => decide (z[i]? = some c)) = z.count c
  | [] => by simp
  | a :: z => by
    have ih := countP_get c z
    have e : List.range' 0 ((a :: z).length + 1) = 0 :: (List.range' 0 (z.length + 1)).map (· + 1) := by
      rw [List.length_cons, List.range'_succ]
      congr 1
      apply List.ext_getElem
      · simp
      · intro i h1 h2
        simp
        omega
    rw [e, List.countP_cons, List.countP_map]
    have e2 : ((fun i => decide ((a :: z)[i]? = some c)) ∘ fun x => x + 1) = fun i => decide (z[i]? = some c) := by
      funext i; simp
    rw [e2, ih, List.count_cons]
    simp
theorem count_one (z : List Nat) (c : Nat) : Txt.count (ST z) (ST [c]) = (z.count c : Nat) := by
  unfold Txt.count
  rw [PySem.StrLaws.occ_eq]
  have h := occ_one (ST z) c (List.range' 0 ((ST z).length + 1 - 0)) (#[], 0) ((ST z).length + 1) (by simp) (fun i _ => Nat.zero_le _) List.pairwise_lt_range'
  have e : (⟨#[c]⟩ : Str) = ST [c] := rfl
  rw [e] at h
  rw [Array.length_toList, h, ST_toList, ST_len]
  simp only [Nat.sub_zero, List.size_toArray, List.length_nil, Nat.zero_add]
  rw [countP_get]
/-- a method of a text, one argument -/
def MtD (X : Cx) (T : Tb) (E : XK) (id : String) (F : List Nat → D → Option D) : Prop :=
  ∀ (g : G) (H : Hp) (σ : L2.St) (ρ : EnD) (s : S) (z : List Nat) (w : V) (e r : D) (Q : VK), StR (yx X T E) g H σ ρ s → R1 X.K H g.R (bad g σ ρ) w e → F z e = some r →
    (∀ u H', StR (yx X T E) g H' σ ρ s → Ext g.R H H' → R1 X.K H' g.R (bad g σ ρ) u r → Q u H') → ∃ t, MtR X id t ∧ t (.str (ST z)) [w] H Q
theorem pu_m1 {id : String} {name : Str} {F : List Nat → D → Option D} (hF : MtD X T E id F) (slot : Slot "str" name id) (ty : typeOf (.builtin id) = pure (.type "method_descriptor")) (ho : PE X o (tD (yx X T E) fo)) (he : PE X e (tD (yx X T E) f))
    (hs : starEach [e] X.env = [(false, eval e X.env)] := by rfl) (hbase : attributeBase o name X.env (eval o X.env) = eval o X.env := by rfl) (hline : (apos.endLine == pos.line) = true := by rfl) :
    PE X (.Call (.Attribute o name apos) [e] [] pos) (tD (yx X T E) (eM1 F fo f)) :=
  PE_imp (pe_m1 (r := fun x xs H Q => ∃ t, MtR X id t ∧ t x xs H Q) slot ty (fun pins s σ H x xs v us Q I rx rs ⟨t, hm, q⟩ => hm pins s σ H x xs v us Q I rx rs q) ho he hs hbase hline) fun σ H Q h => by
    obtain ⟨g, ρ, s, st, a⟩ := h
    refine ⟨g, ρ, s, st, a.bind.imp fun d z1 _ h1 v H1 st1 e1 r1 => ?_⟩
    obtain ⟨z, hz, h2⟩ := h1.bind.opt
    cases d <;> simp only [asS, reduceCtorEq, Option.some.injEq] at hz
    subst hz
    cases r1.str
    refine ⟨⟨_, rfl⟩, g, ρ, z1, st1, h2.bind.imp fun e z2 _ h3 w H2 st2 e2 r2 => ?_⟩
    obtain ⟨r, hr, q⟩ := h3.opt
    exact hF g H2 σ ρ z2 _ w e r Q st2 r2 hr fun u H' s' ex ru => q u H' s' (e1.trans (e2.trans ex)) ru
theorem md_count : MtD X T E "str.count" countS := fun g H σ ρ s z w e r Q st rw' h q => by
  unfold countS at h
  split at h
  · rename_i c
    cases h
    cases rw'.str
    refine ⟨_, mt_count, _, _, rfl, rfl, ?_⟩
    rw [count_one]
    exact q _ H st .refl (.atom .int .nil)
  · cases h
theorem strs_rs {K : PySem.W.Frag} {H : Hp} {R : Addr} {B : Addr → Prop} : ∀ {xs : List D} {us : List V} {zs : List (List Nat)}, Rs K H R B us xs → strsD xs = some zs → us = (zs.map ST).map V.str
  | [], us, zs, h, e => by
    cases h
    simp [strsD] at e
    subst e
    rfl
  | d :: xs, us, zs, h, e => by
    cases us with
    | nil => cases h
    | cons u us =>
      obtain ⟨h1, h2⟩ := h.split
      cases d <;> simp only [strsD, reduceCtorEq, Option.map_eq_some_iff] at e
      obtain ⟨ws, e1, rfl⟩ := e
      cases h1.str
      rw [strs_rs h2 e1]
      rfl
theorem join_ST (sep : List Nat) : ∀ zs : List (List Nat), Txt.join (ST sep) (zs.map ST) = ST (joinL sep zs) := fun zs => by
  rw [show Txt.join (ST sep) (zs.map ST) = Str.join (ST sep) (zs.map ST) from TL.join_eq _ _]
  induction zs with
  | nil => rfl
  | cons z r ih =>
    cases r with
    | nil => rfl
    | cons y r =>
      show ST z ++ ST sep ++ Str.join (ST sep) ((y :: r).map ST) = ST (z ++ sep ++ joinL sep (y :: r))
      rw [ih, ST_app, ST_app]
theorem md_join : MtD X T E "str.join" joinD := fun g H σ ρ s z w e r Q st rw' h q => by
  unfold joinD at h
  simp only [Option.bind_eq_some_iff, Option.ite_none_right_eq_some] at h
  obtain ⟨xs, h1, zs, h2, c, h3⟩ := h
  cases h3
  obtain ⟨a, us, rfl, hq, rs⟩ := rw'.items h1
  have eu := strs_rs rs h2
  subst eu
  refine ⟨_, mt_join, _, a, zs.map ST, rfl, rfl, hq, ?_, ?_⟩
  · have e1 : ((zs.map ST).map fun x => x.length) = zs.map List.length := by
      rw [List.map_map]
      exact List.map_congr_left fun z _ => ST_len z
    rw [e1, List.length_map, ST_len]
    omega
  · rw [join_ST]
    exact q _ H st .refl (.atom .str .nil)
end
end DL
set_option Elab.async false
set_option linter.all false
set_option maxRecDepth 100000
set_option maxHeartbeats 1000000
namespace DL
open PySem PySem.Spec PyProof.Rows L2

def getS (es : List (List Nat × D)) (k : List Nat) : Option D := (es.find? fun p => decide (p.1 = k)).map (·.2)
def putS (es : List (List Nat × D)) (k : List Nat) (d : D) : List (List Nat × D) :=
  if es.any (fun p => decide (p.1 = k)) = true then es.map (fun p => if p.1 = k then (p.1, d) else p) else es ++ [(k, d)]
inductive DSR (K : PySem.W.Frag) (H : Hp) (R : Addr) (B : Addr → Prop) : List (Key × V) → List (List Nat × D) → Prop
  | nil : DSR K H R B [] []
  | cons {k : List Nat} {v : V} {d : D} {kvs : List (Key × V)} {es : List (List Nat × D)} : R1 K H R B v d → DSR K H R B kvs es → DSR K H R B ((.inr (ST k), v) :: kvs) ((k, d) :: es)
section
variable {K : PySem.W.Frag} {H H' : Hp} {R : Addr} {B : Addr → Prop} {kvs : List (Key × V)} {es : List (List Nat × D)}
theorem DSR.out (h : DSR K H R B kvs es) : kvs.map (·.1) = es.map kS ∧ Rs K H R B (kvs.map (·.2)) (es.map (·.2)) := by
  induction h with
  | nil => exact ⟨rfl, .nil⟩
  | cons r _ ih => exact ⟨by rw [List.map_cons, List.map_cons, ih.1] <;> rfl, Rs.cons r ih.2⟩
theorem DSR.mk : ∀ {kvs : List (Key × V)} {es : List (List Nat × D)}, kvs.map (·.1) = es.map kS → Rs K H R B (kvs.map (·.2)) (es.map (·.2)) → DSR K H R B kvs es
  | [], [], _, _ => .nil
  | [], e :: es, h, _ => by cases h
  | p :: kvs, [], h, _ => by cases h
  | (k, v) :: kvs, (z, d) :: es, h, r => by
    simp only [List.map_cons, List.cons.injEq] at h
    obtain ⟨h1, h2⟩ := h
    simp only [kS] at h1
    subst h1
    exact .cons r.split.1 (DSR.mk h2 r.split.2)
theorem key_dec {a b : List Nat} : decide ((Sum.inr (ST a) : Key) = Sum.inr (ST b)) = decide (a = b) := by
  by_cases e : a = b
  · subst e; simp
  · have : ¬ (Sum.inr (ST a) : Key) = Sum.inr (ST b) := fun h => e (ST_inj (Sum.inr.inj h))
    rw [decide_eq_false this, decide_eq_false e]
theorem key_iff {a b : List Nat} : ((Sum.inr (ST a) : Key) = Sum.inr (ST b)) ↔ (a = b) := ⟨fun h => ST_inj (Sum.inr.inj h), fun h => by rw [h]⟩
theorem DSR.get (h : DSR K H R B kvs es) (k : List Nat) : (∀ d, getS es k = some d → ∃ v, valV kvs (Sum.inr (ST k) : Key) = some v ∧ R1 K H R B v d) ∧ (getS es k = none → valV kvs (Sum.inr (ST k) : Key) = none) := by
  induction h with
  | nil => exact ⟨fun d e => (by cases e), fun _ => rfl⟩
  | @cons k' v d kvs es r _ ih =>
    unfold getS valV at ih ⊢
    rw [List.find?_cons, List.find?_cons]
    simp only [key_dec]
    by_cases e : k' = k
    · simp only [decide_eq_true e]
      exact ⟨fun d e => by cases e; exact ⟨v, rfl, r⟩, fun e => by cases e⟩
    · simp only [decide_eq_false e]
      exact ih
theorem DSR.any (h : DSR K H R B kvs es) (k : List Nat) : (kvs.any fun kv => decide (kv.1 = (Sum.inr (ST k) : Key))) = es.any fun p => decide (p.1 = k) := by
  induction h with
  | nil => rfl
  | cons r _ ih => rw [List.any_cons, List.any_cons, ih, key_dec]
theorem DSR.append {kvs' : List (Key × V)} {es' : List (List Nat × D)} (h : DSR K H R B kvs es) (h' : DSR K H R B kvs' es') : DSR K H R B (kvs ++ kvs') (es ++ es') := by
  induction h with
  | nil => exact h'
  | cons r _ ih => exact .cons r ih
theorem DSR.over (h : DSR K H R B kvs es) {k : List Nat} {v : V} {d : D} (r : R1 K H R B v d) : DSR K H R B (kvs.map fun kv => if kv.1 = (Sum.inr (ST k) : Key) then (kv.1, v) else kv) (es.map fun p => if p.1 = k then (p.1, d) else p) := by
  induction h with
  | nil => exact .nil
  | @cons k' v' d' kvs es r' _ ih =>
    rw [List.map_cons, List.map_cons]
    by_cases e : k' = k
    · rw [if_pos (key_iff.mpr e), if_pos e]
      exact .cons r ih
    · rw [if_neg (fun z => e (key_iff.mp z)), if_neg e]
      exact .cons r' ih
theorem DSR.put (h : DSR K H R B kvs es) {k : List Nat} {v : V} {d : D} (r : R1 K H R B v d) : DSR K H R B (putK kvs (Sum.inr (ST k) : Key) v) (putS es k d) := by
  unfold putK putS
  rw [h.any k]
  split
  · exact h.over r
  · exact h.append (.cons r .nil)
theorem DSR.mono (h : DSR K H R B kvs es) (r : RdLe B H H') : DSR K H' R B kvs es := by
  obtain ⟨h1, h2⟩ := h.out
  exact .mk h1 (h2.mono r)
theorem DSR.length (h : DSR K H R B kvs es) : kvs.length = es.length := by
  induction h <;> simp_all
theorem R1.dictS {v : V} (h : R1 K H R B v (.dS es)) : ∃ a kvs, v = .ref a ∧ Rd H a (.dK kvs) ∧ ¬ B a ∧ DSR K H R B kvs es := by
  cases h with
  | atom a _ => cases a
  | dS s n e r _ => exact ⟨_, _, rfl, .inr ⟨_, s⟩, n, .mk e r⟩
theorem R1.dictF {v : V} (h : R1 K H R B v (.dS es)) : ∃ a o kvs, v = .ref a ∧ H a = some (.frz o (.dK kvs)) ∧ ¬ B a ∧ DSR K H R B kvs es := by
  cases h with
  | atom a _ => cases a
  | dS s n e r _ => exact ⟨_, _, _, rfl, s, n, .mk e r⟩
end

def ixA : D → D → Option D
  | .dS es, .str k => getS es k
  | d, i => ixD d i
section
variable {X : Cx} {T : Tb} {E : XK} {e a b o : Expr} {es : List Expr} {f fa fb fo : EnD → M D} {pos p apos : Pos} {σ : L2.St} {H : Hp} {Q : VK} {x : Str}
theorem ix_dict (hu : X.A.units + 1 < cLine) : IxR X (fun x y H Q => ∃ a v, x = .ref a ∧ DGet H a y (some v) ∧ Q v H) := by
  intro value slice pins s σ H x y v u Q I rx ry ⟨a, w, e, g, q⟩ hs
  subst e
  obtain rfl : v = Value.ref a := rx
  exact tail_any (dict_typeIs I g) PySem.F.slot_dict_getitem.lookup (d_getItem hu I g ry fun w' s3 I3 rw' => ⟨w, H, I3, rw', q⟩) hs
def rIxA (X : Cx) : R2 := fun x y H Q => ∃ r, IxR X r ∧ r x y H Q
theorem ixAll : IxR X (rIxA X) := fun value slice pins s σ H x y v u Q I rx ry ⟨r, h, q⟩ hs => h value slice pins s σ H x y v u Q I rx ry q hs
theorem atI_rs {K : PySem.W.Frag} {H : Hp} {R : Addr} {B : Addr → Prop} {us : List V} {xs : List D} {i : Int} {d : D} (r : Rs K H R B us xs) (h : atI xs i = some d) : ∃ v, atI us i = some v ∧ R1 K H R B v d := by
  unfold atI at h ⊢
  rw [r.length]
  cases e : ixN xs.length i with
  | none => rw [e] at h; cases h
  | some j =>
    rw [e] at h
    obtain ⟨v, h1, h2⟩ := r.get (show xs[j]? = some d from h)
    exact ⟨v, h1, h2⟩
theorem ixA_ok {k : Nat} (hr : Room k X.A) {g : G} {H : Hp} {σ : L2.St} {ρ : EnD} {z : S} {v w : V} {d e r : D} {Q : VK} (st : StR (yx X T E) g H σ ρ z) (rv : R1 X.K H g.R (bad g σ ρ) v d) (rw' : R1 X.K H g.R (bad g σ ρ) w e) (h : ixA d e = some r)
    (q : ∀ u, R1 X.K H g.R (bad g σ ρ) u r → Q u H) : rIxA X v w H Q := by
  have seq : ∀ {xs : List D} {i : Int}, items d = some xs → e = .int i → atI xs i = some r → rIxA X v w H Q := fun {xs i} h0 he h1 => by
    subst he
    cases rw'.int
    obtain ⟨a, us, rfl, hq, rs⟩ := rv.items h0
    obtain ⟨u, h2, h3⟩ := atI_rs rs h1
    rcases hq with hq | hq
    · exact ⟨_, ix_list, a, us, i, u, rfl, rfl, hq, h2, q u h3⟩
    · exact ⟨_, ix_tup, a, us, i, u, rfl, rfl, hq, h2, q u h3⟩
  unfold ixA at h
  split at h
  · rename_i es k
    cases rw'.str
    obtain ⟨a, kvs, rfl, hd, n, dr⟩ := rv.dictS
    obtain ⟨u, h1, h2⟩ := (dr.get k).1 r h
    exact ⟨_, ix_dict (by have := hr.un; omega), a, u, rfl, .inl ⟨kvs, Sum.inr (ST k), hd, rfl, h1.symm⟩, q u h2⟩
  · unfold ixD at h
    split at h
    · rename_i zz i _
      simp only [Option.ite_none_right_eq_some, Option.map_eq_some_iff] at h
      obtain ⟨c, cc, h1, rfl⟩ := h
      cases rv.str
      cases rw'.int
      exact ⟨_, ix_str, _, _, cc, rfl, rfl, by rw [ST_len]; exact c, by rw [ST_toList]; exact h1, q _ (.atom (.str (z := [cc])) .nil)⟩
    · rw [Option.bind_eq_some_iff] at h
      obtain ⟨xs, h0, h1⟩ := h
      exact seq h0 rfl h1
    · cases h
theorem pu_ix {k : Nat} (hr : Room k X.A) (ha : PE X a (tD (yx X T E) fa)) (hb : PE X b (tD (yx X T E) fb)) (hs : PlainIx b := by intro _ _; rfl) : PE X (.Subscript a b pos) (tD (yx X T E) (e2 (op2 ixA) fa fb)) :=
  PE_imp (pe_ix ixAll ha hb hs) fun σ H Q h => by
    obtain ⟨g, ρ, z, st, a⟩ := tD_bind2 h
    refine ⟨g, ρ, z, st, a.imp fun d z1 _ h1 v H1 st1 e1 r1 => ?_⟩
    obtain ⟨g2, ρ2, z2, st2, a2⟩ := h1 v H1 st1 e1 r1
    exact ⟨g2, ρ2, z2, st2, a2.imp fun e z3 _ h3 w H3 st3 e3 r3 => by
      obtain ⟨g4, ρ4, z4, d4, e4, st4, rv, rw', a4⟩ := h3 w H3 st3 e3 r3
      obtain ⟨r, hr', q⟩ := a4.opt
      exact ixA_ok hr st4 rv rw' hr' fun u ru => q u H3 st4 .refl ru⟩

def rSlA' (X : Cx) : V → Option Int → Option Int → Hp → VK → Prop := fun x lo hi H Q => ∃ r, SlR X r ∧ r x lo hi H Q
theorem slAll : SlR X (rSlA' X) := fun pins s σ H x v vl vu lo hi sl Q I rx hs pl pu ⟨r, h, q⟩ => h pins s σ H x v vl vu lo hi sl Q I rx hs pl pu q
def toD (Y : Yx) (f : EnD → M (Option Int)) : TO := fun σ H Q => ∃ g ρ z, StR Y g H σ ρ z ∧ After Y g (f ρ z) fun i z' => ∀ H', StR Y g H' σ ρ z' → Ext g.R H H' → Q i H'
theorem PO_imp {X : Cx} {e : Option Expr} {t t' : TO} (h : PO X e t) (i : ∀ σ H Q, t' σ H Q → t σ H Q) : PO X e t' := ⟨fun pins s σ H Q I q => h.run pins s σ H Q I (i σ H Q q)⟩
theorem puo_no : PO X none (toD (yx X T E) pNo) := PO_imp po_none fun σ H Q h => by
  obtain ⟨g, ρ, z, st, a⟩ := h
  exact a.pure H st .refl
theorem puo_so (ha : PE X a (tD (yx X T E) fa)) : PO X (some a) (toD (yx X T E) (pSo fa)) := PO_imp (po_some ha) fun σ H Q h => by
  obtain ⟨g, ρ, z, st, a⟩ := h
  refine ⟨g, ρ, z, st, a.bind.imp fun d z1 _ h1 v H1 st1 e1 r1 => ?_⟩
  obtain ⟨i, hi, q⟩ := h1.opt
  cases d <;> simp only [asI, Option.map_none, Option.map_some, reduceCtorEq, Option.some.injEq] at hi
  subst hi
  cases r1.int
  exact ⟨_, rfl, q H1 st1 e1⟩
theorem cut_rs {K : PySem.W.Frag} {H : Hp} {R : Addr} {B : Addr → Prop} {us : List V} {xs : List D} {lo hi : Option Int} (r : Rs K H R B us xs) : Rs K H R B (cutV us lo hi) (cutL xs lo hi) := by
  unfold cutV cutL
  rw [r.length]
  exact (r.drop _).take _
theorem cut_all {α : Type} {xs : List α} {lo hi : Option Int} (h : HT.sIx xs.length 0 lo = 0 ∧ HT.sIx xs.length xs.length hi = xs.length) : cutL xs lo hi = xs := by
  unfold cutL
  rw [h.1, h.2]
  simp
theorem pu_slice {lo hi : Option Expr} {pl ph : EnD → M (Option Int)} {p2 : Pos} (ha : PE X a (tD (yx X T E) fa)) (hl : PO X lo (toD (yx X T E) pl)) (hh : PO X hi (toD (yx X T E) ph)) : PE X (.Subscript a (.Slice lo hi none p2) pos) (tD (yx X T E) (eSl fa pl ph)) :=
  PE_imp (pe_slice slAll ha hl hh) fun σ H Q h => by
    obtain ⟨g, ρ, z, st, a⟩ := h
    refine ⟨g, ρ, z, st, a.bind.imp fun d z1 _ h1 v H1 st1 e1 rv => ⟨g, ρ, z1, st1, h1.bind.imp fun l z2 _ h2 H2 st2 e2 => ⟨g, ρ, z2, st2, h2.bind.imp fun u z3 _ h3 H3 st3 e3 => ?_⟩⟩⟩
    obtain ⟨r, hr, q⟩ := h3.opt
    have rv3 : R1 X.K H3 g.R (bad g σ ρ) v d := (rv.mono (e2.rd st1.badR)).mono (e3.rd st1.badR)
    have q' : ∀ w H', StR (yx X T E) g H' σ ρ z3 → Ext g.R H3 H' → R1 X.K H' g.R (bad g σ ρ) w r → Q w H' := fun w H' s' ex rw' => q w H' s' (e1.trans (e2.trans (e3.trans ex))) rw'
    clear q
    unfold slD at hr
    split at hr
    · rename_i zz _
      simp only [Option.ite_none_right_eq_some, Option.some.injEq] at hr
      obtain ⟨c, rfl⟩ := hr
      cases rv3.str
      refine ⟨_, sl_str, _, rfl, by rw [ST_len]; exact c, ?_⟩
      have e : cutS (ST zz) l u = ST (cutL zz l u) := by
        unfold cutS cutL
        rw [ST_len, ST_toList]
        rfl
      rw [e]
      exact q' _ H3 st3 .refl (.atom .str .nil)
    · rename_i xs _ _
      cases hr
      obtain ⟨a, us, e, hq, n, rs⟩ := rv3.tupl
      subst e
      refine ⟨_, sl_tupF, a, us, rfl, hq.sq, fun hw => ?_, fun _ p ob hp hd => ?_⟩
      · rw [rs.length] at hw
        rw [cut_all hw] at q'
        exact q' _ H3 st3 .refl rv3
      · exact q' _ _ (st3.new hp) (.new hp) (st3.tup hp hd (cut_rs rs))
    · rename_i xs _ _
      cases hr
      obtain ⟨a, us, e, hq, n, rs⟩ := rv3.list
      subst e
      exact ⟨_, sl_list, a, us, rfl, .inl (.inl hq), fun p hp => q' _ _ (st3.new hp) (.new hp) (st3.lst hp (cut_rs rs))⟩
    · cases hr

def asT : D → Option (List D)
  | .tup xs => some xs
  | _ => none
def eTCount (fo f : EnD → M D) : EnD → M D := fun ρ => mbind (fo ρ) fun d => mbind (mopt (asT d)) fun xs => mbind (f ρ) fun e => mopt (countT (.tup xs) e)
end
end DL
set_option Elab.async false
set_option linter.all false
set_option maxRecDepth 100000
set_option maxHeartbeats 1000000
namespace DL
open PySem PySem.Spec PyProof.Rows L2

def plus (K : PySem.W.Frag) (H1 : Hp) (B : Addr → Prop) : Addr → Prop := fun a => B a ∨ (H1 a = none ∧ K.lookup a = none)
section
variable {K : PySem.W.Frag} {H H' H1 : Hp} {R : Addr} {B B' : Addr → Prop} {v : V} {d : D} {vs : List V} {ds : List D}
theorem rd_some {a : Addr} {u : HO} (h : Rd H a u) : H a ≠ none := by
  rcases h with h | ⟨o, h⟩ <;> rw [h] <;> exact fun z => by cases z
theorem plus_not {a : Addr} (n : ¬ B a) (h : H a ≠ none ∨ K.lookup a ≠ none) : ¬ plus K H B a := fun p => by
  rcases p with p | ⟨p1, p2⟩
  · exact n p
  · rcases h with h | h
    · exact h p1
    · exact h p2
/-- what stands now keeps away from all that comes -/
theorem Rs.dom (h : Rs K H R B vs ds) : Rs K H R (plus K H B) vs ds := by
  induction h with
  | nil => exact .nil
  | atom a _ ih => exact .atom a ih
  | tup s n _ _ ih1 ih2 =>
    refine .tup s (plus_not n ?_) ih1 ih2
    rcases s with ⟨o, h, _⟩ | ⟨o, its, m, h, _⟩
    · exact .inl (by rw [h]; exact fun z => by cases z)
    · exact .inr (by rw [h]; exact fun z => by cases z)
  | wt s n _ _ ih1 ih2 =>
    refine .wt s (plus_not n ?_) ih1 ih2
    rcases s with h | ⟨o, its, m, h, _⟩
    · exact .inl (rd_some h)
    · exact .inr (by rw [h]; exact fun z => by cases z)
  | lst s n _ _ ih1 ih2 => exact .lst s (plus_not n (.inl (by rw [s]; exact fun z => by cases z))) ih1 ih2
  | dS s n e _ _ ih1 ih2 => exact .dS s (plus_not n (.inl (rd_some (.inr ⟨_, s⟩)))) e ih1 ih2
  | dT s n e _ _ _ ih1 ih2 ih3 => exact .dT s (plus_not n (.inl (rd_some (.inr ⟨_, s⟩)))) e ih1 ih2 ih3
  | st s n e _ _ ih1 ih2 => exact .st s (plus_not n (.inl (rd_some (.inr ⟨_, s⟩)))) e ih1 ih2
theorem RdLe.mono (hb : ∀ a, B a → B' a) (r : RdLe B H H') : RdLe B' H H' :=
  ⟨fun a u n => r.1 a u fun z => n (hb a z), fun a o us n => r.2.1 a o us fun z => n (hb a z), fun a us n => r.2.2 a us fun z => n (hb a z)⟩
theorem RdLe.trans {H2 : Hp} (a : RdLe B H H') (b : RdLe B H' H2) : RdLe B H H2 :=
  ⟨fun c u n d r => b.1 c u n d (a.1 c u n d r), fun c o us n r => b.2.1 c o us n (a.2.1 c o us n r), fun c us n r => b.2.2 c us n (a.2.2 c us n r)⟩
theorem RdLe.refl : RdLe B H H := ⟨fun _ _ _ _ r => r, fun _ _ _ _ r => r, fun _ _ _ r => r⟩
end

/-- an iterator hands out these data, whatever is made meanwhile -/
structure ItD (K : PySem.W.Frag) (R : Addr) (B : Addr → Prop) (H1 : Hp) (J : It) (xs : List D) : Prop where
  go : ∀ i H, RdLe B H1 H → i < xs.length → J.go i H
  yld : ∀ i H x H', RdLe B H1 H → i < xs.length → J.yld i H x H' → H' = H ∧ ∃ d, xs[i]? = some d ∧ R1 K H R (plus K H1 B) x d
  stop : ∀ i H, RdLe B H1 H → xs.length ≤ i → J.stop i H
def tiD (Y : Yx) (f : EnD → M (List D)) : TI := fun σ H R => ∃ g ρ z, StR Y g H σ ρ z ∧ After Y g (f ρ z) fun xs z' => ∀ J H1, StR Y g H1 σ ρ z' → Ext g.R H H1 → ItD Y.K g.R (bad g σ ρ) H1 J xs → R J H1
theorem PI_imp {X : Cx} {tg e : Expr} {t t' : TI} (h : PI X tg e t) (i : ∀ σ H Q, t' σ H Q → t σ H Q) : PI X tg e t' := ⟨fun pins s σ H Q I q => h.run pins s σ H Q I (i σ H Q q)⟩

def iterD : D → Option (List D)
  | .str z => some (z.map fun c => .str [c])
  | .dS es => some (es.map fun p => .str p.1)
  | d => items d
/-- over a list, a tuple, a text -/
def iS (f : EnD → M D) : EnD → M (List D) := fun ρ => mbind (f ρ) fun d => mopt (iterD d)
def rangeD (lo : Int) (n : Nat) : List D := (List.range n).map fun (i : Nat) => .int (lo + (i : Int))
def iR1 (f : EnD → M D) : EnD → M (List D) := fun ρ => mbind (f ρ) fun d => mbind (mopt (asI d)) fun j => if -(2 ^ 62) ≤ j ∧ j < 2 ^ 62 then mpure (rangeD 0 j.toNat) else mbad
def iR2 (f f' : EnD → M D) : EnD → M (List D) := fun ρ => mbind (f ρ) fun d => mbind (mopt (asI d)) fun i => mbind (f' ρ) fun d => mbind (mopt (asI d)) fun j =>
  if -(2 ^ 62) ≤ i ∧ i < 2 ^ 62 ∧ -(2 ^ 62) ≤ j ∧ j < 2 ^ 62 then mpure (rangeD i (j - i).toNat) else mbad

def wipeD (ρ : EnD) : List Nat → EnD
  | [] => ρ
  | v :: vs => (wipeD ρ vs).set v none
def ownAt (ρ : EnD) (i : Nat) : Bool := match ρ[i]? with
  | some (some (.own _)) => true
  | _ => false
/-- no exception may leave -/
def mne {α : Type} (m : M α) : M α := fun z => match m z with
  | .ok a z' => .ok a z'
  | _ => .bad
/-- [f for i in xs if t] -/
def compL (i : Nat) (t : EnD → M Bool) (f : EnD → M D) : List D → EnD → M (List D)
  | [], _ => mpure []
  | x :: xs, ρ => mbind (mne (t ((ρ.set i none).set i (some (.val x))))) fun b =>
    if b then mbind (mne (f ((ρ.set i none).set i (some (.val x))))) fun d => mbind (compL i t f xs ρ) fun ds => mpure (d :: ds)
    else compL i t f xs ρ
def tYesD : EnD → M Bool := fun _ => mpure true
def eLc (i : Nat) (xs : EnD → M (List D)) (t : EnD → M Bool) (f : EnD → M D) : EnD → M D := fun ρ => mbind (xs ρ) fun l =>
  if l.length ≤ sizeLine ∧ ownAt ρ i = false then mbind (compL i t f l ρ) fun ds => mpure (.lst ds) else mbad

section
variable {X : Cx} {T : Tb} {E : XK} {e a b o l : Expr} {es : List Expr} {f fa fb fo : EnD → M D} {pos p apos : Pos} {σ : L2.St} {H : Hp} {Q : VK} {x : Str} {tg : Expr}
theorem itd_list {K : PySem.W.Frag} {R a : Addr} {B : Addr → Prop} {H1 : Hp} {us : List V} {xs : List D} (h : H1 a = some (.lst us)) (n : ¬ B a) (r : Rs K H1 R B us xs) : ItD K R B H1 (Itl K a) xs where
  go := fun i H rd hi => by
    have h2 := rd.2.2 a us n h
    have hl := r.length
    obtain ⟨v, h3, _⟩ := r.get (List.getElem?_eq_getElem hi)
    exact ⟨us, v, .inl (.inl h2), h3⟩
  yld := fun i H x H' rd hi hy => by
    have h2 := rd.2.2 a us n h
    obtain ⟨rfl, hx⟩ := hy
    have h3 := hx us (.inl (.inl h2))
    obtain ⟨d, h4, h5⟩ := r.dom.getV h3
    exact ⟨rfl, d, h4, h5.mono (rd.mono fun a z => .inl z)⟩
  stop := fun i H rd hi => ⟨us, .inl (.inl (rd.2.2 a us n h)), by rw [r.length]; exact hi⟩
theorem itd_tup {K : PySem.W.Frag} {R a : Addr} {B : Addr → Prop} {H1 : Hp} {us : List V} {xs : List D} (h : SqT K H1 a us) (n : ¬ B a) (r : Rs K H1 R B us xs) : ItD K R B H1 (Itt K a) xs where
  go := fun i H rd hi => by
    have h2 := rd.sqT n h
    obtain ⟨v, h3, _⟩ := r.get (List.getElem?_eq_getElem hi)
    exact ⟨us, v, h2, h3⟩
  yld := fun i H x H' rd hi hy => by
    obtain ⟨rfl, hx⟩ := hy
    have h3 := hx us (rd.sqT n h)
    obtain ⟨d, h4, h5⟩ := r.dom.getV h3
    exact ⟨rfl, d, h4, h5.mono (rd.mono fun a z => .inl z)⟩
  stop := fun i H rd hi => ⟨us, rd.sqT n h, by rw [r.length]; exact hi⟩
theorem itd_str {K : PySem.W.Frag} {R : Addr} {B : Addr → Prop} {H1 : Hp} {z : List Nat} : ItD K R B H1 (Its (ST z)) (z.map fun c => .str [c]) where
  go := fun i H rd hi => by
    show i < (ST z).cps.size
    rw [List.length_map] at hi
    simpa [ST] using hi
  yld := fun i H x H' rd hi hy => by
    obtain ⟨rfl, c, hc, rfl⟩ := hy
    refine ⟨rfl, .str [c], ?_, .atom (.str (z := [c])) .nil⟩
    have : z[i]? = some c := by simpa [ST] using hc
    rw [List.getElem?_map, this] <;> rfl
  stop := fun i H rd hi => by
    show (ST z).cps.size ≤ i
    rw [List.length_map] at hi
    simpa [ST] using hi
theorem itd_range {K : PySem.W.Frag} {R : Addr} {B : Addr → Prop} {H1 : Hp} {lo : Int} {n : Nat} : ItD K R B H1 (Itr lo n) (rangeD lo n) where
  go := fun i H rd hi => by
    show i < n
    simpa [rangeD] using hi
  yld := fun i H x H' rd hi hy => by
    obtain ⟨rfl, rfl⟩ := hy
    refine ⟨rfl, .int (lo + (i : Int)), ?_, .atom .int .nil⟩
    have : i < n := by simpa [rangeD] using hi
    simp [rangeD, this]
  stop := fun i H rd hi => by
    show n ≤ i
    simpa [rangeD] using hi
theorem itd_keys {K : PySem.W.Frag} {R a : Addr} {B : Addr → Prop} {H1 : Hp} {o : Obj} {kvs : List (Key × V)} {es : List (List Nat × D)} (h : H1 a = some (.frz o (.dK kvs))) (n : ¬ B a) (r : DSR K H1 R B kvs es) : ItD K R B H1 (Itk a o kvs) (es.map fun p => .str p.1) where
  go := fun i H rd hi => ⟨rd.2.1 a o _ n h, by rw [List.length_map] at hi; rw [r.length]; exact hi⟩
  yld := fun i H x H' rd hi hy => by
    obtain ⟨rfl, k, v, hk, rfl⟩ := hy
    have h1 := congrArg (fun l => l[i]?) r.out.1
    simp only [List.getElem?_map, hk, Option.map_some] at h1
    rw [List.length_map] at hi
    rw [List.getElem?_eq_getElem hi, Option.map_some] at h1
    have h2 : k = kS es[i] := Option.some.inj h1
    subst h2
    refine ⟨rfl, .str es[i].1, ?_, .atom .str .nil⟩
    rw [List.getElem?_map, List.getElem?_eq_getElem hi]
    rfl
  stop := fun i H rd hi => ⟨rd.2.1 a o _ n h, by rw [List.length_map] at hi; rw [r.length]; exact hi⟩
def iAny (K : PySem.W.Frag) (tl : TE) : TI := fun σ H R => tl σ H fun x H1 => (∃ a o kvs, x = .ref a ∧ H1 a = some (.frz o (.dK kvs)) ∧ R (Itk a o kvs) H1) ∨ (∃ a, x = .ref a ∧ (∃ xs, SqL K H1 a xs) ∧ R (Itl K a) H1) ∨ (∃ a, x = .ref a ∧ (∃ xs, SqT K H1 a xs) ∧ R (Itt K a) H1) ∨ ∃ z, x = .str z ∧ R (Its z) H1
theorem pi_any {l : Expr} {tl : TE} (hl : PE X l tl) : PI X tg l (iAny X.K tl) := by
  refine ⟨fun pins s σ H R I h => ?_⟩
  refine thn (hl.run pins s σ H _ I h) fun v s1 ⟨x, H1, I1, r1, q1⟩ => ?_
  have fr : H1 s1.heap.objs.size = none := I1.hok.fresh (Nat.le_refl _)
  rcases q1 with ⟨a, o, kvs, e, hd, q⟩ | ⟨a, e, ⟨xs, hq⟩, q⟩ | ⟨a, e, ⟨xs, hq⟩, q⟩ | ⟨z, e, q⟩
  · subst e
    obtain rfl : v = Value.ref a := r1
    obtain ⟨hs, hgd, hx, es, ep, vs, hdt, hsz, kv, hm⟩ := I1.frzK hd
    refine iter_keys hs hgd hx hdt (pi_one (tk := s1.toks) I1 _ (turn_keys _ hdt) ⟨_, Heap.get?_push_size _ rfl, rfl, ?_⟩ q)
    rw [hsz] <;> rfl
  · subst e
    obtain rfl : v = Value.ref a := r1
    obtain ⟨its, rv, p, hz⟩ := I1.list hq
    refine wpAny_pyIter_list p.isList ⟨s1.heap.objs.size, [s1.heap.objs.size], _, _, H1, rfl, I1.kept (t' := s1.toks) fun b o e => Heap.get?_push_of_some _ e, turn_list a _, ⟨_, Heap.get?_push_size _ rfl, rfl, rfl⟩, fun b hb => ?_, q⟩
    obtain rfl : b = s1.heap.objs.size := by simpa using hb
    exact I1.fpOk (Nat.le_refl _) fr
  · subst e
    obtain rfl : v = Value.ref a := r1
    obtain ⟨its, rv, p, hz⟩ := I1.tuple hq
    refine wpAny_pyIter_tuple (show s1.heap.IsTuple a its.toArray from p) ⟨s1.heap.objs.size, [s1.heap.objs.size], _, _, H1, rfl, I1.kept (t' := s1.toks) fun b o e => Heap.get?_push_of_some _ e, turn_tuple a _, ⟨_, Heap.get?_push_size _ rfl, rfl, rfl⟩, fun b hb => ?_, q⟩
    obtain rfl : b = s1.heap.objs.size := by simpa using hb
    exact I1.fpOk (Nat.le_refl _) fr
  · subst e
    obtain ⟨t, rfl⟩ := (show ∃ t, v = Value.str z t from r1)
    cases ha : z.cps.all (· < 128)
    · exact wpAny_pyIter_wide ha (pi_one (tk := s1.toks) I1 _ (turn_str _ z t "str_iterator" (.inr rfl)) ⟨_, Heap.get?_push_size _ rfl, rfl, rfl⟩ q)
    · exact wpAny_pyIter_ascii ha (pi_one (tk := s1.toks) I1 _ (turn_str _ z t "str_ascii_iterator" (.inl rfl)) ⟨_, Heap.get?_push_size _ rfl, rfl, rfl⟩ q)
theorem pu_iS (ha : PE X a (tD (yx X T E) fa)) : PI X tg a (tiD (yx X T E) (iS fa)) := PI_imp (pi_any ha) fun σ H R h => by
  obtain ⟨g, ρ, z, st, h⟩ := h
  refine ⟨g, ρ, z, st, h.bind.imp fun d z1 _ h1 v H1 st1 e1 r1 => ?_⟩
  obtain ⟨xs, hx, q⟩ := h1.opt
  unfold iterD at hx
  split at hx
  · cases hx
    cases r1.str
    exact .inr (.inr (.inr ⟨_, rfl, q _ H1 st1 e1 itd_str⟩))
  · cases hx
    obtain ⟨a, o, kvs, rfl, hd, nb, dsr⟩ := r1.dictF
    exact .inl ⟨a, o, kvs, rfl, hd, q _ H1 st1 e1 (itd_keys hd nb dsr)⟩
  · refine .inr ?_
    cases d <;> simp only [items, reduceCtorEq, Option.some.injEq] at hx
    case tup =>
      subst hx
      obtain ⟨a, us, rfl, hq, n, rs⟩ := r1.tupl
      exact .inr (.inl ⟨a, rfl, ⟨us, hq.sq⟩, q _ H1 st1 e1 (itd_tup hq.sq n rs)⟩)
    case wt =>
      subst hx
      cases r1 with
      | atom a _ => cases a
      | wt s n r _ => exact .inr (.inl ⟨_, rfl, ⟨_, s⟩, q _ H1 st1 e1 (itd_tup s n r)⟩)
    case lst =>
      subst hx
      obtain ⟨a, us, rfl, hq, n, rs⟩ := r1.list
      exact .inl ⟨a, rfl, ⟨us, .inl (.inl hq)⟩, q _ H1 st1 e1 (itd_list hq n rs)⟩
theorem pu_iR1 (hg : Gl X "range") (hm : X.mg "range" = none) (ha : PE X a (tD (yx X T E) fa)) (hs : starEach [a] X.env = [(false, eval a X.env)] := by rfl) : PI X tg (.Call (.Name "range" p) [a] [] pos) (tiD (yx X T E) (iR1 fa)) :=
  PI_imp (pi_range1 hg hm (pa_cons ha pa_nil hs) hs) fun σ H R h => by
    obtain ⟨g, ρ, z, st, h⟩ := h
    refine ⟨g, ρ, z, st, h.bind.imp fun d z1 _ h1 v H1 st1 e1 r1 => ?_⟩
    obtain ⟨i, hi, q⟩ := h1.bind.opt
    obtain rfl : d = .int i := by cases d <;> simp_all [asI]
    cases r1.int
    by_cases c : -(2 ^ 62) ≤ i ∧ i < 2 ^ 62
    · rw [if_pos c] at q
      exact ⟨i, rfl, c.1, c.2, q.pure _ H1 st1 e1 itd_range⟩
    · rw [if_neg c] at q
      exact q.elim
theorem pu_iR2 (hg : Gl X "range") (hm : X.mg "range" = none) (ha : PE X a (tD (yx X T E) fa)) (hb : PE X b (tD (yx X T E) fb)) (hs : starEach [a, b] X.env = [(false, eval a X.env), (false, eval b X.env)] := by rfl) (hs2 : starEach [b] X.env = [(false, eval b X.env)] := by rfl) :
    PI X tg (.Call (.Name "range" p) [a, b] [] pos) (tiD (yx X T E) (iR2 fa fb)) :=
  PI_imp (pi_range2 hg hm (pa_cons ha (pa_cons hb pa_nil hs2) (by rw [hs, hs2])) hs hs2) fun σ H R h => by
    obtain ⟨g, ρ, z, st, h⟩ := h
    refine ⟨g, ρ, z, st, h.bind.imp fun d z1 _ h1 v H1 st1 e1 r1 => ?_⟩
    obtain ⟨i, hi, q⟩ := h1.bind.opt
    obtain rfl : d = .int i := by cases d <;> simp_all [asI]
    cases r1.int
    refine ⟨g, ρ, z1, st1, q.bind.imp fun d2 z2 _ h2 w H2 st2 e2 r2 => ?_⟩
    obtain ⟨j, hj, q⟩ := h2.bind.opt
    obtain rfl : d2 = .int j := by cases d2 <;> simp_all [asI]
    cases r2.int
    by_cases c : -(2 ^ 62) ≤ i ∧ i < 2 ^ 62 ∧ -(2 ^ 62) ≤ j ∧ j < 2 ^ 62
    · rw [if_pos c] at q
      exact ⟨i, j, rfl, c, q.pure _ H2 st2 (e1.trans e2) itd_range⟩
    · rw [if_neg c] at q
      exact q.elim

def KN (K : PySem.W.Frag) (H : Hp) : Prop := ∀ a, H a ≠ none → K.lookup a = none
theorem kn_of {X : Cx} {pins : List (Addr × Obj)} {σ : L2.St} {H : Hp} {s : Shared} (I : Inv X pins σ H s) : KN X.K H := fun a h => by
  cases e : X.K.lookup a with
  | none => rfl
  | some o => exact absurd (I.bs a o (I.ok.mod.kin a o e)).2 h
theorem PE_kn {X : Cx} {e : Expr} {t : TE} (h : PE X e t) : PE X e fun σ H Q => KN X.K H → t σ H Q := ⟨fun pins s σ H Q I q => h.run pins s σ H Q I (q (kn_of I))⟩
theorem PTs_kn {X : Cx} {e : List Expr} {t : TT} (h : PTs X e t) : PTs X e fun σ H Q => KN X.K H → t σ H Q := ⟨fun pins s σ H Q I q => h.run pins s σ H Q I (q (kn_of I))⟩
theorem pts_no : PTs X [] (ttD (yx X T E) tYesD) := ⟨fun pins s σ H Q I h => pts_nil.run pins s σ H Q I (by
  obtain ⟨g, ρ, z, st, a⟩ := h
  exact a.pure H st .refl)⟩
theorem pts_yes {c : Expr} {t : EnD → M Bool} (h : PT X c (ttD (yx X T E) t)) : PTs X [c] (ttD (yx X T E) t) := pts_one h
theorem After.ne {α : Type} {Y Y' : Yx} {g g' : G} {m : M α} {z : S} {P : α → S → Prop} (h : After Y g (mne m z) P) : After Y' g' (m z) P := by
  unfold mne at h
  cases e : m z with
  | ok a z' => rw [e] at h; exact h
  | exc x z' => rw [e] at h; exact h.elim
  | bad => rw [e] at h; exact h.elim
end
end DL
set_option Elab.async false
set_option linter.all false
set_option maxRecDepth 100000
set_option maxHeartbeats 1000000
namespace DL
open PySem PySem.Spec PyProof.Rows L2

def notOwn : Option Sl → Prop
  | some (.own _) => False
  | _ => True
section
variable {Y : Yx} {g : G} {H H' H1 : Hp} {σ : L2.St} {ρ : EnD} {z z' : S} {i : Nat} {v : V} {d : D}
theorem ownAt_not (h : ownAt ρ i = false) (d : D) : ρ[i]? ≠ some (some (.own d)) := fun e => by
  unfold ownAt at h
  rw [e] at h
  cases h
theorem own_set (h : ownAt ρ i = false) (x : Option V) (y : Option Sl) (hy : notOwn y) : Own (σ.set i x) (ρ.set i y) = Own σ ρ := by
  funext a
  apply propext
  constructor
  · rintro ⟨j, d, h1, h2⟩
    by_cases e : i = j
    · subst e
      exfalso
      rw [List.getElem?_set] at h1
      simp only [if_true] at h1
      split at h1
      · cases h1; exact hy
      · cases h1
    · rw [List.getElem?_set_ne e] at h1 h2
      exact ⟨j, d, h1, h2⟩
  · rintro ⟨j, d, h1, h2⟩
    by_cases e : i = j
    · subst e
      exact absurd h1 (ownAt_not h d)
    · exact ⟨j, d, by rw [List.getElem?_set_ne e]; exact h1, by rw [List.getElem?_set_ne e]; exact h2⟩
theorem bad_set (h : ownAt ρ i = false) (x : Option V) (y : Option Sl) (hy : notOwn y) : bad g (σ.set i x) (ρ.set i y) = bad g σ ρ := by
  funext a
  unfold bad
  rw [own_set h x y hy]
theorem bad_setv (h : ownAt ρ i = false) : bad g (σ.set i (some v)) (ρ.set i (some (.val d))) = bad g σ ρ := bad_set h _ _ trivial
theorem bad_setn (h : ownAt ρ i = false) : bad g (σ.set i none) (ρ.set i none) = bad g σ ρ := bad_set h _ _ trivial
theorem set_some {α : Type} {l : List (Option α)} {i j : Nat} {x : Option α} {y : α} (h : (l.set i x)[j]? = some (some y)) : (i = j ∧ x = some y ∧ i < l.length) ∨ (i ≠ j ∧ l[j]? = some (some y)) := by
  by_cases e : i = j
  · subst e
    rw [List.getElem?_set] at h
    simp only [if_true] at h
    split at h
    · rename_i hl
      exact .inl ⟨rfl, Option.some.inj h, hl⟩
    · cases h
  · rw [List.getElem?_set_ne e] at h
    exact .inr ⟨e, h⟩
theorem StR.setv (st : StR Y g H σ ρ z) (h : ownAt ρ i = false) (r : R1 Y.K H g.R (bad g σ ρ) v d) : StR Y g H (σ.set i (some v)) (ρ.set i (some (.val d))) z where
  wo := by unfold gb; rw [bad_setv h]; exact st.wo
  gR := st.gR
  len := by rw [List.length_set, List.length_set]; exact st.len
  val := fun j e hj => by
    rw [bad_setv h]
    rcases set_some hj with ⟨rfl, e1, hl⟩ | ⟨ne, hj⟩
    · cases e1
      exact ⟨v, by rw [List.getElem?_set_self (by rw [st.len]; exact hl)], r⟩
    · obtain ⟨w, h1, h2⟩ := st.val j e hj
      exact ⟨w, by rw [List.getElem?_set_ne ne]; exact h1, h2⟩
  own := fun j e hj => by
    rw [bad_setv h]
    rcases set_some hj with ⟨rfl, e1, hl⟩ | ⟨ne, hj⟩
    · cases e1
    · obtain ⟨a, h1, h2⟩ := st.own j e hj
      exact ⟨a, by rw [List.getElem?_set_ne ne]; exact h1, h2⟩
  inj := fun j k e e' a hj hk h1 h2 => by
    rcases set_some hj with ⟨rfl, e1, hl⟩ | ⟨ne, hj⟩
    · cases e1
    · rcases set_some hk with ⟨rfl, e1, hl⟩ | ⟨ne', hk⟩
      · cases e1
      · rw [List.getElem?_set_ne ne] at h1
        rw [List.getElem?_set_ne ne'] at h2
        exact st.inj j k e e' a hj hk h1 h2
  ext := st.ext
theorem StR.setn (st : StR Y g H σ ρ z) (h : ownAt ρ i = false) : StR Y g H (σ.set i none) (ρ.set i none) z where
  wo := by unfold gb; rw [bad_setn h]; exact st.wo
  gR := st.gR
  len := by rw [List.length_set, List.length_set]; exact st.len
  val := fun j e hj => by
    rw [bad_setn h]
    rcases set_some hj with ⟨rfl, e1, hl⟩ | ⟨ne, hj⟩
    · cases e1
    · obtain ⟨w, h1, h2⟩ := st.val j e hj
      exact ⟨w, by rw [List.getElem?_set_ne ne]; exact h1, h2⟩
  own := fun j e hj => by
    rw [bad_setn h]
    rcases set_some hj with ⟨rfl, e1, hl⟩ | ⟨ne, hj⟩
    · cases e1
    · obtain ⟨a, h1, h2⟩ := st.own j e hj
      exact ⟨a, by rw [List.getElem?_set_ne ne]; exact h1, h2⟩
  inj := fun j k e e' a hj hk h1 h2 => by
    rcases set_some hj with ⟨rfl, e1, hl⟩ | ⟨ne, hj⟩
    · cases e1
    · rcases set_some hk with ⟨rfl, e1, hl⟩ | ⟨ne', hk⟩
      · cases e1
      · rw [List.getElem?_set_ne ne] at h1
        rw [List.getElem?_set_ne ne'] at h2
        exact st.inj j k e e' a hj hk h1 h2
  ext := st.ext
theorem ownAt_set (h : ownAt ρ i = false) {y : Option Sl} (hy : notOwn y) (j : Nat) : ownAt (ρ.set i y) j = ownAt ρ j := by
  by_cases e : i = j
  · subst e
    by_cases hl : i < ρ.length
    · rw [h]
      unfold ownAt
      rw [List.getElem?_set_self hl]
      cases y with
      | none => rfl
      | some s => cases s with
        | val d => rfl
        | own d => exact hy.elim
    · rw [List.set_eq_of_length_le (by omega)]
  · unfold ownAt
    rw [List.getElem?_set_ne e]

/-- a new thing at Dd, kept away from -/
abbrev gd (g : G) (Dd : Addr) : G := ⟨g.R, fun a => g.B a ∨ a = Dd, g.H0⟩
theorem bad_gd (Dd : Addr) : bad (gd g Dd) σ ρ = fun a => bad g σ ρ a ∨ a = Dd := by
  funext a
  apply propext
  constructor
  · rintro ((h | h) | h)
    · exact .inl (.inl h)
    · exact .inr h
    · exact .inl (.inr h)
  · rintro ((h | h) | h)
    · exact .inl (.inl h)
    · exact .inr h
    · exact .inl (.inr h)
theorem bad_le {Dd a : Addr} (h : bad g σ ρ a) : bad (gd g Dd) σ ρ a := by rw [bad_gd]; exact .inl h
theorem OwnAt.less {K : PySem.W.Frag} {R a : Addr} {B B' : Addr → Prop} {d : D} (hb : ∀ a, B' a → B a) (h : OwnAt K H R B a d) : OwnAt K H R B' a d := by
  cases d <;> first
    | exact h.elim
    | (obtain ⟨x, e, q⟩ := h; exact ⟨x, e, q.less hb⟩)
    | (obtain ⟨x, e, e2, q⟩ := h; exact ⟨x, e, e2, q.less hb⟩)
theorem OwnAt.dom {K : PySem.W.Frag} {R a : Addr} {B : Addr → Prop} {d : D} (h : OwnAt K H R B a d) : OwnAt K H R (plus K H B) a d := by
  cases d <;> first
    | exact h.elim
    | (obtain ⟨x, e, q⟩ := h; exact ⟨x, e, q.dom⟩)
    | (obtain ⟨x, e, e2, q⟩ := h; exact ⟨x, e, e2, q.dom⟩)
theorem StR.guard {Dd : Addr} (st : StR Y g H1 σ ρ z) (hD : H1 Dd = none) (hK : Y.K.lookup Dd = none) (ex : Ext g.R H1 H) (w : Wo Y.K Y.T (gb (gd g Dd) σ ρ) H z') : StR Y (gd g Dd) H σ ρ z' := by
  have sub : ∀ a, bad (gd g Dd) σ ρ a → plus Y.K H1 (bad g σ ρ) a := fun a h => by
    rw [bad_gd] at h
    rcases h with h | rfl
    · exact .inl h
    · exact .inr ⟨hD, hK⟩
  have rd : RdLe (plus Y.K H1 (bad g σ ρ)) H1 H := (ex.rd st.badR).mono fun a h => .inl h
  refine ⟨w, .inl st.gR, st.len, fun i d h => ?_, fun i d h => ?_, st.inj, st.ext.trans ex⟩
  · obtain ⟨v, h1, h2⟩ := st.val i d h
    exact ⟨v, h1, (Rs.mono rd h2.dom).less sub⟩
  · obtain ⟨a, h1, h2, h3, h4, h5⟩ := st.own i d h
    have nD : a ≠ Dd := fun e => by
      obtain ⟨o, ho, _⟩ := h5.there
      rw [e, hD] at ho
      cases ho
    exact ⟨a, h1, fun z => z.elim h2 nD, h3, h4, (OwnAt.mono rd (fun o q nt => ex.keep a o q (st.ownNe ⟨i, d, h, h1⟩) nt) h5.dom).less sub⟩
theorem Ext.upNew {R Dd : Addr} {o : HO} (e : Ext R H1 H) (hD : H1 Dd = none) : Ext R H1 (upd H Dd o) :=
  ⟨fun a u q h1 h2 => by rw [upd_ne (ne_of_none q hD)]; exact e.keep a u q h1 h2, fun a h => by
    by_cases e2 : a = Dd
    · rw [e2, upd_same]; exact fun z => by cases z
    · rw [upd_ne e2]; exact e.dom a h, fun x xs q => (e.row x xs q).elim fun ys e2 => ⟨ys, by rw [upd_ne (ne_of_none q hD)]; exact e2⟩⟩
/-- the guarded thing changes -/
theorem Wo.up {K : PySem.W.Frag} {T : Tb} {g : G} {Dd : Addr} {o o' : HO} (w : Wo K T g H z) (hB : g.B Dd) (hR : Dd ≠ g.R) (ho : H Dd = some o) (hn : ∀ ps, o ≠ .tbl ps) (hc : ∀ φ, o ≠ .ext φ := by intro φ z; cases z) : Wo K T g (upd H Dd o') z := by
  obtain ⟨⟨SA, h1, h2, h3⟩, ht, hb, hd, hk, hl, hi⟩ := w
  have nS : SA ≠ Dd := fun e => h1 (by rw [e]; exact hB)
  refine ⟨⟨SA, h1, ?_, by rw [upd_ne (Ne.symm hR)]; exact h3⟩, fun P hP => ?_, hb, fun a ha => ?_, hk, tabs_keep hl (fun q _ ps e => by rw [upd_ne (fun z => hn ps (Option.some.inj (ho.symm.trans (by rw [← z]; exact e))))]; exact e) (fun c φ e => by rw [upd_ne (fun z => hc φ (Option.some.inj (ho.symm.trans (by rw [← z]; exact e))))]; exact e), hi⟩
  · rcases h2 with (q | ⟨ob, q⟩) | q
    · exact .inl (.inl (by rw [upd_ne nS]; exact q))
    · exact .inl (.inr ⟨ob, by rw [upd_ne nS]; exact q⟩)
    · exact .inr q
  · obtain ⟨ps, q, r⟩ := ht P hP
    have ne : P ≠ Dd := fun e => by
      rw [e, ho] at q
      exact hn ps (Option.some.inj q)
    exact ⟨ps, by rw [upd_ne ne]; exact q, r⟩
  · by_cases e : a = Dd
    · rw [e, upd_same]; exact fun z => by cases z
    · rw [upd_ne e]; exact hd a ha
theorem RdLe.up {B : Addr → Prop} {Dd : Addr} {o : HO} (hB : B Dd) : RdLe B H (upd H Dd o) := by
  have ne : ∀ a, ¬ B a → a ≠ Dd := fun a n e => n (by rw [e]; exact hB)
  refine ⟨fun a u n du r => ?_, fun a ob us n e => by rw [upd_ne (ne a n)]; exact e, fun a us n e => by rw [upd_ne (ne a n)]; exact e⟩
  rcases r with r | ⟨ob, r⟩
  · exact .inl (by rw [upd_ne (ne a n)]; exact r)
  · exact .inr ⟨ob, by rw [upd_ne (ne a n)]; exact r⟩
end
theorem StR.chE {K : PySem.W.Frag} {T : Tb} {mg : Str → Option Value} {E E' : XK} {g : G} {H : Hp} {σ : L2.St} {ρ : EnD} {z : S} (st : StR ⟨K, T, mg, E⟩ g H σ ρ z) : StR ⟨K, T, mg, E'⟩ g H σ ρ z :=
  ⟨st.wo, st.gR, st.len, st.val, st.own, st.inj, st.ext⟩
section
variable {X : L2.Cx} {T : Tb} {E : XK} {fi : EnD → M (List D)} {t : EnD → M Bool} {f : EnD → M D} {elt iter tg : Expr} {ifs : List Expr} {scope : Scope} {pos : Pos} {x : Str} {i : Nat}
theorem lc_read {σ : L2.St} {H : Hp} {Q : VK} (h : tD (yx X T E) (eLc i fi t f) σ H Q) :
    tLc (tiD (yx X T E) fi) (gName i) (fun σ H Q => KN X.K H → ttD (yx X T E0) t σ H Q) (fun σ H Q => KN X.K H → tD (yx X T E0) f σ H Q) [i] σ H Q := by
  obtain ⟨g, ρ, z, st, a⟩ := h
  refine ⟨g, ρ, z, st, a.bind.imp fun l z1 _ h1 J H1 st1 e1 it Dd hD => ?_⟩
  have c : l.length ≤ sizeLine ∧ ownAt ρ i = false := by
    refine Decidable.byContradiction fun c => ?_
    rw [if_neg c] at h1
    exact h1
  rw [if_pos c] at h1
  obtain ⟨cl, co⟩ := c
  have hDR : Dd ≠ g.R := fun e => st1.badDom st1.badR (by rw [← e]; exact hD)
  refine ⟨fun n m H' => ∃ acc ds zi, n + m = l.length ∧ H' Dd = some (.lst acc) ∧ Ext g.R H1 H' ∧ Wo X.K T (gb g σ ρ) H' zi ∧ (X.K.lookup Dd = none → Wo X.K T (gb (gd g Dd) σ ρ) H' zi) ∧
    Rs X.K H' g.R (fun a => bad g σ ρ a ∨ a = Dd) acc ds ∧ ds.length ≤ n ∧ After (yx X T E) g (compL i t f (l.drop n) ρ zi) (fun ds' z'' => ∀ v H'', StR (yx X T E) g H'' σ ρ z'' → Ext g.R H1 H'' → R1 X.K H'' g.R (bad g σ ρ) v (.lst (ds ++ ds')) → Q v H''),
    ⟨l.length, [], [], z1, Nat.zero_add _, upd_same, .new hD, st1.wo.new hD, fun hK => ?_, .nil, Nat.zero_le _, ?_⟩, ?_⟩
  · obtain ⟨⟨SA, s1, s2, s3⟩, ht, hb, hd, hk⟩ := st1.wo
    have hS : SA ≠ Dd := fun e => by
      rcases s2 with s2 | ⟨o, its, nn, s2, _⟩
      · exact rd_some s2 (by rw [e]; exact hD)
      · rw [e, hK] at s2; cases s2
    have w := st1.wo.new (o := .lst []) hD
    obtain ⟨_, ht', hb', hd', hk', hl', hi'⟩ := w
    refine ⟨⟨SA, fun q => ?_, ?_, by rw [upd_ne (ne_of_none s3 hD)]; exact s3⟩, ht', .inl (.inl st1.gR), fun a ha => ?_, fun a ha => ?_, hl', hi'⟩
    · have q : bad (gd g Dd) σ ρ SA := q
      rw [bad_gd] at q
      exact q.elim s1 hS
    · rcases s2 with (q | ⟨ob, q⟩) | q
      · exact .inl (.inl (by rw [upd_ne hS]; exact q))
      · exact .inl (.inr ⟨ob, by rw [upd_ne hS]; exact q⟩)
      · exact .inr q
    · have ha : bad (gd g Dd) σ ρ a := ha
      rw [bad_gd] at ha
      rcases ha with ha | rfl
      · exact hd' a ha
      · rw [upd_same]; exact fun z => by cases z
    · have ha : bad (gd g Dd) σ ρ a := ha
      rw [bad_gd] at ha
      rcases ha with ha | rfl
      · exact hk' a ha
      · exact hK
  · rw [List.drop_zero]
    refine h1.bind.imp fun ds' z'' _ q v H'' s' ex r => ?_
    exact q.pure v H'' s' (e1.trans ex) (by simpa using r)
  · rintro n m H' ⟨acc, ds, zi, hm, hHD, ex, wo, wog, racc, hds, hcomp⟩
    have rdl : RdLe (bad g σ ρ) H1 H' := ex.rd st1.badR
    by_cases hn : n < l.length
    · obtain ⟨xd, hxd⟩ : ∃ xd, l[n]? = some xd := ⟨_, List.getElem?_eq_getElem hn⟩
      have edrop : l.drop n = xd :: l.drop (n + 1) := by
        rw [List.drop_eq_getElem_cons hn]
        rw [List.getElem?_eq_getElem hn] at hxd
        cases hxd
        rfl
      rw [edrop] at hcomp
      unfold compL at hcomp
      refine .inr ⟨it.go n H' rdl hn, _, fun H'' hW => ⟨m - 1, by omega, hW⟩, fun xv H'' hy => ?_⟩
      obtain ⟨rfl, d, hd, rx⟩ := it.yld n H' xv H'' rdl hn hy
      rw [hxd] at hd
      cases hd
      show wipe (((wipe σ [i]).set i (some xv))) [i] = wipe σ [i] ∧ _
      refine ⟨by simp [wipe], fun kn => ?_⟩
      have hK : X.K.lookup Dd = none := kn Dd (by rw [hHD]; exact fun z => by cases z)
      have sg := st1.guard (H := H'') (z' := zi) hD hK ex (wog hK)
      have sub : ∀ a, bad (gd g Dd) σ ρ a → plus X.K H1 (bad g σ ρ) a := fun a h => by
        rw [bad_gd] at h
        rcases h with h | rfl
        · exact .inl h
        · exact .inr ⟨hD, hK⟩
      have s2 := sg.setn (i := i) co
      have co2 : ownAt (ρ.set i none) i = false := by rw [ownAt_set co (y := none) trivial]; exact co
      have s3 : StR (yx X T E0) (gd g Dd) H'' ((wipe σ [i]).set i (some xv)) ((ρ.set i none).set i (some (.val xd))) zi :=
        (s2.setv co2 (by rw [bad_set co none none trivial]; exact rx.less sub)).chE
      have bE : bad (gd g Dd) ((wipe σ [i]).set i (some xv)) ((ρ.set i none).set i (some (.val xd))) = bad (gd g Dd) σ ρ := by
        show bad (gd g Dd) ((σ.set i none).set i (some xv)) ((ρ.set i none).set i (some (.val xd))) = bad (gd g Dd) σ ρ
        rw [bad_set co2 (some xv) (some (.val xd)) trivial, bad_set co none none trivial]
      refine ⟨gd g Dd, _, zi, s3, (After.ne hcomp.bind).imp fun b z2 _ h3 H3 st3 e3 => ?_⟩
      have wo3 : Wo X.K T (gb (gd g Dd) σ ρ) H3 z2 := by
        have := st3.wo
        unfold gb at this
        rw [bE] at this
        exact this
      have hD3 : H3 Dd = some (.lst acc) := e3.keep Dd _ hHD hDR (fun ps z => by cases z)
      have badRd : (fun a => bad g σ ρ a ∨ a = Dd) g.R := .inl st1.badR
      cases b with
      | false =>
        simp only [Bool.false_eq_true, if_false] at h3 ⊢
        refine ⟨acc, ds, z2, by omega, hD3, ex.trans e3, wo3.less (fun a h => bad_le h) st1.badR, fun _ => wo3, racc.mono (e3.rd badRd), by omega, h3⟩
      | true =>
        simp only [if_true] at h3 ⊢
        intro kn3
        refine ⟨gd g Dd, _, z2, st3, (After.ne h3.bind).imp fun d z3 _ h4 y H4 st4 e4 ry => ?_⟩
        have wo4 : Wo X.K T (gb (gd g Dd) σ ρ) H4 z3 := by
          have := st4.wo
          unfold gb at this
          rw [bE] at this
          exact this
        have hD4 : H4 Dd = some (.lst acc) := e4.keep Dd _ hD3 hDR (fun ps z => by cases z)
        have ry : R1 X.K H4 g.R (fun a => bad g σ ρ a ∨ a = Dd) y d := by
          have := ry
          rw [bE, bad_gd] at this
          exact this
        have rac4 : Rs X.K H4 g.R (fun a => bad g σ ρ a ∨ a = Dd) acc ds := Rs.mono (e4.rd badRd) (Rs.mono (e3.rd badRd) racc)
        have hal : acc.length < sizeLine := by
          rw [racc.length]
          exact Nat.lt_of_le_of_lt hds (Nat.lt_of_lt_of_le hn cl)
        have bD : bad (gd g Dd) σ ρ Dd := by rw [bad_gd]; exact .inr rfl
        have wo5 : Wo X.K T (gb (gd g Dd) σ ρ) (upd H4 Dd (.lst (acc ++ [y]))) z3 := wo4.up bD hDR hD4 (fun ps z => by cases z)
        refine ⟨acc, hD4, hal, acc ++ [y], ds ++ [d], z3, by omega, upd_same, ((ex.trans e3).trans e4).upNew hD, wo5.less (fun a h => bad_le h) st1.badR, fun _ => wo5,
          Rs.mono (RdLe.up (.inr rfl)) (rac4.append ry), by rw [List.length_append]; simp only [List.length_cons, List.length_nil]; omega, ?_⟩
        refine h4.bind.imp fun ds' z4 _ q v H5 s5 e5 r5 => ?_
        exact q.pure v H5 s5 e5 (by simpa using r5)
    · have en : n = l.length := by omega
      refine .inl ⟨it.stop n H' rdl (by omega), ?_⟩
      rw [List.drop_of_length_le (by omega)] at hcomp
      have sF : StR (yx X T E) g H' σ ρ zi := st1.step ex wo
      refine hcomp.pure _ H' sF ex ?_
      rw [List.append_nil]
      exact .lst hHD (st1.fresh hD) (racc.less fun a h => .inl h) .nil
end
end DL
set_option Elab.async false
set_option linter.all false
set_option maxRecDepth 100000
set_option maxHeartbeats 1000000
namespace DL
open PySem PySem.Spec PyProof.Rows L2 GX GenW GxR

def eTupG (i : Nat) (xs : EnD → M (List D)) (t : EnD → M Bool) (f : EnD → M D) : EnD → M D := fun ρ => mbind (xs ρ) fun l =>
  if l.length ≤ sizeLine ∧ ownAt ρ i = false then mbind (compL i t f l ρ) fun ds => mpure (.tup ds) else mbad
def stopL (stp : Bool) (i : Nat) (t : EnD → M Bool) (f : EnD → M D) : List D → EnD → M Bool
  | [], _ => mpure (!stp)
  | x :: xs, ρ => mbind (mne (t ((ρ.set i none).set i (some (.val x))))) fun b =>
    if b then mbind (mne (f ((ρ.set i none).set i (some (.val x))))) fun d => mbind (mopt (asB d)) fun c => if c = stp then mpure stp else stopL stp i t f xs ρ
    else stopL stp i t f xs ρ
def eStopG (stp : Bool) (i : Nat) (xs : EnD → M (List D)) (t : EnD → M Bool) (f : EnD → M D) : EnD → M D := fun ρ => mbind (xs ρ) fun l =>
  if ownAt ρ i = false then mbind (stopL stp i t f l ρ) fun b => mpure (.bl b) else mbad
def eJoinG (sep : List Nat) (i : Nat) (xs : EnD → M (List D)) (t : EnD → M Bool) (f : EnD → M D) : EnD → M D := fun ρ => mbind (xs ρ) fun l =>
  if l.length ≤ sizeLine ∧ ownAt ρ i = false then mbind (compL i t f l ρ) fun ds => mopt ((strsD ds).bind fun zs => if JoinOk (ST sep) (zs.map ST) = true then some (.str (joinL sep zs)) else none) else mbad

section
variable {X : L2.Cx} {T : Tb} {E : XK} {fi : EnD → M (List D)} {t : EnD → M Bool} {f : EnD → M D} {elt iter tg : Expr} {ifs : List Expr} {scope : Scope} {pos gpos p apos : Pos} {x : Str} {i : Nat} {px : Pos} {k : Nat} {c P : Addr}
theorem ext_tab {K : PySem.W.Frag} {R : Addr} {H1 H2 : Hp} (h1 : TabG H1 P) (h : Tabbed P H1 H2) : Ext R H1 H2 := by
  obtain ⟨ps, h0, _⟩ := h1
  obtain ⟨⟨ps2, h2, h3⟩, h4⟩ := h
  refine ⟨fun a o q1 _ nt => ?_, fun a q => ?_, fun x xs q => ⟨xs, by rw [h4 _ (fun e => by rw [e, h0] at q; cases q)]; exact q⟩⟩
  · have : a ≠ P := fun e => by
      rw [e, h0] at q1
      exact nt ps (Option.some.inj q1).symm
    rw [h4 a this]
    exact q1
  · by_cases e : a = P
    · rw [e, h2]; exact fun z => by cases z
    · rw [h4 a e]; exact q
theorem wo_tab {K : PySem.W.Frag} {g : G} {z : S} {H1 H2 : Hp} (w : Wo K T g H1 z) (hP : P ∈ T) (h1 : TabG H1 P) (h : Tabbed P H1 H2) : Wo K T g H2 z := by
  have ex : Ext g.R H1 H2 := ext_tab (K := K) h1 h
  obtain ⟨⟨SA, s1, s2, s3⟩, ht, hb, hd, hk, hl, hi⟩ := w
  have nR : g.R ≠ P := fun e => by
    obtain ⟨ps, h0, _⟩ := h1
    rw [e, h0] at s3
    cases s3
  refine ⟨⟨SA, s1, ?_, by rw [h.2 _ nR]; exact s3⟩, fun P' hP => ?_, hb, fun a ha => ex.dom a (hd a ha), hk, tabs_keep hl (fun q hq ps e => by rw [h.2 _ (fun z => hi q hq (by rw [z]; exact hP))]; exact e) (fun c φ e => by
      obtain ⟨ps, h0, _⟩ := h1
      rw [h.2 _ (fun z => by rw [z, h0] at e; cases e)]; exact e), hi⟩
  · exact (ex.rd hb).sqL s1 s2
  · by_cases e : P' = P
    · rw [e]; exact h.1
    · obtain ⟨ps, q, r⟩ := ht P' hP
      exact ⟨ps, by rw [h.2 _ e]; exact q, r⟩
theorem StR.tab {Y : Yx} {g : G} {H1 H2 : Hp} {σ : L2.St} {ρ : EnD} {z : S} (st : StR Y g H1 σ ρ z) (hP : P ∈ Y.T) (h1 : TabG H1 P) (h : Tabbed P H1 H2) : StR Y g H2 σ ρ z := st.step (ext_tab (K := Y.K) h1 h) (wo_tab st.wo hP h1 h)
theorem ItD.le {K : PySem.W.Frag} {R : Addr} {B : Addr → Prop} {H1 H2 : Hp} {J : It} {xs : List D} (h : ItD K R B H1 J xs) (r : RdLe B H1 H2) (hd : ∀ a, H2 a = none → H1 a = none) : ItD K R B H2 J xs where
  go := fun i H r2 hi => h.go i H (r.trans r2) hi
  yld := fun i H x H' r2 hi hy => by
    obtain ⟨e, d, h1, h2⟩ := h.yld i H x H' (r.trans r2) hi hy
    exact ⟨e, d, h1, h2.less fun a q => q.elim .inl fun q => .inr ⟨hd a q.1, q.2⟩⟩
  stop := fun i H r2 hi => h.stop i H (r.trans r2) hi

/-- one item -/
theorem item_st {g : G} {H1 H' : Hp} {σ : L2.St} {ρ : EnD} {z1 zi : S} {xv : V} {xd : D} (st1 : StR (yx X T E) g H1 σ ρ z1) (co : ownAt ρ i = false) (ex : Ext g.R H1 H') (wo : Wo X.K T (gb g σ ρ) H' zi) (rx : R1 X.K H' g.R (bad g σ ρ) xv xd) :
    StR (yx X T E0) g H' ((wipe σ [i]).set i (some xv)) ((ρ.set i none).set i (some (.val xd))) zi ∧ bad g ((wipe σ [i]).set i (some xv)) ((ρ.set i none).set i (some (.val xd))) = bad g σ ρ := by
  have s1 : StR (yx X T E) g H' σ ρ zi := st1.step ex wo
  have s2 := s1.setn (i := i) co
  have co2 : ownAt (ρ.set i none) i = false := by rw [ownAt_set co (y := none) trivial]; exact co
  refine ⟨(s2.setv co2 (by rw [bad_setn co]; exact rx)).chE, ?_⟩
  show bad g ((σ.set i none).set i (some xv)) ((ρ.set i none).set i (some (.val xd))) = bad g σ ρ
  rw [bad_setv co2, bad_setn co]

theorem lst_read {σ : L2.St} {H2 : Hp} {Q : VK} {J : It} {l : List D} {g : G} {ρ : EnD} {z1 : S} {Qe : List V → Hp → VK → Prop} (st2 : StR (yx X T E) g H2 σ ρ z1) (it : ItD X.K g.R (bad g σ ρ) H2 J l) (cl : l.length ≤ sizeLine) (co : ownAt ρ i = false)
    (a : After (yx X T E) g (compL i t f l ρ z1) fun ds z' => ∀ ys H', StR (yx X T E) g H' σ ρ z' → Ext g.R H2 H' → Rs X.K H' g.R (bad g σ ρ) ys ds → Qe ys H' Q) :
    bLst (gName i) (ttD (yx X T E0) t) (tD (yx X T E0) f) [i] Qe J σ H2 Q := by
  refine ⟨fun n m ys H' => ∃ ds zi, n + m = l.length ∧ Ext g.R H2 H' ∧ Wo X.K T (gb g σ ρ) H' zi ∧ Rs X.K H' g.R (bad g σ ρ) ys ds ∧ ds.length ≤ n ∧
      After (yx X T E) g (compL i t f (l.drop n) ρ zi) (fun ds' z'' => ∀ ys' H'', StR (yx X T E) g H'' σ ρ z'' → Ext g.R H2 H'' → Rs X.K H'' g.R (bad g σ ρ) ys' (ds ++ ds') → Qe ys' H'' Q),
    ⟨l.length, [], z1, Nat.zero_add _, .refl, st2.wo, .nil, Nat.zero_le _, by simpa using a⟩, ?_⟩
  rintro n m ys H' ⟨ds, zi, hm, ex, wo, rys, hds, hcomp⟩
  have rdl : RdLe (bad g σ ρ) H2 H' := ex.rd st2.badR
  by_cases hn : n < l.length
  · obtain ⟨xd, hxd⟩ : ∃ xd, l[n]? = some xd := ⟨_, List.getElem?_eq_getElem hn⟩
    have edrop : l.drop n = xd :: l.drop (n + 1) := by
      rw [List.drop_eq_getElem_cons hn]
      rw [List.getElem?_eq_getElem hn] at hxd
      cases hxd
      rfl
    rw [edrop] at hcomp
    unfold compL at hcomp
    refine .inr ⟨it.go n H' rdl hn, fun xv H'' hy => ?_⟩
    obtain ⟨rfl, d, hd, rx⟩ := it.yld n H' xv H'' rdl hn hy
    rw [hxd] at hd
    cases hd
    show wipe (((wipe σ [i]).set i (some xv))) [i] = wipe σ [i] ∧ _
    refine ⟨by simp [wipe], ?_⟩
    obtain ⟨s3, bE⟩ := item_st (i := i) st2 co ex wo (rx.less fun a h => .inl h)
    refine ⟨g, _, zi, s3, (After.ne hcomp.bind).imp fun b z2 _ h3 H3 st3 e3 => ?_⟩
    have wo3 : Wo X.K T (gb g σ ρ) H3 z2 := by
      have := st3.wo
      unfold gb at this
      rw [bE] at this
      exact this
    cases b with
    | false =>
      simp only [Bool.false_eq_true, if_false] at h3 ⊢
      exact ⟨m - 1, by omega, ds, z2, by omega, ex.trans e3, wo3, rys.mono (e3.rd st2.badR), by omega, h3⟩
    | true =>
      simp only [if_true] at h3 ⊢
      refine ⟨g, _, z2, st3, (After.ne h3.bind).imp fun d z3 _ h4 y H4 st4 e4 ry => ?_⟩
      have wo4 : Wo X.K T (gb g σ ρ) H4 z3 := by
        have := st4.wo
        unfold gb at this
        rw [bE] at this
        exact this
      have ry : R1 X.K H4 g.R (bad g σ ρ) y d := by
        have := ry
        rw [bE] at this
        exact this
      have rys4 : Rs X.K H4 g.R (bad g σ ρ) ys ds := Rs.mono (e4.rd st2.badR) (Rs.mono (e3.rd st2.badR) rys)
      refine ⟨by rw [rys.length]; exact Nat.lt_of_le_of_lt hds (Nat.lt_of_lt_of_le hn cl), m - 1, by omega, ds ++ [d], z3, by omega, (ex.trans e3).trans e4, wo4, rys4.append ry,
        by rw [List.length_append]; simp only [List.length_cons, List.length_nil]; omega, h4.bind.imp fun ds' z4 _ q ys' H5 s5 e5 r5 => q.pure ys' H5 s5 e5 (by simpa using r5)⟩
  · refine .inl ⟨it.stop n H' rdl (by omega), ?_⟩
    rw [List.drop_of_length_le (by omega)] at hcomp
    exact hcomp.pure _ H' (st2.step ex wo) ex (by simpa using rys)

theorem stop_read {stp : Bool} {σ : L2.St} {H2 : Hp} {J : It} {l : List D} {g : G} {ρ : EnD} {z1 : S} {Qs : Bool → Hp → Prop} (st2 : StR (yx X T E) g H2 σ ρ z1) (it : ItD X.K g.R (bad g σ ρ) H2 J l) (co : ownAt ρ i = false)
    (a : After (yx X T E) g (stopL stp i t f l ρ z1) fun b z' => ∀ H', StR (yx X T E) g H' σ ρ z' → Ext g.R H2 H' → Qs b H') :
    ∃ W, (∃ m, W 0 m H2) ∧ GT2 J (gName i) (ttD (yx X T E0) t) (tD (yx X T E0) f) [i] (wipe σ [i]) stp (Qs stp) (Qs (!stp)) W := by
  refine ⟨fun n m H' => ∃ zi, n + m = l.length ∧ Ext g.R H2 H' ∧ Wo X.K T (gb g σ ρ) H' zi ∧
      After (yx X T E) g (stopL stp i t f (l.drop n) ρ zi) (fun b z'' => ∀ H'', StR (yx X T E) g H'' σ ρ z'' → Ext g.R H2 H'' → Qs b H''),
    ⟨l.length, z1, Nat.zero_add _, .refl, st2.wo, by simpa using a⟩, ?_⟩
  rintro n m H' ⟨zi, hm, ex, wo, hcomp⟩
  have rdl : RdLe (bad g σ ρ) H2 H' := ex.rd st2.badR
  by_cases hn : n < l.length
  · obtain ⟨xd, hxd⟩ : ∃ xd, l[n]? = some xd := ⟨_, List.getElem?_eq_getElem hn⟩
    have edrop : l.drop n = xd :: l.drop (n + 1) := by
      rw [List.drop_eq_getElem_cons hn]
      rw [List.getElem?_eq_getElem hn] at hxd
      cases hxd
      rfl
    rw [edrop] at hcomp
    unfold stopL at hcomp
    refine .inr ⟨it.go n H' rdl hn, fun xv H'' hy => ?_⟩
    obtain ⟨rfl, d, hd, rx⟩ := it.yld n H' xv H'' rdl hn hy
    rw [hxd] at hd
    cases hd
    show wipe (((wipe σ [i]).set i (some xv))) [i] = wipe σ [i] ∧ _
    refine ⟨by simp [wipe], ?_⟩
    obtain ⟨s3, bE⟩ := item_st (i := i) st2 co ex wo (rx.less fun a h => .inl h)
    refine ⟨g, _, zi, s3, (After.ne hcomp.bind).imp fun b z2 _ h3 H3 st3 e3 => ?_⟩
    have wo3 : Wo X.K T (gb g σ ρ) H3 z2 := by
      have := st3.wo
      unfold gb at this
      rw [bE] at this
      exact this
    cases b with
    | false =>
      simp only [Bool.false_eq_true, if_false] at h3 ⊢
      exact ⟨m - 1, by omega, z2, by omega, ex.trans e3, wo3, h3⟩
    | true =>
      simp only [if_true] at h3 ⊢
      refine ⟨g, _, z2, st3, (After.ne h3.bind).imp fun d z3 _ h4 y H4 st4 e4 ry => ⟨by omega, ?_⟩⟩
      have wo4 : Wo X.K T (gb g σ ρ) H4 z3 := by
        have := st4.wo
        unfold gb at this
        rw [bE] at this
        exact this
      obtain ⟨cb, hc, h5⟩ := h4.bind.opt
      obtain rfl : d = .bl cb := by cases d <;> simp_all [asB]
      cases ry.bl
      have sF : StR (yx X T E) g H4 σ ρ z3 := st2.step ((ex.trans e3).trans e4) wo4
      refine ⟨cb, rfl, fun e => ?_, fun ne => ?_⟩
      · rw [if_pos e] at h5
        exact h5.pure H4 sF ((ex.trans e3).trans e4)
      · rw [if_neg ne] at h5
        exact ⟨m - 1, by omega, z3, by omega, (ex.trans e3).trans e4, wo4, h5⟩
  · refine .inl ⟨it.stop n H' rdl (by omega), ?_⟩
    rw [List.drop_of_length_le (by omega)] at hcomp
    exact hcomp.pure H' (st2.step ex wo) ex

theorem pu_lc (hc : X.calm = true) (hN : X.N.Nodup) (hi : PI X tg iter (tiD (yx X T E) fi)) (ok : BlkOk X.N X.env.scope scope [(x, i)])
    (hg : ∀ (s : Shared) (H : Hp) (C : Addr) (cl : List (Str × Addr)) (fp : List Addr), PG (X.blk s H scope (compEnvC scope cl C X.env) fp) tg (gName i)) (ht : ∀ (s : Shared) (H : Hp) (C : Addr) (cl : List (Str × Addr)) (fp : List Addr), PTs (X.blk s H scope (compEnvC scope cl C X.env) fp) ifs (ttD (yx X T E0) t))
    (he : ∀ (s : Shared) (H : Hp) (C : Addr) (cl : List (Str × Addr)) (fp : List Addr), PE (X.blk s H scope (compEnvC scope cl C X.env) fp) elt (tD (yx X T E0) f)) (hs : ∀ x, foldedSetIterable iter X.env x = pure x := by intro _; rfl) :
    PE X (.ListComp elt [⟨tg, iter, ifs, 0⟩] scope pos) (tD (yx X T E) (eLc i fi t f)) :=
  PE_imp (pe_lc (own := [(x, i)]) hc hN hi ok hg (fun s H C cl fp => PTs_kn (ht s H C cl fp)) (fun s H C cl fp => PE_kn (he s H C cl fp)) hs) fun σ H Q h => lc_read h
theorem pu_tupG (hr : Room (k + 1) X.A) (hc : X.calm = true) (hgl : Gl X "tuple") (hm : X.mg "tuple" = none) (hb : bootBuiltins "tuple" = some (.type "tuple")) (TB : TabB X.base X.mg c P) (hP : P ∈ T) (hcode : X.env.code = .ref c)
    (ok : GOk X.N X.env.scope scope [(x, i)]) (hN : X.N.Nodup) (hi : PI X tg iter (tiD (yx X T E) fi))
    (hg : ∀ s H C code A' fp, PG (gcx X s H (GCtx X scope C code) A' fp) tg (gName i))
    (ht : ∀ s H C code A' fp, Room k A' → PTs (gcx X s H (GCtx X scope C code) A' fp) ifs (ttD (yx X T E0) t))
    (he : ∀ s H C code A' fp, Room k A' → PE (gcx X s H (GCtx X scope C code) A' fp) elt (tD (yx X T E0) f))
    (hs : ∀ v, genFold iter X.env v = pure v := by intro _; rfl)
    (hst : starEach [.GeneratorExp elt [⟨tg, iter, ifs, 0⟩] scope gpos] X.env = (false, eval (.GeneratorExp elt [⟨tg, iter, ifs, 0⟩] scope gpos) X.env) :: starEach [] X.env := by rfl) :
    PE X (.Call (.Name "tuple" p) [.GeneratorExp elt [⟨tg, iter, ifs, 0⟩] scope gpos] [] pos) (tD (yx X T E) (eTupG i fi t f)) :=
  PE_imp (pe_tupGF (own := [(x, i)]) hr hc hgl hm hb TB hcode ok hN hi hg ht he hs hst) fun σ H Q h => by
    obtain ⟨g, ρ, z, st, a⟩ := h
    refine ⟨g, ρ, z, st, a.bind.imp fun l z1 _ h1 J H1 st1 e1 it => ?_⟩
    have cc : l.length ≤ sizeLine ∧ ownAt ρ i = false := by
      refine Decidable.byContradiction fun cc => ?_
      rw [if_neg cc] at h1
      exact h1
    rw [if_pos cc] at h1
    have hT := st1.wo.tabs P hP
    refine ⟨hT, fun H2 h2 => ?_⟩
    have ex2 : Ext g.R H1 H2 := ext_tab (K := X.K) hT h2
    refine lst_read (st1.tab hP hT h2) (it.le (ex2.rd st1.badR) fun a q => ?_) cc.1 cc.2 (h1.bind.imp fun ds z2 _ q ys H3 s3 e3 r3 p ob hp hd => q.pure _ _ (s3.new hp) (e1.trans (ex2.trans (e3.trans (.new hp)))) (s3.tup hp hd r3))
    cases e : H1 a with
    | none => rfl
    | some o => exact absurd q (ex2.dom a (by rw [e]; exact fun z => by cases z))
theorem pu_stopG_aux {stp : Bool} {σ : L2.St} {H : Hp} {Q : VK} {tg' : G} (hP : P ∈ T) (h : tD (yx X T E) (eStopG stp i fi t f) σ H Q) :
    tGx P (tiD (yx X T E) fi) (fun J σ H Q => ∃ W, (∃ m, W 0 m H) ∧ GT2 J (gName i) (ttD (yx X T E0) t) (tD (yx X T E0) f) [i] (wipe σ [i]) stp (Q (.bl stp)) (Q (.bl (!stp))) W) σ H Q := by
  obtain ⟨g, ρ, z, st, a⟩ := h
  refine ⟨g, ρ, z, st, a.bind.imp fun l z1 _ h1 J H1 st1 e1 it => ?_⟩
  have cc : ownAt ρ i = false := by
    refine Decidable.byContradiction fun cc => ?_
    rw [if_neg cc] at h1
    exact h1
  rw [if_pos cc] at h1
  have hT := st1.wo.tabs P hP
  refine ⟨hT, fun H2 h2 => ?_⟩
  have ex2 : Ext g.R H1 H2 := ext_tab (K := X.K) hT h2
  refine stop_read (Qs := fun b => Q (.bl b)) (st1.tab hP hT h2) (it.le (ex2.rd st1.badR) fun a q => ?_) cc (h1.bind.imp fun b z2 _ q H3 s3 e3 => q.pure _ _ s3 (e1.trans (ex2.trans e3)) (.atom .bl .nil))
  cases e : H1 a with
  | none => rfl
  | some o => exact absurd q (ex2.dom a (by rw [e]; exact fun z => by cases z))
theorem pu_all (hr : Room (k + 1) X.A) (hc : X.calm = true) (hgl : Gl X "all") (hm : X.mg "all" = none) (hb : bootBuiltins "all" = some (.builtin "all")) (TB : TabB X.base X.mg c P) (hP : P ∈ T) (hcode : X.env.code = .ref c)
    (ok : GOk X.N X.env.scope scope [(x, i)]) (hN : X.N.Nodup) (hi : PI X tg iter (tiD (yx X T E) fi))
    (hg : ∀ s H C code A' fp, PG (gcx X s H (GCtx X scope C code) A' fp) tg (gName i))
    (ht : ∀ s H C code A' fp, Room k A' → PTs (gcx X s H (GCtx X scope C code) A' fp) ifs (ttD (yx X T E0) t))
    (he : ∀ s H C code A' fp, Room k A' → PE (gcx X s H (GCtx X scope C code) A' fp) elt (tD (yx X T E0) f))
    (hs : ∀ v, genFold iter X.env v = pure v := by intro _; rfl)
    (hst : starEach [.GeneratorExp elt [⟨tg, iter, ifs, 0⟩] scope gpos] X.env = (false, eval (.GeneratorExp elt [⟨tg, iter, ifs, 0⟩] scope gpos) X.env) :: starEach [] X.env := by rfl) :
    PE X (.Call (.Name "all" p) [.GeneratorExp elt [⟨tg, iter, ifs, 0⟩] scope gpos] [] pos) (tD (yx X T E) (eStopG false i fi t f)) :=
  PE_imp (pe_all (own := [(x, i)]) hr hc hgl hm hb TB hcode ok hN hi hg ht he hs hst) fun σ H Q h => pu_stopG_aux (tg' := ⟨0, fun _ => False, fun _ => none⟩) hP h
theorem pu_any (hr : Room (k + 1) X.A) (hc : X.calm = true) (hgl : Gl X "any") (hm : X.mg "any" = none) (TB : TabB X.base X.mg c P) (hP : P ∈ T) (hcode : X.env.code = .ref c)
    (ok : GOk X.N X.env.scope scope [(x, i)]) (hN : X.N.Nodup) (hi : PI X tg iter (tiD (yx X T E) fi))
    (hg : ∀ s H C code A' fp, PG (gcx X s H (GCtx X scope C code) A' fp) tg (gName i))
    (ht : ∀ s H C code A' fp, Room k A' → PTs (gcx X s H (GCtx X scope C code) A' fp) ifs (ttD (yx X T E0) t))
    (he : ∀ s H C code A' fp, Room k A' → PE (gcx X s H (GCtx X scope C code) A' fp) elt (tD (yx X T E0) f))
    (hs : ∀ v, genFold iter X.env v = pure v := by intro _; rfl)
    (hst : starEach [.GeneratorExp elt [⟨tg, iter, ifs, 0⟩] scope gpos] X.env = (false, eval (.GeneratorExp elt [⟨tg, iter, ifs, 0⟩] scope gpos) X.env) :: starEach [] X.env := by rfl) :
    PE X (.Call (.Name "any" p) [.GeneratorExp elt [⟨tg, iter, ifs, 0⟩] scope gpos] [] pos) (tD (yx X T E) (eStopG true i fi t f)) :=
  PE_imp (pe_any (own := [(x, i)]) hr hc hgl hm TB hcode ok hN hi hg ht he hs hst) fun σ H Q h => pu_stopG_aux (tg' := ⟨0, fun _ => False, fun _ => none⟩) hP h
end
end DL
set_option Elab.async false
set_option linter.all false
set_option maxRecDepth 100000
set_option maxHeartbeats 1000000
namespace DL
open PySem PySem.Spec PyProof.Rows L2

inductive Out where
  | nx (ρ : EnD) (z : S) | rt (d : D) (z : S) | bk (ρ : EnD) (z : S) | ct (ρ : EnD) (z : S) | exc (x : Exn) (z : S) | bad
abbrev SM := EnD → S → Out
def obind {α : Type} (r : Res α) (k : α → S → Out) : Out := match r with
  | .ok a z => k a z
  | .exc x z => .exc x z
  | .bad => .bad
def sNil : SM := fun ρ z => .nx ρ z
def sSeq (a b : SM) : SM := fun ρ z => match a ρ z with
  | .nx ρ' z' => b ρ' z'
  | o => o
def sSet (i : Nat) (f : EnD → M D) : SM := fun ρ z => obind (f ρ z) fun d z' => if ownAt ρ i then .bad else .nx (ρ.set i (some (.val d))) z'
def sIf (t : EnD → M Bool) (a b : SM) : SM := fun ρ z => obind (t ρ z) fun c z' => if c then a ρ z' else b ρ z'
def sRet (f : EnD → M D) : SM := fun ρ z => obind (f ρ z) fun d z' => .rt d z'
def sRetN : SM := fun ρ z => .rt .non z
def sEx (f : EnD → M D) : SM := fun ρ z => obind (f ρ z) fun _ z' => .nx ρ z'
def sBad : SM := fun _ _ => .bad
def forD (i : Nat) (body : SM) : List D → SM
  | [], ρ, z => .nx ρ z
  | x :: xs, ρ, z => if ownAt ρ i then .bad else match body (ρ.set i (some (.val x))) z with
    | .nx ρ' z' => forD i body xs ρ' z'
    | .ct ρ' z' => forD i body xs ρ' z'
    | .bk ρ' z' => .nx ρ' z'
    | o => o
def sFor (i : Nat) (xs : EnD → M (List D)) (body : SM) : SM := fun ρ z => obind (xs ρ z) fun l z' => forD i body l ρ z'
/-- the def's slots at its entry -/
def rho0 (n : Nat) (ds : List D) : EnD := ds.map (fun d => some (.val d)) ++ List.replicate (n - ds.length) none
/-- a def's run -/
def runD (n : Nat) (b : SM) : List D → M D := fun ds z => match b (rho0 n ds) z with
  | .nx _ z' => .ok .non z'
  | .rt d z' => .ok d z'
  | .exc x z' => .exc x z'
  | _ => .bad

/-- what a statement may change -/
structure Stp (R : Addr) (σ : L2.St) (ρ : EnD) (H : Hp) (σ' : L2.St) (ρ' : EnD) (H' : Hp) : Prop where
  keep : ∀ a o, H a = some o → a ≠ R → ¬ Own σ ρ a → (∀ ps, o ≠ .tbl ps) → H' a = some o
  dom : ∀ a, H a ≠ none → H' a ≠ none
  own : ∀ a, Own σ' ρ' a → Own σ ρ a ∨ H a = none
section
variable {R : Addr} {σ σ1 σ2 : L2.St} {ρ ρ1 ρ2 : EnD} {H H1 H2 : Hp}
theorem Stp.trans (a : Stp R σ ρ H σ1 ρ1 H1) (b : Stp R σ1 ρ1 H1 σ2 ρ2 H2) : Stp R σ ρ H σ2 ρ2 H2 where
  keep := fun c o h1 h2 h3 h4 => b.keep c o (a.keep c o h1 h2 h3 h4) h2 (fun q => (a.own c q).elim h3 fun z => by rw [h1] at z; cases z) h4
  dom := fun c h => b.dom c (a.dom c h)
  own := fun c q => (b.own c q).elim (a.own c) fun z => by
    cases e : H c with
    | none => exact .inr rfl
    | some o => exact absurd z (a.dom c (by rw [e]; exact fun z => by cases z))
theorem Stp.ext (e : Ext R H H1) : Stp R σ ρ H σ ρ H1 := ⟨fun a o h1 h2 _ h4 => e.keep a o h1 h2 h4, e.dom, fun _ q => .inl q⟩
theorem Stp.refl : Stp R σ ρ H σ ρ H := .ext .refl
theorem Stp.setv {i : Nat} {v : Option V} {y : Option Sl} (h : ownAt ρ i = false) (hy : notOwn y) : Stp R σ ρ H (σ.set i v) (ρ.set i y) H :=
  ⟨fun _ _ h _ _ _ => h, fun _ h => h, fun a q => .inl (by rw [own_set h v y hy] at q; exact q)⟩
end
/-- the ends of a statement -/
def OutOk (Y : Yx) (g : G) (σ : L2.St) (ρ : EnD) (H : Hp) (o : Out) (Dn : Ends) : Prop := match o with
  | .nx ρ' z' => ∀ σ' H', StR Y g H' σ' ρ' z' → Stp g.R σ ρ H σ' ρ' H' → Dn.nx σ' H'
  | .rt d z' => ∀ v H', Wo Y.K Y.T g H' z' → Ext g.R g.H0 H' → R1 Y.K H' g.R g.B v d → Dn.rt v H'
  | .bk ρ' z' => ∀ σ' H', StR Y g H' σ' ρ' z' → Stp g.R σ ρ H σ' ρ' H' → Dn.bk σ' H'
  | .ct ρ' z' => ∀ σ' H', StR Y g H' σ' ρ' z' → Stp g.R σ ρ H σ' ρ' H' → Dn.ct σ' H'
  | .exc x z' => XOk Y g x z'
  | .bad => False
def sD (Y : Yx) (F : SM) : TS := fun Dn σ H => ∃ g ρ z, StR Y g H σ ρ z ∧ OutOk Y g σ ρ H (F ρ z) Dn
section
variable {Y : Yx} {g : G} {σ σ1 : L2.St} {ρ ρ1 : EnD} {H H1 : Hp} {o : Out} {Dn : Ends} {z : S}
theorem OutOk.rebase (h : OutOk Y g σ ρ H o Dn) (s : Stp g.R σ ρ H σ1 ρ1 H1) : OutOk Y g σ1 ρ1 H1 o Dn := by
  cases o with
  | nx ρ' z' => exact fun σ' H' st s2 => h σ' H' st (s.trans s2)
  | bk ρ' z' => exact fun σ' H' st s2 => h σ' H' st (s.trans s2)
  | ct ρ' z' => exact fun σ' H' st s2 => h σ' H' st (s.trans s2)
  | rt d z' => exact h
  | exc x z' => exact h
  | bad => exact h
theorem OutOk.bind {α : Type} {r : Res α} {k : α → S → Out} (h : OutOk Y g σ ρ H (obind r k) Dn) : After Y g r fun a z' => OutOk Y g σ ρ H (k a z') Dn := by
  cases r with
  | ok a z' => exact h
  | exc x z' => exact h
  | bad => exact h
end
section
variable {X : L2.Cx} {T : Tb} {E : XK} {st : Stmt} {rest : List Stmt} {A B : SM} {f : EnD → M D} {t : EnD → M Bool} {fi : EnD → M (List D)} {e tg iter c : Expr} {pos pos' : Pos} {i : Nat} {x : Str}
theorem pu_snil : PSs X [] (sD (yx X T E) sNil) := PSs_imp pss_nil fun D σ H h => by
  obtain ⟨g, ρ, z, st, o⟩ := h
  exact o σ H st .refl
theorem pu_seq (h1 : PS X st (sD (yx X T E) A)) (h2 : PSs X rest (sD (yx X T E) B)) : PSs X (st :: rest) (sD (yx X T E) (sSeq A B)) := PSs_imp (pss_cons h1 h2) fun D σ H h => by
  obtain ⟨g, ρ, z, st, o⟩ := h
  refine ⟨g, ρ, z, st, ?_⟩
  unfold sSeq at o
  cases e : A ρ z with
  | nx ρ' z' =>
    rw [e] at o
    exact fun σ' H' st' s => ⟨g, ρ', z', st', o.rebase s⟩
  | rt d z' => rw [e] at o; exact o
  | bk ρ' z' => rw [e] at o; exact o
  | ct ρ' z' => rw [e] at o; exact o
  | exc x z' => rw [e] at o; exact o
  | bad => rw [e] at o; exact o
theorem pu_last (h1 : PS X st (sD (yx X T E) A)) : PSs X [st] (sD (yx X T E) A) := pss_one h1
theorem pu_set (hN : X.N.Nodup) (hi : X.N[i]? = some x) (hx : Loc X.env.scope x) (he : PE X e (tD (yx X T E) f)) (hs : swapsWith e (some (.Name x pos')) pos.line X.env = pure false := by rfl) (hf : X.fn x = true ∨ X.env.scope.names.lookup x = some .local := by first | exact .inl rfl | exact .inr rfl) :
    PS X (.Assign [.Name x pos'] e pos) (sD (yx X T E) (sSet i f)) := PS_imp (ps_set hN hi hx he hs hf) fun D σ H h => by
  obtain ⟨g, ρ, z, st, o⟩ := h
  refine ⟨g, ρ, z, st, o.bind.imp fun d z1 _ h1 v H1 st1 e1 r1 => ?_⟩
  cases co : ownAt ρ i with
  | true => rw [co] at h1; exact h1.elim
  | false =>
    rw [co] at h1
    exact h1 _ H1 (st1.setv co r1) ((Stp.ext e1).trans (.setv co trivial))
theorem pu_ifS {a b : List Stmt} (ht : PT X c (ttD (yx X T E) t)) (ha : PSs X a (sD (yx X T E) A)) (hb : PSs X b (sD (yx X T E) B)) : PS X (.If c a b pos) (sD (yx X T E) (sIf t A B)) := PS_imp (ps_if ht ha hb) fun D σ H h => by
  obtain ⟨g, ρ, z, st, o⟩ := h
  refine ⟨g, ρ, z, st, o.bind.imp fun k z1 _ h1 H1 st1 e1 => ?_⟩
  cases k with
  | true => exact ⟨g, ρ, z1, st1, OutOk.rebase h1 (.ext e1)⟩
  | false => exact ⟨g, ρ, z1, st1, OutOk.rebase h1 (.ext e1)⟩
theorem pu_ret (he : PE X e (tD (yx X T E) f)) : PS X (.Return (some e) pos) (sD (yx X T E) (sRet f)) := PS_imp (ps_ret he) fun D σ H h => by
  obtain ⟨g, ρ, z, st, o⟩ := h
  exact ⟨g, ρ, z, st, o.bind.imp fun d z1 _ h1 v H1 st1 e1 r1 => h1 v H1 st1.wog st1.ext (r1.less fun a q => .inl q)⟩
theorem pu_expr (he : PE X e (tD (yx X T E) f)) (hs : swapsWith e none pos.line X.env = pure false := by rfl) : PS X (.Expr e pos) (sD (yx X T E) (sEx f)) := PS_imp (ps_expr he hs) fun D σ H h => by
  obtain ⟨g, ρ, z, st, o⟩ := h
  exact ⟨g, ρ, z, st, o.bind.imp fun d z1 _ h1 v H1 st1 e1 r1 => h1 σ H1 st1 (.ext e1)⟩
theorem pu_bad : PS X st (sD (yx X T E) sBad) := PS_imp ps_never fun D σ H h => by
  obtain ⟨g, ρ, z, st, o⟩ := h
  exact o
theorem pu_for {body : List Stmt} (hp : PassesOwn (model X.prog X.w) X.A X.env X.xe) (hc : X.calm = true) (hi : PI X tg iter (tiD (yx X T E) fi)) (hg : PG X tg (gName i)) (hb : PSs X body (sD (yx X T E) B)) (hs : ∀ x, foldedSetIterable iter X.env x = pure x := by intro _; rfl) :
    PS X (.For tg iter body [] pos) (sD (yx X T E) (sFor i fi B)) := PS_imp (ps_for hp hc hi hg hb hs) fun D σ H h => by
  obtain ⟨g, ρ, z, st, o⟩ := h
  refine ⟨g, ρ, z, st, o.bind.imp fun l z1 _ h1 J H1 st1 e1 it => ?_⟩
  refine ⟨fun n m σ' H' => ∃ ρ' z', n + m = l.length ∧ StR (yx X T E) g H' σ' ρ' z' ∧ Stp g.R σ ρ H1 σ' ρ' H' ∧ OutOk (yx X T E) g σ' ρ' H' (forD i B (l.drop n) ρ' z') D,
    ⟨l.length, ρ, z1, Nat.zero_add _, st1, .refl, by rw [List.drop_zero]; exact OutOk.rebase h1 (.ext e1)⟩, ?_⟩
  rintro n m σ' H' ⟨ρ', z', hm, st', sp, o'⟩
  have rdl : RdLe (bad g σ ρ) H1 H' := by
    have ne : ∀ a, ¬ bad g σ ρ a → a ≠ g.R ∧ ¬ Own σ ρ a := fun a n => ⟨fun e => n (by rw [e]; exact st1.badR), fun q => n (.inr q)⟩
    refine ⟨fun a u n du r => ?_, fun a ob us n q => sp.keep a _ q (ne a n).1 (ne a n).2 (fun ps z => by cases z), fun a us n q => sp.keep a _ q (ne a n).1 (ne a n).2 (fun ps z => by cases z)⟩
    rcases r with r | ⟨ob, r⟩
    · exact .inl (sp.keep a _ r (ne a n).1 (ne a n).2 (fun ps z => by rw [z] at du; exact du))
    · exact .inr ⟨ob, sp.keep a _ r (ne a n).1 (ne a n).2 (fun ps z => by cases z)⟩
  by_cases hn : n < l.length
  · obtain ⟨xd, hxd⟩ : ∃ xd, l[n]? = some xd := ⟨_, List.getElem?_eq_getElem hn⟩
    have edrop : l.drop n = xd :: l.drop (n + 1) := by
      rw [List.drop_eq_getElem_cons hn]
      rw [List.getElem?_eq_getElem hn] at hxd
      cases hxd
      rfl
    rw [edrop] at o'
    unfold forD at o'
    cases co : ownAt ρ' i with
    | true => rw [co] at o'; exact o'.elim
    | false =>
      rw [co] at o'
      simp only [Bool.false_eq_true, if_false] at o'
      refine .inr ⟨it.go n H' rdl hn, _, fun σ'' H'' hW => ⟨m - 1, by omega, hW⟩, fun xv H'' hy => ?_⟩
      obtain ⟨rfl, d, hd, rx⟩ := it.yld n H' xv H'' rdl hn hy
      rw [hxd] at hd
      cases hd
      have sub : ∀ a, bad g σ' ρ' a → plus X.K H1 (bad g σ ρ) a := fun a q => by
        have hk := st'.badK q
        rcases q with q | q
        · exact .inl (.inl q)
        · rcases sp.own a q with q | q
          · exact .inl (.inr q)
          · exact .inr ⟨q, hk⟩
      have s2 := st'.setv co (rx.less sub)
      have sp2 : Stp g.R σ' ρ' H'' (σ'.set i (some xv)) (ρ'.set i (some (.val xd))) H'' := .setv co trivial
      refine ⟨g, ρ'.set i (some (.val xd)), z', s2, ?_⟩
      cases e : B (ρ'.set i (some (.val xd))) z' with
      | nx ρ3 z3 =>
        rw [e] at o'
        exact fun σ3 H3 st3 s3 => ⟨ρ3, z3, by omega, st3, sp.trans (sp2.trans s3), OutOk.rebase o' (sp2.trans s3)⟩
      | ct ρ3 z3 =>
        rw [e] at o'
        exact fun σ3 H3 st3 s3 => ⟨ρ3, z3, by omega, st3, sp.trans (sp2.trans s3), OutOk.rebase o' (sp2.trans s3)⟩
      | bk ρ3 z3 =>
        rw [e] at o'
        exact fun σ3 H3 st3 s3 => o' σ3 H3 st3 (sp2.trans s3)
      | rt d z3 => rw [e] at o'; exact o'
      | exc x z3 => rw [e] at o'; exact o'
      | bad => rw [e] at o'; exact o'
  · refine .inl ⟨it.stop n H' rdl (by omega), ?_⟩
    rw [List.drop_of_length_le (by omega)] at o'
    exact o' σ' H' st' .refl
end

theorem st_start {K : PySem.W.Frag} {T : Tb} {mg : Str → Option Value} {E : XK} {N : List Str} {g : G} {H : Hp} {vs : List V} {ds : List D} {z : S} (h0 : g.H0 = H) (w : Wo K T g H z) (r : Rs K H g.R g.B vs ds) : StR ⟨K, T, mg, E⟩ g H (start N vs) (rho0 N.length ds) z := by
  have noOwn : ∀ (i : Nat) (d : D), (rho0 N.length ds)[i]? ≠ some (some (.own d)) := fun i d e => by
    unfold rho0 at e
    by_cases hi : i < ds.length
    · rw [List.getElem?_append_left (by simpa using hi), List.getElem?_map] at e
      rw [List.getElem?_eq_getElem hi] at e
      cases e
    · rw [List.getElem?_append_right (by simpa using hi), List.getElem?_replicate] at e
      split at e <;> cases e
  have be : bad g (start N vs) (rho0 N.length ds) = g.B := by
    funext a
    apply propext
    exact ⟨fun q => q.elim (fun q => q) fun ⟨i, d, h1, _⟩ => absurd h1 (noOwn i d), fun q => .inl q⟩
  refine ⟨by unfold gb; rw [be]; exact w.less (fun _ q => q) w.bad, w.bad, ?_, fun i d h => ?_, fun i d h => absurd h (noOwn i d), fun i j d e a h => absurd h (noOwn i d), by rw [h0]; exact .refl⟩
  · unfold L2.start rho0
    simp only [List.length_append, List.length_map, List.length_replicate, r.length]
  · rw [be]
    unfold rho0 at h
    by_cases hi : i < ds.length
    · rw [List.getElem?_append_left (by simpa using hi), List.getElem?_map] at h
      rw [List.getElem?_eq_getElem hi] at h
      cases h
      obtain ⟨v, h1, h2⟩ := r.get (List.getElem?_eq_getElem hi)
      refine ⟨v, ?_, h2⟩
      unfold L2.start
      rw [List.getElem?_append_left (by rw [List.length_map, r.length]; exact hi), List.getElem?_map, h1] <;> rfl
    · rw [List.getElem?_append_right (by simpa using hi), List.getElem?_replicate] at h
      split at h <;> cases h
/-- the reading of a def's body -/
theorem run_read {K : PySem.W.Frag} {T : Tb} {mg : Str → Option Value} {E : XK} {N : List Str} {n : Nat} {H : Hp} {vs : List V} {Q : VK} {B : SM} (h : spD K T mg n (runD N.length B) vs H Q E) :
    sD ⟨K, T, mg, E⟩ B { nx := fun _ H' => Q .non H', rt := Q } (start N vs) H := by
  obtain ⟨hn, g, ds, z, h0, w, r, a⟩ := h
  refine ⟨g, rho0 N.length ds, z, st_start h0 w r, ?_⟩
  unfold runD at a
  cases e : B (rho0 N.length ds) z with
  | nx ρ' z' =>
    rw [e] at a
    exact fun σ' H' st s => a .non H' st.wog (by rw [← h0]; exact st.ext) (.atom .non .nil)
  | rt d z' =>
    rw [e] at a
    exact fun v H' w' ex r' => a v H' w' (by rw [← h0]; exact ex) r'
  | bk ρ' z' => rw [e] at a; exact a.elim
  | ct ρ' z' => rw [e] at a; exact a.elim
  | exc x z' => rw [e] at a; exact a
  | bad => rw [e] at a; exact a.elim
end DL
set_option Elab.async false
set_option linter.all false
set_option maxRecDepth 100000
set_option maxHeartbeats 1000000
namespace DL
open PySem PySem.Spec PyProof.Rows L2 GxR

theorem pvD {X : Cx} {T : Tb} {E : XK} (i : Nat) {x : Str} {pos : Pos} (hN : X.N[i]? = some x := by rfl) (hv : Vis X.env.scope x := by first | exact Or.inl rfl | exact Or.inr (Or.inl rfl) | exact Or.inr (Or.inr rfl)) (hd : (x == ("__debug__" : Str)) = false := by decide)
    (hcd : (x == ("__classdict__" : Str)) = false := by decide) : PE X (.Name x pos) (tD (yx X T E) (eV i)) := pu_v hN hv hd hcd

section
variable {P : Program} {w : World} {K : PySem.W.Frag} {mg : Str → Option Value} {base : Heap} {T : Tb}
/-- a def by its body -/
theorem okD {x qual : Str} {st : Stmt} {f : Addr} {fd : FuncData} {N ps : List Str} {k : Nat} {B : SM} (F : Fun K x qual st f fd) (S : FnScope N ps (defScope st))
    (der : ∀ (cdv : Value) (A : Around) (outer : List Env) (s : Shared) (H : Hp) (E : XK), Room k (A.deeper (envOfC qual (defScope st) s.heap.objs.size f cdv)) → fd.code = cdv →
      PSs (cxOf CX0 P w K mg base N qual (defScope st) f cdv A outer s H E).nox (defBody st) (sD ⟨K, T, mg, E⟩ B)) :
    FnOk P w K mg base CX0 (k + 1) f fd ps (spD K T mg ps.length (runD N.length B)) := by
  obtain ⟨oc, od, kV, doc, pm, an, cdv, ct, osl, rfl, lk, hcd⟩ := F.ex
  refine fn_of lk hcd S (fun vs H Q E h => h.1) fun A outer s H vs Q E hr hsp => ?_
  exact ⟨_, (der cdv A outer s H E hr rfl).nox, run_read hsp⟩

theorem tabIn_of {y : Str} {f c P : Addr} {o1 : Value} {o2 : Option Addr} {fd : FuncData} {o4 : Array (Option Value)} {q1 : Value} {q2 : Option Addr} {vs : Array Value} {q4 : Array (Option Value)} (a : PySem.W.nsIn K mainGlobals y = some (some (.ref f))) (l : K.lookup f = some ⟨o1, o2, .func fd, o4⟩)
    (hc : fd.code = .ref c) (lc : K.lookup c = some ⟨q1, q2, .fields vs, q4⟩) (hv : vs[11]? = some (.ref P)) : PySem.W.tabIn K y = some (c, P) := by
  unfold PySem.W.tabIn
  rw [a]
  simp only [l, hc, lc, hv]
end

/-- a module's tuple, as it is written -/
theorem wr_atom {K : PySem.W.Frag} {v : V} {d : D} (h : ∀ R, Atom R v d) : WR K v d := fun H R B _ => .atom (h R) .nil
inductive WRs (K : PySem.W.Frag) : List V → List D → Prop
  | nil : WRs K [] []
  | cons {v : V} {d : D} {vs : List V} {ds : List D} : WR K v d → WRs K vs ds → WRs K (v :: vs) (d :: ds)
theorem WRs.rs {K : PySem.W.Frag} {H : Hp} {R : Addr} {B : Addr → Prop} (hB : ∀ a, B a → K.lookup a = none) {vs : List V} {ds : List D} (h : WRs K vs ds) : Rs K H R B vs ds := by
  induction h with
  | nil => exact .nil
  | cons a _ ih => exact Rs.cons (a H R B hB) ih
theorem wr_tup {K : PySem.W.Frag} {a : Addr} {its : Array Value} {n : Nat} {sl : Array (Option Value)} {us : List V} {ds : List D} (l : K.lookup a = some ⟨.type "tuple", none, .seq its n, sl⟩) (hz : its.size ≤ sizeLine) (hv : Vals us its.toList) (h : WRs K us ds) : WR K (.ref a) (.tup ds) :=
  fun H R B hB => .tup (.inr ⟨_, its, n, l, rfl, rfl, rfl, hz, hv⟩) (fun q => by rw [hB a q] at l; cases l) (h.rs hB) .nil

/-- walk_ofTs, where the tables of the top's defs are told -/
theorem walk_D {l : PySem.W.OpenLaw} {n k : Nat} {q : Program} {loose : List Str} {XP : (Str → Option Value) → Heap → Prop} {YP : World → Heap → Prop} {d : DefRec} {K : Params → PySem.W.Frag} {CX : World → CXT} {x : Str}
    (hn : l.most = some n) (hn2 : n ≤ sizeLine) (hdf : d.params.defaults = []) (hr : Room k callerA) (hY : ∀ (w : World) (h : Heap), YP w h → (K w.params).In h)
    (F : ∀ (w : World) (mg : Str → Option Value) (fa : Addr) (h : Heap), YP w h → (K w.params).In h → h.Ns mainGlobals mg → mg d.name = some (.ref fa) →
      (∀ (y : Str) (e : DefRec) (c P : Addr), (recsOf q).find? (fun e => e.name == y) = some e → PySem.W.tabIn (K w.params) y = some (c, P) → PySem.W.CodeHd h c P ∧ h.get? P = some { cls := .none, data := .fields #[] }) → LamX.LawAtS l w (K w.params) (CX w) k n x mg fa h)
    (hCX : ∀ (w : World) (H : Hp) (s : Shared) (e : Value) (s' : Shared), CX w [] H s (fun _ _ _ => False) e s' → False) :
    PySem.W.WalkO q loose XP YP l.row.toRowW d [] (fun f vs => PySem.call f vs) := by
  refine Att.attach_callB hn hdf fun w s₀ s₁ mg mb fa o pm cd doc a vs ns G Y ho hd hcd hmg hobj hints hlen hbits hg => ?_
  have KX := hY w _ Y
  obtain ⟨fd, cs, sp, hT, nT, C, hb, hsp, hF⟩ := F w mg fa _ Y KX G.T.g hmg fun y e c P h1 h2 => PySem.W.tab_of G.T KX h1 h2
  exact LamX.law_callTs KX G.T.g G.T.b G.T.builtins G.T.nolimit hg hT nT C G.T.bmain hobj hints (Nat.le_trans hlen hn2) hr hF hb (fun H hH hS => hsp H a ns hlen hbits hH hS) fun H e s' => hCX w H s₁ e s'
end DL
set_option Elab.async false
set_option linter.all false
set_option maxRecDepth 100000
set_option maxHeartbeats 2000000
namespace EN
open PySem PySem.Spec PyProof.Rows L2
/-- the tuple at a, each item in a new pair -/
def IteT (K : PySem.W.Frag) (a : Addr) : It :=
  ⟨fun i H => ∃ (xs : List V) (x : V), SqT K H a xs ∧ xs[i]? = some x, fun i H v H' => ∃ T x, v = .ref T ∧ H T = none ∧ H' = upd H T (.tup [.int (i : Nat), x]) ∧ ∀ xs, SqT K H a xs → xs[i]? = some x, fun i H => ∃ xs : List V, SqT K H a xs ∧ xs.length ≤ i⟩
def iEnumT (K : PySem.W.Frag) (ta : TA) : TI := fun σ H R => ta σ H fun vs H1 => ∃ a xs, vs = [.ref a] ∧ SqT K H1 a xs ∧ R (IteT K a) H1
end EN
set_option Elab.async false
set_option linter.all false
set_option maxRecDepth 100000
set_option maxHeartbeats 1000000
namespace DL
open PySem PySem.Spec PyProof.Rows L2

def eChain (F F' : D → D → M D) (fa fb fc : EnD → M D) : EnD → M D := fun ρ => mbind (fa ρ) fun x => mbind (fb ρ) fun y => mbind (F x y) fun r => mbind (mopt (asB r)) fun k =>
  if k then mbind (fc ρ) fun w => F' y w else mpure (.bl false)
def tyD : D → Option String
  | .non => some "NoneType"
  | .bl _ => some "bool"
  | .int _ => some "int"
  | .str _ => some "str"
  | .tup _ => some "tuple"
  | .wt _ => some "tuple"
  | .lst _ => some "list"
  | .dS _ => some "dict"
  | _ => none
def isK (t c : String) : Bool := t == c || (t == "bool" && c == "int")
def isiD (cs : List String) (d : D) : Option D := (tyD d).map fun t => .bl (cs.any (isK t))
def sPar (i j : Nat) (fa fb : EnD → M D) : SM := fun ρ z => obind (evs [fa, fb] ρ z) fun ds z' => match ds with
  | [a, b] => if ownAt ρ i || ownAt ρ j then .bad else .nx ((ρ.set i (some (.val a))).set j (some (.val b))) z'
  | _ => .bad

section
variable {X : L2.Cx} {T : Tb} {E : XK} {e a b c : Expr} {f fa fb fc : EnD → M D} {pos pos' p : Pos} {σ : L2.St} {H : Hp} {Q : VK} {x y : Str} {i j : Nat}
theorem pu_neg (ha : PE X a (tD (yx X T E) fa)) : PE X (.UnaryOp .USub a pos) (tD (yx X T E) (e1 (op1 negD) fa)) :=
  PE_imp (pe_un un_neg ha) fun σ H Q h => by
    obtain ⟨g, ρ, z, st, a⟩ := tD_bind (k := fun _ => op1 negD) h
    exact ⟨g, ρ, z, st, a.imp fun d z1 _ h1 v H1 st1 e1 r1 => by
      obtain ⟨g2, ρ2, z2, d2, st2, r2, a2⟩ := h1 v H1 st1 e1 r1
      obtain ⟨r, hr, q⟩ := a2.opt
      cases d2 <;> simp only [negD, reduceCtorEq, Option.some.injEq] at hr
      subst hr
      cases r2.int
      exact ⟨_, rfl, q _ H1 st2 .refl (.atom .int .nil)⟩⟩
def mulI : D → D → Option D
  | .int i, .int j => if (-(2 ^ 64) < i ∧ i < 2 ^ 64) ∨ (-(2 ^ 64) < j ∧ j < 2 ^ 64) then some (.int (i * j)) else none
  | _, _ => none
theorem od_mulI : OpD X T E (binaryOp .Mult) (op2 mulI) := opD_flat fun H R B v w d e r Q rv rw' h q => by
  unfold mulI at h
  split at h
  · split at h
    · rename_i c; cases h; cases rv.int; cases rw'.int; exact ⟨_, op_mul, _, _, rfl, rfl, c, q _ .int⟩
    · cases h
  · cases h
theorem set2 {g : G} {ρ : EnD} {z : S} {v w : V} {d e : D} {H : Hp} (st : StR (yx X T E) g H σ ρ z) (c1 : ownAt ρ i = false) (c2 : ownAt ρ j = false) (rv : R1 X.K H g.R (bad g σ ρ) v d) (rw' : R1 X.K H g.R (bad g σ ρ) w e) :
    StR (yx X T E) g H ((σ.set i (some v)).set j (some w)) ((ρ.set i (some (.val d))).set j (some (.val e))) z ∧ Stp g.R σ ρ H ((σ.set i (some v)).set j (some w)) ((ρ.set i (some (.val d))).set j (some (.val e))) H := by
  have s1 := st.setv c1 rv
  have c3 : ownAt (ρ.set i (some (.val d))) j = false := by rw [ownAt_set c1 (y := some (.val d)) trivial]; exact c2
  exact ⟨s1.setv c3 (by rw [bad_setv c1]; exact rw'), (Stp.setv c1 (y := some (.val d)) trivial).trans (.setv c3 trivial)⟩
theorem kit_all : ∀ a ∈ ["NoneType", "bool", "int", "str", "tuple", "list", "dict"], ∀ b ∈ ["bool", "int", "str", "tuple", "list"], kitB a b = some (isK a b) := by decide +kernel
theorem tyx_of {K : PySem.W.Frag} {H : Hp} {R : Addr} {B : Addr → Prop} {v : V} {d : D} {t : String} (r : R1 K H R B v d) (h : tyD d = some t) : TyX K H v (.type t) ∧ t ∈ ["NoneType", "bool", "int", "str", "tuple", "list", "dict"] := by
  cases d <;> simp only [tyD, reduceCtorEq, Option.some.injEq] at h
  all_goals subst h
  case non => cases r.non; exact ⟨.base .non, by decide⟩
  case bl => cases r.bl; exact ⟨.base (.bl _), by decide⟩
  case int => cases r.int; exact ⟨.base (.int _), by decide⟩
  case str => cases r.str; exact ⟨.base (.str _), by decide⟩
  case tup =>
    obtain ⟨a, us, rfl, s, n, rs⟩ := r.tupl
    refine ⟨?_, by decide⟩
    rcases s with ⟨o, h, _⟩ | ⟨o, its, m, h, c, _⟩
    · exact .fTuple h
    · exact .kTuple h c
  case wt =>
    refine ⟨?_, by decide⟩
    cases r with
    | atom a _ => cases a
    | wt s n r _ =>
      rcases s with (h | ⟨o, h⟩) | ⟨o, its, m, h, c, _⟩
      · exact .base (.tup h)
      · exact .fTuple h
      · exact .kTuple h c
  case lst =>
    obtain ⟨a, us, rfl, s, n, rs⟩ := r.list
    exact ⟨.base (.lst s), by decide⟩
  case dS =>
    obtain ⟨a, kvs, rfl, s, n, rs⟩ := r.dictS
    refine ⟨?_, by decide⟩
    rcases s with s | ⟨o, s⟩
    · exact .base (.dK s)
    · exact .fDict s
/-- names of types -/
structure BT (X : L2.Cx) (es : List Expr) (cs : List String) : Prop where
  run : PA X es fun _ H Q => Q (cs.map V.ty) H
theorem pu_isi1 {c : Str} {n : String} {pc : Pos} (hg : Gl X "isinstance") (hm : X.mg "isinstance" = none) (ha : PE X a (tD (yx X T E) fa)) (hgc : Gl X c) (hmc : X.mg c = none) (hv : bootBuiltins c = some (.type n)) (hcs : n ∈ ["bool", "int", "str", "tuple", "list"] := by decide) (hn : c ≠ "__name__" := by decide) (hd : (c == ("__debug__" : Str)) = false := by decide)
    (hs : starEach [a, .Name c pc] X.env = (false, eval a X.env) :: starEach [.Name c pc] X.env := by rfl) (hs2 : starEach [.Name c pc] X.env = (false, eval (.Name c pc) X.env) :: starEach [] X.env := by rfl)
    (hpl : (backTo pos (starEach [.Name c pc] X.env)).any (·.1) = false := by rfl) : PE X (.Call (.Name "isinstance" p) [a, .Name c pc] [] pos) (tD (yx X T E) (e1 (op1 (isiD [n])) fa)) :=
  PE_imp (pe_callB call_isi hg hm PyProof.Rows.boot_isinstance (pa_cons ha (pa_cons (pe_bltn (v := .ty n) hgc hmc hv rfl hn hd) pa_nil hs2) hs) (by decide) (by decide) hs hpl) fun σ H Q h => by
    obtain ⟨g, ρ, z, st, a⟩ := tD_bind (k := fun _ => op1 (isiD [n])) h
    refine ⟨g, ρ, z, st, a.imp fun d z1 _ h1 v H1 st1 e1 r1 => ?_⟩
    obtain ⟨g2, ρ2, z2, d2, st2, r2, a2⟩ := h1 v H1 st1 e1 r1
    obtain ⟨r, hr, q⟩ := a2.opt
    obtain ⟨t, ht, rfl⟩ := Option.map_eq_some_iff.mp hr
    obtain ⟨ty, hin⟩ := tyx_of r2 ht
    have hk : PySem.W.kitOne X.K (.type t) (.type n) = some (isK t n) := kit_ty (kit_all t hin n hcs)
    refine ⟨v, .ty n, _, _, _, rfl, .ty n, ty, hk, ?_⟩
    have := q _ H1 st2 .refl (.atom .bl .nil)
    simpa using this
end
end DL
set_option Elab.async false
set_option linter.all false
set_option maxRecDepth 100000
set_option maxHeartbeats 1000000
namespace DL
open PySem PySem.Spec PyProof.Rows L2 EN

def Yn (H H' : Hp) : Prop := H' = H ∨ ∃ p us, H p = none ∧ H' = upd H p (.tup us)
theorem Yn.ext {R : Addr} {H H' : Hp} (y : Yn H H') : Ext R H H' := by
  rcases y with rfl | ⟨p, us, hp, rfl⟩
  · exact .refl
  · exact .new hp
theorem Yn.st {Y : Yx} {g : G} {H H' : Hp} {σ : L2.St} {ρ : EnD} {z : S} (y : Yn H H') (st : StR Y g H σ ρ z) : StR Y g H' σ ρ z := by
  rcases y with rfl | ⟨p, us, hp, rfl⟩
  · exact st
  · exact st.new hp
/-- an iterator that hands out pairs -/
structure ItE (K : PySem.W.Frag) (R : Addr) (B : Addr → Prop) (H1 : Hp) (J : It) (xs : List (D × D)) : Prop where
  go : ∀ i H, RdLe B H1 H → i < xs.length → J.go i H
  yld : ∀ i H x H', RdLe B H1 H → i < xs.length → J.yld i H x H' → Yn H H' ∧ ∃ d a va vb, xs[i]? = some d ∧ x = .ref a ∧ SqT K H' a [va, vb] ∧ R1 K H' R (plus K H1 B) va d.1 ∧ R1 K H' R (plus K H1 B) vb d.2
  stop : ∀ i H, RdLe B H1 H → xs.length ≤ i → J.stop i H
def tiE (Y : Yx) (f : EnD → M (List (D × D))) : TI := fun σ H R => ∃ g ρ z, StR Y g H σ ρ z ∧ After Y g (f ρ z) fun xs z' => ∀ J H1, StR Y g H1 σ ρ z' → Ext g.R H H1 → ItE Y.K g.R (bad g σ ρ) H1 J xs → R J H1
def pairOf : D → Option (D × D)
  | .tup [a, b] => some (a, b)
  | .wt [a, b] => some (a, b)
  | _ => none
def forP (i j : Nat) (body : SM) : List (D × D) → SM
  | [], ρ, z => .nx ρ z
  | (a, b) :: xs, ρ, z => if ownAt ρ i || ownAt ρ j then .bad else match body ((ρ.set i (some (.val a))).set j (some (.val b))) z with
      | .nx ρ' z' => forP i j body xs ρ' z'
      | .ct ρ' z' => forP i j body xs ρ' z'
      | .bk ρ' z' => .nx ρ' z'
      | o => o
def sForP (i j : Nat) (xs : EnD → M (List (D × D))) (body : SM) : SM := fun ρ z => obind (xs ρ z) fun l z' => forP i j body l ρ z'
def enumD : Nat → List D → List (D × D)
  | _, [] => []
  | k, x :: r => (.int k, x) :: enumD (k + 1) r
def iEn (f : EnD → M D) : EnD → M (List (D × D)) := fun ρ => mbind (f ρ) fun d => mopt ((asT d).map (enumD 0))
/-- a list, a tuple of pairs -/
def iPr (f : EnD → M D) : EnD → M (List (D × D)) := fun ρ => mbind (f ρ) fun d => mopt ((items d).bind fun xs => xs.mapM pairOf)

section
variable {X : L2.Cx} {T : Tb} {E : XK} {A B : SM} {f fa fb : EnD → M D} {fi : EnD → M (List (D × D))} {e a b tg iter : Expr} {pos pos' p : Pos} {σ : L2.St} {H : Hp} {Q : VK} {x y : Str} {i j : Nat}
theorem RdLe.new {B : Addr → Prop} {H : Hp} {p : Addr} {o : HO} (hp : H p = none) : RdLe B H (upd H p o) := by
  refine ⟨fun a u n du r => ?_, fun a ob us n e => by rw [upd_ne (ne_of_none e hp)]; exact e, fun a us n e => by rw [upd_ne (ne_of_none e hp)]; exact e⟩
  rcases r with r | ⟨ob, r⟩
  · exact .inl (by rw [upd_ne (ne_of_none r hp)]; exact r)
  · exact .inr ⟨ob, by rw [upd_ne (ne_of_none r hp)]; exact r⟩
end
end DL
set_option Elab.async false
set_option linter.all false
set_option maxRecDepth 100000
set_option maxHeartbeats 1000000
namespace CMB
open PySem PySem.Spec PyProof.Rows L2
/-- all the indices, in their order -/
structure SeqC (n r : Nat) (L : List (List Nat)) : Prop where
  none : n < r → L = []
  first : r ≤ n → L[0]? = some (List.range r)
  next : ∀ i a, L[i]? = some a → a.length = r ∧ nxtC n a = L[i + 1]?
def rowV (vs : List V) (idx : List Nat) : List V := idx.map fun i => vs.getD i .non
def ItC (us : List (List V)) : It :=
  ⟨fun i _ => i < us.length, fun i H x H' => ∃ p ob row, us[i]? = some row ∧ x = .ref p ∧ H p = none ∧ H' = upd H p (.frz ob (.tup row)) ∧ ob.dict = none, fun i _ => us.length ≤ i⟩
theorem vals_getD : ∀ {vs : List V} {us : List Value}, Vals vs us → ∀ i, RelV (vs.getD i .non) (us.getD i .none)
  | _, _, .nil, i => by simp; rfl
  | _, _, .cons r t, 0 => by simpa using r
  | _, _, .cons r t, i + 1 => by simpa using vals_getD t i
theorem vals_row {vs : List V} {items : Array Value} (h : Vals vs items.toList) : ∀ idx : List Nat, Vals (rowV vs idx) (picked items idx)
  | [] => .nil
  | i :: idx => .cons (by
      have := vals_getD h i
      simpa [Array.getD_eq_getD_getElem?, List.getD_eq_getElem?_getD] using this) (vals_row h idx)
/-- where it stands before turn i -/
def StC (it pl : Addr) (items : Array Value) (n r : Nat) (L : List (List Nat)) (i : Nat) (h : Heap) : Prop :=
  h.IsTuple pl items ∧ ((i = 0 ∧ IsComb h it pl (if n < r then 2 else 0) .none (List.range r)) ∨ ∃ k idx last, i = k + 1 ∧ L[k]? = some idx ∧ IsComb h it pl 1 last idx)
theorem comb_ne {h : Heap} {it pl : Addr} {st : Int} {last : Value} {idx : List Nat} {items : Array Value} (hit : IsComb h it pl st last idx) (hpl : h.IsTuple pl items) : pl ≠ it := fun e => by
  obtain ⟨o, ho, hc, _⟩ := hpl
  subst e
  cases hit.symm.trans ho
  exact absurd (Value.type.inj hc) (by decide)
theorem StC.there {it pl : Addr} {items : Array Value} {n r : Nat} {L : List (List Nat)} {i : Nat} {h : Heap} (st : StC it pl items n r L i h) : ∃ st' last idx, IsComb h it pl st' last idx := by
  rcases st.2 with ⟨_, q⟩ | ⟨_, _, _, _, _, q⟩
  · exact ⟨_, _, _, q⟩
  · exact ⟨_, _, _, q⟩
theorem turn_comb {P : Program} {w : World} {K : PySem.W.Frag} {tg : Expr} {it pl : Addr} {items : Array Value} {vs : List V} {r : Nat} {L : List (List Nat)} (hv : Vals vs items.toList) (hL : SeqC items.size r L) (hr : r ≤ 1000) :
    Turn P w K tg (ItC (L.map (rowV vs))) [it, pl] it (StC it pl items items.size r L) where
  mem := by simp
  obj := fun i h st b hb => by
    obtain ⟨st', last, idx, hit⟩ := st.there
    have e' : b = it ∨ b = pl := by simpa using hb
    rcases e' with rfl | rfl
    · exact ⟨_, hit, fun v z => nomatch z⟩
    · obtain ⟨o, ho, _, n, hd⟩ := st.1
      exact ⟨o, ho, fun v z => by rw [hd] at z; cases z⟩
  keep := fun i h h' st k => by
    refine ⟨?_, ?_⟩
    · obtain ⟨o, ho, r⟩ := st.1
      exact ⟨o, k pl (by simp) o ho, r⟩
    · rcases st.2 with ⟨e, q⟩ | ⟨m, idx, last, e, q1, q⟩
      · exact .inl ⟨e, k it (by simp) _ q⟩
      · exact .inr ⟨m, idx, last, e, q1, k it (by simp) _ q⟩
  item := by
    intro X hP hw hK hc i pins s σ H E I hf st hg
    subst hP hw hK
    have hg : i < L.length := by simpa [ItC] using hg
    obtain ⟨row, hrow⟩ : ∃ row, L[i]? = some row := ⟨_, List.getElem?_eq_getElem hg⟩
    have hlen := (hL.next i row hrow).1
    obtain ⟨hpl, hst⟩ := st
    have fin : ∀ (st' : Int) (last : Value) (idx0 : List Nat), IsComb s.heap it pl st' last idx0 → ∀ h', h'.get? s.heap.objs.size = some { cls := .type "tuple", data := .seq (picked items row).toArray } → IsComb h' it pl 1 (.ref s.heap.objs.size) row → (∀ b o, b ≠ it → s.heap.get? b = some o → h'.get? b = some o) →
        ∃ u, (some (Value.ref s.heap.objs.size)) = some u ∧ wpAny (model X.prog X.w) X.A (letOwnedTupleGo tg (.ref it) u) (fun _ s2 => ∃ x H', Inv X pins σ H' s2 ∧ RelV x u ∧ (ItC (L.map (rowV vs))).yld i H x H' ∧ StC it pl items items.size r L (i + 1) s2.heap ∧ ∀ b ∈ [it, pl], H' b = Option.none) E { s with heap := h' } := by
      intro st' last idx0 hit h' hT hit' hk
      have hne := comb_ne hit hpl
      have ob : Obj := { cls := .type "tuple", data := .seq (picked items row).toArray }
      have hl : (rowV vs row).length ≤ sizeLine := by unfold rowV; rw [List.length_map, hlen, sizeLine_eq]; omega
      have new : ObjOk X.prog X.w (upd H s.heap.objs.size (.frz { cls := .type "tuple", data := .seq (picked items row).toArray } (.tup (rowV vs row)))) h' s.heap.objs.size (.frz { cls := .type "tuple", data := .seq (picked items row).toArray } (.tup (rowV vs row))) :=
        ⟨hT, hl, _, vals_row hv row, _, hT, rfl, _, rfl⟩
      have I1 : Inv X pins σ (upd H s.heap.objs.size (.frz { cls := .type "tuple", data := .seq (picked items row).toArray } (.tup (rowV vs row)))) { s with heap := h' } :=
        I.turnedNew (t' := s.toks) (ch := [it, pl]) (fun b o hb e => hk b o (fun z => hb (by simp [z])) e) hf (Nat.le_refl _) new
      refine ⟨_, rfl, go_of (s := { s with heap := h' }) (n := "itertools.combinations") hit' rfl rfl (by decide) ⟨.ref s.heap.objs.size, _, I1, rfl, ⟨_, _, rowV vs row, by rw [List.getElem?_map, hrow]; rfl, rfl, I.hok.fresh (Nat.le_refl _), rfl, rfl⟩, ⟨?_, .inr ⟨i, row, _, rfl, hrow, hit'⟩⟩, fun b hb => ?_⟩⟩
      · obtain ⟨o, ho, q⟩ := hpl
        exact ⟨o, hk pl o hne ho, q⟩
      · have hlt : b < s.heap.objs.size := by
          have e' : b = it ∨ b = pl := by simpa using hb
          rcases e' with rfl | rfl
          · exact Heap.lt_size hit
          · obtain ⟨o, ho, _⟩ := hpl; exact Heap.lt_size ho
        rw [upd_ne (Nat.ne_of_lt hlt)]
        exact (hf b hb).1
    rcases hst with ⟨e, hit⟩ | ⟨m, idx, last, e, hm, hit⟩
    · subst e
      have hle : r ≤ items.size := by
        refine Nat.le_of_not_lt fun c => ?_
        rw [hL.none c] at hg
        exact absurd hg (Nat.not_lt_zero _)
      rw [if_neg (by omega)] at hit
      have hrow2 := hL.first hle
      rw [hrow] at hrow2
      cases hrow2
      exact comb_first hit hpl (by rw [hlen]; exact hr) fun h' hT hit' hk => fin _ _ _ hit h' hT hit' hk
    · subst e
      have hn := (hL.next m idx hm).2
      rw [hrow] at hn
      exact comb_next hit hpl hn (by rw [hlen]; exact hr) fun h' hT hit' hk => fin _ _ _ hit h' hT hit' hk
  done := by
    intro X hP hw hK hc i pins s σ H E I hf st hg
    subst hP hw hK
    have hg : L.length ≤ i := by simpa [ItC] using hg
    obtain ⟨hpl, hst⟩ := st
    have fin : ∀ h', (∀ b o, b ≠ it → s.heap.get? b = some o → h'.get? b = some o) → (Option.none : Option Value) = Option.none ∧ Inv X pins σ H { s with heap := h' } := fun h' hk =>
      ⟨rfl, I.turnedL (t' := s.toks) (ch := [it, pl]) (fun b o hb e => hk b o (fun z => hb (by simp [z])) e) hf⟩
    rcases hst with ⟨e, hit⟩ | ⟨m, idx, last, e, hm, hit⟩
    · subst e
      have hlt : items.size < r := by
        refine Nat.lt_of_not_le fun c => ?_
        have := hL.first c
        have h0 := (List.getElem?_eq_some_iff.mp this).1
        omega
      rw [if_pos hlt] at hit
      exact comb_end (I.ok.hd hc) hit hpl (.inl rfl) fun h' hk => fin h' hk
    · subst e
      have hn := (hL.next m idx hm).2
      rw [List.getElem?_eq_none hg] at hn
      exact comb_end (I.ok.hd hc) hit hpl (.inr ⟨rfl, hn⟩) fun h' hk => fin h' hk
  self := fun A i s Q E st h => by
    obtain ⟨st', last, idx, hit⟩ := st.there
    exact iter_comb hit h
/-- a list's combinations -/
def iComb (K : PySem.W.Frag) (ta : TA) : TI := fun σ H R => ta σ H fun vs H1 => ∃ (a : Addr) (xs : List V) (r : Int) (L : List (List Nat)), vs = [.ref a, .int r] ∧ SqL K H1 a xs ∧ 0 ≤ r ∧ r < 1000 ∧ SeqC xs.length r.toNat L ∧ R (ItC (L.map (rowV xs))) H1
theorem pi_comb {X : Cx} {tg e e2 : Expr} {ta : TA} {x : Str} {p pos : Pos} (hg : Gl X x) (hm : X.mg x = some (.type "itertools.combinations")) (ha : PA X [e, e2] ta) (hdb : (x == ("__debug__" : Str)) = false := by decide)
    (hs : starEach [e, e2] X.env = (false, eval e X.env) :: starEach [e2] X.env := by rfl) (hpl : (backTo pos (starEach [e2] X.env)).any (·.1) = false := by rfl) : PI X tg (.Call (.Name x p) [e, e2] [] pos) (iComb X.K ta) := by
  refine ⟨fun pins s σ H R I h => Call_ (ld_glob I hg hm (PyProof.Rows.callWith_type1 (thn (ha.run pos pins s σ H _ I h) fun us s1 ⟨vs, H1, I1, r1, q1⟩ => ?_) hs hpl) hdb)⟩
  obtain ⟨a, xs, r, L, ex, hq, h0, h1, hL, q⟩ := q1
  subst ex
  cases r1 with
  | cons ra rr =>
    cases rr with
    | cons rb rr =>
      cases rr
      cases ra
      obtain ⟨t, rfl⟩ := rb
      obtain ⟨its, rv, pl, hz⟩ := I1.list hq
      obtain ⟨o, n, ho, hc, _, hd⟩ := pl
      have hsz : its.toArray.size = xs.length := by rw [List.size_toArray, rv.length]
      refine call_comb (items := its.toArray) ho hc hd (by rw [hsz]; exact hz) h0 h1 fun h' hk => ?_
      have I2 : Inv X pins σ H1 { s1 with heap := h' } := I1.kept (t' := s1.toks) hk
      have z1 : (h'.push { cls := .type "tuple", data := .seq its.toArray }).objs.size = h'.objs.size + 1 := Heap.size_push ..
      have g1 : ((h'.push { cls := .type "tuple", data := .seq its.toArray }).push (combO h'.objs.size (if r.toNat > its.toArray.size then 2 else 0) .none (List.range r.toNat))).get? (h'.push { cls := .type "tuple", data := .seq its.toArray }).objs.size = some _ := Heap.get?_push_size _ rfl
      have g2 : ((h'.push { cls := .type "tuple", data := .seq its.toArray }).push (combO h'.objs.size (if r.toNat > its.toArray.size then 2 else 0) .none (List.range r.toNat))).get? h'.objs.size = some _ := Heap.get?_push_of_some _ (Heap.get?_push_size _ rfl)
      have I3 : Inv X pins σ H1 { s1 with heap := (h'.push { cls := .type "tuple", data := .seq its.toArray }).push (combO h'.objs.size (if r.toNat > its.toArray.size then 2 else 0) .none (List.range r.toNat)) } :=
        I2.kept (t' := s1.toks) fun b o e => Heap.get?_push_of_some _ (Heap.get?_push_of_some _ e)
      refine iter_comb g1 ⟨_, [(h'.push { cls := .type "tuple", data := .seq its.toArray }).objs.size, h'.objs.size], _, _, H1, rfl, I3, turn_comb (vs := xs) (items := its.toArray) (r := r.toNat) (L := L) (pl := h'.objs.size) (by simpa using rv) (by rw [hsz]; exact hL) (by omega), ⟨⟨_, g2, rfl, _, rfl⟩, .inl ⟨rfl, ?_⟩⟩, fun b hb => ?_, q⟩
      · exact g1
      · have hle : h'.objs.size ≤ b := by
          have e' : b = (h'.push { cls := .type "tuple", data := .seq its.toArray }).objs.size ∨ b = h'.objs.size := by simpa using hb
          rcases e' with e | e
          · rw [e, z1]; exact Nat.le_succ _
          · rw [e]; exact Nat.le_refl _
        exact I2.fpOk hle (I2.hok.fresh hle)
end CMB
set_option Elab.async false
set_option linter.all false
set_option maxRecDepth 100000
set_option maxHeartbeats 1000000
namespace LZ
open PySem
open PySem.Sem (wp)
open RZ
section
variable {prog : Program} {w : World} {A : Around} {E : Value → Shared → Prop} {s : Shared}
/-- what lies apart -/
structure Apart (z TI TO i1 i2 l : Addr) : Prop where
  TIz : TI ≠ z
  TOz : TO ≠ z
  i1z : i1 ≠ z
  i2z : i2 ≠ z
  TIi1 : TI ≠ i1
  TIi2 : TI ≠ i2
  TITO : TI ≠ TO
  TOi1 : TO ≠ i1
  TOi2 : TO ≠ i2
  i12 : i1 ≠ i2
  lz : l ≠ z
  lTO : l ≠ TO
  li1 : l ≠ i1
  li2 : l ≠ i2
abbrev IsZ (h : Heap) (z TI TO : Addr) (f0 : Value) (f1 : Bool) : Prop :=
  h.get? z = some { cls := .type "zip", dict := none, data := .fields #[f0, .bool f1, .bool false, .ref TI, .ref TO], slots := #[] }
/-- the zip's state: not begun, or a tuple of it is kept -/
def ZSt (h : Heap) (z TI TO S : Addr) (i : Nat) : Prop := (i = 0 ∧ ∃ a b, IsZ h z TI TO .none false ∧ IsPair h TO a b) ∨ (0 < i ∧ ∃ (p : Addr) (f : Bool) (op : Obj), IsZ h z TI TO (rawInt p) f ∧ h.get? p = some op ∧ p ≠ z ∧ p ≠ S ∧ TO < p ∧ z < p)
end
end LZ
set_option Elab.async false
set_option linter.all false
set_option maxRecDepth 100000
set_option maxHeartbeats 1000000
namespace LZ
open PySem
open PySem.Sem (wp)
open RZ
abbrev zH1 (h : Heap) (l : Addr) : Heap := h.push { cls := .type "list_iterator", data := .fields #[.ref l, .int 0 0] }
abbrev zH2 (h : Heap) (l : Addr) (y : Str) (t : Tok) : Heap := (zH1 h l).push { cls := .type "str_ascii_iterator", data := .fields #[.str y t, .int 0 0] }
abbrev zH3 (h : Heap) (l : Addr) (y : Str) (t : Tok) : Heap := (zH2 h l y t).push { cls := .type "tuple", data := .seq #[.ref h.objs.size, .ref (zH1 h l).objs.size] }
abbrev zH4 (h : Heap) (l : Addr) (y : Str) (t : Tok) : Heap := (zH3 h l y t).push { cls := .type "tuple", data := .seq #[.none, .none] }
abbrev zH5 (h : Heap) (l : Addr) (y : Str) (t : Tok) : Heap := (zH4 h l y t).push { cls := .type "zip", data := .fields #[.none, .bool false, .bool false, .ref (zH2 h l y t).objs.size, .ref (zH3 h l y t).objs.size] }
section
variable {prog : Program} {w : World} {A : Around} {E : Value → Shared → Prop} {s : Shared}
end
/-- the tuples made: rising addresses, each a pair of the list's item and a sign -/
structure Made (xs : Array Value) (y : Str) (lo : Addr) (h : Heap) (as : List Addr) : Prop where
  rise : as.Pairwise (· < ·)
  above : ∀ a ∈ as, lo < a
  pairs : ∀ (j : Nat) (a : Addr), as[j]? = some a → ∃ x c tk, xs[j]? = some x ∧ y.cps[j]? = some c ∧ IsPair h a x (.str ⟨#[c]⟩ tk)
theorem Made.there {xs : Array Value} {y : Str} {lo : Addr} {h : Heap} {as : List Addr} (g : Made xs y lo h as) {a : Addr} (ha : a ∈ as) : a < h.objs.size := by
  obtain ⟨j, hj⟩ := List.mem_iff_getElem?.mp ha
  obtain ⟨_, _, _, _, _, e⟩ := g.pairs j a hj
  exact Heap.lt_size e
section
variable {prog : Program} {w : World} {A : Around} {s : Shared} {R : Result → Shared → Prop} {xs : Array Value} {y : Str} {t : Tok}
end
end LZ
set_option Elab.async false
set_option linter.all false
set_option maxRecDepth 100000
set_option maxHeartbeats 1000000
namespace LZ
open PySem
open PySem.Sem (wp)
open RZ L2
section
variable {prog : Program} {w : World} {A : Around} {E : Value → Shared → Prop} {s : Shared} {xs : Array Value} {y : Str} {t : Tok}
end
end LZ
set_option Elab.async false
set_option linter.all false
set_option maxRecDepth 100000
set_option maxHeartbeats 1000000
namespace L2
open PySem PySem.Spec PyProof.Rows
section
variable {X : Cx}
/-- its reading -/
def tLz (K : PySem.W.Frag) (ta : TA) : TE := fun σ H Q => ta σ H fun vs H1 => ∃ (a : Addr) (xs : List V) (y : Str), vs = [.ref a, .str y] ∧ SqL K H1 a xs ∧ y.cps.all (· < 128) = true ∧ y.cps.size = xs.length ∧ 0 < xs.length ∧
  ∀ (H2 : Hp) (p : Addr) (as : List Addr), H1 p = none → p ∉ as → as.Nodup → as.length = xs.length → (∀ b, b ∉ as → b ≠ p → H2 b = H1 b) → H2 p = some (.lst (as.map V.ref)) →
    (∀ (j : Nat) (b : Addr), as[j]? = some b → H1 b = none ∧ ∃ (x : V) (c : Nat) (ob : Obj), xs[j]? = some x ∧ y.cps[j]? = some c ∧ H2 b = some (.frz ob (.tup [x, .str ⟨#[c]⟩])) ∧ ob.dict = none) → Q (.ref p) H2
end
end L2
set_option Elab.async false
set_option linter.all false
set_option maxRecDepth 100000
set_option maxHeartbeats 1000000
namespace DL
open PySem PySem.Spec PyProof.Rows L2

section
variable {X : L2.Cx} {pins : List (Addr × Obj)} {σ : L2.St} {H : Hp} {s : Shared}
/-- what {k: v for target in iter if ..} asks, the keys tuples of texts -/
def tDcT (X : L2.Cx) (wi : TI) (g : TG) (tt : TT) (tk tv : TE) (vs : List Nat) : TE := fun σ H Q => wi σ H fun J H1 => ∀ D o0, H1 D = none → X.K.lookup D = none → TDo (hsOf X.prog X.w) D o0 [] → ∃ W : Nat → Nat → Hp → Prop, (∃ m, W 0 m (upd H1 D (.frz o0 (alive D)))) ∧ ∀ n m H, W n m H →
  (J.stop n H ∧ Q (.ref D) H) ∨ (J.go n H ∧ ∃ Nx : Hp → Prop, (∀ H', Nx H' → ∃ m', m' < m ∧ W (n + 1) m' H') ∧ ∀ x H', J.yld n H x H' → g x (wipe σ vs) H' fun σ2 H2 => wipe σ2 vs = wipe σ vs ∧ tt σ2 H2 fun c H3 =>
    if c = true then tk σ2 H3 fun y H4 => tv σ2 H4 fun z H5 => ∃ o xs k b, y = .ref b ∧ H5 D = some (.frz o (alive D)) ∧ TDo (hsOf X.prog X.w) D o xs ∧ xs.length < sizeLine ∧ (∀ x ∈ xs, SqT X.K H5 x.2.1 (x.1.map kV)) ∧ SqT X.K H5 b (k.map kV) ∧
      ∀ u o', RelV z u → TDo (hsOf X.prog X.w) D o' (storedH xs k b u) → Nx (upd H5 D (.frz o' (alive D))) else Nx H3)
abbrev AllBlk (X : L2.Cx) (scope : Scope) (p : L2.Cx → Prop) : Prop := ∀ (s : Shared) (H : Hp) (C : Addr) (cl : List (Str × Addr)) (fp : List Addr), p (X.blk s H scope (compEnvC scope cl C X.env) fp)
end
end DL
set_option Elab.async false
set_option linter.all false
set_option maxRecDepth 100000
set_option maxHeartbeats 1000000
namespace DL
open PySem PySem.Spec PyProof.Rows L2

def evsN : List (EnD → M D) → EnD → M (List D)
  | [] => fun _ => mpure []
  | f :: fs => fun ρ => mbind (mne (f ρ)) fun d => mbind (evsN fs ρ) fun ds => mpure (d :: ds)
def putAll (acc : List (List Nat × D)) : List (List Nat × D) → List (List Nat × D)
  | [] => acc
  | p :: r => putAll (putS acc p.1 p.2) r
def eDisp (ps : List (List Nat × (EnD → M D))) : EnD → M D := fun ρ => mbind (evsN (ps.map (·.2)) ρ) fun ds => mpure (.dS (putAll [] ((ps.map (·.1)).zip ds)))
theorem evsN_len {fs : List (EnD → M D)} : ∀ {ρ : EnD} {z z' : S} {ds : List D}, evsN fs ρ z = .ok ds z' → ds.length = fs.length := by
  induction fs with
  | nil => intro ρ z z' ds h; simp [evsN, mpure] at h; simp [h.1]
  | cons f fs ih =>
    intro ρ z z' ds h
    unfold evsN mbind at h
    cases e : mne (f ρ) z with
    | ok d z1 =>
      rw [e] at h
      simp only at h
      cases e2 : evsN fs ρ z1 with
      | ok es z2 =>
        simp only [mbind, e2, mpure, Res.ok.injEq] at h
        rw [← h.1, List.length_cons, List.length_cons, ih e2]
      | exc x z2 => simp [mbind, e2] at h
      | bad => simp [mbind, e2] at h
    | exc x z1 => rw [e] at h; simp at h
    | bad => rw [e] at h; simp at h
def zipK : List (List Nat) → List V → List (Key × V)
  | k :: ks, v :: vs => (.inr (ST k), v) :: zipK ks vs
  | _, _ => []
theorem zipK_kv : ∀ (ks : List (List Nat)) (vs : List V), (zipK ks vs).map (fun kv => (kV kv.1, kv.2)) = (ks.map fun k => V.str (ST k)).zip vs
  | [], _ => rfl
  | _ :: _, [] => rfl
  | k :: ks, v :: vs => by
    rw [zipK, List.map_cons, zipK_kv ks vs] <;> rfl
theorem zipK_len : ∀ (ks : List (List Nat)) (vs : List V), (zipK ks vs).length ≤ ks.length
  | [], _ => Nat.le_refl _
  | _ :: _, [] => Nat.zero_le _
  | k :: ks, v :: vs => by
    rw [zipK, List.length_cons, List.length_cons]
    exact Nat.succ_le_succ (zipK_len ks vs)
theorem merge_dsr {K : PySem.W.Frag} {H : Hp} {R : Addr} {B : Addr → Prop} : ∀ {ks : List (List Nat)} {vs : List V} {ds : List D} {kvs : List (Key × V)} {es : List (List Nat × D)}, ks.length = vs.length → Rs K H R B vs ds → DSR K H R B kvs es →
    DSR K H R B (mergeK kvs (zipK ks vs)) (putAll es (ks.zip ds))
  | [], vs, ds, kvs, es, hl, r, h => by
    match vs, hl with
    | [], _ => cases r; exact h
  | k :: ks, [], ds, kvs, es, hl, r, h => by cases hl
  | k :: ks, v :: vs, [], kvs, es, hl, r, h => by cases r
  | k :: ks, v :: vs, d :: ds, kvs, es, hl, r, h => by
    have h2 := h.put (k := k) r.split.1
    show DSR K H R B (mergeK (putK kvs (Sum.inr (ST k)) v) (zipK ks vs)) (putAll (putS es k d) (ks.zip ds))
    exact merge_dsr (Nat.succ.inj hl) r.split.2 h2

section
variable {X : L2.Cx} {T : Tb} {E : XK} {f : EnD → M D} {fs : List (EnD → M D)} {e : Expr} {pos : Pos} {σ : L2.St} {H : Hp} {Q : VK}
/-- a written key -/
def tKy (X : L2.Cx) (k : List Nat) : TE := fun σ H Q => KN X.K H → Q (.str (ST k)) H
abbrev trsOf (X : L2.Cx) (T : Tb) (ps : List (List Nat × (EnD → M D))) : List (TE × TE) := ps.map fun p => (tKy X p.1, tD (yx X T E0) p.2)
structure PPD (X : L2.Cx) (T : Tb) (pos : Pos) (keys : List (Option Expr)) (vals : List Expr) (ps : List (List Nat × (EnD → M D))) : Prop where
  run : PPs X pos keys vals (trsOf X T ps)
  kl : keys.length = ps.length
  vl : vals.length = ps.length
  some : keys.all (·.isSome) = true
theorem ppd_nil : PPD X T pos [] [] [] := ⟨pps_nil, rfl, rfl, rfl⟩
theorem ppd_cons {x : Str} {z : List Nat} {j : Nat} {kp : Pos} {keys : List (Option Expr)} {vals : List Expr} {ps : List (List Nat × (EnD → M D))} (hx : x = ST z) (hv : PE X e (tD (yx X T E0) f)) (h : PPD X T pos keys vals ps) : PPD X T pos (some (.Constant (.str x) j kp) :: keys) (e :: vals) ((z, f) :: ps) := by
  subst hx
  refine ⟨pps_cons (PE_imp (PE_kn pe_str) fun σ H Q q => ?_) hv h.run, by rw [List.length_cons, List.length_cons, h.kl], by rw [List.length_cons, List.length_cons, h.vl], by rw [List.all_cons, h.some]; rfl⟩
  exact q
theorem pairs_read {p : Addr} : ∀ {ps : List (List Nat × (EnD → M D))} {g : G} {ρ : EnD} {z : S} {H : Hp} {Q : List (V × V) → Hp → Prop}, StR (yx X T E0) g H σ ρ z →
    After (yx X T E0) g (evsN (ps.map (·.2)) ρ z) (fun ds z' => ∀ vs H', StR (yx X T E0) g H' σ ρ z' → Ext g.R H H' → Rs X.K H' g.R (bad g σ ρ) vs ds → Q ((ps.map fun p => V.str (ST p.1)).zip vs) H') →
    tPairs (trsOf X T ps) σ H Q
  | [], g, ρ, z, H, Q, st, h => h.pure [] H st .refl .nil
  | (k, f) :: ps, g, ρ, z, H, Q, st, h => by
    intro kn
    refine ⟨g, ρ, z, st, (After.ne (Y' := yx X T E0) (g' := g) h.bind).imp fun d z1 _ h1 v H1 st1 e1 r1 => ?_⟩
    refine pairs_read (p := p) st1 (h1.bind.imp fun ds z2 _ h2 vs H2 st2 e2 r2 => ?_)
    exact h2.pure (v :: vs) H2 st2 (e1.trans e2) (Rs.cons (r1.mono (e2.rd st1.badR)) r2)
/-- what has just been made may be locked for good -/
theorem PE_plock {e : Expr} {t : TE} (h : PE X e t) : PE X e fun σ H Q => t σ H fun v H' => Q v H' ∨ ∃ d u, H' d = some u ∧ Mut (some u) ∧ ∀ od, Q v (upd H' d (.frz od u)) := ⟨fun pins s σ H Q I q => by
  refine thn (h.run pins s σ H _ I q) fun v s1 ⟨x, H1, I1, r1, q1⟩ => ?_
  rcases q1 with q1 | ⟨d, u, hd, mu, q1⟩
  · exact ⟨x, H1, I1, r1, q1⟩
  · obtain ⟨od, I2⟩ := I1.lock hd mu
    exact ⟨x, _, I2, r1, q1 od⟩⟩
theorem pu_disp {keys : List (Option Expr)} {vals : List Expr} {k0 : List Nat × (EnD → M D)} {ps : List (List Nat × (EnD → M D))} (h : PPD X T pos keys vals (k0 :: ps)) (h15 : (k0 :: ps).length ≤ 15 := by decide) : PE X (.Dict keys vals pos) (tD (yx X T E) (eDisp (k0 :: ps))) :=
  PE_imp (PE_plock (pe_disp h.run h.some (by rw [h.kl, h.vl]) (by intro e; have := h.kl; rw [e] at this; cases this) (by rw [h.kl]; exact h15))) fun σ H Q hh => by
    obtain ⟨g, ρ, z, st, a⟩ := hh
    intro p hp
    have kn0 : ∀ kn : KN X.K (upd H p (.dK [])), X.K.lookup p = none := fun kn => kn p (by rw [upd_same]; exact fun z => by cases z)
    have hpR : p ≠ g.R := fun e => st.badDom st.badR (by rw [← e]; exact hp)
    obtain ⟨k, f⟩ := k0
    show tKy X k σ _ _
    intro kn
    have hK := kn0 kn
    have wg : Wo X.K T (gb (gd g p) σ ρ) (upd H p (.dK [])) z := by
      obtain ⟨⟨SA, s1, s2, s3⟩, ht, hb, hd, hk⟩ := st.wo
      have hS : SA ≠ p := fun e => by
        rcases s2 with s2 | ⟨o, its, nn, s2, _⟩
        · exact rd_some s2 (by rw [e]; exact hp)
        · rw [e, hK] at s2; cases s2
      have w := st.wo.new (o := .dK []) hp
      obtain ⟨_, ht', hb', hd', hk', hl', hi'⟩ := w
      refine ⟨⟨SA, fun q => ?_, ?_, by rw [upd_ne (ne_of_none s3 hp)]; exact s3⟩, ht', .inl (.inl st.gR), fun a ha => ?_, fun a ha => ?_, hl', hi'⟩
      · have q : bad (gd g p) σ ρ SA := q
        rw [bad_gd] at q
        exact q.elim s1 hS
      · rcases s2 with (q | ⟨ob, q⟩) | q
        · exact .inl (.inl (by rw [upd_ne hS]; exact q))
        · exact .inl (.inr ⟨ob, by rw [upd_ne hS]; exact q⟩)
        · exact .inr q
      · have ha : bad (gd g p) σ ρ a := ha
        rw [bad_gd] at ha
        rcases ha with ha | rfl
        · exact hd' a ha
        · rw [upd_same]; exact fun z => by cases z
      · have ha : bad (gd g p) σ ρ a := ha
        rw [bad_gd] at ha
        rcases ha with ha | rfl
        · exact hk' a ha
        · exact hK
    have sg := (st.guard (H := upd H p (.dK [])) (z' := z) hp hK (.new hp) wg).chE (E' := E0)
    have all := pairs_read (X := X) (T := T) (σ := σ) (p := p) (ps := (k, f) :: ps) (Q := fun pr H2 => H2 p = some (.dK []) ∧ ∃ kvs : List (Key × V), pr = kvs.map (fun kv => (kV kv.1, kv.2)) ∧ kvs.length ≤ 15 ∧ (Q (.ref p) (upd H2 p (.dK (mergeK [] kvs))) ∨ ∃ d u, upd H2 p (.dK (mergeK [] kvs)) d = some u ∧ Mut (some u) ∧ ∀ od, Q (.ref p) (upd (upd H2 p (.dK (mergeK [] kvs))) d (.frz od u)))) sg ?_
    · exact all kn
    have fin : After (yx X T E) g (evsN (((k, f) :: ps).map (·.2)) ρ z) (fun ds z' => ds.length = (((k, f) :: ps).map (·.2)).length ∧ ∀ v H', StR (yx X T E) g H' σ ρ z' → Ext g.R H H' → R1 X.K H' g.R (bad g σ ρ) v (.dS (putAll [] ((((k, f) :: ps).map (·.1)).zip ds))) → Q v H') :=
      a.bind.imp fun ds z' he q => ⟨evsN_len he, q.pure⟩
    have ne : ∀ {fs : List (EnD → M D)} {ρ : EnD} {z : S}, After (yx X T E0) (gd g p) (evsN fs ρ z) (fun _ _ => True) ∨ evsN fs ρ z = .bad := by
      intro fs
      induction fs with
      | nil => intro ρ z; exact .inl trivial
      | cons f fs ih =>
        intro ρ z
        unfold evsN mbind
        unfold mne
        cases e : f ρ z with
        | ok d z1 =>
          simp only
          rcases ih (ρ := ρ) (z := z1) with q | q
          · cases e2 : evsN fs ρ z1 with
            | ok ds z2 => left; simp only [mbind, e2, mpure]; trivial
            | exc x z2 => 
              rw [e2] at q
              left
              simp only [mbind, e2]
              exact q
            | bad => right; simp only [mbind, e2]
          · right; simp only [mbind, q]
        | exc x z1 => right; rfl
        | bad => right; rfl
    cases e : evsN (((k, f) :: ps).map (·.2)) ρ z with
    | bad => rw [e] at fin; exact fin.elim
    | exc x z' =>
      rcases ne (fs := ((k, f) :: ps).map (·.2)) (ρ := ρ) (z := z) with q | q
      · rw [e] at q; exact q
      · rw [e] at q; cases q
    | ok ds z' =>
      rw [e] at fin
      obtain ⟨hl, fin⟩ := fin
      intro vs H2 st2 ex2 r2
      have hD : H2 p = some (.dK []) := ex2.keep p _ upd_same hpR (fun ps z => by cases z)
      refine ⟨hD, zipK (((k, f) :: ps).map (·.1)) vs, ?_, ?_, ?_⟩
      · rw [zipK_kv, List.map_map]; rfl
      · refine Nat.le_trans (zipK_len _ _) ?_
        rw [List.length_map]
        exact h15
      · refine .inr ⟨p, _, upd_same, trivial, fun od => ?_⟩
        rw [upd_upd]
        have bD : bad (gd g p) σ ρ p := by rw [bad_gd]; exact .inr rfl
        have w3 := st2.wo.up (o' := .frz od (.dK (mergeK [] (zipK (((k, f) :: ps).map (·.1)) vs)))) bD hpR hD (fun ps z => by cases z)
        have ex3 : Ext g.R H (upd H2 p (.frz od (.dK (mergeK [] (zipK (((k, f) :: ps).map (·.1)) vs))))) := ((Ext.new hp).trans ex2).upNew hp
        have s3 : StR (yx X T E) g (upd H2 p (.frz od (.dK (mergeK [] (zipK (((k, f) :: ps).map (·.1)) vs))))) σ ρ z' := st.step ex3 (w3.less (fun a h => bad_le h) st.badR)
        refine fin _ _ s3 ex3 ?_
        have r3 : Rs X.K H2 g.R (fun a => bad g σ ρ a ∨ a = p) vs ds := by
          have := r2
          rw [bad_gd] at this
          exact this
        have r4 := Rs.mono (RdLe.up (o := .frz od (.dK (mergeK [] (zipK (((k, f) :: ps).map (·.1)) vs)))) (Dd := p) (.inr rfl)) r3
        have dsr := (merge_dsr (ks := ((k, f) :: ps).map (·.1)) (kvs := []) (es := []) (by rw [r2.length, hl, List.length_map, List.length_map]) r4 .nil).out
        exact .dS upd_same (st.fresh hp) dsr.1 (dsr.2.less fun a h => .inl h) .nil
end
end DL
set_option Elab.async false
set_option linter.all false
set_option maxRecDepth 100000
set_option maxHeartbeats 1000000
namespace DL
open PySem PySem.Spec PyProof.Rows L2

def rowGet : Int → S → Option Int
  | 1, z => some z.place
  | 2, z => some z.seed
  | 3, z => some z.rest
  | _, _ => none
def rowPut : Int → Int → S → Option S
  | 1, n, z => some { z with place := n }
  | 2, n, z => some { z with seed := n }
  | 3, n, z => some { z with rest := n }
  | _, _, _ => none
def isRow (ρ : EnD) (i : Nat) : Bool := match ρ[i]? with
  | some (some (.val .row)) => true
  | _ => false
def eRowG (i : Nat) (k : Int) : EnD → M D := fun ρ z => if isRow ρ i then (match rowGet k z with | some n => .ok (.int n) z | none => .bad) else .bad
def eRowL (i : Nat) : EnD → M D := fun ρ z => if isRow ρ i then .ok (.int z.script.length) z else .bad
def eRowC (i : Nat) (f : EnD → M D) : EnD → M D := fun ρ => mbind (fun z => if isRow ρ i then .ok z.script z else .bad) fun sc => mbind (f ρ) fun d => mbind (mopt (asI d)) fun n => mopt ((atI sc n).map D.int)
def sRow (i : Nat) (k : Int) (f : EnD → M D) : SM := fun ρ z => obind (f ρ z) fun d z' => if isRow ρ i then (match (asI d).bind fun n => rowPut k n z' with | some z2 => .nx ρ z2 | none => .bad) else .bad
section
variable {X : L2.Cx} {T : Tb} {E : XK} {f : EnD → M D} {e : Expr} {pos px pc ps p : Pos} {σ : L2.St} {H : Hp} {Q : VK} {i j : Nat} {x : Str} {k : Int}
theorem isRow_val {Y : Yx} {g : G} {ρ : EnD} {z : S} (st : StR Y g H σ ρ z) (h : isRow ρ i = true) : σ[i]? = some (some (.ref g.R)) := by
  unfold isRow at h
  split at h
  · rename_i h1
    obtain ⟨v, h2, h3⟩ := st.val i _ h1
    cases h3 with
    | atom a _ => cases a; exact h2
  · cases h
theorem row_get {z : S} {SA : Addr} {n : Int} (h : rowGet k z = some n) : atI [V.ref SA, .int z.place, .int z.seed, .int z.rest] k = some (.int n) := by
  unfold rowGet at h
  split at h <;> cases h <;> rfl
theorem pu_rowG (hN : X.N[i]? = some x) (hv : Vis X.env.scope x) (hd : (x == ("__debug__" : Str)) = false := by decide) (hcd : (x == ("__classdict__" : Str)) = false := by decide) (hs : PlainIx (.Constant (.int k) j pc) := by intro _ _; rfl) :
    PE X (.Subscript (.Name x px) (.Constant (.int k) j pc) pos) (tD (yx X T E) (eRowG i k)) := PE_imp (pe_ix ix_list (pe_var hN hv hd hcd) pe_int hs) fun σ H Q h => by
  obtain ⟨g, ρ, z, st, h⟩ := h
  unfold eRowG at h
  cases c : isRow ρ i with
  | false => rw [c] at h; exact h.elim
  | true =>
    rw [c] at h
    simp only [if_true] at h
    cases e : rowGet k z with
    | none => rw [e] at h; exact h.elim
    | some n =>
      rw [e] at h
      obtain ⟨SA, h1, h2, h3⟩ := st.wo.row
      exact ⟨_, isRow_val st c, g.R, _, k, _, rfl, rfl, .inl (.inl h3), row_get e, h _ H st .refl (.atom .int .nil)⟩
theorem pu_rowL (hg : Gl X "len") (hm : X.mg "len" = none) (hN : X.N[i]? = some x) (hv : Vis X.env.scope x) (hd : (x == ("__debug__" : Str)) = false := by decide) (hcd : (x == ("__classdict__" : Str)) = false := by decide)
    (he : starEach [.Subscript (.Name x px) (.Constant (.int 0) j pc) ps] X.env = (false, eval (.Subscript (.Name x px) (.Constant (.int 0) j pc) ps) X.env) :: starEach [] X.env := by rfl) (hpl : (backTo pos (starEach [] X.env)).any (·.1) = false := by rfl) :
    PE X (.Call (.Name "len" p) [.Subscript (.Name x px) (.Constant (.int 0) j pc) ps] [] pos) (tD (yx X T E) (eRowL i)) :=
  PE_imp (pe_callB call_len hg hm PySem.boot_len (pa_cons (pe_ix ix_list (pe_var hN hv hd hcd) pe_int (fun _ _ => rfl)) pa_nil he) (by decide) (by decide) he hpl) fun σ H Q h => by
    obtain ⟨g, ρ, z, st, h⟩ := h
    unfold eRowL at h
    cases c : isRow ρ i with
    | false => rw [c] at h; exact h.elim
    | true =>
      rw [c] at h
      simp only [if_true] at h
      obtain ⟨SA, h1, h2, h3⟩ := st.wo.row
      refine ⟨_, isRow_val st c, g.R, _, 0, .ref SA, rfl, rfl, .inl (.inl h3), rfl, _, (z.script.map V.int).length, rfl, .inl ⟨_, h2, rfl⟩, ?_⟩
      rw [List.length_map]
      exact h _ H st .refl (.atom .int .nil)
theorem atI_map {xs : List Int} {n c : Int} (h : atI xs n = some c) : atI (xs.map V.int) n = some (.int c) := by
  unfold atI at h ⊢
  rw [List.length_map]
  cases e : ixN xs.length n with
  | none => rw [e] at h; cases h
  | some j =>
    rw [e] at h
    show (xs.map V.int)[j]? = some (.int c)
    rw [List.getElem?_map, show xs[j]? = some c from h] <;> rfl
theorem pu_rowC (hN : X.N[i]? = some x) (hv : Vis X.env.scope x) (he : PE X e (tD (yx X T E) f)) (hs : PlainIx e := by intro _ _; rfl) (hd : (x == ("__debug__" : Str)) = false := by decide) (hcd : (x == ("__classdict__" : Str)) = false := by decide) :
    PE X (.Subscript (.Subscript (.Name x px) (.Constant (.int 0) j pc) ps) e pos) (tD (yx X T E) (eRowC i f)) := PE_imp (pe_ix ix_list (pe_ix ix_list (pe_var hN hv hd hcd) pe_int (fun _ _ => rfl)) he hs) fun σ H Q h => by
  obtain ⟨g, ρ, z, st, h⟩ := h
  have h := h.bind
  cases c : isRow ρ i with
  | false => rw [c] at h; exact h.elim
  | true =>
    rw [c] at h
    obtain ⟨SA, h1, h2, h3⟩ := st.wo.row
    refine ⟨_, isRow_val st c, g.R, _, 0, .ref SA, rfl, rfl, .inl (.inl h3), rfl, g, ρ, z, st, (After.bind h).imp fun d z1 _ q v H1 st1 e1 r1 => ?_⟩
    obtain ⟨n, hn, q⟩ := q.bind.opt
    obtain rfl : d = .int n := by cases d <;> simp_all [asI]
    cases r1.int
    obtain ⟨r, hr, q⟩ := q.opt
    obtain ⟨cc, hc, rfl⟩ := Option.map_eq_some_iff.mp hr
    exact ⟨SA, _, n, _, rfl, rfl, (e1.rd st.badR).sqL h1 h2, atI_map hc, q _ H1 st1 e1 (.atom .int .nil)⟩
theorem row_put {z z2 : S} {SA : Addr} {n : Int} (h : rowPut k n z = some z2) : ∃ j, ixN 4 k = some j ∧ [V.ref SA, .int z.place, .int z.seed, .int z.rest].set j (.int n) = [V.ref SA, .int z2.place, .int z2.seed, .int z2.rest] ∧ z2.script = z.script := by
  unfold rowPut at h
  split at h <;> cases h
  · exact ⟨1, rfl, rfl, rfl⟩
  · exact ⟨2, rfl, rfl, rfl⟩
  · exact ⟨3, rfl, rfl, rfl⟩
theorem pu_rowS (hN : X.N[i]? = some x) (hv : Vis X.env.scope x) (he : PE X e (tD (yx X T E) f)) (hs : swapsWithSole [.Subscript (.Name x px) (.Constant (.int k) j pc) ps] e pos.line X.env = pure false := by rfl) (hd : (x == ("__debug__" : Str)) = false := by decide) (hcd : (x == ("__classdict__" : Str)) = false := by decide) :
    PS X (.Assign [.Subscript (.Name x px) (.Constant (.int k) j pc) ps] e pos) (sD (yx X T E) (sRow i k f)) := PS_imp (ps_asg he (pg_sub (pe_var hN hv hd hcd) pe_int set_list) hs) fun D σ H h => by
  obtain ⟨g, ρ, z, st, o⟩ := h
  refine ⟨g, ρ, z, st, o.bind.imp fun d z1 _ q v H1 st1 e1 r1 => ?_⟩
  cases c : isRow ρ i with
  | false => rw [c] at q; exact q.elim
  | true =>
    rw [c] at q
    simp only [if_true] at q
    cases e : (asI d).bind fun n => rowPut k n z1 with
    | none => rw [e] at q; exact q.elim
    | some z2 =>
      rw [e] at q
      obtain ⟨n, hn, hp⟩ := Option.bind_eq_some_iff.mp e
      obtain rfl : d = .int n := by cases d <;> simp_all [asI]
      cases r1.int
      obtain ⟨SA, h1, h2, h3⟩ := st1.wo.row
      obtain ⟨j', hj, hl, hsc⟩ := row_put (SA := SA) hp
      refine ⟨.ref g.R, isRow_val st1 c, g.R, _, k, j', rfl, rfl, h3, hj, ?_⟩
      rw [hl]
      have nR : ∀ a, Own σ ρ a → a ≠ g.R := fun a h => st1.ownNe h
      have ex : Ext g.R H1 (upd H1 g.R (.lst [.ref SA, .int z2.place, .int z2.seed, .int z2.rest])) :=
        ⟨fun a u q h1 h2 => by rw [upd_ne h1]; exact q, fun a h => by
          by_cases e : a = g.R
          · rw [e, upd_same]; exact fun z => by cases z
          · rw [upd_ne e]; exact h, fun x xs q => by
          have h3 : H1 g.R = _ := h3
          rw [h3] at q
          cases q
          exact ⟨_, upd_same⟩⟩
      have wo : Wo X.K T (gb g σ ρ) (upd H1 g.R (.lst [.ref SA, .int z2.place, .int z2.seed, .int z2.rest])) z2 := by
        refine ⟨⟨SA, h1, ?_, upd_same⟩, fun P hP => ?_, st1.badR, fun a ha => ex.dom a (st1.wo.dom a ha), st1.wo.kn, tabs_keep st1.wo.lam (fun q _ ps e => by rw [upd_ne (fun z => by rw [z, h3] at e; cases e)]; exact e) (fun c φ e => by rw [upd_ne (fun z => by rw [z, h3] at e; cases e)]; exact e), st1.wo.dis⟩
        · rw [hsc]; exact (ex.rd st1.badR).sqL h1 h2
        · obtain ⟨ps, q1, q2⟩ := st1.wo.tabs P hP
          have ne : P ≠ g.R := fun e => by
            rw [e, h3] at q1
            cases q1
          exact ⟨ps, by rw [upd_ne ne]; exact q1, q2⟩
      exact q _ _ (st1.step ex wo) (Stp.ext (e1.trans ex))
end
end DL
set_option Elab.async false
set_option linter.all false
set_option maxRecDepth 100000
set_option maxHeartbeats 1000000
namespace DL
open PySem PySem.Spec PyProof.Rows L2

section
variable {X : L2.Cx} {T : Tb} {E : XK} {a b : Expr} {t u : EnD → M Bool} {pos : Pos} {x : Str}
theorem passD : Passes CX0 X E := fun _ _ _ _ _ _ _ h => h.elim
theorem pw_oneO (ha : PT X a (ttD (yx X T E) t)) : PW X (.BoolOp .Or [a] pos) (ttD (yx X T E) t) := pw_or1 ha
theorem pu_gW {d : D} (hg : Gl X x) (h : ∃ w v, X.mg x = some w ∧ RelV v w ∧ WR X.K v d) (hd : (x == ("__debug__" : Str)) = false := by decide) : PE X (.Name x pos) (tD (yx X T E) (eC d)) := by
  obtain ⟨w, v, hm, r, hw⟩ := h
  exact pu_gT hg hm r hw hd
end

section
variable {X : L2.Cx} {T : Tb} {E : XK} {fi : EnD → M (List D)} {t : EnD → M Bool} {f : EnD → M D} {elt iter tg : Expr} {ifs : List Expr} {scope : Scope} {pos spos py : Pos} {x y : Str} {i j : Nat}
/-- name = [.. for ..] -/
theorem pu_setLc (hc : X.calm = true) (hN : X.N.Nodup) (hy : X.N[j]? = some y) (hyl : X.env.scope.names.lookup y = some .local) (hsw : swapsWith (.ListComp elt [⟨tg, iter, ifs, 0⟩] scope pos) (some (.Name y py)) spos.line X.env = pure true)
    (hi : PI X tg iter (tiD (yx X T E) fi)) (ok : BlkOk X.N X.env.scope scope [(x, i)])
    (hg : ∀ (s : Shared) (H : Hp) (C : Addr) (cl : List (Str × Addr)) (fp : List Addr), PG (X.blk s H scope (compEnvC scope cl C X.env) fp) tg (gName i)) (ht : ∀ (s : Shared) (H : Hp) (C : Addr) (cl : List (Str × Addr)) (fp : List Addr), PTs (X.blk s H scope (compEnvC scope cl C X.env) fp) ifs (ttD (yx X T E0) t))
    (he : ∀ (s : Shared) (H : Hp) (C : Addr) (cl : List (Str × Addr)) (fp : List Addr), PE (X.blk s H scope (compEnvC scope cl C X.env) fp) elt (tD (yx X T E0) f)) (hs : ∀ x, foldedSetIterable iter X.env x = pure x := by intro _; rfl) :
    PS X (.Assign [.Name y py] (.ListComp elt [⟨tg, iter, ifs, 0⟩] scope pos) spos) (sD (yx X T E) (sSet j (eLc i fi t f))) :=
  PS_imp (ps_setLc (own := [(x, i)]) hc hN hy hyl hsw hi ok hg (fun s H C cl fp => PTs_kn (ht s H C cl fp)) (fun s H C cl fp => PE_kn (he s H C cl fp)) hs) fun D σ H h => by
    obtain ⟨g, ρ, z, st, o⟩ := h
    refine lc_read (Q := fun x H1 => gName j x σ H1 D.nx) ⟨g, ρ, z, st, o.bind.imp fun d z1 _ h1 v H1 st1 e1 r1 => ?_⟩
    cases co : ownAt ρ j with
    | true => rw [co] at h1; exact h1.elim
    | false =>
      rw [co] at h1
      exact h1 _ H1 (st1.setv co r1) ((Stp.ext e1).trans (.setv co trivial))
end

def lookF (tbl : List (List Nat × (List D → M D))) (w : List Nat) : Option (List D → M D) := (tbl.find? fun p => decide (p.1 = w)).map (·.2)
def toldD (tbl : List (List Nat × (List D → M D))) : List D → M D
  | [.str w, r] => match lookF tbl w with
    | some F => mne (F [r])
    | none => mbad
  | _ => mbad
section
variable {X : L2.Cx} {k i : Nat} {x : Str} {e : Expr} {es : List Expr} {t : TA} {p pos : Pos}
end
section
variable {P : Program} {w : World} {K : PySem.W.Frag} {mg : Str → Option Value} {base : Heap} {T : Tb}
/-- each entry of the table stands in the written dict, its def keeps its promise -/
structure Tbl (P : Program) (w : World) (K : PySem.W.Frag) (mg : Str → Option Value) (base : Heap) (T : Tb) (k : Nat) (a : Addr) (tbl : List (List Nat × (List D → M D))) : Prop where
  at_ : ∀ z F, lookF tbl z = some F → ∃ f, KDct K w a (ST z) (.ref f) ∧ Held P w K mg base k f (spD K T mg 1 F)
end

end DL
set_option Elab.async false
set_option linter.all false
set_option maxRecDepth 100000
set_option maxHeartbeats 1000000
namespace DL
open PySem PySem.Spec PyProof.Rows L2

def rhoL (n : Nat) : EnD := none :: some (.val .row) :: List.replicate (n - 2) none
def spLaw (K : PySem.W.Frag) (cs : List (Addr × Addr)) : Sp := fun vs H Q _ => ∃ (a : Addr) (ns : List Int), vs = [.ref a] ∧ SqL K H a (ns.map V.int) ∧ ns.length ≤ 63 ∧ (∀ z ∈ ns, Builtin.Int.intBits z ≤ 1048576) ∧ (∀ p ∈ cs, H p.2 = some (.tbl #[])) ∧ ∀ H', Q (.bl true) H'
section
variable {P : Program} {w : World} {K : PySem.W.Frag} {mg : Str → Option Value} {base : Heap}
theorem PSs_kn {X : L2.Cx} {e : List Stmt} {t : TS} (h : PSs X e t) : PSs X e fun D σ H => KN X.K H → t D σ H := ⟨fun pins s σ H D I q => h.run pins s σ H D I (q (kn_of I))⟩
theorem ok_lawD {x qual n1 n2 : Str} {st : Stmt} {f : Addr} {fd : FuncData} {N : List Str} {k : Nat} {B : SM} {seed : Int} {rest : List Stmt} {cs : List (Addr × Addr)} {T : Tb} {q1 q2 q3 q4 q5 q6 q7 : Pos} {j1 j2 j3 : Nat} (F : Fun K x qual st f fd) (S : FnScope (n1 :: n2 :: N) [n1] (defScope st))
    (hb : defBody st = .Assign [.Name n2 q1] (.List [.Name n1 q2, .Constant (.int 0) j1 q3, .Constant (.int seed) j2 q4, .Constant (.int 0) j3 q5] q6) q7 :: rest)
    (l1 : (defScope st).names.lookup n1 = some .local) (l2 : (defScope st).names.lookup n2 = some .local) (d1 : (n1 == ("__debug__" : Str)) = false) (c1 : (n1 == ("__classdict__" : Str)) = false)
    (hsw : ∀ (cdv : Value) (A : Around) (outer : List Env) (s : Shared) (H : Hp) (E : XK), swapsWith (.List [.Name n1 q2, .Constant (.int 0) j1 q3, .Constant (.int seed) j2 q4, .Constant (.int 0) j3 q5] q6) (some (.Name n2 q1)) q7.line (cxOf CX0 P w K mg base (n1 :: n2 :: N) qual (defScope st) f cdv A outer s H E).nox.env = pure false)
    (der : ∀ (cdv : Value) (A : Around) (outer : List Env) (s : Shared) (H : Hp) (E : XK), Room k (A.deeper (envOfC qual (defScope st) s.heap.objs.size f cdv)) → fd.code = cdv →
      PSs (cxOf CX0 P w K mg base (n1 :: n2 :: N) qual (defScope st) f cdv A outer s H E).nox rest (sD ⟨K, T, mg, fun _ _ _ => False⟩ B))
    (hT : ∀ P ∈ T, P ∈ cs.map (·.2)) (hL : ∀ p ∈ T.ls, p.1 ∈ cs.map (·.2)) (hD : ∀ p ∈ T.ls, ¬ p.1 ∈ T)
    (hm : ∀ ns : List Int, ns.length ≤ 63 → (∀ z ∈ ns, Builtin.Int.intBits z ≤ 1048576) → ∃ z', B (rhoL (N.length + 2)) ⟨ns, 0, seed, 0⟩ = .rt (.bl true) z') :
    FnOk P w K mg base CX0 (k + 1) f fd [n1] (spLaw K cs) := by
  obtain ⟨oc, od, kV, doc, pm, an, cdv, ct, osl, rfl, lk, hcd⟩ := F.ex
  refine fn_of lk hcd S (fun vs H Q E h => by obtain ⟨a, ns, rfl, _⟩ := h; rfl) fun A outer s H vs Q E hr h => ?_
  obtain ⟨a, ns, rfl, hS, hl, hbits, htb, q⟩ := h
  have hd := der cdv A outer s H E hr rfl
  refine ⟨_, PSs.nox (t := tSeq (tAsg (tLst (tCons (tVar 0) (tCons (tC (.int 0)) (tCons (tC (.int seed)) (tCons (tC (.int 0)) tNil))))) (gName 1)) fun D σ H => KN K H → sD ⟨K, T, mg, fun _ _ _ => False⟩ B D σ H) ?_, ?_⟩
  · show PSs _ (defBody st) _
    rw [hb]
    exact pss_cons (ps_set (i := 1) S.nd rfl (.inl l2) (pe_lst (pa_cons (pe_var (i := 0) rfl (.inl l1) d1 c1) (pa_cons pe_int (pa_cons pe_int (pa_cons pe_int pa_nil))))) (hsw cdv A outer s H E)) (PSs_kn hd)
  · refine ⟨.ref a, rfl, small_len (n := 4) (by decide), fun p hp kn => ?_⟩
    have hK : K.lookup p = none := kn p (by rw [upd_same]; exact fun z => by cases z)
    have ha : a ≠ p := fun e => by
      rcases hS with hS | ⟨o, its, n, hS, _⟩
      · exact rd_some hS (by rw [e]; exact hp)
      · rw [e, hK] at hS; cases hS
    have hS' : SqL K (upd H p (.lst [.ref a, .int 0, .int seed, .int 0])) a (ns.map V.int) := by
      rcases hS with (hS | ⟨o, hS⟩) | hS
      · exact .inl (.inl (by rw [upd_ne ha]; exact hS))
      · exact .inl (.inr ⟨o, by rw [upd_ne ha]; exact hS⟩)
      · exact .inr hS
    have noOwn : ∀ (i : Nat) (d : D), (rhoL (N.length + 2))[i]? ≠ some (some (.own d)) := fun i d e => by
      unfold rhoL at e
      match i, e with
      | 0, e => cases e
      | 1, e => cases e
      | i + 2, e =>
        simp only [List.getElem?_cons_succ, List.getElem?_replicate] at e
        split at e <;> cases e
    refine ⟨⟨p, fun x => x = p, upd H p (.lst [.ref a, .int 0, .int seed, .int 0])⟩, rhoL (N.length + 2), ⟨ns, 0, seed, 0⟩, ?_, ?_⟩
    · have be : ∀ σ : L2.St, bad ⟨p, fun x => x = p, upd H p (.lst [.ref a, .int 0, .int seed, .int 0])⟩ σ (rhoL (N.length + 2)) = fun x => x = p := fun σ => by
        funext b
        apply propext
        exact ⟨fun h => h.elim id fun ⟨i, d, h1, _⟩ => absurd h1 (noOwn i d), .inl⟩
      refine ⟨?_, rfl, ?_, fun i d h => ?_, fun i d h => absurd h (noOwn i d), fun i j d e b h => absurd h (noOwn i d), .refl⟩
      · unfold gb
        rw [be]
        refine ⟨⟨a, ha, hS', upd_same⟩, fun P' hP => ?_, rfl, fun b hb => ?_, fun b hb => ?_, fun q hq => ?_, hD⟩
        · obtain ⟨c, hc, rfl⟩ := List.mem_map.mp (hT P' hP)
          have h1 := htb c hc
          exact ⟨#[], by rw [upd_ne (ne_of_none h1 hp)]; exact h1, by first | exact trivial | simp [TriplesOk] | exact True.intro⟩
        · have hb : b = p := hb
          rw [hb, upd_same]
          exact fun z => by cases z
        · have hb : b = p := hb
          rw [hb]
          exact hK
        · obtain ⟨c, hc, e⟩ := List.mem_map.mp (hL q hq)
          have h1 := htb c hc
          exact LamX.TabS.nil (by rw [← e, upd_ne (ne_of_none h1 hp)]; exact h1)
      · show ((L2.start (n1 :: n2 :: N) [V.ref a]).set 1 _).length = _
        unfold L2.start rhoL
        simp
      · rw [be]
        unfold rhoL at h
        match i, h with
        | 0, h => cases h
        | 1, h =>
          cases h
          exact ⟨.ref p, rfl, .atom .row .nil⟩
        | i + 2, h =>
          simp only [List.getElem?_cons_succ, List.getElem?_replicate] at h
          split at h <;> cases h
    · obtain ⟨z', e⟩ := hm ns hl hbits
      rw [e]
      intro v H' w' ex r
      cases r.bl
      exact q H'
end
end DL
set_option Elab.async false
set_option linter.all false
set_option maxRecDepth 100000
set_option maxHeartbeats 1000000
namespace DL
open PySem PySem.Spec PyProof.Rows L2

def WP {α : Type} (m : M α) (z : S) (Q : α → S → Prop) : Prop := match m z with
  | .ok a z' => Q a z'
  | _ => False
def WS (o : Out) (Qn : EnD → S → Prop) (Qr : D → S → Prop) : Prop := match o with
  | .nx ρ z => Qn ρ z
  | .rt d z => Qr d z
  | _ => False
section
variable {α β : Type} {z : S} {ρ : EnD} {i j : Nat} {d : D} {Qn : EnD → S → Prop} {Qr : D → S → Prop}
theorem WP_ok {m : M α} {a : α} {z' : S} {Q : α → S → Prop} (h : m z = .ok a z') : WP m z Q = Q a z' := by unfold WP; rw [h]
theorem WP_of {m : M α} {a : α} (h : WP m z fun b z' => b = a ∧ z' = z) : m z = .ok a z := by
  unfold WP at h
  cases e : m z with
  | ok b z' => rw [e] at h; obtain ⟨rfl, rfl⟩ := h; rfl
  | exc x z' => rw [e] at h; exact h.elim
  | bad => rw [e] at h; exact h.elim
theorem WP_pure_of {m : M α} {a : α} (h : ∀ z, WP m z fun b z' => b = a ∧ z' = z) : m = mpure a := funext fun z => WP_of (h z)
theorem WP_get {m : M α} {Q : α → S → Prop} (h : WP m z Q) : ∃ a z', m z = .ok a z' ∧ Q a z' := by
  unfold WP at h
  cases e : m z with
  | ok b z' => rw [e] at h; exact ⟨b, z', rfl, h⟩
  | exc x z' => rw [e] at h; exact h.elim
  | bad => rw [e] at h; exact h.elim
theorem WP_mono {m : M α} {Q Q' : α → S → Prop} (h : WP m z Q) (i : ∀ a z', Q a z' → Q' a z') : WP m z Q' := by
  obtain ⟨a, z', e, q⟩ := WP_get h
  rw [WP_ok e]
  exact i _ _ q
@[simp] theorem WP_bind {m : M α} {k : α → M β} {Q : β → S → Prop} : WP (mbind m k) z Q = WP m z fun a z' => WP (k a) z' Q := by
  unfold WP mbind
  cases m z <;> rfl
@[simp] theorem WP_pure {a : α} {Q : α → S → Prop} : WP (mpure a) z Q = Q a z := rfl
@[simp] theorem WP_some {a : α} {Q : α → S → Prop} : WP (mopt (some a)) z Q = Q a z := rfl
@[simp] theorem WP_bad {Q : α → S → Prop} : WP (mbad : M α) z Q = False := rfl
@[simp] theorem WP_none {Q : α → S → Prop} : WP (mopt (none : Option α)) z Q = False := rfl
theorem WP_ite {c : Prop} [Decidable c] {m m' : M α} {Q : α → S → Prop} : WP (if c then m else m') z Q = if c then WP m z Q else WP m' z Q := by
  split <;> rfl
theorem WP_ne {m : M α} {Q : α → S → Prop} : WP (mne m) z Q = WP m z Q := by
  unfold WP mne
  cases m z <;> rfl
@[simp] theorem eV_zero : eV 0 (some (.val d) :: ρ) = mpure d := rfl
@[simp] theorem eV_succ {x : Option Sl} : eV (i + 1) (x :: ρ) = eV i ρ := rfl
@[simp] theorem eC_ev : eC d ρ = mpure d := rfl
@[simp] theorem e1_ev {F : D → M D} {f : EnD → M D} {Q : D → S → Prop} : WP (e1 F f ρ) z Q = WP (f ρ) z fun x z' => WP (F x) z' Q := WP_bind
@[simp] theorem e2_ev {F : D → D → M D} {f g : EnD → M D} {Q : D → S → Prop} : WP (e2 F f g ρ) z Q = WP (f ρ) z fun x z' => WP (g ρ) z' fun y z'' => WP (F x y) z'' Q := by
  unfold e2; rw [WP_bind]; congr; funext x z'; exact WP_bind
@[simp] theorem op2_ev {F : D → D → Option D} {x y : D} : op2 F x y = mopt (F x y) := rfl
@[simp] theorem op1_ev {F : D → Option D} {x : D} : op1 F x = mopt (F x) := rfl
@[simp] theorem eIf_ev {t : EnD → M Bool} {f g : EnD → M D} {Q : D → S → Prop} : WP (eIf t f g ρ) z Q = WP (t ρ) z fun b z' => if b then WP (f ρ) z' Q else WP (g ρ) z' Q := by
  unfold eIf; rw [WP_bind]; congr; funext x z'; exact WP_ite
@[simp] theorem tV_ev {f : EnD → M D} {Q : Bool → S → Prop} : WP (tV f ρ) z Q = WP (f ρ) z fun d z' => WP (mopt (asB d)) z' Q := WP_bind
@[simp] theorem tNot_ev {t : EnD → M Bool} {Q : Bool → S → Prop} : WP (tNot t ρ) z Q = WP (t ρ) z fun b z' => Q (!b) z' := WP_bind
@[simp] theorem tAnd_ev {t u : EnD → M Bool} {Q : Bool → S → Prop} : WP (tAnd t u ρ) z Q = WP (t ρ) z fun b z' => if b then WP (u ρ) z' Q else Q false z' := by
  unfold tAnd; rw [WP_bind]; congr; funext x z'; exact WP_ite
@[simp] theorem tOr_ev {t u : EnD → M Bool} {Q : Bool → S → Prop} : WP (tOr t u ρ) z Q = WP (t ρ) z fun b z' => if b then Q true z' else WP (u ρ) z' Q := by
  unfold tOr; rw [WP_bind]; congr; funext x z'; exact WP_ite
@[simp] theorem eAnd_ev {f g : EnD → M D} {Q : D → S → Prop} : WP (eAnd f g ρ) z Q = WP (f ρ) z fun d z' => WP (mopt (asB d)) z' fun b z'' => if b then WP (g ρ) z'' Q else Q (.bl false) z'' := by
  unfold eAnd; rw [WP_bind, WP_bind]; congr; funext x z'; congr; funext b z''; exact WP_ite
@[simp] theorem eOr_ev {f g : EnD → M D} {Q : D → S → Prop} : WP (eOr f g ρ) z Q = WP (f ρ) z fun d z' => WP (mopt (asB d)) z' fun b z'' => if b then Q (.bl true) z'' else WP (g ρ) z'' Q := by
  unfold eOr; rw [WP_bind, WP_bind]; congr; funext x z'; congr; funext b z''; exact WP_ite
@[simp] theorem eNot_ev {f : EnD → M D} {Q : D → S → Prop} : WP (eNot f ρ) z Q = WP (f ρ) z fun d z' => WP (mopt (asB d)) z' fun b z'' => Q (.bl (!b)) z'' := by
  unfold eNot; rw [WP_bind, WP_bind]; rfl
@[simp] theorem evs_nil {Q : List D → S → Prop} : WP (evs [] ρ) z Q = Q [] z := rfl
@[simp] theorem evs_cons {f : EnD → M D} {fs : List (EnD → M D)} {Q : List D → S → Prop} : WP (evs (f :: fs) ρ) z Q = WP (f ρ) z fun d z' => WP (evs fs ρ) z' fun ds z'' => Q (d :: ds) z'' := by
  show WP (mbind _ _) z Q = _
  rw [WP_bind]; congr; funext x z'; rw [WP_bind]; rfl
@[simp] theorem evsN_nil {Q : List D → S → Prop} : WP (evsN [] ρ) z Q = Q [] z := rfl
@[simp] theorem evsN_cons {f : EnD → M D} {fs : List (EnD → M D)} {Q : List D → S → Prop} : WP (evsN (f :: fs) ρ) z Q = WP (f ρ) z fun d z' => WP (evsN fs ρ) z' fun ds z'' => Q (d :: ds) z'' := by
  show WP (mbind _ _) z Q = _
  rw [WP_bind, WP_ne]; congr; funext x z'; rw [WP_bind]; rfl
@[simp] theorem eTup_ev {fs : List (EnD → M D)} {Q : D → S → Prop} : WP (eTup fs ρ) z Q = WP (evs fs ρ) z fun ds z' => Q (.tup ds) z' := WP_bind
@[simp] theorem eLst_ev {fs : List (EnD → M D)} {Q : D → S → Prop} : WP (eLst fs ρ) z Q = WP (evs fs ρ) z fun ds z' => Q (.lst ds) z' := WP_bind
@[simp] theorem eCall_ev {F : List D → M D} {fs : List (EnD → M D)} {Q : D → S → Prop} : WP (eCall F fs ρ) z Q = WP (evs fs ρ) z fun ds z' => WP (F ds) z' Q := WP_bind
@[simp] theorem eDisp_ev {ps : List (List Nat × (EnD → M D))} {Q : D → S → Prop} : WP (eDisp ps ρ) z Q = WP (evsN (ps.map (·.2)) ρ) z fun ds z' => Q (.dS (putAll [] ((ps.map (·.1)).zip ds))) z' := WP_bind
@[simp] theorem eSl_ev {f : EnD → M D} {lo hi : EnD → M (Option Int)} {Q : D → S → Prop} : WP (eSl f lo hi ρ) z Q = WP (f ρ) z fun d z1 => WP (lo ρ) z1 fun l z2 => WP (hi ρ) z2 fun h z3 => WP (mopt (slD d l h)) z3 Q := by
  unfold eSl; rw [WP_bind]; congr; funext x z'; rw [WP_bind]; congr; funext y z''; exact WP_bind
@[simp] theorem pNo_ev {Q : Option Int → S → Prop} : WP (pNo ρ) z Q = Q none z := rfl
@[simp] theorem pSo_ev {f : EnD → M D} {Q : Option Int → S → Prop} : WP (pSo f ρ) z Q = WP (f ρ) z fun d z' => WP (mopt ((asI d).map some)) z' Q := WP_bind
@[simp] theorem eM1_ev {F : List Nat → D → Option D} {f g : EnD → M D} {Q : D → S → Prop} : WP (eM1 F f g ρ) z Q = WP (f ρ) z fun d z1 => WP (mopt (asS d)) z1 fun s z2 => WP (g ρ) z2 fun e z3 => WP (mopt (F s e)) z3 Q := by
  unfold eM1; rw [WP_bind]; congr; funext x z'; rw [WP_bind]; congr; funext y z''; exact WP_bind
@[simp] theorem eTCount_ev {f g : EnD → M D} {Q : D → S → Prop} : WP (eTCount f g ρ) z Q = WP (f ρ) z fun d z1 => WP (mopt (asT d)) z1 fun s z2 => WP (g ρ) z2 fun e z3 => WP (mopt (countT (.tup s) e)) z3 Q := by
  unfold eTCount; rw [WP_bind]; congr; funext x z'; rw [WP_bind]; congr; funext y z''; exact WP_bind
@[simp] theorem eChain_ev {F F' : D → D → M D} {fa fb fc : EnD → M D} {Q : D → S → Prop} : WP (eChain F F' fa fb fc ρ) z Q = WP (fa ρ) z fun x z1 => WP (fb ρ) z1 fun y z2 => WP (F x y) z2 fun r z3 => WP (mopt (asB r)) z3 fun k z4 => if k then WP (fc ρ) z4 fun w z5 => WP (F' y w) z5 Q else Q (.bl false) z4 := by
  unfold eChain; rw [WP_bind]; congr; funext x z1; rw [WP_bind]; congr; funext y z2; rw [WP_bind]; congr; funext r z3; rw [WP_bind]; congr; funext k z4; rw [WP_ite, WP_bind]; rfl
@[simp] theorem iS_ev {f : EnD → M D} {Q : List D → S → Prop} : WP (iS f ρ) z Q = WP (f ρ) z fun d z' => WP (mopt (iterD d)) z' Q := WP_bind
@[simp] theorem iEn_ev {f : EnD → M D} {Q : List (D × D) → S → Prop} : WP (iEn f ρ) z Q = WP (f ρ) z fun d z' => WP (mopt ((asT d).map (enumD 0))) z' Q := WP_bind
@[simp] theorem iR1_ev {f : EnD → M D} {Q : List D → S → Prop} : WP (iR1 f ρ) z Q = WP (f ρ) z fun d z' => WP (mopt (asI d)) z' fun j z'' => if -(2 ^ 62) ≤ j ∧ j < 2 ^ 62 then Q (rangeD 0 j.toNat) z'' else False := by
  unfold iR1; rw [WP_bind]; congr; funext x z1; rw [WP_bind]; congr; funext y z2; rw [WP_ite]; rfl
@[simp] theorem iR2_ev {f g : EnD → M D} {Q : List D → S → Prop} : WP (iR2 f g ρ) z Q = WP (f ρ) z fun d z' => WP (mopt (asI d)) z' fun i z'' => WP (g ρ) z'' fun e z3 => WP (mopt (asI e)) z3 fun j z4 => if -(2 ^ 62) ≤ i ∧ i < 2 ^ 62 ∧ -(2 ^ 62) ≤ j ∧ j < 2 ^ 62 then Q (rangeD i (j - i).toNat) z4 else False := by
  unfold iR2; rw [WP_bind]; congr; funext x z1; rw [WP_bind]; congr; funext y z2; rw [WP_bind]; congr; funext v z3; rw [WP_bind]; congr; funext u z4; rw [WP_ite]; rfl
@[simp] theorem eLc_ev {xs : EnD → M (List D)} {t : EnD → M Bool} {f : EnD → M D} {Q : D → S → Prop} : WP (eLc i xs t f ρ) z Q = WP (xs ρ) z fun l z' => if l.length ≤ sizeLine ∧ ownAt ρ i = false then WP (compL i t f l ρ) z' fun ds z'' => Q (.lst ds) z'' else False := by
  unfold eLc; rw [WP_bind]; congr; funext x z1; rw [WP_ite, WP_bind]; rfl
@[simp] theorem eTupG_ev {xs : EnD → M (List D)} {t : EnD → M Bool} {f : EnD → M D} {Q : D → S → Prop} : WP (eTupG i xs t f ρ) z Q = WP (xs ρ) z fun l z' => if l.length ≤ sizeLine ∧ ownAt ρ i = false then WP (compL i t f l ρ) z' fun ds z'' => Q (.tup ds) z'' else False := by
  unfold eTupG; rw [WP_bind]; congr; funext x z1; rw [WP_ite, WP_bind]; rfl
@[simp] theorem compL_nil {t : EnD → M Bool} {f : EnD → M D} {Q : List D → S → Prop} : WP (compL i t f [] ρ) z Q = Q [] z := rfl
theorem compL_cons {t : EnD → M Bool} {f : EnD → M D} {x : D} {xs : List D} {Q : List D → S → Prop} : WP (compL i t f (x :: xs) ρ) z Q = WP (t ((ρ.set i none).set i (some (.val x)))) z fun b z' =>
    if b then WP (f ((ρ.set i none).set i (some (.val x)))) z' fun d z'' => WP (compL i t f xs ρ) z'' fun ds z3 => Q (d :: ds) z3 else WP (compL i t f xs ρ) z' Q := by
  show WP (mbind _ _) z Q = _
  rw [WP_bind, WP_ne]; congr; funext b z'
  rw [WP_ite, WP_bind, WP_ne]
  congr; funext d z''; rw [WP_bind]; rfl
@[simp] theorem tYes_ev {Q : Bool → S → Prop} : WP (tYesD ρ) z Q = Q true z := rfl
@[simp] theorem isRow_zero : isRow (some (.val .row) :: ρ) 0 = true := rfl
@[simp] theorem isRow_succ {x : Option Sl} : isRow (x :: ρ) (i + 1) = isRow ρ i := rfl
@[simp] theorem ownAt_nil : ownAt [] i = false := by cases i <;> rfl
@[simp] theorem ownAt_zv : ownAt (some (.val d) :: ρ) 0 = false := rfl
@[simp] theorem ownAt_zn : ownAt (none :: ρ) 0 = false := rfl
@[simp] theorem ownAt_succ {x : Option Sl} : ownAt (x :: ρ) (i + 1) = ownAt ρ i := rfl
@[simp] theorem eRowG_ev {k : Int} {Q : D → S → Prop} (h : isRow ρ i = true) : WP (eRowG i k ρ) z Q = WP (mopt (rowGet k z)) z fun n z' => Q (.int n) z' := by
  unfold WP eRowG mopt; simp only [h, if_true]; cases rowGet k z <;> rfl
@[simp] theorem eRowL_ev {Q : D → S → Prop} (h : isRow ρ i = true) : WP (eRowL i ρ) z Q = Q (.int z.script.length) z := by
  unfold WP eRowL; simp only [h, if_true]
@[simp] theorem eRowC_ev {f : EnD → M D} {Q : D → S → Prop} (h : isRow ρ i = true) : WP (eRowC i f ρ) z Q = WP (f ρ) z fun d z' => WP (mopt (asI d)) z' fun n z'' => WP (mopt ((atI z.script n).map D.int)) z'' Q := by
  unfold eRowC; rw [WP_bind]; rw [WP_ok (a := z.script) (z' := z) (by simp only [h, if_true])]; rw [WP_bind]; congr; funext d z'; rw [WP_bind]
@[simp] theorem run_ev {n : Nat} {b : SM} {ds : List D} {Q : D → S → Prop} : WP (runD n b ds) z Q = WS (b (rho0 n ds) z) (fun _ z' => Q .non z') Q := by
  unfold WP WS runD; cases b (rho0 n ds) z <;> rfl
@[simp] theorem sNil_ev : WS (sNil ρ z) Qn Qr = Qn ρ z := rfl
@[simp] theorem sSeq_ev {a b : SM} : WS (sSeq a b ρ z) Qn Qr = WS (a ρ z) (fun ρ' z' => WS (b ρ' z') Qn Qr) Qr := by
  unfold WS sSeq; cases a ρ z <;> rfl
theorem ob_ev {r : Res α} {k : α → S → Out} : WS (obind r k) Qn Qr = (match r with | .ok a z' => WS (k a z') Qn Qr | _ => False) := by
  cases r <;> rfl
@[simp] theorem sSet_ev {f : EnD → M D} : WS (sSet i f ρ z) Qn Qr = WP (f ρ) z fun d z' => if ownAt ρ i then False else Qn (ρ.set i (some (.val d))) z' := by
  unfold sSet; rw [ob_ev]; unfold WP; cases f ρ z <;> (try rfl); simp only; split <;> rfl
@[simp] theorem sIf_ev {t : EnD → M Bool} {a b : SM} : WS (sIf t a b ρ z) Qn Qr = WP (t ρ) z fun c z' => if c then WS (a ρ z') Qn Qr else WS (b ρ z') Qn Qr := by
  unfold sIf; rw [ob_ev]; unfold WP; cases t ρ z <;> (try rfl); simp only; split <;> rfl
@[simp] theorem sRet_ev {f : EnD → M D} : WS (sRet f ρ z) Qn Qr = WP (f ρ) z Qr := by
  unfold sRet; rw [ob_ev]; unfold WP; cases f ρ z <;> rfl
@[simp] theorem sRetN_ev : WS (sRetN ρ z) Qn Qr = Qr .non z := rfl
@[simp] theorem sEx_ev {f : EnD → M D} : WS (sEx f ρ z) Qn Qr = WP (f ρ) z fun _ z' => Qn ρ z' := by
  unfold sEx; rw [ob_ev]; unfold WP; cases f ρ z <;> rfl
@[simp] theorem sBad_ev : WS (sBad ρ z) Qn Qr = False := rfl
@[simp] theorem sRow_ev {k : Int} {f : EnD → M D} (h : isRow ρ i = true) : WS (sRow i k f ρ z) Qn Qr = WP (f ρ) z fun d z' => WP (mopt (asI d)) z' fun n z'' => WP (mopt (rowPut k n z')) z'' fun z3 _ => Qn ρ z3 := by
  unfold sRow; rw [ob_ev]; unfold WP; cases f ρ z <;> (try rfl)
  rename_i d z'
  simp only [h, if_true, mopt]
  cases d <;> (try rfl)
  simp only [asI, Option.bind_some]
  cases rowPut k _ z' <;> rfl
@[simp] theorem sPar_ev {f g : EnD → M D} : WS (sPar i j f g ρ z) Qn Qr = WP (f ρ) z fun a z' => WP (g ρ) z' fun b z'' => if ownAt ρ i || ownAt ρ j then False else Qn ((ρ.set i (some (.val a))).set j (some (.val b))) z'' := by
  unfold sPar; rw [ob_ev]
  have e1 : (WP (f ρ) z fun a z' => WP (g ρ) z' fun b z'' => if ownAt ρ i || ownAt ρ j then False else Qn ((ρ.set i (some (.val a))).set j (some (.val b))) z'') =
      WP (evs [f, g] ρ) z (fun ds z' => match ds with | [a, b] => if ownAt ρ i || ownAt ρ j then False else Qn ((ρ.set i (some (.val a))).set j (some (.val b))) z' | _ => False) := by
    rw [evs_cons]; congr; funext a z'; rw [evs_cons]; congr
  rw [e1]
  unfold WP
  cases evs [f, g] ρ z <;> (try rfl)
  rename_i ds z'
  match ds with
  | [] => rfl
  | [a] => rfl
  | [a, b] => simp only; split <;> rfl
  | a :: b :: c :: r => rfl
@[simp] theorem sFor_ev {xs : EnD → M (List D)} {b : SM} : WS (sFor i xs b ρ z) Qn Qr = WP (xs ρ) z fun l z' => WS (forD i b l ρ z') Qn Qr := by
  unfold sFor; rw [ob_ev]; unfold WP; cases xs ρ z <;> rfl
@[simp] theorem forD_nil {b : SM} : WS (forD i b [] ρ z) Qn Qr = Qn ρ z := rfl
/-- a loop whose body neither breaks nor continues -/
theorem forD_cons {b : SM} {x : D} {xs : List D} (h : ownAt ρ i = false) (hq : WS (b (ρ.set i (some (.val x))) z) (fun ρ' z' => WS (forD i b xs ρ' z') Qn Qr) Qr) : WS (forD i b (x :: xs) ρ z) Qn Qr := by
  unfold forD
  rw [h]
  simp only [Bool.false_eq_true, if_false]
  unfold WS at hq ⊢
  cases e : b (ρ.set i (some (.val x))) z <;> rw [e] at hq <;> first | exact hq | exact hq.elim
@[simp] theorem sForP_ev {xs : EnD → M (List (D × D))} {b : SM} : WS (sForP i j xs b ρ z) Qn Qr = WP (xs ρ) z fun l z' => WS (forP i j b l ρ z') Qn Qr := by
  unfold sForP; rw [ob_ev]; unfold WP; cases xs ρ z <;> rfl
@[simp] theorem forP_nil {b : SM} : WS (forP i j b [] ρ z) Qn Qr = Qn ρ z := rfl
@[simp] theorem eRowG_z {k : Int} {Q : D → S → Prop} : WP (eRowG 0 k (some (.val .row) :: ρ)) z Q = WP (mopt (rowGet k z)) z fun n z' => Q (.int n) z' := eRowG_ev rfl
@[simp] theorem eRowL_z {Q : D → S → Prop} : WP (eRowL 0 (some (.val .row) :: ρ)) z Q = Q (.int z.script.length) z := eRowL_ev rfl
@[simp] theorem eRowC_z {f : EnD → M D} {Q : D → S → Prop} : WP (eRowC 0 f (some (.val .row) :: ρ)) z Q = WP (f (some (.val .row) :: ρ)) z fun d z' => WP (mopt (asI d)) z' fun n z'' => WP (mopt ((atI z.script n).map D.int)) z'' Q := eRowC_ev rfl
@[simp] theorem sRow_z {k : Int} {f : EnD → M D} : WS (sRow 0 k f (some (.val .row) :: ρ) z) Qn Qr = WP (f (some (.val .row) :: ρ)) z fun d z' => WP (mopt (asI d)) z' fun n z'' => WP (mopt (rowPut k n z')) z'' fun z3 _ => Qn (some (.val .row) :: ρ) z3 := sRow_ev rfl
@[simp] theorem rowGet1 : rowGet 1 z = some z.place := rfl
@[simp] theorem rowGet2 : rowGet 2 z = some z.seed := rfl
@[simp] theorem rowGet3 : rowGet 3 z = some z.rest := rfl
@[simp] theorem rowPut1 {n : Int} : rowPut 1 n z = some { z with place := n } := rfl
@[simp] theorem rowPut2 {n : Int} : rowPut 2 n z = some { z with seed := n } := rfl
@[simp] theorem rowPut3 {n : Int} : rowPut 3 n z = some { z with rest := n } := rfl
@[simp] theorem asB_bl {b : Bool} : asB (.bl b) = some b := rfl
@[simp] theorem asI_int {n : Int} : asI (.int n) = some n := rfl
@[simp] theorem asS_str {s : List Nat} : asS (.str s) = some s := rfl
@[simp] theorem asT_tup {s : List D} : asT (.tup s) = some s := rfl
@[simp] theorem intD_int {n : Int} : DL.intD (.int n) = some (.int n) := rfl
@[simp] theorem gtD_int {a b : Int} : gtD (.int a) (.int b) = some (.bl (decide (b < a))) := rfl
@[simp] theorem geD_int {a b : Int} : geD (.int a) (.int b) = some (.bl (decide (b ≤ a))) := rfl
@[simp] theorem ltD_int {a b : Int} : ltD (.int a) (.int b) = some (.bl (decide (a < b))) := rfl
@[simp] theorem leD_int {a b : Int} : leD (.int a) (.int b) = some (.bl (decide (a ≤ b))) := rfl
@[simp] theorem addD_int {a b : Int} : addD (.int a) (.int b) = some (.int (a + b)) := rfl
@[simp] theorem subD_int {a b : Int} : subD (.int a) (.int b) = some (.int (a - b)) := rfl
@[simp] theorem negD_int {a : Int} : negD (.int a) = some (.int (-a)) := rfl
@[simp] theorem modD_int {a b : Int} : modD (.int a) (.int b) = if 0 < b then some (.int (a % b)) else none := rfl
@[simp] theorem fdivD_int {a b : Int} : fdivD (.int a) (.int b) = if 0 < b ∧ b < 1073741824 then some (.int (a / b)) else none := rfl
@[simp] theorem lenD_tup {s : List D} : lenD (.tup s) = some (.int s.length) := rfl
@[simp] theorem lenD_lst {s : List D} : lenD (.lst s) = some (.int s.length) := rfl
@[simp] theorem tupD_lst {s : List D} : tupD (.lst s) = some (.tup s) := rfl
@[simp] theorem tupD_tup {s : List D} : tupD (.tup s) = some (.tup s) := rfl
@[simp] theorem iterD_str {s : List Nat} : iterD (.str s) = some (s.map fun c => .str [c]) := rfl
@[simp] theorem iterD_tup {s : List D} : iterD (.tup s) = some s := rfl
@[simp] theorem iterD_lst {s : List D} : iterD (.lst s) = some s := rfl
@[simp] theorem items_tup {s : List D} : items (.tup s) = some s := rfl
@[simp] theorem items_lst {s : List D} : items (.lst s) = some s := rfl
@[simp] theorem isD_non {d : D} : isD d .non = some (.bl (isNonD d)) := by cases d <;> rfl
@[simp] theorem isNotD_non {d : D} : isNotD d .non = some (.bl (!isNonD d)) := by unfold isNotD; rw [isD_non]; rfl
@[simp] theorem WP_ites {α : Type} {c : Prop} [Decidable c] {a : α} {Q : α → S → Prop} : WP (mopt (if c then some a else none)) z Q = (c ∧ Q a z) := by
  by_cases h : c
  · rw [if_pos h, WP_some]; simp [h]
  · rw [if_neg h, WP_none]; simp [h]
end
end DL
set_option Elab.async false
set_option linter.all false
set_option maxRecDepth 100000
set_option maxHeartbeats 1000000
namespace DL
open PySem PySem.Spec PyProof.Rows L2

def okS (z : List Nat) : Bool := z.all fun c => decide (c < 1114112)
theorem strOk_ST {z : List Nat} : PyData.strOk (ST z) = okS z := by
  unfold PyData.strOk okS ST
  rw [← Array.all_toList]
theorem shp_str {z : List Nat} (h : okS z = true) : shp (.str z) = some (.str (ST z)) := by
  unfold shp
  simp only [py, Option.bind_some]
  rw [if_pos]
  unfold SeqAt.shaped
  simp only [PyData.canLay0, strOk_ST, h, PyData.depth, Bool.true_and]
  rfl
@[simp] theorem shp_int {i : Int} : shp (.int i) = some (.int i) := rfl
@[simp] theorem shp_bl {i : Bool} : shp (.bl i) = some (.bool i) := rfl
@[simp] theorem shp_non : shp .non = some .none := rfl
theorem ST_beq {a b : List Nat} : (ST a == ST b) = decide (a = b) := by
  by_cases h : a = b
  · subst h; simp
  · rw [decide_eq_false h, beq_eq_false_iff_ne]
    exact fun e => h (ST_inj e)
@[simp] theorem eqv_str {a b : List Nat} : PyData.eqv (.str (ST a)) (.str (ST b)) = decide (a = b) := by
  show (ST a == ST b) = _
  exact ST_beq
theorem eqD_str {a b : List Nat} (ha : okS a = true) (hb : okS b = true) : eqD (.str a) (.str b) = some (.bl (decide (a = b))) := by
  unfold eqD
  rw [shp_str ha, shp_str hb]
  simp
theorem neD_str {a b : List Nat} (ha : okS a = true) (hb : okS b = true) : neD (.str a) (.str b) = some (.bl (!decide (a = b))) := by
  unfold neD
  rw [shp_str ha, shp_str hb]
  simp
@[simp] theorem eqD_int {a b : Int} : eqD (.int a) (.int b) = some (.bl (decide (a = b))) := by
  show some (D.bl (a == b)) = _
  rw [show (a == b) = decide (a = b) by by_cases h : a = b <;> simp [h]]
@[simp] theorem eqD_bl {a b : Bool} : eqD (.bl a) (.bl b) = some (.bl (a == b)) := rfl
@[simp] theorem neD_int {a b : Int} : neD (.int a) (.int b) = some (.bl (!decide (a = b))) := by
  show some (D.bl (!(a == b))) = _
  rw [show (a == b) = decide (a = b) by by_cases h : a = b <;> simp [h]]
theorem py_strs : ∀ zs : List (List Nat), pyAll (zs.map .str) = some (zs.map fun z => .str (ST z))
  | [] => rfl
  | z :: zs => by
    rw [List.map_cons, pyAll, py, py_strs zs]
    rfl
theorem lay_strs : ∀ {zs : List (List Nat)}, (∀ z ∈ zs, okS z = true) → PyData.canLayAll0 (zs.map fun z => PyData.str (ST z)) = true
  | [], _ => rfl
  | z :: zs, h => by
    rw [List.map_cons, PyData.canLayAll0, lay_strs fun y hy => h y (List.mem_cons_of_mem _ hy), PyData.canLay0, strOk_ST, h z (List.mem_cons_self ..)]
    rfl
theorem dep_strs : ∀ zs : List (List Nat), PyData.depthAll (zs.map fun z => PyData.str (ST z)) = 0
  | [] => rfl
  | z :: zs => by
    rw [List.map_cons, PyData.depthAll, dep_strs zs]
    rfl
theorem shaped_strs {zs : List (List Nat)} (h : ∀ z ∈ zs, okS z = true) : SeqAt.shaped (.list (zs.map fun z => PyData.str (ST z))) = true := by
  unfold SeqAt.shaped
  simp only [PyData.canLay0, lay_strs h, PyData.depth, dep_strs]
  rfl
theorem shaped_strsT {zs : List (List Nat)} (h : ∀ z ∈ zs, okS z = true) : SeqAt.shaped (.tuple (zs.map fun z => PyData.str (ST z))) = true := by
  unfold SeqAt.shaped
  simp only [PyData.canLay0, lay_strs h, PyData.depth, dep_strs]
  rfl
theorem any_strs {w : List Nat} : ∀ zs : List (List Nat), ((zs.map fun z => PyData.str (ST z)).any fun z => PyData.eqv z (.str (ST w))) = zs.any fun z => decide (z = w)
  | [] => rfl
  | z :: zs => by
    rw [List.map_cons, List.any_cons, List.any_cons, any_strs zs, eqv_str]
theorem inD_gen {w : List Nat} {zs : List (List Nat)} {e : D} (he : items e = some (zs.map .str)) (hw : okS w = true) (h : ∀ z ∈ zs, okS z = true) : inD (.str w) e = some (.bl (zs.any fun z => decide (z = w))) := by
  unfold inD
  rw [he, shp_str hw]
  simp only [Option.bind_some, py_strs]
  rw [if_pos (shaped_strs h), any_strs]
theorem inD_tup {w : List Nat} {zs : List (List Nat)} (hw : okS w = true) (h : ∀ z ∈ zs, okS z = true) : inD (.str w) (.tup (zs.map .str)) = some (.bl (zs.any fun z => decide (z = w))) := inD_gen rfl hw h
theorem inD_lst {w : List Nat} {zs : List (List Nat)} (hw : okS w = true) (h : ∀ z ∈ zs, okS z = true) : inD (.str w) (.lst (zs.map .str)) = some (.bl (zs.any fun z => decide (z = w))) := inD_gen rfl hw h
theorem notInD_tup {w : List Nat} {zs : List (List Nat)} (hw : okS w = true) (h : ∀ z ∈ zs, okS z = true) : notInD (.str w) (.tup (zs.map .str)) = some (.bl (!zs.any fun z => decide (z = w))) := by
  unfold notInD
  rw [items_tup, shp_str hw]
  simp only [Option.bind_some, py_strs]
  rw [if_pos (shaped_strs h), any_strs]
theorem sIx_pos (n d : Nat) {i : Int} (h : 0 ≤ i) : HT.sIx n d (some i) = min i.toNat n := by
  obtain ⟨k, rfl⟩ := Int.eq_ofNat_of_zero_le h
  rw [HT.sIx_nat]
  rfl
theorem cutL_hi {α : Type} {xs : List α} {i : Int} (h : 0 ≤ i) : cutL xs none (some i) = xs.take i.toNat := by
  unfold cutL
  rw [HT.sIx_none, sIx_pos _ _ h, List.drop_zero, Nat.sub_zero]
  rw [List.take_eq_take_iff]
  omega
theorem cutL_lo {α : Type} {xs : List α} {i : Int} (h : 0 ≤ i) : cutL xs (some i) none = xs.drop i.toNat := by
  unfold cutL
  rw [HT.sIx_none, sIx_pos _ _ h]
  by_cases c : i.toNat ≤ xs.length
  · rw [Nat.min_eq_left c, List.take_of_length_le]
    rw [List.length_drop]
    omega
  · rw [Nat.min_eq_right (by omega), List.drop_of_length_le (Nat.le_refl _), List.drop_of_length_le (by omega), List.take_nil]
theorem cutL_last {α : Type} {xs : List α} {i : Int} (h : i < 0) (h2 : -(xs.length : Int) ≤ i) : cutL xs (some i) none = xs.drop (i + xs.length).toNat := by
  unfold cutL
  rw [HT.sIx_none]
  have e : HT.sIx xs.length 0 (some i) = (i + xs.length).toNat := by
    show (if i < 0 then (i + (xs.length : Int)).toNat else min i.toNat xs.length) = _
    rw [if_pos h]
  rw [e, List.take_of_length_le]
  rw [List.length_drop]
  omega
theorem slD_str {z : List Nat} {lo hi : Option Int} (h : z.length ≤ 16777216) : slD (.str z) lo hi = some (.str (cutL z lo hi)) := by
  show (if z.length ≤ sizeLine then some (D.str (cutL z lo hi)) else none) = _
  rw [if_pos (by rw [sizeLine_eq]; exact h)]
@[simp] theorem slD_tup {z : List D} {lo hi : Option Int} : slD (.tup z) lo hi = some (.tup (cutL z lo hi)) := rfl
@[simp] theorem ixA_tup {z : List D} {i : Int} : ixA (.tup z) (.int i) = atI z i := rfl
@[simp] theorem ixA_lst {z : List D} {i : Int} : ixA (.lst z) (.int i) = atI z i := rfl
@[simp] theorem ixA_dS {es : List (List Nat × D)} {k : List Nat} : ixA (.dS es) (.str k) = getS es k := rfl
theorem ixA_str {z : List Nat} {i : Int} (h : z.length ≤ 16777216) : ixA (.str z) (.int i) = (atI z i).map fun c => .str [c] := by
  show (if z.length ≤ sizeLine then _ else _) = _
  rw [if_pos (by rw [sizeLine_eq]; exact h)]
theorem lenD_str {z : List Nat} (h : z.length ≤ 16777216) : lenD (.str z) = some (.int z.length) := by
  show (if z.length ≤ sizeLine then some (D.int z.length) else none) = _
  rw [if_pos (by rw [sizeLine_eq]; exact h)]
theorem atI_pos {α : Type} {xs : List α} {i : Int} (h0 : 0 ≤ i) : atI xs i = xs[i.toNat]? := by
  unfold atI ixN
  rw [if_pos h0]
  split
  · rfl
  · rw [List.getElem?_eq_none (by omega)]; rfl
theorem atI_neg {α : Type} {xs : List α} {i : Int} (h0 : i < 0) (h1 : -(xs.length : Int) ≤ i) : atI xs i = xs[(i + xs.length).toNat]? := by
  unfold atI ixN
  rw [if_neg (by omega), if_pos h1]
  rfl
@[simp] theorem countS_one {z : List Nat} {c : Nat} : countS z (.str [c]) = some (.int (z.count c)) := rfl
theorem compL_range {i : Nat} {t : EnD → M Bool} {f : EnD → M D} {tb : Nat → Bool} {fb : Nat → D} {ρ : EnD} {lo : Int} {n : Nat}
    (h : ∀ k, k < n → t ((ρ.set i none).set i (some (.val (.int (lo + (k : Int)))))) = mpure (tb k) ∧ (tb k = true → f ((ρ.set i none).set i (some (.val (.int (lo + (k : Int)))))) = mpure (fb k))) : compL i t f (rangeD lo n) ρ = mpure (((List.range n).filter tb).map fb) := by
  have gen : ∀ ks : List Nat, (∀ k ∈ ks, k < n) → compL i t f (ks.map fun (k : Nat) => D.int (lo + (k : Int))) ρ = mpure ((ks.filter tb).map fb) := by
    intro ks
    induction ks with
    | nil => intro _; rfl
    | cons k ks ih =>
      intro hk
      have hk0 := h k (hk k (List.mem_cons_self ..))
      apply WP_pure_of
      intro z
      rw [List.map_cons, compL_cons, hk0.1, WP_pure, ih fun y hy => hk y (List.mem_cons_of_mem _ hy)]
      cases e : tb k with
      | true =>
        rw [if_pos rfl, hk0.2 e, WP_pure, WP_pure, List.filter_cons_of_pos e]
        exact ⟨rfl, rfl⟩
      | false =>
        rw [if_neg Bool.false_ne_true, WP_pure, List.filter_cons_of_neg (by rw [e]; exact Bool.false_ne_true)]
        exact ⟨rfl, rfl⟩
  exact gen _ fun k hk => List.mem_range.mp hk
@[simp] theorem okS_nil : okS [] = true := rfl
@[simp] theorem okS_cons {c : Nat} {z : List Nat} : okS (c :: z) = (decide (c < 1114112) && okS z) := rfl
theorem inD_lst2 {w a b : List Nat} (hw : okS w = true) (ha : okS a = true) (hb : okS b = true) : inD (.str w) (.lst [.str a, .str b]) = some (.bl (decide (a = w) || decide (b = w))) := by
  have h := inD_lst (w := w) (zs := [a, b]) hw (by simp [ha, hb])
  simpa using h
theorem py_ints : ∀ zs : List Int, pyAll (zs.map .int) = some (zs.map .int)
  | [] => rfl
  | z :: zs => by
    rw [List.map_cons, pyAll, py, py_ints zs]
    rfl
theorem shaped_ints {zs : List Int} : SeqAt.shaped (.list (zs.map PyData.int)) = true ∧ SeqAt.shaped (.tuple (zs.map PyData.int)) = true := by
  have h : PyData.canLayAll0 (zs.map PyData.int) = true ∧ PyData.depthAll (zs.map PyData.int) = 0 := by
    induction zs with
    | nil => exact ⟨rfl, rfl⟩
    | cons z zs ih =>
      rw [List.map_cons, PyData.canLayAll0, PyData.depthAll, ih.1, ih.2]
      exact And.intro rfl rfl
  unfold SeqAt.shaped
  simp only [PyData.canLay0, h.1, PyData.depth, h.2]
  exact ⟨rfl, rfl⟩
theorem any_ints {w : Int} : ∀ zs : List Int, ((zs.map PyData.int).any fun z => PyData.eqv z (.int w)) = zs.any fun z => decide (z = w)
  | [] => rfl
  | z :: zs => by
    rw [List.map_cons, List.any_cons, List.any_cons, any_ints zs]
    rw [show PyData.eqv (.int z) (.int w) = (z == w) from rfl, show (z == w) = decide (z = w) by by_cases h : z = w <;> simp [h]]
theorem inD_ints {w : Int} {zs : List Int} : inD (.int w) (.lst (zs.map .int)) = some (.bl (zs.any fun z => decide (z = w))) := by
  unfold inD
  rw [items_lst, shp_int]
  simp only [Option.bind_some, py_ints]
  rw [if_pos shaped_ints.1, any_ints]
theorem eqv_ints : ∀ a b : List Int, PyData.eqvAll (a.map .int) (b.map .int) = decide (a = b)
  | [], [] => rfl
  | [], _ :: _ => rfl
  | _ :: _, [] => rfl
  | x :: a, y :: b => by
    rw [List.map_cons, List.map_cons, PyData.eqvAll, eqv_ints a b, show PyData.eqv (.int x) (.int y) = (x == y) from rfl, show (x == y) = decide (x = y) by by_cases h : x = y <;> simp [h]]
    by_cases h1 : x = y <;> by_cases h2 : a = b <;> simp [h1, h2]
theorem shp_ints {a : List Int} : shp (.lst (a.map .int)) = some (.list (a.map .int)) ∧ shp (.tup (a.map .int)) = some (.tuple (a.map .int)) := by
  unfold shp
  simp only [py, py_ints, Option.map_some, Option.bind_some]
  exact ⟨if_pos shaped_ints.1, if_pos shaped_ints.2⟩
theorem eqD_ints {a b : List Int} : eqD (.lst (a.map .int)) (.lst (b.map .int)) = some (.bl (decide (a = b))) ∧ eqD (.tup (a.map .int)) (.tup (b.map .int)) = some (.bl (decide (a = b))) := by
  unfold eqD
  rw [shp_ints.1, shp_ints.1, shp_ints.2, shp_ints.2]
  simp only [Option.bind_some, PyData.eqv, eqv_ints]
  exact ⟨trivial, trivial⟩
theorem eqv_strs : ∀ a b : List (List Nat), PyData.eqvAll (a.map fun z => .str (ST z)) (b.map fun z => .str (ST z)) = decide (a = b)
  | [], [] => rfl
  | [], _ :: _ => rfl
  | _ :: _, [] => rfl
  | x :: a, y :: b => by
    rw [List.map_cons, List.map_cons, PyData.eqvAll, eqv_strs a b, eqv_str]
    by_cases h1 : x = y <;> by_cases h2 : a = b <;> simp [h1, h2]
theorem shp_strs {a : List (List Nat)} (h : ∀ z ∈ a, okS z = true) : shp (.tup (a.map .str)) = some (.tuple (a.map fun z => .str (ST z))) ∧ shp (.lst (a.map .str)) = some (.list (a.map fun z => .str (ST z))) := by
  unfold shp
  simp only [py, py_strs, Option.map_some, Option.bind_some]
  exact ⟨if_pos (shaped_strsT h), if_pos (shaped_strs h)⟩
theorem inD_tups {a : List (List Nat)} {bss : List (List (List Nat))} (ha : ∀ z ∈ a, okS z = true) (hb : ∀ b ∈ bss, ∀ z ∈ b, okS z = true) : inD (.tup (a.map .str)) (.tup (bss.map fun b => .tup (b.map .str))) = some (.bl (bss.any fun b => decide (b = a))) := by
  unfold inD
  rw [items_tup, (shp_strs ha).1]
  have h1 : pyAll (bss.map fun b => D.tup (b.map .str)) = some (bss.map fun b => PyData.tuple (b.map fun z => .str (ST z))) := by
    clear hb
    induction bss with
    | nil => rfl
    | cons b bss ih =>
      rw [List.map_cons, pyAll, py, py_strs, ih]
      rfl
  have h2 : PyData.canLayAll0 (bss.map fun b => PyData.tuple (b.map fun z => .str (ST z))) = true ∧ PyData.depthAll (bss.map fun b => PyData.tuple (b.map fun z => .str (ST z))) ≤ 1 := by
    clear h1
    induction bss with
    | nil => exact ⟨rfl, Nat.zero_le _⟩
    | cons b bss ih =>
      have ih := ih fun b hb' => hb b (List.mem_cons_of_mem _ hb')
      rw [List.map_cons, PyData.canLayAll0, PyData.depthAll, PyData.canLay0, PyData.depth, lay_strs (hb b (List.mem_cons_self ..)), dep_strs, ih.1]
      exact ⟨rfl, Nat.max_le.mpr ⟨Nat.le_refl _, ih.2⟩⟩
  have h3 : SeqAt.shaped (.list (bss.map fun b => PyData.tuple (b.map fun z => .str (ST z)))) = true := by
    refine Bool.and_eq_true_iff.mpr ⟨?_, decide_eq_true ?_⟩
    · rw [PyData.canLay0]; exact h2.1
    · rw [PyData.depth]; omega
  simp only [Option.bind_some, h1]
  rw [if_pos h3]
  congr 2
  clear h1 h2 h3 hb
  induction bss with
  | nil => rfl
  | cons b bss ih => rw [List.map_cons, List.any_cons, List.any_cons, ih, PyData.eqv, eqv_strs]
end DL
set_option Elab.async false
set_option linter.all false
set_option maxRecDepth 100000
set_option maxHeartbeats 1000000
namespace GX
open PySem PySem.Spec PyProof.Rows L2 GenW GxR

section
variable {Z : L2.Cx} {A : Around} {R : GenEnd} {Y : Protocol} {κ : Type} {J : It} {tg elt iter : Expr} {ifs : List Expr} {scope : Scope} {pos : Pos} {it : Addr} {fp : List Addr} {tn : Nat → Heap → Prop} {σ0 : L2.St} {g : TG} {tt : TT} {te : TE} {vs : List Nat}
  {PO : κ → List (Addr × Obj) → Prop} {W : Nat → Nat → κ → Hp → Prop} {Zd : κ → Hp → Prop} {Yd : Nat → Nat → κ → V → Hp → Prop} {Fu : Nat → κ → Nat → Prop}

end

abbrev sumO (i : Int) (t : Tok) (c : Nat) : Obj := { cls := .type "list", dict := none, data := .seq #[.int i t] c, slots := #[] }
/-- the consumer's total is another -/
structure Put (S : Addr) (i : Int) (s s' : Shared) : Prop where
  os : s'.os = s.os
  bare : AllBare s'.gens
  keep : ∀ b o, b ≠ S → s.heap.get? b = some o → s'.heap.get? b = some o
  own : ∃ t c, s'.heap.get? S = some (sumO i t c)
def YS (sc : Shared) (a g : Nat) (S : Addr) : Protocol := fun n s₀ v s kap =>
  s.os = sc.os ∧ AllBare s.gens ∧ s.heap.NoLimit ∧ s.heap.IsGen a g ∧ (∀ o, s₀.heap.get? S = some o → s.heap.get? S = some o) ∧ ∃ i t c b tb, s.heap.get? S = some (sumO i t c) ∧ v = Value.int b tb ∧ ∀ s', Put S (i + b) s s' → kap (.send .none) s'
def ES (X : L2.Cx) (sc : Shared) (H : Hp) (fp : List Addr) (S : Addr) (Qe : Int → Hp → Prop) (n : Nat) (s₀ s : Shared) : Prop :=
  s.os = sc.os ∧ AllBare s.gens ∧ (∀ o, s₀.heap.get? S = some o → s.heap.get? S = some o) ∧ ∃ H' i t c, Un (frs X.stack) fp H H' sc.heap s.heap ∧ HOk X.prog X.w H' s.heap ∧ H' S = none ∧ s.heap.get? S = some (sumO i t c) ∧ Qe i H'
def RS (X : L2.Cx) (sc : Shared) (H : Hp) (fp : List Addr) (S : Addr) (Qe : Int → Hp → Prop) : GenEnd := fun n s₀ r s => r = .ok .next ∧ ES X sc H fp S Qe n s₀ s
section
variable {X : L2.Cx} {sc : Shared} {H : Hp} {fp : List Addr} {a g : Nat} {S : Addr} {Qe : Int → Hp → Prop} {A : Around} {R : Result → Shared → Prop}
end
/-- one turn of a generator expression whose items are summed; t: the total -/
def GTS (J : It) (g : TG) (tt : TT) (te : TE) (vs : List Nat) (σ0 : L2.St) (Qe : Int → Hp → Prop) (W : Nat → Nat → Int → Hp → Prop) : Prop :=
  ∀ i m t H, W i m t H → (J.stop i H ∧ Qe t H) ∨ (J.go i H ∧ ∀ x H', J.yld i H x H' → g x σ0 H' fun σ2 H2 => wipe σ2 vs = σ0 ∧ tt σ2 H2 fun b H3 =>
    if b = true then te σ2 H3 fun y H4 => 0 < m ∧ ∃ b, y = .int b ∧ ∃ m', m' < m ∧ W (i + 1) m' (t + b) H4 else ∃ m', m' < m ∧ W (i + 1) m' t H3)
def bSum (g : TG) (tt : TT) (te : TE) (vs : List Nat) : It → L2.St → Hp → VK → Prop := fun J σ H Q => ∃ W, (∃ m, W 0 m 0 H) ∧ GTS J g tt te vs (wipe σ vs) (fun t H' => Q (.int t) H') W
section
variable {X : L2.Cx} {pins : List (Addr × Obj)} {σ : L2.St} {H : Hp}
end
end GX
set_option Elab.async false
set_option linter.all false
set_option maxRecDepth 100000
set_option maxHeartbeats 1000000
namespace DL
open PySem PySem.Spec PyProof.Rows L2 GX GenW GxR

def sumL (i : Nat) (t : EnD → M Bool) (f : EnD → M D) : List D → EnD → M Int
  | [], _ => mpure 0
  | x :: xs, ρ => mbind (mne (t ((ρ.set i none).set i (some (.val x))))) fun b =>
    if b then mbind (mne (f ((ρ.set i none).set i (some (.val x))))) fun d => mbind (mopt (asI d)) fun k => mbind (sumL i t f xs ρ) fun n => mpure (k + n)
    else sumL i t f xs ρ
def eSumG (i : Nat) (xs : EnD → M (List D)) (t : EnD → M Bool) (f : EnD → M D) : EnD → M D := fun ρ => mbind (xs ρ) fun l =>
  if ownAt ρ i = false then mbind (sumL i t f l ρ) fun n => mpure (.int n) else mbad
section
variable {X : L2.Cx} {T : Tb} {E : XK} {fi : EnD → M (List D)} {t : EnD → M Bool} {f fa fb : EnD → M D} {elt iter tg a b : Expr} {ifs : List Expr} {scope : Scope} {pos gpos p apos pp : Pos} {x : Str} {i : Nat} {px : Pos} {k : Nat} {c P : Addr}
theorem strsRs {K : PySem.W.Frag} {H : Hp} {R : Addr} {B : Addr → Prop} : ∀ {ds : List D} {vs : List V} {zs : List (List Nat)}, Rs K H R B vs ds → strsD ds = some zs → vs = (zs.map ST).map V.str
  | [], vs, zs, r, h => by
    cases r
    simp [strsD] at h
    subst h
    rfl
  | d :: ds, vs, zs, r, h => by
    cases vs with
    | nil => cases r
    | cons v vs =>
      obtain ⟨r1, r2⟩ := r.split
      cases d <;> simp only [strsD, reduceCtorEq, Option.map_eq_some_iff] at h
      obtain ⟨zs', h1, rfl⟩ := h
      cases r1.str
      rw [strsRs r2 h1]
      rfl
def combD : D → D → Option D
  | .int n, .int j => if 0 ≤ n ∧ 0 ≤ j ∧ n ≤ 1000 then some (.int (PySem.W.mcComb n j)) else none
  | _, _ => none
def rComb : List V → Hp → VK → Prop := fun vs H Q => ∃ n j : Int, vs = [.int n, .int j] ∧ 0 ≤ n ∧ 0 ≤ j ∧ n ≤ 1000 ∧ Q (.int (PySem.W.mcComb n j)) H
theorem call_comb : CallR X (.builtin "math.comb") rComb := by
  intro pins s σ H xs us Q I r h
  obtain ⟨n, j, rfl, h1, h2, h3, q⟩ := h
  obtain ⟨u1, u2, rfl, r1, r2⟩ := vals2 r
  obtain ⟨t1, rfl⟩ := (show ∃ t, u1 = Value.int n t from r1)
  obtain ⟨t2, rfl⟩ := (show ∃ t, u2 = Value.int j t from r2)
  exact PySem.W.mc_comb h1 h2 (by omega) (.inr (by omega)) fun _ => ⟨.int _, H, I.tok _, ⟨_, rfl⟩, q⟩
end
end DL
set_option Elab.async false
set_option linter.all false
set_option maxRecDepth 100000
set_option maxHeartbeats 1000000
namespace DL
open PySem PySem.Spec PyProof.Rows L2

def tblD (tbl : List (List Nat × D)) : D → Option D
  | .str w => getS tbl w
  | _ => none
def eCallN (adr : Nat → Addr) (fs : Nat → Option (List D → M D)) (i : Nat) (as : List (EnD → M D)) : EnD → M D := fun ρ => match ρ[i]? with
  | some (some (.val (.fn j a))) => if a = adr j then (match fs j with
    | some F => mbind (evs as ρ) fun ds => mne (F ds)
    | none => mbad) else mbad
  | _ => mbad
section
variable {X : L2.Cx} {T : Tb} {E : XK} {b e : Expr} {es : List Expr} {fb : EnD → M D} {fas : List (EnD → M D)} {pos p px : Pos} {x : Str} {i k n : Nat}
/-- what a written dict holds -/
structure KTab (K : PySem.W.Frag) (w : World) (a : Addr) (tbl : List (List Nat × D)) : Prop where
  at_ : ∀ z d, getS tbl z = some d → ∃ v, KDct K w a (ST z) v ∧ WR K v d
theorem ktab_of {K : PySem.W.Frag} {w : World} {a : Addr} {tbl : List (List Nat × D)} (h : ∀ p ∈ tbl, ∃ v, KDct K w a (ST p.1) v ∧ WR K v p.2) : KTab K w a tbl := by
  refine ⟨fun z d e => ?_⟩
  unfold getS at e
  obtain ⟨p, hp, rfl⟩ := Option.map_eq_some_iff.mp e
  have h1 := List.mem_of_find?_eq_some hp
  have h2 := List.find?_some hp
  have h3 : p.1 = z := of_decide_eq_true h2
  rw [← h3]
  exact h p h1
theorem pu_ixK {tbl : List (List Nat × D)} {ad : Addr} (hg : Gl X x) (hm : X.mg x = some (.ref ad)) (hT : KTab X.K X.w ad tbl) (hb : PE X b (tD (yx X T E) fb)) (hs : PlainIx b := by intro _ _; rfl) (hd : (x == ("__debug__" : Str)) = false := by decide) :
    PE X (.Subscript (.Name x px) b pos) (tD (yx X T E) (e1 (op1 (tblD tbl)) fb)) :=
  PE_imp (pe_ix ix_kdict (pe_glob hg hm (v := .ref ad) rfl hd) hb hs) fun σ H Q h => by
    obtain ⟨g, ρ, z, st, a⟩ := tD_bind (k := fun _ => op1 (tblD tbl)) h
    refine ⟨g, ρ, z, st, a.imp fun d z1 _ h1 v H1 st1 e1 r1 => ?_⟩
    obtain ⟨g2, ρ2, z2, d2, st2, r2, a2⟩ := h1 v H1 st1 e1 r1
    obtain ⟨r, hr, q⟩ := a2.opt
    cases d2 <;> simp only [tblD, reduceCtorEq] at hr
    obtain ⟨v2, hk, hw⟩ := hT.at_ _ _ hr
    cases r2.str
    exact ⟨ad, _, v2, rfl, rfl, hk, q _ H1 st2 .refl (hw _ _ _ fun a ha => st2.badK ha)⟩
end
end DL
set_option Elab.async false
set_option linter.all false
set_option maxRecDepth 100000
set_option maxHeartbeats 1000000
namespace DL
open PySem PySem.Spec PyProof.Rows L2

section
variable {Y : Yx} {g : G} {H H' : Hp} {σ : L2.St} {ρ : EnD} {z : S} {i : Nat} {p a : Addr} {d : D}
theorem bad_own (hl : σ.length = ρ.length) (h : ownAt ρ i = false) (hi : i < ρ.length) : bad g (σ.set i (some (.ref p))) (ρ.set i (some (.own d))) = bad (gd g p) σ ρ := by
  funext a
  apply propext
  constructor
  · rintro (h1 | ⟨j, e, h1, h2⟩)
    · exact .inl (.inl h1)
    · by_cases c : i = j
      · subst c
        rw [List.getElem?_set_self (by rw [hl]; exact hi)] at h2
        cases h2
        exact .inl (.inr rfl)
      · rw [List.getElem?_set_ne c] at h1 h2
        exact .inr ⟨j, e, h1, h2⟩
  · rintro ((h1 | rfl) | ⟨j, e, h1, h2⟩)
    · exact .inl h1
    · exact .inr ⟨i, d, List.getElem?_set_self hi, List.getElem?_set_self (by rw [hl]; exact hi)⟩
    · have c : i ≠ j := fun c => by subst c; exact ownAt_not h e h1
      exact .inr ⟨j, e, by rw [List.getElem?_set_ne c]; exact h1, by rw [List.getElem?_set_ne c]; exact h2⟩
theorem StR.setOwn (st : StR Y (gd g p) H σ ρ z) (gR : g.B g.R) (h : ownAt ρ i = false) (hi : i < ρ.length) (n : ¬ g.B p) (h0 : g.H0 p = none) (hk : Y.K.lookup p = none) (o : OwnAt Y.K H g.R (bad (gd g p) σ ρ) p d) :
    StR Y g H (σ.set i (some (.ref p))) (ρ.set i (some (.own d))) z where
  wo := by unfold gb; rw [bad_own st.len h hi]; exact st.wo
  gR := gR
  len := by rw [List.length_set, List.length_set]; exact st.len
  val := fun j e hj => by
    rw [bad_own st.len h hi]
    rcases set_some hj with ⟨rfl, e1, hl⟩ | ⟨ne, hj⟩
    · cases e1
    · obtain ⟨v, h1, h2⟩ := st.val j e hj
      exact ⟨v, by rw [List.getElem?_set_ne ne]; exact h1, h2⟩
  own := fun j e hj => by
    rw [bad_own st.len h hi]
    rcases set_some hj with ⟨rfl, e1, hl⟩ | ⟨ne, hj⟩
    · cases e1
      exact ⟨p, List.getElem?_set_self (by rw [st.len]; exact hi), n, h0, hk, o⟩
    · obtain ⟨a, h1, h2, h3, h4, h5⟩ := st.own j e hj
      exact ⟨a, by rw [List.getElem?_set_ne ne]; exact h1, fun q => h2 (.inl q), h3, h4, h5⟩
  inj := fun j k e e' a hj hk' h1 h2 => by
    have key : ∀ (j : Nat) (e : D), i ≠ j → ρ[j]? = some (some (.own e)) → σ[j]? ≠ some (some (.ref p)) := fun j e ne hj q => by
      obtain ⟨a, q1, q2, _⟩ := st.own j e hj
      rw [q] at q1
      cases q1
      exact q2 (.inr rfl)
    rcases set_some hj with ⟨rfl, e1, hl⟩ | ⟨ne, hj⟩
    · rcases set_some hk' with ⟨rfl, e2, hl2⟩ | ⟨ne', hk'⟩
      · rfl
      · rw [List.getElem?_set_self (by rw [st.len]; exact hi)] at h1
        rw [List.getElem?_set_ne ne'] at h2
        cases h1
        exact absurd h2 (key k e' ne' hk')
    · rcases set_some hk' with ⟨rfl, e2, hl2⟩ | ⟨ne', hk'⟩
      · rw [List.getElem?_set_self (by rw [st.len]; exact hi)] at h2
        rw [List.getElem?_set_ne ne] at h1
        cases h2
        exact absurd h1 (key j e ne hj)
      · rw [List.getElem?_set_ne ne] at h1
        rw [List.getElem?_set_ne ne'] at h2
        exact st.inj j k e e' a hj hk' h1 h2
  ext := st.ext
theorem OwnAt.nx {K : PySem.W.Frag} {R b : Addr} {B : Addr → Prop} {e : D} {o : HO} (h : OwnAt K H R B b e) (q : H b = some o) : ∀ φ, o ≠ .ext φ := fun φ z => by
  subst z
  cases e <;> first | exact h.elim | (obtain ⟨x, e2, _⟩ := h; rw [q] at e2; cases e2)
/-- an own dict is written -/
theorem bad_put (hρ : ∃ e, ρ[i]? = some (some (.own e))) : bad g σ (ρ.set i (some (.own d))) = bad g σ ρ := by
  obtain ⟨e0, hρ⟩ := hρ
  have hi : i < ρ.length := (List.getElem?_eq_some_iff.mp hρ).1
  funext a
  apply propext
  constructor
  · rintro (h1 | ⟨j, e, h1, h2⟩)
    · exact .inl h1
    · by_cases c : i = j
      · subst c
        exact .inr ⟨i, e0, hρ, h2⟩
      · rw [List.getElem?_set_ne c] at h1
        exact .inr ⟨j, e, h1, h2⟩
  · rintro (h1 | ⟨j, e, h1, h2⟩)
    · exact .inl h1
    · by_cases c : i = j
      · subst c
        exact .inr ⟨i, d, List.getElem?_set_self hi, h2⟩
      · exact .inr ⟨j, e, by rw [List.getElem?_set_ne c]; exact h1, h2⟩
theorem StR.put {e0 : D} {o' : HO} (st : StR Y g H σ ρ z) (hρ : ρ[i]? = some (some (.own e0))) (hσ : σ[i]? = some (some (.ref a))) (ho : OwnAt Y.K (upd H a o') g.R (bad g σ ρ) a d) : StR Y g (upd H a o') σ (ρ.set i (some (.own d))) z := by
  have hi : i < ρ.length := (List.getElem?_eq_some_iff.mp hρ).1
  obtain ⟨a', s1, s2, s3, s4, s5⟩ := st.own i e0 hρ
  rw [hσ] at s1
  cases s1
  obtain ⟨u, hu, _, hnt⟩ := s5.there
  have hB : bad g σ ρ a := .inr ⟨i, e0, hρ, hσ⟩
  have hR : a ≠ g.R := st.ownNe ⟨i, e0, hρ, hσ⟩
  have be := bad_put (g := g) (σ := σ) (d := d) ⟨e0, hρ⟩
  refine ⟨by unfold gb; rw [be]; exact st.wo.up hB hR hu hnt (s5.nx hu), st.gR, by rw [List.length_set]; exact st.len, fun j e hj => ?_, fun j e hj => ?_, fun j k e e' b hj hk h1 h2 => ?_, ?_⟩
  · rw [be]
    rcases set_some hj with ⟨rfl, e1, hl⟩ | ⟨ne, hj⟩
    · cases e1
    · obtain ⟨v, h1, h2⟩ := st.val j e hj
      exact ⟨v, h1, h2.mono (RdLe.up hB)⟩
  · rw [be]
    rcases set_some hj with ⟨rfl, e1, hl⟩ | ⟨ne, hj⟩
    · cases e1
      exact ⟨a, hσ, s2, s3, s4, ho⟩
    · obtain ⟨b, h1, h2, h3, h4, h5⟩ := st.own j e hj
      have nb : b ≠ a := fun q => ne (st.inj i j e0 e a hρ hj hσ (by rw [← q]; exact h1))
      exact ⟨b, h1, h2, h3, h4, h5.mono (RdLe.up hB) fun u q _ => by rw [upd_ne nb]; exact q⟩
  · have orig : ∀ (j : Nat) (e : D), (ρ.set i (some (.own d)))[j]? = some (some (.own e)) → ∃ e', ρ[j]? = some (some (.own e')) := fun j e hj => by
      rcases set_some hj with ⟨rfl, _, _⟩ | ⟨ne, hj⟩
      · exact ⟨e0, hρ⟩
      · exact ⟨e, hj⟩
    obtain ⟨x1, y1⟩ := orig j e hj
    obtain ⟨x2, y2⟩ := orig k e' hk
    exact st.inj j k x1 x2 b y1 y2 h1 h2
  · refine ⟨fun b u' q h1 h2 => ?_, fun b q => ?_, fun x xs q => ?_⟩
    · have ne : b ≠ a := fun e => by rw [e, s3] at q; cases q
      rw [upd_ne ne]
      exact st.ext.keep b u' q h1 h2
    · by_cases e : b = a
      · rw [e, upd_same]; exact fun z => by cases z
      · rw [upd_ne e]; exact st.ext.dom b q
    · exact (st.ext.row x xs q).elim fun ys e => ⟨ys, by rw [upd_ne (Ne.symm hR)]; exact e⟩
end
def ownD (ρ : EnD) (i : Nat) : Option (List (List Nat × D)) := match ρ[i]? with
  | some (some (.own (.dS es))) => some es
  | _ => none
/-- x[k] = v, x an own dict -/
def sPutO (i : Nat) (fk fv : EnD → M D) : SM := fun ρ z => match ownD ρ i with
  | none => .bad
  | some es => obind (fv ρ z) fun d z1 => obind (fk ρ z1) fun k z2 => match asS k with
    | some w => if es.length < 100000 then .nx (ρ.set i (some (.own (.dS (putS es w d))))) z2 else .bad
    | none => .bad
/-- x[k], x an own dict -/
def eIxO (i : Nat) (fk : EnD → M D) : EnD → M D := fun ρ => mbind (mopt (ownD ρ i)) fun es => mbind (fk ρ) fun k => mopt ((asS k).bind fun w => getS es w)
section
variable {X : L2.Cx} {T : Tb} {E : XK} {b e : Expr} {fb fv : EnD → M D} {pos p px pos' : Pos} {σ : L2.St} {H : Hp} {Q : VK} {x : Str} {i k : Nat}
theorem ownD_some {ρ : EnD} {es : List (List Nat × D)} (h : ownD ρ i = some es) : ρ[i]? = some (some (.own (.dS es))) := by
  unfold ownD at h
  split at h
  · rename_i h1
    cases h
    exact h1
  · cases h
theorem DSR.rs {K : PySem.W.Frag} {H : Hp} {R : Addr} {B : Addr → Prop} {kvs : List (Key × V)} {es : List (List Nat × D)} (h : DSR K H R B kvs es) {a : Addr} (e : H a = some (.dK kvs)) : OwnAt K H R B a (.dS es) := ⟨kvs, e, h.out.1, h.out.2⟩
theorem pu_putO (hr : Room k X.A) (hN : X.N[i]? = some x) (hv : Vis X.env.scope x) (hb : PE X b (tD (yx X T E) fb)) (he : PE X e (tD (yx X T E) fv)) (hs : swapsWith e (some (.Subscript (.Name x px) b pos')) pos.line X.env = pure false := by rfl) (hd : (x == ("__debug__" : Str)) = false := by decide) (hcd : (x == ("__classdict__" : Str)) = false := by decide) :
    PS X (.Assign [.Subscript (.Name x px) b pos'] e pos) (sD (yx X T E) (sPutO i fb fv)) := PS_imp (ps_dput (by have := hr.un; omega) (pe_var hN hv hd hcd) hb he hs) fun Dn σ H h => by
  obtain ⟨g, ρ, z, st, o⟩ := h
  unfold sPutO at o
  cases ho : ownD ρ i with
  | none => rw [ho] at o; exact o.elim
  | some es =>
    rw [ho] at o
    have hρ := ownD_some ho
    refine ⟨g, ρ, z, st, o.bind.imp fun d z1 _ h1 v H1 st1 e1 r1 => ?_⟩
    obtain ⟨a, s1, _⟩ := st1.own i _ hρ
    refine ⟨_, s1, g, ρ, z1, st1, h1.bind.imp fun kd z2 _ h2 y H2 st2 e2 r2 => ?_⟩
    cases hw : asS kd with
    | none => simp only [hw] at h2; exact h2.elim
    | some w =>
      simp only [hw] at h2
      obtain rfl : kd = .str w := by cases kd <;> simp_all [asS]
      cases r2.str
      by_cases hl : es.length < 100000
      · rw [if_pos hl] at h2
        obtain ⟨a', t1, t2, t3, t4, t5⟩ := st2.own i _ hρ
        rw [s1] at t1
        cases t1
        obtain ⟨kvs, hk, k1, k2⟩ := t5
        have dsr := DSR.mk k1 k2
        have hB : bad g σ ρ a := .inr ⟨i, _, hρ, s1⟩
        have dsr2 := (dsr.put (k := w) (r1.mono (e2.rd st2.badR))).mono (RdLe.up (o := .dK (putK kvs (Sum.inr (ST w)) v)) hB)
        have s3 := st2.put hρ s1 (dsr2.rs upd_same)
        refine ⟨a, _, rfl, .inl ⟨kvs, Sum.inr (ST w), hk, rfl, ?_, rfl⟩, h2 _ _ s3 ⟨fun b u q h1 h3 h4 => ?_, fun b q => ?_, fun b q => .inl ?_⟩⟩
        · have := dsr.length
          rw [sizeLine_eq]
          omega
        · have nb : b ≠ a := fun e => h3 ⟨i, _, hρ, by rw [e]; exact s1⟩
          rw [upd_ne nb]
          exact e2.keep b u (e1.keep b u q h1 h4) h1 h4
        · by_cases c : b = a
          · rw [c, upd_same]; exact fun z => by cases z
          · rw [upd_ne c]; exact e2.dom b (e1.dom b q)
        · have be := bad_put (g := ⟨0, fun _ => False, fun _ => none⟩) (σ := σ) (d := .dS (putS es w d)) ⟨_, hρ⟩
          have q2 : bad (⟨0, fun _ => False, fun _ => none⟩ : G) σ (ρ.set i (some (.own (.dS (putS es w d))))) b := .inr q
          rw [be] at q2
          exact q2.elim False.elim id
      · rw [if_neg hl] at h2
        exact h2.elim
/-- x = {} : an own dict -/
def sNewO (i : Nat) : SM := fun ρ z => if ownAt ρ i = false ∧ i < ρ.length then .nx (ρ.set i (some (.own (.dS [])))) z else .bad
end
end DL
set_option Elab.async false
set_option linter.all false
set_option maxRecDepth 100000
set_option maxHeartbeats 1000000
namespace DL
open PySem PySem.Spec PyProof.Rows L2

def sDispO (i : Nat) (ps : List (List Nat × (EnD → M D))) : SM := fun ρ z => obind (evsN (ps.map (·.2)) ρ z) fun ds z' =>
  if ownAt ρ i = false ∧ i < ρ.length then .nx (ρ.set i (some (.own (.dS (putAll [] ((ps.map (·.1)).zip ds)))))) z' else .bad
section
variable {X : L2.Cx} {T : Tb} {E : XK} {B : SM} {rest : List Stmt} {pos pos' dpos : Pos} {x : Str} {i : Nat}
theorem new_wo {Y : Yx} {g : G} {H : Hp} {σ : L2.St} {ρ : EnD} {z : S} {p : Addr} {o : HO} (st : StR Y g H σ ρ z) (hp : H p = none) (hK : Y.K.lookup p = none) : Wo Y.K Y.T (gb (gd g p) σ ρ) (upd H p o) z := by
  obtain ⟨⟨SA, s1, s2, s3⟩, ht, hb, hd, hk⟩ := st.wo
  have hS : SA ≠ p := fun e => by
    rcases s2 with s2 | ⟨o, its, nn, s2, _⟩
    · exact rd_some s2 (by rw [e]; exact hp)
    · rw [e, hK] at s2; cases s2
  have w := st.wo.new (o := o) hp
  obtain ⟨_, ht', hb', hd', hk', hl', hi'⟩ := w
  refine ⟨⟨SA, fun q => ?_, ?_, by rw [upd_ne (ne_of_none s3 hp)]; exact s3⟩, ht', .inl (.inl st.gR), fun a ha => ?_, fun a ha => ?_, hl', hi'⟩
  · have q : bad (gd g p) σ ρ SA := q
    rw [bad_gd] at q
    exact q.elim s1 hS
  · rcases s2 with (q | ⟨ob, q⟩) | q
    · exact .inl (.inl (by rw [upd_ne hS]; exact q))
    · exact .inl (.inr ⟨ob, by rw [upd_ne hS]; exact q⟩)
    · exact .inr q
  · have ha : bad (gd g p) σ ρ a := ha
    rw [bad_gd] at ha
    rcases ha with ha | rfl
    · exact hd' a ha
    · rw [upd_same]; exact fun z => by cases z
  · have ha : bad (gd g p) σ ρ a := ha
    rw [bad_gd] at ha
    rcases ha with ha | rfl
    · exact hk' a ha
    · exact hK
theorem h0_none {Y : Yx} {g : G} {H : Hp} {σ : L2.St} {ρ : EnD} {z : S} {p : Addr} (st : StR Y g H σ ρ z) (hp : H p = none) : g.H0 p = none := by
  cases e : g.H0 p with
  | none => rfl
  | some o => exact absurd hp (st.ext.dom p (by rw [e]; exact fun z => by cases z))
theorem own_stp {R : Addr} {H H' : Hp} {σ : L2.St} {ρ : EnD} {p : Addr} {d : D} (hl : σ.length = ρ.length) (co : ownAt ρ i = false) (hi : i < ρ.length) (hp : H p = none) (ex : Ext R H H') : Stp R σ ρ H (σ.set i (some (.ref p))) (ρ.set i (some (.own d))) H' :=
  ⟨fun b u h1 h2 _ h4 => ex.keep b u h1 h2 h4, ex.dom, fun b q => by
    have be := bad_own (g := ⟨0, fun _ => False, fun _ => none⟩) (p := p) (d := d) hl co hi
    have q2 : bad (⟨0, fun _ => False, fun _ => none⟩ : G) (σ.set i (some (.ref p))) (ρ.set i (some (.own d))) b := .inr q
    rw [be, bad_gd] at q2
    rcases q2 with (h | h) | h
    · exact h.elim
    · exact .inl h
    · exact .inr (by rw [h]; exact hp)⟩
end
end DL
set_option Elab.async false
set_option linter.all false
set_option maxRecDepth 100000
set_option maxHeartbeats 2000000
namespace DL
open PySem PySem.Spec PyProof.Rows L2 HT

section
variable {prog : Program} {w : World} {A : Around} {E : Value → Shared → Prop} {s : Shared}
end
def tRevT (K : PySem.W.Frag) (te : TE) : TE := fun σ H Q => te σ H fun x H1 => ∃ a xs, x = .ref a ∧ SqT K H1 a xs ∧ NT H1 xs.reverse Q
def revD : D → Option D
  | .tup xs => some (.tup xs.reverse)
  | _ => none
theorem Rs.reverse {K : PySem.W.Frag} {H : Hp} {R : Addr} {B : Addr → Prop} : ∀ {vs : List V} {ds : List D}, Rs K H R B vs ds → Rs K H R B vs.reverse ds.reverse
  | [], _, h => by cases h; exact .nil
  | v :: vs, [], h => by cases h
  | v :: vs, d :: ds, h => by
    rw [List.reverse_cons, List.reverse_cons]
    exact (Rs.reverse h.split.2).append h.split.1
end DL
set_option Elab.async false
set_option linter.all false
set_option maxRecDepth 100000
set_option maxHeartbeats 1000000
namespace SUT
open PySem PySem.Spec PyProof.Rows L2
section
variable {prog : Program} {w : World} {A : Around} {E : Value → Shared → Prop} {s : Shared} {l : Addr} {xs : Array (Int × Tok)}
end
section
variable {X : Cx}
def rSumT (K : PySem.W.Frag) : List V → Hp → VK → Prop := fun vs H Q => ∃ (a : Addr) (ns : List Int), vs = [V.ref a] ∧ SqT K H a (ns.map V.int) ∧ Q (.int ns.sum) H
end
end SUT
set_option Elab.async false
set_option linter.all false
set_option maxRecDepth 100000
set_option maxHeartbeats 1000000
namespace DL
open PySem PySem.Spec PyProof.Rows L2

def intsD : List D → Option (List Int)
  | [] => some []
  | .int i :: r => (intsD r).map fun is => i :: is
  | _ => none
def sumD : D → Option D
  | .lst ds => (intsD ds).map fun is => .int is.sum
  | .tup ds => (intsD ds).map fun is => .int is.sum
  | _ => none
def insI (x : Int) : List Int → List Int
  | [] => [x]
  | y :: r => if x ≤ y then x :: y :: r else y :: insI x r
def sortI : List Int → List Int
  | [] => []
  | x :: r => insI x (sortI r)
def sortD : D → Option D
  | .lst ds => (intsD ds).map fun is => .lst ((sortI is).map .int)
  | _ => none
def eGetO1 (i : Nat) (fk : EnD → M D) : EnD → M D := fun ρ => mbind (mopt (ownD ρ i)) fun es => mbind (fk ρ) fun k => mopt ((asS k).map fun w => (getS es w).getD .non)
def eGetO2 (i : Nat) (fk fd : EnD → M D) : EnD → M D := fun ρ => mbind (mopt (ownD ρ i)) fun es => mbind (fk ρ) fun k => mbind (fd ρ) fun d => mopt ((asS k).map fun w => (getS es w).getD d)
section
variable {X : L2.Cx} {T : Tb} {E : XK} {b c e : Expr} {fb fc fv : EnD → M D} {pos p px apos : Pos} {σ : L2.St} {H : Hp} {Q : VK} {x : Str} {i k : Nat}
end
end DL
set_option Elab.async false
set_option linter.all false
set_option maxRecDepth 100000
set_option maxHeartbeats 1000000
namespace DL
open PySem PySem.Spec PyProof.Rows L2

def sPar3 (i j l : Nat) (fa fb fc : EnD → M D) : SM := fun ρ z => obind (evs [fa, fb, fc] ρ z) fun ds z' => match ds with
  | [a, b, c] => if ownAt ρ i || ownAt ρ j || ownAt ρ l then .bad else .nx (((ρ.set i (some (.val a))).set j (some (.val b))).set l (some (.val c))) z'
  | _ => .bad
/-- x[k1], x[k2] = .., x an own dict -/
def sPut2O (i : Nat) (k1 k2 : List Nat) (fa fb : EnD → M D) : SM := fun ρ z => match ownD ρ i with
  | none => .bad
  | some es => obind (evs [fa, fb] ρ z) fun ds z' => match ds with
    | [a, b] => if es.length < 1000 then .nx ((ρ.set i (some (.own (.dS (putS es k1 a))))).set i (some (.own (.dS (putS (putS es k1 a) k2 b))))) z' else .bad
    | _ => .bad
theorem putS_len (es : List (List Nat × D)) (k : List Nat) (d : D) : (putS es k d).length ≤ es.length + 1 := by
  unfold putS
  split
  · rw [List.length_map]; omega
  · simp
section
variable {X : L2.Cx} {T : Tb} {E : XK} {a b c : Expr} {fa fb fc : EnD → M D} {pos p px py pz pt pt2 : Pos} {σ : L2.St} {x y u : Str} {i j l k : Nat}
theorem par3_read {D' : Ends} {H : Hp} (h : sD (yx X T E) (sPar3 i j l fa fb fc) D' σ H) : taD (yx X T E) (evs [fa, fb, fc]) σ H fun vs H1 => ∃ v w t g ρ d e f z', vs = [v, w, t] ∧ StR (yx X T E) g H1 σ ρ z' ∧ R1 X.K H1 g.R (bad g σ ρ) v d ∧ R1 X.K H1 g.R (bad g σ ρ) w e ∧ R1 X.K H1 g.R (bad g σ ρ) t f ∧ ownAt ρ i = false ∧ ownAt ρ j = false ∧ ownAt ρ l = false ∧
    ∀ σ' H', StR (yx X T E) g H' σ' (((ρ.set i (some (.val d))).set j (some (.val e))).set l (some (.val f))) z' → Stp g.R σ ρ H1 σ' (((ρ.set i (some (.val d))).set j (some (.val e))).set l (some (.val f))) H' → D'.nx σ' H' := by
  obtain ⟨g, ρ, z, st, o⟩ := h
  refine ⟨g, ρ, z, st, o.bind.imp fun ds z1 he h1 vs H1 st1 e1 r1 => ?_⟩
  have hl := evs_length he
  obtain ⟨d, e, f, rfl⟩ : ∃ d e f, ds = [d, e, f] := by
    match ds, hl with
    | [d, e, f], _ => exact ⟨d, e, f, rfl⟩
  simp only at h1
  obtain ⟨v, w, t, rfl⟩ : ∃ v w t, vs = [v, w, t] := by
    have := r1.length
    match vs, this with
    | [v, w, t], _ => exact ⟨v, w, t, rfl⟩
  by_cases c : (ownAt ρ i || ownAt ρ j || ownAt ρ l) = true
  · rw [if_pos c] at h1; exact h1.elim
  · rw [if_neg c] at h1
    simp only [Bool.or_eq_true, not_or, Bool.not_eq_true] at c
    exact ⟨v, w, t, g, ρ, d, e, f, z1, rfl, st1, r1.split.1, r1.split.2.split.1, r1.split.2.split.2, c.1.1, c.1.2, c.2, fun σ' H' s sp => h1 σ' H' s ((Stp.ext e1).trans sp)⟩
theorem set3 {g : G} {ρ : EnD} {z : S} {v w t : V} {d e f : D} {H : Hp} (st : StR (yx X T E) g H σ ρ z) (c1 : ownAt ρ i = false) (c2 : ownAt ρ j = false) (c3 : ownAt ρ l = false) (rv : R1 X.K H g.R (bad g σ ρ) v d) (rw' : R1 X.K H g.R (bad g σ ρ) w e) (rt : R1 X.K H g.R (bad g σ ρ) t f) :
    StR (yx X T E) g H (((σ.set i (some v)).set j (some w)).set l (some t)) (((ρ.set i (some (.val d))).set j (some (.val e))).set l (some (.val f))) z ∧ Stp g.R σ ρ H (((σ.set i (some v)).set j (some w)).set l (some t)) (((ρ.set i (some (.val d))).set j (some (.val e))).set l (some (.val f))) H := by
  obtain ⟨s2, sp⟩ := set2 (i := i) (j := j) st c1 c2 rv rw'
  have c4 : ownAt (ρ.set i (some (.val d))) j = false := by rw [ownAt_set c1 (y := some (.val d)) trivial]; exact c2
  have c5 : ownAt ((ρ.set i (some (.val d))).set j (some (.val e))) l = false := by
    rw [ownAt_set c4 (y := some (.val e)) trivial, ownAt_set c1 (y := some (.val d)) trivial]; exact c3
  exact ⟨s2.setv c5 (by rw [bad_setv c4, bad_setv c1]; exact rt), sp.trans (.setv c5 trivial)⟩
theorem pu_unp3 {kt : Nat} {k2} (hc : X.calm = true) (gi : PG X (.Name x px) (gName i)) (gj : PG X (.Name y py) (gName j)) (gl : PG X (.Name u pz) (gName l)) (ha : PA X [a, b, c] (taD (yx X T E) (evs [fa, fb, fc])))
    (hw : swappedStores [.Tuple [.Name x px, .Name y py, .Name u pz] kt pt] (.Tuple [a, b, c] k2 pt2) X.env = pure none := by rfl)
    (hs : swapsWithSole [.Tuple [.Name x px, .Name y py, .Name u pz] kt pt] (.Tuple [a, b, c] k2 pt2) pos.line X.env = pure false := by rfl) :
    PS X (.Assign [.Tuple [.Name x px, .Name y py, .Name u pz] kt pt] (.Tuple [a, b, c] k2 pt2) pos) (sD (yx X T E) (sPar3 i j l fa fb fc)) := PS_imp (ps_asg (pe_tupF ha) (pg_tup (n := 3) hc (pgs_cons gi (pgs_cons gj (pgs_cons gl pgs_nil)))) hs hw) fun D' σ H h => ta_mono (par3_read h) fun vs H1 ⟨v, w, t, g, ρ, d, e, f, z', ev, st, rv, rw', rt, c1, c2, c3, q⟩ => by
  subst ev
  refine ⟨small_len (n := 3) (by decide), fun p ob hp hd => ?_⟩
  have rd := (Ext.new (R := g.R) (o := .frz ob (.tup [v, w, t])) hp).rd st.badR
  obtain ⟨s2, sp⟩ := set3 (st.new hp) c1 c2 c3 (rv.mono rd) (rw'.mono rd) (rt.mono rd)
  exact ⟨p, [v, w, t], rfl, .inl (.inr ⟨ob, upd_same⟩), rfl, v, [w, t], rfl, w, [t], rfl, t, [], rfl, rfl, q _ _ s2 ((Stp.ext (.new hp)).trans sp)⟩
theorem pu_par3 {kt k2} (hc : X.calm = true) (hN : X.N.Nodup) (hi : X.N[i]? = some x) (hj : X.N[j]? = some y) (hl : X.N[l]? = some u) (hij : i ≠ j) (hil : i ≠ l) (hjl : j ≠ l)
    (hx : X.env.scope.names.lookup x = some .local) (hy : X.env.scope.names.lookup y = some .local) (hz : X.env.scope.names.lookup u = some .local) (ha : PA X [a, b, c] (taD (yx X T E) (evs [fa, fb, fc])))
    (hw : swappedStores [.Tuple [.Name x px, .Name y py, .Name u pz] kt pt] (.Tuple [a, b, c] k2 pt2) X.env = pure (some [x, y, u]))
    (hs : swapsWithSole [.Tuple [.Name x px, .Name y py, .Name u pz] kt pt] (.Tuple [a, b, c] k2 pt2) pos.line X.env = pure false := by rfl) :
    PS X (.Assign [.Tuple [.Name x px, .Name y py, .Name u pz] kt pt] (.Tuple [a, b, c] k2 pt2) pos) (sD (yx X T E) (sPar3 i j l fa fb fc)) := PS_imp (ps_par3 hc hN hi hj hl hij hil hjl hx hy hz ha hw hs) fun D' σ H h => ta_mono (par3_read h) fun vs H1 ⟨v, w, t, g, ρ, d, e, f, z', ev, st, rv, rw', rt, c1, c2, c3, q⟩ => by
  obtain ⟨s2, sp⟩ := set3 st c1 c2 c3 rv rw' rt
  exact ⟨v, w, t, ev, q _ H1 s2 sp⟩
end
end DL
set_option Elab.async false
set_option linter.all false
set_option maxRecDepth 100000
set_option maxHeartbeats 1000000
namespace DL
open PySem PySem.Spec PyProof.Rows L2

section
variable {α β : Type} {z : S} {ρ : EnD} {i j l : Nat} {d : D} {Qn : EnD → S → Prop} {Qr : D → S → Prop}
@[simp] theorem revD_tup {xs : List D} : revD (.tup xs) = some (.tup xs.reverse) := rfl
@[simp] theorem tblD_str {tbl : List (List Nat × D)} {w : List Nat} : tblD tbl (.str w) = getS tbl w := rfl
@[simp] theorem shlD_int {a b : Int} : shlD (.int a) (.int b) = if 0 ≤ b ∧ b ≤ 1000000 ∧ a.natAbs < 2 ^ 64 then some (.int (a * 2 ^ b.toNat)) else none := rfl
@[simp] theorem combD_int {a b : Int} : combD (.int a) (.int b) = if 0 ≤ a ∧ 0 ≤ b ∧ a ≤ 1000 then some (.int (PySem.W.mcComb a b)) else none := rfl
@[simp] theorem mulI_int {a b : Int} : mulI (.int a) (.int b) = if (-(2 ^ 64) < a ∧ a < 2 ^ 64) ∨ (-(2 ^ 64) < b ∧ b < 2 ^ 64) then some (.int (a * b)) else none := rfl
theorem ints_back : ∀ is : List Int, intsD (is.map .int) = some is
  | [] => rfl
  | i :: is => by
    show intsD (D.int i :: is.map .int) = _
    unfold intsD
    rw [ints_back is]
    rfl
@[simp] theorem sortD_ints {is : List Int} : sortD (.lst (is.map .int)) = some (.lst ((sortI is).map .int)) := by
  show (intsD (is.map .int)).map _ = _
  rw [ints_back]
  rfl
@[simp] theorem sumD_ints {is : List Int} : sumD (.lst (is.map .int)) = some (.int is.sum) := by
  show (intsD (is.map .int)).map _ = _
  rw [ints_back]
  rfl
@[simp] theorem sumD_tints {is : List Int} : sumD (.tup (is.map .int)) = some (.int is.sum) := by
  show (intsD (is.map .int)).map _ = _
  rw [ints_back]
  rfl
@[simp] theorem sPar3_ev {f g h : EnD → M D} : WS (sPar3 i j l f g h ρ z) Qn Qr = WP (f ρ) z fun a z1 => WP (g ρ) z1 fun b z2 => WP (h ρ) z2 fun c z3 => if ownAt ρ i || ownAt ρ j || ownAt ρ l then False else Qn (((ρ.set i (some (.val a))).set j (some (.val b))).set l (some (.val c))) z3 := by
  unfold sPar3; rw [ob_ev]
  have e1 : (WP (f ρ) z fun a z1 => WP (g ρ) z1 fun b z2 => WP (h ρ) z2 fun c z3 => if ownAt ρ i || ownAt ρ j || ownAt ρ l then False else Qn (((ρ.set i (some (.val a))).set j (some (.val b))).set l (some (.val c))) z3) =
      WP (evs [f, g, h] ρ) z (fun ds z' => match ds with | [a, b, c] => if ownAt ρ i || ownAt ρ j || ownAt ρ l then False else Qn (((ρ.set i (some (.val a))).set j (some (.val b))).set l (some (.val c))) z' | _ => False) := by
    rw [evs_cons]; congr; funext a z'; rw [evs_cons]; congr; funext b z''; rw [evs_cons]; congr
  rw [e1]
  unfold WP
  cases evs [f, g, h] ρ z <;> (try rfl)
  rename_i ds z'
  match ds with
  | [] => rfl
  | [a] => rfl
  | [a, b] => rfl
  | [a, b, c] => simp only; split <;> rfl
  | a :: b :: c :: d :: r => rfl
@[simp] theorem sDispO_ev {ps : List (List Nat × (EnD → M D))} : WS (sDispO i ps ρ z) Qn Qr = WP (evsN (ps.map (·.2)) ρ) z fun ds z' => if ownAt ρ i = false ∧ i < ρ.length then Qn (ρ.set i (some (.own (.dS (putAll [] ((ps.map (·.1)).zip ds)))))) z' else False := by
  unfold sDispO; rw [ob_ev]; unfold WP; cases evsN (ps.map (·.2)) ρ z <;> (try rfl); simp only; split <;> rfl
@[simp] theorem sNewO_ev : WS (sNewO i ρ z) Qn Qr = if ownAt ρ i = false ∧ i < ρ.length then Qn (ρ.set i (some (.own (.dS [])))) z else False := by
  unfold sNewO; split <;> rfl
theorem sPutO_ev {es : List (List Nat × D)} {fk fv : EnD → M D} (h : ownD ρ i = some es) : WS (sPutO i fk fv ρ z) Qn Qr = WP (fv ρ) z fun d z1 => WP (fk ρ) z1 fun k z2 => WP (mopt (asS k)) z2 fun w z3 => if es.length < 100000 then Qn (ρ.set i (some (.own (.dS (putS es w d))))) z3 else False := by
  unfold sPutO
  rw [h]
  simp only
  rw [ob_ev]
  unfold WP
  cases fv ρ z <;> (try rfl)
  rename_i d z1
  simp only
  rw [ob_ev]
  cases fk ρ z1 <;> (try rfl)
  rename_i k z2
  cases k <;> (try rfl)
  simp only [asS, mopt]
  split <;> rfl
@[simp] theorem ownD_zero {es : List (List Nat × D)} : ownD (some (.own (.dS es)) :: ρ) 0 = some es := rfl
@[simp] theorem ownD_succ {x : Option Sl} : ownD (x :: ρ) (i + 1) = ownD ρ i := rfl
@[simp] theorem ownAt_zo : ownAt (some (.own d) :: ρ) 0 = true := rfl
@[simp] theorem eSumG_ev {xs : EnD → M (List D)} {t : EnD → M Bool} {f : EnD → M D} {Q : D → S → Prop} : WP (eSumG i xs t f ρ) z Q = WP (xs ρ) z fun l z' => if ownAt ρ i = false then WP (sumL i t f l ρ) z' fun n z'' => Q (.int n) z'' else False := by
  unfold eSumG; rw [WP_bind]; congr; funext x z1; rw [WP_ite, WP_bind]; rfl
end
end DL
set_option Elab.async false
set_option linter.all false
set_option maxRecDepth 100000
set_option maxHeartbeats 1000000
namespace DL
open PySem PySem.Spec PyProof.Rows L2

mutual
/-- no dict within -/
def noS : D → Bool
  | .dS _ => false
  | .dT _ _ => false
  | .st _ _ => false
  | .tup xs => noSs xs
  | .wt xs => noSs xs
  | .lst xs => noSs xs
  | _ => true
def noSs : List D → Bool
  | [] => true
  | x :: xs => noS x && noSs xs
end
def eFrz (i : Nat) (f : EnD → M D) : EnD → M D := fun ρ => mbind (mopt (ownD ρ i)) fun es => mbind (f (ρ.set i (some (.val (.dS es))))) fun r => if noS r then mpure r else mbad
/-- an own thing is a value from here on -/
def unO (i : Nat) (ρ : EnD) : EnD := match ρ[i]? with
  | some (some (.own d)) => ρ.set i (some (.val d))
  | _ => ρ
def sUn (i : Nat) : SM := fun ρ z => .nx (unO i ρ) z
section
variable {Y : Yx} {g : G} {H H' : Hp} {σ : L2.St} {ρ : EnD} {z z' : S} {i : Nat} {a : Addr} {d : D} {es : List (List Nat × D)}
theorem OwnAt.r1 {K : PySem.W.Frag} {R a : Addr} {B : Addr → Prop} {ds : List D} (n : ¬ B a) (h : OwnAt K H R B a (.lst ds)) : R1 K H R B (.ref a) (.lst ds) := by
  first
    | (obtain ⟨x, e, q⟩ := h; exact .lst e n q .nil)
theorem own_frz (q : Own σ (ρ.set i (some (.val d))) a) : ∃ j e, i ≠ j ∧ ρ[j]? = some (some (.own e)) ∧ σ[j]? = some (some (.ref a)) := by
  obtain ⟨j, e, h1, h2⟩ := q
  rcases set_some h1 with ⟨rfl, e1, hl⟩ | ⟨ne, hj⟩
  · cases e1
  · exact ⟨j, e, ne, hj, h2⟩
theorem bad_frz (q : bad g σ (ρ.set i (some (.val d))) a) : bad g σ ρ a := q.elim .inl fun q => by
  obtain ⟨j, e, _, h1, h2⟩ := own_frz q
  exact .inr ⟨j, e, h1, h2⟩
theorem bad_unfrz (h : ρ[i]? = some (some (.own d))) {b : Addr} (q : bad g σ ρ b) (h1 : σ[i]? = some (some (.ref a))) : bad g σ (ρ.set i (some (.val d))) b ∨ b = a := by
  rcases q with q | ⟨j, e, h2, h3⟩
  · exact .inl (.inl q)
  · by_cases c : i = j
    · subst c
      rw [h1] at h3
      cases h3
      exact .inr rfl
    · exact .inl (.inr ⟨j, e, by rw [List.getElem?_set_ne c]; exact h2, h3⟩)
/-- its own address is none that is kept away from any more -/
theorem StR.unbad (st : StR Y g H σ ρ z) (h : ρ[i]? = some (some (.own d))) (h1 : σ[i]? = some (some (.ref a))) (nb : ¬ g.B a) : ¬ bad g σ (ρ.set i (some (.val d))) a := fun q => by
  rcases q with q | q
  · exact nb q
  · obtain ⟨j, e, ne, h2, h3⟩ := own_frz q
    exact ne (st.inj i j _ e a h h2 h1 h3)
/-- an own list is a value -/
theorem StR.frzL {ds : List D} (st : StR Y g H σ ρ z) (h : ρ[i]? = some (some (.own (.lst ds)))) : StR Y g H σ (ρ.set i (some (.val (.lst ds)))) z where
  wo := st.wo.less (fun a q => bad_frz q) (.inl st.gR)
  gR := st.gR
  len := by rw [List.length_set]; exact st.len
  val := fun j e hj => by
    rcases set_some hj with ⟨rfl, e1, hl⟩ | ⟨ne, hj⟩
    · cases e1
      obtain ⟨a, h1, nb, h0, hk, oa⟩ := st.own i _ h
      exact ⟨.ref a, h1, (oa.less fun a q => bad_frz q).r1 (st.unbad h h1 nb)⟩
    · obtain ⟨v, h1, h2⟩ := st.val j e hj
      exact ⟨v, h1, h2.less fun a q => bad_frz q⟩
  own := fun j e hj => by
    rcases set_some hj with ⟨rfl, e1, hl⟩ | ⟨ne, hj⟩
    · cases e1
    · obtain ⟨a, h1, h2, h3, h4, h5⟩ := st.own j e hj
      exact ⟨a, h1, h2, h3, h4, h5.less fun a q => bad_frz q⟩
  inj := fun j k e e' a hj hk h1 h2 => by
    rcases set_some hj with ⟨rfl, e1, hl⟩ | ⟨ne, hj⟩
    · cases e1
    · rcases set_some hk with ⟨rfl, e2, hl⟩ | ⟨ne', hk⟩
      · cases e2
      · exact st.inj j k e e' a hj hk h1 h2
  ext := st.ext
/-- an own dict, locked, is a value -/
theorem StR.frzD {kvs : List (Key × V)} (st : StR Y g H σ ρ z) (h : ρ[i]? = some (some (.own (.dS es)))) (h1 : σ[i]? = some (some (.ref a))) (hd : H a = some (.dK kvs)) (k1 : kvs.map (·.1) = es.map kS) (k2 : Rs Y.K H g.R (bad g σ ρ) (kvs.map (·.2)) (es.map (·.2))) (od : Obj) :
    StR Y g (upd H a (.frz od (.dK kvs))) σ (ρ.set i (some (.val (.dS es)))) z := by
  have hB : bad g σ ρ a := .inr ⟨i, _, h, h1⟩
  have hne : a ≠ g.R := st.ownNe ⟨i, _, h, h1⟩
  obtain ⟨a', h1', nb, h0, hk, _⟩ := st.own i _ h
  rw [h1] at h1'
  cases h1'
  refine ⟨(st.wo.up hB hne hd (fun ps z => by cases z)).less (fun a q => bad_frz q) (.inl st.gR), st.gR, by rw [List.length_set]; exact st.len, fun j e hj => ?_, fun j e hj => ?_, fun j k e e' b hj hk h1 h2 => ?_, ?_⟩
  · rcases set_some hj with ⟨rfl, e1, hl⟩ | ⟨ne, hj⟩
    · cases e1
      exact ⟨.ref a, h1, .dS upd_same (st.unbad h h1 nb) k1 ((k2.mono (RdLe.up hB)).less fun a q => bad_frz q) .nil⟩
    · obtain ⟨v, h1, h2⟩ := st.val j e hj
      exact ⟨v, h1, (h2.mono (RdLe.up hB)).less fun a q => bad_frz q⟩
  · rcases set_some hj with ⟨rfl, e1, hl⟩ | ⟨ne, hj⟩
    · cases e1
    · obtain ⟨b, h1b, h2, h3, h4, h5⟩ := st.own j e hj
      have nb : b ≠ a := fun q => ne (st.inj i j _ e a h hj h1 (by rw [← q]; exact h1b))
      exact ⟨b, h1b, h2, h3, h4, (h5.mono (RdLe.up hB) fun u q _ => by rw [upd_ne nb]; exact q).less fun a q => bad_frz q⟩
  · rcases set_some hj with ⟨rfl, e1, hl⟩ | ⟨ne, hj⟩
    · cases e1
    · rcases set_some hk with ⟨rfl, e2, hl⟩ | ⟨ne', hk⟩
      · cases e2
      · exact st.inj j k e e' b hj hk h1 h2
  · refine ⟨fun b u' q h1 h2 => ?_, fun b q => ?_, fun x xs q => ?_⟩
    · have ne : b ≠ a := fun e => by rw [e, h0] at q; cases q
      rw [upd_ne ne]
      exact st.ext.keep b u' q h1 h2
    · by_cases e : b = a
      · rw [e, upd_same]; exact fun z => by cases z
      · rw [upd_ne e]; exact st.ext.dom b q
    · exact (st.ext.row x xs q).elim fun ys e => ⟨ys, by rw [upd_ne (fun c => by rw [c, h0] at q; cases q)]; exact e⟩
theorem ext_lock {R a : Addr} {u : HO} {od : Obj} (hd : H a = some u) (hne : a ≠ R) (e : Ext R (upd H a (.frz od u)) H') : Ext R H (upd H' a u) :=
  ⟨fun b o q h1 h2 => by
    by_cases c : b = a
    · subst c; rw [hd] at q; cases q; exact upd_same
    · rw [upd_ne c]; exact e.keep b o (by rw [upd_ne c]; exact q) h1 h2, fun b q => by
    by_cases c : b = a
    · rw [c, upd_same]; exact fun z => by cases z
    · rw [upd_ne c]; exact e.dom b (by rw [upd_ne c]; exact q), fun x xs q => (e.row x xs (by rw [upd_ne (Ne.symm hne)]; exact q)).elim fun ys e2 => ⟨ys, by rw [upd_ne (Ne.symm hne)]; exact e2⟩⟩
theorem StR.unfrz {kvs : List (Key × V)} {od : Obj} (st : StR Y g H σ ρ z) (h : ρ[i]? = some (some (.own (.dS es)))) (h1 : σ[i]? = some (some (.ref a))) (hd : H a = some (.dK kvs)) (hk : Y.K.lookup a = none) (hd' : H' a = some (.frz od (.dK kvs))) (st' : StR Y g H' σ (ρ.set i (some (.val (.dS es)))) z') (e : Ext g.R H (upd H' a (.dK kvs))) : StR Y g (upd H' a (.dK kvs)) σ ρ z' := by
  obtain ⟨⟨SA, s1, s2, s3⟩, ht, hb, hdm, hkn, hla, hdi⟩ := st'.wo
  have hS : SA ≠ a := fun c => by
    subst c
    rcases s2 with (q | ⟨ob, q⟩) | ⟨o, its, n, q, _⟩
    · rw [hd'] at q; cases q
    · rw [hd'] at q; cases q
    · rw [hk] at q; cases q
  have hne : a ≠ g.R := st.ownNe ⟨i, _, h, h1⟩
  refine st.step e ⟨⟨SA, fun q => ?_, ?_, by rw [upd_ne (Ne.symm hne)]; exact s3⟩, fun P hP => ?_, st.badR, fun b q => e.dom b (st.badDom q), fun b q => st.badK q, tabs_keep hla (fun q _ ps e => by rw [upd_ne (fun c => by rw [c, hd'] at e; cases e)]; exact e) (fun c φ e => by rw [upd_ne (fun c => by rw [c, hd'] at e; cases e)]; exact e), hdi⟩
  · rcases bad_unfrz h q h1 with q | q
    · exact s1 q
    · exact hS q
  · rcases s2 with (q | ⟨ob, q⟩) | q
    · exact .inl (.inl (by rw [upd_ne hS]; exact q))
    · exact .inl (.inr ⟨ob, by rw [upd_ne hS]; exact q⟩)
    · exact .inr q
  · obtain ⟨ps, q, r⟩ := ht P hP
    have hP' : P ≠ a := fun c => by rw [c, hd'] at q; cases q
    exact ⟨ps, by rw [upd_ne hP']; exact q, r⟩
theorem Rs.unfrz {K : PySem.W.Frag} {R : Addr} {B B' : Addr → Prop} {kvs : List (Key × V)} {od : Obj} {u : HO} (hd : H a = some (.frz od (.dK kvs))) (hk : K.lookup a = none) (hb : ∀ b, B b → B' b ∨ b = a) {vs : List V} {ds : List D} (h : Rs K H R B' vs ds) (n : noSs ds = true) : Rs K (upd H a u) R B vs ds := by
  induction h with
  | nil => exact .nil
  | atom a _ ih =>
    simp only [noSs, Bool.and_eq_true] at n
    exact .atom a (ih n.2)
  | @tup b us vs es ds s nb _ _ ih1 ih2 =>
    simp only [noSs, noS, Bool.and_eq_true] at n
    have ne : b ≠ a := fun e => by
      subst e
      rcases s with ⟨o, s, _⟩ | ⟨o, its, m, s, _⟩
      · rw [hd] at s; cases s
      · rw [hk] at s; cases s
    refine .tup ?_ (fun q => (hb _ q).elim nb ne) (ih1 n.1) (ih2 n.2)
    rcases s with ⟨o, s, t⟩ | s
    · exact .inl ⟨o, by rw [upd_ne ne]; exact s, t⟩
    · exact .inr s
  | @wt b us vs es ds s nb _ _ ih1 ih2 =>
    simp only [noSs, noS, Bool.and_eq_true] at n
    have ne : b ≠ a := fun e => by
      subst e
      rcases s with (s | ⟨o, s⟩) | ⟨o, its, m, s, _⟩
      · rw [hd] at s; cases s
      · rw [hd] at s; cases s
      · rw [hk] at s; cases s
    refine .wt ?_ (fun q => (hb _ q).elim nb ne) (ih1 n.1) (ih2 n.2)
    rcases s with (s | ⟨o, s⟩) | s
    · exact .inl (.inl (by rw [upd_ne ne]; exact s))
    · exact .inl (.inr ⟨o, by rw [upd_ne ne]; exact s⟩)
    · exact .inr s
  | @lst b us vs es ds s nb _ _ ih1 ih2 =>
    simp only [noSs, noS, Bool.and_eq_true] at n
    have ne : b ≠ a := fun e => by
      subst e
      rw [hd] at s; cases s
    exact .lst (by rw [upd_ne ne]; exact s) (fun q => (hb _ q).elim nb ne) (ih1 n.1) (ih2 n.2)
  | dS _ _ _ _ _ => simp [noSs, noS] at n
  | dT _ _ _ _ _ _ => simp [noSs, noS] at n
  | st _ _ _ _ _ => simp [noSs, noS] at n
end
section
variable {X : L2.Cx} {T : Tb} {E : XK} {e : Expr} {f : EnD → M D} {t : EnD → M Bool} {i : Nat} {B : SM} {rest : List Stmt} {pos pos' : Pos} {x : Str}
theorem frz_read {σ : L2.St} {H : Hp} {Q : VK} (h : tD (yx X T E) (eFrz i f) σ H Q) : tLockE (tD (yx X T E) f) σ H Q := by
  obtain ⟨g, ρ, z, st, h⟩ := h
  obtain ⟨es, ho, h⟩ := h.bind.opt
  have hi := ownD_some ho
  obtain ⟨a, h1, nb, h0, hk, kvs, hd, k1, k2⟩ := st.own i _ hi
  have hne : a ≠ g.R := fun q => nb (by rw [q]; exact st.gR)
  refine ⟨a, .dK kvs, hd, trivial, fun od => ⟨g, _, z, st.frzD hi h1 hd k1 k2 od, h.bind.imp fun r z1 _ h2 v H1 st1 e1 r1 => ?_⟩⟩
  have hd1 := e1.keep a _ upd_same hne (fun ps q => by cases q)
  cases c : noS r with
  | false => rw [c] at h2; exact h2.elim
  | true =>
    rw [c] at h2
    have ex := ext_lock hd hne e1
    exact ⟨hd1, h2 v _ (st.unfrz hi h1 hd hk hd1 st1 ex) ex (Rs.unfrz hd1 hk (fun b q => bad_unfrz hi q h1) r1 (by simp [noSs, c]))⟩
theorem pu_frz (he : PE X e (tD (yx X T E) f)) : PE X e (tD (yx X T E) (eFrz i f)) := PE_imp (pe_lock he) fun σ H Q h => frz_read h
theorem frz_stp {R : Addr} {σ : L2.St} {ρ : EnD} {H : Hp} {d : D} : Stp R σ ρ H σ (ρ.set i (some (.val d))) H :=
  ⟨fun _ _ h _ _ _ => h, fun _ h => h, fun a q => by
    obtain ⟨j, e, _, h1, h2⟩ := own_frz q
    exact .inl ⟨j, e, h1, h2⟩⟩
theorem frz_stpD {R a : Addr} {σ : L2.St} {ρ : EnD} {H : Hp} {d d0 : D} {u : HO} (hi : ρ[i]? = some (some (.own d0))) (h1 : σ[i]? = some (some (.ref a))) : Stp R σ ρ H σ (ρ.set i (some (.val d))) (upd H a u) :=
  ⟨fun b o h n1 n2 _ => by rw [upd_ne (fun c => n2 ⟨i, _, hi, by rw [c]; exact h1⟩)]; exact h, fun b q => by
    by_cases c : b = a
    · rw [c, upd_same]; exact fun z => by cases z
    · rw [upd_ne c]; exact q, fun a q => by
    obtain ⟨j, e, _, h1, h2⟩ := own_frz q
    exact .inl ⟨j, e, h1, h2⟩⟩
theorem PSs_lockO {t : TS} (h : PSs X rest t) : PSs X rest fun D σ H => t D σ H ∨ ∃ d u, H d = some u ∧ Mut (some u) ∧ ∀ od, t D σ (upd H d (.frz od u)) := ⟨fun pins s σ H D I q => by
  rcases q with q | ⟨d, u, hd, mu, q⟩
  · exact h.run pins s σ H D I q
  · obtain ⟨od, I1⟩ := I.lock hd mu
    exact h.run pins s σ _ D I1 (q od)⟩
theorem pu_sun (h : PSs X rest (sD (yx X T E) B)) : PSs X rest (sD (yx X T E) (sSeq (sUn i) B)) := PSs_imp (PSs_lockO h) fun Dn σ H h => by
  obtain ⟨g, ρ, z, st, o⟩ := h
  have o : OutOk (yx X T E) g σ ρ H (B (unO i ρ) z) Dn := o
  unfold unO at o
  split at o
  · rename_i d hr
    obtain ⟨a, h1, nb, h0, hk, oa⟩ := st.own i _ hr
    cases d with
    | lst ds => exact .inl ⟨g, _, z, st.frzL hr, OutOk.rebase o frz_stp⟩
    | dS es =>
      obtain ⟨kvs, hd, k1, k2⟩ := oa
      exact .inr ⟨a, .dK kvs, hd, trivial, fun od => ⟨g, _, z, st.frzD hr h1 hd k1 k2 od, OutOk.rebase o (frz_stpD hr h1)⟩⟩
    | _ => exact oa.elim
  · exact .inl ⟨g, _, z, st, o⟩
end
end DL
set_option Elab.async false
set_option linter.all false
set_option maxRecDepth 100000
set_option maxHeartbeats 1000000
namespace DL
open PySem PySem.Spec PyProof.Rows L2

/-- x = [] : an own list -/
def sNewL (i : Nat) : SM := fun ρ z => if ownAt ρ i = false ∧ i < ρ.length then .nx (ρ.set i (some (.own (.lst [])))) z else .bad
def ownL (ρ : EnD) (i : Nat) : Option (List D) := match ρ[i]? with
  | some (some (.own (.lst ds))) => some ds
  | _ => none
/-- x.append(e), x an own list -/
def sAppO (i : Nat) (f : EnD → M D) : SM := fun ρ z => match ownL ρ i with
  | none => .bad
  | some ds => obind (f ρ z) fun d z1 => if ds.length < 1000000 then .nx (ρ.set i (some (.own (.lst (ds ++ [d]))))) z1 else .bad
/-- x, y = {}, e -/
def sNewP (i j : Nat) (f : EnD → M D) : SM := fun ρ z => obind (mne (f ρ) z) fun d z' => if ownAt ρ i = false ∧ i < ρ.length ∧ ownAt ρ j = false ∧ i ≠ j then .nx ((ρ.set i (some (.own (.dS [])))).set j (some (.val d))) z' else .bad
def asDS : D → Option (List (List Nat × D))
  | .dS es => some es
  | _ => none
def eGet1 (i : Nat) (fk : EnD → M D) : EnD → M D := fun ρ => mbind (eV i ρ) fun t => mbind (mopt (asDS t)) fun es => mbind (fk ρ) fun k => mopt ((asS k).map fun w => (getS es w).getD .non)
def eGet2 (i : Nat) (fk fd : EnD → M D) : EnD → M D := fun ρ => mbind (eV i ρ) fun t => mbind (mopt (asDS t)) fun es => mbind (fk ρ) fun k => mbind (fd ρ) fun d => mopt ((asS k).map fun w => (getS es w).getD d)
section
variable {X : L2.Cx} {T : Tb} {E : XK} {e b c : Expr} {f fb fc : EnD → M D} {i j k : Nat} {B : SM} {rest : List Stmt} {pos pos' apos px py pt dpos : Pos} {x y : Str}
theorem ownL_some {ρ : EnD} {ds : List D} (h : ownL ρ i = some ds) : ρ[i]? = some (some (.own (.lst ds))) := by
  unfold ownL at h
  split at h
  · rename_i h1
    cases h
    exact h1
  · cases h
theorem pu_newL (hN : X.N.Nodup) (hi : X.N[i]? = some x) (hx : Loc X.env.scope x) (h2 : PSs X rest (sD (yx X T E) B)) (hs : swapsWith (.List [] dpos) (some (.Name x pos')) pos.line X.env = pure false := by rfl) (hf : X.fn x = true ∨ X.env.scope.names.lookup x = some .local := by first | exact .inl rfl | exact .inr rfl) :
    PSs X (.Assign [.Name x pos'] (.List [] dpos) pos :: rest) (sD (yx X T E) (sSeq (sNewL i) B)) := PSs_imp (pss_cons (ps_set hN hi hx (pe_lst pa_nil) hs hf) (PSs_kn h2)) fun Dn σ H h => by
  obtain ⟨g, ρ, z, st, o⟩ := h
  refine ⟨small_len (n := 0) (by decide), fun p hp kn => ?_⟩
  have hK : X.K.lookup p = none := kn p (by rw [upd_same]; exact fun z => by cases z)
  unfold sSeq sNewL at o
  by_cases c : ownAt ρ i = false ∧ i < ρ.length
  · rw [if_pos c] at o
    have sg := st.guard (H := upd H p (.lst [])) (z' := z) hp hK (.new hp) (new_wo st hp hK)
    have so := sg.setOwn (i := i) (d := .lst []) st.gR c.1 c.2 (fun q => st.badDom (.inl q) hp) (h0_none st hp) hK ⟨[], upd_same, .nil⟩
    exact ⟨g, _, z, so, OutOk.rebase o (own_stp st.len c.1 c.2 hp (.new hp))⟩
  · rw [if_neg c] at o
    exact o.elim
theorem put_stp {g : G} {σ : L2.St} {ρ : EnD} {H H1 : Hp} {a : Addr} {d0 d : D} {u : HO} (e1 : Ext g.R H H1) (hρ : ρ[i]? = some (some (.own d0))) (s1 : σ[i]? = some (some (.ref a))) : Stp g.R σ ρ H σ (ρ.set i (some (.own d))) (upd H1 a u) :=
  ⟨fun b u q h1 h3 h4 => by
    have nb : b ≠ a := fun e => h3 ⟨i, _, hρ, by rw [e]; exact s1⟩
    rw [upd_ne nb]
    exact e1.keep b u q h1 h4, fun b q => by
    by_cases c : b = a
    · rw [c, upd_same]; exact fun z => by cases z
    · rw [upd_ne c]; exact e1.dom b q, fun b q => .inl (by
    have be := bad_put (g := ⟨0, fun _ => False, fun _ => none⟩) (σ := σ) (d := d) ⟨_, hρ⟩
    have q2 : bad (⟨0, fun _ => False, fun _ => none⟩ : G) σ (ρ.set i (some (.own d))) b := .inr q
    rw [be] at q2
    exact q2.elim False.elim id)⟩
theorem pu_appO (hr : Room k X.A) (hN : X.N[i]? = some x) (hv : Vis X.env.scope x) (he : PE X e (tD (yx X T E) f)) (hd : (x == ("__debug__" : Str)) = false := by decide) (hcd : (x == ("__classdict__" : Str)) = false := by decide)
    (hbase : attributeBase (.Name x px) "append" X.env (eval (.Name x px) X.env) = eval (.Name x px) X.env := by rfl)
    (hfew : ((backTo pos (starEach [e] X.env)).all (fun x => !x.1) && (backToKw pos (keywordEach [] X.env)).all (fun x => x.1.isSome)
      && decide (([e] : List Expr).length + ([] : List Keyword).length + (if ([] : List Keyword).isEmpty then 0 else 1) < 30)) = true := by rfl)
    (hline : (apos.endLine == pos.line) = true := by rfl) (hst : starEach [e] X.env = (false, eval e X.env) :: starEach [] X.env := by rfl) (hplain : (backTo pos (starEach [] X.env)).any (·.1) = false := by rfl)
    (hs : swapsWith (.Call (.Attribute (.Name x px) "append" apos) [e] [] pos) none pos'.line X.env = pure false := by rfl) :
    PS X (.Expr (.Call (.Attribute (.Name x px) "append" apos) [e] [] pos) pos') (sD (yx X T E) (sAppO i f)) :=
  PS_imp (ps_expr (pe_bm F.plainAttrs_list F.slot_list_append F.type_list_append mt_append (pe_var hN hv hd hcd) (pa_cons he pa_nil hst) hbase hfew hline hst hplain) hs) fun Dn σ H h => by
    obtain ⟨g, ρ, z, st, o⟩ := h
    unfold sAppO at o
    cases ho : ownL ρ i with
    | none => rw [ho] at o; exact o.elim
    | some ds =>
      rw [ho] at o
      have hρ := ownL_some ho
      obtain ⟨a, s1, _, _, _, vs0, h0, _⟩ := st.own i _ hρ
      refine ⟨_, s1, .inl ⟨rfl, vs0, .inl (.inl h0)⟩, g, ρ, z, st, o.bind.imp fun d z1 _ h1 v H1 st1 e1 r1 => ?_⟩
      by_cases hl : ds.length < 1000000
      · rw [if_pos hl] at h1
        obtain ⟨a', t1, t2, t3, t4, us, t5, t6⟩ := st1.own i _ hρ
        rw [s1] at t1
        cases t1
        have hB : bad g σ ρ a := .inr ⟨i, _, hρ, s1⟩
        refine ⟨a, us, v, rfl, rfl, t5, by rw [t6.length, sizeLine_eq]; omega, h1 σ _ (st1.put hρ s1 ⟨us ++ [v], upd_same, ?_⟩) (put_stp e1 hρ s1)⟩
        exact Rs.mono (RdLe.up hB) (t6.append r1)
      · rw [if_neg hl] at h1
        exact h1.elim
end
section
variable {X : L2.Cx} {T : Tb} {E : XK} {elt tg iter : Expr} {ifs : List Expr} {f : EnD → M D} {t : EnD → M Bool} {fi : EnD → M (List D)} {i j k : Nat} {scope : Scope} {pos spos py : Pos} {x y : Str}
end
end DL
set_option Elab.async false
set_option linter.all false
set_option maxRecDepth 100000
set_option maxHeartbeats 1000000
namespace DL
open PySem PySem.Spec PyProof.Rows L2
section
variable {α β : Type} {z : S} {ρ : EnD} {i j : Nat} {d : D} {es : List (List Nat × D)} {Qn : EnD → S → Prop} {Qr : D → S → Prop}
theorem eFrz_ev {f : EnD → M D} {Q : D → S → Prop} (h : ownD ρ i = some es) : WP (eFrz i f ρ) z Q = WP (f (ρ.set i (some (.val (.dS es))))) z fun r z' => if noS r then Q r z' else False := by
  unfold eFrz; rw [WP_bind, h, WP_some, WP_bind]; congr; funext r z1; rw [WP_ite]; rfl
@[simp] theorem sUn_ev : WS (sUn i ρ z) Qn Qr = Qn (unO i ρ) z := rfl
@[simp] theorem unO_succ {x : Option Sl} : unO (i + 1) (x :: ρ) = x :: unO i ρ := by
  unfold unO
  rw [List.getElem?_cons_succ]
  rcases ρ[i]? with _ | _ | (_ | _) <;> rfl
@[simp] theorem unO_own : unO 0 (some (.own d) :: ρ) = some (.val d) :: ρ := rfl
@[simp] theorem unO_val : unO 0 (some (.val d) :: ρ) = some (.val d) :: ρ := rfl
@[simp] theorem unO_none : unO 0 (none :: ρ) = none :: ρ := rfl
@[simp] theorem sNewL_ev : WS (sNewL i ρ z) Qn Qr = if ownAt ρ i = false ∧ i < ρ.length then Qn (ρ.set i (some (.own (.lst [])))) z else False := by
  unfold sNewL; split <;> rfl
theorem sAppO_ev {ds : List D} {f : EnD → M D} (h : ownL ρ i = some ds) : WS (sAppO i f ρ z) Qn Qr = WP (f ρ) z fun d z1 => if ds.length < 1000000 then Qn (ρ.set i (some (.own (.lst (ds ++ [d]))))) z1 else False := by
  unfold sAppO; rw [h]; simp only; rw [ob_ev]; unfold WP; cases f ρ z <;> (try rfl); simp only; split <;> rfl
@[simp] theorem sNewP_ev {f : EnD → M D} : WS (sNewP i j f ρ z) Qn Qr = WP (f ρ) z fun d z' => if ownAt ρ i = false ∧ i < ρ.length ∧ ownAt ρ j = false ∧ i ≠ j then Qn ((ρ.set i (some (.own (.dS [])))).set j (some (.val d))) z' else False := by
  unfold sNewP; rw [ob_ev]; unfold WP mne; cases f ρ z <;> (try rfl); simp only; split <;> rfl
@[simp] theorem eGet1_ev {fk : EnD → M D} {Q : D → S → Prop} : WP (eGet1 i fk ρ) z Q = WP (eV i ρ) z fun t z0 => WP (mopt (asDS t)) z0 fun es z1 => WP (fk ρ) z1 fun k z2 => WP (mopt ((asS k).map fun w => (getS es w).getD .non)) z2 Q := by
  unfold eGet1; rw [WP_bind]; congr; funext t z0; rw [WP_bind]; congr; funext es z1; rw [WP_bind]
@[simp] theorem eGet2_ev {fk fd : EnD → M D} {Q : D → S → Prop} : WP (eGet2 i fk fd ρ) z Q = WP (eV i ρ) z fun t z0 => WP (mopt (asDS t)) z0 fun es z1 => WP (fk ρ) z1 fun k z2 => WP (fd ρ) z2 fun d z3 => WP (mopt ((asS k).map fun w => (getS es w).getD d)) z3 Q := by
  unfold eGet2; rw [WP_bind]; congr; funext t z0; rw [WP_bind]; congr; funext es z1; rw [WP_bind]; congr; funext k z2; rw [WP_bind]
@[simp] theorem asDS_dS : asDS (.dS es) = some es := rfl
@[simp] theorem iPr_ev {f : EnD → M D} {Q : List (D × D) → S → Prop} : WP (iPr f ρ) z Q = WP (f ρ) z fun d z' => WP (mopt ((items d).bind fun xs => xs.mapM pairOf)) z' Q := WP_bind
@[simp] theorem ownL_zero {ds : List D} : ownL (some (.own (.lst ds)) :: ρ) 0 = some ds := rfl
@[simp] theorem ownL_succ {x : Option Sl} : ownL (x :: ρ) (i + 1) = ownL ρ i := rfl
end
section
variable {X : L2.Cx} {T : Tb} {E : XK} {b c : Expr} {fb fc : EnD → M D} {i k : Nat} {pos apos px : Pos} {x : Str}
theorem evA {Y : Yx} {g : G} {ρ : EnD} {z : S} {α : Type} {k : D → M α} {P : α → S → Prop} (h : After Y g (mbind (eV i ρ) k z) P) : ∃ t, ρ[i]? = some (some (.val t)) ∧ After Y g (k t z) P := by
  unfold eV at h
  rcases hr : ρ[i]? with _ | _ | (d | d)
  · rw [hr] at h; exact h.elim
  · rw [hr] at h; exact h.elim
  · rw [hr] at h; exact ⟨d, rfl, h⟩
  · rw [hr] at h; exact h.elim
theorem pu_get2 (hr : Room k X.A) (hN : X.N[i]? = some x) (hv : Vis X.env.scope x) (hb : PE X b (tD (yx X T E) fb)) (hc : PE X c (tD (yx X T E) fc)) (m : M2 X (.Name x px) "get" apos b c pos) (hd : (x == ("__debug__" : Str)) = false := by decide) (hcd : (x == ("__classdict__" : Str)) = false := by decide) :
    PE X (.Call (.Attribute (.Name x px) "get" apos) [b, c] [] pos) (tD (yx X T E) (eGet2 i fb fc)) := PE_imp (pe_dget2 (by have := hr.un; omega) (pe_var hN hv hd hcd) hb hc m) fun σ H Q h => by
  obtain ⟨g, ρ, z, st, h⟩ := h
  obtain ⟨t, et, hA⟩ := evA h
  obtain ⟨es, ho, hB⟩ := hA.bind.opt
  obtain rfl : t = .dS es := by cases t <;> simp_all [asDS]
  obtain ⟨u, h1, r0⟩ := st.val i _ et
  obtain ⟨a, kvs, rfl, hk, nb, dsr⟩ := r0.dictS
  refine ⟨_, h1, a, rfl, ?_, g, ρ, z, st, hB.bind.imp fun d z1 _ h2 v H1 st1 e1 r1 => ⟨g, ρ, z1, st1, h2.bind.imp fun dd z2 _ h3 u2 H2 st2 e2 r2 => ?_⟩⟩
  · rcases hk with hk | ⟨o, hk⟩
    · exact .inl ⟨kvs, .inl hk⟩
    · exact .inl ⟨kvs, .inr ⟨o, hk⟩⟩
  obtain ⟨r, hr', q⟩ := h3.opt
  obtain ⟨w, hw, rfl⟩ := Option.map_eq_some_iff.mp hr'
  obtain rfl : d = .str w := by cases d <;> simp_all [asS]
  cases r1.str
  have rd := (e1.trans e2).rd st.badR
  have hk1 := rd.1 a (.dK kvs) nb trivial hk
  have dsr1 := dsr.mono rd
  have dg := dsr1.get w
  refine ⟨_, .inl ⟨kvs, Sum.inr (ST w), hk1, rfl, rfl⟩, ?_⟩
  cases e : getS es w with
  | none =>
    rw [dg.2 e]
    rw [e] at q
    exact q _ H2 st2 (e1.trans e2) r2
  | some d =>
    obtain ⟨u, g1, g2⟩ := dg.1 d e
    rw [g1]
    rw [e] at q
    exact q _ H2 st2 (e1.trans e2) g2
end
end DL
set_option Elab.async false
set_option linter.all false
set_option maxRecDepth 100000
set_option maxHeartbeats 1000000
namespace DL
open PySem PySem.Spec PyProof.Rows L2

abbrev kL (k : List (List Nat)) : List Key := k.map fun z => .inr (ST z)
theorem kL_kV (k : List (List Nat)) : (kL k).map kV = k.map fun z => V.str (ST z) := by rw [List.map_map] <;> rfl
theorem kL_inj : ∀ {a b : List (List Nat)}, kL a = kL b → a = b
  | [], [], _ => rfl
  | [], _ :: _, h => by cases h
  | _ :: _, [], h => by cases h
  | x :: a, y :: b, h => by
    simp only [kL, List.map_cons, List.cons.injEq] at h
    rw [ST_inj (Sum.inr.inj h.1), kL_inj (show kL a = kL b from h.2)]
def getT (es : List (List (List Nat) × D)) (k : List (List Nat)) : Option D := (es.find? fun p => decide (p.1 = k)).map (·.2)
def putT (es : List (List (List Nat) × D)) (k : List (List Nat)) (d : D) : List (List (List Nat) × D) :=
  if (getT es k).isSome = true then es.map (fun p => if p.1 = k then (p.1, d) else p) else es ++ [(k, d)]
inductive TDR (K : PySem.W.Frag) (H : Hp) (R : Addr) (B : Addr → Prop) : List (List Key × Addr × Value) → List (List (List Nat) × D) → Prop
  | nil : TDR K H R B [] []
  | cons {k : List (List Nat)} {b : Addr} {u : Value} {v : V} {d : D} {xs : List (List Key × Addr × Value)} {es : List (List (List Nat) × D)} : R1 K H R B (.ref b) (.tup (k.map .str)) → RelV v u → R1 K H R B v d → TDR K H R B xs es → TDR K H R B ((kL k, b, u) :: xs) ((k, d) :: es)
section
variable {K : PySem.W.Frag} {H H' : Hp} {R : Addr} {B B' : Addr → Prop} {xs : List (List Key × Addr × Value)} {es : List (List (List Nat) × D)}
theorem TDR.mk : ∀ {xs : List (List Key × Addr × Value)} {es : List (List (List Nat) × D)} {us : List V}, xs.map (·.1) = es.map kT → Vals us (xs.map (·.2.2)) → Rs K H R B (xs.map fun x => .ref x.2.1) (es.map fun e => .tup (e.1.map .str)) → Rs K H R B us (es.map (·.2)) → TDR K H R B xs es
  | [], [], _, _, _, _, _ => .nil
  | [], _ :: _, _, h, _, _, _ => by cases h
  | _ :: _, [], _, h, _, _, _ => by cases h
  | (k', b, u) :: xs, (k, d) :: es, us, h, hv, r1, r2 => by
    simp only [List.map_cons, List.cons.injEq] at h
    obtain ⟨h1, h2⟩ := h
    have h1 : k' = kL k := h1
    subst h1
    cases hv with
    | cons q qs => exact .cons r1.split.1 q r2.split.1 (TDR.mk h2 qs r1.split.2 r2.split.2)
theorem TDR.out (h : TDR K H R B xs es) : ∃ us, xs.map (·.1) = es.map kT ∧ Vals us (xs.map (·.2.2)) ∧ Rs K H R B (xs.map fun x => .ref x.2.1) (es.map fun e => .tup (e.1.map .str)) ∧ Rs K H R B us (es.map (·.2)) := by
  induction h with
  | nil => exact ⟨[], rfl, .nil, .nil, .nil⟩
  | @cons k b u v d xs es r1 q r2 _ ih =>
    obtain ⟨us, e, hv, a1, a2⟩ := ih
    exact ⟨v :: us, by rw [List.map_cons, List.map_cons, e] <;> rfl, .cons q hv, Rs.cons r1 a1, Rs.cons r2 a2⟩
theorem TDR.mono (r : RdLe B H H') (h : TDR K H R B xs es) : TDR K H' R B xs es := by
  induction h with
  | nil => exact .nil
  | cons r1 q r2 _ ih => exact .cons (Rs.mono r r1) q (Rs.mono r r2) ih
theorem TDR.less (hb : ∀ a, B' a → B a) (h : TDR K H R B xs es) : TDR K H R B' xs es := by
  induction h with
  | nil => exact .nil
  | cons r1 q r2 _ ih => exact .cons (r1.less hb) q (r2.less hb) ih
theorem TDR.length (h : TDR K H R B xs es) : xs.length = es.length := by
  induction h with
  | nil => rfl
  | cons _ _ _ _ ih => rw [List.length_cons, List.length_cons, ih]
theorem strs_of : ∀ {k : List (List Nat)} {us : List V}, Rs K H R B us (k.map .str) → us = k.map fun z => V.str (ST z)
  | [], us, h => by cases h; rfl
  | z :: k, [], h => by cases h
  | z :: k, u :: us, h => by
    rw [strs_of h.split.2, h.split.1.str] <;> rfl
theorem key_sq {b : Addr} {k : List (List Nat)} (r : R1 K H R B (.ref b) (.tup (k.map .str))) : SqT K H b ((kL k).map kV) := by
  obtain ⟨a, us, e, s, _, rs⟩ := r.tupl
  cases e
  rw [kL_kV, ← strs_of rs]
  exact s.sq
theorem TDR.keys (h : TDR K H R B xs es) : ∀ x ∈ xs, SqT K H x.2.1 (x.1.map kV) := by
  induction h with
  | nil => exact fun x hx => nomatch hx
  | cons r1 _ _ _ ih =>
    intro x hx
    rcases List.mem_cons.mp hx with rfl | hx
    · exact key_sq r1
    · exact ih x hx
theorem TDR.get (h : TDR K H R B xs es) (k : List (List Nat)) : (∀ d, getT es k = some d → ∃ p v, atKey xs (kL k) = some p ∧ RelV v p.2 ∧ R1 K H R B v d) ∧ (atKey xs (kL k)).isSome = (getT es k).isSome := by
  induction h with
  | nil => exact ⟨fun d e => (by cases e), rfl⟩
  | @cons k' b u v d xs es r1 q r2 _ ih =>
    unfold getT atKey at ih ⊢
    rw [List.find?_cons, List.find?_cons]
    by_cases e : k' = k
    · subst e
      simp only [decide_eq_true rfl]
      exact ⟨fun d e => by cases e; exact ⟨_, v, rfl, q, r2⟩, rfl⟩
    · rw [decide_eq_false e, decide_eq_false fun z => e (kL_inj z)]
      exact ih
theorem TDR.append {xs' : List (List Key × Addr × Value)} {es' : List (List (List Nat) × D)} (h : TDR K H R B xs es) (h' : TDR K H R B xs' es') : TDR K H R B (xs ++ xs') (es ++ es') := by
  induction h with
  | nil => exact h'
  | cons r1 q r2 _ ih => exact .cons r1 q r2 ih
theorem TDR.over (h : TDR K H R B xs es) {k : List (List Nat)} {u : Value} {v : V} {d : D} (q : RelV v u) (r : R1 K H R B v d) : TDR K H R B (xs.map (putAt (kL k) u)) (es.map fun p => if p.1 = k then (p.1, d) else p) := by
  induction h with
  | nil => exact .nil
  | @cons k' b u' v' d' xs es r1 q' r2 _ ih =>
    rw [List.map_cons, List.map_cons]
    unfold putAt
    by_cases e : k' = k
    · rw [if_pos (by show kL k' = kL k; rw [e]), if_pos e]
      exact .cons r1 q r ih
    · rw [if_neg (fun z => e (kL_inj z)), if_neg e]
      exact .cons r1 q' r2 ih
theorem TDR.put (h : TDR K H R B xs es) {k : List (List Nat)} {b : Addr} {u : Value} {v : V} {d : D} (hb : R1 K H R B (.ref b) (.tup (k.map .str))) (q : RelV v u) (r : R1 K H R B v d) : TDR K H R B (storedH xs (kL k) b u) (putT es k d) := by
  unfold storedH putT
  rw [(h.get k).2]
  split
  · exact h.over q r
  · exact h.append (.cons hb q r .nil)
end

/-- the dict at a, known -/
structure TDat (X : L2.Cx) (H : Hp) (a : Addr) (xs : List (List Key × Addr × Value)) : Prop where
  ex : ∃ o, H a = some (.frz o (alive a)) ∧ TDo (hsOf X.prog X.w) a o xs
  keys : ∀ x ∈ xs, SqT X.K H x.2.1 (x.1.map kV)
section
variable {X : L2.Cx} {T : Tb} {E : XK} {pins : List (Addr × Obj)} {σ : L2.St} {H : Hp} {s : Shared} {a : Addr} {xs : List (List Key × Addr × Value)}
theorem TDat.dict (t : TDat X H a xs) (I : Inv X pins σ H s) : s.heap.DictOfH (tupleKind (mixKind X.prog X.w)) a xs ∧ (a == sysModules) = false := by
  obtain ⟨o, h1, h2⟩ := t.ex
  exact ⟨h2.dict (show ObjOk X.prog X.w H s.heap a (.frz o (alive a)) from I.hok a _ h1).1 fun x hx => key_is I (t.keys x hx), h2.1⟩
def rIxT (X : L2.Cx) : R2 := fun x y H Q => ∃ a xs b k p v, x = .ref a ∧ y = .ref b ∧ TDat X H a xs ∧ SqT X.K H b (k.map kV) ∧ atKey xs k = some p ∧ RelV v p.2 ∧ Q v H
def rInT (X : L2.Cx) : R2 := fun x y H Q => ∃ b a xs k, x = .ref b ∧ y = .ref a ∧ TDat X H a xs ∧ SqT X.K H b (k.map kV) ∧ Q (.bl (atKey xs k).isSome) H
def ItT (d : Addr) (o : Obj) (xs : List (List Key × Addr × Value)) : It :=
  ⟨fun i H => H d = some (.frz o (alive d)) ∧ i < xs.length, fun i H x H' => H' = H ∧ ∃ e, xs[i]? = some e ∧ x = .ref e.2.1, fun i H => H d = some (.frz o (alive d)) ∧ xs.length ≤ i⟩
def iKtd (td : TE) : TI := fun σ H R => td σ H fun x H1 => ∃ d o hs xs, x = .ref d ∧ H1 d = some (.frz o (alive d)) ∧ TDo hs d o xs ∧ R (ItT d o xs) H1
end
end DL
set_option Elab.async false
set_option linter.all false
set_option maxRecDepth 100000
set_option maxHeartbeats 1000000
namespace DL
open PySem PySem.Spec PyProof.Rows L2

def keyD : D → Option (List (List Nat))
  | .tup ds => strsD ds
  | _ => none
open Classical in
noncomputable def ixT (hs : List Key → Int) : D → D → Option D
  | .dT h es, d => if h = hs then (keyD d).bind (getT es) else none
  | _, _ => none
open Classical in
noncomputable def inT (hs : List Key → Int) : D → D → Option D
  | d, .dT h es => if h = hs then (keyD d).bind fun k => some (.bl (getT es k).isSome) else none
  | _, _ => none
open Classical in
noncomputable def lenT (hs : List Key → Int) : D → Option D
  | .dT h es => if h = hs then some (.int es.length) else none
  | _ => none
def keysD : D → Option (List D)
  | .dT _ es => some (es.map fun p => .tup (p.1.map .str))
  | _ => none
def iKT (f : EnD → M D) : EnD → M (List D) := fun ρ => mbind (f ρ) fun d => mopt (keysD d)
def iZp (fa fb : EnD → M D) : EnD → M (List (D × D)) := fun ρ => mbind (fa ρ) fun d => mbind (fb ρ) fun e => mopt ((asT d).bind fun xs => (asT e).map fun ys => xs.zip ys)
def dzD (acc : List (List (List Nat) × D)) : List (D × D) → Option (List (List (List Nat) × D))
  | [] => some acc
  | (a, b) :: r => (keyD a).bind fun k => dzD (putT acc k b) r
def eDz (hs : List Key → Int) (i j : Nat) (fi : EnD → M (List (D × D))) : EnD → M D := fun ρ => mbind (fi ρ) fun l =>
  if l.length ≤ sizeLine ∧ i < ρ.length ∧ j < ρ.length then mopt ((dzD [] l).map (.dT hs)) else mbad
section
variable {K : PySem.W.Frag} {H H' : Hp} {R : Addr} {B : Addr → Prop}
theorem Yn.rd {B : Addr → Prop} (y : Yn H H') : RdLe B H H' := by
  rcases y with rfl | ⟨p, us, hp, rfl⟩
  · exact RdLe.refl
  · exact RdLe.new hp
end
section
variable {X : L2.Cx} {T : Tb} {E : XK} {a b tg iter kx vx ea eb : Expr} {fa fb : EnD → M D} {fi : EnD → M (List (D × D))} {pos p : Pos} {hs : List Key → Int} {i j : Nat} {x y : Str}
end
end DL
set_option Elab.async false
set_option linter.all false
set_option maxRecDepth 100000
set_option maxHeartbeats 1000000
namespace DL
open PySem PySem.Spec PyProof.Rows L2

section
variable {prog : Program} {w : World} {A : Around} {R : Result → Shared → Prop} {s : Shared} {elt ta ia tb ib : Expr} {fa fb : List Expr} {scope : Scope} {pos : Pos} {it acc : Value} {env : Env}
abbrev testsOf (cs : List Expr) (env : Env) : Sem Bool := forIn cs true fun c r => if r = true then do let ok ← isTrue c env (eval c env); pure (ForInStep.yield ok) else pure (ForInStep.yield r)
end
section
variable {X : L2.Cx} {pins : List (Addr × Obj)} {σ : L2.St} {H : Hp} {s : Shared}
end
end DL
set_option Elab.async false
set_option linter.all false
set_option maxRecDepth 100000
set_option maxHeartbeats 1000000
namespace DL
open PySem PySem.Spec PyProof.Rows L2

section
variable {X : L2.Cx} {pins : List (Addr × Obj)} {σ : L2.St} {H : Hp} {s : Shared}
/-- {elt for .. in .. if .. for .. in .. if ..}, elt a tuple of ints -/
def tScT (X : L2.Cx) (wi : TI) (g : TG) (tt : TT) (wi1 : TI) (g1 : TG) (tt1 : TT) (te : TE) (vs vs1 : List Nat) : TE := fun σ H Q => wi σ H fun J H1 => ∀ D o0, H1 D = none → X.K.lookup D = none → SetOb (spOf X.prog X.w) o0 [] →
  ∃ W : Nat → Nat → Hp → Prop, (∃ m, W 0 m (upd H1 D (.frz o0 (alive D)))) ∧ ∀ n m H, W n m H →
  (J.stop n H ∧ Q (.ref D) H) ∨ (J.go n H ∧ ∃ Nx : Hp → Prop, (∀ H', Nx H' → ∃ m', m' < m ∧ W (n + 1) m' H') ∧ ∀ x H', J.yld n H x H' → g x (wipe σ vs) H' fun σ2 H2 => wipe σ2 vs = wipe σ vs ∧ tt σ2 H2 fun c H3 =>
    if c = true then wi1 σ2 H3 fun J1 H4 => ∃ W1 : Nat → Nat → Hp → Prop, (∃ m, W1 0 m H4) ∧ ∀ j k H, W1 j k H →
      (J1.stop j H ∧ Nx H) ∨ (J1.go j H ∧ ∃ Ny : Hp → Prop, (∀ H', Ny H' → ∃ k', k' < k ∧ W1 (j + 1) k' H') ∧ ∀ x H', J1.yld j H x H' → g1 x (wipe σ2 vs1) H' fun σ3 H5 => wipe σ3 vs1 = wipe σ2 vs1 ∧ tt1 σ3 H5 fun c H6 =>
        if c = true then te σ3 H6 fun y H7 => ∃ o L k b, y = .ref b ∧ H7 D = some (.frz o (alive D)) ∧ SetOb (spOf X.prog X.w) o L ∧ L.length + 1 < 64 ∧ (∀ p ∈ L, SqT X.K H7 p.1 (p.2.map V.int)) ∧ SqT X.K H7 b (k.map V.int) ∧
          ∀ o' L', SetOb (spOf X.prog X.w) o' L' → (k ∈ L.map (·.2) → L' = L) → (k ∉ L.map (·.2) → L'.Perm ((b, k) :: L)) → Ny (upd H7 D (.frz o' (alive D))) else Ny H6)
    else Nx H3)
end
end DL
set_option Elab.async false
set_option linter.all false
set_option maxRecDepth 100000
set_option maxHeartbeats 2000000
namespace DL
open PySem PySem.Spec PyProof.Rows L2

def wipe2D (ρ : EnD) (i j : Nat) : EnD := (ρ.set j none).set i none
/-- the elements of .. for i in xs for j in l if t -/
def comp2L (b2 i j : Nat) (l : EnD → M (List D)) (t : EnD → M Bool) (f : EnD → M D) : List D → EnD → M (List D)
  | [], _ => mpure []
  | x :: xs, ρ => mbind (mne (l ((wipe2D ρ i j).set i (some (.val x))))) fun l1 => if l1.length ≤ b2 then mbind (compL j t f l1 ((wipe2D ρ i j).set i (some (.val x)))) fun ds => mbind (comp2L b2 i j l t f xs ρ) fun es => mpure (ds ++ es) else mbad
def eLc2 (i j : Nat) (xs l : EnD → M (List D)) (t : EnD → M Bool) (f : EnD → M D) : EnD → M D := fun ρ => mbind (xs ρ) fun ds =>
  if ds.length ≤ 65536 ∧ ownAt ρ i = false ∧ ownAt ρ j = false then mbind (comp2L 256 i j l t f ds ρ) fun es => mpure (.lst es) else mbad
def intsC : List D → Option (List Int)
  | [] => some []
  | .int n :: r => (intsC r).map fun ns => n :: ns
  | _ => none
def tupI : D → Option (List Int)
  | .tup ds => intsC ds
  | _ => none
def eChk (f : EnD → M D) : EnD → M D := fun ρ => mbind (f ρ) fun d => mopt ((tupI d).map fun _ => d)
def eSc2 (sp : SetSp) (i j : Nat) (xs l : EnD → M (List D)) (t : EnD → M Bool) (f : EnD → M D) : EnD → M D := fun ρ => mbind (xs ρ) fun ds =>
  if ds.length ≤ 20 ∧ ownAt ρ i = false ∧ ownAt ρ j = false then mbind (comp2L 3 i j l t (eChk f) ds ρ) fun es => mpure (.st sp (es.filterMap tupI)) else mbad
section
variable {X : L2.Cx} {T : Tb} {E : XK} {g : G} {H H1 : Hp} {σ : L2.St} {ρ : EnD} {z z1 : S} {i j : Nat} {Dd : Addr}
end
end DL
set_option Elab.async false
set_option linter.all false
set_option maxRecDepth 100000
set_option maxHeartbeats 2000000
namespace DL
open PySem PySem.Spec PyProof.Rows L2

section
variable {X : L2.Cx} {T : Tb} {E : XK} {fi fi1 : EnD → M (List D)} {t : EnD → M Bool} {f : EnD → M D} {elt iter iter1 tg tg1 : Expr} {ifs1 : List Expr} {scope : Scope} {pos : Pos} {x y : Str} {i j : Nat}
theorem ints_of : ∀ {k : List Int} {us : List V} {K : PySem.W.Frag} {H : Hp} {R : Addr} {B : Addr → Prop}, Rs K H R B us (k.map .int) → us = k.map V.int
  | [], us, _, _, _, _, h => by cases h; rfl
  | z :: k, [], _, _, _, _, h => by cases h
  | z :: k, u :: us, _, _, _, _, h => by rw [ints_of h.split.2, h.split.1.int] <;> rfl
theorem tup_sq {K : PySem.W.Frag} {H : Hp} {R : Addr} {B : Addr → Prop} {v : V} {k : List Int} (r : R1 K H R B v (.tup (k.map .int))) : ∃ b, v = .ref b ∧ SqT K H b (k.map V.int) := by
  obtain ⟨a, us, e, s, _, rs⟩ := r.tupl
  exact ⟨a, e, by rw [← ints_of rs]; exact s.sq⟩
end
end DL
set_option Elab.async false
set_option linter.all false
set_option maxRecDepth 100000
set_option maxHeartbeats 1000000
namespace SEQ
open PySem PySem.Spec PyProof.Rows L2

section
variable {P : Program} {w : World} {A : Around} {E : Value → Shared → Prop} {s : Shared} {a : Addr} {L : List (Addr × List Int)} {es : Array (Int × Value)} {ep : Nat} {t : SetTable}
abbrev probe0 (t : SetTable) (m : Int) : SetTable.Probe := runAt t.mask (SetTable.bits m % (t.mask + 1)) (SetTable.bits m)
end
end SEQ
set_option Elab.async false
set_option linter.all false
set_option maxRecDepth 100000
set_option maxHeartbeats 1000000
namespace SEQ
open PySem PySem.Spec PyProof.Rows L2

section
variable {P : Program} {w : World} {A : Around} {E : Value → Shared → Prop} {s : Shared} {a b : Addr} {L La Lb : List (Addr × List Int)} {es ea eb : Array (Int × Value)} {ep epa epb : Nat} {t ta tb : SetTable}
end
end SEQ
set_option Elab.async false
set_option linter.all false
set_option maxRecDepth 100000
set_option maxHeartbeats 2000000
namespace DL
open PySem PySem.Spec PyProof.Rows L2

def eqMem (a b : List (List Int)) : Bool := a.all (fun k => b.any fun x => decide (x = k)) && b.all (fun k => a.any fun x => decide (x = k))
theorem eqMem_iff {a b : List (List Int)} : eqMem a b = true ↔ ∀ k, k ∈ a ↔ k ∈ b := by
  unfold eqMem
  rw [Bool.and_eq_true, List.all_eq_true, List.all_eq_true]
  constructor
  · rintro ⟨h1, h2⟩ k
    refine ⟨fun h => ?_, fun h => ?_⟩
    · obtain ⟨x, hx, e⟩ := List.any_eq_true.mp (h1 k h)
      rw [← of_decide_eq_true e]; exact hx
    · obtain ⟨x, hx, e⟩ := List.any_eq_true.mp (h2 k h)
      rw [← of_decide_eq_true e]; exact hx
  · intro h
    exact ⟨fun k hk => List.any_eq_true.mpr ⟨k, (h k).mp hk, decide_eq_true rfl⟩, fun k hk => List.any_eq_true.mpr ⟨k, (h k).mpr hk, decide_eq_true rfl⟩⟩
open Classical in
noncomputable def eqSt (sp : SetSp) : D → D → Option D
  | .st s1 a, .st s2 b => if s1 = sp ∧ s2 = sp then some (.bl (eqMem a b)) else none
  | _, _ => none
theorem R1.set {K : PySem.W.Frag} {H : Hp} {R : Addr} {B : Addr → Prop} {sp : SetSp} {v : V} {ks : List (List Int)} (h : R1 K H R B v (.st sp ks)) : ∃ a o L, v = .ref a ∧ H a = some (.frz o (alive a)) ∧ SetOb sp o L ∧ (∀ k, k ∈ L.map (·.2) ↔ k ∈ ks) ∧ ∀ p ∈ L, SqT K H p.1 (p.2.map V.int) := by
  cases h with
  | atom a _ => cases a
  | @st _ a o L _ _ _ s n e r _ =>
    refine ⟨a, o, L, rfl, s, e.1, e.2, ?_⟩
    intro p hp
    clear s n e
    induction L with
    | nil => cases hp
    | cons q L ih =>
      rcases List.mem_cons.mp hp with e | hp
      · subst e
        obtain ⟨b, eb, sq⟩ := tup_sq r.split.1
        cases eb
        exact sq
      · exact ih r.split.2 hp
def rEqSt (X : L2.Cx) : R2 := fun x y H Q => ∃ a b o u L M, x = .ref a ∧ y = .ref b ∧ H a = some (.frz o (alive a)) ∧ H b = some (.frz u (alive b)) ∧ SetOb (spOf X.prog X.w) o L ∧ SetOb (spOf X.prog X.w) u M ∧
  (∀ p ∈ L, SqT X.K H p.1 (p.2.map V.int)) ∧ (∀ p ∈ M, SqT X.K H p.1 (p.2.map V.int)) ∧ ∀ c, (c = true ↔ ∀ k, k ∈ L.map (·.2) ↔ k ∈ M.map (·.2)) → Q (.bl c) H
section
variable {X : L2.Cx} {T : Tb} {E : XK}
end
end DL
set_option Elab.async false
set_option linter.all false
set_option maxRecDepth 100000
set_option maxHeartbeats 1000000
namespace SETS
open PySem PySem.Spec PyProof.Rows L2

def dd (σ : List Str) (x : Str) : List Str := if σ.any (· == x) then σ else σ ++ [x]
def met (xs : List Str) (i : Nat) : List Str := (xs.take i).foldl dd []
theorem met_succ {xs : List Str} {i : Nat} {x : Str} (h : xs[i]? = some x) : met xs (i + 1) = dd (met xs i) x := by
  unfold met
  rw [List.take_succ, h, Option.toList_some, List.foldl_append] <;> rfl
theorem dd_len (σ : List Str) (x : Str) : (dd σ x).length = if σ.any (· == x) then σ.length else σ.length + 1 := by
  unfold dd; split <;> simp
theorem dd_any (σ : List Str) (x k : Str) : (dd σ x).any (· == k) = (σ.any (· == k) || decide (k = x)) := by
  unfold dd
  by_cases h : σ.any (· == x) = true
  · rw [if_pos h]
    by_cases e : k = x
    · subst e; rw [h]; simp
    · simp [e]
  · rw [if_neg h, List.any_append]
    by_cases e : k = x
    · subst e; simp
    · have : (x == k) = false := beq_eq_false_iff_ne.mpr fun z => e z.symm
      simp [this, e]
theorem met_le (xs : List Str) : ∀ i, (met xs i).length ≤ i
  | 0 => by unfold met; simp
  | i + 1 => by
    have ih := met_le xs i
    cases h : xs[i]? with
    | none =>
      have : met xs (i + 1) = met xs i := by
        unfold met
        rw [List.take_succ, h, Option.toList_none, List.append_nil]
      rw [this]; omega
    | some x =>
      rw [met_succ h, dd_len]
      split <;> omega
section
variable {P : Program} {w : World} {A : Around} {R : Result → Shared → Prop} {I : Addr} {fp wr : List Addr} {G : Array GenState → Array GenState → Prop} {n : Nat} {Pv : Nat → Value → Prop} {St : Nat → Shared → Prop}
theorem fill_strs (W : WalksS P w A.in1 I fp wr G n Pv St) (D : Addr) (hD : D ∉ fp) (xs : List Str) (hval : ∀ i v, Pv i v → ∃ x t, xs[i]? = some x ∧ v = .str x t) (hb : n + 1 < scanBound) :
    ∀ (k i : Nat) (s : Shared), n - i = k → i ≤ n → St i s → s.heap.SetOf (PySem.strKind P w) D (fun y => (met xs i).any (· == y)) (met xs i).length →
      (∀ s', Moved (D :: wr) G s s' → s'.heap.SetOf (PySem.strKind P w) D (fun y => (met xs n).any (· == y)) (met xs n).length → R (.ok (.ret .none)) s') →
      codeAny (model P w) A (.builtin "set.update.loop" ⟨[.ref D, .ref I], []⟩) R s := by
  have dw : D ∉ wr := fun h => hD (W.sub _ h)
  have sub : ∀ b ∈ wr, b ∈ D :: wr := fun b hb => List.mem_cons_of_mem _ hb
  intro k
  induction k with
  | zero =>
    intro i s hk hi hst hS hR
    obtain rfl : i = n := by omega
    refine codeAny_builtin PyProof.Rows.F.entry_set_update_loop ?_
    rw [Around.under_plainId PyProof.Rows.F.plain_set_update_loop _]
    show wpAny _ A.in1 (pyNext (.ref I) >>= _) _ _ s
    refine wpAny_bind (W.done s _ _ hst fun s' hm => ?_)
    show wpAny _ A.in1 (ret Value.none) _ _ s'
    exact wpAny_pure (hR s' (hm.mono sub) (by
      obtain ⟨o, es, ep, t, ho, r⟩ := hS
      exact ⟨o, es, ep, t, hm.heap D _ dw ho, r⟩))
  | succ k ih =>
    intro i s hk hi hst hS hR
    have lt : i < n := by omega
    refine codeAny_builtin PyProof.Rows.F.entry_set_update_loop ?_
    rw [Around.under_plainId PyProof.Rows.F.plain_set_update_loop _]
    show wpAny _ A.in1 (pyNext (.ref I) >>= _) _ _ s
    refine wpAny_bind (W.item i s _ _ lt hst fun v s' hP hst' hm => ?_)
    obtain ⟨x, t, hx, rfl⟩ := hval i v hP
    have hS' : s'.heap.SetOf (PySem.strKind P w) D (fun y => (met xs i).any (· == y)) (met xs i).length := by
      obtain ⟨o, es, ep, tb, ho, r⟩ := hS
      exact ⟨o, es, ep, tb, hm.heap D _ dw ho, r⟩
    show wpAny _ A.in1 (holding [Value.str x t] (setAdd D (.str x t)) >>= _) _ _ s'
    refine wpAny_bind (wpAny_holding ?_)
    unfold setAdd
    refine wpAny_holding ?_
    refine wpAny_bind ((PySem.strKind P w).pyHash (k := x) (strKind_is _ _ _ _) ?_)
    have room : (met xs i).length + 1 < scanBound := by have := met_le xs i; omega
    refine wpAny_setAddHashed_of (knd := PySem.strKind P w) (s := { s' with toks := s'.toks + 1 }) (strKind_is _ _ _ _) rfl hS' room fun h' sb hS2 => ?_
    have next : h'.SetOf (PySem.strKind P w) D (fun y => (met xs (i + 1)).any (· == y)) (met xs (i + 1)).length :=
      SetOf_congr hS2 (fun y => by rw [met_succ hx, dd_any]) (by rw [met_succ hx, dd_len])
    refine wpAny_pure ⟨plainId_quiet PyProof.Rows.F.plain_set_update_loop _, ih (i + 1) _ (by omega) lt (W.frame _ s' _ _ hst' (Nat.le_succ _) fun b hb o e => ?_) next fun s2 m2 hS3 => ?_⟩
    · rw [sb.2 b (fun h : b = D => hD (by rw [← h]; exact hb))]; exact e
    · refine hR s2 (Moved.trans W.gtrans ((hm.mono sub).then_heap (Nat.le_succ _) fun b o hb e => ?_) m2) hS3
      rw [sb.2 b (fun h : b = D => hb (by rw [h]; exact List.mem_cons_self))]; exact e
end
section
variable {P : Program} {w : World} {A : Around} {E : Value → Shared → Prop} {s : Shared}
set_option maxHeartbeats 3200000 in
theorem call_set_list {l : Addr} {items : Array Value} {xs : List Str} {Q : Value → Shared → Prop}
    (hh : A.handled = none) (hl : s.heap.IsList l items) (hi : PyProof.Rows.StrsAre items.toList xs) (hb : xs.length + 1 < scanBound)
    (h : ∀ (h' : Heap) (tk : Nat), h'.SetOf (PySem.strKind P w) s.heap.objs.size (fun y => (met xs xs.length).any (· == y)) (met xs xs.length).length →
      (∀ b o, b < s.heap.objs.size → s.heap.get? b = some o → h'.get? b = some o) → Q (.ref s.heap.objs.size) { s with heap := h', toks := tk }) :
    wpAny (model P w) A (call (.type "set") [.ref l]) Q E s := by
  obtain ⟨c, tl, hmro⟩ := PySem.F.called_set.mro
  have hmade := PySem.F.called_set.made
  have hsub := PySem.F.called_set.sub
  refine wpAny_call (codeAny_of_tree ?_)
  show wpAny _ _ (callAny (.type "set") _) _ _ _
  refine wpAny_pure ⟨Code.quiet_builtin _ (by decide +kernel), codeAny_builtin PySem.F.entry_type_call ?_⟩
  rw [Around.under_plain (weight_type_call_type "set" [.ref l] []) rfl]
  have q1 := PySem.F.called_set.notType
  have q2 := PySem.F.called_set.canCreate
  have q3 := PySem.F.typeCall_set_1 (.ref l)
  repeat (any_goals (first | assumption | wp_step))
  refine codeAny_mono (code_set_new_1 (.ref l) (E := E) (Q₁ := fun obj sa => ∃ led : Bool, obj = .ref s.heap.objs.size ∧ sa = { s with heap := s.heap.push { cls := .type "set", dict := none, data := .set #[] 0 (.fresh 0 0 led) } }) fun led => ⟨led, rfl, rfl⟩) fun r sa hr => ?_
  cases r with
  | error e => exact hr
  | ok fl =>
    cases fl with
    | ret obj =>
      obtain ⟨led, rfl, rfl⟩ := hr
      have hS : (s.heap.push { cls := .type "set", dict := none, data := .set #[] 0 (.fresh 0 0 led) }).get? s.heap.objs.size = some { cls := .type "set", dict := none, data := .set #[] 0 (.fresh 0 0 led) } := Heap.get?_push_size _ rfl
      have hT : Shared.TypeIs { s with heap := s.heap.push { cls := .type "set", dict := none, data := .set #[] 0 (.fresh 0 0 led) } } (.ref s.heap.objs.size) "set" := ⟨_, hS, rfl⟩
      have q4 := PySem.F.called_set.init.lookup
      have q5 := PySem.F.called_set.init.bind (.ref s.heap.objs.size)
      repeat (any_goals (first | assumption | wp_step))
      refine codeAny_mono (codeAny_call_builtin (R := wants (fun r sb => r = .none ∧ ∃ h' tk, sb = { s with heap := h', toks := tk } ∧
          h'.SetOf (PySem.strKind P w) s.heap.objs.size (fun y => (met xs xs.length).any (· == y)) (met xs xs.length).length ∧
          (∀ b o, b < s.heap.objs.size → s.heap.get? b = some o → h'.get? b = some o)) E) PySem.F.called_set.init.plain PySem.F.entry_set_init (check_set_init_1 hT ?_)) fun r2 sb hr2 => ?_
      · obtain ⟨ol, hol, hcl, nl, hdl⟩ := hl
        obtain ⟨ocls, odict, odata, oslots⟩ := ol
        simp only at hcl hdl
        subst hcl hdl
        have hol' : (s.heap.push { cls := .type "set", dict := none, data := .set #[] 0 (.fresh 0 0 led) }).get? l = some { cls := .type "list", dict := odict, data := .seq items nl, slots := oslots } := Heap.get?_push_of_some _ hol
        have nset := PySem.F.sub_list_set
        have nfrz := PySem.F.sub_list_frozenset
        have ndict : (Value.type "list" == Value.type "dict") = false := by decide
        have hl1 : (s.heap.push { cls := .type "set", dict := none, data := .set #[] 0 (.fresh 0 0 led) }).IsList l items := ⟨_, hol', rfl, nl, rfl⟩
        unfold Builtin.«set.__init__» noKeywords Builtin.Frozenset.updateFrom
        generalize hPI : pyIter = PI
        wp_walk
        subst hPI
        refine wpAny_pyIter_list hl1 ?_
        refine wpAny_bind (wpAny_runValue ?_)
        have ls : l < s.heap.objs.size := Heap.lt_size hol
        have calm : A.in1.in1.in1.handled = none := by simp [hh]
        have apart : l ≠ (s.heap.push { cls := .type "set", dict := none, data := .set #[] 0 (.fresh 0 0 led) }).objs.size := by
          rw [Heap.size_push]; exact Nat.ne_of_lt (Nat.lt_succ_of_lt ls)
        have out : s.heap.objs.size ∉ [(s.heap.push { cls := .type "set", dict := none, data := .set #[] 0 (.fresh 0 0 led) }).objs.size, l] := by
          rw [Heap.size_push]; simp only [List.mem_cons, List.mem_singleton, List.not_mem_nil, or_false, not_or]
          exact ⟨Nat.ne_of_lt (Nat.lt_succ_self _), Nat.ne_of_gt ls⟩
        have hsz : xs.length = items.size := by rw [← StrsAre.len_eq hi, Array.length_toList]
        have hval : ∀ (i : Nat) (v : Value), items[i]? = some v → ∃ x t, xs[i]? = some x ∧ v = .str x t := fun i v hv => by
          have hv' : items.toList[i]? = some v := by rw [Array.getElem?_toList]; exact hv
          obtain ⟨t, e⟩ := SS.strs_at hi i v hv'
          have il : i < xs.length := by rw [hsz, ← Array.length_toList]; exact (List.getElem?_eq_some_iff.mp hv').1
          exact ⟨xs[i], t, List.getElem?_eq_getElem il, by rw [e]; congr 1; simp [List.getD, List.getElem?_eq_getElem il]⟩
        refine fill_strs ((Walks.list calm _ l apart items).toS) s.heap.objs.size out xs hval (by rw [← hsz]; exact hb) (items.size - 0) 0 _ (by omega) (Nat.zero_le _)
          ⟨⟨_, Heap.get?_push_size _ rfl, rfl, rfl⟩, (hl1.push _)⟩ ?_ fun s' hm hS' => ?_
        · have hget : ((s.heap.push { cls := .type "set", dict := none, data := .set #[] 0 (.fresh 0 0 led) }).push { cls := .type "list_iterator", data := .fields #[.ref l, .int 0 0] }).get? s.heap.objs.size
              = some { cls := .type "set", dict := none, data := .set #[] 0 (.fresh 0 0 led) } := Heap.get?_push_of_some _ hS
          exact SetOf_congr ((setObjOf_fresh (knd := PySem.strKind P w) led).setOf hget (by unfold scanBound; omega)) (fun _ => rfl) rfl
        · rw [← hsz] at hS'
          obtain ⟨h', g', d', tk', os'⟩ := s'
          have eg : g' = s.gens := hm.gens
          have ed : d' = s.drawn := hm.drawn
          have eo : os' = s.os := hm.os
          subst eg ed eo
          show wpAny _ _ _ _ _ _
          refine wpAny_pure ?_
          show wpAny _ _ (ret Value.none) _ _ _
          refine wpAny_pure ⟨rfl, h', tk', rfl, hS', fun b o hb e => ?_⟩
          have n1 : b ≠ s.heap.objs.size := Nat.ne_of_lt hb
          have n2 : b ≠ (s.heap.push { cls := .type "set", dict := none, data := .set #[] 0 (.fresh 0 0 led) }).objs.size := by
            rw [Heap.size_push]; exact Nat.ne_of_lt (Nat.lt_succ_of_lt hb)
          exact hm.heap b o (by simp only [List.mem_cons, List.mem_singleton, List.not_mem_nil, or_false, not_or]; exact ⟨n1, n2⟩) (Heap.get?_push_of_some _ (Heap.get?_push_of_some _ e))
      · cases r2 with
        | error e => exact hr2
        | ok fl2 =>
          cases fl2 with
          | ret r =>
            obtain ⟨rfl, h', tk, rfl, hS', hk'⟩ := hr2
            repeat (any_goals (first | assumption | wp_step))
            exact h _ _ hS' hk'
          | _ => exact hr2.elim
    | _ => exact hr.elim
set_option maxHeartbeats 3200000 in
theorem call_set_text {z : Str} {zt : Tok} {Q : Value → Shared → Prop}
    (hh : A.handled = none) (hb : z.cps.size + 1 < scanBound)
    (h : ∀ (h' : Heap) (tk : Nat), h'.SetOf (PySem.strKind P w) s.heap.objs.size (fun y => (met (z.cps.toList.map fun c => (⟨#[c]⟩ : Str)) (z.cps.toList.map fun c => (⟨#[c]⟩ : Str)).length).any (· == y)) (met (z.cps.toList.map fun c => (⟨#[c]⟩ : Str)) (z.cps.toList.map fun c => (⟨#[c]⟩ : Str)).length).length →
      (∀ b o, b < s.heap.objs.size → s.heap.get? b = some o → h'.get? b = some o) → Q (.ref s.heap.objs.size) { s with heap := h', toks := tk }) :
    wpAny (model P w) A (call (.type "set") [.str z zt]) Q E s := by
  obtain ⟨c, tl, hmro⟩ := PySem.F.called_set.mro
  have hmade := PySem.F.called_set.made
  have hsub := PySem.F.called_set.sub
  refine wpAny_call (codeAny_of_tree ?_)
  show wpAny _ _ (callAny (.type "set") _) _ _ _
  refine wpAny_pure ⟨Code.quiet_builtin _ (by decide +kernel), codeAny_builtin PySem.F.entry_type_call ?_⟩
  rw [Around.under_plain (weight_type_call_type "set" [.str z zt] []) rfl]
  have q1 := PySem.F.called_set.notType
  have q2 := PySem.F.called_set.canCreate
  have q3 := PySem.F.typeCall_set_1 (.str z zt)
  repeat (any_goals (first | assumption | wp_step))
  refine codeAny_mono (code_set_new_1 (.str z zt) (E := E) (Q₁ := fun obj sa => ∃ led : Bool, obj = .ref s.heap.objs.size ∧ sa = { s with heap := s.heap.push { cls := .type "set", dict := none, data := .set #[] 0 (.fresh 0 0 led) } }) fun led => ⟨led, rfl, rfl⟩) fun r sa hr => ?_
  cases r with
  | error e => exact hr
  | ok fl =>
    cases fl with
    | ret obj =>
      obtain ⟨led, rfl, rfl⟩ := hr
      have hS : (s.heap.push { cls := .type "set", dict := none, data := .set #[] 0 (.fresh 0 0 led) }).get? s.heap.objs.size = some { cls := .type "set", dict := none, data := .set #[] 0 (.fresh 0 0 led) } := Heap.get?_push_size _ rfl
      have hT : Shared.TypeIs { s with heap := s.heap.push { cls := .type "set", dict := none, data := .set #[] 0 (.fresh 0 0 led) } } (.ref s.heap.objs.size) "set" := ⟨_, hS, rfl⟩
      have q4 := PySem.F.called_set.init.lookup
      have q5 := PySem.F.called_set.init.bind (.ref s.heap.objs.size)
      repeat (any_goals (first | assumption | wp_step))
      refine codeAny_mono (codeAny_call_builtin (R := wants (fun r sb => r = .none ∧ ∃ h' tk, sb = { s with heap := h', toks := tk } ∧
          h'.SetOf (PySem.strKind P w) s.heap.objs.size (fun y => (met (z.cps.toList.map fun c => (⟨#[c]⟩ : Str)) (z.cps.toList.map fun c => (⟨#[c]⟩ : Str)).length).any (· == y)) (met (z.cps.toList.map fun c => (⟨#[c]⟩ : Str)) (z.cps.toList.map fun c => (⟨#[c]⟩ : Str)).length).length ∧
          (∀ b o, b < s.heap.objs.size → s.heap.get? b = some o → h'.get? b = some o)) E) PySem.F.called_set.init.plain PySem.F.entry_set_init (check_set_init_1 hT ?_)) fun r2 sb hr2 => ?_
      · have nset := PySem.F.sub_str_set
        have nfrz := PySem.F.sub_str_frozenset
        have ndict : (Value.type "str" == Value.type "dict") = false := by decide
        unfold Builtin.«set.__init__» noKeywords Builtin.Frozenset.updateFrom
        generalize hPI : pyIter = PI
        wp_walk
        subst hPI
        refine wpAny_pyIter_str fun oi St W st0 => ?_
        refine wpAny_bind (wpAny_runValue ?_)
        have calm : A.in1.in1.in1.handled = none := by simp [hh]
        have out : s.heap.objs.size ∉ [(s.heap.push { cls := .type "set", dict := none, data := .set #[] 0 (.fresh 0 0 led) }).objs.size] := by
          rw [Heap.size_push]; simp only [List.mem_singleton]
          exact Nat.ne_of_lt (Nat.lt_succ_self _)
        have hsz : (z.cps.toList.map fun c => (⟨#[c]⟩ : Str)).length = z.cps.size := by show (z.cps.toList.map fun c => (⟨#[c]⟩ : Str)).length = _; rw [List.length_map, Array.length_toList]
        have hval : ∀ (i : Nat) (v : Value), SignAt z i v → ∃ x t, (z.cps.toList.map fun c => (⟨#[c]⟩ : Str))[i]? = some x ∧ v = .str x t := fun i v ⟨c, u, hc, e⟩ => ⟨⟨#[c]⟩, u, by
          show (z.cps.toList.map fun c => (⟨#[c]⟩ : Str))[i]? = _
          rw [List.getElem?_map, Array.getElem?_toList, hc] <;> rfl, e⟩
        refine fill_strs ((W _ calm).toS) s.heap.objs.size out (z.cps.toList.map fun c => (⟨#[c]⟩ : Str)) hval hb (z.cps.size - 0) 0 _ (by omega) (Nat.zero_le _) st0 ?_ fun s' hm hS' => ?_
        · have hget : ((s.heap.push { cls := .type "set", dict := none, data := .set #[] 0 (.fresh 0 0 led) }).push oi).get? s.heap.objs.size
              = some { cls := .type "set", dict := none, data := .set #[] 0 (.fresh 0 0 led) } := Heap.get?_push_of_some _ hS
          exact SetOf_congr ((setObjOf_fresh (knd := PySem.strKind P w) led).setOf hget (by unfold scanBound; omega)) (fun _ => rfl) rfl
        · rw [← hsz] at hS'
          obtain ⟨h', g', d', tk', os'⟩ := s'
          have eg : g' = s.gens := hm.gens
          have ed : d' = s.drawn := hm.drawn
          have eo : os' = s.os := hm.os
          subst eg ed eo
          show wpAny _ _ _ _ _ _
          refine wpAny_pure ?_
          show wpAny _ _ (ret Value.none) _ _ _
          refine wpAny_pure ⟨rfl, h', tk', rfl, hS', fun b o hb e => ?_⟩
          have n1 : b ≠ s.heap.objs.size := Nat.ne_of_lt hb
          have n2 : b ≠ (s.heap.push { cls := .type "set", dict := none, data := .set #[] 0 (.fresh 0 0 led) }).objs.size := by
            rw [Heap.size_push]; exact Nat.ne_of_lt (Nat.lt_succ_of_lt hb)
          exact hm.heap b o (by simp only [List.mem_cons, List.mem_singleton, List.not_mem_nil, or_false, not_or]; exact ⟨n1, n2⟩) (Heap.get?_push_of_some _ (Heap.get?_push_of_some _ e))
      · cases r2 with
        | error e => exact hr2
        | ok fl2 =>
          cases fl2 with
          | ret r =>
            obtain ⟨rfl, h', tk, rfl, hS', hk'⟩ := hr2
            repeat (any_goals (first | assumption | wp_step))
            exact h _ _ hS' hk'
          | _ => exact hr2.elim
    | _ => exact hr.elim
end
end SETS
set_option Elab.async false
set_option linter.all false
set_option maxRecDepth 100000
set_option maxHeartbeats 1000000
namespace DL
open PySem PySem.Spec PyProof.Rows L2 SETS

abbrev signs (z : Str) : List Str := z.cps.toList.map fun c => (⟨#[c]⟩ : Str)
def tLenSet2 (K : PySem.W.Frag) (ta : TE) : TE := fun σ H Q => ta σ H fun x H1 => (∃ l, ∃ xs : List Str, x = .ref l ∧ SqL K H1 l (xs.map V.str) ∧ xs.length ≤ 50 ∧ Q (.int ((met xs xs.length).length : Nat)) H1) ∨
  ∃ z : Str, x = .str z ∧ z.cps.size ≤ 50 ∧ Q (.int ((met (signs z) (signs z).length).length : Nat)) H1
section
variable {X : L2.Cx}
theorem pe_lenSet2 {a : Expr} {ta : TE} {p p2 q pos : Pos} (hc : X.calm = true) (hg : Gl X "len") (hm : X.mg "len" = none) (hg2 : Gl X "set") (hm2 : X.mg "set" = none) (ha : PE X a ta)
    (na : starEach [a] X.env = (false, eval a X.env) :: starEach [] X.env := by rfl) : PE X (.Call (.Name "len" p) [.Call (.Name "set" p2) [a] [] q] [] pos) (tLenSet2 X.K ta) := by
  refine ⟨fun pins s σ H Q I h => ?_⟩
  refine Call_ (ld_blt I hg hm boot_len ?_)
  refine PyProof.Rows.callWith_builtin1 (PyProof.Rows.args_cons ?_ rfl) rfl rfl
  refine Call_ (ld_blt I hg2 hm2 boot_set ?_)
  refine PyProof.Rows.callWith_type1 (PyProof.Rows.args_cons (thn (ha.run pins s σ H _ I h) fun v s1 ⟨x, H1, I1, r1, q1⟩ => PyProof.Rows.args_nil ?_) na) na rfl
  have fin : ∀ (ys : List Str) (n : Nat), ys.length ≤ n → n ≤ 50 → Q (.int (ys.length : Nat)) H1 → ∀ (h' : Heap) (tk : Nat), h'.SetOf (PySem.strKind X.prog X.w) s1.heap.objs.size (fun y => ys.any (· == y)) ys.length →
      (∀ b o, b < s1.heap.objs.size → s1.heap.get? b = some o → h'.get? b = some o) →
      wpAny (model X.prog X.w) X.A (spliced (backTo pos (starEach [] X.env))) (fun vs s2 => wpAny (model X.prog X.w) X.A (call (.builtin "len") (Value.ref s1.heap.objs.size :: vs)) (EP X pins σ Q) X.xe s2) X.xe { s1 with heap := h', toks := tk } := fun ys n ln n50 q2 h' tk hS hk => by
    refine PyProof.Rows.args_nil ?_
    obtain ⟨o, es, ep, t, ho, hex, hd, _, _, _, hf, hn⟩ := hS
    have I2 : Inv X pins σ H1 { s1 with heap := h', toks := tk } := I1.kept fun b o e => hk b o (Heap.lt_size e) e
    exact call_len_set ho hex hd hf (by rw [hn]; omega) ⟨.int (ys.length : Nat), H1, I2.tok _, ⟨_, by rw [hn]⟩, q2⟩
  rcases q1 with ⟨l, xs, rfl, hq, h50, q1⟩ | ⟨z, rfl, h50, q1⟩
  · cases r1
    obtain ⟨its, r, pl, hz⟩ := I1.list hq
    exact call_set_list (I1.ok.hd hc) pl.isList (by simpa using strsAre_of r) (by unfold scanBound; omega) fun h' tk hS hk => fin _ xs.length (met_le xs _) h50 q1 h' tk hS hk
  · obtain ⟨zt, rfl⟩ := r1
    have ls : (signs z).length = z.cps.size := by rw [List.length_map, Array.length_toList]
    exact call_set_text (I1.ok.hd hc) (by unfold scanBound; omega) fun h' tk hS hk => fin _ (signs z).length (met_le _ _) (by omega) q1 h' tk hS hk
end
/-- how many different -/
def ddZ (σ : List (List Nat)) (x : List Nat) : List (List Nat) := if σ.any (fun y => decide (y = x)) then σ else σ ++ [x]
def cntZ (zs : List (List Nat)) : Nat := (zs.foldl ddZ []).length
theorem st_beq {a b : List Nat} : (ST a == ST b) = decide (a = b) := by
  by_cases e : a = b
  · subst e; simp
  · rw [decide_eq_false e]; exact beq_eq_false_iff_ne.mpr fun z => e (ST_inj z)
theorem dd_map (σ : List (List Nat)) (x : List Nat) : dd (σ.map ST) (ST x) = (ddZ σ x).map ST := by
  unfold dd ddZ
  have e : (σ.map ST).any (· == ST x) = σ.any fun y => decide (y = x) := by
    rw [List.any_map]
    congr 1
    funext y
    exact st_beq
  rw [e]
  split
  · rfl
  · rw [List.map_append] <;> rfl
theorem met_map (zs : List (List Nat)) : (met (zs.map ST) (zs.map ST).length).length = cntZ zs := by
  have g : ∀ (zs σ : List (List Nat)), (zs.map ST).foldl dd (σ.map ST) = (zs.foldl ddZ σ).map ST := by
    intro zs
    induction zs with
    | nil => intro σ; rfl
    | cons x zs ih =>
      intro σ
      rw [List.map_cons, List.foldl_cons, List.foldl_cons, dd_map, ih]
  unfold met cntZ
  rw [List.take_length]
  have := g zs []
  rw [List.map_nil] at this
  rw [this, List.length_map]
def lenSetD : D → Option D
  | .lst ds => (strsD ds).bind fun zs => if zs.length ≤ 50 then some (.int (cntZ zs)) else none
  | .str z => if z.length ≤ 50 then some (.int (cntZ (z.map fun c => [c]))) else none
  | _ => none
theorem signs_ST (z : List Nat) : signs (ST z) = (z.map fun c => [c]).map ST := by
  show ((ST z).cps.toList.map fun c => (⟨#[c]⟩ : Str)) = _
  rw [ST_toList, List.map_map] <;> rfl
section
variable {X : L2.Cx} {T : Tb} {E : XK} {a : Expr} {fa : EnD → M D} {p p2 q pos : Pos}
theorem pu_lenSet (hc : X.calm = true) (hg : Gl X "len") (hm : X.mg "len" = none) (hg2 : Gl X "set") (hm2 : X.mg "set" = none) (ha : PE X a (tD (yx X T E) fa))
    (na : starEach [a] X.env = (false, eval a X.env) :: starEach [] X.env := by rfl) : PE X (.Call (.Name "len" p) [.Call (.Name "set" p2) [a] [] q] [] pos) (tD (yx X T E) (e1 (op1 lenSetD) fa)) :=
  PE_imp (pe_lenSet2 hc hg hm hg2 hm2 ha na) fun σ H Q h => by
    obtain ⟨g, ρ, z, st, a⟩ := h
    refine ⟨g, ρ, z, st, a.bind.imp fun d z1 _ h1 v H1 st1 e1 rv => ?_⟩
    obtain ⟨r, hr, q⟩ := h1.opt
    cases d <;> simp only [lenSetD, reduceCtorEq] at hr
    case str zz _ =>
      simp only [Option.ite_none_right_eq_some, Option.some.injEq] at hr
      obtain ⟨c, rfl⟩ := hr
      cases rv.str
      refine .inr ⟨ST zz, rfl, by show (ST zz).cps.size ≤ 50; simpa [ST] using c, ?_⟩
      rw [signs_ST, met_map]
      exact q _ H1 st1 e1 (.atom .int .nil)
    case lst ds _ =>
      obtain ⟨zs, h2, h3⟩ := Option.bind_eq_some_iff.mp hr
      simp only [Option.ite_none_right_eq_some, Option.some.injEq] at h3
      obtain ⟨c, rfl⟩ := h3
      obtain ⟨a, us, rfl, hq, n, rs⟩ := rv.list
      have e := strsRs rs h2
      subst e
      refine .inl ⟨a, zs.map ST, rfl, .inl (.inl hq), by rw [List.length_map]; exact c, ?_⟩
      rw [met_map]
      exact q _ H1 st1 e1 (.atom .int .nil)
end
end DL
set_option Elab.async false
set_option linter.all false
set_option maxRecDepth 100000
set_option maxHeartbeats 1000000
namespace DL
open PySem PySem.Spec PyProof.Rows L2

/-- raise of a class that has no __init__ of its own -/
def sRaise (x : Str) : SM := fun _ z => .exc ⟨x, none⟩ z
/-- what is known of such a class -/
structure XCls (K : PySem.W.Frag) (mg : Str → Option Value) (x : Str) (C : Addr) : Prop where
  exc : ∃ (B newId initId : String) (bmB : List Value), ExcBaseFacts B newId initId bmB ∧ PySem.W.excIn K C bmB newId = true
  glob : mg x = some (.ref C)
  keep : PySem.W.keepIn K (.ref C) = true
  sub : PySem.W.subIn K (.ref C) (.type "BaseException") = some true
  ty : PySem.W.typeIn K (.ref C) = some (.type "type")
section
variable {X : L2.Cx} {T : Tb} {E : XK} {x m : Str} {C : Addr} {j : Nat} {p p2 pos pos' : Pos}
end
section
variable {P : Program} {w : World} {K : PySem.W.Frag} {mg : Str → Option Value} {base : Heap} {T : Tb} {N : List Str} {qual : Str} {scope : Scope} {f : Addr} {cd : Value} {A : Around} {outer : List Env} {s : Shared} {H : Hp} {E : XK}
end
end DL
set_option Elab.async false
set_option linter.all false
set_option maxRecDepth 100000
set_option maxHeartbeats 2000000
namespace DL
open PySem PySem.Spec PyProof.Rows L2 LamX

/-- the lambda's names: its parameters (not known to the def around), captured ones, globals -/
structure LamD (N : List Str) (sc scope : Scope) (bs : List Str) : Prop where
  kind : scope.kind = .function
  co : scope.isCoroutine = false
  gen : scope.isGenerator = false
  cell : ∀ y ∈ scope.names, y.2 ≠ .cell
  own : ∀ y ∈ scope.names, y.2 = .local → y.1 ∉ N
  free : ∀ y ∈ scope.names, y.2 = .free → sc.names.lookup y.1 = some .cell ∨ sc.names.lookup y.1 = some .free
  loc : ∀ b ∈ bs, scope.names.lookup b = some .local
theorem LamD.has {X : L2.Cx} {scope : Scope} {bs : List Str} (L : LamD X.N X.env.scope scope bs) (ok : X.Ok) : ∀ y ∈ scope.names, y.2 = .free → ∃ c, X.env.cells.lookup y.1 = some c := fun y hy e => by
  rcases L.free y hy e with k | k
  · exact ok.has _ (.inl k)
  · exact ok.has _ (.inr k)
abbrev lamO (X : L2.Cx) (params : Arguments) (body : Expr) (scope : Scope) (dV doc pm : Value) (c' : Addr) (ctv : Value) : Obj := PySem.W.kdv_obj "<lambda>" (X.env.qual ++ "<lambda>") params (.expr body) scope (cloFrom X.env.cells scope.names []) dV doc pm c' ctv
abbrev lamF (X : L2.Cx) (params : Arguments) (body : Expr) (scope : Scope) (dV doc pm : Value) (c' : Addr) (ctv : Value) : FuncData := PySem.W.kdv_fn "<lambda>" (X.env.qual ++ "<lambda>") params (.expr body) scope (cloFrom X.env.cells scope.names []) dV doc pm (.ref c') ctv
section
variable {X : L2.Cx} {pins : List (Addr × Obj)} {σ : L2.St} {H HZ : Hp} {s s1 : Shared}
end
end DL
set_option Elab.async false
set_option linter.all false
set_option maxRecDepth 100000
set_option maxHeartbeats 2000000
namespace DL
open PySem PySem.Spec PyProof.Rows L2 LamX

/-- its parameters: none, or one with a number for default -/
inductive DefK (X : L2.Cx) (params : Arguments) (body : Expr) (scope : Scope) : List Str → Prop
  | no (hdef : defaultsOf params X.env = ([], [])) (hb : ∀ (doc pm : Value) (c' : Addr) (ctv : Value), bindArgs (lamF X params body scope .none doc pm c' ctv) ⟨[], []⟩ = pure []) : DefK X params body scope []
  | one (a : Str) (i : Int) (j : Nat) (p : Pos) (hd : params.defaults = [.Constant (.int i) j p]) (hk : params.kw_defaults = [])
      (hb : ∀ (t : Addr) (doc pm : Value) (c' : Addr) (ctv u : Value), ∃ k, bindArgs (lamF X params body scope (.ref t) doc pm c' ctv) ⟨[], []⟩ = seqItems? (.ref t) >>= k ∧ k (some [u].toArray) = pure [(a, u)]) : DefK X params body scope [a]
section
variable {X : L2.Cx} {pins : List (Addr × Obj)} {σ : L2.St} {H HZ : Hp} {s s1 : Shared}
abbrev lamE (X : L2.Cx) (scope : Scope) (L f c' : Addr) : Env := PySem.W.envX (X.env.qual ++ "<lambda>") scope L f (.ref c') (cloFrom X.env.cells scope.names [])
end
end DL
set_option Elab.async false
set_option linter.all false
set_option maxRecDepth 100000
set_option maxHeartbeats 2000000
namespace DL
open PySem PySem.Spec PyProof.Rows L2 LamX

section
variable {X : L2.Cx} {pins : List (Addr × Obj)} {σ : L2.St} {H HZ : Hp} {s s1 : Shared}
/-- x(lambda: body) -/
def tLam3 (T : List (Addr × Str)) (P : Addr) (TT : (XK → Hp → VK → Prop) → Hp → VK → Prop) (t : XK → TE) : TE := fun σ H Q => Tabs T H ∧ ∀ H1, (∀ b o, b ≠ P → H b = some o → H1 b = some o) → (∃ ps, H1 P = some (.tbl ps)) → Tabs T H1 → TT (fun E H' Q' => t E σ H' Q') H1 Q
end

def noOwn (ρ : EnD) : Bool := ρ.all fun o => match o with
  | some (.own _) => false
  | _ => true
/-- the word of what was raised, or the empty word -/
def eTold (W : Str → Option (List Nat)) (f : EnD → M D) : EnD → M D := fun ρ z => if noOwn ρ then match f ρ z with
  | .ok _ z' => .ok (.str []) z'
  | .exc ⟨x, none⟩ z' => match W x with
    | some w => .ok (.str w) z'
    | none => .bad
  | _ => .bad else .bad
/-- what the def that tells does with the lambda -/
def TTell (mg : Str → Option Value) (W : Str → Option (List Nat)) : (XK → Hp → VK → Prop) → Hp → VK → Prop := fun tl H Q =>
  tl (fun cls d H' => d = none ∧ ∃ x c w, mg x = some (.ref c) ∧ cls = .ref c ∧ W x = some w ∧ Q (.str (ST w)) H') H fun _ H' => Q (.str (ST [])) H'
section
variable {X : L2.Cx} {T : Tb} {E : XK}
end
end DL
set_option Elab.async false
set_option linter.all false
set_option maxRecDepth 100000
set_option maxHeartbeats 2000000
namespace DL
open PySem PySem.Spec PyProof.Rows L2 LamX

/-- an own class whose errors are told: caught by CV; asked whether it is one of CN, CI -/
structure TCls (K : PySem.W.Frag) (CV CN CI c : Addr) (b1 b2 : Bool) : Prop where
  exc : ExcC K c
  caught : PySem.W.exmOne K (.ref c) (.ref CV) = some true
  one : PySem.W.kitOne K (.ref c) (.ref CN) = some b1
  two : PySem.W.kitOne K (.ref c) (.ref CI) = some b2
section
variable {X : L2.Cx}
end
end DL
set_option Elab.async false
set_option linter.all false
set_option maxRecDepth 100000
set_option maxHeartbeats 2000000
namespace DL
open PySem PySem.Spec PyProof.Rows L2 LamX

/-- the keys of a module's dict, all of them -/
structure KKeys (K : PySem.W.Frag) (w : World) (a : Addr) (ks : List (List Nat)) : Prop where
  ex : ∃ es n, KDict K w a es n ∧ ∀ z : List Nat, ∃ r, PySem.W.nsIn K a (ST z) = some r ∧ r.isSome = ks.any fun k => decide (k = z)
inductive KeysAre : List DictEntry → List (List Nat) → Prop
  | nil : KeysAre [] []
  | cons {e : DictEntry} {k : List Nat} {l : List DictEntry} {ks : List (List Nat)} : (∃ t, e.key = .str (ST k) t) → KeysAre l ks → KeysAre (e :: l) (k :: ks)
def inK (ks : List (List Nat)) : D → Option D
  | .str z => some (.bl (ks.any fun k => decide (k = z)))
  | _ => none
def mulS : D → D → Option D
  | .str a, .int n => if 2 ≤ n ∧ n ≤ 1000 ∧ 1 ≤ a.length ∧ a.length ≤ 1000 then some (.str (List.replicate n.toNat a).flatten) else none
  | _, _ => none
section
variable {X : L2.Cx} {T : Tb} {E : XK} {b : Expr} {fb : EnD → M D} {pos p px : Pos} {x : Str} {σ : L2.St} {H : Hp} {Q : VK}
theorem fold_flat (n : Nat) (a : Array Nat) : ∀ acc : Array Nat, (List.replicate n a).foldl (· ++ ·) acc = acc ++ ((List.replicate n a.toList).flatten).toArray := by
  induction n with
  | zero => intro acc; simp
  | succ n ih =>
    intro acc
    rw [List.replicate_succ, List.foldl_cons, ih, List.replicate_succ, List.flatten_cons]
    apply Array.toList_inj.mp
    simp
end
end DL
set_option Elab.async false
set_option linter.all false
set_option maxRecDepth 100000
set_option maxHeartbeats 1000000
namespace DL
open PySem PySem.Spec PyProof.Rows L2

def eLstR (f : EnD → M D) : EnD → M D := fun ρ => mbind (f ρ) fun d => mbind (mopt (asI d)) fun n => if 0 ≤ n ∧ n ≤ 1000 then mpure (.lst (rangeD 0 n.toNat)) else mbad
def mulT : D → D → Option D
  | .str a, .int n => if 0 ≤ n ∧ n ≤ 1000 ∧ a.length ≤ 1000 then some (.str (List.replicate n.toNat a).flatten) else none
  | _, _ => none
theorem rng_rs {K : PySem.W.Frag} {H : Hp} {R : Addr} {B : Addr → Prop} (n : Int) (h : 0 ≤ n) : Rs K H R B (rgV 0 n) (rangeD 0 n.toNat) := by
  have g : ∀ l : List Nat, Rs K H R B (l.map fun i => V.int (0 + (i : Nat))) (l.map fun (i : Nat) => D.int (0 + (i : Int))) := by
    intro l
    induction l with
    | nil => exact .nil
    | cons i l ih => exact .atom .int ih
  unfold rgV rangeD
  rw [show n - 0 = n by omega]
  exact g _
section
variable {X : L2.Cx} {T : Tb} {E : XK} {a : Expr} {fa : EnD → M D} {p p2 q pos : Pos}
theorem pu_lstR (hc : X.calm = true) (hg : Gl X "list") (hm : X.mg "list" = none) (hg2 : Gl X "range") (hm2 : X.mg "range" = none) (ha : PE X a (tD (yx X T E) fa))
    (na : starEach [a] X.env = (false, eval a X.env) :: starEach [] X.env := by rfl) (nb : starEach [.Call (.Name "range" p2) [a] [] q] X.env = (false, eval (.Call (.Name "range" p2) [a] [] q) X.env) :: starEach [] X.env := by rfl) :
    PE X (.Call (.Name "list" p) [.Call (.Name "range" p2) [a] [] q] [] pos) (tD (yx X T E) (eLstR fa)) :=
  PE_imp (pe_listRg hc hg hm (prg_1 hg2 hm2 ha na) nb) fun σ H Q h => by
    obtain ⟨g, ρ, z, st, a⟩ := h
    refine ⟨g, ρ, z, st, a.bind.imp fun d z1 _ h1 v H1 st1 e1 rv => ?_⟩
    obtain ⟨n, hn, h2⟩ := h1.bind.opt
    obtain rfl : d = .int n := by cases d <;> simp_all [asI]
    cases rv.int
    by_cases c : 0 ≤ n ∧ n ≤ 1000
    case neg => rw [if_neg c] at h2; exact h2.elim
    rw [if_pos c] at h2
    exact ⟨n, rfl, .of_le (by omega) (by omega) (by omega) (by omega), fun q hq => h2.pure _ _ (st1.new hq) (e1.trans (.new hq)) (st1.lst hq (rng_rs n c.1))⟩
end
section
variable {X : L2.Cx} {T : Tb} {E : XK}
theorem op_mulT : OpR X (binaryOp .Mult) (fun x y H Q => ∃ (a : List Nat) (n : Int), x = .str (ST a) ∧ y = .int n ∧ 0 ≤ n ∧ n ≤ 1000 ∧ a.length ≤ 1000 ∧ Q (.str (ST (List.replicate n.toNat a).flatten)) H) := by
  intro pins s σ H x y v u Q I rx ry h
  obtain ⟨a, n, rfl, rfl, n2, n3, a2, q⟩ := h
  obtain ⟨t, rfl⟩ := rx
  obtain ⟨t2, rfl⟩ := ry
  have hl : (ST a).length = a.length := ST_len a
  have hsz : (ST a).length * n.toNat ≤ 1000000 := by
    rw [hl]
    exact Nat.le_trans (Nat.mul_le_mul a2 (show n.toNat ≤ 1000 by omega)) (by decide)
  refine SB.mul (x := ST a) (n := n) ⟨?_, fun g _ => ?_, fun _ _ => ?_⟩ fun t' k => ?_
  · rw [decide_eq_false (by omega), decide_eq_false (by omega)]; rfl
  · rw [hl]
    have : (a.length : Int) ≤ (2 ^ 63 - 1) / n := by
      rw [Int.le_ediv_iff_mul_le (by omega)]
      have : (a.length : Int) * n ≤ 1000 * 1000 := Int.mul_le_mul (by omega) n3 (by omega) (by omega)
      omega
    omega
  · unfold Builtin.Str.tooLong
    rw [decide_eq_false_iff_not, sizeLine_eq]
    omega
  · have e : Txt.mul (ST a) n = ST (List.replicate n.toNat a).flatten := by
      unfold Txt.mul
      by_cases h1 : n < 1
      · rw [if_pos h1, show n.toNat = 0 by omega]; rfl
      · rw [if_neg h1]
        by_cases h2 : (n == 1 || (ST a).length == 0) = true
        · rw [if_pos h2]
          rcases (Bool.or_eq_true _ _).mp h2 with z | z
          · have : n = 1 := by simpa using z
            subst this
            simp
          · have : a.length = 0 := by rw [hl] at z; simpa using z
            have : a = [] := List.length_eq_zero_iff.mp this
            subst this
            congr 1
            simp
        · rw [if_neg h2]
          unfold ST
          rw [fold_flat]
          simp
    rw [e]
    exact ⟨.str _, H, I.tok _, ⟨_, rfl⟩, q⟩
theorem od_mulT : OpD X T E (binaryOp .Mult) (op2 mulT) := opD_flat fun H R B v w d e r Q rv rw' h q => by
  unfold mulT at h
  split at h
  · split at h
    · rename_i c; cases h; cases rv.str; cases rw'.int; exact ⟨_, op_mulT, _, _, rfl, rfl, c.1, c.2.1, c.2.2, q _ .str⟩
    · cases h
  · cases h
end
end DL
set_option Elab.async false
set_option linter.all false
set_option maxRecDepth 100000
set_option maxHeartbeats 1000000
namespace DL
open PySem PySem.Spec PyProof.Rows L2

section
variable {X : L2.Cx}
end
section
variable {X : L2.Cx} {T : Tb} {E : XK} {fz : EnD → M (List (D × D))} {fi fi1 : EnD → M (List D)} {t : EnD → M Bool} {f : EnD → M D} {fv : EnD → M D} {elt kx vx ea eb iter iter1 tg tg1 : Expr} {ifs1 : List Expr} {scope : Scope} {pos spos py : Pos} {x y v : Str} {i j n k : Nat} {hs : List Key → Int} {sp : SetSp}
end
/-- the hashes, whatever the program is -/
def hsW (w : World) : List Key → Int := fun k => reduceHash (Builtin.Tuple.tupleHashOf (k.map (keyH w)))
def spW (w : World) : SetSp := ⟨fun k => reduceHash (Builtin.Tuple.tupleHashOf (k.map (intKind default w).hash)), w.params.followText "set-order"⟩
end DL
set_option Elab.async false
set_option linter.all false
set_option maxRecDepth 100000
set_option maxHeartbeats 4000000
namespace DL
open PySem PySem.Spec PyProof.Rows L2
def sNewQ (i j : Nat) (f : EnD → M D) : SM := fun ρ z => obind (mne (f ρ) z) fun d z' => if ownAt ρ i = false ∧ ownAt ρ j = false ∧ j < ρ.length ∧ i ≠ j then .nx ((ρ.set i (some (.val d))).set j (some (.own (.dS [])))) z' else .bad
section
variable {X : L2.Cx} {T : Tb} {E : XK} {e : Expr} {f : EnD → M D} {i j : Nat} {B : SM} {rest : List Stmt} {pos px py pt dpos : Pos} {x y : Str}
end
/-- the parts of a text -/
def spl (c : Nat) (z : List Nat) : List (List Nat) := (Txt.split (ST z) (ST [c])).map fun s => s.cps.toList
def splitS (z : List Nat) : D → Option D
  | .str [c] => if z.length ≤ 1000 then some (.lst ((spl c z).map .str)) else none
  | _ => none
section
variable {X : L2.Cx} {T : Tb} {E : XK}
end
end DL
set_option Elab.async false
set_option linter.all false
set_option maxRecDepth 100000
set_option maxHeartbeats 1000000
namespace DL
open PySem PySem.Spec PyProof.Rows L2

section
variable {K : PySem.W.Frag} {T : Tb} {g : G} {H H' : Hp} {z : S}
end

def lzD : D → D → Option D
  | .lst xs, .str z => if z.length = xs.length ∧ 0 < xs.length ∧ (z.all fun c => decide (c < 128)) = true then some (.lst ((xs.zip z).map fun p => .tup [p.1, .str [p.2]])) else none
  | _, _ => none
section
variable {X : L2.Cx} {T : Tb} {E : XK} {a b : Expr} {fa fb : EnD → M D} {pos p1 p2 q1 p : Pos} {x : Str}
def pairK : D → Option (List Nat × D)
  | .tup [.str k, d] => some (k, d)
  | _ => none
def dictD : D → Option D
  | .lst xs => (xs.mapM pairK).map fun kds => .dS (putAll [] kds)
  | _ => none
def repW : D → D → Option D
  | .tup xs, .int k => if xs ≠ [] ∧ 2 ≤ k ∧ k ≤ 1000 ∧ xs.length ≤ 1000 then some (.wt (List.replicate k.toNat xs).flatten) else none
  | _, _ => none
def addW : D → D → Option D
  | .wt xs, .tup ys => if xs.length + ys.length ≤ 10000 ∧ xs ≠ [] ∧ ys ≠ [] then some (.tup (xs ++ ys)) else none
  | _, _ => none
end
end DL
set_option Elab.async false
set_option linter.all false
set_option maxRecDepth 100000
set_option maxHeartbeats 2000000
namespace DL
open PySem PySem.Spec PyProof.Rows L2

/-- a caught class: caught by CV, asked whether it is CN -/
structure TOne (K : PySem.W.Frag) (CV CN c : Addr) : Prop where
  exc : ExcC K c
  caught : PySem.W.exmOne K (.ref c) (.ref CV) = some true
  one : PySem.W.kitOne K (.ref c) (.ref CN) = some true
def sTryIs (i : Nat) (W : Str → Bool) (F : List D → M D) (fs : List (EnD → M D)) (gg : EnD → M D) : SM := fun ρ z => if noOwn ρ = true ∧ i < ρ.length then
    match evs fs ρ z with
    | .ok ds z1 => match F ds z1 with
      | .ok _ z' => .nx ρ z'
      | .exc ⟨x, none⟩ z' => if W x = true then (match gg (ρ.set i none) z' with | .ok d z2 => .rt d z2 | _ => .bad) else .bad
      | _ => .bad
    | _ => .bad
  else .bad
section
variable {X : L2.Cx} {T : Tb} {E : XK}
end
end DL
set_option Elab.async false
set_option linter.all false
set_option maxRecDepth 100000
set_option maxHeartbeats 1000000
namespace DL
open PySem PySem.Spec PyProof.Rows L2 CMB

def cmb {α : Type} : Nat → List α → List (List α)
  | 0, _ => [[]]
  | _ + 1, [] => []
  | r + 1, x :: xs => (cmb r xs).map (x :: ·) ++ cmb (r + 1) xs
theorem cmb_map {α β : Type} (f : α → β) : ∀ (r : Nat) (xs : List α), cmb r (xs.map f) = (cmb r xs).map fun l => l.map f
  | 0, xs => by cases xs <;> rfl
  | r + 1, [] => rfl
  | r + 1, x :: xs => by
    rw [List.map_cons]
    unfold cmb
    rw [cmb_map f r xs, cmb_map f (r + 1) xs, List.map_append, List.map_map, List.map_map]
    rfl
def chk (n r : Nat) : List (List Nat) → Bool
  | [] => true
  | [a] => a.length == r && decide (nxtC n a = none)
  | a :: b :: l => a.length == r && decide (nxtC n a = some b) && chk n r (b :: l)
theorem chk_next {n r : Nat} : ∀ {L : List (List Nat)}, chk n r L = true → ∀ i a, L[i]? = some a → a.length = r ∧ nxtC n a = L[i + 1]?
  | [], _, i, a, h => by simp at h
  | [b], hc, i, a, h => by
    unfold chk at hc
    rw [Bool.and_eq_true] at hc
    cases i with
    | zero => simp at h; subst h; exact ⟨eq_of_beq hc.1, by simpa using hc.2⟩
    | succ i => simp at h
  | b :: c :: l, hc, i, a, h => by
    unfold chk at hc
    rw [Bool.and_eq_true, Bool.and_eq_true] at hc
    cases i with
    | zero => simp at h; subst h; exact ⟨eq_of_beq hc.1.1, by simpa using hc.1.2⟩
    | succ i => exact chk_next hc.2 i a (by simpa using h)
theorem seq_all : ∀ n, n < 11 → ∀ r, r < 11 → ((if n < r then decide (cmb r (List.range n) = []) else decide ((cmb r (List.range n))[0]? = some (List.range r))) && chk n r (cmb r (List.range n))) = true := by decide +kernel
theorem seqC_ok {n r : Nat} (hn : n ≤ 10) (hr : r ≤ 10) : SeqC n r (cmb r (List.range n)) := by
  have h := seq_all n (by omega) r (by omega)
  rw [Bool.and_eq_true] at h
  obtain ⟨h1, h2⟩ := h
  refine ⟨fun c => ?_, fun c => ?_, chk_next h2⟩
  · rw [if_pos c] at h1; simpa using h1
  · rw [if_neg (by omega)] at h1; simpa using h1
def rowD (ds : List D) (idx : List Nat) : List D := idx.map fun i => ds.getD i .non
theorem range_getD (ds : List D) : (List.range ds.length).map (fun i => ds.getD i .non) = ds := by
  apply List.ext_getElem?
  intro i
  rw [List.getElem?_map]
  by_cases h : i < ds.length
  · rw [List.getElem?_range h, List.getElem?_eq_getElem h, Option.map_some, List.getD_eq_getElem?_getD, List.getElem?_eq_getElem h]; rfl
  · rw [List.getElem?_eq_none (by simpa using Nat.le_of_not_lt h), List.getElem?_eq_none (Nat.le_of_not_lt h)]; rfl
theorem cmb_rows (r : Nat) (ds : List D) : cmb r ds = (cmb r (List.range ds.length)).map (rowD ds) := by
  conv => lhs; rw [← range_getD ds]
  rw [cmb_map]
  rfl
theorem rs_getD {K : PySem.W.Frag} {H : Hp} {R : Addr} {B : Addr → Prop} : ∀ {us : List V} {ds : List D}, Rs K H R B us ds → ∀ i, R1 K H R B (us.getD i .non) (ds.getD i .non)
  | [], ds, h, i => by cases h; simp; exact .atom .non .nil
  | u :: us, [], h, i => by cases h
  | u :: us, d :: ds, h, 0 => by simpa using h.split.1
  | u :: us, d :: ds, h, i + 1 => by simpa using rs_getD h.split.2 i
theorem rs_row {K : PySem.W.Frag} {H : Hp} {R : Addr} {B : Addr → Prop} {us : List V} {ds : List D} (h : Rs K H R B us ds) : ∀ idx : List Nat, Rs K H R B (rowV us idx) (rowD ds idx)
  | [] => .nil
  | i :: idx => Rs.cons (rs_getD h i) (rs_row h idx)

/-- an iterator that hands out new tuples -/
structure ItN (K : PySem.W.Frag) (R : Addr) (B : Addr → Prop) (H1 : Hp) (J : It) (xs : List (List D)) : Prop where
  go : ∀ i H, RdLe B H1 H → i < xs.length → J.go i H
  yld : ∀ i H x H', RdLe B H1 H → i < xs.length → J.yld i H x H' → ∃ p ob us ds, x = .ref p ∧ H p = none ∧ H' = upd H p (.frz ob (.tup us)) ∧ ob.dict = none ∧ xs[i]? = some ds ∧ Rs K H R (plus K H1 B) us ds
  stop : ∀ i H, RdLe B H1 H → xs.length ≤ i → J.stop i H
def tiN (Y : Yx) (f : EnD → M (List (List D))) : TI := fun σ H R => ∃ g ρ z, StR Y g H σ ρ z ∧ After Y g (f ρ z) fun xs z' => ∀ J H1, StR Y g H1 σ ρ z' → Ext g.R H H1 → ItN Y.K g.R (bad g σ ρ) H1 J xs → R J H1
def cmbD : D → D → Option (List (List D))
  | .lst xs, .int r => if 0 ≤ r ∧ r ≤ 10 ∧ xs.length ≤ 10 then some (cmb r.toNat xs) else none
  | _, _ => none
def iCmb (fa fb : EnD → M D) : EnD → M (List (List D)) := fun ρ => mbind (fa ρ) fun d => mbind (fb ρ) fun e => mopt (cmbD d e)
def sForN (i : Nat) (xs : EnD → M (List (List D))) (body : SM) : SM := fun ρ z => obind (xs ρ z) fun l z' => forD i body (l.map .tup) ρ z'
theorem itn_comb {K : PySem.W.Frag} {R : Addr} {B : Addr → Prop} {H1 : Hp} {us : List V} {ds : List D} {L : List (List Nat)} (r : Rs K H1 R B us ds) : ItN K R B H1 (ItC (L.map (rowV us))) (L.map (rowD ds)) where
  go := fun i H rd hi => by rw [List.length_map] at hi; show i < _; rw [List.length_map]; exact hi
  yld := fun i H x H' rd hi hy => by
    obtain ⟨p, ob, row, h1, h2, h3, h4, h5⟩ := hy
    rw [List.getElem?_map, Option.map_eq_some_iff] at h1
    obtain ⟨idx, e1, e2⟩ := h1
    subst e2
    exact ⟨p, ob, _, rowD ds idx, h2, h3, h4, h5, by rw [List.getElem?_map, e1]; rfl, rs_row (r.dom.mono (rd.mono fun a z => .inl z)) idx⟩
  stop := fun i H rd hi => by rw [List.length_map] at hi; show _ ≤ i; rw [List.length_map]; exact hi
section
variable {X : L2.Cx} {T : Tb} {E : XK} {a b tg iter : Expr} {fa fb : EnD → M D} {B : SM} {fi : EnD → M (List (List D))} {pos p : Pos} {x : Str} {i : Nat}
theorem pu_iCmb (hg : Gl X x) (hm : X.mg x = some (.type "itertools.combinations")) (ha : PE X a (tD (yx X T E) fa)) (hb : PE X b (tD (yx X T E) fb)) (hdb : (x == ("__debug__" : Str)) = false := by decide)
    (hs1 : starEach [a, b] X.env = (false, eval a X.env) :: starEach [b] X.env := by rfl) (hs2 : starEach [b] X.env = (false, eval b X.env) :: starEach [] X.env := by rfl) (hpl : (backTo pos (starEach [b] X.env)).any (·.1) = false := by rfl) :
    PI X tg (.Call (.Name x p) [a, b] [] pos) (tiN (yx X T E) (iCmb fa fb)) := PI_imp (pi_comb hg hm (pa_cons ha (pa_cons hb pa_nil hs2) hs1) hdb hs1 hpl) fun σ H R h => by
  obtain ⟨g, ρ, z, st, h⟩ := h
  refine ⟨g, ρ, z, st, h.bind.imp fun d z1 _ h1 v H1 st1 e1 r1 => ⟨g, ρ, z1, st1, h1.bind.imp fun e z2 _ h2 w H2 st2 e2 r2 => ?_⟩⟩
  obtain ⟨ps, hp, q⟩ := h2.opt
  unfold cmbD at hp
  split at hp
  · rename_i xs r _ _
    rw [Option.ite_none_right_eq_some] at hp
    obtain ⟨⟨c0, c1, c2⟩, hp⟩ := hp
    cases hp
    obtain ⟨ad, us, rfl, hd, nb, rs⟩ := R1.list (r1.mono (e2.rd st1.badR))
    cases r2.int
    have lu := rs.length
    refine ⟨ad, us, r, cmb r.toNat (List.range xs.length), rfl, .inl (.inl hd), c0, by omega, by rw [lu]; exact seqC_ok c2 (by omega), ?_⟩
    refine q _ H2 st2 (e1.trans e2) ?_
    rw [cmb_rows]
    exact itn_comb rs
  · cases hp
theorem pu_forN {body : List Stmt} (hp : PassesOwn (model X.prog X.w) X.A X.env X.xe) (hc : X.calm = true) (hi : PI X tg iter (tiN (yx X T E) fi)) (hg : PG X tg (gName i)) (hb : PSs X body (sD (yx X T E) B)) (hs : ∀ x, foldedSetIterable iter X.env x = pure x := by intro _; rfl) :
    PS X (.For tg iter body [] pos) (sD (yx X T E) (sForN i fi B)) := PS_imp (ps_for hp hc hi hg hb hs) fun Dn σ H h => by
  obtain ⟨g, ρ, z, st, o⟩ := h
  refine ⟨g, ρ, z, st, o.bind.imp fun l z1 _ h1 J H1 st1 e1 it => ?_⟩
  refine ⟨fun n m σ' H' => ∃ ρ' z', n + m = l.length ∧ StR (yx X T E) g H' σ' ρ' z' ∧ Stp g.R σ ρ H1 σ' ρ' H' ∧ OutOk (yx X T E) g σ' ρ' H' (forD i B ((l.map D.tup).drop n) ρ' z') Dn,
    ⟨l.length, ρ, z1, Nat.zero_add _, st1, .refl, by rw [List.drop_zero]; exact OutOk.rebase h1 (.ext e1)⟩, ?_⟩
  rintro n m σ' H' ⟨ρ', z', hm, st', sp, o'⟩
  have rdl : RdLe (bad g σ ρ) H1 H' := by
    have ne : ∀ a, ¬ bad g σ ρ a → a ≠ g.R ∧ ¬ Own σ ρ a := fun a n => ⟨fun e => n (by rw [e]; exact st1.badR), fun q => n (.inr q)⟩
    refine ⟨fun a u n du r => ?_, fun a ob us n q => sp.keep a _ q (ne a n).1 (ne a n).2 (fun ps z => by cases z), fun a us n q => sp.keep a _ q (ne a n).1 (ne a n).2 (fun ps z => by cases z)⟩
    rcases r with r | ⟨ob, r⟩
    · exact .inl (sp.keep a _ r (ne a n).1 (ne a n).2 (fun ps z => by rw [z] at du; exact du))
    · exact .inr ⟨ob, sp.keep a _ r (ne a n).1 (ne a n).2 (fun ps z => by cases z)⟩
  by_cases hn : n < l.length
  · obtain ⟨xd, hxd⟩ : ∃ xd, l[n]? = some xd := ⟨_, List.getElem?_eq_getElem hn⟩
    have edrop : (l.map D.tup).drop n = D.tup xd :: (l.map D.tup).drop (n + 1) := by
      rw [List.drop_eq_getElem_cons (by rw [List.length_map]; exact hn), List.getElem_map]
      rw [List.getElem?_eq_getElem hn] at hxd
      cases hxd
      rfl
    rw [edrop] at o'
    unfold forD at o'
    cases co : ownAt ρ' i with
    | true => rw [co] at o'; exact o'.elim
    | false =>
      rw [co] at o'
      simp only [Bool.false_eq_true, if_false] at o'
      refine .inr ⟨it.go n H' rdl hn, _, fun σ'' H'' hW => ⟨m - 1, by omega, hW⟩, fun xv H'' hy => ?_⟩
      obtain ⟨p, ob, us, ds, rfl, hpn, rfl, hod, hd, rx⟩ := it.yld n H' xv H'' rdl hn hy
      rw [hxd] at hd
      cases hd
      have sub : ∀ a, bad g σ' ρ' a → plus X.K H1 (bad g σ ρ) a := fun a q => by
        have hk := st'.badK q
        rcases q with q | q
        · exact .inl (.inl q)
        · rcases sp.own a q with q | q
          · exact .inl (.inr q)
          · exact .inr ⟨q, hk⟩
      have s2 := (st'.new (o := .frz ob (.tup us)) hpn).setv co (st'.tup hpn hod (rx.less sub))
      have sp2 : Stp g.R σ' ρ' H' (σ'.set i (some (.ref p))) (ρ'.set i (some (.val (.tup xd)))) (upd H' p (.frz ob (.tup us))) := (Stp.ext (.new hpn)).trans (.setv co trivial)
      refine ⟨g, ρ'.set i (some (.val (.tup xd))), z', s2, ?_⟩
      cases e : B (ρ'.set i (some (.val (.tup xd)))) z' with
      | nx ρ3 z3 =>
        rw [e] at o'
        exact fun σ3 H3 st3 s3 => ⟨ρ3, z3, by omega, st3, sp.trans (sp2.trans s3), OutOk.rebase o' (sp2.trans s3)⟩
      | ct ρ3 z3 =>
        rw [e] at o'
        exact fun σ3 H3 st3 s3 => ⟨ρ3, z3, by omega, st3, sp.trans (sp2.trans s3), OutOk.rebase o' (sp2.trans s3)⟩
      | bk ρ3 z3 =>
        rw [e] at o'
        exact fun σ3 H3 st3 s3 => o' σ3 H3 st3 (sp2.trans s3)
      | rt d z3 => rw [e] at o'; exact o'
      | exc x z3 => rw [e] at o'; exact o'
      | bad => rw [e] at o'; exact o'
  · refine .inl ⟨it.stop n H' rdl (by omega), ?_⟩
    rw [List.drop_of_length_le (by rw [List.length_map]; omega)] at o'
    exact o' σ' H' st' .refl
end
end DL
set_option Elab.async false
set_option linter.all false
set_option maxRecDepth 100000
set_option maxHeartbeats 1000000
namespace DL
open PySem PySem.Spec PyProof.Rows L2

mutual
/-- no list, no dict within -/
def noL : D → Bool
  | .lst _ => false
  | .dS _ => false
  | .dT _ _ => false
  | .st _ _ => false
  | .tup xs => noLs xs
  | .wt xs => noLs xs
  | _ => true
def noLs : List D → Bool
  | [] => true
  | x :: xs => noL x && noLs xs
end
def eFrzL (i : Nat) (f : EnD → M D) : EnD → M D := fun ρ => mbind (mopt (ownL ρ i)) fun ds => mbind (f (ρ.set i (some (.val (.lst ds))))) fun r => if noL r then mpure r else mbad
section
variable {Y : Yx} {g : G} {H H' : Hp} {σ : L2.St} {ρ : EnD} {z z' : S} {i : Nat} {a : Addr} {ds : List D}
theorem StR.unfrzL (st : StR Y g H σ ρ z) (st' : StR Y g H' σ (ρ.set i (some (.val (.lst ds)))) z') (e : Ext g.R H H') : StR Y g H' σ ρ z' := by
  obtain ⟨⟨SA, s1, s2, s3⟩, ht, hb, hdm, hkn, hla, hdi⟩ := st'.wo
  obtain ⟨SB, t1, _, t3⟩ := st.wo.row
  obtain ⟨ys, t4⟩ := e.row _ _ t3
  have es : SA = SB := by
    have s3 : H' g.R = _ := s3
    rw [s3] at t4
    simp only [Option.some.injEq, HO.lst.injEq, List.cons.injEq, V.ref.injEq] at t4
    exact t4.1
  subst es
  exact st.step e ⟨⟨SA, t1, s2, s3⟩, ht, st.badR, fun b q => e.dom b (st.badDom q), fun b q => st.badK q, hla, hdi⟩
theorem Rs.unfrzL {K : PySem.W.Frag} {R : Addr} {B B' : Addr → Prop} {ws : List V} (hd : H a = some (.lst ws)) (hk : K.lookup a = none) (hb : ∀ b, B b → B' b ∨ b = a) {vs : List V} {ds : List D} (h : Rs K H R B' vs ds) (n : noLs ds = true) : Rs K H R B vs ds := by
  induction h with
  | nil => exact .nil
  | atom a _ ih =>
    simp only [noLs, Bool.and_eq_true] at n
    exact .atom a (ih n.2)
  | @tup b us vs es ds s nb _ _ ih1 ih2 =>
    simp only [noLs, noL, Bool.and_eq_true] at n
    have ne : b ≠ a := fun e => by
      subst e
      rcases s with ⟨o, s, _⟩ | ⟨o, its, m, s, _⟩
      · rw [hd] at s; cases s
      · rw [hk] at s; cases s
    exact .tup s (fun q => (hb _ q).elim nb ne) (ih1 n.1) (ih2 n.2)
  | @wt b us vs es ds s nb _ _ ih1 ih2 =>
    simp only [noLs, noL, Bool.and_eq_true] at n
    have ne : b ≠ a := fun e => by
      subst e
      rcases s with (s | ⟨o, s⟩) | ⟨o, its, m, s, _⟩
      · rw [hd] at s; cases s
      · rw [hd] at s; cases s
      · rw [hk] at s; cases s
    exact .wt s (fun q => (hb _ q).elim nb ne) (ih1 n.1) (ih2 n.2)
  | lst _ _ _ _ _ => simp [noLs, noL] at n
  | dS _ _ _ _ _ => simp [noLs, noL] at n
  | dT _ _ _ _ _ _ => simp [noLs, noL] at n
  | st _ _ _ _ _ => simp [noLs, noL] at n
end
section
variable {X : L2.Cx} {T : Tb} {E : XK} {e : Expr} {f : EnD → M D} {i : Nat}
theorem pu_frzL (he : PE X e (tD (yx X T E) f)) : PE X e (tD (yx X T E) (eFrzL i f)) := PE_imp he fun σ H Q h => by
  obtain ⟨g, ρ, z, st, h⟩ := h
  obtain ⟨ds, ho, h⟩ := h.bind.opt
  have hi := ownL_some ho
  obtain ⟨a, h1, nb, h0, hk, ws, hd, _⟩ := st.own i _ hi
  have hne : a ≠ g.R := fun q => nb (by rw [q]; exact st.gR)
  refine ⟨g, _, z, st.frzL hi, h.bind.imp fun r z1 _ h2 v H1 st1 e1 r1 => ?_⟩
  have hd1 := e1.keep a _ hd hne (fun ps q => by cases q)
  cases c : noL r with
  | false => rw [c] at h2; exact h2.elim
  | true =>
    rw [c] at h2
    exact h2 v H1 (st.unfrzL st1 e1) e1 (Rs.unfrzL hd1 hk (fun b q => bad_unfrz hi q h1) r1 (by simp [noLs, c]))
end
end DL
set_option Elab.async false
set_option linter.all false
set_option maxRecDepth 100000
set_option maxHeartbeats 1000000
namespace DL
open PySem PySem.Spec PyProof.Rows L2

/-- what is told of the dict that comes back -/
structure OwnRes (K : PySem.W.Frag) (T : Tb) (g : G) (H' : Hp) (a : Addr) (es : List (List Nat × D)) (z : S) : Prop where
  wo : Wo K T (gd g a) H' z
  ext : Ext g.R g.H0 H'
  fresh : g.H0 a = none
  kn : K.lookup a = none
  nb : ¬ g.B a
  own : OwnAt K H' g.R (fun b => g.B b ∨ b = a) a (.dS es)
def RetO (Y : Yx) (g : G) (o : Out) (j : Nat) (Dn : Ends) : Prop := match o with
  | .nx ρ' z' => ∃ es, ownD ρ' j = some es ∧ ∀ a H', OwnRes Y.K Y.T g H' a es z' → Dn.rt (.ref a) H'
  | _ => False
/-- a suite whose end hands back the own dict of slot j -/
def sDR (Y : Yx) (A : SM) (j : Nat) : TS := fun Dn σ H => ∃ g ρ z, StR Y g H σ ρ z ∧ RetO Y g (A ρ z) j Dn
/-- what such a def promises -/
def spO (K : PySem.W.Frag) (T : Tb) (mg : Str → Option Value) (n N : Nat) (A : SM) (j : Nat) : Sp := fun vs H Q E => vs.length = n ∧ ∃ g ds z, g.H0 = H ∧ Wo K T g H z ∧ Rs K H g.R g.B vs ds ∧
  ∃ ρ' z' es, A (rho0 N ds) z = .nx ρ' z' ∧ ownD ρ' j = some es ∧ ∀ a H', OwnRes K T g H' a es z' → Q (.ref a) H'
section
variable {Y : Yx} {g : G} {H : Hp} {σ : L2.St} {ρ : EnD} {z : S} {j : Nat}
theorem StR.ownRes {es : List (List Nat × D)} {a : Addr} (st : StR Y g H σ ρ z) (h : ownD ρ j = some es) (h1 : σ[j]? = some (some (.ref a))) : OwnRes Y.K Y.T g H a es z := by
  have hi := ownD_some h
  obtain ⟨b, e1, nb, h0, hk, oa⟩ := st.own j _ hi
  rw [h1] at e1
  cases e1
  have sub : ∀ b, (gd g a).B b → bad g σ ρ b := fun b q => q.elim .inl fun e => by rw [e]; exact .inr ⟨j, _, hi, h1⟩
  exact ⟨st.wo.less sub (.inl st.gR), st.ext, h0, hk, nb, oa.less sub⟩
end
section
variable {X : L2.Cx} {T : Tb} {E : XK} {st : Stmt} {rest : List Stmt} {A B : SM} {f : EnD → M D} {e : Expr} {pos px py pt dpos p2 : Pos} {i j : Nat} {x y : Str}
theorem pur_ret (hN : X.N[j]? = some x) (hv : Vis X.env.scope x) (hd : (x == ("__debug__" : Str)) = false := by decide) (hcd : (x == ("__classdict__" : Str)) = false := by decide) : PSs X [.Return (some (.Name x px)) pos] (sDR (yx X T E) sNil j) :=
  PSs_imp (pss_one (ps_ret (pe_var hN hv hd hcd))) fun Dn σ H h => by
    obtain ⟨g, ρ, z, st, es, ho, q⟩ := h
    obtain ⟨a, h1, _⟩ := st.own j _ (ownD_some ho)
    exact ⟨_, h1, q a H (st.ownRes ho h1)⟩
theorem pur_seq (h1 : PS X st (sD (yx X T E) A)) (h2 : PSs X rest (sDR (yx X T E) B j)) : PSs X (st :: rest) (sDR (yx X T E) (sSeq A B) j) := PSs_imp (pss_cons h1 h2) fun Dn σ H h => by
  obtain ⟨g, ρ, z, st, o⟩ := h
  refine ⟨g, ρ, z, st, ?_⟩
  unfold sSeq at o
  cases e : A ρ z with
  | nx ρ' z' => rw [e] at o; exact fun σ' H' st' s => ⟨g, ρ', z', st', o⟩
  | rt d z' => rw [e] at o; exact o.elim
  | bk ρ' z' => rw [e] at o; exact o.elim
  | ct ρ' z' => rw [e] at o; exact o.elim
  | exc x z' => rw [e] at o; exact o.elim
  | bad => rw [e] at o; exact o.elim
theorem pur_newP {kt : Nat} {k2} {pt2 : Pos} (hN : X.N.Nodup) (hi : X.N[i]? = some x) (hj : X.N[j]? = some y) (hx : X.env.scope.names.lookup x = some .local) (hy : X.env.scope.names.lookup y = some .local) (hij : i ≠ j) (he : PE X e (tD (yx X T E) f)) {l : Nat} (h2 : PSs X rest (sDR (yx X T E) B l))
    (hc : X.calm = true := by rfl) (hw : swappedStores [.Tuple [.Name x px, .Name y py] kt pt] (.Tuple [.Dict [] [] dpos, e] k2 pt2) X.env = pure (some [x, y]) := by rfl)
    (hst : starEach [.Dict [] [] dpos, e] X.env = (false, eval (.Dict [] [] dpos) X.env) :: starEach [e] X.env := by rfl) (hst2 : starEach [e] X.env = (false, eval e X.env) :: starEach [] X.env := by rfl)
    (hs : swapsWithSole [.Tuple [.Name x px, .Name y py] kt pt] (.Tuple [.Dict [] [] dpos, e] k2 pt2) pos.line X.env = pure false := by rfl) :
    PSs X (.Assign [.Tuple [.Name x px, .Name y py] kt pt] (.Tuple [.Dict [] [] dpos, e] k2 pt2) pos :: rest) (sDR (yx X T E) (sSeq (sNewP i j f) B) l) :=
  PSs_imp (pss_cons (ps_par hc hN hi hj hij hx hy (pa_cons pe_dnewK (pa_cons (PE_kn he) pa_nil hst2) hst) hw hs) h2) fun Dn σ H h => by
    obtain ⟨g, ρ, z, st, o⟩ := h
    intro p hp kn
    have hK : X.K.lookup p = none := kn p (by rw [upd_same]; exact fun z => by cases z)
    have hpR : p ≠ g.R := fun e => st.badDom st.badR (by rw [← e]; exact hp)
    have sg := st.guard (H := upd H p (.dK [])) (z' := z) hp hK (.new hp) (new_wo st hp hK)
    refine ⟨gd g p, ρ, z, sg, ?_⟩
    unfold sSeq sNewP mne at o
    cases ef : f ρ z with
    | bad => rw [ef] at o; exact o.elim
    | exc x z' => rw [ef] at o; exact o.elim
    | ok d z1 =>
      rw [ef] at o
      simp only [obind] at o
      by_cases c : ownAt ρ i = false ∧ i < ρ.length ∧ ownAt ρ j = false ∧ i ≠ j
      · rw [if_pos c] at o
        intro v H2 st2 e2 r2
        have hD : H2 p = some (.dK []) := e2.keep p _ upd_same hpR (fun ps z => by cases z)
        have so := st2.setOwn (i := i) (d := .dS []) st.gR c.1 c.2.1 (fun q => st.badDom (.inl q) hp) (h0_none st hp) hK ⟨[], hD, rfl, .nil⟩
        have co : ownAt (ρ.set i (some (.own (.dS [])))) j = false := by
          have := c.2.2.1
          unfold ownAt at this ⊢
          rw [List.getElem?_set_ne c.2.2.2]
          exact this
        have s3 := so.setv (i := j) (v := v) (d := d) co (by rw [bad_own st.len c.1 c.2.1]; exact r2)
        exact ⟨.ref p, v, rfl, g, _, z1, s3, o⟩
      · rw [if_neg c] at o
        exact o.elim
theorem okO {P : Program} {w : World} {K : PySem.W.Frag} {mg : Str → Option Value} {base : Heap} {T : Tb} {x qual : Str} {st : Stmt} {f : Addr} {fd : FuncData} {N ps : List Str} {k : Nat} {A : SM} {j : Nat} (F : Fun K x qual st f fd) (S : FnScope N ps (defScope st))
    (der : ∀ (cdv : Value) (A0 : Around) (outer : List Env) (s : Shared) (H : Hp) (E : XK), Room k (A0.deeper (envOfC qual (defScope st) s.heap.objs.size f cdv)) → fd.code = cdv →
      PSs (cxOf CX0 P w K mg base N qual (defScope st) f cdv A0 outer s H E).nox (defBody st) (sDR ⟨K, T, mg, E⟩ A j)) :
    FnOk P w K mg base CX0 (k + 1) f fd ps (spO K T mg ps.length N.length A j) := by
  obtain ⟨oc, od, kV, doc, pm, an, cdv, ct, osl, rfl, lk, hcd⟩ := F.ex
  refine fn_of lk hcd S (fun vs H Q E h => h.1) fun A0 outer s H vs Q E hr hsp => ⟨_, (der cdv A0 outer s H E hr rfl).nox, ?_⟩
  obtain ⟨hn, g, ds, z, h0, wo, r, ρ', z', es, h1, h2, q⟩ := hsp
  refine ⟨g, rho0 N.length ds, z, st_start h0 wo r, ?_⟩
  unfold RetO
  rw [h1]
  exact ⟨es, h2, q⟩
/-- x = f(..), f such a def: x an own dict -/
def sCallO (i : Nat) (A : SM) (N j : Nat) (fs : List (EnD → M D)) : SM := fun ρ z => match evs fs ρ z with
  | .ok ds z1 => match A (rho0 N ds) z1 with
    | .nx ρ' z' => match ownD ρ' j with
      | some es => if ownAt ρ i = false ∧ i < ρ.length then .nx (ρ.set i (some (.own (.dS es)))) z' else .bad
      | none => .bad
    | _ => .bad
  | _ => .bad
theorem pu_callO {CX : CXT} {k n N : Nat} {fa' : Addr} {fd : FuncData} {ps : List Str} {fn : Str} {es : List Expr} {fs : List (EnD → M D)} {pos' pf : Pos} (FN : FnOk X.prog X.w X.K X.mg X.base CX k fa' fd ps (spO X.K T X.mg n N A j)) (hr : Room k X.A) (hg : Gl X fn) (hm : X.mg fn = some (.ref fa')) (hk : PySem.W.keepIn X.K (.ref fa') = true) (hb : Binds X.K fd ps []) (hx : Passes CX X (fun _ _ _ => False))
    (ha : PA X (e :: es) (taD (yx X T E) (evs fs))) (hNd : X.N.Nodup) (hi : X.N[i]? = some x) (hlx : Loc X.env.scope x) (hn : fs.length = n := by rfl) (hdb : (fn == ("__debug__" : Str)) = false := by decide) (he : starEach (e :: es) X.env = (false, eval e X.env) :: starEach es X.env := by rfl) (hpl : (backTo pos (starEach es X.env)).any (·.1) = false := by rfl)
    (hs : swapsWith (.Call (.Name fn pf) (e :: es) [] pos) (some (.Name x pos')) p2.line X.env = pure false := by rfl) (hf : X.fn x = true ∨ X.env.scope.names.lookup x = some .local := by first | exact .inl rfl | exact .inr rfl) :
    PS X (.Assign [.Name x pos'] (.Call (.Name fn pf) (e :: es) [] pos) p2) (sD (yx X T E) (sCallO i A N j fs)) :=
  PS_imp (ps_set hNd hi hlx (pe_call FN hr hg hm hk hb .nil hx ha hdb he hpl) hs hf) fun Dn σ H h => by
    obtain ⟨g, ρ, z, st, o⟩ := h
    refine ⟨g, ρ, z, st, ?_⟩
    unfold sCallO at o
    cases ee : evs fs ρ z with
    | bad => rw [ee] at o; exact o.elim
    | exc y z' => rw [ee] at o; exact o.elim
    | ok ds z1 =>
      rw [ee] at o
      dsimp only at o
      intro vs H1 st1 e1 r1
      rw [List.append_nil]
      refine ⟨by rw [r1.length, evs_length ee]; exact hn, ⟨g.R, bad g σ ρ, H1⟩, ds, z1, rfl, st1.wo.less (fun _ h => h) st1.badR, r1, ?_⟩
      cases ea : A (rho0 N ds) z1 with
      | rt d z' => rw [ea] at o; exact o.elim
      | bk ρ' z' => rw [ea] at o; exact o.elim
      | ct ρ' z' => rw [ea] at o; exact o.elim
      | exc x z' => rw [ea] at o; exact o.elim
      | bad => rw [ea] at o; exact o.elim
      | nx ρ' z' =>
        rw [ea] at o
        dsimp only at o
        cases eo : ownD ρ' j with
        | none => rw [eo] at o; exact o.elim
        | some es' =>
          rw [eo] at o
          dsimp only at o
          refine ⟨ρ', z', es', rfl, eo, fun a H' r => ?_⟩
          by_cases c : ownAt ρ i = false ∧ i < ρ.length
          case neg => rw [if_neg c] at o; exact o.elim
          rw [if_pos c] at o
          have ex : Ext g.R H1 H' := r.ext
          have fr : H1 a = none := r.fresh
          have sg := st1.guard (H := H') (z' := z') fr r.kn ex (by
            refine r.wo.less (fun b q => ?_) (.inl (.inl st1.gR))
            have q : bad (gd g a) σ ρ b := q
            rw [bad_gd] at q
            exact q)
          have so := sg.setOwn (i := i) (d := .dS es') st1.gR c.1 c.2 (fun q => st1.badDom (.inl q) fr) (h0_none st1 fr) r.kn (by rw [bad_gd]; exact r.own)
          exact o _ H' so ((Stp.ext e1).trans (own_stp st1.len c.1 c.2 fr ex))
end
end DL
set_option Elab.async false
set_option linter.all false
set_option maxRecDepth 100000
set_option maxHeartbeats 4000000
namespace C
open PySem PySem.Spec PyProof.Rows L2 DL
/-- what a law's text gives the defs: their addresses, whether errors are told, which checks are there -/
structure Cfg where
  A : Nat → Addr
  E : Str → Bool
  ck : Nat → Bool
  hs : List Key → Int
  sp : SetSp
def sRz (Γ : Cfg) (x : Str) : SM := fun ρ z => if Γ.E x then sRaise x ρ z else .bad
theorem pu_rzB {X : L2.Cx} {T : Tb} {E : XK} {st : Stmt} {Γ : Cfg} {x : Str} (h : Γ.E x = false) : PS X st (sD (yx X T E) (sRz Γ x)) := by
  have e : sRz Γ x = sBad := by funext ρ z; unfold sRz sBad; rw [if_neg (by rw [h]; simp)]
  rw [e]; exact pu_bad
def w_WAYS : D := .tup [.str [97, 108, 108, 111, 119, 32, 111, 118, 101, 114], .str [97, 108, 119, 97, 121, 115, 32, 97, 108, 108, 111, 119], .str [97, 108, 119, 97, 121, 115, 32, 100, 101, 110, 121], .str [98, 111, 116, 104, 32, 101, 110, 100, 115], .str [100, 101, 110, 121, 32, 111, 118, 101, 114], .str [102, 105, 114, 115, 116], .str [105, 115, 108, 97, 110, 100], .str [108, 97, 115, 116], .str [109, 111, 115, 116, 32, 111, 114, 32, 97, 108, 108, 111, 119], .str [109, 111, 115, 116, 32, 111, 114, 32, 100, 101, 110, 121], .str [109, 111, 115, 116, 32, 111, 114, 32, 102, 105, 114, 115, 116], .str [109, 111, 115, 116, 32, 111, 114, 32, 108, 97, 115, 116], .str [111, 100, 100]]
def w_PROMISES : D := .tup [.str [97, 103, 114, 101, 101, 100], .str [101, 118, 101, 110], .str [103, 114, 111, 119, 105, 110, 103], .str [104, 101, 97, 114, 100], .str [107, 101, 112, 116], .str [109, 105, 120, 101, 100], .str [109, 111, 115, 116], .str [111, 114, 100, 101, 114], .str [112, 97, 114, 116, 115], .str [114, 101, 112, 101, 97, 116]]
def w_VOICES : D := .tup [.str [97, 108, 108, 111, 119], .str [100, 101, 110, 121]]
def w_SMALL_ROWS : D := .tup [.tup [.str [97, 108, 108, 111, 119]], .tup [.str [100, 101, 110, 121]], .tup [.str [97, 108, 108, 111, 119], .str [97, 108, 108, 111, 119]], .tup [.str [97, 108, 108, 111, 119], .str [100, 101, 110, 121]], .tup [.str [100, 101, 110, 121], .str [97, 108, 108, 111, 119]], .tup [.str [100, 101, 110, 121], .str [100, 101, 110, 121]], .tup [.str [97, 108, 108, 111, 119], .str [97, 108, 108, 111, 119], .str [97, 108, 108, 111, 119]], .tup [.str [97, 108, 108, 111, 119], .str [97, 108, 108, 111, 119], .str [100, 101, 110, 121]], .tup [.str [97, 108, 108, 111, 119], .str [100, 101, 110, 121], .str [97, 108, 108, 111, 119]], .tup [.str [97, 108, 108, 111, 119], .str [100, 101, 110, 121], .str [100, 101, 110, 121]], .tup [.str [100, 101, 110, 121], .str [97, 108, 108, 111, 119], .str [97, 108, 108, 111, 119]], .tup [.str [100, 101, 110, 121], .str [97, 108, 108, 111, 119], .str [100, 101, 110, 121]], .tup [.str [100, 101, 110, 121], .str [100, 101, 110, 121], .str [97, 108, 108, 111, 119]], .tup [.str [100, 101, 110, 121], .str [100, 101, 110, 121], .str [100, 101, 110, 121]]]
def tb_ANSWERS (Γ : Cfg) : List (List Nat × D) := [([97, 108, 108, 111, 119, 32, 111, 118, 101, 114], .fn 0 (Γ.A 0)), ([97, 108, 119, 97, 121, 115, 32, 97, 108, 108, 111, 119], .fn 1 (Γ.A 1)), ([97, 108, 119, 97, 121, 115, 32, 100, 101, 110, 121], .fn 2 (Γ.A 2)), ([98, 111, 116, 104, 32, 101, 110, 100, 115], .fn 3 (Γ.A 3)), ([100, 101, 110, 121, 32, 111, 118, 101, 114], .fn 4 (Γ.A 4)), ([102, 105, 114, 115, 116], .fn 5 (Γ.A 5)), ([105, 115, 108, 97, 110, 100], .fn 6 (Γ.A 6)), ([108, 97, 115, 116], .fn 7 (Γ.A 7)), ([109, 111, 115, 116, 32, 111, 114, 32, 97, 108, 108, 111, 119], .fn 8 (Γ.A 8)), ([109, 111, 115, 116, 32, 111, 114, 32, 100, 101, 110, 121], .fn 9 (Γ.A 9)), ([109, 111, 115, 116, 32, 111, 114, 32, 102, 105, 114, 115, 116], .fn 10 (Γ.A 10)), ([109, 111, 115, 116, 32, 111, 114, 32, 108, 97, 115, 116], .fn 11 (Γ.A 11)), ([111, 100, 100], .fn 12 (Γ.A 12))]
def tb_ALLOWED (Γ : Cfg) : List (List Nat × D) := [([97, 108, 108, 111, 119, 32, 111, 118, 101, 114], .fn 13 (Γ.A 13)), ([97, 108, 119, 97, 121, 115, 32, 97, 108, 108, 111, 119], .fn 14 (Γ.A 14)), ([97, 108, 119, 97, 121, 115, 32, 100, 101, 110, 121], .fn 15 (Γ.A 15)), ([98, 111, 116, 104, 32, 101, 110, 100, 115], .fn 16 (Γ.A 16)), ([100, 101, 110, 121, 32, 111, 118, 101, 114], .fn 17 (Γ.A 17)), ([102, 105, 114, 115, 116], .fn 18 (Γ.A 18)), ([105, 115, 108, 97, 110, 100], .fn 19 (Γ.A 19)), ([108, 97, 115, 116], .fn 18 (Γ.A 18)), ([109, 111, 115, 116, 32, 111, 114, 32, 97, 108, 108, 111, 119], .fn 20 (Γ.A 20)), ([109, 111, 115, 116, 32, 111, 114, 32, 100, 101, 110, 121], .fn 21 (Γ.A 21)), ([109, 111, 115, 116, 32, 111, 114, 32, 102, 105, 114, 115, 116], .fn 18 (Γ.A 18)), ([109, 111, 115, 116, 32, 111, 114, 32, 108, 97, 115, 116], .fn 18 (Γ.A 18)), ([111, 100, 100], .fn 18 (Γ.A 18))]
def tb_MATTERS (Γ : Cfg) : List (List Nat × D) := [([97, 108, 108, 111, 119, 32, 111, 118, 101, 114], .fn 22 (Γ.A 22)), ([97, 108, 119, 97, 121, 115, 32, 97, 108, 108, 111, 119], .fn 23 (Γ.A 23)), ([97, 108, 119, 97, 121, 115, 32, 100, 101, 110, 121], .fn 23 (Γ.A 23)), ([98, 111, 116, 104, 32, 101, 110, 100, 115], .fn 24 (Γ.A 24)), ([100, 101, 110, 121, 32, 111, 118, 101, 114], .fn 22 (Γ.A 22)), ([102, 105, 114, 115, 116], .fn 25 (Γ.A 25)), ([105, 115, 108, 97, 110, 100], .fn 26 (Γ.A 26)), ([108, 97, 115, 116], .fn 27 (Γ.A 27)), ([109, 111, 115, 116, 32, 111, 114, 32, 97, 108, 108, 111, 119], .fn 28 (Γ.A 28)), ([109, 111, 115, 116, 32, 111, 114, 32, 100, 101, 110, 121], .fn 29 (Γ.A 29)), ([109, 111, 115, 116, 32, 111, 114, 32, 102, 105, 114, 115, 116], .fn 30 (Γ.A 30)), ([109, 111, 115, 116, 32, 111, 114, 32, 108, 97, 115, 116], .fn 31 (Γ.A 31)), ([111, 100, 100], .fn 32 (Γ.A 32))]
def tb_KEPT_BY : List (List Nat × D) := [([97, 108, 108, 111, 119, 32, 111, 118, 101, 114], .tup [.str [97, 103, 114, 101, 101, 100], .str [103, 114, 111, 119, 105, 110, 103], .str [104, 101, 97, 114, 100], .str [107, 101, 112, 116], .str [111, 114, 100, 101, 114], .str [112, 97, 114, 116, 115], .str [114, 101, 112, 101, 97, 116]]), ([97, 108, 119, 97, 121, 115, 32, 97, 108, 108, 111, 119], .tup [.str [103, 114, 111, 119, 105, 110, 103], .str [107, 101, 112, 116], .str [111, 114, 100, 101, 114], .str [112, 97, 114, 116, 115], .str [114, 101, 112, 101, 97, 116]]), ([97, 108, 119, 97, 121, 115, 32, 100, 101, 110, 121], .tup [.str [103, 114, 111, 119, 105, 110, 103], .str [107, 101, 112, 116], .str [111, 114, 100, 101, 114], .str [112, 97, 114, 116, 115], .str [114, 101, 112, 101, 97, 116]]), ([98, 111, 116, 104, 32, 101, 110, 100, 115], .tup [.str [97, 103, 114, 101, 101, 100], .str [103, 114, 111, 119, 105, 110, 103], .str [107, 101, 112, 116], .str [109, 105, 120, 101, 100], .str [114, 101, 112, 101, 97, 116]]), ([100, 101, 110, 121, 32, 111, 118, 101, 114], .tup [.str [97, 103, 114, 101, 101, 100], .str [103, 114, 111, 119, 105, 110, 103], .str [104, 101, 97, 114, 100], .str [107, 101, 112, 116], .str [111, 114, 100, 101, 114], .str [112, 97, 114, 116, 115], .str [114, 101, 112, 101, 97, 116]]), ([102, 105, 114, 115, 116], .tup [.str [97, 103, 114, 101, 101, 100], .str [101, 118, 101, 110], .str [103, 114, 111, 119, 105, 110, 103], .str [107, 101, 112, 116], .str [109, 105, 120, 101, 100], .str [112, 97, 114, 116, 115], .str [114, 101, 112, 101, 97, 116]]), ([105, 115, 108, 97, 110, 100], .tup [.str [97, 103, 114, 101, 101, 100], .str [104, 101, 97, 114, 100], .str [109, 105, 120, 101, 100], .str [114, 101, 112, 101, 97, 116]]), ([108, 97, 115, 116], .tup [.str [97, 103, 114, 101, 101, 100], .str [101, 118, 101, 110], .str [103, 114, 111, 119, 105, 110, 103], .str [107, 101, 112, 116], .str [109, 105, 120, 101, 100], .str [112, 97, 114, 116, 115], .str [114, 101, 112, 101, 97, 116]]), ([109, 111, 115, 116, 32, 111, 114, 32, 97, 108, 108, 111, 119], .tup [.str [97, 103, 114, 101, 101, 100], .str [103, 114, 111, 119, 105, 110, 103], .str [104, 101, 97, 114, 100], .str [107, 101, 112, 116], .str [109, 105, 120, 101, 100], .str [109, 111, 115, 116], .str [111, 114, 100, 101, 114]]), ([109, 111, 115, 116, 32, 111, 114, 32, 100, 101, 110, 121], .tup [.str [97, 103, 114, 101, 101, 100], .str [103, 114, 111, 119, 105, 110, 103], .str [104, 101, 97, 114, 100], .str [107, 101, 112, 116], .str [109, 105, 120, 101, 100], .str [109, 111, 115, 116], .str [111, 114, 100, 101, 114]]), ([109, 111, 115, 116, 32, 111, 114, 32, 102, 105, 114, 115, 116], .tup [.str [97, 103, 114, 101, 101, 100], .str [101, 118, 101, 110], .str [103, 114, 111, 119, 105, 110, 103], .str [107, 101, 112, 116], .str [109, 105, 120, 101, 100], .str [109, 111, 115, 116]]), ([109, 111, 115, 116, 32, 111, 114, 32, 108, 97, 115, 116], .tup [.str [97, 103, 114, 101, 101, 100], .str [101, 118, 101, 110], .str [103, 114, 111, 119, 105, 110, 103], .str [107, 101, 112, 116], .str [109, 105, 120, 101, 100], .str [109, 111, 115, 116]]), ([111, 100, 100], .tup [.str [104, 101, 97, 114, 100], .str [109, 105, 120, 101, 100], .str [111, 114, 100, 101, 114], .str [112, 97, 114, 116, 115]])]
def tb_CHECKS (Γ : Cfg) : List (List Nat × D) := [([97, 103, 114, 101, 101, 100], .fn 33 (Γ.A 33)), ([101, 118, 101, 110], .fn 34 (Γ.A 34)), ([103, 114, 111, 119, 105, 110, 103], .fn 35 (Γ.A 35)), ([104, 101, 97, 114, 100], .fn 36 (Γ.A 36)), ([107, 101, 112, 116], .fn 37 (Γ.A 37)), ([109, 105, 120, 101, 100], .fn 38 (Γ.A 38)), ([109, 111, 115, 116], .fn 39 (Γ.A 39)), ([111, 114, 100, 101, 114], .fn 40 (Γ.A 40)), ([112, 97, 114, 116, 115], .fn 41 (Γ.A 41)), ([114, 101, 112, 101, 97, 116], .fn 42 (Γ.A 42))]
def tb_SIGN_OF : List (List Nat × D) := [([97, 108, 108, 111, 119], .str [43]), ([100, 101, 110, 121], .str [45])]
def tb_VOICE_OF : List (List Nat × D) := [([43], .str [97, 108, 108, 111, 119]), ([45], .str [100, 101, 110, 121])]
def ks_VOICE_OF : List (List Nat) := [[43], [45]]
noncomputable def B_allow_over (Γ : Cfg) : SM :=
  sRet (eIf (tV (e2 (op2 inD) (eC (.str [97, 108, 108, 111, 119])) (eV 0))) (eC (.str [97, 108, 108, 111, 119])) (eC (.str [100, 101, 110, 121])))
noncomputable def F_allow_over (Γ : Cfg) : List D → M D := runD 1 (B_allow_over Γ)
noncomputable def B_always_allow (Γ : Cfg) : SM :=
  sRet (eC (.str [97, 108, 108, 111, 119]))
noncomputable def F_always_allow (Γ : Cfg) : List D → M D := runD 1 (B_always_allow Γ)
noncomputable def B_always_deny (Γ : Cfg) : SM :=
  sRet (eC (.str [100, 101, 110, 121]))
noncomputable def F_always_deny (Γ : Cfg) : List D → M D := runD 1 (B_always_deny Γ)
noncomputable def B_both_ends_ways (Γ : Cfg) : SM :=
  sRet (eIf (tAnd (tV (e2 (op2 eqD) (e2 (op2 ixA) (eV 0) (eC (.int (0)))) (eC (.str [97, 108, 108, 111, 119])))) (tV (e2 (op2 eqD) (e2 (op2 ixA) (eV 0) (e1 (op1 negD) (eC (.int (1))))) (eC (.str [97, 108, 108, 111, 119]))))) (eC (.str [97, 108, 108, 111, 119])) (eC (.str [100, 101, 110, 121])))
noncomputable def F_both_ends_ways (Γ : Cfg) : List D → M D := runD 1 (B_both_ends_ways Γ)
noncomputable def B_deny_over (Γ : Cfg) : SM :=
  sRet (eIf (tV (e2 (op2 inD) (eC (.str [100, 101, 110, 121])) (eV 0))) (eC (.str [100, 101, 110, 121])) (eC (.str [97, 108, 108, 111, 119])))
noncomputable def F_deny_over (Γ : Cfg) : List D → M D := runD 1 (B_deny_over Γ)
noncomputable def B_first (Γ : Cfg) : SM :=
  sRet (e2 (op2 ixA) (eV 0) (eC (.int (0))))
noncomputable def F_first (Γ : Cfg) : List D → M D := runD 1 (B_first Γ)
noncomputable def B_stretches (Γ : Cfg) : SM :=
  sRet (eTupG 1 (iR1 (e1 (op1 lenD) (eV 0))) (tOr (tV (e2 (op2 eqD) (eV 1) (eC (.int (0))))) (tV (e2 (op2 neD) (e2 (op2 ixA) (eV 0) (eV 1)) (e2 (op2 ixA) (eV 0) (e2 (op2 subD) (eV 1) (eC (.int (1)))))))) (e2 (op2 ixA) (eV 0) (eV 1)))
noncomputable def F_stretches (Γ : Cfg) : List D → M D := runD 2 (B_stretches Γ)
noncomputable def B_island_ways (Γ : Cfg) : SM :=
  sRet (eIf (tV (e2 (op2 inD) (eCall (F_stretches Γ) [eV 0]) (eTup [eTup [eC (.str [97, 108, 108, 111, 119])], eTup [eC (.str [100, 101, 110, 121]), eC (.str [97, 108, 108, 111, 119]), eC (.str [100, 101, 110, 121])]]))) (eC (.str [97, 108, 108, 111, 119])) (eC (.str [100, 101, 110, 121])))
noncomputable def F_island_ways (Γ : Cfg) : List D → M D := runD 1 (B_island_ways Γ)
noncomputable def B_last (Γ : Cfg) : SM :=
  sRet (e2 (op2 ixA) (eV 0) (e1 (op1 negD) (eC (.int (1)))))
noncomputable def F_last (Γ : Cfg) : List D → M D := runD 1 (B_last Γ)
noncomputable def B_greater_voice (Γ : Cfg) : SM :=
  sSeq (sSet 1 (eTCount (eV 0) (eC (.str [97, 108, 108, 111, 119]))))
  (sSeq (sSet 2 (eTCount (eV 0) (eC (.str [100, 101, 110, 121]))))
  (sSeq (sIf (tV (e2 (op2 eqD) (eV 1) (eV 2))) (sRet (eC .non)) (sNil))
  (sRet (eIf (tV (e2 (op2 gtD) (eV 1) (eV 2))) (eC (.str [97, 108, 108, 111, 119])) (eC (.str [100, 101, 110, 121]))))))
noncomputable def F_greater_voice (Γ : Cfg) : List D → M D := runD 3 (B_greater_voice Γ)
noncomputable def B_most_or (Γ : Cfg) : SM :=
  sSeq (sSet 2 (eCall (F_greater_voice Γ) [eV 0]))
  (sRet (eIf (tV (e2 (op2 isD) (eV 2) (eC .non))) (eV 1) (eV 2)))
noncomputable def F_most_or (Γ : Cfg) : List D → M D := runD 3 (B_most_or Γ)
noncomputable def B_most_or_allow_ways (Γ : Cfg) : SM :=
  sRet (eCall (F_most_or Γ) [eV 0, eC (.str [97, 108, 108, 111, 119])])
noncomputable def F_most_or_allow_ways (Γ : Cfg) : List D → M D := runD 1 (B_most_or_allow_ways Γ)
noncomputable def B_most_or_deny_ways (Γ : Cfg) : SM :=
  sRet (eCall (F_most_or Γ) [eV 0, eC (.str [100, 101, 110, 121])])
noncomputable def F_most_or_deny_ways (Γ : Cfg) : List D → M D := runD 1 (B_most_or_deny_ways Γ)
noncomputable def B_most_or_first (Γ : Cfg) : SM :=
  sRet (eCall (F_most_or Γ) [eV 0, e2 (op2 ixA) (eV 0) (eC (.int (0)))])
noncomputable def F_most_or_first (Γ : Cfg) : List D → M D := runD 1 (B_most_or_first Γ)
noncomputable def B_most_or_last (Γ : Cfg) : SM :=
  sRet (eCall (F_most_or Γ) [eV 0, e2 (op2 ixA) (eV 0) (e1 (op1 negD) (eC (.int (1))))])
noncomputable def F_most_or_last (Γ : Cfg) : List D → M D := runD 1 (B_most_or_last Γ)
noncomputable def B_odd (Γ : Cfg) : SM :=
  sRet (eIf (tV (e2 (op2 eqD) (e2 (op2 modD) (eTCount (eV 0) (eC (.str [100, 101, 110, 121]))) (eC (.int (2)))) (eC (.int (1))))) (eC (.str [100, 101, 110, 121])) (eC (.str [97, 108, 108, 111, 119])))
noncomputable def F_odd (Γ : Cfg) : List D → M D := runD 1 (B_odd Γ)
noncomputable def B_all_rows (Γ : Cfg) : SM :=
  sRet (e2 (op2 shlD) (eC (.int (1))) (eV 0))
noncomputable def F_all_rows (Γ : Cfg) : List D → M D := runD 1 (B_all_rows Γ)
noncomputable def B_all_rows_but_one (Γ : Cfg) : SM :=
  sRet (e2 (op2 subD) (eCall (F_all_rows Γ) [eV 0]) (eC (.int (1))))
noncomputable def F_all_rows_but_one (Γ : Cfg) : List D → M D := runD 1 (B_all_rows_but_one Γ)
noncomputable def B_no_rows (Γ : Cfg) : SM :=
  sRet (eC (.int (0)))
noncomputable def F_no_rows (Γ : Cfg) : List D → M D := runD 1 (B_no_rows Γ)
noncomputable def B_both_ends (Γ : Cfg) : SM :=
  sRet (eIf (tV (e2 (op2 eqD) (eV 0) (eC (.int (1))))) (eC (.int (1))) (e2 (op2 shlD) (eC (.int (1))) (e2 (op2 subD) (eV 0) (eC (.int (2))))))
noncomputable def F_both_ends (Γ : Cfg) : List D → M D := runD 1 (B_both_ends Γ)
noncomputable def B_one_row (Γ : Cfg) : SM :=
  sRet (eC (.int (1)))
noncomputable def F_one_row (Γ : Cfg) : List D → M D := runD 1 (B_one_row Γ)
noncomputable def B_half_of_the_rows (Γ : Cfg) : SM :=
  sRet (e2 (op2 shlD) (eC (.int (1))) (e2 (op2 subD) (eV 0) (eC (.int (1)))))
noncomputable def F_half_of_the_rows (Γ : Cfg) : List D → M D := runD 1 (B_half_of_the_rows Γ)
noncomputable def B_island (Γ : Cfg) : SM :=
  sRet (e2 (op2 addD) (eC (.int (1))) (e2 (op2 combD) (e2 (op2 subD) (eV 0) (eC (.int (1)))) (eC (.int (2)))))
noncomputable def F_island (Γ : Cfg) : List D → M D := runD 1 (B_island Γ)
noncomputable def B_rows_with (Γ : Cfg) : SM :=
  sRet (eSumG 2 (iR2 (eV 1) (e2 (op2 addD) (eV 0) (eC (.int (1))))) (tYesD) (e2 (op2 combD) (eV 0) (eV 2)))
noncomputable def F_rows_with (Γ : Cfg) : List D → M D := runD 3 (B_rows_with Γ)
noncomputable def B_half (Γ : Cfg) : SM :=
  sRet (e2 (op2 fdivD) (e2 (op2 addD) (eV 0) (eC (.int (1)))) (eC (.int (2))))
noncomputable def F_half (Γ : Cfg) : List D → M D := runD 1 (B_half Γ)
noncomputable def B_most_or_allow (Γ : Cfg) : SM :=
  sRet (eCall (F_rows_with Γ) [eV 0, eCall (F_half Γ) [eV 0]])
noncomputable def F_most_or_allow (Γ : Cfg) : List D → M D := runD 1 (B_most_or_allow Γ)
noncomputable def B_more_than_half (Γ : Cfg) : SM :=
  sRet (e2 (op2 addD) (e2 (op2 fdivD) (eV 0) (eC (.int (2)))) (eC (.int (1))))
noncomputable def F_more_than_half (Γ : Cfg) : List D → M D := runD 1 (B_more_than_half Γ)
noncomputable def B_most_or_deny (Γ : Cfg) : SM :=
  sRet (eCall (F_rows_with Γ) [eV 0, eCall (F_more_than_half Γ) [eV 0]])
noncomputable def F_most_or_deny (Γ : Cfg) : List D → M D := runD 1 (B_most_or_deny Γ)
noncomputable def B_place_unless_overruled (Γ : Cfg) : SM :=
  sRet (eC (.int (2)))
noncomputable def F_place_unless_overruled (Γ : Cfg) : List D → M D := runD 2 (B_place_unless_overruled Γ)
noncomputable def B_place_never (Γ : Cfg) : SM :=
  sRet (eC (.int (0)))
noncomputable def F_place_never (Γ : Cfg) : List D → M D := runD 2 (B_place_never Γ)
noncomputable def B_place_both_ends (Γ : Cfg) : SM :=
  sSeq (sIf (tV (e2 (op2 notInD) (eV 1) (eTup [eC (.int (0)), e2 (op2 subD) (eV 0) (eC (.int (1)))]))) (sRet (eC (.int (0)))) (sNil))
  (sRet (eIf (tV (e2 (op2 eqD) (eV 0) (eC (.int (1))))) (eC (.int (2))) (e2 (op2 shlD) (eC (.int (1))) (e2 (op2 subD) (eV 0) (eC (.int (1)))))))
noncomputable def F_place_both_ends (Γ : Cfg) : List D → M D := runD 2 (B_place_both_ends Γ)
noncomputable def B_place_first (Γ : Cfg) : SM :=
  sRet (eIf (tV (e2 (op2 eqD) (eV 1) (eC (.int (0))))) (eCall (F_all_rows Γ) [eV 0]) (eC (.int (0))))
noncomputable def F_place_first (Γ : Cfg) : List D → M D := runD 2 (B_place_first Γ)
noncomputable def B_place_island (Γ : Cfg) : SM :=
  sSeq (sSet 2 (eIf (tV (eChain (op2 ltD) (op2 ltD) (eC (.int (0))) (eV 1) (e2 (op2 subD) (eV 0) (eC (.int (1)))))) (e2 (op2 subD) (eV 0) (eC (.int (3)))) (eC (.int (0)))))
  (sRet (e2 (op2 mulI) (eC (.int (2))) (e2 (op2 subD) (eCall (F_island Γ) [eV 0]) (e2 (op2 mulI) (eC (.int (2))) (eV 2)))))
noncomputable def F_place_island (Γ : Cfg) : List D → M D := runD 3 (B_place_island Γ)
noncomputable def B_place_last (Γ : Cfg) : SM :=
  sRet (eIf (tV (e2 (op2 eqD) (eV 1) (e2 (op2 subD) (eV 0) (eC (.int (1)))))) (eCall (F_all_rows Γ) [eV 0]) (eC (.int (0))))
noncomputable def F_place_last (Γ : Cfg) : List D → M D := runD 2 (B_place_last Γ)
noncomputable def B_rows_in_doubt (Γ : Cfg) : SM :=
  sRet (e2 (op2 mulI) (eC (.int (2))) (e2 (op2 combD) (e2 (op2 subD) (eV 0) (eC (.int (1)))) (e2 (op2 subD) (eV 1) (eC (.int (1))))))
noncomputable def F_rows_in_doubt (Γ : Cfg) : List D → M D := runD 2 (B_rows_in_doubt Γ)
noncomputable def B_place_most_or_allow (Γ : Cfg) : SM :=
  sRet (eCall (F_rows_in_doubt Γ) [eV 0, eCall (F_half Γ) [eV 0]])
noncomputable def F_place_most_or_allow (Γ : Cfg) : List D → M D := runD 2 (B_place_most_or_allow Γ)
noncomputable def B_place_most_or_deny (Γ : Cfg) : SM :=
  sRet (eCall (F_rows_in_doubt Γ) [eV 0, eCall (F_more_than_half Γ) [eV 0]])
noncomputable def F_place_most_or_deny (Γ : Cfg) : List D → M D := runD 2 (B_place_most_or_deny Γ)
noncomputable def B_place_most_or_first (Γ : Cfg) : SM :=
  sSeq (sSet 2 (eCall (F_half Γ) [eV 0]))
  (sSeq (sIf (tV (e2 (op2 eqD) (e2 (op2 modD) (eV 0) (eC (.int (2)))) (eC (.int (1))))) (sRet (eCall (F_rows_in_doubt Γ) [eV 0, eV 2])) (sNil))
  (sSeq (sIf (tV (e2 (op2 eqD) (eV 1) (eC (.int (0))))) (sRet (e2 (op2 mulI) (eC (.int (2))) (e2 (op2 combD) (eV 0) (eV 2)))) (sNil))
  (sRet (e2 (op2 mulI) (eC (.int (4))) (e2 (op2 combD) (e2 (op2 subD) (eV 0) (eC (.int (2)))) (eV 2))))))
noncomputable def F_place_most_or_first (Γ : Cfg) : List D → M D := runD 3 (B_place_most_or_first Γ)
noncomputable def B_place_most_or_last (Γ : Cfg) : SM :=
  sRet (eCall (F_place_most_or_first Γ) [eV 0, e2 (op2 subD) (e2 (op2 subD) (eV 0) (eC (.int (1)))) (eV 1)])
noncomputable def F_place_most_or_last (Γ : Cfg) : List D → M D := runD 2 (B_place_most_or_last Γ)
noncomputable def B_place_always (Γ : Cfg) : SM :=
  sRet (eCall (F_all_rows Γ) [eV 0])
noncomputable def F_place_always (Γ : Cfg) : List D → M D := runD 2 (B_place_always Γ)
noncomputable def B_turned (Γ : Cfg) : SM :=
  sRet (eIf (tV (e2 (op2 eqD) (eV 0) (eC (.str [97, 108, 108, 111, 119])))) (eC (.str [100, 101, 110, 121])) (eC (.str [97, 108, 108, 111, 119])))
noncomputable def F_turned (Γ : Cfg) : List D → M D := runD 1 (B_turned Γ)
noncomputable def B_turned_at (Γ : Cfg) : SM :=
  sRet (e2 (op2 addD) (e2 (op2 addD) (eSl (eV 0) pNo (pSo (eV 1))) (eTup [eCall (F_turned Γ) [e2 (op2 ixA) (eV 0) (eV 1)]])) (eSl (eV 0) (pSo (e2 (op2 addD) (eV 1) (eC (.int (1))))) pNo))
noncomputable def F_turned_at (Γ : Cfg) : List D → M D := runD 2 (B_turned_at Γ)
noncomputable def B_check_way (Γ : Cfg) : SM :=
  sIf (tV (e2 (op2 notInD) (eV 0) (eC w_WAYS))) (sRz Γ "BadWay") (sNil)
noncomputable def F_check_way (Γ : Cfg) : List D → M D := runD 1 (B_check_way Γ)
noncomputable def B_check_promise (Γ : Cfg) : SM :=
  sIf (tV (e2 (op2 notInD) (eV 0) (eC w_PROMISES))) (sRz Γ "BadPromise") (sNil)
noncomputable def F_check_promise (Γ : Cfg) : List D → M D := runD 1 (B_check_promise Γ)
noncomputable def B_first_wrong (Γ : Cfg) : SM :=
  sSeq (sForP 1 2 (iEn (eV 0)) (sIf (tV (e2 (op2 notInD) (eV 2) (eC w_VOICES))) (sRet (eV 1)) (sNil)))
  (sRet (eC .non))
noncomputable def F_first_wrong (Γ : Cfg) : List D → M D := runD 3 (B_first_wrong Γ)
noncomputable def B_check_row (Γ : Cfg) : SM :=
  sSeq (sIf (tOr (tNot (tV (e1 (op1 (isiD ["tuple"])) (eV 0)))) (tNot (tV (eChain (op2 leD) (op2 leD) (eC (.int (1))) (e1 (op1 lenD) (eV 0)) (eC (.int (12))))))) (sBad) (sNil))
  (sSeq (sSet 1 (eCall (F_first_wrong Γ) [eV 0]))
  (sIf (tV (e2 (op2 isNotD) (eV 1) (eC .non))) (sBad) (sNil)))
noncomputable def F_check_row (Γ : Cfg) : List D → M D := runD 2 (B_check_row Γ)
noncomputable def B_check_length (Γ : Cfg) : SM :=
  sSeq (sIf (tOr (tNot (tV (e1 (op1 (isiD ["int"])) (eV 0)))) (tV (e1 (op1 (isiD ["bool"])) (eV 0)))) (sRz Γ "BadNumber") (sNil))
  (sIf (tNot (tV (eChain (op2 leD) (op2 leD) (eC (.int (1))) (eV 0) (eC (.int (60)))))) (sRz Γ "BadNumber") (sNil))
noncomputable def F_check_length (Γ : Cfg) : List D → M D := runD 1 (B_check_length Γ)
noncomputable def fs_ANSWERS (Γ : Cfg) : Nat → Option (List D → M D)
  | 0 => some (F_allow_over Γ)
  | 1 => some (F_always_allow Γ)
  | 2 => some (F_always_deny Γ)
  | 3 => some (F_both_ends_ways Γ)
  | 4 => some (F_deny_over Γ)
  | 5 => some (F_first Γ)
  | 6 => some (F_island_ways Γ)
  | 7 => some (F_last Γ)
  | 8 => some (F_most_or_allow_ways Γ)
  | 9 => some (F_most_or_deny_ways Γ)
  | 10 => some (F_most_or_first Γ)
  | 11 => some (F_most_or_last Γ)
  | 12 => some (F_odd Γ)
  | _ => none
noncomputable def B_told_answer (Γ : Cfg) : SM :=
  sSeq (sSet 2 (e1 (op1 (tblD (tb_ANSWERS Γ))) (eV 0)))
  (sRet (eCallN Γ.A (fs_ANSWERS Γ) 2 [eV 1]))
noncomputable def F_told_answer (Γ : Cfg) : List D → M D := runD 3 (B_told_answer Γ)
noncomputable def B_answer (Γ : Cfg) : SM :=
  sSeq (sEx (eCall (F_check_way Γ) [eV 0]))
  (sSeq (sEx (eCall (F_check_row Γ) [eV 1]))
  (sRet (eCall (F_told_answer Γ) [eV 0, eV 1])))
noncomputable def F_answer (Γ : Cfg) : List D → M D := runD 2 (B_answer Γ)
noncomputable def B_matters (Γ : Cfg) : SM :=
  sSeq (sSet 2 (eCall (F_answer Γ) [eV 0, eV 1]))
  (sRet (eTupG 3 (iR1 (e1 (op1 lenD) (eV 1))) (tV (e2 (op2 neD) (eCall (F_told_answer Γ) [eV 0, eCall (F_turned_at Γ) [eV 1, eV 3]]) (eV 2))) (eV 3)))
noncomputable def F_matters (Γ : Cfg) : List D → M D := runD 4 (B_matters Γ)
noncomputable def fs_ALLOWED (Γ : Cfg) : Nat → Option (List D → M D)
  | 13 => some (F_all_rows_but_one Γ)
  | 14 => some (F_all_rows Γ)
  | 15 => some (F_no_rows Γ)
  | 16 => some (F_both_ends Γ)
  | 17 => some (F_one_row Γ)
  | 18 => some (F_half_of_the_rows Γ)
  | 19 => some (F_island Γ)
  | 20 => some (F_most_or_allow Γ)
  | 21 => some (F_most_or_deny Γ)
  | _ => none
noncomputable def B_count_allowed (Γ : Cfg) : SM :=
  sSeq (sEx (eCall (F_check_way Γ) [eV 0]))
  (sSeq (sEx (eCall (F_check_length Γ) [eV 1]))
  (sSeq (sSet 2 (e1 (op1 (tblD (tb_ALLOWED Γ))) (eV 0)))
  (sRet (eCallN Γ.A (fs_ALLOWED Γ) 2 [eV 1]))))
noncomputable def F_count_allowed (Γ : Cfg) : List D → M D := runD 3 (B_count_allowed Γ)
noncomputable def fs_MATTERS (Γ : Cfg) : Nat → Option (List D → M D)
  | 22 => some (F_place_unless_overruled Γ)
  | 23 => some (F_place_never Γ)
  | 24 => some (F_place_both_ends Γ)
  | 25 => some (F_place_first Γ)
  | 26 => some (F_place_island Γ)
  | 27 => some (F_place_last Γ)
  | 28 => some (F_place_most_or_allow Γ)
  | 29 => some (F_place_most_or_deny Γ)
  | 30 => some (F_place_most_or_first Γ)
  | 31 => some (F_place_most_or_last Γ)
  | 32 => some (F_place_always Γ)
  | _ => none
noncomputable def B_power (Γ : Cfg) : SM :=
  sSeq (sEx (eCall (F_check_way Γ) [eV 0]))
  (sSeq (sEx (eCall (F_check_length Γ) [eV 1]))
  (sSeq (sSet 2 (e1 (op1 (tblD (tb_MATTERS Γ))) (eV 0)))
  (sRet (eTupG 3 (iR1 (eV 1)) (tYesD) (eCallN Γ.A (fs_MATTERS Γ) 2 [eV 1, eV 3])))))
noncomputable def F_power (Γ : Cfg) : List D → M D := runD 4 (B_power Γ)
noncomputable def B_holds (Γ : Cfg) : SM :=
  sSeq (sEx (eCall (F_check_way Γ) [eV 0]))
  (sSeq (sEx (eCall (F_check_promise Γ) [eV 1]))
  (sRet (e2 (op2 inD) (eV 1) (e1 (op1 (tblD (tb_KEPT_BY))) (eV 0)))))
noncomputable def F_holds (Γ : Cfg) : List D → M D := runD 2 (B_holds Γ)
noncomputable def B_law_taken (Γ : Cfg) : SM :=
  sSeq (sIf (tV (e2 (op2 gtD) (eRowG 0 3) (eC (.int (0))))) (sSeq (sSet 2 (e2 (op2 modD) (e1 (op1 intD) (eRowG 0 3)) (eV 1)))
    (sSeq (sRow 0 3 (e2 (op2 fdivD) (eRowG 0 3) (eV 1)))
    (sRet (eV 2)))) (sNil))
  (sSeq (sRow 0 1 (e2 (op2 addD) (eRowG 0 1) (eC (.int (1)))))
  (sSeq (sIf (tV (e2 (op2 gtD) (eRowG 0 1) (eRowL 0))) (sSeq (sRow 0 2 (e2 (op2 modD) (e1 (op1 intD) (e2 (op2 addD) (e2 (op2 mulI) (eRowG 0 2) (eC (.int (48271)))) (eC (.int (11))))) (eC (.int (2147483647)))))
    (sRet (e2 (op2 modD) (e1 (op1 intD) (e2 (op2 fdivD) (eRowG 0 2) (eC (.int (7))))) (eV 1)))) (sNil))
  (sSeq (sSet 3 (eRowC 0 (e2 (op2 subD) (eRowG 0 1) (eC (.int (1))))))
  (sSeq (sRow 0 2 (e2 (op2 modD) (e1 (op1 intD) (e2 (op2 addD) (e2 (op2 addD) (e2 (op2 mulI) (eRowG 0 2) (eC (.int (48271)))) (eV 3)) (eC (.int (11))))) (eC (.int (2147483647)))))
  (sSeq (sIf (tV (e2 (op2 geD) (eV 3) (e2 (op2 powD) (eC (.int (10))) (eC (.int (18)))))) (sRow 0 3 (e2 (op2 fdivD) (eV 3) (eV 1))) (sNil))
  (sRet (e2 (op2 modD) (e1 (op1 intD) (eV 3)) (eV 1))))))))
noncomputable def F_law_taken (Γ : Cfg) : List D → M D := runD 4 (B_law_taken Γ)
noncomputable def B_law_pick (Γ : Cfg) : SM :=
  sRet (e2 (op2 ixA) (eV 1) (eCall (F_law_taken Γ) [eV 0, e1 (op1 lenD) (eV 1)]))
noncomputable def F_law_pick (Γ : Cfg) : List D → M D := runD 2 (B_law_pick Γ)
noncomputable def B_law_ways (Γ : Cfg) : SM :=
  sRet (eLst [eC (.str [97, 108, 108, 111, 119, 32, 111, 118, 101, 114]), eC (.str [97, 108, 119, 97, 121, 115, 32, 97, 108, 108, 111, 119]), eC (.str [97, 108, 119, 97, 121, 115, 32, 100, 101, 110, 121]), eC (.str [98, 111, 116, 104, 32, 101, 110, 100, 115]), eC (.str [100, 101, 110, 121, 32, 111, 118, 101, 114]), eC (.str [102, 105, 114, 115, 116]), eC (.str [105, 115, 108, 97, 110, 100]), eC (.str [108, 97, 115, 116]), eC (.str [109, 111, 115, 116, 32, 111, 114, 32, 97, 108, 108, 111, 119]), eC (.str [109, 111, 115, 116, 32, 111, 114, 32, 100, 101, 110, 121]), eC (.str [109, 111, 115, 116, 32, 111, 114, 32, 102, 105, 114, 115, 116]), eC (.str [109, 111, 115, 116, 32, 111, 114, 32, 108, 97, 115, 116]), eC (.str [111, 100, 100])])
noncomputable def F_law_ways (Γ : Cfg) : List D → M D := runD 0 (B_law_ways Γ)
noncomputable def B_law_promises (Γ : Cfg) : SM :=
  sRet (eLst [eC (.str [97, 103, 114, 101, 101, 100]), eC (.str [101, 118, 101, 110]), eC (.str [103, 114, 111, 119, 105, 110, 103]), eC (.str [104, 101, 97, 114, 100]), eC (.str [107, 101, 112, 116]), eC (.str [109, 105, 120, 101, 100]), eC (.str [109, 111, 115, 116]), eC (.str [111, 114, 100, 101, 114]), eC (.str [112, 97, 114, 116, 115]), eC (.str [114, 101, 112, 101, 97, 116])])
noncomputable def F_law_promises (Γ : Cfg) : List D → M D := runD 0 (B_law_promises Γ)
noncomputable def B_law_turned (Γ : Cfg) : SM :=
  sRet (eM1 joinD (eC (.str [])) (eLc 1 (iS (eV 0)) (tYesD) (eIf (tV (e2 (op2 eqD) (eV 1) (eC (.str [43])))) (eC (.str [45])) (eC (.str [43])))))
noncomputable def F_law_turned (Γ : Cfg) : List D → M D := runD 2 (B_law_turned Γ)
noncomputable def B_law_row (Γ : Cfg) : SM :=
  sRet (eM1 joinD (eC (.str [])) (eLc 2 (iR1 (e2 (op2 addD) (eC (.int (1))) (eCall (F_law_taken Γ) [eV 0, eV 1]))) (tYesD) (eCall (F_law_pick Γ) [eV 0, eLst [eC (.str [43]), eC (.str [45])]])))
noncomputable def F_law_row (Γ : Cfg) : List D → M D := runD 3 (B_law_row Γ)
noncomputable def B_law_word (Γ : Cfg) : SM :=
  sRet (e2 (op2 ixA) (eDisp [([43], eC (.str [97, 108, 108, 111, 119])), ([45], eC (.str [100, 101, 110, 121]))]) (eV 0))
noncomputable def F_law_word (Γ : Cfg) : List D → M D := runD 1 (B_law_word Γ)
noncomputable def B_law_voices (Γ : Cfg) : SM :=
  sRet (e1 (op1 tupD) (eLc 1 (iS (eV 0)) (tYesD) (eCall (F_law_word Γ) [eV 1])))
noncomputable def F_law_voices (Γ : Cfg) : List D → M D := runD 2 (B_law_voices Γ)
noncomputable def B_law_mirror (Γ : Cfg) : SM :=
  sSeq (sIf (tV (e2 (op2 inD) (eV 0) (eLst [eC (.str [102, 105, 114, 115, 116]), eC (.str [108, 97, 115, 116]), eC (.str [109, 111, 115, 116, 32, 111, 114, 32, 102, 105, 114, 115, 116]), eC (.str [109, 111, 115, 116, 32, 111, 114, 32, 108, 97, 115, 116])]))) (sRet (eV 0)) (sNil))
  (sSeq (sUn 1)
  (sSeq (sDispO 1 [([97, 108, 108, 111, 119, 32, 111, 118, 101, 114], eC (.str [100, 101, 110, 121, 32, 111, 118, 101, 114])), ([100, 101, 110, 121, 32, 111, 118, 101, 114], eC (.str [97, 108, 108, 111, 119, 32, 111, 118, 101, 114])), ([97, 108, 119, 97, 121, 115, 32, 97, 108, 108, 111, 119], eC (.str [97, 108, 119, 97, 121, 115, 32, 100, 101, 110, 121])), ([97, 108, 119, 97, 121, 115, 32, 100, 101, 110, 121], eC (.str [97, 108, 119, 97, 121, 115, 32, 97, 108, 108, 111, 119]))])
  (sSeq (sPut2O 1 [109, 111, 115, 116, 32, 111, 114, 32, 97, 108, 108, 111, 119] [109, 111, 115, 116, 32, 111, 114, 32, 100, 101, 110, 121] (eC (.str [109, 111, 115, 116, 32, 111, 114, 32, 100, 101, 110, 121])) (eC (.str [109, 111, 115, 116, 32, 111, 114, 32, 97, 108, 108, 111, 119])))
  (sRet (eFrz 1 (eGet1 1 (eV 0)))))))
noncomputable def F_law_mirror (Γ : Cfg) : List D → M D := runD 2 (B_law_mirror Γ)
noncomputable def B_law_back (Γ : Cfg) : SM :=
  sSeq (sSet 1 (eDisp [([102, 105, 114, 115, 116], eC (.str [108, 97, 115, 116])), ([108, 97, 115, 116], eC (.str [102, 105, 114, 115, 116])), ([109, 111, 115, 116, 32, 111, 114, 32, 102, 105, 114, 115, 116], eC (.str [109, 111, 115, 116, 32, 111, 114, 32, 108, 97, 115, 116])), ([109, 111, 115, 116, 32, 111, 114, 32, 108, 97, 115, 116], eC (.str [109, 111, 115, 116, 32, 111, 114, 32, 102, 105, 114, 115, 116]))]))
  (sRet (eGet2 1 (eV 0) (eV 0)))
noncomputable def F_law_back (Γ : Cfg) : List D → M D := runD 2 (B_law_back Γ)
noncomputable def B_ways (Γ : Cfg) : SM :=
  sRet (eC w_WAYS)
noncomputable def F_ways (Γ : Cfg) : List D → M D := runD 0 (B_ways Γ)
noncomputable def B_law_alike (Γ : Cfg) (FR : List D → M D) : SM :=
  sSeq (sIf (tV (e1 (op1 (isiD ["tuple", "list"])) (eV 1))) (sSeq (sIf (tOr (tNot (tV (e1 (op1 (isiD ["tuple", "list"])) (eV 0)))) (tV (e2 (op2 neD) (e1 (op1 (isiD ["list"])) (eV 0)) (e1 (op1 (isiD ["list"])) (eV 1))))) (sRet (eC (.bl false))) (sNil))
    (sSeq (sIf (tV (e2 (op2 neD) (e1 (op1 lenD) (eV 0)) (e1 (op1 lenD) (eV 1)))) (sRet (eC (.bl false))) (sNil))
    (sRet (e2 (op2 eqD) (eLc 2 (iR1 (e1 (op1 lenD) (eV 1))) (tNot (tV (eCall FR [e2 (op2 ixA) (eV 0) (eV 2), e2 (op2 ixA) (eV 1) (eV 2)]))) (eV 2)) (eLst []))))) (sNil))
  (sSeq (sIf (tOr (tV (e2 (op2 isD) (eV 1) (eC .non))) (tV (e1 (op1 (isiD ["str"])) (eV 1)))) (sRet (eAnd (e2 (op2 eqD) (eV 0) (eV 1)) (e2 (op2 eqD) (e1 (op1 (isiD ["str"])) (eV 0)) (e1 (op1 (isiD ["str"])) (eV 1))))) (sNil))
  (sRet (eAnd (e1 (op1 (isiD ["int"])) (eV 0)) (eAnd (e2 (op2 eqD) (e1 (op1 (isiD ["bool"])) (eV 0)) (e1 (op1 (isiD ["bool"])) (eV 1))) (e2 (op2 eqD) (eV 0) (eV 1))))))
noncomputable def F_law_alike (Γ : Cfg) : Nat → List D → M D
  | 0 => fun _ => mbad
  | n + 1 => runD 3 (B_law_alike Γ (F_law_alike Γ n))
noncomputable def B_law_answer (Γ : Cfg) : SM :=
  sSeq (sSet 2 (e2 (op2 subD) (eM1 countS (eV 1) (eC (.str [43]))) (eM1 countS (eV 1) (eC (.str [45])))))
  (sSeq (sIf (tV (e2 (op2 eqD) (eSl (eV 0) pNo (pSo (eC (.int (7))))) (eC (.str [109, 111, 115, 116, 32, 111, 114])))) (sSeq (sSet 3 (eDisp [([97, 108, 108, 111, 119], eC (.str [43])), ([100, 101, 110, 121], eC (.str [45])), ([102, 105, 114, 115, 116], e2 (op2 ixA) (eV 1) (eC (.int (0)))), ([108, 97, 115, 116], e2 (op2 ixA) (eV 1) (e1 (op1 negD) (eC (.int (1)))))]))
    (sRet (eIf (tV (e2 (op2 eqD) (eV 2) (eC (.int (0))))) (e2 (op2 ixA) (eV 3) (eSl (eV 0) (pSo (eC (.int (8)))) pNo)) (eIf (tV (e2 (op2 gtD) (eV 2) (eC (.int (0))))) (eC (.str [43])) (eC (.str [45])))))) (sNil))
  (sSeq (sIf (tV (e2 (op2 inD) (eV 0) (eLst [eC (.str [102, 105, 114, 115, 116]), eC (.str [108, 97, 115, 116])]))) (sRet (e2 (op2 ixA) (eV 1) (eIf (tV (e2 (op2 eqD) (eV 0) (eC (.str [102, 105, 114, 115, 116])))) (eC (.int (0))) (e2 (op2 subD) (e1 (op1 lenD) (eV 1)) (eC (.int (1))))))) (sNil))
  (sSeq (sSet 4 (e2 (op2 eqD) (eV 0) (eC (.str [97, 108, 119, 97, 121, 115, 32, 97, 108, 108, 111, 119]))))
  (sSeq (sIf (tV (e2 (op2 eqD) (eV 0) (eC (.str [97, 108, 108, 111, 119, 32, 111, 118, 101, 114])))) (sSet 4 (e2 (op2 gtD) (eM1 countS (eV 1) (eC (.str [43]))) (eC (.int (0))))) (sNil))
  (sSeq (sIf (tV (e2 (op2 eqD) (eV 0) (eC (.str [100, 101, 110, 121, 32, 111, 118, 101, 114])))) (sSet 4 (e2 (op2 eqD) (eM1 countS (eV 1) (eC (.str [45]))) (eC (.int (0))))) (sNil))
  (sSeq (sIf (tV (e2 (op2 eqD) (eV 0) (eC (.str [111, 100, 100])))) (sSet 4 (e2 (op2 inD) (eM1 countS (eV 1) (eC (.str [45]))) (eLst [eC (.int (0)), eC (.int (2)), eC (.int (4)), eC (.int (6)), eC (.int (8)), eC (.int (10)), eC (.int (12))]))) (sNil))
  (sSeq (sIf (tV (e2 (op2 eqD) (eV 0) (eC (.str [98, 111, 116, 104, 32, 101, 110, 100, 115])))) (sSet 4 (e2 (op2 eqD) (e2 (op2 addD) (eSl (eV 1) pNo (pSo (eC (.int (1))))) (eSl (eV 1) (pSo (e1 (op1 negD) (eC (.int (1))))) pNo)) (eC (.str [43, 43])))) (sNil))
  (sSeq (sIf (tV (e2 (op2 eqD) (eV 0) (eC (.str [105, 115, 108, 97, 110, 100])))) (sSeq (sSet 5 (eLc 6 (iR2 (eC (.int (1))) (e1 (op1 lenD) (eV 1))) (tV (e2 (op2 neD) (e2 (op2 ixA) (eV 1) (eV 6)) (e2 (op2 ixA) (eV 1) (e2 (op2 subD) (eV 6) (eC (.int (1))))))) (eV 6)))
    (sSet 4 (eOr (eAnd (e2 (op2 eqD) (e2 (op2 ixA) (eV 1) (eC (.int (0)))) (eC (.str [43]))) (e2 (op2 eqD) (eV 5) (eLst []))) (eAnd (e2 (op2 eqD) (e2 (op2 ixA) (eV 1) (eC (.int (0)))) (eC (.str [45]))) (e2 (op2 eqD) (e1 (op1 lenD) (eV 5)) (eC (.int (2)))))))) (sNil))
  (sRet (eIf (tV (eV 4)) (eC (.str [43])) (eC (.str [45]))))))))))))
noncomputable def F_law_answer (Γ : Cfg) : List D → M D := runD 7 (B_law_answer Γ)
noncomputable def B_law_flip (Γ : Cfg) : SM :=
  sRet (e2 (op2 addD) (e2 (op2 addD) (eSl (eV 0) pNo (pSo (eV 1))) (eCall (F_law_turned Γ) [e2 (op2 ixA) (eV 0) (eV 1)])) (eSl (eV 0) (pSo (e2 (op2 addD) (eV 1) (eC (.int (1))))) pNo))
noncomputable def F_law_flip (Γ : Cfg) : List D → M D := runD 2 (B_law_flip Γ)
noncomputable def B_law_rows (Γ : Cfg) : SM :=
  sSeq (sSet 1 (eLst [eC (.str [])]))
  (sSeq (sFor 2 (iR1 (eV 0)) (sSeq (sSet 3 (eLst []))
    (sSeq (sFor 4 (iS (eV 1)) (sSet 3 (e2 (op2 addD) (eV 3) (eLst [e2 (op2 addD) (eV 4) (eC (.str [43])), e2 (op2 addD) (eV 4) (eC (.str [45]))]))))
    (sSet 1 (eV 3)))))
  (sRet (eV 1)))
noncomputable def F_law_rows (Γ : Cfg) : List D → M D := runD 5 (B_law_rows Γ)
noncomputable def B_agreed (Γ : Cfg) : SM :=
  sRet (eStopG false 1 (iKT (eV 0)) (tV (e2 (op2 eqD) (eTCount (eV 1) (e2 (op2 ixA) (eV 1) (eC (.int (0))))) (e1 (op1 lenD) (eV 1)))) (e2 (op2 eqD) (e2 (op2 (ixT Γ.hs)) (eV 0) (eV 1)) (e2 (op2 ixA) (eV 1) (eC (.int (0))))))
noncomputable def F_agreed (Γ : Cfg) : List D → M D := runD 2 (B_agreed Γ)
noncomputable def B_turned_row (Γ : Cfg) : SM :=
  sRet (eTupG 1 (iS (eV 0)) (tYesD) (eCall (F_turned Γ) [eV 1]))
noncomputable def F_turned_row (Γ : Cfg) : List D → M D := runD 2 (B_turned_row Γ)
noncomputable def B_even (Γ : Cfg) : SM :=
  sRet (eStopG false 1 (iKT (eV 0)) (tYesD) (e2 (op2 eqD) (e2 (op2 (ixT Γ.hs)) (eV 0) (eCall (F_turned_row Γ) [eV 1])) (eCall (F_turned Γ) [e2 (op2 (ixT Γ.hs)) (eV 0) (eV 1)])))
noncomputable def F_even (Γ : Cfg) : List D → M D := runD 2 (B_even Γ)
noncomputable def B_growing (Γ : Cfg) : SM :=
  sSeq (sFor 1 (iKT (eV 0)) (sForP 2 3 (iEn (eV 1)) (sIf (tAnd (tV (e2 (op2 eqD) (eV 3) (eC (.str [100, 101, 110, 121])))) (tAnd (tV (e2 (op2 eqD) (e2 (op2 (ixT Γ.hs)) (eV 0) (eV 1)) (eC (.str [97, 108, 108, 111, 119])))) (tV (e2 (op2 eqD) (e2 (op2 (ixT Γ.hs)) (eV 0) (eCall (F_turned_at Γ) [eV 1, eV 2])) (eC (.str [100, 101, 110, 121])))))) (sRet (eC (.bl false))) (sNil))))
  (sRet (eC (.bl true)))
noncomputable def F_growing (Γ : Cfg) : List D → M D := runD 4 (B_growing Γ)
noncomputable def B_heard (Γ : Cfg) : SM :=
  sSeq (sSet 1 (eSc2 Γ.sp 3 4 (iKT (eV 0)) (iR1 (e1 (op1 lenD) (eV 3))) (tYesD) (eTup [e1 (op1 lenD) (eV 3), eV 4])))
  (sSeq (sSet 2 (eSc2 Γ.sp 3 4 (iKT (eV 0)) (iR1 (e1 (op1 lenD) (eV 3))) (tV (e2 (op2 neD) (e2 (op2 (ixT Γ.hs)) (eV 0) (eV 3)) (e2 (op2 (ixT Γ.hs)) (eV 0) (eCall (F_turned_at Γ) [eV 3, eV 4])))) (eTup [e1 (op1 lenD) (eV 3), eV 4])))
  (sRet (e2 (op2 (eqSt Γ.sp)) (eV 1) (eV 2))))
noncomputable def F_heard (Γ : Cfg) : List D → M D := runD 5 (B_heard Γ)
noncomputable def B_kept (Γ : Cfg) : SM :=
  sSeq (sFor 1 (iKT (eV 0)) (sFor 2 (iR1 (e2 (op2 addD) (e1 (op1 lenD) (eV 1)) (eC (.int (1))))) (sSeq (sSet 3 (e2 (op2 addD) (e2 (op2 addD) (eSl (eV 1) pNo (pSo (eV 2))) (eTup [e2 (op2 (ixT Γ.hs)) (eV 0) (eV 1)])) (eSl (eV 1) (pSo (eV 2)) pNo)))
      (sIf (tAnd (tV (e2 (op2 (inT Γ.hs)) (eV 3) (eV 0))) (tV (e2 (op2 neD) (e2 (op2 (ixT Γ.hs)) (eV 0) (eV 3)) (e2 (op2 (ixT Γ.hs)) (eV 0) (eV 1))))) (sRet (eC (.bl false))) (sNil)))))
  (sRet (eC (.bl true)))
noncomputable def F_kept (Γ : Cfg) : List D → M D := runD 4 (B_kept Γ)
noncomputable def B_mixed (Γ : Cfg) : SM :=
  sSeq (sIf (tV (e2 (op2 ltD) (e1 (op1 (lenT Γ.hs)) (eV 0)) (e1 (op1 lenD) (eC w_SMALL_ROWS)))) (sRet (eC (.bl true))) (sNil))
  (sSeq (sSet 1 (eLc 2 (iKT (eV 0)) (tAnd (tV (e2 (op2 inD) (eC (.str [97, 108, 108, 111, 119])) (eV 2))) (tV (e2 (op2 inD) (eC (.str [100, 101, 110, 121])) (eV 2)))) (e2 (op2 (ixT Γ.hs)) (eV 0) (eV 2))))
  (sRet (eAnd (e2 (op2 inD) (eC (.str [97, 108, 108, 111, 119])) (eV 1)) (e2 (op2 inD) (eC (.str [100, 101, 110, 121])) (eV 1)))))
noncomputable def F_mixed (Γ : Cfg) : List D → M D := runD 3 (B_mixed Γ)
noncomputable def B_most (Γ : Cfg) : SM :=
  sRet (eStopG false 1 (iKT (eV 0)) (tYesD) (e2 (op2 inD) (eCall (F_greater_voice Γ) [eV 1]) (eTup [eC .non, e2 (op2 (ixT Γ.hs)) (eV 0) (eV 1)])))
noncomputable def F_most (Γ : Cfg) : List D → M D := runD 2 (B_most Γ)
noncomputable def B_order (Γ : Cfg) : SM :=
  sSeq (sFor 1 (iKT (eV 0)) (sFor 2 (iR1 (e2 (op2 subD) (e1 (op1 lenD) (eV 1)) (eC (.int (1))))) (sSeq (sSet 3 (e2 (op2 addD) (e2 (op2 addD) (eSl (eV 1) pNo (pSo (eV 2))) (eTup [e2 (op2 ixA) (eV 1) (e2 (op2 addD) (eV 2) (eC (.int (1)))), e2 (op2 ixA) (eV 1) (eV 2)])) (eSl (eV 1) (pSo (e2 (op2 addD) (eV 2) (eC (.int (2))))) pNo)))
      (sIf (tV (e2 (op2 neD) (e2 (op2 (ixT Γ.hs)) (eV 0) (eV 3)) (e2 (op2 (ixT Γ.hs)) (eV 0) (eV 1)))) (sRet (eC (.bl false))) (sNil)))))
  (sRet (eC (.bl true)))
noncomputable def F_order (Γ : Cfg) : List D → M D := runD 4 (B_order Γ)
noncomputable def B_parts (Γ : Cfg) : SM :=
  sSeq (sFor 1 (iKT (eV 0)) (sFor 2 (iR2 (eC (.int (1))) (e1 (op1 lenD) (eV 1))) (sIf (tV (e2 (op2 neD) (e2 (op2 (ixT Γ.hs)) (eV 0) (eV 1)) (e2 (op2 (ixT Γ.hs)) (eV 0) (eTup [e2 (op2 (ixT Γ.hs)) (eV 0) (eSl (eV 1) pNo (pSo (eV 2))), e2 (op2 (ixT Γ.hs)) (eV 0) (eSl (eV 1) (pSo (eV 2)) pNo)])))) (sRet (eC (.bl false))) (sNil))))
  (sRet (eC (.bl true)))
noncomputable def F_parts (Γ : Cfg) : List D → M D := runD 3 (B_parts Γ)
noncomputable def B_repeat (Γ : Cfg) : SM :=
  sSeq (sFor 1 (iKT (eV 0)) (sFor 2 (iR2 (eC (.int (1))) (e1 (op1 lenD) (eV 1))) (sSeq (sSet 3 (e2 (op2 addD) (eSl (eV 1) pNo (pSo (eV 2))) (eSl (eV 1) (pSo (e2 (op2 addD) (eV 2) (eC (.int (1))))) pNo)))
      (sIf (tAnd (tV (e2 (op2 eqD) (e2 (op2 ixA) (eV 1) (eV 2)) (e2 (op2 ixA) (eV 1) (e2 (op2 subD) (eV 2) (eC (.int (1))))))) (tV (e2 (op2 neD) (e2 (op2 (ixT Γ.hs)) (eV 0) (eV 1)) (e2 (op2 (ixT Γ.hs)) (eV 0) (eV 3))))) (sRet (eC (.bl false))) (sNil)))))
  (sRet (eC (.bl true)))
noncomputable def F_repeat (Γ : Cfg) : List D → M D := runD 4 (B_repeat Γ)
noncomputable def B_check_table (Γ : Cfg) : SM :=
  sSeq (sIf (tOr (tNot (tV (e1 (op1 (isiD ["tuple"])) (eV 0)))) (tV (e2 (op2 neD) (e1 (op1 lenD) (eV 0)) (e1 (op1 lenD) (eC w_SMALL_ROWS))))) (sBad) (sNil))
  (sSeq (sSet 1 (eCall (F_first_wrong Γ) [eV 0]))
  (sIf (tV (e2 (op2 isNotD) (eV 1) (eC .non))) (sBad) (sNil)))
noncomputable def F_check_table (Γ : Cfg) : List D → M D := runD 2 (B_check_table Γ)
noncomputable def B_promises (Γ : Cfg) : SM :=
  sRet (eC w_PROMISES)
noncomputable def F_promises (Γ : Cfg) : List D → M D := runD 0 (B_promises Γ)
noncomputable def fs_CHECKS (Γ : Cfg) : Nat → Option (List D → M D)
  | 33 => if Γ.ck 33 then some (F_agreed Γ) else none
  | 34 => if Γ.ck 34 then some (F_even Γ) else none
  | 35 => if Γ.ck 35 then some (F_growing Γ) else none
  | 36 => if Γ.ck 36 then some (F_heard Γ) else none
  | 37 => if Γ.ck 37 then some (F_kept Γ) else none
  | 38 => if Γ.ck 38 then some (F_mixed Γ) else none
  | 39 => if Γ.ck 39 then some (F_most Γ) else none
  | 40 => if Γ.ck 40 then some (F_order Γ) else none
  | 41 => if Γ.ck 41 then some (F_parts Γ) else none
  | 42 => if Γ.ck 42 then some (F_repeat Γ) else none
  | _ => none
noncomputable def B_keeps_all (Γ : Cfg) : SM :=
  sSeq (sSet 2 (eDz Γ.hs 5 6 (iZp (eC w_SMALL_ROWS) (eV 0))))
  (sSeq (sFor 3 (iS (eV 1)) (sSeq (sSet 4 (e1 (op1 (tblD (tb_CHECKS Γ))) (eV 3)))
    (sIf (tNot (tV (eCallN Γ.A (fs_CHECKS Γ) 4 [eV 2]))) (sRet (eC (.bl false))) (sNil))))
  (sRet (eC (.bl true))))
noncomputable def F_keeps_all (Γ : Cfg) : List D → M D := runD 7 (B_keeps_all Γ)
noncomputable def B_keeps (Γ : Cfg) : SM :=
  sSeq (sEx (eCall (F_check_table Γ) [eV 0]))
  (sSeq (sEx (eCall (F_check_promise Γ) [eV 1]))
  (sRet (eCall (F_keeps_all Γ) [eV 0, eTup [eV 1]])))
noncomputable def F_keeps (Γ : Cfg) : List D → M D := runD 2 (B_keeps Γ)
noncomputable def B_table_of (Γ : Cfg) : SM :=
  sSeq (sEx (eCall (F_check_way Γ) [eV 0]))
  (sRet (eTupG 1 (iS (eC w_SMALL_ROWS)) (tYesD) (eCall (F_told_answer Γ) [eV 0, eV 1])))
noncomputable def F_table_of (Γ : Cfg) : List D → M D := runD 2 (B_table_of Γ)
noncomputable def B_law_is (Γ : Cfg) : SM :=
  sRet (eAnd (e1 (op1 (isiD ["bool"])) (eV 0)) (e2 (op2 eqD) (eV 0) (eV 1)))
noncomputable def F_law_is (Γ : Cfg) : List D → M D := runD 2 (B_law_is Γ)
noncomputable def B_law_short (Γ : Cfg) : SM :=
  sSeq (sSet 1 (eLst []))
  (sSeq (sFor 2 (iR2 (eC (.int (1))) (e2 (op2 addD) (eV 0) (eC (.int (1))))) (sSet 1 (e2 (op2 addD) (eV 1) (eCall (F_law_rows Γ) [eV 2]))))
  (sRet (eV 1)))
noncomputable def F_law_short (Γ : Cfg) : List D → M D := runD 3 (B_law_short Γ)
noncomputable def B_law_torn (Γ : Cfg) : SM :=
  sSeq (sPar3 3 4 5 (e2 (op2 ixA) (eV 0) (eV 2)) (eLstR (e1 (op1 lenD) (eV 2))) (e2 (op2 subD) (eM1 countS (eV 2) (eC (.str [43]))) (eM1 countS (eV 2) (eC (.str [45])))))
  (sSeq (sIf (tV (e2 (op2 eqD) (eV 1) (eC (.str [97, 103, 114, 101, 101, 100])))) (sRet (eAnd (e2 (op2 eqD) (eV 2) (e2 (op2 mulT) (e2 (op2 ixA) (eV 2) (eC (.int (0)))) (e1 (op1 lenD) (eV 2)))) (e2 (op2 neD) (eV 3) (e2 (op2 ixA) (eV 2) (eC (.int (0))))))) (sNil))
  (sSeq (sIf (tV (e2 (op2 eqD) (eV 1) (eC (.str [101, 118, 101, 110])))) (sRet (e2 (op2 eqD) (e2 (op2 ixA) (eV 0) (eCall (F_law_turned Γ) [eV 2])) (eV 3))) (sNil))
  (sSeq (sIf (tV (e2 (op2 eqD) (eV 1) (eC (.str [103, 114, 111, 119, 105, 110, 103])))) (sRet (eAnd (e2 (op2 eqD) (eV 3) (eC (.str [43]))) (e2 (op2 neD) (eLc 6 (iS (eV 4)) (tAnd (tV (e2 (op2 eqD) (e2 (op2 ixA) (eV 2) (eV 6)) (eC (.str [45])))) (tV (e2 (op2 eqD) (e2 (op2 ixA) (eV 0) (eCall (F_law_flip Γ) [eV 2, eV 6])) (eC (.str [45]))))) (eV 6)) (eLst [])))) (sNil))
  (sSeq (sIf (tV (e2 (op2 eqD) (eV 1) (eC (.str [109, 111, 115, 116])))) (sRet (eAnd (e2 (op2 neD) (eV 5) (eC (.int (0)))) (e2 (op2 neD) (eV 3) (eIf (tV (e2 (op2 gtD) (eV 5) (eC (.int (0))))) (eC (.str [43])) (eC (.str [45])))))) (sNil))
  (sSeq (sIf (tV (e2 (op2 eqD) (eV 1) (eC (.str [111, 114, 100, 101, 114])))) (sRet (e2 (op2 neD) (eLc 6 (iS (eSl (eV 4) (pSo (eC (.int (1)))) pNo)) (tV (e2 (op2 neD) (e2 (op2 ixA) (eV 0) (e2 (op2 addD) (e2 (op2 addD) (e2 (op2 addD) (eSl (eV 2) pNo (pSo (e2 (op2 subD) (eV 6) (eC (.int (1)))))) (e2 (op2 ixA) (eV 2) (eV 6))) (e2 (op2 ixA) (eV 2) (e2 (op2 subD) (eV 6) (eC (.int (1)))))) (eSl (eV 2) (pSo (e2 (op2 addD) (eV 6) (eC (.int (1))))) pNo))) (eV 3))) (eV 6)) (eLst []))) (sNil))
  (sSeq (sIf (tV (e2 (op2 eqD) (eV 1) (eC (.str [112, 97, 114, 116, 115])))) (sRet (e2 (op2 neD) (eLc 6 (iS (eSl (eV 4) (pSo (eC (.int (1)))) pNo)) (tV (e2 (op2 neD) (e2 (op2 ixA) (eV 0) (e2 (op2 addD) (e2 (op2 ixA) (eV 0) (eSl (eV 2) pNo (pSo (eV 6)))) (e2 (op2 ixA) (eV 0) (eSl (eV 2) (pSo (eV 6)) pNo)))) (eV 3))) (eV 6)) (eLst []))) (sNil))
  (sSeq (sIf (tV (e2 (op2 eqD) (eV 1) (eC (.str [114, 101, 112, 101, 97, 116])))) (sRet (e2 (op2 neD) (eLc 6 (iS (eV 4)) (tV (e2 (op2 neD) (eGet2 0 (e2 (op2 addD) (e2 (op2 addD) (eSl (eV 2) pNo (pSo (eV 6))) (e2 (op2 ixA) (eV 2) (eV 6))) (eSl (eV 2) (pSo (eV 6)) pNo)) (eV 3)) (eV 3))) (eV 6)) (eLst []))) (sNil))
  (sRet (e2 (op2 neD) (eLc 6 (iS (e2 (op2 addD) (eV 4) (eLst [e1 (op1 lenD) (eV 2)]))) (tV (e2 (op2 neD) (eGet2 0 (e2 (op2 addD) (e2 (op2 addD) (eSl (eV 2) pNo (pSo (eV 6))) (eV 3)) (eSl (eV 2) (pSo (eV 6)) pNo)) (eV 3)) (eV 3))) (eV 6)) (eLst []))))))))))
noncomputable def F_law_torn (Γ : Cfg) : List D → M D := runD 7 (B_law_torn Γ)
noncomputable def B_law_deaf (Γ : Cfg) : SM :=
  sSeq (sSet 2 (eCall (F_law_rows Γ) [eV 1]))
  (sRet (e2 (op2 neD) (eLc 3 (iR1 (eV 1)) (tV (e2 (op2 eqD) (eLc 4 (iS (eV 2)) (tV (e2 (op2 neD) (e2 (op2 ixA) (eV 0) (eV 4)) (e2 (op2 ixA) (eV 0) (eCall (F_law_flip Γ) [eV 4, eV 3])))) (eV 4)) (eLst []))) (eV 3)) (eLst [])))
noncomputable def F_law_deaf (Γ : Cfg) : List D → M D := runD 5 (B_law_deaf Γ)
noncomputable def B_law_fine (Γ : Cfg) : SM :=
  sSeq (sIf (tV (e2 (op2 eqD) (eV 1) (eC (.str [104, 101, 97, 114, 100])))) (sRet (e2 (op2 eqD) (eLc 4 (iR2 (eC (.int (1))) (e2 (op2 addD) (eV 2) (eC (.int (1))))) (tV (eCall (F_law_deaf Γ) [eV 0, eV 4])) (eV 4)) (eLst []))) (sNil))
  (sSeq (sSet 3 (eCall (F_law_short Γ) [eV 2]))
  (sSeq (sIf (tV (e2 (op2 eqD) (eV 1) (eC (.str [109, 105, 120, 101, 100])))) (sRet (e2 (op2 eqD) (e1 (op1 lenSetD) (eLc 5 (iS (eV 3)) (tV (e2 (op2 eqD) (e1 (op1 lenSetD) (eV 5)) (eC (.int (2))))) (e2 (op2 ixA) (eV 0) (eV 5)))) (eC (.int (2))))) (sNil))
  (sRet (e2 (op2 eqD) (eLc 5 (iS (eV 3)) (tV (eCall (F_law_torn Γ) [eV 0, eV 1, eV 5])) (eV 5)) (eLst [])))))
noncomputable def F_law_fine (Γ : Cfg) : List D → M D := runD 6 (B_law_fine Γ)
noncomputable def B_law_table (Γ : Cfg) : SM :=
  sSeq (sUn 1)
  (sSeq (sNewP 1 2 (eCall (F_law_pick Γ) [eV 0, eCall (F_law_ways Γ) []]))
  (sSeq (sSet 3 (eCall (F_law_taken Γ) [eV 0, eC (.int (3))]))
  (sSeq (sFor 4 (iS (eCall (F_law_short Γ) [eC (.int (3))])) (sPutO 1 (eV 4) (eIf (tV (e2 (op2 eqD) (eV 3) (eC (.int (2))))) (eCall (F_law_pick Γ) [eV 0, eLst [eC (.str [43]), eC (.str [45])]]) (eCall (F_law_answer Γ) [eV 2, eV 4]))))
  (sSeq (sSet 5 (eCall (F_law_pick Γ) [eV 0, eCall (F_law_short Γ) [eC (.int (3))]]))
  (sSeq (sPutO 1 (eV 5) (eFrz 1 (eIf (tV (e2 (op2 eqD) (eV 3) (eC (.int (1))))) (eCall (F_law_turned Γ) [e2 (op2 ixA) (eV 1) (eV 5)]) (e2 (op2 ixA) (eV 1) (eV 5)))))
  (sSeq (sUn 1)
  (sRet (eV 1))))))))
noncomputable def F_law_table (Γ : Cfg) : List D → M D := runD 6 (B_law_table Γ)
noncomputable def A_law_table (Γ : Cfg) : SM :=
  sSeq (sNewP 1 2 (eCall (F_law_pick Γ) [eV 0, eCall (F_law_ways Γ) []]))
  (sSeq (sSet 3 (eCall (F_law_taken Γ) [eV 0, eC (.int (3))]))
  (sSeq (sFor 4 (iS (eCall (F_law_short Γ) [eC (.int (3))])) (sPutO 1 (eV 4) (eIf (tV (e2 (op2 eqD) (eV 3) (eC (.int (2))))) (eCall (F_law_pick Γ) [eV 0, eLst [eC (.str [43]), eC (.str [45])]]) (eCall (F_law_answer Γ) [eV 2, eV 4]))))
  (sSeq (sSet 5 (eCall (F_law_pick Γ) [eV 0, eCall (F_law_short Γ) [eC (.int (3))]]))
  (sSeq (sPutO 1 (eV 5) (eFrz 1 (eIf (tV (e2 (op2 eqD) (eV 3) (eC (.int (1))))) (eCall (F_law_turned Γ) [e2 (op2 ixA) (eV 1) (eV 5)]) (e2 (op2 ixA) (eV 1) (eV 5)))))
  (sNil)))))
noncomputable def B_law_as_table (Γ : Cfg) : SM :=
  sRet (e1 (op1 tupD) (eLc 1 (iS (eCall (F_law_short Γ) [eC (.int (3))])) (tYesD) (eCall (F_law_word Γ) [e2 (op2 ixA) (eV 0) (eV 1)])))
noncomputable def F_law_as_table (Γ : Cfg) : List D → M D := runD 2 (B_law_as_table Γ)
noncomputable def B_with_more (Γ : Cfg) : SM :=
  sSeq (sSet 2 (e1 (op1 listD) (eV 0)))
  (sSeq (sFor 3 (iR1 (eV 1)) (sSet 2 (eLc2 4 5 (iS (eV 2)) (iS (eC w_VOICES)) (tYesD) (e2 (op2 addD) (eV 4) (eTup [eV 5])))))
  (sRet (eV 2)))
noncomputable def F_with_more (Γ : Cfg) : List D → M D := runD 6 (B_with_more Γ)
noncomputable def B_by_parts (Γ : Cfg) : SM :=
  sSeq (sSet 2 (eDz Γ.hs 5 4 (iZp (eC w_SMALL_ROWS) (eV 0))))
  (sSeq (sSet 3 (e2 (op2 (ixT Γ.hs)) (eV 2) (eSl (eV 1) pNo (pSo (eC (.int (1)))))))
  (sSeq (sFor 4 (iS (eSl (eV 1) (pSo (eC (.int (1)))) pNo)) (sSet 3 (e2 (op2 (ixT Γ.hs)) (eV 2) (eTup [eV 3, e2 (op2 (ixT Γ.hs)) (eV 2) (eTup [eV 4])]))))
  (sRet (eV 3))))
noncomputable def F_by_parts (Γ : Cfg) : List D → M D := runD 6 (B_by_parts Γ)
noncomputable def B_is_parts (Γ : Cfg) : SM :=
  sSeq (sIf (tOr (tNot (tV (e1 (op1 (isiD ["tuple"])) (eV 0)))) (tV (e2 (op2 neD) (e1 (op1 lenD) (eV 0)) (eC (.int (6)))))) (sRet (eC (.bl false))) (sNil))
  (sSeq (sIf (tNot (tV (eStopG false 2 (iS (eV 0)) (tYesD) (e2 (op2 inD) (eV 2) (eC w_VOICES))))) (sRet (eC (.bl false))) (sNil))
  (sSeq (sSet 1 (e2 (op2 addD) (eV 0) (eTupG 3 (iS (eSl (eC w_SMALL_ROWS) (pSo (eC (.int (6)))) pNo)) (tYesD) (eCall (F_by_parts Γ) [eV 0, eV 3]))))
  (sRet (eCall (F_keeps_all Γ) [eV 1, eTup [eC (.str [112, 97, 114, 116, 115])]]))))
noncomputable def F_is_parts (Γ : Cfg) : List D → M D := runD 4 (B_is_parts Γ)
noncomputable def B_parts_ways (Γ : Cfg) : SM :=
  sRet (eTupG 0 (iS (eCall (F_with_more Γ) [eLst [eTup []], eC (.int (6))])) (tV (eCall (F_is_parts Γ) [eV 0])) (eV 0))
noncomputable def F_parts_ways (Γ : Cfg) : List D → M D := runD 1 (B_parts_ways Γ)
noncomputable def B_parts_answer (Γ : Cfg) : SM :=
  sSeq (sIf (tNot (tV (eCall (F_is_parts Γ) [eV 0]))) (sRz Γ "NotParts") (sNil))
  (sSeq (sEx (eCall (F_check_row Γ) [eV 1]))
  (sRet (eCall (F_by_parts Γ) [eV 0, eV 1])))
noncomputable def F_parts_answer (Γ : Cfg) : List D → M D := runD 2 (B_parts_answer Γ)
noncomputable def B_law_by_parts (Γ : Cfg) (FR : List D → M D) : SM :=
  sSeq (sIf (tV (e2 (op2 ltD) (e1 (op1 lenD) (eV 1)) (eC (.int (2))))) (sRet (e2 (op2 ixA) (eV 0) (eV 1))) (sNil))
  (sSeq (sSet 3 (e2 (op2 addD) (eC (.int (1))) (eCall (F_law_taken Γ) [eV 2, e2 (op2 subD) (e1 (op1 lenD) (eV 1)) (eC (.int (1)))])))
  (sRet (e2 (op2 ixA) (eV 0) (e2 (op2 addD) (eCall FR [eV 0, eSl (eV 1) pNo (pSo (eV 3)), eV 2]) (eCall FR [eV 0, eSl (eV 1) (pSo (eV 3)) pNo, eV 2])))))
noncomputable def F_law_by_parts (Γ : Cfg) : Nat → List D → M D
  | 0 => fun _ => mbad
  | n + 1 => runD 4 (B_law_by_parts Γ (F_law_by_parts Γ n))
noncomputable def B_law_is_whole (Γ : Cfg) : SM :=
  sSeq (sFor 1 (iS (eCall (F_law_rows Γ) [eC (.int (2))])) (sIf (tV (e2 (op2 neD) (e2 (op2 ixA) (eV 0) (eV 1)) (e2 (op2 ixA) (eV 0) (e2 (op2 addD) (e2 (op2 ixA) (eV 0) (e2 (op2 ixA) (eV 1) (eC (.int (0))))) (e2 (op2 ixA) (eV 0) (e2 (op2 ixA) (eV 1) (eC (.int (1))))))))) (sRet (eC (.bl false))) (sNil)))
  (sSeq (sFor 1 (iS (eCall (F_law_rows Γ) [eC (.int (3))])) (sIf (tV (e2 (op2 neD) (e2 (op2 ixA) (eV 0) (e2 (op2 addD) (e2 (op2 ixA) (eV 0) (eSl (eV 1) pNo (pSo (eC (.int (2)))))) (e2 (op2 ixA) (eV 0) (e2 (op2 ixA) (eV 1) (eC (.int (2))))))) (e2 (op2 ixA) (eV 0) (e2 (op2 addD) (e2 (op2 ixA) (eV 0) (e2 (op2 ixA) (eV 1) (eC (.int (0))))) (e2 (op2 ixA) (eV 0) (eSl (eV 1) (pSo (eC (.int (1)))) pNo)))))) (sRet (eC (.bl false))) (sNil)))
  (sRet (eC (.bl true))))
noncomputable def F_law_is_whole (Γ : Cfg) : List D → M D := runD 2 (B_law_is_whole Γ)
noncomputable def B_check_text (Γ : Cfg) : SM :=
  sIf (tNot (tV (e1 (op1 (isiD ["str"])) (eV 0)))) (sRz Γ "NotText") (sNil)
noncomputable def F_check_text (Γ : Cfg) : List D → M D := runD 1 (B_check_text Γ)
noncomputable def B_text_of (Γ : Cfg) : SM :=
  sRet (eJoinG [] 1 (iS (eV 0)) (tYesD) (e1 (op1 (tblD (tb_SIGN_OF))) (eV 1)))
noncomputable def F_text_of (Γ : Cfg) : List D → M D := runD 2 (B_text_of Γ)
noncomputable def B_write_row (Γ : Cfg) : SM :=
  sSeq (sEx (eCall (F_check_row Γ) [eV 0]))
  (sRet (eCall (F_text_of Γ) [eV 0]))
noncomputable def F_write_row (Γ : Cfg) : List D → M D := runD 1 (B_write_row Γ)
noncomputable def B_read (Γ : Cfg) : SM :=
  sSeq (sIf (tNot (tV (eChain (op2 leD) (op2 leD) (eV 1) (e1 (op1 lenD) (eV 0)) (eV 2)))) (sRz Γ "InvalidText") (sNil))
  (sSeq (sIf (tNot (tV (eStopG false 3 (iS (eV 0)) (tYesD) (e1 (op1 (inK (ks_VOICE_OF))) (eV 3))))) (sRz Γ "InvalidText") (sNil))
  (sRet (eTupG 3 (iS (eV 0)) (tYesD) (e1 (op1 (tblD (tb_VOICE_OF))) (eV 3)))))
noncomputable def F_read (Γ : Cfg) : List D → M D := runD 4 (B_read Γ)
noncomputable def B_read_row (Γ : Cfg) : SM :=
  sSeq (sEx (eCall (F_check_text Γ) [eV 0]))
  (sRet (eCall (F_read Γ) [eV 0, eC (.int (1)), eC (.int (12))]))
noncomputable def F_read_row (Γ : Cfg) : List D → M D := runD 1 (B_read_row Γ)
noncomputable def B_write_table (Γ : Cfg) : SM :=
  sSeq (sEx (eCall (F_check_table Γ) [eV 0]))
  (sRet (eCall (F_text_of Γ) [eV 0]))
noncomputable def F_write_table (Γ : Cfg) : List D → M D := runD 1 (B_write_table Γ)
noncomputable def B_read_table (Γ : Cfg) : SM :=
  sSeq (sEx (eCall (F_check_text Γ) [eV 0]))
  (sRet (eCall (F_read Γ) [eV 0, e1 (op1 lenD) (eC w_SMALL_ROWS), e1 (op1 lenD) (eC w_SMALL_ROWS)]))
noncomputable def F_read_table (Γ : Cfg) : List D → M D := runD 1 (B_read_table Γ)
-- law_told (k08): Try
-- law_told_u (k09): Try
-- law_shown (k09): Attribute
-- wall (k10): While
noncomputable def B_check_promises (Γ : Cfg) : SM :=
  sSeq (sIf (tNot (tV (e1 (op1 (isiD ["tuple"])) (eV 0)))) (sRz Γ "BadPromises") (sNil))
  (sIf (tV (e2 (op2 neD) (eV 0) (eTupG 1 (iS (eC w_PROMISES)) (tV (e2 (op2 inD) (eV 1) (eV 0))) (eV 1)))) (sRz Γ "BadPromises") (sNil))
noncomputable def F_check_promises (Γ : Cfg) : List D → M D := runD 2 (B_check_promises Γ)
noncomputable def B_holds_all (Γ : Cfg) : SM :=
  sRet (eStopG false 2 (iS (eV 1)) (tYesD) (eCall (F_holds Γ) [eV 0, eV 2]))
noncomputable def F_holds_all (Γ : Cfg) : List D → M D := runD 3 (B_holds_all Γ)
noncomputable def B_keepers (Γ : Cfg) : SM :=
  sRet (eTupG 1 (iS (eC w_WAYS)) (tV (eCall (F_holds_all Γ) [eV 1, eV 0])) (eV 1))
noncomputable def F_keepers (Γ : Cfg) : List D → M D := runD 2 (B_keepers Γ)
noncomputable def B_can_hold (Γ : Cfg) : SM :=
  sSeq (sEx (eCall (F_check_promises Γ) [eV 0]))
  (sRet (e2 (op2 gtD) (e1 (op1 lenD) (eCall (F_keepers Γ) [eV 0])) (eC (.int (0)))))
noncomputable def F_can_hold (Γ : Cfg) : List D → M D := runD 1 (B_can_hold Γ)
noncomputable def B_keepers_u (Γ : Cfg) : SM :=
  sSeq (sEx (eCall (F_check_promises Γ) [eV 0]))
  (sRet (eCall (F_keepers Γ) [eV 0]))
noncomputable def F_keepers_u (Γ : Cfg) : List D → M D := runD 1 (B_keepers_u Γ)
noncomputable def B_can_add (Γ : Cfg) : SM :=
  sSeq (sEx (eCall (F_check_promises Γ) [eV 0]))
  (sRet (eTupG 1 (iS (eC w_PROMISES)) (tAnd (tV (e2 (op2 notInD) (eV 1) (eV 0))) (tV (e2 (op2 gtD) (e1 (op1 lenD) (eCall (F_keepers Γ) [e2 (op2 addD) (eV 0) (eTup [eV 1])])) (eC (.int (0)))))) (eV 1)))
noncomputable def F_can_add (Γ : Cfg) : List D → M D := runD 2 (B_can_add Γ)
noncomputable def B_lies_in (Γ : Cfg) : SM :=
  sRet (eStopG false 2 (iS (eV 0)) (tYesD) (e2 (op2 inD) (eV 2) (eV 1)))
noncomputable def F_lies_in (Γ : Cfg) : List D → M D := runD 3 (B_lies_in Γ)
noncomputable def B_has_part (Γ : Cfg) : SM :=
  sRet (eStopG true 2 (iS (eV 1)) (tYesD) (eCall (F_lies_in Γ) [eV 2, eV 0]))
noncomputable def F_has_part (Γ : Cfg) : List D → M D := runD 3 (B_has_part Γ)
noncomputable def B_least_clashes_in (Γ : Cfg) : SM :=
  sSeq (sSet 1 (e1 (op1 listD) (eV 0)))
  (sSeq (sUn 2)
  (sSeq (sNewL 2)
  (sSeq (sFor 3 (iR2 (eC (.int (1))) (e2 (op2 addD) (e1 (op1 lenD) (eV 1)) (eC (.int (1))))) (sForN 4 (iCmb (eV 1) (eV 3)) (sIf (tAnd (tV (e2 (op2 eqD) (e1 (op1 lenD) (eCall (F_keepers Γ) [eV 4])) (eC (.int (0))))) (tNot (tV (eFrzL 2 (eCall (F_has_part Γ) [eV 4, eV 2]))))) (sAppO 2 (eV 4)) (sNil))))
  (sSeq (sUn 2)
  (sRet (e1 (op1 tupD) (eV 2)))))))
noncomputable def F_least_clashes_in (Γ : Cfg) : List D → M D := runD 5 (B_least_clashes_in Γ)
noncomputable def B_clashes (Γ : Cfg) : SM :=
  sSeq (sEx (eCall (F_check_promises Γ) [eV 0]))
  (sRet (eCall (F_least_clashes_in Γ) [eV 0]))
noncomputable def F_clashes (Γ : Cfg) : List D → M D := runD 1 (B_clashes Γ)
noncomputable def B_count_tables (Γ : Cfg) : SM :=
  sSeq (sEx (eCall (F_check_promises Γ) [eV 0]))
  (sSeq (sSet 1 (eLst [eTup []]))
  (sSeq (sFor 2 (iS (eTup [eC (.int (2)), eC (.int (4)), eC (.int (8))])) (sSet 1 (eLc 3 (iS (eCall (F_with_more Γ) [eV 1, eV 2])) (tV (eCall (F_keeps_all Γ) [eV 3, eV 0])) (eV 3))))
  (sRet (e1 (op1 lenD) (eV 1)))))
noncomputable def F_count_tables (Γ : Cfg) : List D → M D := runD 4 (B_count_tables Γ)
-- law_wrong (k10): Try
noncomputable def B_law_keeps (Γ : Cfg) : SM :=
  sSeq (sUn 1)
  (sSeq (sDispO 1 [([111, 100, 100], eC (.str [104, 101, 97, 114, 100, 32, 109, 105, 120, 101, 100, 32, 111, 114, 100, 101, 114, 32, 112, 97, 114, 116, 115])), ([105, 115, 108, 97, 110, 100], eC (.str [97, 103, 114, 101, 101, 100, 32, 104, 101, 97, 114, 100, 32, 109, 105, 120, 101, 100, 32, 114, 101, 112, 101, 97, 116])), ([98, 111, 116, 104, 32, 101, 110, 100, 115], eC (.str [97, 103, 114, 101, 101, 100, 32, 103, 114, 111, 119, 105, 110, 103, 32, 107, 101, 112, 116, 32, 109, 105, 120, 101, 100, 32, 114, 101, 112, 101, 97, 116]))])
  (sSeq (sFor 2 (iS (eLst [eC (.str [102, 105, 114, 115, 116]), eC (.str [108, 97, 115, 116])])) (sPutO 1 (eV 2) (eC (.str [97, 103, 114, 101, 101, 100, 32, 101, 118, 101, 110, 32, 103, 114, 111, 119, 105, 110, 103, 32, 107, 101, 112, 116, 32, 109, 105, 120, 101, 100, 32, 112, 97, 114, 116, 115, 32, 114, 101, 112, 101, 97, 116]))))
  (sSeq (sFor 2 (iS (eLst [eC (.str [97, 108, 108, 111, 119]), eC (.str [100, 101, 110, 121])])) (sSeq (sPutO 1 (e2 (op2 addD) (eV 2) (eC (.str [32, 111, 118, 101, 114]))) (eC (.str [97, 103, 114, 101, 101, 100, 32, 103, 114, 111, 119, 105, 110, 103, 32, 104, 101, 97, 114, 100, 32, 107, 101, 112, 116, 32, 111, 114, 100, 101, 114, 32, 112, 97, 114, 116, 115, 32, 114, 101, 112, 101, 97, 116])))
    (sSeq (sPutO 1 (e2 (op2 addD) (eC (.str [97, 108, 119, 97, 121, 115, 32])) (eV 2)) (eC (.str [103, 114, 111, 119, 105, 110, 103, 32, 107, 101, 112, 116, 32, 111, 114, 100, 101, 114, 32, 112, 97, 114, 116, 115, 32, 114, 101, 112, 101, 97, 116])))
    (sPutO 1 (e2 (op2 addD) (eC (.str [109, 111, 115, 116, 32, 111, 114, 32])) (eV 2)) (eC (.str [97, 103, 114, 101, 101, 100, 32, 103, 114, 111, 119, 105, 110, 103, 32, 104, 101, 97, 114, 100, 32, 107, 101, 112, 116, 32, 109, 105, 120, 101, 100, 32, 109, 111, 115, 116, 32, 111, 114, 100, 101, 114]))))))
  (sSeq (sFor 2 (iS (eLst [eC (.str [102, 105, 114, 115, 116]), eC (.str [108, 97, 115, 116])])) (sPutO 1 (e2 (op2 addD) (eC (.str [109, 111, 115, 116, 32, 111, 114, 32])) (eV 2)) (eC (.str [97, 103, 114, 101, 101, 100, 32, 101, 118, 101, 110, 32, 103, 114, 111, 119, 105, 110, 103, 32, 107, 101, 112, 116, 32, 109, 105, 120, 101, 100, 32, 109, 111, 115, 116]))))
  (sRet (eFrz 1 (eM1 splitS (e2 (op2 ixA) (eV 1) (eV 0)) (eC (.str [32])))))))))
noncomputable def F_law_keeps (Γ : Cfg) : List D → M D := runD 3 (B_law_keeps Γ)
noncomputable def B_law_longer (Γ : Cfg) : SM :=
  sSeq (sUn 2)
  (sSeq (sNewO 2)
  (sSeq (sFor 3 (iS (eLst [eV 1, eCall (F_law_turned Γ) [eV 1]])) (sPutO 2 (eV 3) (eCall (F_law_answer Γ) [eV 0, eV 3])))
  (sSeq (sFor 4 (iR1 (e1 (op1 lenD) (eV 1))) (sSeq (sSet 5 (eLst [eCall (F_law_flip Γ) [eV 1, eV 4], e2 (op2 addD) (e2 (op2 addD) (eSl (eV 1) pNo (pSo (eV 4))) (e2 (op2 ixA) (eV 1) (eV 4))) (eSl (eV 1) (pSo (eV 4)) pNo), eSl (eV 1) pNo (pSo (eV 4)), eSl (eV 1) (pSo (eV 4)) pNo, e2 (op2 addD) (e2 (op2 addD) (e2 (op2 addD) (eSl (eV 1) pNo (pSo (eV 4))) (eSl (eV 1) (pSo (e2 (op2 addD) (eV 4) (eC (.int (1))))) (pSo (e2 (op2 addD) (eV 4) (eC (.int (2))))))) (e2 (op2 ixA) (eV 1) (eV 4))) (eSl (eV 1) (pSo (e2 (op2 addD) (eV 4) (eC (.int (2))))) pNo)]))
    (sFor 3 (iS (e2 (op2 addD) (e2 (op2 addD) (eV 5) (eLc 6 (iS (eC (.str [43, 45]))) (tYesD) (e2 (op2 addD) (e2 (op2 addD) (eSl (eV 1) pNo (pSo (eV 4))) (eV 6)) (eSl (eV 1) (pSo (eV 4)) pNo)))) (eLst [eC (.str [43]), eC (.str [45]), eC (.str [43, 43]), eC (.str [43, 45]), eC (.str [45, 43]), eC (.str [45, 45]), e2 (op2 addD) (eV 1) (eC (.str [43])), e2 (op2 addD) (eV 1) (eC (.str [45]))]))) (sIf (tV (e2 (op2 neD) (eV 3) (eC (.str [])))) (sPutO 2 (eV 3) (eCall (F_law_answer Γ) [eV 0, eV 3])) (sNil)))))
  (sSeq (sUn 2)
  (sRet (eV 2))))))
noncomputable def F_law_longer (Γ : Cfg) : List D → M D := runD 7 (B_law_longer Γ)
noncomputable def B_law_words (Γ : Cfg) : SM :=
  sRet (e1 (op1 tupD) (eLc 2 (iS (eCall (F_law_promises Γ) [])) (tV (e2 (op2 eqD) (eCall (F_law_taken Γ) [eV 0, eV 1]) (eC (.int (0))))) (eV 2)))
noncomputable def F_law_words (Γ : Cfg) : List D → M D := runD 3 (B_law_words Γ)
noncomputable def B_least_clashes (Γ : Cfg) : SM :=
  sRet (eCall (F_least_clashes_in Γ) [eC w_PROMISES])
noncomputable def F_least_clashes (Γ : Cfg) : List D → M D := runD 0 (B_least_clashes Γ)
-- greatest_sets (k03): SetComp
noncomputable def B_law_clashes (Γ : Cfg) : SM :=
  sSeq (sSet 0 (eLst [eC (.str [101, 118, 101, 110, 32, 104, 101, 97, 114, 100]), eC (.str [101, 118, 101, 110, 32, 111, 114, 100, 101, 114]), eC (.str [109, 111, 115, 116, 32, 112, 97, 114, 116, 115]), eC (.str [109, 111, 115, 116, 32, 114, 101, 112, 101, 97, 116]), eC (.str [109, 105, 120, 101, 100, 32, 111, 114, 100, 101, 114, 32, 114, 101, 112, 101, 97, 116]), eC (.str [97, 103, 114, 101, 101, 100, 32, 104, 101, 97, 114, 100, 32, 109, 105, 120, 101, 100, 32, 112, 97, 114, 116, 115]), eC (.str [97, 103, 114, 101, 101, 100, 32, 109, 105, 120, 101, 100, 32, 111, 114, 100, 101, 114, 32, 112, 97, 114, 116, 115])]))
  (sSeq (sSet 0 (e2 (op2 addD) (eV 0) (eLst [eC (.str [103, 114, 111, 119, 105, 110, 103, 32, 104, 101, 97, 114, 100, 32, 109, 105, 120, 101, 100, 32, 112, 97, 114, 116, 115]), eC (.str [103, 114, 111, 119, 105, 110, 103, 32, 104, 101, 97, 114, 100, 32, 109, 105, 120, 101, 100, 32, 114, 101, 112, 101, 97, 116]), eC (.str [103, 114, 111, 119, 105, 110, 103, 32, 109, 105, 120, 101, 100, 32, 111, 114, 100, 101, 114, 32, 112, 97, 114, 116, 115]), eC (.str [104, 101, 97, 114, 100, 32, 107, 101, 112, 116, 32, 109, 105, 120, 101, 100, 32, 112, 97, 114, 116, 115])])))
  (sRet (eLc 1 (iS (e2 (op2 addD) (eV 0) (eLst [eC (.str [104, 101, 97, 114, 100, 32, 107, 101, 112, 116, 32, 109, 105, 120, 101, 100, 32, 114, 101, 112, 101, 97, 116]), eC (.str [104, 101, 97, 114, 100, 32, 109, 105, 120, 101, 100, 32, 112, 97, 114, 116, 115, 32, 114, 101, 112, 101, 97, 116]), eC (.str [107, 101, 112, 116, 32, 109, 105, 120, 101, 100, 32, 111, 114, 100, 101, 114, 32, 112, 97, 114, 116, 115])]))) (tYesD) (e1 (op1 tupD) (eM1 splitS (eV 1) (eC (.str [32])))))))
noncomputable def F_law_clashes (Γ : Cfg) : List D → M D := runD 2 (B_law_clashes Γ)
noncomputable def B_law_goes (Γ : Cfg) : SM :=
  sSeq (sFor 1 (iS (eCall (F_law_ways Γ) [])) (sIf (tV (e2 (op2 eqD) (eLc 2 (iS (eV 0)) (tV (e2 (op2 notInD) (eV 2) (eCall (F_law_keeps Γ) [eV 1]))) (eV 2)) (eLst []))) (sRet (eC (.bl true))) (sNil)))
  (sRet (eC (.bl false)))
noncomputable def F_law_goes (Γ : Cfg) : List D → M D := runD 3 (B_law_goes Γ)
end C
set_option Elab.async false
set_option linter.all false
set_option maxRecDepth 100000
set_option maxHeartbeats 4000000
namespace K05
open PySem PySem.Spec PyProof.Rows L2 DL C
def topS (i : Nat) : Stmt := PySem.Challenge.pw_rulevoices_k05_whole_any_table.main.body.getD i (.Pass ⟨0, 0, 0, 0⟩)
def Gam0 (A : Nat → Addr) (w : World) : Cfg := ⟨A, fun x => false, fun _ => false, hsW w, spW w⟩
abbrev s_check_way : Stmt := topS 9
theorem sc_check_way : FnScope ["way"] ["way"] (defScope s_check_way) := ⟨rfl, rfl, rfl, by decide +kernel, rfl, by decide +kernel, by decide +kernel⟩
abbrev s_check_promise : Stmt := topS 10
theorem sc_check_promise : FnScope ["promise"] ["promise"] (defScope s_check_promise) := ⟨rfl, rfl, rfl, by decide +kernel, rfl, by decide +kernel, by decide +kernel⟩
abbrev s_check_promises : Stmt := topS 11
theorem sc_check_promises : FnScope ["wanted", "promise"] ["wanted"] (defScope s_check_promises) := ⟨rfl, rfl, rfl, by decide +kernel, rfl, by decide +kernel, by decide +kernel⟩
abbrev s_holds : Stmt := topS 14
theorem sc_holds : FnScope ["way", "promise"] ["way", "promise"] (defScope s_holds) := ⟨rfl, rfl, rfl, by decide +kernel, rfl, by decide +kernel, by decide +kernel⟩
abbrev s_holds_all : Stmt := topS 19
theorem sc_holds_all : FnScope ["way", "wanted", "promise"] ["way", "wanted"] (defScope s_holds_all) := ⟨rfl, rfl, rfl, by decide +kernel, rfl, by decide +kernel, by decide +kernel⟩
abbrev s_keepers : Stmt := topS 18
theorem sc_keepers : FnScope ["wanted", "way"] ["wanted"] (defScope s_keepers) := ⟨rfl, rfl, rfl, by decide +kernel, rfl, by decide +kernel, by decide +kernel⟩
abbrev s_can_hold : Stmt := topS 16
theorem sc_can_hold : FnScope ["wanted"] ["wanted"] (defScope s_can_hold) := ⟨rfl, rfl, rfl, by decide +kernel, rfl, by decide +kernel, by decide +kernel⟩
abbrev s_lies_in : Stmt := topS 22
theorem sc_lies_in : FnScope ["part", "group", "promise"] ["part", "group"] (defScope s_lies_in) := ⟨rfl, rfl, rfl, by decide +kernel, rfl, by decide +kernel, by decide +kernel⟩
abbrev s_has_part : Stmt := topS 21
theorem sc_has_part : FnScope ["group", "found", "part"] ["group", "found"] (defScope s_has_part) := ⟨rfl, rfl, rfl, by decide +kernel, rfl, by decide +kernel, by decide +kernel⟩
abbrev s_least_clashes_in : Stmt := topS 20
theorem sc_least_clashes_in : FnScope ["wanted", "names", "found", "size", "group"] ["wanted"] (defScope s_least_clashes_in) := ⟨rfl, rfl, rfl, by decide +kernel, rfl, by decide +kernel, by decide +kernel⟩
abbrev s_clashes : Stmt := topS 17
theorem sc_clashes : FnScope ["wanted"] ["wanted"] (defScope s_clashes) := ⟨rfl, rfl, rfl, by decide +kernel, rfl, by decide +kernel, by decide +kernel⟩
abbrev s_law_taken : Stmt := topS 24
theorem sc_law_taken : FnScope ["row", "many", "found", "cell"] ["row", "many"] (defScope s_law_taken) := ⟨rfl, rfl, rfl, by decide +kernel, rfl, by decide +kernel, by decide +kernel⟩
abbrev s_law_pick : Stmt := topS 25
theorem sc_law_pick : FnScope ["row", "kinds"] ["row", "kinds"] (defScope s_law_pick) := ⟨rfl, rfl, rfl, by decide +kernel, rfl, by decide +kernel, by decide +kernel⟩
abbrev s_law_ways : Stmt := topS 26
theorem sc_law_ways : FnScope [] [] (defScope s_law_ways) := ⟨rfl, rfl, rfl, by decide +kernel, rfl, by decide +kernel, by decide +kernel⟩
abbrev s_law_promises : Stmt := topS 27
theorem sc_law_promises : FnScope [] [] (defScope s_law_promises) := ⟨rfl, rfl, rfl, by decide +kernel, rfl, by decide +kernel, by decide +kernel⟩
abbrev s_law_turned : Stmt := topS 28
theorem sc_law_turned : FnScope ["text", "sign"] ["text"] (defScope s_law_turned) := ⟨rfl, rfl, rfl, by decide +kernel, rfl, by decide +kernel, by decide +kernel⟩
abbrev s_law_answer : Stmt := topS 29
theorem sc_law_answer : FnScope ["way", "text", "more", "ties", "good", "changes", "at"] ["way", "text"] (defScope s_law_answer) := ⟨rfl, rfl, rfl, by decide +kernel, rfl, by decide +kernel, by decide +kernel⟩
abbrev s_law_rows : Stmt := topS 30
theorem sc_law_rows : FnScope ["length", "found", "turn", "longer", "text"] ["length"] (defScope s_law_rows) := ⟨rfl, rfl, rfl, by decide +kernel, rfl, by decide +kernel, by decide +kernel⟩
abbrev s_law_short : Stmt := topS 31
theorem sc_law_short : FnScope ["most", "found", "length"] ["most"] (defScope s_law_short) := ⟨rfl, rfl, rfl, by decide +kernel, rfl, by decide +kernel, by decide +kernel⟩
abbrev s_law_flip : Stmt := topS 32
theorem sc_law_flip : FnScope ["text", "at"] ["text", "at"] (defScope s_law_flip) := ⟨rfl, rfl, rfl, by decide +kernel, rfl, by decide +kernel, by decide +kernel⟩
abbrev s_law_torn : Stmt := topS 33
theorem sc_law_torn : FnScope ["told", "promise", "text", "here", "spots", "more", "at"] ["told", "promise", "text"] (defScope s_law_torn) := ⟨rfl, rfl, rfl, by decide +kernel, rfl, by decide +kernel, by decide +kernel⟩
abbrev s_law_deaf : Stmt := topS 34
theorem sc_law_deaf : FnScope ["told", "length", "rows", "at", "text"] ["told", "length"] (defScope s_law_deaf) := ⟨rfl, rfl, rfl, by decide +kernel, rfl, by decide +kernel, by decide +kernel⟩
abbrev s_law_fine : Stmt := topS 35
theorem sc_law_fine : FnScope ["told", "promise", "most", "rows", "length", "text"] ["told", "promise", "most"] (defScope s_law_fine) := ⟨rfl, rfl, rfl, by decide +kernel, rfl, by decide +kernel, by decide +kernel⟩
abbrev s_law_table : Stmt := topS 36
theorem sc_law_table : FnScope ["row", "told", "way", "kind", "text", "spot"] ["row"] (defScope s_law_table) := ⟨rfl, rfl, rfl, by decide +kernel, rfl, by decide +kernel, by decide +kernel⟩
abbrev s_law : Stmt := topS 37
theorem sc_law : FnScope ["script", "row", "turn", "told", "text", "wanted", "one"] ["script"] (defScope s_law) := ⟨rfl, rfl, rfl, by decide +kernel, rfl, by decide +kernel, by decide +kernel⟩
structure Fx (w : World) (K : PySem.W.Frag) (mg : Str → Option Value) (T : Tb) (CS : List (Addr × Addr)) where
  a_check_way : Addr
  d_check_way : FuncData
  F_check_way : Fun K "check_way" "check_way" s_check_way a_check_way d_check_way
  g_check_way : mg "check_way" = some (.ref a_check_way)
  b_check_way : Binds K d_check_way ["way"] []
  a_check_promise : Addr
  d_check_promise : FuncData
  F_check_promise : Fun K "check_promise" "check_promise" s_check_promise a_check_promise d_check_promise
  g_check_promise : mg "check_promise" = some (.ref a_check_promise)
  b_check_promise : Binds K d_check_promise ["promise"] []
  a_check_promises : Addr
  d_check_promises : FuncData
  F_check_promises : Fun K "check_promises" "check_promises" s_check_promises a_check_promises d_check_promises
  g_check_promises : mg "check_promises" = some (.ref a_check_promises)
  b_check_promises : Binds K d_check_promises ["wanted"] []
  k_check_promises : Addr
  t_check_promises : Addr
  e_check_promises : d_check_promises.code = .ref k_check_promises
  m_check_promises : (k_check_promises, t_check_promises) ∈ CS ∧ t_check_promises ∈ T
  a_holds : Addr
  d_holds : FuncData
  F_holds : Fun K "holds" "holds" s_holds a_holds d_holds
  g_holds : mg "holds" = some (.ref a_holds)
  b_holds : Binds K d_holds ["way", "promise"] []
  a_holds_all : Addr
  d_holds_all : FuncData
  F_holds_all : Fun K "_holds_all" "_holds_all" s_holds_all a_holds_all d_holds_all
  g_holds_all : mg "_holds_all" = some (.ref a_holds_all)
  b_holds_all : Binds K d_holds_all ["way", "wanted"] []
  k_holds_all : Addr
  t_holds_all : Addr
  e_holds_all : d_holds_all.code = .ref k_holds_all
  m_holds_all : (k_holds_all, t_holds_all) ∈ CS ∧ t_holds_all ∈ T
  a_keepers : Addr
  d_keepers : FuncData
  F_keepers : Fun K "_keepers" "_keepers" s_keepers a_keepers d_keepers
  g_keepers : mg "_keepers" = some (.ref a_keepers)
  b_keepers : Binds K d_keepers ["wanted"] []
  k_keepers : Addr
  t_keepers : Addr
  e_keepers : d_keepers.code = .ref k_keepers
  m_keepers : (k_keepers, t_keepers) ∈ CS ∧ t_keepers ∈ T
  a_can_hold : Addr
  d_can_hold : FuncData
  F_can_hold : Fun K "can_hold" "can_hold" s_can_hold a_can_hold d_can_hold
  g_can_hold : mg "can_hold" = some (.ref a_can_hold)
  b_can_hold : Binds K d_can_hold ["wanted"] []
  a_lies_in : Addr
  d_lies_in : FuncData
  F_lies_in : Fun K "_lies_in" "_lies_in" s_lies_in a_lies_in d_lies_in
  g_lies_in : mg "_lies_in" = some (.ref a_lies_in)
  b_lies_in : Binds K d_lies_in ["part", "group"] []
  k_lies_in : Addr
  t_lies_in : Addr
  e_lies_in : d_lies_in.code = .ref k_lies_in
  m_lies_in : (k_lies_in, t_lies_in) ∈ CS ∧ t_lies_in ∈ T
  a_has_part : Addr
  d_has_part : FuncData
  F_has_part : Fun K "_has_part" "_has_part" s_has_part a_has_part d_has_part
  g_has_part : mg "_has_part" = some (.ref a_has_part)
  b_has_part : Binds K d_has_part ["group", "found"] []
  k_has_part : Addr
  t_has_part : Addr
  e_has_part : d_has_part.code = .ref k_has_part
  m_has_part : (k_has_part, t_has_part) ∈ CS ∧ t_has_part ∈ T
  a_least_clashes_in : Addr
  d_least_clashes_in : FuncData
  F_least_clashes_in : Fun K "_least_clashes_in" "_least_clashes_in" s_least_clashes_in a_least_clashes_in d_least_clashes_in
  g_least_clashes_in : mg "_least_clashes_in" = some (.ref a_least_clashes_in)
  b_least_clashes_in : Binds K d_least_clashes_in ["wanted"] []
  a_clashes : Addr
  d_clashes : FuncData
  F_clashes : Fun K "clashes" "clashes" s_clashes a_clashes d_clashes
  g_clashes : mg "clashes" = some (.ref a_clashes)
  b_clashes : Binds K d_clashes ["wanted"] []
  a_law_taken : Addr
  d_law_taken : FuncData
  F_law_taken : Fun K "_law_taken" "_law_taken" s_law_taken a_law_taken d_law_taken
  g_law_taken : mg "_law_taken" = some (.ref a_law_taken)
  b_law_taken : Binds K d_law_taken ["row", "many"] []
  a_law_pick : Addr
  d_law_pick : FuncData
  F_law_pick : Fun K "_law_pick" "_law_pick" s_law_pick a_law_pick d_law_pick
  g_law_pick : mg "_law_pick" = some (.ref a_law_pick)
  b_law_pick : Binds K d_law_pick ["row", "kinds"] []
  a_law_ways : Addr
  d_law_ways : FuncData
  F_law_ways : Fun K "_law_ways" "_law_ways" s_law_ways a_law_ways d_law_ways
  g_law_ways : mg "_law_ways" = some (.ref a_law_ways)
  b_law_ways : Binds K d_law_ways [] []
  a_law_promises : Addr
  d_law_promises : FuncData
  F_law_promises : Fun K "_law_promises" "_law_promises" s_law_promises a_law_promises d_law_promises
  g_law_promises : mg "_law_promises" = some (.ref a_law_promises)
  b_law_promises : Binds K d_law_promises [] []
  a_law_turned : Addr
  d_law_turned : FuncData
  F_law_turned : Fun K "_law_turned" "_law_turned" s_law_turned a_law_turned d_law_turned
  g_law_turned : mg "_law_turned" = some (.ref a_law_turned)
  b_law_turned : Binds K d_law_turned ["text"] []
  a_law_answer : Addr
  d_law_answer : FuncData
  F_law_answer : Fun K "_law_answer" "_law_answer" s_law_answer a_law_answer d_law_answer
  g_law_answer : mg "_law_answer" = some (.ref a_law_answer)
  b_law_answer : Binds K d_law_answer ["way", "text"] []
  a_law_rows : Addr
  d_law_rows : FuncData
  F_law_rows : Fun K "_law_rows" "_law_rows" s_law_rows a_law_rows d_law_rows
  g_law_rows : mg "_law_rows" = some (.ref a_law_rows)
  b_law_rows : Binds K d_law_rows ["length"] []
  a_law_short : Addr
  d_law_short : FuncData
  F_law_short : Fun K "_law_short" "_law_short" s_law_short a_law_short d_law_short
  g_law_short : mg "_law_short" = some (.ref a_law_short)
  b_law_short : Binds K d_law_short ["most"] []
  a_law_flip : Addr
  d_law_flip : FuncData
  F_law_flip : Fun K "_law_flip" "_law_flip" s_law_flip a_law_flip d_law_flip
  g_law_flip : mg "_law_flip" = some (.ref a_law_flip)
  b_law_flip : Binds K d_law_flip ["text", "at"] []
  a_law_torn : Addr
  d_law_torn : FuncData
  F_law_torn : Fun K "_law_torn" "_law_torn" s_law_torn a_law_torn d_law_torn
  g_law_torn : mg "_law_torn" = some (.ref a_law_torn)
  b_law_torn : Binds K d_law_torn ["told", "promise", "text"] []
  a_law_deaf : Addr
  d_law_deaf : FuncData
  F_law_deaf : Fun K "_law_deaf" "_law_deaf" s_law_deaf a_law_deaf d_law_deaf
  g_law_deaf : mg "_law_deaf" = some (.ref a_law_deaf)
  b_law_deaf : Binds K d_law_deaf ["told", "length"] []
  a_law_fine : Addr
  d_law_fine : FuncData
  F_law_fine : Fun K "_law_fine" "_law_fine" s_law_fine a_law_fine d_law_fine
  g_law_fine : mg "_law_fine" = some (.ref a_law_fine)
  b_law_fine : Binds K d_law_fine ["told", "promise", "most"] []
  a_law_table : Addr
  d_law_table : FuncData
  F_law_table : Fun K "_law_table" "_law_table" s_law_table a_law_table d_law_table
  g_law_table : mg "_law_table" = some (.ref a_law_table)
  b_law_table : Binds K d_law_table ["row"] []
  a_law : Addr
  d_law : FuncData
  F_law : Fun K "law" "law" s_law a_law d_law
  g_law : mg "law" = some (.ref a_law)
  b_law : Binds K d_law ["script"] []
  c_WAYS : ∃ w v, mg "WAYS" = some w ∧ RelV v w ∧ WR K v w_WAYS
  c_PROMISES : ∃ w v, mg "PROMISES" = some w ∧ RelV v w ∧ WR K v w_PROMISES
  A : Nat → Addr
  g_cmb : mg "combinations" = some (.type "itertools.combinations")
  ad_KEPT_BY : Addr
  g_KEPT_BY : mg "_KEPT_BY" = some (.ref ad_KEPT_BY)
  k_KEPT_BY : KTab K w ad_KEPT_BY (tb_KEPT_BY)
  z_isinstance : mg "isinstance" = none
  z_tuple : mg "tuple" = none
  z_len : mg "len" = none
  z_all : mg "all" = none
  z_list : mg "list" = none
  z_any : mg "any" = none
  z_range : mg "range" = none
  z_int : mg "int" = none
  z_set : mg "set" = none
abbrev Fx.Gam {w : World} {K : PySem.W.Frag} {mg : Str → Option Value} {T : Tb} {CS : List (Addr × Addr)} (FX : Fx w K mg T CS) : Cfg := Gam0 FX.A w
section
variable {P : Program} {w : World} {K : PySem.W.Frag} {mg : Str → Option Value} {base : Heap} {T : Tb} {CS : List (Addr × Addr)} (FX : Fx w K mg T CS) (TB : ∀ p ∈ CS, GxR.TabB base mg p.1 p.2)
include FX TB
theorem ok_check_way : FnOk P w K mg base CX0 1 FX.a_check_way FX.d_check_way ["way"] (spD K T mg 1 (F_check_way FX.Gam)) := okD FX.F_check_way sc_check_way fun cdv A outer s H E hr hcd =>
  (pu_last (pu_ifS (DL.pt_cmp (od_notIn hr) (pvD 0) (pu_gW (by rfl) FX.c_WAYS) (by rfl)) (pu_last (pu_rzB (by rfl))) pu_snil))
theorem ok_check_promise : FnOk P w K mg base CX0 1 FX.a_check_promise FX.d_check_promise ["promise"] (spD K T mg 1 (F_check_promise FX.Gam)) := okD FX.F_check_promise sc_check_promise fun cdv A outer s H E hr hcd =>
  (pu_last (pu_ifS (DL.pt_cmp (od_notIn hr) (pvD 0) (pu_gW (by rfl) FX.c_PROMISES) (by rfl)) (pu_last (pu_rzB (by rfl))) pu_snil))
theorem ok_check_promises : FnOk P w K mg base CX0 2 FX.a_check_promises FX.d_check_promises ["wanted"] (spD K T mg 1 (F_check_promises FX.Gam)) := okD FX.F_check_promises sc_check_promises fun cdv A outer s H E hr hcd =>
  (pu_seq (pu_ifS (DL.pt_not (pt_v (pu_isi1 (by rfl) FX.z_isinstance (pvD 0) (by rfl) FX.z_tuple PyProof.Rows.boot_tuple))) (pu_last (pu_rzB (by rfl))) pu_snil)
  (pu_last (pu_ifS (DL.pt_cmp (od_ne hr) (pvD 0) (pu_tupG hr rfl (by rfl) FX.z_tuple PyProof.Rows.boot_tuple (TB _ FX.m_check_promises.1) FX.m_check_promises.2 (hcd.symm.trans FX.e_check_promises) (by show GX.GOk ["wanted", "promise"] (defScope s_check_promises) _ [("promise", 1)]; exact ⟨rfl, rfl, by decide +kernel, by decide +kernel, by decide +kernel, by decide +kernel, by decide +kernel⟩) sc_check_promises.nd (pu_iS (pu_gW (by rfl) FX.c_PROMISES)) (fun _ _ _ _ _ _ => pg_name (i := 1) sc_check_promises.nd rfl (by first | exact .inl rfl | exact .inr rfl)) (fun _ _ _ _ _ _ hg0 => (pts_yes (DL.pt_cmp (od_in hg0) (pvD 1) (pvD 0) (by rfl)))) (fun _ _ _ _ _ _ hg0 => (pvD 1))) (by rfl)) (pu_last (pu_rzB (by rfl))) pu_snil)))
theorem ok_holds : FnOk P w K mg base CX0 2 FX.a_holds FX.d_holds ["way", "promise"] (spD K T mg 2 (F_holds FX.Gam)) := okD FX.F_holds sc_holds fun cdv A outer s H E hr hcd =>
  (pu_seq (pu_expr (pu_call (ok_check_way FX TB) (hr.mono (by decide)) (by rfl) FX.g_check_way FX.F_check_way.kp FX.b_check_way passD (pu_cons (pvD 0) pu_nil)))
  (pu_seq (pu_expr (pu_call (ok_check_promise FX TB) (hr.mono (by decide)) (by rfl) FX.g_check_promise FX.F_check_promise.kp FX.b_check_promise passD (pu_cons (pvD 1) pu_nil)))
  (pu_last (pu_ret (pu_cmp (od_in hr) (pvD 1) (pu_ixK (by rfl) FX.g_KEPT_BY FX.k_KEPT_BY (pvD 0)) (by rfl))))))
theorem ok_holds_all : FnOk P w K mg base CX0 4 FX.a_holds_all FX.d_holds_all ["way", "wanted"] (spD K T mg 2 (F_holds_all FX.Gam)) := okD FX.F_holds_all sc_holds_all fun cdv A outer s H E hr hcd =>
  (pu_last (pu_ret (pu_all hr rfl (by rfl) FX.z_all (by decide +kernel) (TB _ FX.m_holds_all.1) FX.m_holds_all.2 (hcd.symm.trans FX.e_holds_all) (by show GX.GOk ["way", "wanted", "promise"] (defScope s_holds_all) _ [("promise", 2)]; exact ⟨rfl, rfl, by decide +kernel, by decide +kernel, by decide +kernel, by decide +kernel, by decide +kernel⟩) sc_holds_all.nd (pu_iS (pvD 1)) (fun _ _ _ _ _ _ => pg_name (i := 2) sc_holds_all.nd rfl (by first | exact .inl rfl | exact .inr rfl)) (fun _ _ _ _ _ _ hg0 => pts_no) (fun _ _ _ _ _ _ hg0 => (pu_call (ok_holds FX TB) (hg0.mono (by decide)) (by rfl) FX.g_holds FX.F_holds.kp FX.b_holds passD (pu_cons (pvD 0) (pu_cons (pvD 2) pu_nil)))))))
theorem ok_keepers : FnOk P w K mg base CX0 6 FX.a_keepers FX.d_keepers ["wanted"] (spD K T mg 1 (F_keepers FX.Gam)) := okD FX.F_keepers sc_keepers fun cdv A outer s H E hr hcd =>
  (pu_last (pu_ret (pu_tupG hr rfl (by rfl) FX.z_tuple PyProof.Rows.boot_tuple (TB _ FX.m_keepers.1) FX.m_keepers.2 (hcd.symm.trans FX.e_keepers) (by show GX.GOk ["wanted", "way"] (defScope s_keepers) _ [("way", 1)]; exact ⟨rfl, rfl, by decide +kernel, by decide +kernel, by decide +kernel, by decide +kernel, by decide +kernel⟩) sc_keepers.nd (pu_iS (pu_gW (by rfl) FX.c_WAYS)) (fun _ _ _ _ _ _ => pg_name (i := 1) sc_keepers.nd rfl (by first | exact .inl rfl | exact .inr rfl)) (fun _ _ _ _ _ _ hg0 => (pts_yes (pt_v (pu_call (ok_holds_all FX TB) (hg0.mono (by decide)) (by rfl) FX.g_holds_all FX.F_holds_all.kp FX.b_holds_all passD (pu_cons (pvD 1) (pu_cons (pvD 0) pu_nil)))))) (fun _ _ _ _ _ _ hg0 => (pvD 1)))))
theorem ok_can_hold : FnOk P w K mg base CX0 7 FX.a_can_hold FX.d_can_hold ["wanted"] (spD K T mg 1 (F_can_hold FX.Gam)) := okD FX.F_can_hold sc_can_hold fun cdv A outer s H E hr hcd =>
  (pu_seq (pu_expr (pu_call (ok_check_promises FX TB) (hr.mono (by decide)) (by rfl) FX.g_check_promises FX.F_check_promises.kp FX.b_check_promises passD (pu_cons (pvD 0) pu_nil)))
  (pu_last (pu_ret (pu_cmp od_gt (pu_callB cd_len (pu_call (ok_keepers FX TB) (hr.mono (by decide)) (by rfl) FX.g_keepers FX.F_keepers.kp FX.b_keepers passD (pu_cons (pvD 0) pu_nil)) (by rfl) FX.z_len PySem.boot_len) pu_int (by rfl)))))
theorem ok_lies_in : FnOk P w K mg base CX0 2 FX.a_lies_in FX.d_lies_in ["part", "group"] (spD K T mg 2 (F_lies_in FX.Gam)) := okD FX.F_lies_in sc_lies_in fun cdv A outer s H E hr hcd =>
  (pu_last (pu_ret (pu_all hr rfl (by rfl) FX.z_all (by decide +kernel) (TB _ FX.m_lies_in.1) FX.m_lies_in.2 (hcd.symm.trans FX.e_lies_in) (by show GX.GOk ["part", "group", "promise"] (defScope s_lies_in) _ [("promise", 2)]; exact ⟨rfl, rfl, by decide +kernel, by decide +kernel, by decide +kernel, by decide +kernel, by decide +kernel⟩) sc_lies_in.nd (pu_iS (pvD 0)) (fun _ _ _ _ _ _ => pg_name (i := 2) sc_lies_in.nd rfl (by first | exact .inl rfl | exact .inr rfl)) (fun _ _ _ _ _ _ hg0 => pts_no) (fun _ _ _ _ _ _ hg0 => (pu_cmp (od_in hg0) (pvD 2) (pvD 1) (by rfl))))))
theorem ok_has_part : FnOk P w K mg base CX0 4 FX.a_has_part FX.d_has_part ["group", "found"] (spD K T mg 2 (F_has_part FX.Gam)) := okD FX.F_has_part sc_has_part fun cdv A outer s H E hr hcd =>
  (pu_last (pu_ret (pu_any hr rfl (by rfl) FX.z_any (TB _ FX.m_has_part.1) FX.m_has_part.2 (hcd.symm.trans FX.e_has_part) (by show GX.GOk ["group", "found", "part"] (defScope s_has_part) _ [("part", 2)]; exact ⟨rfl, rfl, by decide +kernel, by decide +kernel, by decide +kernel, by decide +kernel, by decide +kernel⟩) sc_has_part.nd (pu_iS (pvD 1)) (fun _ _ _ _ _ _ => pg_name (i := 2) sc_has_part.nd rfl (by first | exact .inl rfl | exact .inr rfl)) (fun _ _ _ _ _ _ hg0 => pts_no) (fun _ _ _ _ _ _ hg0 => (pu_call (ok_lies_in FX TB) (hg0.mono (by decide)) (by rfl) FX.g_lies_in FX.F_lies_in.kp FX.b_lies_in passD (pu_cons (pvD 2) (pu_cons (pvD 0) pu_nil)))))))
theorem ok_least_clashes_in : FnOk P w K mg base CX0 7 FX.a_least_clashes_in FX.d_least_clashes_in ["wanted"] (spD K T mg 1 (F_least_clashes_in FX.Gam)) := okD FX.F_least_clashes_in sc_least_clashes_in fun cdv A outer s H E hr hcd =>
  (pu_seq (pu_set (i := 1) sc_least_clashes_in.nd rfl (by first | exact .inl rfl | exact .inr rfl) (pu_callT cd_list (pvD 0) (by rfl) FX.z_list PyProof.Rows.boot_list))
  (pu_sun (i := 2)
  (pu_newL (i := 2) sc_least_clashes_in.nd rfl (by first | exact .inl rfl | exact .inr rfl)
  (pu_seq (pu_for PassesOwn.never rfl (pu_iR2 (by rfl) FX.z_range pu_int (pu_bin od_add (pu_callB cd_len (pvD 1) (by rfl) FX.z_len PySem.boot_len) pu_int)) (pg_name (i := 3) sc_least_clashes_in.nd rfl (by first | exact .inl rfl | exact .inr rfl)) (pu_last (pu_forN PassesOwn.never rfl (pu_iCmb (by rfl) FX.g_cmb (pvD 1) (pvD 3)) (pg_name (i := 4) sc_least_clashes_in.nd rfl (by first | exact .inl rfl | exact .inr rfl)) (pu_last (pu_ifS ((DL.pw_and (DL.pt_cmp (od_eq hr) (pu_callB cd_len (pu_call (ok_keepers FX TB) (hr.mono (by decide)) (by rfl) FX.g_keepers FX.F_keepers.kp FX.b_keepers passD (pu_cons (pvD 4) pu_nil)) (by rfl) FX.z_len PySem.boot_len) pu_int (by rfl)) (DL.pw_one (DL.pt_not (pt_v (pu_frzL (i := 2) (pu_call (ok_has_part FX TB) (hr.mono (by decide)) (by rfl) FX.g_has_part FX.F_has_part.kp FX.b_has_part passD (pu_cons (pvD 4) (pu_cons (pvD 2) pu_nil))))))))).pt (pu_last (pu_appO (i := 2) hr rfl (by first | exact Or.inl rfl | exact Or.inr (Or.inl rfl) | exact Or.inr (Or.inr rfl)) (pvD 4))) pu_snil)))))
  (pu_sun (i := 2)
  (pu_last (pu_ret (pu_callT cd_tuple (pvD 2) (by rfl) FX.z_tuple PyProof.Rows.boot_tuple))))))))
theorem ok_clashes : FnOk P w K mg base CX0 8 FX.a_clashes FX.d_clashes ["wanted"] (spD K T mg 1 (F_clashes FX.Gam)) := okD FX.F_clashes sc_clashes fun cdv A outer s H E hr hcd =>
  (pu_seq (pu_expr (pu_call (ok_check_promises FX TB) (hr.mono (by decide)) (by rfl) FX.g_check_promises FX.F_check_promises.kp FX.b_check_promises passD (pu_cons (pvD 0) pu_nil)))
  (pu_last (pu_ret (pu_call (ok_least_clashes_in FX TB) (hr.mono (by decide)) (by rfl) FX.g_least_clashes_in FX.F_least_clashes_in.kp FX.b_least_clashes_in passD (pu_cons (pvD 0) pu_nil)))))
theorem ok_law_taken : FnOk P w K mg base CX0 1 FX.a_law_taken FX.d_law_taken ["row", "many"] (spD K T mg 2 (F_law_taken FX.Gam)) := okD FX.F_law_taken sc_law_taken fun cdv A outer s H E hr hcd =>
  (pu_seq (pu_ifS (DL.pt_cmp od_gt (pu_rowG (i := 0) rfl (Or.inl rfl)) pu_int (by rfl)) (pu_seq (pu_set (i := 2) sc_law_taken.nd rfl (by first | exact .inl rfl | exact .inr rfl) (pu_bin od_mod (pu_callT cd_int (pu_rowG (i := 0) rfl (Or.inl rfl)) (by rfl) FX.z_int PyProof.Rows.boot_int) (pvD 1)))
    (pu_seq (pu_rowS (i := 0) rfl (Or.inl rfl) (pu_bin od_fdiv (pu_rowG (i := 0) rfl (Or.inl rfl)) (pvD 1)))
    (pu_last (pu_ret (pvD 2))))) pu_snil)
  (pu_seq (pu_rowS (i := 0) rfl (Or.inl rfl) (pu_bin od_add (pu_rowG (i := 0) rfl (Or.inl rfl)) pu_int))
  (pu_seq (pu_ifS (DL.pt_cmp od_gt (pu_rowG (i := 0) rfl (Or.inl rfl)) (pu_rowL (i := 0) (by rfl) FX.z_len rfl (Or.inl rfl)) (by rfl)) (pu_seq (pu_rowS (i := 0) rfl (Or.inl rfl) (pu_bin od_mod (pu_callT cd_int (pu_bin od_add (pu_bin od_mulI (pu_rowG (i := 0) rfl (Or.inl rfl)) pu_int) pu_int) (by rfl) FX.z_int PyProof.Rows.boot_int) pu_int))
    (pu_last (pu_ret (pu_bin od_mod (pu_callT cd_int (pu_bin od_fdiv (pu_rowG (i := 0) rfl (Or.inl rfl)) pu_int) (by rfl) FX.z_int PyProof.Rows.boot_int) (pvD 1))))) pu_snil)
  (pu_seq (pu_set (i := 3) sc_law_taken.nd rfl (by first | exact .inl rfl | exact .inr rfl) (pu_rowC (i := 0) rfl (Or.inl rfl) (pu_bin od_sub (pu_rowG (i := 0) rfl (Or.inl rfl)) pu_int)))
  (pu_seq (pu_rowS (i := 0) rfl (Or.inl rfl) (pu_bin od_mod (pu_callT cd_int (pu_bin od_add (pu_bin od_add (pu_bin od_mulI (pu_rowG (i := 0) rfl (Or.inl rfl)) pu_int) (pvD 3)) pu_int) (by rfl) FX.z_int PyProof.Rows.boot_int) pu_int))
  (pu_seq (pu_ifS (DL.pt_cmp od_ge (pvD 3) (pu_bin od_pow pu_int pu_int) (by rfl)) (pu_last (pu_rowS (i := 0) rfl (Or.inl rfl) (pu_bin od_fdiv (pvD 3) (pvD 1)))) pu_snil)
  (pu_last (pu_ret (pu_bin od_mod (pu_callT cd_int (pvD 3) (by rfl) FX.z_int PyProof.Rows.boot_int) (pvD 1))))))))))
theorem ok_law_pick : FnOk P w K mg base CX0 2 FX.a_law_pick FX.d_law_pick ["row", "kinds"] (spD K T mg 2 (F_law_pick FX.Gam)) := okD FX.F_law_pick sc_law_pick fun cdv A outer s H E hr hcd =>
  (pu_last (pu_ret (pu_ix hr (pvD 1) (pu_call (ok_law_taken FX TB) (hr.mono (by decide)) (by rfl) FX.g_law_taken FX.F_law_taken.kp FX.b_law_taken passD (pu_cons (pvD 0) (pu_cons (pu_callB cd_len (pvD 1) (by rfl) FX.z_len PySem.boot_len) pu_nil))))))
theorem ok_law_ways : FnOk P w K mg base CX0 1 FX.a_law_ways FX.d_law_ways [] (spD K T mg 0 (F_law_ways FX.Gam)) := okD FX.F_law_ways sc_law_ways fun cdv A outer s H E hr hcd =>
  (pu_last (pu_ret (pu_lst (pu_cons (pu_str (by rfl)) (pu_cons (pu_str (by rfl)) (pu_cons (pu_str (by rfl)) (pu_cons (pu_str (by rfl)) (pu_cons (pu_str (by rfl)) (pu_cons (pu_str (by rfl)) (pu_cons (pu_str (by rfl)) (pu_cons (pu_str (by rfl)) (pu_cons (pu_str (by rfl)) (pu_cons (pu_str (by rfl)) (pu_cons (pu_str (by rfl)) (pu_cons (pu_str (by rfl)) (pu_cons (pu_str (by rfl)) pu_nil))))))))))))) (hl := by first | decide | exact Nat.le_of_ble_eq_true rfl))))
theorem ok_law_promises : FnOk P w K mg base CX0 1 FX.a_law_promises FX.d_law_promises [] (spD K T mg 0 (F_law_promises FX.Gam)) := okD FX.F_law_promises sc_law_promises fun cdv A outer s H E hr hcd =>
  (pu_last (pu_ret (pu_lst (pu_cons (pu_str (by rfl)) (pu_cons (pu_str (by rfl)) (pu_cons (pu_str (by rfl)) (pu_cons (pu_str (by rfl)) (pu_cons (pu_str (by rfl)) (pu_cons (pu_str (by rfl)) (pu_cons (pu_str (by rfl)) (pu_cons (pu_str (by rfl)) (pu_cons (pu_str (by rfl)) (pu_cons (pu_str (by rfl)) pu_nil)))))))))) (hl := by first | decide | exact Nat.le_of_ble_eq_true rfl))))
theorem ok_law_turned : FnOk P w K mg base CX0 1 FX.a_law_turned FX.d_law_turned ["text"] (spD K T mg 1 (F_law_turned FX.Gam)) := okD FX.F_law_turned sc_law_turned fun cdv A outer s H E hr hcd =>
  (pu_last (pu_ret (pu_m1 md_join PySem.F.slot_str_join PySem.F.type_str_join (pu_str (by rfl)) (pu_lc (x := "sign") rfl sc_law_turned.nd (pu_iS (pvD 0)) (by show L2.BlkOk ["text", "sign"] (defScope s_law_turned) _ [("sign", 1)]; exact ⟨rfl, by decide +kernel, by decide +kernel, by decide +kernel, by decide +kernel⟩) (fun _ _ _ _ _ => pg_name (i := 1) sc_law_turned.nd rfl (by first | exact .inl rfl | exact .inr rfl)) (fun _ _ _ _ _ => pts_no) (fun _ _ _ _ _ => (pu_if (DL.pt_cmp (od_eq hr) (pvD 1) (pu_str (by rfl)) (by rfl)) (pu_str (by rfl)) (pu_str (by rfl))))))))
theorem ok_law_answer : FnOk P w K mg base CX0 1 FX.a_law_answer FX.d_law_answer ["way", "text"] (spD K T mg 2 (F_law_answer FX.Gam)) := okD FX.F_law_answer sc_law_answer fun cdv A outer s H E hr hcd =>
  (pu_seq (pu_set (i := 2) sc_law_answer.nd rfl (by first | exact .inl rfl | exact .inr rfl) (pu_bin od_sub (pu_m1 md_count PySem.F.slot_str_count PySem.F.type_str_count (pvD 1) (pu_str (by rfl))) (pu_m1 md_count PySem.F.slot_str_count PySem.F.type_str_count (pvD 1) (pu_str (by rfl)))))
  (pu_seq (pu_ifS (DL.pt_cmp (od_eq hr) (pu_slice (pvD 0) puo_no (puo_so pu_int)) (pu_str (by rfl)) (by rfl)) (pu_seq (pu_set (i := 3) sc_law_answer.nd rfl (by first | exact .inl rfl | exact .inr rfl) (pu_disp (ppd_cons (by rfl) (pu_str (by rfl)) (ppd_cons (by rfl) (pu_str (by rfl)) (ppd_cons (by rfl) (pu_ix hr (pvD 1) pu_int) (ppd_cons (by rfl) (pu_ix hr (pvD 1) (pu_neg pu_int)) ppd_nil))))))
    (pu_last (pu_ret (pu_if (DL.pt_cmp (od_eq hr) (pvD 2) pu_int (by rfl)) (pu_ix hr (pvD 3) (pu_slice (pvD 0) (puo_so pu_int) puo_no)) (pu_if (DL.pt_cmp od_gt (pvD 2) pu_int (by rfl)) (pu_str (by rfl)) (pu_str (by rfl))))))) pu_snil)
  (pu_seq (pu_ifS (DL.pt_cmp (od_in hr) (pvD 0) (pu_lst (pu_cons (pu_str (by rfl)) (pu_cons (pu_str (by rfl)) pu_nil)) (hl := by first | decide | exact Nat.le_of_ble_eq_true rfl)) (by rfl)) (pu_last (pu_ret (pu_ix hr (pvD 1) (pu_if (DL.pt_cmp (od_eq hr) (pvD 0) (pu_str (by rfl)) (by rfl)) pu_int (pu_bin od_sub (pu_callB cd_len (pvD 1) (by rfl) FX.z_len PySem.boot_len) pu_int))))) pu_snil)
  (pu_seq (pu_set (i := 4) sc_law_answer.nd rfl (by first | exact .inl rfl | exact .inr rfl) (pu_cmp (od_eq hr) (pvD 0) (pu_str (by rfl)) (by rfl)))
  (pu_seq (pu_ifS (DL.pt_cmp (od_eq hr) (pvD 0) (pu_str (by rfl)) (by rfl)) (pu_last (pu_set (i := 4) sc_law_answer.nd rfl (by first | exact .inl rfl | exact .inr rfl) (pu_cmp od_gt (pu_m1 md_count PySem.F.slot_str_count PySem.F.type_str_count (pvD 1) (pu_str (by rfl))) pu_int (by rfl)))) pu_snil)
  (pu_seq (pu_ifS (DL.pt_cmp (od_eq hr) (pvD 0) (pu_str (by rfl)) (by rfl)) (pu_last (pu_set (i := 4) sc_law_answer.nd rfl (by first | exact .inl rfl | exact .inr rfl) (pu_cmp (od_eq hr) (pu_m1 md_count PySem.F.slot_str_count PySem.F.type_str_count (pvD 1) (pu_str (by rfl))) pu_int (by rfl)))) pu_snil)
  (pu_seq (pu_ifS (DL.pt_cmp (od_eq hr) (pvD 0) (pu_str (by rfl)) (by rfl)) (pu_last (pu_set (i := 4) sc_law_answer.nd rfl (by first | exact .inl rfl | exact .inr rfl) (pu_cmp (od_in hr) (pu_m1 md_count PySem.F.slot_str_count PySem.F.type_str_count (pvD 1) (pu_str (by rfl))) (pu_lst (pu_cons pu_int (pu_cons pu_int (pu_cons pu_int (pu_cons pu_int (pu_cons pu_int (pu_cons pu_int (pu_cons pu_int pu_nil))))))) (hl := by first | decide | exact Nat.le_of_ble_eq_true rfl)) (by rfl)))) pu_snil)
  (pu_seq (pu_ifS (DL.pt_cmp (od_eq hr) (pvD 0) (pu_str (by rfl)) (by rfl)) (pu_last (pu_set (i := 4) sc_law_answer.nd rfl (by first | exact .inl rfl | exact .inr rfl) (pu_cmp (od_eq hr) (pu_bin od_add (pu_slice (pvD 1) puo_no (puo_so pu_int)) (pu_slice (pvD 1) (puo_so (pu_neg pu_int)) puo_no)) (pu_str (by rfl)) (by rfl)))) pu_snil)
  (pu_seq (pu_ifS (DL.pt_cmp (od_eq hr) (pvD 0) (pu_str (by rfl)) (by rfl)) (pu_seq (by first | exact pu_setLc (x := "at") (j := 5) rfl sc_law_answer.nd rfl rfl (by rfl) (pu_iR2 (by rfl) FX.z_range pu_int (pu_callB cd_len (pvD 1) (by rfl) FX.z_len PySem.boot_len)) (by show L2.BlkOk ["way", "text", "more", "ties", "good", "changes", "at"] (defScope s_law_answer) _ [("at", 6)]; exact ⟨rfl, by decide +kernel, by decide +kernel, by decide +kernel, by decide +kernel⟩) (fun _ _ _ _ _ => pg_name (i := 6) sc_law_answer.nd rfl (by first | exact .inl rfl | exact .inr rfl)) (fun _ _ _ _ _ => (pts_yes (DL.pt_cmp (od_ne hr) (pu_ix hr (pvD 1) (pvD 6)) (pu_ix hr (pvD 1) (pu_bin od_sub (pvD 6) pu_int)) (by rfl)))) (fun _ _ _ _ _ => (pvD 6)) | exact pu_set (i := 5) sc_law_answer.nd rfl (by first | exact .inl rfl | exact .inr rfl) (pu_lc (x := "at") rfl sc_law_answer.nd (pu_iR2 (by rfl) FX.z_range pu_int (pu_callB cd_len (pvD 1) (by rfl) FX.z_len PySem.boot_len)) (by show L2.BlkOk ["way", "text", "more", "ties", "good", "changes", "at"] (defScope s_law_answer) _ [("at", 6)]; exact ⟨rfl, by decide +kernel, by decide +kernel, by decide +kernel, by decide +kernel⟩) (fun _ _ _ _ _ => pg_name (i := 6) sc_law_answer.nd rfl (by first | exact .inl rfl | exact .inr rfl)) (fun _ _ _ _ _ => (pts_yes (DL.pt_cmp (od_ne hr) (pu_ix hr (pvD 1) (pvD 6)) (pu_ix hr (pvD 1) (pu_bin od_sub (pvD 6) pu_int)) (by rfl)))) (fun _ _ _ _ _ => (pvD 6))))
    (pu_last (pu_set (i := 4) sc_law_answer.nd rfl (by first | exact .inl rfl | exact .inr rfl) (pu_or (pu_and (pu_cmp (od_eq hr) (pu_ix hr (pvD 1) pu_int) (pu_str (by rfl)) (by rfl)) (pu_one (pu_cmp (od_eq hr) (pvD 5) (pu_lst pu_nil (hl := by first | decide | exact Nat.le_of_ble_eq_true rfl)) (by rfl)))) (pu_one (pu_and (pu_cmp (od_eq hr) (pu_ix hr (pvD 1) pu_int) (pu_str (by rfl)) (by rfl)) (pu_one (pu_cmp (od_eq hr) (pu_callB cd_len (pvD 5) (by rfl) FX.z_len PySem.boot_len) pu_int (by rfl))))))))) pu_snil)
  (pu_last (pu_ret (pu_if (pt_v (pvD 4)) (pu_str (by rfl)) (pu_str (by rfl))))))))))))))
theorem ok_law_rows : FnOk P w K mg base CX0 1 FX.a_law_rows FX.d_law_rows ["length"] (spD K T mg 1 (F_law_rows FX.Gam)) := okD FX.F_law_rows sc_law_rows fun cdv A outer s H E hr hcd =>
  (pu_seq (pu_set (i := 1) sc_law_rows.nd rfl (by first | exact .inl rfl | exact .inr rfl) (pu_lst (pu_cons (pu_str (by rfl)) pu_nil) (hl := by first | decide | exact Nat.le_of_ble_eq_true rfl)))
  (pu_seq (pu_for PassesOwn.never rfl (pu_iR1 (by rfl) FX.z_range (pvD 0)) (pg_name (i := 2) sc_law_rows.nd rfl (by first | exact .inl rfl | exact .inr rfl)) (pu_seq (pu_set (i := 3) sc_law_rows.nd rfl (by first | exact .inl rfl | exact .inr rfl) (pu_lst pu_nil (hl := by first | decide | exact Nat.le_of_ble_eq_true rfl)))
    (pu_seq (pu_for PassesOwn.never rfl (pu_iS (pvD 1)) (pg_name (i := 4) sc_law_rows.nd rfl (by first | exact .inl rfl | exact .inr rfl)) (pu_last (pu_set (i := 3) sc_law_rows.nd rfl (by first | exact .inl rfl | exact .inr rfl) (pu_bin od_add (pvD 3) (pu_lst (pu_cons (pu_bin od_add (pvD 4) (pu_str (by rfl))) (pu_cons (pu_bin od_add (pvD 4) (pu_str (by rfl))) pu_nil)) (hl := by first | decide | exact Nat.le_of_ble_eq_true rfl))))))
    (pu_last (pu_set (i := 1) sc_law_rows.nd rfl (by first | exact .inl rfl | exact .inr rfl) (pvD 3))))))
  (pu_last (pu_ret (pvD 1)))))
theorem ok_law_short : FnOk P w K mg base CX0 2 FX.a_law_short FX.d_law_short ["most"] (spD K T mg 1 (F_law_short FX.Gam)) := okD FX.F_law_short sc_law_short fun cdv A outer s H E hr hcd =>
  (pu_seq (pu_set (i := 1) sc_law_short.nd rfl (by first | exact .inl rfl | exact .inr rfl) (pu_lst pu_nil (hl := by first | decide | exact Nat.le_of_ble_eq_true rfl)))
  (pu_seq (pu_for PassesOwn.never rfl (pu_iR2 (by rfl) FX.z_range pu_int (pu_bin od_add (pvD 0) pu_int)) (pg_name (i := 2) sc_law_short.nd rfl (by first | exact .inl rfl | exact .inr rfl)) (pu_last (pu_set (i := 1) sc_law_short.nd rfl (by first | exact .inl rfl | exact .inr rfl) (pu_bin od_add (pvD 1) (pu_call (ok_law_rows FX TB) (hr.mono (by decide)) (by rfl) FX.g_law_rows FX.F_law_rows.kp FX.b_law_rows passD (pu_cons (pvD 2) pu_nil))))))
  (pu_last (pu_ret (pvD 1)))))
theorem ok_law_flip : FnOk P w K mg base CX0 2 FX.a_law_flip FX.d_law_flip ["text", "at"] (spD K T mg 2 (F_law_flip FX.Gam)) := okD FX.F_law_flip sc_law_flip fun cdv A outer s H E hr hcd =>
  (pu_last (pu_ret (pu_bin od_add (pu_bin od_add (pu_slice (pvD 0) puo_no (puo_so (pvD 1))) (pu_call (ok_law_turned FX TB) (hr.mono (by decide)) (by rfl) FX.g_law_turned FX.F_law_turned.kp FX.b_law_turned passD (pu_cons (pu_ix hr (pvD 0) (pvD 1)) pu_nil))) (pu_slice (pvD 0) (puo_so (pu_bin od_add (pvD 1) pu_int)) puo_no))))
theorem ok_law_torn : FnOk P w K mg base CX0 3 FX.a_law_torn FX.d_law_torn ["told", "promise", "text"] (spD K T mg 3 (F_law_torn FX.Gam)) := okD FX.F_law_torn sc_law_torn fun cdv A outer s H E hr hcd =>
  (pu_seq (by first | exact pu_par3 rfl sc_law_torn.nd rfl rfl rfl (by decide) (by decide) (by decide) rfl rfl rfl (pu_cons (pu_ix hr (pvD 0) (pvD 2)) (pu_cons (pu_lstR rfl (by rfl) FX.z_list (by rfl) FX.z_range (pu_callB cd_len (pvD 2) (by rfl) FX.z_len PySem.boot_len)) (pu_cons (pu_bin od_sub (pu_m1 md_count PySem.F.slot_str_count PySem.F.type_str_count (pvD 2) (pu_str (by rfl))) (pu_m1 md_count PySem.F.slot_str_count PySem.F.type_str_count (pvD 2) (pu_str (by rfl)))) pu_nil))) (by rfl) | exact pu_unp3 rfl (pg_name (i := 3) sc_law_torn.nd rfl (by first | exact .inl rfl | exact .inr rfl)) (pg_name (i := 4) sc_law_torn.nd rfl (by first | exact .inl rfl | exact .inr rfl)) (pg_name (i := 5) sc_law_torn.nd rfl (by first | exact .inl rfl | exact .inr rfl)) (pu_cons (pu_ix hr (pvD 0) (pvD 2)) (pu_cons (pu_lstR rfl (by rfl) FX.z_list (by rfl) FX.z_range (pu_callB cd_len (pvD 2) (by rfl) FX.z_len PySem.boot_len)) (pu_cons (pu_bin od_sub (pu_m1 md_count PySem.F.slot_str_count PySem.F.type_str_count (pvD 2) (pu_str (by rfl))) (pu_m1 md_count PySem.F.slot_str_count PySem.F.type_str_count (pvD 2) (pu_str (by rfl)))) pu_nil))))
  (pu_seq (pu_ifS (DL.pt_cmp (od_eq hr) (pvD 1) (pu_str (by rfl)) (by rfl)) (pu_last (pu_ret (pu_and (pu_cmp (od_eq hr) (pvD 2) (pu_bin od_mulT (pu_ix hr (pvD 2) pu_int) (pu_callB cd_len (pvD 2) (by rfl) FX.z_len PySem.boot_len)) (by rfl)) (pu_one (pu_cmp (od_ne hr) (pvD 3) (pu_ix hr (pvD 2) pu_int) (by rfl)))))) pu_snil)
  (pu_seq (pu_ifS (DL.pt_cmp (od_eq hr) (pvD 1) (pu_str (by rfl)) (by rfl)) (pu_last (pu_ret (pu_cmp (od_eq hr) (pu_ix hr (pvD 0) (pu_call (ok_law_turned FX TB) (hr.mono (by decide)) (by rfl) FX.g_law_turned FX.F_law_turned.kp FX.b_law_turned passD (pu_cons (pvD 2) pu_nil))) (pvD 3) (by rfl)))) pu_snil)
  (pu_seq (pu_ifS (DL.pt_cmp (od_eq hr) (pvD 1) (pu_str (by rfl)) (by rfl)) (pu_last (pu_ret (pu_and (pu_cmp (od_eq hr) (pvD 3) (pu_str (by rfl)) (by rfl)) (pu_one (pu_cmp (od_ne hr) (pu_lc (x := "at") rfl sc_law_torn.nd (pu_iS (pvD 4)) (by show L2.BlkOk ["told", "promise", "text", "here", "spots", "more", "at"] (defScope s_law_torn) _ [("at", 6)]; exact ⟨rfl, by decide +kernel, by decide +kernel, by decide +kernel, by decide +kernel⟩) (fun _ _ _ _ _ => pg_name (i := 6) sc_law_torn.nd rfl (by first | exact .inl rfl | exact .inr rfl)) (fun _ _ _ _ _ => (pts_yes ((DL.pw_and (DL.pt_cmp (od_eq hr) (pu_ix hr (pvD 2) (pvD 6)) (pu_str (by rfl)) (by rfl)) (DL.pw_one (DL.pt_cmp (od_eq hr) (pu_ix hr (pvD 0) (pu_call (ok_law_flip FX TB) (hr.mono (by decide)) (by rfl) FX.g_law_flip FX.F_law_flip.kp FX.b_law_flip passD (pu_cons (pvD 2) (pu_cons (pvD 6) pu_nil)))) (pu_str (by rfl)) (by rfl))))).pt)) (fun _ _ _ _ _ => (pvD 6))) (pu_lst pu_nil (hl := by first | decide | exact Nat.le_of_ble_eq_true rfl)) (by rfl)))))) pu_snil)
  (pu_seq (pu_ifS (DL.pt_cmp (od_eq hr) (pvD 1) (pu_str (by rfl)) (by rfl)) (pu_last (pu_ret (pu_and (pu_cmp (od_ne hr) (pvD 5) pu_int (by rfl)) (pu_one (pu_cmp (od_ne hr) (pvD 3) (pu_if (DL.pt_cmp od_gt (pvD 5) pu_int (by rfl)) (pu_str (by rfl)) (pu_str (by rfl))) (by rfl)))))) pu_snil)
  (pu_seq (pu_ifS (DL.pt_cmp (od_eq hr) (pvD 1) (pu_str (by rfl)) (by rfl)) (pu_last (pu_ret (pu_cmp (od_ne hr) (pu_lc (x := "at") rfl sc_law_torn.nd (pu_iS (pu_slice (pvD 4) (puo_so pu_int) puo_no)) (by show L2.BlkOk ["told", "promise", "text", "here", "spots", "more", "at"] (defScope s_law_torn) _ [("at", 6)]; exact ⟨rfl, by decide +kernel, by decide +kernel, by decide +kernel, by decide +kernel⟩) (fun _ _ _ _ _ => pg_name (i := 6) sc_law_torn.nd rfl (by first | exact .inl rfl | exact .inr rfl)) (fun _ _ _ _ _ => (pts_yes (DL.pt_cmp (od_ne hr) (pu_ix hr (pvD 0) (pu_bin od_add (pu_bin od_add (pu_bin od_add (pu_slice (pvD 2) puo_no (puo_so (pu_bin od_sub (pvD 6) pu_int))) (pu_ix hr (pvD 2) (pvD 6))) (pu_ix hr (pvD 2) (pu_bin od_sub (pvD 6) pu_int))) (pu_slice (pvD 2) (puo_so (pu_bin od_add (pvD 6) pu_int)) puo_no))) (pvD 3) (by rfl)))) (fun _ _ _ _ _ => (pvD 6))) (pu_lst pu_nil (hl := by first | decide | exact Nat.le_of_ble_eq_true rfl)) (by rfl)))) pu_snil)
  (pu_seq (pu_ifS (DL.pt_cmp (od_eq hr) (pvD 1) (pu_str (by rfl)) (by rfl)) (pu_last (pu_ret (pu_cmp (od_ne hr) (pu_lc (x := "at") rfl sc_law_torn.nd (pu_iS (pu_slice (pvD 4) (puo_so pu_int) puo_no)) (by show L2.BlkOk ["told", "promise", "text", "here", "spots", "more", "at"] (defScope s_law_torn) _ [("at", 6)]; exact ⟨rfl, by decide +kernel, by decide +kernel, by decide +kernel, by decide +kernel⟩) (fun _ _ _ _ _ => pg_name (i := 6) sc_law_torn.nd rfl (by first | exact .inl rfl | exact .inr rfl)) (fun _ _ _ _ _ => (pts_yes (DL.pt_cmp (od_ne hr) (pu_ix hr (pvD 0) (pu_bin od_add (pu_ix hr (pvD 0) (pu_slice (pvD 2) puo_no (puo_so (pvD 6)))) (pu_ix hr (pvD 0) (pu_slice (pvD 2) (puo_so (pvD 6)) puo_no)))) (pvD 3) (by rfl)))) (fun _ _ _ _ _ => (pvD 6))) (pu_lst pu_nil (hl := by first | decide | exact Nat.le_of_ble_eq_true rfl)) (by rfl)))) pu_snil)
  (pu_seq (pu_ifS (DL.pt_cmp (od_eq hr) (pvD 1) (pu_str (by rfl)) (by rfl)) (pu_last (pu_ret (pu_cmp (od_ne hr) (pu_lc (x := "at") rfl sc_law_torn.nd (pu_iS (pvD 4)) (by show L2.BlkOk ["told", "promise", "text", "here", "spots", "more", "at"] (defScope s_law_torn) _ [("at", 6)]; exact ⟨rfl, by decide +kernel, by decide +kernel, by decide +kernel, by decide +kernel⟩) (fun _ _ _ _ _ => pg_name (i := 6) sc_law_torn.nd rfl (by first | exact .inl rfl | exact .inr rfl)) (fun _ _ _ _ _ => (pts_yes (DL.pt_cmp (od_ne hr) (pu_get2 (i := 0) hr rfl (by first | exact Or.inl rfl | exact Or.inr (Or.inl rfl) | exact Or.inr (Or.inr rfl)) (pu_bin od_add (pu_bin od_add (pu_slice (pvD 2) puo_no (puo_so (pvD 6))) (pu_ix hr (pvD 2) (pvD 6))) (pu_slice (pvD 2) (puo_so (pvD 6)) puo_no)) (pvD 3) ⟨by rfl, by rfl, by rfl, by rfl⟩) (pvD 3) (by rfl)))) (fun _ _ _ _ _ => (pvD 6))) (pu_lst pu_nil (hl := by first | decide | exact Nat.le_of_ble_eq_true rfl)) (by rfl)))) pu_snil)
  (pu_last (pu_ret (pu_cmp (od_ne hr) (pu_lc (x := "at") rfl sc_law_torn.nd (pu_iS (pu_bin od_add (pvD 4) (pu_lst (pu_cons (pu_callB cd_len (pvD 2) (by rfl) FX.z_len PySem.boot_len) pu_nil) (hl := by first | decide | exact Nat.le_of_ble_eq_true rfl)))) (by show L2.BlkOk ["told", "promise", "text", "here", "spots", "more", "at"] (defScope s_law_torn) _ [("at", 6)]; exact ⟨rfl, by decide +kernel, by decide +kernel, by decide +kernel, by decide +kernel⟩) (fun _ _ _ _ _ => pg_name (i := 6) sc_law_torn.nd rfl (by first | exact .inl rfl | exact .inr rfl)) (fun _ _ _ _ _ => (pts_yes (DL.pt_cmp (od_ne hr) (pu_get2 (i := 0) hr rfl (by first | exact Or.inl rfl | exact Or.inr (Or.inl rfl) | exact Or.inr (Or.inr rfl)) (pu_bin od_add (pu_bin od_add (pu_slice (pvD 2) puo_no (puo_so (pvD 6))) (pvD 3)) (pu_slice (pvD 2) (puo_so (pvD 6)) puo_no)) (pvD 3) ⟨by rfl, by rfl, by rfl, by rfl⟩) (pvD 3) (by rfl)))) (fun _ _ _ _ _ => (pvD 6))) (pu_lst pu_nil (hl := by first | decide | exact Nat.le_of_ble_eq_true rfl)) (by rfl))))))))))))
theorem ok_law_deaf : FnOk P w K mg base CX0 3 FX.a_law_deaf FX.d_law_deaf ["told", "length"] (spD K T mg 2 (F_law_deaf FX.Gam)) := okD FX.F_law_deaf sc_law_deaf fun cdv A outer s H E hr hcd =>
  (pu_seq (pu_set (i := 2) sc_law_deaf.nd rfl (by first | exact .inl rfl | exact .inr rfl) (pu_call (ok_law_rows FX TB) (hr.mono (by decide)) (by rfl) FX.g_law_rows FX.F_law_rows.kp FX.b_law_rows passD (pu_cons (pvD 1) pu_nil)))
  (pu_last (pu_ret (pu_cmp (od_ne hr) (pu_lc (x := "at") rfl sc_law_deaf.nd (pu_iR1 (by rfl) FX.z_range (pvD 1)) (by show L2.BlkOk ["told", "length", "rows", "at", "text"] (defScope s_law_deaf) _ [("at", 3)]; exact ⟨rfl, by decide +kernel, by decide +kernel, by decide +kernel, by decide +kernel⟩) (fun _ _ _ _ _ => pg_name (i := 3) sc_law_deaf.nd rfl (by first | exact .inl rfl | exact .inr rfl)) (fun _ _ _ _ _ => (pts_yes (DL.pt_cmp (od_eq hr) (pu_lc (x := "text") rfl sc_law_deaf.nd (pu_iS (pvD 2)) (by show L2.BlkOk ["told", "length", "rows", "at", "text"] ({ kind := PySem.ScopeKind.function, names := [ (PySem.Str.ofString ".0", PySem.NameKind.local), (PySem.Str.ofString "at", PySem.NameKind.cell), (PySem.Str.ofString "rows", PySem.NameKind.cell), (PySem.Str.ofString "told", PySem.NameKind.cell)], isGenerator := false, isCoroutine := false, more := [] : PySem.Scope }) _ [("text", 4)]; exact ⟨rfl, by decide +kernel, by decide +kernel, by decide +kernel, by decide +kernel⟩) (fun _ _ _ _ _ => pg_name (i := 4) sc_law_deaf.nd rfl (by first | exact .inl rfl | exact .inr rfl)) (fun _ _ _ _ _ => (pts_yes (DL.pt_cmp (od_ne hr) (pu_ix hr (pvD 0) (pvD 4)) (pu_ix hr (pvD 0) (pu_call (ok_law_flip FX TB) (hr.mono (by decide)) (by rfl) FX.g_law_flip FX.F_law_flip.kp FX.b_law_flip passD (pu_cons (pvD 4) (pu_cons (pvD 3) pu_nil)))) (by rfl)))) (fun _ _ _ _ _ => (pvD 4))) (pu_lst pu_nil (hl := by first | decide | exact Nat.le_of_ble_eq_true rfl)) (by rfl)))) (fun _ _ _ _ _ => (pvD 3))) (pu_lst pu_nil (hl := by first | decide | exact Nat.le_of_ble_eq_true rfl)) (by rfl)))))
theorem ok_law_fine : FnOk P w K mg base CX0 4 FX.a_law_fine FX.d_law_fine ["told", "promise", "most"] (spD K T mg 3 (F_law_fine FX.Gam)) := okD FX.F_law_fine sc_law_fine fun cdv A outer s H E hr hcd =>
  (pu_seq (pu_ifS (DL.pt_cmp (od_eq hr) (pvD 1) (pu_str (by rfl)) (by rfl)) (pu_last (pu_ret (pu_cmp (od_eq hr) (pu_lc (x := "length") rfl sc_law_fine.nd (pu_iR2 (by rfl) FX.z_range pu_int (pu_bin od_add (pvD 2) pu_int)) (by show L2.BlkOk ["told", "promise", "most", "rows", "length", "text"] (defScope s_law_fine) _ [("length", 4)]; exact ⟨rfl, by decide +kernel, by decide +kernel, by decide +kernel, by decide +kernel⟩) (fun _ _ _ _ _ => pg_name (i := 4) sc_law_fine.nd rfl (by first | exact .inl rfl | exact .inr rfl)) (fun _ _ _ _ _ => (pts_yes (pt_v (pu_call (ok_law_deaf FX TB) (hr.mono (by decide)) (by rfl) FX.g_law_deaf FX.F_law_deaf.kp FX.b_law_deaf passD (pu_cons (pvD 0) (pu_cons (pvD 4) pu_nil)))))) (fun _ _ _ _ _ => (pvD 4))) (pu_lst pu_nil (hl := by first | decide | exact Nat.le_of_ble_eq_true rfl)) (by rfl)))) pu_snil)
  (pu_seq (pu_set (i := 3) sc_law_fine.nd rfl (by first | exact .inl rfl | exact .inr rfl) (pu_call (ok_law_short FX TB) (hr.mono (by decide)) (by rfl) FX.g_law_short FX.F_law_short.kp FX.b_law_short passD (pu_cons (pvD 2) pu_nil)))
  (pu_seq (pu_ifS (DL.pt_cmp (od_eq hr) (pvD 1) (pu_str (by rfl)) (by rfl)) (pu_last (pu_ret (pu_cmp (od_eq hr) (pu_lenSet rfl (by rfl) FX.z_len (by rfl) FX.z_set (pu_lc (x := "text") rfl sc_law_fine.nd (pu_iS (pvD 3)) (by show L2.BlkOk ["told", "promise", "most", "rows", "length", "text"] (defScope s_law_fine) _ [("text", 5)]; exact ⟨rfl, by decide +kernel, by decide +kernel, by decide +kernel, by decide +kernel⟩) (fun _ _ _ _ _ => pg_name (i := 5) sc_law_fine.nd rfl (by first | exact .inl rfl | exact .inr rfl)) (fun _ _ _ _ _ => (pts_yes (DL.pt_cmp (od_eq hr) (pu_lenSet rfl (by rfl) FX.z_len (by rfl) FX.z_set (pvD 5)) pu_int (by rfl)))) (fun _ _ _ _ _ => (pu_ix hr (pvD 0) (pvD 5))))) pu_int (by rfl)))) pu_snil)
  (pu_last (pu_ret (pu_cmp (od_eq hr) (pu_lc (x := "text") rfl sc_law_fine.nd (pu_iS (pvD 3)) (by show L2.BlkOk ["told", "promise", "most", "rows", "length", "text"] (defScope s_law_fine) _ [("text", 5)]; exact ⟨rfl, by decide +kernel, by decide +kernel, by decide +kernel, by decide +kernel⟩) (fun _ _ _ _ _ => pg_name (i := 5) sc_law_fine.nd rfl (by first | exact .inl rfl | exact .inr rfl)) (fun _ _ _ _ _ => (pts_yes (pt_v (pu_call (ok_law_torn FX TB) (hr.mono (by decide)) (by rfl) FX.g_law_torn FX.F_law_torn.kp FX.b_law_torn passD (pu_cons (pvD 0) (pu_cons (pvD 1) (pu_cons (pvD 5) pu_nil))))))) (fun _ _ _ _ _ => (pvD 5))) (pu_lst pu_nil (hl := by first | decide | exact Nat.le_of_ble_eq_true rfl)) (by rfl)))))))
theorem oo_law_table : FnOk P w K mg base CX0 3 FX.a_law_table FX.d_law_table ["row"] (spO K T mg 1 6 (A_law_table FX.Gam) 1) := okO FX.F_law_table sc_law_table fun cdv A outer s H E hr hcd =>
  (pur_newP (i := 1) (j := 2) sc_law_table.nd rfl rfl rfl rfl (by decide) (pu_call (ok_law_pick FX TB) (hr.mono (by decide)) (by rfl) FX.g_law_pick FX.F_law_pick.kp FX.b_law_pick passD (pu_cons (pvD 0) (pu_cons (pu_call0 (ok_law_ways FX TB) (hr.mono (by decide)) (by rfl) FX.g_law_ways FX.F_law_ways.kp FX.b_law_ways passD) pu_nil)))
  (pur_seq (pu_set (i := 3) sc_law_table.nd rfl (by first | exact .inl rfl | exact .inr rfl) (pu_call (ok_law_taken FX TB) (hr.mono (by decide)) (by rfl) FX.g_law_taken FX.F_law_taken.kp FX.b_law_taken passD (pu_cons (pvD 0) (pu_cons pu_int pu_nil))))
  (pur_seq (pu_for PassesOwn.never rfl (pu_iS (pu_call (ok_law_short FX TB) (hr.mono (by decide)) (by rfl) FX.g_law_short FX.F_law_short.kp FX.b_law_short passD (pu_cons pu_int pu_nil))) (pg_name (i := 4) sc_law_table.nd rfl (by first | exact .inl rfl | exact .inr rfl)) (pu_last (pu_putO (i := 1) hr rfl (by first | exact Or.inl rfl | exact Or.inr (Or.inl rfl) | exact Or.inr (Or.inr rfl)) (pvD 4) (pu_if (DL.pt_cmp (od_eq hr) (pvD 3) pu_int (by rfl)) (pu_call (ok_law_pick FX TB) (hr.mono (by decide)) (by rfl) FX.g_law_pick FX.F_law_pick.kp FX.b_law_pick passD (pu_cons (pvD 0) (pu_cons (pu_lst (pu_cons (pu_str (by rfl)) (pu_cons (pu_str (by rfl)) pu_nil)) (hl := by first | decide | exact Nat.le_of_ble_eq_true rfl)) pu_nil))) (pu_call (ok_law_answer FX TB) (hr.mono (by decide)) (by rfl) FX.g_law_answer FX.F_law_answer.kp FX.b_law_answer passD (pu_cons (pvD 2) (pu_cons (pvD 4) pu_nil)))))))
  (pur_seq (pu_set (i := 5) sc_law_table.nd rfl (by first | exact .inl rfl | exact .inr rfl) (pu_call (ok_law_pick FX TB) (hr.mono (by decide)) (by rfl) FX.g_law_pick FX.F_law_pick.kp FX.b_law_pick passD (pu_cons (pvD 0) (pu_cons (pu_call (ok_law_short FX TB) (hr.mono (by decide)) (by rfl) FX.g_law_short FX.F_law_short.kp FX.b_law_short passD (pu_cons pu_int pu_nil)) pu_nil))))
  (pur_seq (pu_putO (i := 1) hr rfl (by first | exact Or.inl rfl | exact Or.inr (Or.inl rfl) | exact Or.inr (Or.inr rfl)) (pvD 5) (pu_frz (i := 1) (pu_if (DL.pt_cmp (od_eq hr) (pvD 3) pu_int (by rfl)) (pu_call (ok_law_turned FX TB) (hr.mono (by decide)) (by rfl) FX.g_law_turned FX.F_law_turned.kp FX.b_law_turned passD (pu_cons (pu_ix hr (pvD 1) (pvD 5)) pu_nil)) (pu_ix hr (pvD 1) (pvD 5)))))
  (pur_ret (j := 1) rfl (by first | exact Or.inl rfl | exact Or.inr (Or.inl rfl) | exact Or.inr (Or.inr rfl))))))))
end
noncomputable def B_law (Γ : Cfg) : SM :=
  sSeq (sFor 2 (iR1 (eC (.int (8)))) (sSeq (sUn 3)
    (sSeq (sCallO 3 (A_law_table Γ) 6 1 [eV 1])
    (sSeq (sIf (tV (e2 (op2 eqD) (eCall (F_law_taken Γ) [eV 1, eC (.int (2))]) (eC (.int (0))))) (sFor 4 (iS (eCall (F_law_rows Γ) [eC (.int (3))])) (sPutO 3 (eV 4) (eFrz 3 (eIf (tV (e2 (op2 eqD) (eCall (F_law_taken Γ) [eV 1, eC (.int (2))]) (eC (.int (0))))) (e2 (op2 ixA) (eV 3) (e2 (op2 addD) (e2 (op2 ixA) (eV 3) (eSl (eV 4) pNo (pSo (eC (.int (2)))))) (e2 (op2 ixA) (eV 3) (eSl (eV 4) (pSo (eC (.int (2)))) pNo)))) (e2 (op2 ixA) (eV 3) (eV 4)))))) (sNil))
    (sSeq (sSet 5 (eFrz 3 (e1 (op1 tupD) (eLc 6 (iS (eCall (F_law_promises Γ) [])) (tV (eCall (F_law_fine Γ) [eV 3, eV 6, eC (.int (3))])) (eV 6)))))
    (sIf (tOr (tV (e2 (op2 isNotD) (eCall (F_can_hold Γ) [eV 5]) (eC (.bl true)))) (tV (e2 (op2 neD) (eCall (F_clashes Γ) [eV 5]) (eTup [])))) (sRet (eC (.bl false))) (sNil)))))))
  (sRet (eC (.bl true)))
section
variable {P : Program} {w : World} {K : PySem.W.Frag} {mg : Str → Option Value} {base : Heap} {T : Tb} {CS : List (Addr × Addr)} (FX : Fx w K mg T CS) (TB : ∀ p ∈ CS, GxR.TabB base mg p.1 p.2)
include FX TB
theorem ok_law (hT : ∀ P ∈ T, P ∈ CS.map (·.2)) (hL : ∀ p ∈ T.ls, p.1 ∈ CS.map (·.2)) (hD : ∀ p ∈ T.ls, ¬ p.1 ∈ T) (hm : ∀ ns : List Int, ns.length ≤ 63 → (∀ z ∈ ns, Builtin.Int.intBits z ≤ 1048576) → ∃ z', B_law FX.Gam (rhoL 7) ⟨ns, 0, 15605, 0⟩ = .rt (.bl true) z') : FnOk P w K mg base CX0 9 FX.a_law FX.d_law ["script"] (spLaw K CS) :=
  ok_lawD FX.F_law sc_law rfl rfl rfl (by decide) (by decide) (fun _ _ _ _ _ _ => by rfl) (fun cdv A outer s H E hr hcd =>
  (pu_seq (pu_for PassesOwn.never rfl (pu_iR1 (by rfl) FX.z_range pu_int) (pg_name (i := 2) sc_law.nd rfl (by first | exact .inl rfl | exact .inr rfl)) (pu_sun (i := 3)
    (pu_seq (pu_callO (i := 3) (oo_law_table FX TB) (hr.mono (by decide)) (by rfl) FX.g_law_table FX.F_law_table.kp FX.b_law_table passD (pu_cons (pvD 1) pu_nil) sc_law.nd rfl (by first | exact .inl rfl | exact .inr rfl))
    (pu_seq (pu_ifS (DL.pt_cmp (od_eq hr) (pu_call (ok_law_taken FX TB) (hr.mono (by decide)) (by rfl) FX.g_law_taken FX.F_law_taken.kp FX.b_law_taken passD (pu_cons (pvD 1) (pu_cons pu_int pu_nil))) pu_int (by rfl)) (pu_last (pu_for PassesOwn.never rfl (pu_iS (pu_call (ok_law_rows FX TB) (hr.mono (by decide)) (by rfl) FX.g_law_rows FX.F_law_rows.kp FX.b_law_rows passD (pu_cons pu_int pu_nil))) (pg_name (i := 4) sc_law.nd rfl (by first | exact .inl rfl | exact .inr rfl)) (pu_last (pu_putO (i := 3) hr rfl (by first | exact Or.inl rfl | exact Or.inr (Or.inl rfl) | exact Or.inr (Or.inr rfl)) (pvD 4) (pu_frz (i := 3) (pu_if (DL.pt_cmp (od_eq hr) (pu_call (ok_law_taken FX TB) (hr.mono (by decide)) (by rfl) FX.g_law_taken FX.F_law_taken.kp FX.b_law_taken passD (pu_cons (pvD 1) (pu_cons pu_int pu_nil))) pu_int (by rfl)) (pu_ix hr (pvD 3) (pu_bin od_add (pu_ix hr (pvD 3) (pu_slice (pvD 4) puo_no (puo_so pu_int))) (pu_ix hr (pvD 3) (pu_slice (pvD 4) (puo_so pu_int) puo_no)))) (pu_ix hr (pvD 3) (pvD 4)))))))) pu_snil)
    (pu_seq (pu_set (i := 5) sc_law.nd rfl (by first | exact .inl rfl | exact .inr rfl) (pu_frz (i := 3) (pu_callT cd_tuple (pu_lc (x := "one") rfl sc_law.nd (pu_iS (pu_call0 (ok_law_promises FX TB) (hr.mono (by decide)) (by rfl) FX.g_law_promises FX.F_law_promises.kp FX.b_law_promises passD)) (by show L2.BlkOk ["script", "row", "turn", "told", "text", "wanted", "one"] (defScope s_law) _ [("one", 6)]; exact ⟨rfl, by decide +kernel, by decide +kernel, by decide +kernel, by decide +kernel⟩) (fun _ _ _ _ _ => pg_name (i := 6) sc_law.nd rfl (by first | exact .inl rfl | exact .inr rfl)) (fun _ _ _ _ _ => (pts_yes (pt_v (pu_call (ok_law_fine FX TB) (hr.mono (by decide)) (by rfl) FX.g_law_fine FX.F_law_fine.kp FX.b_law_fine passD (pu_cons (pvD 3) (pu_cons (pvD 6) (pu_cons pu_int pu_nil))))))) (fun _ _ _ _ _ => (pvD 6))) (by rfl) FX.z_tuple PyProof.Rows.boot_tuple)))
    (pu_last (pu_ifS ((DL.pw_or (DL.pt_cmp od_isNot (pu_call (ok_can_hold FX TB) (hr.mono (by decide)) (by rfl) FX.g_can_hold FX.F_can_hold.kp FX.b_can_hold passD (pu_cons (pvD 5) pu_nil)) pu_bl (by rfl)) (DL.pw_oneO (DL.pt_cmp (od_ne hr) (pu_call (ok_clashes FX TB) (hr.mono (by decide)) (by rfl) FX.g_clashes FX.F_clashes.kp FX.b_clashes passD (pu_cons (pvD 5) pu_nil)) (pu_tup pu_nil (hl := by first | decide | exact Nat.le_of_ble_eq_true rfl)) (by rfl))))).pt (pu_last (pu_ret pu_bl)) pu_snil)))))))
  (pu_last (pu_ret pu_bl)))) hT hL hD hm
end
end K05
set_option Elab.async false
set_option linter.all false
set_option maxRecDepth 100000
set_option maxHeartbeats 4000000
namespace C
open PySem PySem.Spec PyProof.Rows L2 DL
variable {Γ : Cfg}
structure Good (z : S) : Prop where
  p0 : 0 ≤ z.place
  s0 : 0 ≤ z.seed
  s1 : z.seed < 2147483647
  r0 : 0 ≤ z.rest
theorem atI_there {α : Type} {xs : List α} {i : Int} (h0 : 0 ≤ i) (h1 : i < xs.length) : atI xs i = xs[i.toNat]? := by
  unfold atI ixN
  rw [if_pos h0, if_pos h1]
  rfl
theorem taken_ok {z : S} (g : Good z) {many : Int} (h1 : 0 < many) (h2 : many < 1000) : WP (F_law_taken Γ [.row, .int many]) z fun d z' => ∃ r, d = .int r ∧ 0 ≤ r ∧ r < many ∧ Good z' := by
  obtain ⟨p0, s0, s1, r0⟩ := g
  have b : many < 1073741824 := by omega
  have m0 : ∀ x : Int, 0 ≤ x % many := fun x => Int.emod_nonneg x (by omega)
  have m1 : ∀ x : Int, x % many < many := fun x => Int.emod_lt_of_pos x h1
  simp [F_law_taken, B_law_taken, rho0, h1, powD, mulI]
  split
  · exact ⟨b, m0 _, m1 _, p0, s0, s1, Int.ediv_nonneg r0 (by omega)⟩
  · split
    · exact ⟨m0 _, m1 _, by show 0 ≤ z.place + 1; omega, by show 0 ≤ _ % _; omega, by show _ % _ < _; omega, r0⟩
    · rename_i h3 h4
      obtain ⟨c, hc⟩ : ∃ c, atI z.script z.place = some c := by
        rw [atI_there p0 (by omega)]
        exact ⟨_, List.getElem?_eq_getElem (by omega)⟩
      simp [hc, h1, b]
      split
      · exact ⟨m0 _, m1 _, by show 0 ≤ z.place + 1; omega, by show 0 ≤ _ % _; omega, by show _ % _ < _; omega, Int.ediv_nonneg (by omega) (by omega)⟩
      · exact ⟨m0 _, m1 _, by show 0 ≤ z.place + 1; omega, by show 0 ≤ _ % _; omega, by show _ % _ < _; omega, r0⟩
theorem pick_ok {z : S} (g : Good z) {ks : List D} (h1 : ks ≠ []) (h2 : ks.length < 1000) : WP (F_law_pick Γ [.row, .lst ks]) z fun d z' => d ∈ ks ∧ Good z' := by
  have h0 : 0 < ks.length := List.length_pos_iff.mpr h1
  simp [F_law_pick, B_law_pick, rho0]
  refine WP_mono (taken_ok g (by omega) (by omega)) fun d z' ⟨r, e, r0, r1, g'⟩ => ?_
  subst e
  have e2 : atI ks r = some ks[r.toNat] := by
    rw [atI_there r0 r1, List.getElem?_eq_getElem (by omega)]
  simp [ixA, ixD, e2, g']
/-- a row of signs -/
def txt (bs : List Bool) : List Nat := bs.map fun b => if b then 43 else 45
theorem strs_txt : ∀ bs : List Bool, strsD ((txt bs).map fun c => D.str [c]) = some ((txt bs).map fun c => [c])
  | [] => rfl
  | b :: bs => by
    show strsD (D.str _ :: _) = _
    unfold strsD
    rw [show List.map (fun c => D.str [c]) (List.map (fun b => if b = true then 43 else 45) bs) = (txt bs).map fun c => D.str [c] from rfl, strs_txt bs]
    rfl
theorem joinL_one : ∀ zs : List Nat, joinL [] (zs.map fun c => [c]) = zs
  | [] => rfl
  | [z] => rfl
  | z :: w :: r => by
    show [z] ++ [] ++ joinL [] ((w :: r).map fun c => [c]) = _
    rw [joinL_one (w :: r)]
    rfl
theorem join_txt {bs : List Bool} (h : bs.length ≤ 1000) : joinD [] (.lst ((txt bs).map fun c => D.str [c])) = some (.str (txt bs)) := by
  unfold joinD
  simp only [items_lst, Option.bind_some, strs_txt]
  rw [joinL_one, if_pos]
  have : ∀ zs : List Nat, ((zs.map fun c => [c]).map List.length).sum = zs.length := fun zs => by
    induction zs with
    | nil => rfl
    | cons z zs ih => simp at ih ⊢; omega
  rw [this]
  simp [txt]
  omega
def sg (b : Bool) : Nat := if b then 43 else 45
def nm : Nat → List Nat
  | 0 => [97, 108, 108, 111, 119, 32, 111, 118, 101, 114]
  | 1 => [97, 108, 119, 97, 121, 115, 32, 97, 108, 108, 111, 119]
  | 2 => [97, 108, 119, 97, 121, 115, 32, 100, 101, 110, 121]
  | 3 => [98, 111, 116, 104, 32, 101, 110, 100, 115]
  | 4 => [100, 101, 110, 121, 32, 111, 118, 101, 114]
  | 5 => [102, 105, 114, 115, 116]
  | 6 => [105, 115, 108, 97, 110, 100]
  | 7 => [108, 97, 115, 116]
  | 8 => [109, 111, 115, 116, 32, 111, 114, 32, 97, 108, 108, 111, 119]
  | 9 => [109, 111, 115, 116, 32, 111, 114, 32, 100, 101, 110, 121]
  | 10 => [109, 111, 115, 116, 32, 111, 114, 32, 102, 105, 114, 115, 116]
  | 11 => [109, 111, 115, 116, 32, 111, 114, 32, 108, 97, 115, 116]
  | _ => [111, 100, 100]
theorem okS_txt {bs : List Bool} : okS (txt bs) = true := by
  unfold okS txt
  rw [List.all_map, List.all_eq_true]
  intro b _
  cases b <;> rfl
theorem txt_len {bs : List Bool} : (txt bs).length = bs.length := by simp [txt]
theorem txt_cnt {bs : List Bool} : (txt bs).count 43 = bs.count true ∧ (txt bs).count 45 = bs.count false := by
  induction bs with
  | nil => exact ⟨rfl, rfl⟩
  | cons b bs ih =>
    have e : txt (b :: bs) = (if b then 43 else 45) :: txt bs := rfl
    rw [e, List.count_cons, List.count_cons, List.count_cons, List.count_cons, ih.1, ih.2]
    cases b <;> simp
theorem addD_str {a b : List Nat} (h : a.length + b.length ≤ 16777216) : addD (.str a) (.str b) = some (.str (a ++ b)) := by
  show (if a.length + b.length ≤ sizeLine then _ else _) = _
  rw [if_pos (by rw [sizeLine_eq]; exact h)]
def hd (bs : List Bool) : Bool := bs.head?.getD true
def la (bs : List Bool) : Bool := bs.getLast?.getD true
theorem atI_0 {bs : List Bool} (h : bs ≠ []) : atI (txt bs) 0 = some (sg (hd bs)) := by
  cases bs with
  | nil => exact absurd rfl h
  | cons b r => rw [atI_pos (by omega)]; rfl
theorem get_last {bs : List Bool} (h : bs ≠ []) {α : Type} (f : Bool → α) : (bs.map f)[bs.length - 1]? = some (f (la bs)) := by
  unfold la
  rw [List.getElem?_map, ← List.getLast?_eq_getElem?]
  cases e : bs.getLast? with
  | none => exact absurd (List.getLast?_eq_none_iff.mp e) h
  | some x => rfl
theorem atI_m1 {bs : List Bool} (h : bs ≠ []) : atI (txt bs) (-1) = some (sg (la bs)) := by
  have hp := List.length_pos_iff.mpr h
  rw [atI_neg (by omega) (by rw [txt_len]; omega), txt_len, show ((-1 : Int) + bs.length).toNat = bs.length - 1 by omega]
  exact get_last h _
theorem atI_l {bs : List Bool} (h : bs ≠ []) : atI (txt bs) ((bs.length : Int) - 1) = some (sg (la bs)) := by
  have hp := List.length_pos_iff.mpr h
  rw [atI_pos (by omega), show ((bs.length : Int) - 1).toNat = bs.length - 1 by omega]
  exact get_last h _
theorem cut_1 {bs : List Bool} (h : bs ≠ []) : cutL (txt bs) none (some 1) = [sg (hd bs)] := by
  cases bs with
  | nil => exact absurd rfl h
  | cons b r => rw [cutL_hi (by omega)]; rfl
theorem cut_m1 {bs : List Bool} (h : bs ≠ []) : cutL (txt bs) (some (-1)) none = [sg (la bs)] := by
  have hp := List.length_pos_iff.mpr h
  rw [cutL_last (by omega) (by rw [txt_len]; omega), txt_len, show ((-1 : Int) + bs.length).toNat = bs.length - 1 by omega]
  have h1 : bs.length - 1 < (txt bs).length := by rw [txt_len]; omega
  rw [List.drop_eq_getElem_cons h1, List.drop_of_length_le (by rw [txt_len]; omega)]
  have h2 := get_last h (fun b => if b then 43 else 45)
  rw [show (bs.map fun b => if b then 43 else 45) = txt bs from rfl, List.getElem?_eq_getElem h1] at h2
  rw [Option.some.inj h2]
  rfl
/-- the changes of a row that begins behind p -/
def chg : Bool → List Bool → List Bool
  | _, [] => []
  | p, b :: r => if b = p then chg p r else b :: chg b r
def isl : List Bool → Bool
  | [] => false
  | true :: r => decide (chg true r = [])
  | false :: r => decide ((chg false r).length = 2)
def ans : Nat → List Bool → Bool
  | 0, bs => decide (true ∈ bs)
  | 1, _ => true
  | 2, _ => false
  | 3, bs => hd bs && la bs
  | 4, bs => !decide (false ∈ bs)
  | 5, bs => hd bs
  | 6, bs => isl bs
  | 7, bs => la bs
  | 8, bs => decide (bs.count false ≤ bs.count true)
  | 9, bs => decide (bs.count false < bs.count true)
  | 10, bs => if bs.count true = bs.count false then hd bs else decide (bs.count false < bs.count true)
  | 11, bs => if bs.count true = bs.count false then la bs else decide (bs.count false < bs.count true)
  | _, bs => decide (bs.count false % 2 = 0)
theorem inD_ints7 {w : Int} : inD (.int w) (.lst [.int 0, .int 2, .int 4, .int 6, .int 8, .int 10, .int 12]) = some (.bl ([0, 2, 4, 6, 8, 10, 12].any fun z => decide (z = w))) := inD_ints (zs := [0, 2, 4, 6, 8, 10, 12])
/-- where a row changes -/
def cks (bs : List Bool) : List Nat := (List.range (bs.length - 1)).filter fun k => (bs[k + 1]? != bs[k]?)
theorem cks_chg : ∀ (b : Bool) (r : List Bool), ((List.range r.length).filter fun k => ((b :: r)[k + 1]? != (b :: r)[k]?)).map (fun k => (b :: r)[k + 1]?) = (chg b r).map some
  | b, [] => rfl
  | b, c :: r => by
    rw [List.length_cons, List.range_succ_eq_map, List.filter_cons]
    have ih := cks_chg c r
    have e : ((List.map Nat.succ (List.range r.length)).filter fun k => ((b :: c :: r)[k + 1]? != (b :: c :: r)[k]?)).map (fun k => (b :: c :: r)[k + 1]?) = ((List.range r.length).filter fun k => ((c :: r)[k + 1]? != (c :: r)[k]?)).map (fun k => (c :: r)[k + 1]?) := by
      rw [List.filter_map, List.map_map]
      rfl
    unfold chg
    by_cases h : c = b
    · subst h
      rw [if_neg (by simp), e, ih, if_pos rfl]
    · rw [if_pos (by simp [h]), List.map_cons, e, ih, if_neg h]
      rfl
theorem cks_len (b : Bool) (r : List Bool) : (cks (b :: r)).length = (chg b r).length := by
  have h := congrArg List.length (cks_chg b r)
  simpa [cks] using h
theorem txt_get {bs : List Bool} {k : Nat} (h : k < bs.length) : (txt bs)[k]? = some (sg bs[k]) := by
  unfold txt
  rw [List.getElem?_map, List.getElem?_eq_getElem h]
  rfl
end C
set_option Elab.async false
set_option linter.all false
set_option maxRecDepth 100000
set_option maxHeartbeats 4000000
namespace C
open PySem PySem.Spec PyProof.Rows L2 DL
variable {Γ : Cfg}
def vc : Bool → List Nat
  | true => [97, 108, 108, 111, 119]
  | false => [100, 101, 110, 121]
def vs (bs : List Bool) : List D := bs.map fun b => .str (vc b)
theorem vs_map (bs : List Bool) : vs bs = (bs.map vc).map .str := by unfold vs; rw [List.map_map]; rfl
theorem okS_vc (b : Bool) : okS (vc b) = true := by cases b <;> rfl
theorem ok_vs (bs : List Bool) : ∀ z ∈ bs.map vc, okS z = true := by
  intro z hz
  obtain ⟨b, _, rfl⟩ := List.mem_map.mp hz
  exact okS_vc b
theorem vc_inj {a b : Bool} : vc a = vc b ↔ a = b := by cases a <;> cases b <;> simp [vc]
theorem vs_len {bs : List Bool} : (vs bs).length = bs.length := by simp [vs]
theorem vs_0 {bs : List Bool} (h : bs ≠ []) : atI (vs bs) 0 = some (.str (vc (hd bs))) := by
  cases bs with
  | nil => exact absurd rfl h
  | cons b r => rw [atI_pos (by omega)]; rfl
theorem vs_m1 {bs : List Bool} (h : bs ≠ []) : atI (vs bs) (-1) = some (.str (vc (la bs))) := by
  have hp := List.length_pos_iff.mpr h
  rw [atI_neg (by omega) (by rw [vs_len]; omega), vs_len, show ((-1 : Int) + bs.length).toNat = bs.length - 1 by omega]
  exact get_last h _
theorem any_vc {c : Bool} {bs : List Bool} : ((bs.map vc).any fun z => decide (z = vc c)) = decide (c ∈ bs) := by
  induction bs with
  | nil => rfl
  | cons b bs ih =>
    rw [List.map_cons, List.any_cons, ih]
    by_cases h : b = c
    · subst h; simp
    · have h2 : ¬ vc b = vc c := fun e => h (vc_inj.mp e)
      have h3 : ¬ c = b := fun e => h e.symm
      simp [h2, h3]
theorem in_vs {c : Bool} {bs : List Bool} : inD (.str (vc c)) (.tup (vs bs)) = some (.bl (decide (c ∈ bs))) := by
  rw [vs_map, inD_tup (okS_vc c) (ok_vs bs), any_vc]
theorem in_t {bs : List Bool} : inD (.str [97, 108, 108, 111, 119]) (.tup (vs bs)) = some (.bl (decide (true ∈ bs))) := in_vs (c := true)
theorem in_f {bs : List Bool} : inD (.str [100, 101, 110, 121]) (.tup (vs bs)) = some (.bl (decide (false ∈ bs))) := in_vs (c := false)
/-- a greater voice -/
def grt (bs : List Bool) : D := if bs.count true = bs.count false then .non else if bs.count false < bs.count true then .str (vc true) else .str (vc false)
/-- a row's stretches -/
theorem vs_get {bs : List Bool} {k : Nat} (h : k < bs.length) : (vs bs)[k]? = some (.str (vc bs[k])) := by
  unfold vs
  rw [List.getElem?_map, List.getElem?_eq_getElem h]
  rfl
def str (bs : List Bool) : List Bool := match bs with
  | [] => []
  | b :: r => b :: chg b r
theorem strs_eq : ∀ bs : List Bool, (((List.range bs.length).filter fun k => k == 0 || bs[k]? != bs[k - 1]?).map fun k => bs[k]?) = (str bs).map some
  | [] => rfl
  | b :: r => by
    rw [List.length_cons, List.range_succ_eq_map, List.filter_cons, if_pos (by rfl), List.map_cons, List.filter_map, List.map_map]
    have e : (List.map ((fun k => (b :: r)[k]?) ∘ Nat.succ) (List.filter ((fun k => k == 0 || (b :: r)[k]? != (b :: r)[k - 1]?) ∘ Nat.succ) (List.range r.length))) = ((List.range r.length).filter fun k => ((b :: r)[k + 1]? != (b :: r)[k]?)).map (fun k => (b :: r)[k + 1]?) := rfl
    rw [e, cks_chg]
    rfl
theorem stretches_ok {bs : List Bool} (h1 : bs.length ≤ 12) : F_stretches Γ [.tup (vs bs)] = mpure (.tup (vs (str bs))) := WP_pure_of fun z => by
  simp [F_stretches, B_stretches, rho0, vs_len]
  refine ⟨by omega, by simp [rangeD, sizeLine_eq]; omega, ?_⟩
  rw [compL_range (tb := fun k => k == 0 || bs[k]? != bs[k - 1]?) (fb := fun k => match bs[k]? with | some b => .str (vc b) | none => .non) fun k hk => ⟨WP_pure_of fun z => ?_, fun _ => WP_pure_of fun z => ?_⟩]
  · rw [WP_pure]
    refine ⟨?_, rfl⟩
    have h := congrArg (List.map fun o : Option Bool => match o with | some b => D.str (vc b) | none => .non) (strs_eq bs)
    rw [List.map_map, List.map_map] at h
    exact h
  · have e1 : atI (vs bs) (k : Int) = some (.str (vc bs[k])) := by rw [atI_pos (by omega), Int.toNat_natCast, vs_get hk]
    cases k with
    | zero => simp
    | succ k =>
      have e2 : atI (vs bs) (k : Int) = some (.str (vc bs[k])) := by
        rw [atI_pos (by omega), Int.toNat_natCast, vs_get (by omega)]
      have e3 : ¬ ((k : Int) + 1 = 0) := by omega
      have e1 : atI (vs bs) ((k : Int) + 1) = some (.str (vc bs[k + 1])) := by rw [atI_pos (by omega), show ((k : Int) + 1).toNat = k + 1 by omega, vs_get hk]
      simp [e1, e2, e3, neD_str, okS_vc]
      rw [List.getElem?_eq_getElem hk, List.getElem?_eq_getElem (by omega)]
      cases bs[k + 1] <;> cases bs[k] <;> rfl
  · have e1 : atI (vs bs) (k : Int) = some (.str (vc bs[k])) := by rw [atI_pos (by omega), Int.toNat_natCast, vs_get hk]
    simp [e1]
    rw [List.getElem?_eq_getElem hk]
theorem alt : ∀ (r : List Bool) (p : Bool), (chg p r).length = 2 → chg p r = [!p, p]
  | [], p, h => by simp [chg] at h
  | b :: r, p, h => by
    unfold chg at h ⊢
    by_cases e : b = p
    · rw [if_pos e] at h ⊢
      exact alt r p h
    · rw [if_neg e] at h ⊢
      have e2 : b = !p := by cases b <;> cases p <;> simp_all
      subst e2
      rw [List.length_cons] at h
      have one : ∀ (r : List Bool) (q : Bool), (chg q r).length = 1 → chg q r = [!q] := by
        intro r
        induction r with
        | nil => intro q h; simp [chg] at h
        | cons c r ih =>
          intro q h
          unfold chg at h ⊢
          by_cases e : c = q
          · rw [if_pos e] at h ⊢
            exact ih q h
          · rw [if_neg e] at h ⊢
            have e2 : c = !q := by cases c <;> cases q <;> simp_all
            subst e2
            have : (chg (!q) r) = [] := List.length_eq_zero_iff.mp (by simpa using h)
            rw [this]
      rw [one r (!p) (by omega)]
      simp
theorem vcs_inj {a b : List Bool} : a.map vc = b.map vc ↔ a = b := by
  constructor
  · intro h
    exact List.map_inj_right (f := vc) (fun x y => vc_inj.mp) |>.mp h
  · intro h; rw [h]
theorem isl_any {bs : List Bool} (h0 : bs ≠ []) : (([[vc true], [vc false, vc true, vc false]] : List (List (List Nat))).any fun b => decide (b = (str bs).map vc)) = isl bs := by
  have d2 : ([vc true] = (str bs).map vc) ↔ [true] = str bs := by
    rw [show [vc true] = [true].map vc from rfl]; exact vcs_inj
  have d3 : ([vc false, vc true, vc false] = (str bs).map vc) ↔ [false, true, false] = str bs := by
    rw [show [vc false, vc true, vc false] = [false, true, false].map vc from rfl]; exact vcs_inj
  rw [Bool.eq_iff_iff]
  simp only [List.any_cons, List.any_nil, Bool.or_false, Bool.or_eq_true, decide_eq_true_eq, d2, d3]
  cases bs with
  | nil => exact absurd rfl h0
  | cons b r =>
    cases b with
    | true =>
      unfold str isl
      rw [decide_eq_true_eq]
      constructor
      · intro h
        rcases h with h | h
        · exact (List.cons.inj h).2.symm
        · cases (List.cons.inj h).1
      · intro h
        exact .inl (show [true] = true :: chg true r by rw [h])
    | false =>
      unfold str isl
      rw [decide_eq_true_eq]
      constructor
      · intro h
        rcases h with h | h
        · cases (List.cons.inj h).1
        · rw [← (List.cons.inj h).2]; rfl
      · intro h
        exact .inr (show [false, true, false] = false :: chg false r by rw [alt r false h]; rfl)
theorem isl_in {bs : List Bool} (h0 : bs ≠ []) : inD (.tup (vs (str bs))) (.tup [.tup [.str (vc true)], .tup [.str (vc false), .str (vc true), .str (vc false)]]) = some (.bl (isl bs)) := by
  have h := inD_tups (a := (str bs).map vc) (bss := [[vc true], [vc false, vc true, vc false]]) (ok_vs _) (by
    intro b hb z hz
    simp at hb
    rcases hb with rfl | rfl
    · simp at hz; rw [hz]; exact okS_vc _
    · simp at hz; rcases hz with rfl | rfl | rfl <;> exact okS_vc _)
  rw [isl_any h0, ← vs_map] at h
  exact h
theorem isl_in2 {bs : List Bool} (h0 : bs ≠ []) : inD (.tup (vs (str bs))) (.tup [.tup [.str [97, 108, 108, 111, 119]], .tup [.str [100, 101, 110, 121], .str [97, 108, 108, 111, 119], .str [100, 101, 110, 121]]]) = some (.bl (isl bs)) := isl_in h0
theorem island_a {bs : List Bool} (h0 : bs ≠ []) (h1 : bs.length ≤ 12) (z : S) (Q : D → S → Prop) : WP (eIf (tV (e2 (op2 inD) (eCall (F_stretches Γ) [eV 0]) (eTup [eTup [eC (.str [97, 108, 108, 111, 119])], eTup [eC (.str [100, 101, 110, 121]), eC (.str [97, 108, 108, 111, 119]), eC (.str [100, 101, 110, 121])]]))) (eC (.str [97, 108, 108, 111, 119])) (eC (.str [100, 101, 110, 121])) [some (.val (.tup (vs bs)))]) z Q = Q (.str (vc (isl bs))) z := by
  rw [eIf_ev, tV_ev, e2_ev, eCall_ev, evs_cons, eV_zero, WP_pure, evs_nil, stretches_ok h1, WP_pure]
  simp only [eTup_ev, evs_cons, evs_nil, eC_ev, WP_pure, op2_ev, isl_in2 h0, WP_some, asB_bl]
  cases isl bs <;> rfl
theorem island_ok {bs : List Bool} (h0 : bs ≠ []) (h1 : bs.length ≤ 12) : F_island_ways Γ [.tup (vs bs)] = mpure (.str (vc (isl bs))) := WP_pure_of fun z => by
  unfold F_island_ways B_island_ways
  rw [run_ev, sRet_ev, show rho0 1 [D.tup (vs bs)] = [some (.val (.tup (vs bs)))] from rfl, island_a h0 h1]
  exact ⟨rfl, rfl⟩
section
variable {bs : List Bool} (h0 : bs ≠ []) (h1 : bs.length ≤ 12)
include h0 h1
theorem p0 : F_allow_over Γ [.tup (vs bs)] = mpure (.str (vc (ans 0 bs))) := WP_pure_of fun z => by
  simp [F_allow_over, B_allow_over, rho0, in_t, ans]
  by_cases h : true ∈ bs <;> simp [h, vc]
theorem p1 : F_always_allow Γ [.tup (vs bs)] = mpure (.str (vc (ans 1 bs))) := WP_pure_of fun z => by
  simp [F_always_allow, B_always_allow, rho0, ans, vc]
theorem p2 : F_always_deny Γ [.tup (vs bs)] = mpure (.str (vc (ans 2 bs))) := WP_pure_of fun z => by
  simp [F_always_deny, B_always_deny, rho0, ans, vc]
theorem p3 : F_both_ends_ways Γ [.tup (vs bs)] = mpure (.str (vc (ans 3 bs))) := WP_pure_of fun z => by
  simp [F_both_ends_ways, B_both_ends_ways, rho0, ans, vs_0 h0, vs_m1 h0, eqD_str, okS_vc]
  cases hd bs <;> cases la bs <;> simp [vc]
theorem p4 : F_deny_over Γ [.tup (vs bs)] = mpure (.str (vc (ans 4 bs))) := WP_pure_of fun z => by
  simp [F_deny_over, B_deny_over, rho0, in_f, ans]
  by_cases h : false ∈ bs <;> simp [h, vc]
theorem p5 : F_first Γ [.tup (vs bs)] = mpure (.str (vc (ans 5 bs))) := WP_pure_of fun z => by
  simp [F_first, B_first, rho0, ans, vs_0 h0]
theorem p6 : F_island_ways Γ [.tup (vs bs)] = mpure (.str (vc (ans 6 bs))) := island_ok h0 h1
theorem p7 : F_last Γ [.tup (vs bs)] = mpure (.str (vc (ans 7 bs))) := WP_pure_of fun z => by
  simp [F_last, B_last, rho0, ans, vs_m1 h0]
end
end C
set_option Elab.async false
set_option linter.all false
set_option maxRecDepth 100000
set_option maxHeartbeats 4000000
namespace C
open PySem PySem.Spec PyProof.Rows L2 DL
variable {Γ : Cfg}
def W : List (List Nat) := [nm 0, nm 1, nm 2, nm 3, nm 4, nm 5, nm 6, nm 7, nm 8, nm 9, nm 10, nm 11, nm 12]
theorem w_ways : w_WAYS = .tup (W.map .str) := rfl
theorem okW : ∀ z ∈ W, okS z = true := by decide
theorem nmW : ∀ i, i < 13 → nm i ∈ W := by
  have h : ∀ i : Fin 13, nm i.val ∈ W := by decide
  exact fun i hi => h ⟨i, hi⟩
theorem inW : ∀ z ∈ W, ∃ i, i < 13 ∧ z = nm i := by
  have h : ∀ z ∈ W, ∃ i : Fin 13, z = nm i.val := by decide
  intro z hz
  obtain ⟨i, e⟩ := h z hz
  exact ⟨i.val, i.isLt, e⟩
theorem check_way_ok {i : Nat} (hi : i < 13) : F_check_way Γ [.str (nm i)] = mpure .non := WP_pure_of fun z => by
  have e : notInD (.str (nm i)) w_WAYS = some (.bl false) := by
    rw [w_ways, notInD_tup (okW _ (nmW i hi)) okW]
    congr 2
    rw [Bool.not_eq_false', List.any_eq_true]
    exact ⟨nm i, nmW i hi, by simp⟩
  simp [F_check_way, B_check_way, rho0, e]
/-- the def that a way's name hands out -/
theorem look : ∀ i, i < 13 → getS (tb_ANSWERS Γ) (nm i) = some (.fn i (Γ.A i))
  | 0, _ => by simp [getS, tb_ANSWERS, nm]
  | 1, _ => by simp [getS, tb_ANSWERS, nm]
  | 2, _ => by simp [getS, tb_ANSWERS, nm]
  | 3, _ => by simp [getS, tb_ANSWERS, nm]
  | 4, _ => by simp [getS, tb_ANSWERS, nm]
  | 5, _ => by simp [getS, tb_ANSWERS, nm]
  | 6, _ => by simp [getS, tb_ANSWERS, nm]
  | 7, _ => by simp [getS, tb_ANSWERS, nm]
  | 8, _ => by simp [getS, tb_ANSWERS, nm]
  | 9, _ => by simp [getS, tb_ANSWERS, nm]
  | 10, _ => by simp [getS, tb_ANSWERS, nm]
  | 11, _ => by simp [getS, tb_ANSWERS, nm]
  | 12, _ => by simp [getS, tb_ANSWERS, nm]
section
variable {bs : List Bool} (h0 : bs ≠ []) (h1 : bs.length ≤ 12)
include h0 h1
end
end C
set_option Elab.async false
set_option linter.all false
set_option maxRecDepth 100000
set_option maxHeartbeats 4000000
namespace C
open PySem PySem.Spec PyProof.Rows L2 DL
variable {Γ : Cfg}
def flp (bs : List Bool) (k : Nat) : List Bool := bs.take k ++ [!(bs[k]?.getD true)] ++ bs.drop (k + 1)
theorem flp_len {bs : List Bool} {k : Nat} (h : k < bs.length) : (flp bs k).length = bs.length := by
  simp [flp]; omega
theorem flp_ne {bs : List Bool} {k : Nat} : flp bs k ≠ [] := by simp [flp]
/-- where a voice matters -/
def mts (i : Nat) (bs : List Bool) : List Nat := (List.range bs.length).filter fun k => (ans i (flp bs k) != ans i bs)
theorem lturned_ok {bs : List Bool} (h1 : bs.length ≤ 12) : F_law_turned Γ [.str (txt bs)] = mpure (.str (txt (bs.map not))) := WP_pure_of fun z => by
  have e : ∀ d, compL 1 tYesD (eIf (tV (e2 (op2 eqD) (eV 1) (eC (.str [43])))) (eC (.str [45])) (eC (.str [43]))) ((txt bs).map fun c => .str [c]) [some (.val d), none] = mpure ((txt (bs.map not)).map fun c => .str [c]) := fun d => by
    clear h1
    induction bs with
    | nil => rfl
    | cons b bs ih =>
      apply WP_pure_of
      intro z
      rw [show (txt (b :: bs)).map (fun c => D.str [c]) = .str [sg b] :: (txt bs).map fun c => .str [c] from rfl, compL_cons]
      cases b
      · simp [eqD_str, sg, ih]
        rfl
      · simp [eqD_str, sg, ih]
        rfl
  simp [F_law_turned, B_law_turned, rho0, txt_len, e]
  refine ⟨by rw [sizeLine_eq]; omega, ?_⟩
  have hj := join_txt (bs := bs.map not) (by rw [List.length_map]; omega)
  rw [hj]
  exact ⟨rfl, rfl⟩
end C
set_option Elab.async false
set_option linter.all false
set_option maxRecDepth 100000
set_option maxHeartbeats 4000000
namespace C
open PySem PySem.Spec PyProof.Rows L2 DL
variable {Γ : Cfg}
def C (a b : Int) : Int := PySem.W.mcComb a b
def rowsW (n l : Int) : Int := ((List.range (n + 1 - l).toNat).map fun (k : Nat) => C n (l + (k : Int))).sum
def cnt : Nat → Int → Int
  | 0, n => 2 ^ n.toNat - 1
  | 1, n => 2 ^ n.toNat
  | 2, _ => 0
  | 3, n => if n = 1 then 1 else 2 ^ (n - 2).toNat
  | 4, _ => 1
  | 6, n => 1 + C (n - 1) 2
  | 8, n => rowsW n ((n + 1) / 2)
  | 9, n => rowsW n (n / 2 + 1)
  | _, n => 2 ^ (n - 1).toNat
def doubt (n l : Int) : Int := 2 * C (n - 1) (l - 1)
def pw : Nat → Int → Int → Int
  | 0, _, _ => 2
  | 1, _, _ => 0
  | 2, _, _ => 0
  | 3, n, k => if k = 0 ∨ k = n - 1 then if n = 1 then 2 else 2 ^ (n - 1).toNat else 0
  | 4, _, _ => 2
  | 5, n, k => if k = 0 then 2 ^ n.toNat else 0
  | 6, n, k => 2 * (1 + C (n - 1) 2 - 2 * if 0 < k ∧ k < n - 1 then n - 3 else 0)
  | 7, n, k => if k = n - 1 then 2 ^ n.toNat else 0
  | 8, n, _ => doubt n ((n + 1) / 2)
  | 9, n, _ => doubt n (n / 2 + 1)
  | 10, n, k => if n % 2 = 1 then doubt n ((n + 1) / 2) else if k = 0 then 2 * C n ((n + 1) / 2) else 4 * C (n - 2) ((n + 1) / 2)
  | 11, n, k => if n % 2 = 1 then doubt n ((n + 1) / 2) else if n - 1 - k = 0 then 2 * C n ((n + 1) / 2) else 4 * C (n - 2) ((n + 1) / 2)
  | _, n, _ => 2 ^ n.toNat
section
variable {n : Int} (h1 : 1 ≤ n) (h2 : n ≤ 60)
include h1 h2
omit h1 h2 in
omit h1 h2 in
omit h1 h2 in
omit h1 h2 in
end
section
variable {n k : Int} (h1 : 1 ≤ n) (h2 : n ≤ 60) (h3 : 0 ≤ k) (h4 : k < n)
include h1 h2
include h3 h4
end
def jc : Nat → Nat
  | 0 => 13 | 1 => 14 | 2 => 15 | 3 => 16 | 4 => 17 | 6 => 19 | 8 => 20 | 9 => 21 | _ => 18
def jm : Nat → Nat
  | 0 => 22 | 1 => 23 | 2 => 23 | 3 => 24 | 4 => 22 | 5 => 25 | 6 => 26 | 7 => 27 | 8 => 28 | 9 => 29 | 10 => 30 | 11 => 31 | _ => 32
section
variable {n : Int} (h1 : 1 ≤ n) (h2 : n ≤ 60)
include h1 h2
end
end C
set_option Elab.async false
set_option linter.all false
set_option maxRecDepth 100000
set_option maxHeartbeats 4000000
namespace C
open PySem PySem.Spec PyProof.Rows L2 DL
variable {Γ : Cfg}
def two (bs : List Bool) : List (List Bool) := [bs ++ [true], bs ++ [false]]
def rws : Nat → List (List Bool)
  | 0 => [[]]
  | n + 1 => (rws n).flatMap two
def strT (bs : List Bool) : D := .str (txt bs)
theorem rws_mem : ∀ {n : Nat} {bs : List Bool}, bs ∈ rws n → bs.length = n
  | 0, bs, h => by simp [rws] at h; subst h; rfl
  | n + 1, bs, h => by
    obtain ⟨cs, hc, h⟩ := List.mem_flatMap.mp h
    have := rws_mem hc
    simp [two] at h
    rcases h with rfl | rfl <;> simp [this]
theorem two_len (l : List (List Bool)) : (l.flatMap two).length = 2 * l.length := by
  induction l with
  | nil => rfl
  | cons a l ih => rw [List.flatMap_cons, List.length_append, ih, List.length_cons]; simp [two]; omega
theorem rws_len : ∀ n, (rws n).length = 2 ^ n
  | 0 => rfl
  | n + 1 => by rw [show rws (n + 1) = (rws n).flatMap two from rfl, two_len, rws_len n, Nat.pow_succ]; omega
theorem all_rws : ∀ bs : List Bool, bs ∈ rws bs.length := by
  have h : ∀ n (bs : List Bool), bs.length = n → bs ∈ rws n := by
    intro n
    induction n with
    | zero => intro bs h; rw [List.length_eq_zero_iff.mp h]; exact List.mem_singleton.mpr rfl
    | succ n ih =>
      intro bs h
      have hne : bs ≠ [] := fun e => by rw [e] at h; cases h
      have e := List.dropLast_concat_getLast hne
      have hl : bs.dropLast.length = n := by rw [List.length_dropLast, h]; rfl
      refine List.mem_flatMap.mpr ⟨bs.dropLast, ih _ hl, ?_⟩
      rw [← e]
      cases bs.getLast hne <;> simp [two]
  exact fun bs => h _ bs rfl
theorem txt_app (bs : List Bool) (b : Bool) : txt (bs ++ [b]) = txt bs ++ [sg b] := by simp [txt, sg]
theorem txt_inj {a b : List Bool} (h : txt a = txt b) : a = b := by
  have : ∀ x y : Bool, (if x then 43 else 45 : Nat) = (if y then 43 else 45) → x = y := by decide
  exact List.map_inj_right (f := fun b : Bool => (if b then 43 else 45 : Nat)) this |>.mp h
theorem addD_lst {a b : List D} (h : a.length + b.length ≤ 16777216) : addD (.lst a) (.lst b) = some (.lst (a ++ b)) := by
  show (if a.length + b.length ≤ sizeLine then _ else _) = _
  rw [if_pos (by rw [sizeLine_eq]; exact h)]
theorem WS_mono {o : Out} {Qn Qn' : EnD → S → Prop} {Qr : D → S → Prop} (h : WS o Qn Qr) (i : ∀ ρ z, Qn ρ z → Qn' ρ z) : WS o Qn' Qr := by
  unfold WS at h ⊢
  cases o <;> first | exact i _ _ h | exact h
theorem rows_in {x0 x1 x2 : Option Sl} {z : S} {Qr : D → S → Prop} (bss : List (List Bool)) : ∀ (acc : List (List Bool)) (y : Option D), acc.length + 2 * bss.length ≤ 100000 → (∀ bs ∈ bss, bs.length ≤ 100) →
    WS (forD 4 (sSet 3 (e2 (op2 addD) (eV 3) (eLst [e2 (op2 addD) (eV 4) (eC (.str [43])), e2 (op2 addD) (eV 4) (eC (.str [45]))]))) (bss.map strT) [x0, x1, x2, some (.val (.lst (acc.map strT))), y.map .val] z)
      (fun ρ z' => z' = z ∧ ∃ o : Option D, ρ = [x0, x1, x2, some (.val (.lst ((acc ++ bss.flatMap two).map strT))), o.map .val]) Qr := by
  induction bss with
  | nil => exact fun acc y _ _ => ⟨rfl, y, by simp⟩
  | cons bs bss ih =>
    intro acc y hl hb
    have hb0 := hb bs (List.mem_cons_self ..)
    rw [List.length_cons] at hl
    refine forD_cons (by cases y <;> rfl) ?_
    have a1 : addD (strT bs) (.str [43]) = some (strT (bs ++ [true])) := by
      unfold strT; rw [addD_str (by rw [txt_len]; show bs.length + 1 ≤ _; omega), txt_app]; rfl
    have a2 : addD (strT bs) (.str [45]) = some (strT (bs ++ [false])) := by
      unfold strT; rw [addD_str (by rw [txt_len]; show bs.length + 1 ≤ _; omega), txt_app]; rfl
    have a3 : addD (.lst (acc.map strT)) (.lst [strT (bs ++ [true]), strT (bs ++ [false])]) = some (.lst ((acc ++ two bs).map strT)) := by
      rw [addD_lst (by rw [List.length_map]; show acc.length + 2 ≤ _; omega), List.map_append]; rfl
    have h := ih (acc ++ two bs) (some (strT bs)) (by rw [List.length_append]; show acc.length + 2 + _ ≤ _; omega) fun b q => hb b (List.mem_cons_of_mem _ q)
    rw [List.append_assoc, ← List.flatMap_cons] at h
    simp only [List.set_cons_succ, List.set_cons_zero, sSet_ev, e2_ev, eV_succ, eV_zero, WP_pure, eC_ev, op2_ev, a1, a2, a3, WP_some, eLst_ev, evs_cons, evs_nil, ownAt_succ, ownAt_zv, Bool.false_eq_true, if_false]
    exact h
theorem rows_out {x0 : Option Sl} {z : S} {Qr : D → S → Prop} (ks : List D) : ∀ (m : Nat) (y2 y3 y4 : Option D), m + ks.length ≤ 12 →
    WS (forD 2 (sSeq (sSet 3 (eLst [])) (sSeq (sFor 4 (iS (eV 1)) (sSet 3 (e2 (op2 addD) (eV 3) (eLst [e2 (op2 addD) (eV 4) (eC (.str [43])), e2 (op2 addD) (eV 4) (eC (.str [45]))])))) (sSet 1 (eV 3)))) ks [x0, some (.val (.lst ((rws m).map strT))), y2.map .val, y3.map .val, y4.map .val] z)
      (fun ρ z' => z' = z ∧ ∃ o2 o3 o4 : Option D, ρ = [x0, some (.val (.lst ((rws (m + ks.length)).map strT))), o2.map .val, o3.map .val, o4.map .val]) Qr := by
  induction ks with
  | nil => exact fun m y2 y3 y4 _ => ⟨rfl, y2, y3, y4, rfl⟩
  | cons k ks ih =>
    intro m y2 y3 y4 hm
    rw [List.length_cons] at hm
    have o3 : ∀ r : EnD, ownAt (y3.map Sl.val :: r) 0 = false := fun r => by cases y3 <;> rfl
    refine forD_cons (by cases y2 <;> rfl) ?_
    simp only [List.set_cons_succ, List.set_cons_zero, sSeq_ev, sSet_ev, eLst_ev, evs_nil, ownAt_succ, o3, Bool.false_eq_true, if_false, sFor_ev, iS_ev, eV_succ, eV_zero, WP_pure, iterD, items_lst, WP_some]
    have hl : (rws m).length ≤ 4096 := by rw [rws_len]; exact Nat.pow_le_pow_right (by decide) (show m ≤ 12 by omega)
    refine WS_mono (rows_in (rws m) [] y4 (by show 0 + 2 * _ ≤ _; omega) fun bs hb => by rw [rws_mem hb]; omega) fun ρ z' ⟨ez, o, e⟩ => ?_
    subst ez e
    simp only [List.nil_append, eV_succ, eV_zero, WP_pure, ownAt_succ, ownAt_zv, Bool.false_eq_true, if_false, List.set_cons_succ, List.set_cons_zero]
    have h := ih (m + 1) (some k) (some (.lst ((rws (m + 1)).map strT))) o (by omega)
    rw [show m + 1 + ks.length = m + (k :: ks).length by rw [List.length_cons]; omega] at h
    exact h
theorem rows_ok {n : Int} (h0 : 0 ≤ n) (hn : n ≤ 12) : F_law_rows Γ [.int n] = mpure (.lst ((rws n.toNat).map strT)) := WP_pure_of fun z => by
  have hl : (rangeD 0 n.toNat).length = n.toNat := by simp [rangeD]
  unfold F_law_rows B_law_rows
  rw [run_ev, show rho0 5 [D.int n] = [some (.val (.int n)), none, none, none, none] from rfl]
  simp only [sSeq_ev, sSet_ev, eLst_ev, evs_cons, evs_nil, eC_ev, WP_pure, List.set_cons_succ, List.set_cons_zero, ownAt_succ, ownAt_zn, Bool.false_eq_true, if_false, sFor_ev, iR1_ev, eV_zero, asI_int, WP_some]
  rw [if_pos (by omega)]
  refine WS_mono (rows_out (x0 := some (.val (.int n))) (rangeD 0 n.toNat) 0 none none none (by rw [hl]; omega)) fun ρ z' ⟨ez, o2, o3, o4, e⟩ => ?_
  subst ez e
  rw [hl, Nat.zero_add]
  simp
/-- a table by rows -/
def tab (f : List Bool → D) (bss : List (List Bool)) : List (List Nat × D) := bss.map fun bs => (txt bs, f bs)
theorem tab_any {f : List Bool → D} {bs : List Bool} : ∀ {bss : List (List Bool)}, ((tab f bss).any fun p => decide (p.1 = txt bs)) = decide (bs ∈ bss)
  | [] => rfl
  | c :: bss => by
    show (decide (txt c = txt bs) || (tab f bss).any _) = _
    rw [tab_any]
    by_cases h : c = bs
    · subst h; simp
    · have h2 : ¬ txt c = txt bs := fun e => h (txt_inj e)
      have h3 : ¬ bs = c := fun e => h e.symm
      simp [h2, h3]
theorem tab_put {f : List Bool → D} {bs : List Bool} {bss : List (List Bool)} (h : bs ∉ bss) : putS (tab f bss) (txt bs) (f bs) = tab f (bss ++ [bs]) := by
  unfold putS
  rw [tab_any, if_neg (by simpa using h)]
  simp [tab]
theorem tab_get {f : List Bool → D} {bs : List Bool} : ∀ {bss : List (List Bool)}, bs ∈ bss → getS (tab f bss) (txt bs) = some (f bs)
  | [], h => by cases h
  | c :: bss, h => by
    unfold getS
    show Option.map _ (List.find? _ ((txt c, f c) :: tab f bss)) = _
    rw [List.find?_cons]
    by_cases e : c = bs
    · subst e; simp
    · have h2 : ¬ txt c = txt bs := fun q => e (txt_inj q)
      simp only [h2, decide_false]
      exact tab_get (by rcases List.mem_cons.mp h with q | q; exact absurd q.symm e; exact q)
theorem tab_none {f : List Bool → D} {bs : List Bool} {bss : List (List Bool)} (h : bs ∉ bss) : getS (tab f bss) (txt bs) = none := by
  unfold getS
  rw [List.find?_eq_none.mpr]
  · rfl
  · intro p hp q
    obtain ⟨c, hc, rfl⟩ := List.mem_map.mp hp
    exact h (by rw [← txt_inj (of_decide_eq_true q)]; exact hc)
theorem tab_len {f : List Bool → D} {bss : List (List Bool)} : (tab f bss).length = bss.length := List.length_map ..
theorem tab_cong {f g : List Bool → D} {bss : List (List Bool)} (h : ∀ bs ∈ bss, f bs = g bs) : tab f bss = tab g bss := List.map_congr_left fun bs hb => by rw [h bs hb]
end C
set_option Elab.async false
set_option linter.all false
set_option maxRecDepth 100000
set_option maxHeartbeats 4000000
namespace C
open PySem PySem.Spec PyProof.Rows L2 DL
variable {Γ : Cfg}
def back : Nat → Nat
  | 5 => 7
  | 7 => 5
  | 10 => 11
  | 11 => 10
  | i => i
/-- the mirror, if there is one -/
def mir : Nat → Option Nat
  | 0 => some 4
  | 4 => some 0
  | 1 => some 2
  | 2 => some 1
  | 8 => some 9
  | 9 => some 8
  | 5 => some 5
  | 7 => some 7
  | 10 => some 10
  | 11 => some 11
  | _ => none
def PW (i : Nat) (n : Int) : List Int := (List.range n.toNat).map fun (k : Nat) => pw i n k
end C
set_option Elab.async false
set_option linter.all false
set_option maxRecDepth 100000
set_option maxHeartbeats 4000000
namespace C
open PySem PySem.Spec PyProof.Rows L2 DL
variable {Γ : Cfg}
theorem compL_map {α : Type} {g : α → D} {i : Nat} {t : EnD → M Bool} {f : EnD → M D} {tb : α → Bool} {fb : α → D} {ρ : EnD} : ∀ {l : List α}, (∀ x ∈ l, t ((ρ.set i none).set i (some (.val (g x)))) = mpure (tb x) ∧ (tb x = true → f ((ρ.set i none).set i (some (.val (g x)))) = mpure (fb x))) → compL i t f (l.map g) ρ = mpure ((l.filter tb).map fb)
  | [], _ => rfl
  | x :: l, h => by
    apply WP_pure_of
    intro z
    rw [List.map_cons, compL_cons, (h x (List.mem_cons_self ..)).1, WP_pure, compL_map fun y hy => h y (List.mem_cons_of_mem _ hy)]
    cases e : tb x with
    | true =>
      rw [if_pos rfl, (h x (List.mem_cons_self ..)).2 e, WP_pure, WP_pure, List.filter_cons_of_pos e]
      exact ⟨rfl, rfl⟩
    | false =>
      rw [if_neg Bool.false_ne_true, WP_pure, List.filter_cons_of_neg (by rw [e]; exact Bool.false_ne_true)]
      exact ⟨rfl, rfl⟩
theorem slD_lst {z : List D} {lo hi : Option Int} : slD (.lst z) lo hi = some (.lst (cutL z lo hi)) := rfl
/-- a way's answer, as a sign -/
def fA (i : Nat) (bs : List Bool) : D := .str [sg (ans i bs)]
def nxt (l : List Int) : List Int := [1] ++ (List.range (l.length - 1)).map (fun k => (l[k]?.getD 0) + (l[k + 1]?.getD 0)) ++ [1]
def psc : Nat → List Int
  | 0 => [1]
  | n + 1 => nxt (psc n)
end C
set_option Elab.async false
set_option linter.all false
set_option maxRecDepth 100000
set_option maxHeartbeats 4000000
namespace C
open PySem PySem.Spec PyProof.Rows L2 DL
variable {Γ : Cfg}
theorem ansL0 {bs : List Bool} (h0 : bs ≠ []) (h1 : bs.length ≤ 12) (z : S) : WP (F_law_answer Γ [.str (nm 0), .str (txt bs)]) z fun d z' => d = .str [sg (ans 0 bs)] ∧ z' = z := by
  have hl : bs.length ≤ 16777216 := by omega
  have hc := (txt_cnt (bs := bs)).1
  have hc2 := (txt_cnt (bs := bs)).2
  simp [F_law_answer, B_law_answer, rho0, nm, ans, slD_str, cutL_hi, cutL_lo, eqD_str, okS_txt, inD_lst2, inD_ints7, hl, hc, hc2, ixA_str, atI_0 h0, atI_m1 h0, atI_l h0, lenD_str, txt_len, cut_1 h0, cut_m1 h0, addD_str, DL.putAll, putS, getS, -List.count_pos_iff]
  simp only [List.count_pos_iff]
  by_cases h : true ∈ bs <;> simp [h, sg]
theorem ansL1 {bs : List Bool} (h0 : bs ≠ []) (h1 : bs.length ≤ 12) (z : S) : WP (F_law_answer Γ [.str (nm 1), .str (txt bs)]) z fun d z' => d = .str [sg (ans 1 bs)] ∧ z' = z := by
  have hl : bs.length ≤ 16777216 := by omega
  have hc := (txt_cnt (bs := bs)).1
  have hc2 := (txt_cnt (bs := bs)).2
  simp [F_law_answer, B_law_answer, rho0, nm, ans, slD_str, cutL_hi, cutL_lo, eqD_str, okS_txt, inD_lst2, inD_ints7, hl, hc, hc2, ixA_str, atI_0 h0, atI_m1 h0, atI_l h0, lenD_str, txt_len, cut_1 h0, cut_m1 h0, addD_str, DL.putAll, putS, getS, -List.count_pos_iff]
  rfl
theorem ansL2 {bs : List Bool} (h0 : bs ≠ []) (h1 : bs.length ≤ 12) (z : S) : WP (F_law_answer Γ [.str (nm 2), .str (txt bs)]) z fun d z' => d = .str [sg (ans 2 bs)] ∧ z' = z := by
  have hl : bs.length ≤ 16777216 := by omega
  have hc := (txt_cnt (bs := bs)).1
  have hc2 := (txt_cnt (bs := bs)).2
  simp [F_law_answer, B_law_answer, rho0, nm, ans, slD_str, cutL_hi, cutL_lo, eqD_str, okS_txt, inD_lst2, inD_ints7, hl, hc, hc2, ixA_str, atI_0 h0, atI_m1 h0, atI_l h0, lenD_str, txt_len, cut_1 h0, cut_m1 h0, addD_str, DL.putAll, putS, getS, -List.count_pos_iff]
  rfl
theorem ansL3 {bs : List Bool} (h0 : bs ≠ []) (h1 : bs.length ≤ 12) (z : S) : WP (F_law_answer Γ [.str (nm 3), .str (txt bs)]) z fun d z' => d = .str [sg (ans 3 bs)] ∧ z' = z := by
  have hl : bs.length ≤ 16777216 := by omega
  have hc := (txt_cnt (bs := bs)).1
  have hc2 := (txt_cnt (bs := bs)).2
  simp [F_law_answer, B_law_answer, rho0, nm, ans, slD_str, cutL_hi, cutL_lo, eqD_str, okS_txt, inD_lst2, inD_ints7, hl, hc, hc2, ixA_str, atI_0 h0, atI_m1 h0, atI_l h0, lenD_str, txt_len, cut_1 h0, cut_m1 h0, addD_str, DL.putAll, putS, getS, -List.count_pos_iff]
  cases hd bs <;> cases la bs <;> simp [sg, eqD_str]
theorem ansL4 {bs : List Bool} (h0 : bs ≠ []) (h1 : bs.length ≤ 12) (z : S) : WP (F_law_answer Γ [.str (nm 4), .str (txt bs)]) z fun d z' => d = .str [sg (ans 4 bs)] ∧ z' = z := by
  have hl : bs.length ≤ 16777216 := by omega
  have hc := (txt_cnt (bs := bs)).1
  have hc2 := (txt_cnt (bs := bs)).2
  simp [F_law_answer, B_law_answer, rho0, nm, ans, slD_str, cutL_hi, cutL_lo, eqD_str, okS_txt, inD_lst2, inD_ints7, hl, hc, hc2, ixA_str, atI_0 h0, atI_m1 h0, atI_l h0, lenD_str, txt_len, cut_1 h0, cut_m1 h0, addD_str, DL.putAll, putS, getS, -List.count_pos_iff]
  simp only [List.count_eq_zero]
  by_cases h : false ∈ bs <;> simp [h, sg]
theorem ansL5 {bs : List Bool} (h0 : bs ≠ []) (h1 : bs.length ≤ 12) (z : S) : WP (F_law_answer Γ [.str (nm 5), .str (txt bs)]) z fun d z' => d = .str [sg (ans 5 bs)] ∧ z' = z := by
  have hl : bs.length ≤ 16777216 := by omega
  have hc := (txt_cnt (bs := bs)).1
  have hc2 := (txt_cnt (bs := bs)).2
  simp [F_law_answer, B_law_answer, rho0, nm, ans, slD_str, cutL_hi, cutL_lo, eqD_str, okS_txt, inD_lst2, inD_ints7, hl, hc, hc2, ixA_str, atI_0 h0, atI_m1 h0, atI_l h0, lenD_str, txt_len, cut_1 h0, cut_m1 h0, addD_str, DL.putAll, putS, getS, -List.count_pos_iff]

theorem ansL7 {bs : List Bool} (h0 : bs ≠ []) (h1 : bs.length ≤ 12) (z : S) : WP (F_law_answer Γ [.str (nm 7), .str (txt bs)]) z fun d z' => d = .str [sg (ans 7 bs)] ∧ z' = z := by
  have hl : bs.length ≤ 16777216 := by omega
  have hc := (txt_cnt (bs := bs)).1
  have hc2 := (txt_cnt (bs := bs)).2
  simp [F_law_answer, B_law_answer, rho0, nm, ans, slD_str, cutL_hi, cutL_lo, eqD_str, okS_txt, inD_lst2, inD_ints7, hl, hc, hc2, ixA_str, atI_0 h0, atI_m1 h0, atI_l h0, lenD_str, txt_len, cut_1 h0, cut_m1 h0, addD_str, DL.putAll, putS, getS, -List.count_pos_iff]

theorem ansL8 {bs : List Bool} (h0 : bs ≠ []) (h1 : bs.length ≤ 12) (z : S) : WP (F_law_answer Γ [.str (nm 8), .str (txt bs)]) z fun d z' => d = .str [sg (ans 8 bs)] ∧ z' = z := by
  have hl : bs.length ≤ 16777216 := by omega
  have hc := (txt_cnt (bs := bs)).1
  have hc2 := (txt_cnt (bs := bs)).2
  simp [F_law_answer, B_law_answer, rho0, nm, ans, slD_str, cutL_hi, cutL_lo, eqD_str, okS_txt, inD_lst2, inD_ints7, hl, hc, hc2, ixA_str, atI_0 h0, atI_m1 h0, atI_l h0, lenD_str, txt_len, cut_1 h0, cut_m1 h0, addD_str, DL.putAll, putS, getS, -List.count_pos_iff]
  split
  · rw [decide_eq_true (by omega)]; rfl
  · split
    · rw [decide_eq_true (by omega)]; rfl
    · rw [decide_eq_false (by omega)]; rfl
theorem ansL9 {bs : List Bool} (h0 : bs ≠ []) (h1 : bs.length ≤ 12) (z : S) : WP (F_law_answer Γ [.str (nm 9), .str (txt bs)]) z fun d z' => d = .str [sg (ans 9 bs)] ∧ z' = z := by
  have hl : bs.length ≤ 16777216 := by omega
  have hc := (txt_cnt (bs := bs)).1
  have hc2 := (txt_cnt (bs := bs)).2
  simp [F_law_answer, B_law_answer, rho0, nm, ans, slD_str, cutL_hi, cutL_lo, eqD_str, okS_txt, inD_lst2, inD_ints7, hl, hc, hc2, ixA_str, atI_0 h0, atI_m1 h0, atI_l h0, lenD_str, txt_len, cut_1 h0, cut_m1 h0, addD_str, DL.putAll, putS, getS, -List.count_pos_iff]
  split
  · rw [decide_eq_false (by omega)]; rfl
  · split
    · rw [decide_eq_true (by omega)]; rfl
    · rw [decide_eq_false (by omega)]; rfl
theorem ansL10 {bs : List Bool} (h0 : bs ≠ []) (h1 : bs.length ≤ 12) (z : S) : WP (F_law_answer Γ [.str (nm 10), .str (txt bs)]) z fun d z' => d = .str [sg (ans 10 bs)] ∧ z' = z := by
  have hl : bs.length ≤ 16777216 := by omega
  have hc := (txt_cnt (bs := bs)).1
  have hc2 := (txt_cnt (bs := bs)).2
  simp [F_law_answer, B_law_answer, rho0, nm, ans, slD_str, cutL_hi, cutL_lo, eqD_str, okS_txt, inD_lst2, inD_ints7, hl, hc, hc2, ixA_str, atI_0 h0, atI_m1 h0, atI_l h0, lenD_str, txt_len, cut_1 h0, cut_m1 h0, addD_str, DL.putAll, putS, getS, -List.count_pos_iff]
  split
  · rw [if_pos (by omega)]
  · split
    · rw [if_neg (by omega), decide_eq_true (by omega)]; rfl
    · rw [if_neg (by omega), decide_eq_false (by omega)]; rfl
theorem ansL11 {bs : List Bool} (h0 : bs ≠ []) (h1 : bs.length ≤ 12) (z : S) : WP (F_law_answer Γ [.str (nm 11), .str (txt bs)]) z fun d z' => d = .str [sg (ans 11 bs)] ∧ z' = z := by
  have hl : bs.length ≤ 16777216 := by omega
  have hc := (txt_cnt (bs := bs)).1
  have hc2 := (txt_cnt (bs := bs)).2
  simp [F_law_answer, B_law_answer, rho0, nm, ans, slD_str, cutL_hi, cutL_lo, eqD_str, okS_txt, inD_lst2, inD_ints7, hl, hc, hc2, ixA_str, atI_0 h0, atI_m1 h0, atI_l h0, lenD_str, txt_len, cut_1 h0, cut_m1 h0, addD_str, DL.putAll, putS, getS, -List.count_pos_iff]
  split
  · rw [if_pos (by omega)]
  · split
    · rw [if_neg (by omega), decide_eq_true (by omega)]; rfl
    · rw [if_neg (by omega), decide_eq_false (by omega)]; rfl
theorem ansL12 {bs : List Bool} (h0 : bs ≠ []) (h1 : bs.length ≤ 12) (z : S) : WP (F_law_answer Γ [.str (nm 12), .str (txt bs)]) z fun d z' => d = .str [sg (ans 12 bs)] ∧ z' = z := by
  have hl : bs.length ≤ 16777216 := by omega
  have hc := (txt_cnt (bs := bs)).1
  have hc2 := (txt_cnt (bs := bs)).2
  simp [F_law_answer, B_law_answer, rho0, nm, ans, slD_str, cutL_hi, cutL_lo, eqD_str, okS_txt, inD_lst2, inD_ints7, hl, hc, hc2, ixA_str, atI_0 h0, atI_m1 h0, atI_l h0, lenD_str, txt_len, cut_1 h0, cut_m1 h0, addD_str, DL.putAll, putS, getS, -List.count_pos_iff]
  have h3 := List.count_le_length (a := false) (l := bs)
  split
  · rw [decide_eq_true (by omega)]; rfl
  · rw [decide_eq_false (by omega)]; rfl
theorem chgs_ok {bs : List Bool} (h0 : bs ≠ []) (h1 : bs.length ≤ 12) {a m t g : D} : compL 6 (tV (e2 (op2 neD) (e2 (op2 ixA) (eV 1) (eV 6)) (e2 (op2 ixA) (eV 1) (e2 (op2 subD) (eV 6) (eC (.int (1))))))) (eV 6) (rangeD 1 (bs.length - 1)) [some (.val a), some (.val (.str (txt bs))), some (.val m), none, some (.val g), none, none] =
    mpure ((cks bs).map fun k => .int (1 + (k : Int))) := by
  unfold cks
  refine compL_range (tb := fun k => (bs[k + 1]? != bs[k]?)) (fb := fun k => .int (1 + (k : Int))) fun k hk => ⟨WP_pure_of fun z => ?_, fun _ => WP_pure_of fun z => ?_⟩
  · have hl : bs.length ≤ 16777216 := by omega
    have e1 : atI (txt bs) (1 + (k : Int)) = some (sg bs[k + 1]) := by
      rw [atI_pos (by omega), show (1 + (k : Int)).toNat = k + 1 by omega, txt_get (by omega)]
    have e2 : atI (txt bs) (1 + (k : Int) - 1) = some (sg bs[k]) := by
      rw [atI_pos (by omega), show (1 + (k : Int) - 1).toNat = k by omega, txt_get (by omega)]
    have ok : ∀ b, sg b < 1114112 := fun b => by cases b <;> decide
    simp [ixA_str, txt_len, hl, e1, e2, neD_str, ok]
    rw [List.getElem?_eq_getElem (by omega), List.getElem?_eq_getElem (by omega)]
    cases bs[k + 1] <;> cases bs[k] <;> rfl
  · simp
theorem ansL6 {bs : List Bool} (h0 : bs ≠ []) (h1 : bs.length ≤ 12) (z : S) : WP (F_law_answer Γ [.str (nm 6), .str (txt bs)]) z fun d z' => d = .str [sg (ans 6 bs)] ∧ z' = z := by
  have hl : bs.length ≤ 16777216 := by omega
  have hc := (txt_cnt (bs := bs)).1
  have hc2 := (txt_cnt (bs := bs)).2
  simp [F_law_answer, B_law_answer, rho0, nm, ans, slD_str, cutL_hi, cutL_lo, eqD_str, okS_txt, inD_lst2, inD_ints7, hl, hc, hc2, ixA_str, atI_0 h0, atI_m1 h0, atI_l h0, lenD_str, txt_len, cut_1 h0, cut_m1 h0, addD_str, DL.putAll, putS, getS, -List.count_pos_iff]
  refine ⟨by omega, by simp [rangeD, sizeLine_eq]; omega, ?_⟩
  have e0 := chgs_ok h0 h1 (a := .str [105, 115, 108, 97, 110, 100]) (m := .int (↑(List.count true bs) - ↑(List.count false bs))) (t := .non) (g := .bl false)
  rw [e0, WP_pure]
  have e1 : eqD (.lst ((cks bs).map fun (k : Nat) => D.int (1 + (k : Int)))) (.lst []) = some (.bl (decide (cks bs = []))) := by
    have h := (eqD_ints (a := (cks bs).map fun (k : Nat) => 1 + (k : Int)) (b := [])).1
    rw [List.map_map] at h
    have e2 : ((cks bs).map fun (k : Nat) => 1 + (k : Int)) = [] ↔ cks bs = [] := by simp
    rw [show decide (((cks bs).map fun (k : Nat) => 1 + (k : Int)) = []) = decide (cks bs = []) from decide_eq_decide.mpr e2] at h
    exact h
  rw [e1]
  cases bs with
  | nil => exact absurd rfl h0
  | cons b r =>
    have hc := cks_len b r
    cases b with
    | true =>
      have h3 : (chg true r = []) ↔ cks (true :: r) = [] := by rw [← List.length_eq_zero_iff, ← List.length_eq_zero_iff, hc]
      by_cases h4 : cks (true :: r) = []
      · simp [hd, sg, eqD_str, isl, h4, h3.mpr h4]
      · simp [hd, sg, eqD_str, isl, h4, mt h3.mp h4]
    | false =>
      by_cases h4 : (chg false r).length = 2
      · simp [hd, sg, eqD_str, isl, h4, hc]
      · simp [hd, sg, eqD_str, isl, h4, hc]
        omega
theorem lans_ok {bs : List Bool} (h0 : bs ≠ []) (h1 : bs.length ≤ 12) : ∀ i, i < 13 → F_law_answer Γ [.str (nm i), .str (txt bs)] = mpure (.str [sg (ans i bs)])
  | 0, _ => WP_pure_of fun z => ansL0 h0 h1 z
  | 1, _ => WP_pure_of fun z => ansL1 h0 h1 z
  | 2, _ => WP_pure_of fun z => ansL2 h0 h1 z
  | 3, _ => WP_pure_of fun z => ansL3 h0 h1 z
  | 4, _ => WP_pure_of fun z => ansL4 h0 h1 z
  | 5, _ => WP_pure_of fun z => ansL5 h0 h1 z
  | 6, _ => WP_pure_of fun z => ansL6 h0 h1 z
  | 7, _ => WP_pure_of fun z => ansL7 h0 h1 z
  | 8, _ => WP_pure_of fun z => ansL8 h0 h1 z
  | 9, _ => WP_pure_of fun z => ansL9 h0 h1 z
  | 10, _ => WP_pure_of fun z => ansL10 h0 h1 z
  | 11, _ => WP_pure_of fun z => ansL11 h0 h1 z
  | 12, _ => WP_pure_of fun z => ansL12 h0 h1 z
theorem lturn1_ok (b : Bool) : F_law_turned Γ [.str [sg b]] = mpure (.str [sg !b]) := WP_pure_of fun z => by
  cases b
  · simp [F_law_turned, B_law_turned, rho0, sg, sizeLine_eq, compL_cons, eqD_str, joinD, strsD, joinL]
  · simp [F_law_turned, B_law_turned, rho0, sg, sizeLine_eq, compL_cons, eqD_str, joinD, strsD, joinL]
theorem flip_ok {bs : List Bool} {k : Nat} (h : k < bs.length) (h1 : bs.length ≤ 12) : F_law_flip Γ [.str (txt bs), .int k] = mpure (.str (txt (flp bs k))) := WP_pure_of fun z => by
  have hl : bs.length ≤ 16777216 := by omega
  have e1 : atI (txt bs) (k : Int) = some (sg bs[k]) := by rw [atI_pos (by omega), Int.toNat_natCast, txt_get h]
  have e2 : cutL (txt bs) none (some (k : Int)) = txt (bs.take k) := by
    rw [cutL_hi (by omega), Int.toNat_natCast]; unfold txt; rw [List.map_take]
  have e3 : cutL (txt bs) (some ((k : Int) + 1)) none = txt (bs.drop (k + 1)) := by
    rw [cutL_lo (by omega), show ((k : Int) + 1).toNat = k + 1 by omega]; unfold txt; rw [List.map_drop]
  have l1 : (bs.take k).length + 1 ≤ 16777216 := by rw [List.length_take]; omega
  have l2 : (bs.take k).length + 1 + (bs.drop (k + 1)).length ≤ 16777216 := by rw [List.length_take, List.length_drop]; omega
  have e4 : addD (.str (txt (bs.take k))) (.str [sg !bs[k]]) = some (.str (txt (bs.take k) ++ [sg !bs[k]])) := addD_str (by rw [txt_len]; exact l1)
  have e5 : addD (.str (txt (bs.take k) ++ [sg !bs[k]])) (.str (txt (bs.drop (k + 1)))) = some (.str (txt (bs.take k) ++ [sg !bs[k]] ++ txt (bs.drop (k + 1)))) := addD_str (by rw [List.length_append, txt_len, txt_len]; exact l2)
  simp [F_law_flip, B_law_flip, rho0, slD_str, txt_len, hl, e1, e2, e3, lturn1_ok, ixA_str, e4]
  rw [e5]
  simp
  unfold flp
  rw [List.getElem?_eq_getElem h]
  simp [txt, sg]
end C
set_option Elab.async false
set_option linter.all false
set_option maxRecDepth 100000
set_option maxHeartbeats 4000000
namespace C
open PySem PySem.Spec PyProof.Rows L2 DL
variable {Γ : Cfg}
section
variable {α : Type} {z z1 : S} {ρ ρ1 : EnD} {i : Nat}
theorem eStopG_ev {b : Bool} {xs : EnD → M (List D)} {t : EnD → M Bool} {f : EnD → M D} {Q : D → S → Prop} : WP (eStopG b i xs t f ρ) z Q = WP (xs ρ) z fun l z' => if ownAt ρ i = false then WP (stopL b i t f l ρ) z' fun c z'' => Q (.bl c) z'' else False := by
  unfold eStopG; rw [WP_bind]; congr; funext x z1; rw [WP_ite, WP_bind]; rfl
theorem all_map {g : α → D} {f : EnD → M D} {fb : α → Bool} : ∀ {l : List α}, (∀ x ∈ l, f ((ρ.set i none).set i (some (.val (g x)))) = mpure (.bl (fb x))) → stopL false i tYesD f (l.map g) ρ = mpure (l.all fb)
  | [], _ => rfl
  | x :: l, h => by
    have ih := all_map (l := l) fun y hy => h y (List.mem_cons_of_mem _ hy)
    have h1 := h x (List.mem_cons_self ..)
    rw [List.map_cons]
    unfold stopL
    rw [h1, ih]
    funext z
    cases hb : fb x <;> simp [mbind, mne, tYesD, mpure, mopt, asB, hb]
end
def sgn (c : Nat) : Bool := decide (43 = c) || decide (45 = c)
end C
set_option Elab.async false
set_option linter.all false
set_option maxRecDepth 100000
set_option maxHeartbeats 1000000
namespace C
open PySem PySem.Spec PyProof.Rows L2 DL
variable {Γ : Cfg}
def T14 : List (List Bool) := rws 1 ++ rws 2 ++ rws 3
theorem T14_len : T14.length = 14 := by decide +kernel
theorem T14_nodup : T14.Nodup := by decide +kernel
theorem T14_in : ∀ bs ∈ T14, bs ≠ [] ∧ bs.length ≤ 12 := by decide +kernel
theorem lways_ok : F_law_ways Γ [] = mpure (.lst (W.map .str)) := rfl
theorem forD_nil' {i : Nat} {b : SM} {ρ : EnD} {z : S} : forD i b [] ρ z = .nx ρ z := by unfold forD; rfl
theorem nx_ev' {ρ : EnD} {z : S} {Qn : EnD → S → Prop} {Qr : D → S → Prop} : WS (.nx ρ z) Qn Qr = Qn ρ z := by unfold WS; rfl
theorem short_step {n : Int} {Ln L' acc xs : List D} {y : Option D} {x0 : Option Sl} {z : S} {Qn : EnD → S → Prop} {Qr : D → S → Prop} (r : F_law_rows Γ [.int n] = mpure (.lst Ln)) (a : addD (.lst acc) (.lst Ln) = some (.lst L'))
    (h : WS (forD 2 (sSet 1 (e2 (op2 addD) (eV 1) (eCall (F_law_rows Γ) [eV 2]))) xs [x0, some (.val (.lst L')), some (.val (.int n))] z) Qn Qr) :
    WS (forD 2 (sSet 1 (e2 (op2 addD) (eV 1) (eCall (F_law_rows Γ) [eV 2]))) (.int n :: xs) [x0, some (.val (.lst acc)), y.map .val] z) Qn Qr := by
  refine forD_cons (by cases y <;> rfl) ?_
  simp only [List.set_cons_succ, List.set_cons_zero, sSet_ev, e2_ev, eV_succ, eV_zero, WP_pure, eCall_ev, evs_cons, evs_nil, r, op2_ev, a, WP_some, ownAt_succ, ownAt_zv, Bool.false_eq_true, if_false]
  exact h
theorem short_aux {L1 L2 L3 L12 L : List D} (r1 : F_law_rows Γ [.int 1] = mpure (.lst L1)) (r2 : F_law_rows Γ [.int 2] = mpure (.lst L2)) (r3 : F_law_rows Γ [.int 3] = mpure (.lst L3))
    (a1 : addD (.lst []) (.lst L1) = some (.lst L1)) (a2 : addD (.lst L1) (.lst L2) = some (.lst L12)) (a3 : addD (.lst L12) (.lst L3) = some (.lst L)) : F_law_short Γ [.int 3] = mpure (.lst L) := WP_pure_of fun z => by
  have e : addD (.int 3) (.int 1) = some (.int 4) := rfl
  unfold F_law_short B_law_short
  rw [run_ev, show rho0 3 [D.int 3] = [some (.val (.int 3)), none, none] from rfl]
  simp only [sSeq_ev, sSet_ev, eLst_ev, evs_nil, WP_pure, List.set_cons_succ, List.set_cons_zero, ownAt_succ, ownAt_zn, Bool.false_eq_true, if_false, sFor_ev, iR2_ev, eC_ev, e2_ev, eV_succ, eV_zero, op2_ev, e, WP_some, asI_int]
  rw [if_pos (by omega), show rangeD 1 ((4 : Int) - 1).toNat = [.int 1, .int 2, .int 3] from rfl]
  refine short_step (y := none) r1 a1 ?_
  refine short_step (y := some (.int 1)) r2 a2 ?_
  have last : ∀ Qn Qr, Qn [some (.val (.int 3)), some (.val (.lst L)), some (.val (.int 3))] z → WS (forD 2 (sSet 1 (e2 (op2 addD) (eV 1) (eCall (F_law_rows Γ) [eV 2]))) [.int 3] [some (.val (.int 3)), some (.val (.lst L12)), (some (D.int 2)).map Sl.val] z) Qn Qr := fun Qn Qr q =>
    short_step (n := 3) (Ln := L3) (L' := L) (acc := L12) (xs := []) (y := some (.int 2)) (x0 := some (.val (.int 3))) r3 a3 (by rw [forD_nil', nx_ev']; exact q)
  refine last _ _ ?_
  simp only [sRet_ev, eV_succ, eV_zero, WP_pure]
  exact ⟨trivial, trivial⟩
theorem short_ok : F_law_short Γ [.int 3] = mpure (.lst (T14.map strT)) := by
  have r1 : F_law_rows Γ [.int 1] = mpure (.lst ((rws 1).map strT)) := rows_ok (by decide) (by decide)
  have r2 : F_law_rows Γ [.int 2] = mpure (.lst ((rws 2).map strT)) := rows_ok (by decide) (by decide)
  have r3 : F_law_rows Γ [.int 3] = mpure (.lst ((rws 3).map strT)) := rows_ok (by decide) (by decide)
  refine short_aux r1 r2 r3 (L12 := (rws 1 ++ rws 2).map strT) ?_ ?_ ?_
  · rw [addD_lst (by rw [List.length_map, rws_len]; decide), List.nil_append]
  · rw [addD_lst (by rw [List.length_map, List.length_map, rws_len, rws_len]; decide), List.map_append]
  · rw [addD_lst (by rw [List.length_map, List.length_map, List.length_append, rws_len, rws_len, rws_len]; decide), ← List.map_append]
    unfold T14
    rfl
end C
set_option Elab.async false
set_option linter.all false
set_option maxRecDepth 100000
set_option maxHeartbeats 1000000
namespace C
open PySem PySem.Spec PyProof.Rows L2 DL
variable {Γ : Cfg}
def fT (F : List Bool → Bool) : List Bool → D := fun bs => .str [sg (F bs)]
theorem tab_upd {f : List Bool → D} {bs : List Bool} {v : D} : ∀ {bss : List (List Bool)}, bs ∈ bss → putS (tab f bss) (txt bs) v = tab (fun b => if b = bs then v else f b) bss := by
  intro bss h
  unfold putS
  rw [tab_any, if_pos (by simpa using h)]
  unfold tab
  rw [List.map_map]
  refine List.map_congr_left fun b _ => ?_
  show (if txt b = txt bs then (txt b, v) else (txt b, f b)) = (txt b, if b = bs then v else f b)
  by_cases c : b = bs
  · rw [if_pos (by rw [c]), if_pos c]
  · rw [if_neg fun q => c (txt_inj q), if_neg c]
theorem sign_of {d : D} (h : d ∈ [D.str [43], D.str [45]]) : ∃ c, d = .str [sg c] := by
  simp at h
  rcases h with rfl | rfl
  · exact ⟨true, rfl⟩
  · exact ⟨false, rfl⟩
theorem table_loop {i : Nat} (hi : i < 13) {k : Int} {x5 : Option Sl} {Qr : D → S → Prop} (bss : List (List Bool)) : ∀ (acc : List (List Bool)) (F : List Bool → Bool) (y : Option D) (z : S), Good z → (acc ++ bss).Nodup → (∀ bs ∈ bss, bs ≠ [] ∧ bs.length ≤ 12) → acc.length + bss.length ≤ 1000 →
    WS (forD 4 (sPutO 1 (eV 4) (eIf (tV (e2 (op2 eqD) (eV 3) (eC (.int (2))))) (eCall (F_law_pick Γ) [eV 0, eLst [eC (.str [43]), eC (.str [45])]]) (eCall (F_law_answer Γ) [eV 2, eV 4]))) (bss.map strT)
      [some (.val .row), some (.own (.dS (tab (fT F) acc))), some (.val (.str (nm i))), some (.val (.int k)), y.map .val, x5] z)
      (fun ρ z' => Good z' ∧ ∃ (F' : List Bool → Bool) (o : Option D), ρ = [some (.val .row), some (.own (.dS (tab (fT F') (acc ++ bss)))), some (.val (.str (nm i))), some (.val (.int k)), o.map .val, x5]) Qr := by
  induction bss with
  | nil => exact fun acc F y z g _ _ _ => ⟨g, F, y, by simp⟩
  | cons bs bss ih =>
    intro acc F y z g hd hb hl
    rw [List.length_cons] at hl
    have hb0 := hb bs (List.mem_cons_self ..)
    refine forD_cons (by cases y <;> rfl) ?_
    have hn : bs ∉ acc := fun q => by
      rw [List.nodup_append] at hd
      exact hd.2.2 bs q bs (List.mem_cons_self ..) rfl
    have e1 := lans_ok (Γ := Γ) hb0.1 hb0.2 i hi
    have hlt : (tab (fT F) acc).length < 100000 := by rw [tab_len]; omega
    have step : ∀ (c : Bool) (z1 : S), Good z1 → WS (forD 4 (sPutO 1 (eV 4) (eIf (tV (e2 (op2 eqD) (eV 3) (eC (.int (2))))) (eCall (F_law_pick Γ) [eV 0, eLst [eC (.str [43]), eC (.str [45])]]) (eCall (F_law_answer Γ) [eV 2, eV 4]))) (bss.map strT)
        [some (.val .row), some (.own (.dS (putS (tab (fT F) acc) (txt bs) (.str [sg c])))), some (.val (.str (nm i))), some (.val (.int k)), some (.val (strT bs)), x5] z1)
        (fun ρ z' => Good z' ∧ ∃ (F' : List Bool → Bool) (o : Option D), ρ = [some (.val .row), some (.own (.dS (tab (fT F') (acc ++ bs :: bss)))), some (.val (.str (nm i))), some (.val (.int k)), o.map .val, x5]) Qr := fun c z1 g1 => by
      have h := ih (acc ++ [bs]) (fun b => if b = bs then c else F b) (some (strT bs)) z1 g1 (by rw [List.append_assoc]; exact hd) (fun b q => hb b (List.mem_cons_of_mem _ q)) (by rw [List.length_append]; show acc.length + 1 + _ ≤ _; omega)
      rw [List.append_assoc] at h
      have ec : tab (fT F) acc = tab (fT fun b => if b = bs then c else F b) acc := tab_cong fun b q => by
        have : b ≠ bs := fun e => hn (by rw [← e]; exact q)
        unfold fT
        simp [this]
      have ev : (D.str [sg c]) = fT (fun b => if b = bs then c else F b) bs := by unfold fT; simp
      rw [ec, ev, tab_put hn]
      exact h
    rw [sPutO_ev (es := tab (fT F) acc) rfl]
    simp only [List.set_cons_succ, List.set_cons_zero, eIf_ev, tV_ev, e2_ev, eV_succ, eV_zero, eC_ev, WP_pure, op2_ev, eqD_int, WP_some, asB_bl]
    by_cases ck : k = 2
    · rw [if_pos (by simpa using ck)]
      simp only [eCall_ev, evs_cons, evs_nil, eV_succ, eV_zero, eLst_ev, eC_ev, WP_pure]
      refine WP_mono (pick_ok g (by simp) (by simp)) fun d z1 ⟨hdd, g1⟩ => ?_
      obtain ⟨c, rfl⟩ := sign_of hdd
      simp only [strT, asS_str, WP_some, if_pos hlt]
      exact step c z1 g1
    · rw [if_neg (by simpa using ck)]
      simp only [eCall_ev, evs_cons, evs_nil, eV_succ, eV_zero, WP_pure, strT, e1, asS_str, WP_some, if_pos hlt]
      exact step _ z g
end C
set_option Elab.async false
set_option linter.all false
set_option maxRecDepth 100000
set_option maxHeartbeats 1000000
namespace C
open PySem PySem.Spec PyProof.Rows L2 DL
variable {Γ : Cfg}
end C
set_option Elab.async false
set_option linter.all false
set_option maxRecDepth 100000
set_option maxHeartbeats 1000000
namespace C
open PySem PySem.Spec PyProof.Rows L2 DL
variable {Γ : Cfg}
end C
set_option Elab.async false
set_option linter.all false
set_option maxRecDepth 100000
set_option maxHeartbeats 1000000
namespace C
open PySem PySem.Spec PyProof.Rows L2 DL
variable {Γ : Cfg}
def tdR (Γ : Cfg) (R : List (List Bool)) (F : List Bool → Bool) : D := .dT Γ.hs (R.map fun bs => (bs.map vc, .str (vc (F bs))))
section
variable {R : List (List Bool)} {F : List Bool → Bool} {m : Nat}
def rowT (bs : List Bool) : D := .tup (vs bs)
end
/-- all(.. for .. if ..) -/
theorem all_mapT {α : Type} {i : Nat} {ρ : EnD} {g : α → D} {t : EnD → M Bool} {f : EnD → M D} {tb fb : α → Bool} : ∀ {l : List α}, (∀ x ∈ l, t ((ρ.set i none).set i (some (.val (g x)))) = mpure (tb x) ∧ (tb x = true → f ((ρ.set i none).set i (some (.val (g x)))) = mpure (.bl (fb x)))) → stopL false i t f (l.map g) ρ = mpure (l.all fun x => !tb x || fb x)
  | [], _ => rfl
  | x :: l, h => by
    have ih := all_mapT (l := l) fun y hy => h y (List.mem_cons_of_mem _ hy)
    obtain ⟨h1, h2⟩ := h x (List.mem_cons_self ..)
    rw [List.map_cons]
    unfold stopL
    rw [h1, ih]
    funext z
    cases ht : tb x with
    | false => simp [mbind, mne, mpure, ht]
    | true =>
      rw [h2 ht]
      cases hb : fb x <;> simp [mbind, mne, mpure, mopt, asB, hb, ht]
theorem asP {n : Nat} {b : SM} {ds : List D} {v : Bool} (h : ∀ z, WS (b (rho0 n ds) z) (fun _ _ => False) (fun d z' => d = .bl v ∧ z' = z)) : runD n b ds = mpure (.bl v) := WP_pure_of fun z => by
  rw [run_ev]
  have := h z
  unfold WS at this ⊢
  cases e : b (rho0 n ds) z <;> rw [e] at this <;> first | exact this | exact this.elim
end C
set_option Elab.async false
set_option linter.all false
set_option maxRecDepth 100000
set_option maxHeartbeats 1000000
namespace C
open PySem PySem.Spec PyProof.Rows L2 DL
variable {Γ : Cfg}
def swp (bs : List Bool) (k : Nat) : List Bool := bs.take k ++ [bs[k + 1]?.getD true, bs[k]?.getD true] ++ bs.drop (k + 2)
def ins (bs : List Bool) (b : Bool) (k : Nat) : List Bool := bs.take k ++ [b] ++ bs.drop k
def rem (bs : List Bool) (k : Nat) : List Bool := bs.take k ++ bs.drop (k + 1)
def agB (F : List Bool → Bool) (bs : List Bool) : Bool := decide (bs.count (hd bs) = bs.length) && (F bs != hd bs)
def evB (F : List Bool → Bool) (bs : List Bool) : Bool := F (bs.map not) == F bs
def grB (F : List Bool → Bool) (bs : List Bool) : Bool := (List.range bs.length).any fun k => (bs[k]?.getD true == false) && F bs && !F (flp bs k)
def kpB (R : List (List Bool)) (F : List Bool → Bool) (bs : List Bool) : Bool := (List.range (bs.length + 1)).any fun k => decide (ins bs (F bs) k ∈ R) && (F (ins bs (F bs) k) != F bs)
def moB (F : List Bool → Bool) (bs : List Bool) : Bool := decide (bs.count true ≠ bs.count false) && (F bs != decide (bs.count false < bs.count true))
def orB (F : List Bool → Bool) (bs : List Bool) : Bool := (List.range (bs.length - 1)).any fun k => F (swp bs k) != F bs
def paB (F : List Bool → Bool) (bs : List Bool) : Bool := (List.range (bs.length - 1)).any fun k => F [F (bs.take (k + 1)), F (bs.drop (k + 1))] != F bs
def rpB (F : List Bool → Bool) (bs : List Bool) : Bool := (List.range (bs.length - 1)).any fun k => (bs[k + 1]?.getD true == bs[k]?.getD true) && (F bs != F (rem bs (k + 1)))
/-- what told, what the loops' slots hold -/
def SlT (Γ : Cfg) (R : List (List Bool)) (F : List Bool → Bool) (n : Nat) (ρ : EnD) : Prop := ∃ os : List (Option D), os.length = n ∧ ρ = some (.val (tdR Γ R F)) :: os.map (Option.map .val)
theorem SlT.own {R : List (List Bool)} {F : List Bool → Bool} {n : Nat} {ρ : EnD} (h : SlT Γ R F n ρ) (i : Nat) : ownAt ρ i = false := by
  obtain ⟨os, _, rfl⟩ := h
  cases i with
  | zero => rfl
  | succ i =>
    unfold ownAt
    rw [List.getElem?_cons_succ, List.getElem?_map]
    cases os[i]? with
    | none => rfl
    | some o => cases o <;> rfl
theorem SlT.set {R : List (List Bool)} {F : List Bool → Bool} {n : Nat} {ρ : EnD} (h : SlT Γ R F n ρ) (i : Nat) (d : D) : SlT Γ R F n (ρ.set (i + 1) (some (.val d))) := by
  obtain ⟨os, hl, rfl⟩ := h
  refine ⟨os.set i (some d), by rw [List.length_set]; exact hl, ?_⟩
  rw [List.set_cons_succ, List.map_set]
  rfl
theorem SlT.start {R : List (List Bool)} {F : List Bool → Bool} {n : Nat} : SlT Γ R F n (rho0 (n + 1) [tdR Γ R F]) := by
  refine ⟨List.replicate n none, List.length_replicate, ?_⟩
  unfold rho0
  simp
section
variable {R : List (List Bool)} {F : List Bool → Bool} {m : Nat} (hR : ∀ bs, bs ∈ R ↔ bs ≠ [] ∧ bs.length ≤ m) (hm : m ≤ 3)
include hR hm
end
end C
set_option Elab.async false
set_option linter.all false
set_option maxRecDepth 100000
set_option maxHeartbeats 1000000
namespace C
open PySem PySem.Spec PyProof.Rows L2 DL
variable {Γ : Cfg}
section
variable {R : List (List Bool)} {F : List Bool → Bool} {m : Nat}
theorem SlT.two {ρ : EnD} (h : SlT Γ R F 2 ρ) : ∃ a b : Option D, ρ = [some (.val (tdR Γ R F)), a.map .val, b.map .val] := by
  obtain ⟨os, hl, rfl⟩ := h
  match os, hl with
  | [a, b], _ => exact ⟨a, b, rfl⟩
/-- a row's loop: told, the row, two more slots -/
def Lp (Γ : Cfg) (R : List (List Bool)) (F : List Bool → Bool) (bs : List Bool) (ρ : EnD) : Prop := ∃ a b : Option D, ρ = [some (.val (tdR Γ R F)), some (.val (rowT bs)), a.map .val, b.map .val]
theorem Lp.own {bs : List Bool} {ρ : EnD} (h : Lp Γ R F bs ρ) (i : Nat) : ownAt ρ i = false := by
  obtain ⟨a, b, rfl⟩ := h
  match i with
  | 0 => rfl
  | 1 => rfl
  | 2 => cases a <;> rfl
  | 3 => cases b <;> rfl
  | n + 4 => rfl
theorem Lp.sl {bs : List Bool} {ρ : EnD} (h : Lp Γ R F bs ρ) : SlT Γ R F 3 ρ := by
  obtain ⟨a, b, rfl⟩ := h
  exact ⟨[some (rowT bs), a, b], rfl, rfl⟩
def Lq (Γ : Cfg) (R : List (List Bool)) (F : List Bool → Bool) (bs : List Bool) (ρ : EnD) : Prop := ∃ a : Option D, ρ = [some (.val (tdR Γ R F)), some (.val (rowT bs)), a.map .val]
theorem Lq.own {bs : List Bool} {ρ : EnD} (h : Lq Γ R F bs ρ) (i : Nat) : ownAt ρ i = false := by
  obtain ⟨a, rfl⟩ := h
  match i with
  | 0 => rfl
  | 1 => rfl
  | 2 => cases a <;> rfl
  | n + 3 => rfl
theorem Lq.sl {bs : List Bool} {ρ : EnD} (h : Lq Γ R F bs ρ) : SlT Γ R F 2 ρ := by
  obtain ⟨a, rfl⟩ := h
  exact ⟨[some (rowT bs), a], rfl, rfl⟩
variable (hR : ∀ bs, bs ∈ R ↔ bs ≠ [] ∧ bs.length ≤ m) (hm : m ≤ 3)
include hR hm
end
end C
set_option Elab.async false
set_option linter.all false
set_option maxRecDepth 100000
set_option maxHeartbeats 4000000
namespace C
open PySem PySem.Spec PyProof.Rows L2 DL
variable {Γ : Cfg}
def pmn : Nat → List Nat
  | 0 => [97, 103, 114, 101, 101, 100]
  | 1 => [101, 118, 101, 110]
  | 2 => [103, 114, 111, 119, 105, 110, 103]
  | 3 => [104, 101, 97, 114, 100]
  | 4 => [107, 101, 112, 116]
  | 5 => [109, 105, 120, 101, 100]
  | 6 => [109, 111, 115, 116]
  | 7 => [111, 114, 100, 101, 114]
  | 8 => [112, 97, 114, 116, 115]
  | _ => [114, 101, 112, 101, 97, 116]
def PR : List (List Nat) := [pmn 0, pmn 1, pmn 2, pmn 3, pmn 4, pmn 5, pmn 6, pmn 7, pmn 8, pmn 9]
def kpi : Nat → List Nat
  | 0 => [0, 2, 3, 4, 7, 8, 9]
  | 1 => [2, 4, 7, 8, 9]
  | 2 => [2, 4, 7, 8, 9]
  | 3 => [0, 2, 4, 5, 9]
  | 4 => [0, 2, 3, 4, 7, 8, 9]
  | 5 => [0, 1, 2, 4, 5, 8, 9]
  | 6 => [0, 3, 5, 9]
  | 7 => [0, 1, 2, 4, 5, 8, 9]
  | 8 => [0, 2, 3, 4, 5, 6, 7]
  | 9 => [0, 2, 3, 4, 5, 6, 7]
  | 10 => [0, 1, 2, 4, 5, 6]
  | 11 => [0, 1, 2, 4, 5, 6]
  | _ => [3, 5, 7, 8]
def KP (i : Nat) : List (List Nat) := (kpi i).map pmn
theorem w_promises : w_PROMISES = .tup (PR.map .str) := rfl
theorem lproms_ok : F_law_promises Γ [] = mpure (.lst (PR.map .str)) := rfl
theorem okP : ∀ z ∈ PR, okS z = true := by decide
theorem okKP : ∀ i, i < 13 → ∀ z ∈ KP i, okS z = true := by
  have h : ∀ i : Fin 13, ∀ z ∈ KP i.val, okS z = true := by decide
  exact fun i hi => h ⟨i, hi⟩
theorem lookK : ∀ i, i < 13 → getS tb_KEPT_BY (nm i) = some (.tup ((KP i).map .str))
  | 0, _ => rfl
  | 1, _ => rfl
  | 2, _ => rfl
  | 3, _ => rfl
  | 4, _ => rfl
  | 5, _ => rfl
  | 6, _ => rfl
  | 7, _ => rfl
  | 8, _ => rfl
  | 9, _ => rfl
  | 10, _ => rfl
  | 11, _ => rfl
  | 12, _ => rfl
theorem check_promise_ok {p : List Nat} (hp : p ∈ PR) : F_check_promise Γ [.str p] = mpure .non := WP_pure_of fun z => by
  have e : notInD (.str p) w_PROMISES = some (.bl false) := by
    rw [w_promises, notInD_tup (okP _ hp) okP]
    congr 2
    rw [Bool.not_eq_false', List.any_eq_true]
    exact ⟨p, hp, by simp⟩
  simp [F_check_promise, B_check_promise, rho0, e]
def kpb (i : Nat) (p : List Nat) : Bool := (KP i).any fun z => decide (z = p)
theorem holds_ok {i : Nat} (hi : i < 13) {p : List Nat} (hp : p ∈ PR) : F_holds Γ [.str (nm i), .str p] = mpure (.bl (kpb i p)) := WP_pure_of fun z => by
  have e := inD_tup (w := p) (zs := KP i) (okP _ hp) (okKP i hi)
  simp [F_holds, B_holds, rho0, check_way_ok hi, check_promise_ok hp, lookK i hi, e, kpb]
end C
set_option Elab.async false
set_option linter.all false
set_option maxRecDepth 100000
set_option maxHeartbeats 1000000
namespace C
open PySem PySem.Spec PyProof.Rows L2 DL
variable {Γ : Cfg}
def pairD (n k : Nat) : D := .tup [.int (n : Int), .int (k : Int)]
def plc (R : List (List Bool)) (p : List Bool → Nat → Bool) : List (List Int) := R.flatMap fun bs => ((List.range bs.length).filter (p bs)).map fun (k : Nat) => [(bs.length : Int), (k : Int)]
def hrK (R : List (List Bool)) (F : List Bool → Bool) : Bool := eqMem (plc R fun _ _ => true) (plc R fun bs k => F bs != F (flp bs k))
def mxK (R : List (List Bool)) (F : List Bool → Bool) : Bool := ((R.filter fun bs => decide (true ∈ bs) && decide (false ∈ bs)).any fun bs => F bs) && ((R.filter fun bs => decide (true ∈ bs) && decide (false ∈ bs)).any fun bs => !F bs)
section
variable {R : List (List Bool)} {F : List Bool → Bool} {m : Nat}
variable (hR : ∀ bs, bs ∈ R ↔ bs ≠ [] ∧ bs.length ≤ m) (hm : m ≤ 3) (hl : R.length ≤ 14)
include hR hm hl
end
/-- what the p-th check answers -/
def ckB (R : List (List Bool)) (F : List Bool → Bool) : Nat → Bool
  | 0 => !R.any (agB F)
  | 1 => !R.any (evB F)
  | 2 => !R.any (grB F)
  | 3 => hrK R F
  | 4 => !R.any (kpB R F)
  | 5 => decide (R.length < 14) || mxK R F
  | 6 => !R.any (moB F)
  | 7 => !R.any (orB F)
  | 8 => !R.any (paB F)
  | _ => !R.any (rpB F)
section
variable {R : List (List Bool)} {F : List Bool → Bool} {m : Nat} (hR : ∀ bs, bs ∈ R ↔ bs ≠ [] ∧ bs.length ≤ m) (hm : m ≤ 3) (hl : R.length ≤ 14)
include hR hm hl
end
end C
set_option Elab.async false
set_option linter.all false
set_option maxRecDepth 100000
set_option maxHeartbeats 1000000
namespace C
open PySem PySem.Spec PyProof.Rows L2 DL
variable {Γ : Cfg}
section
variable {R : List (List Bool)} {F : List Bool → Bool} {m : Nat} (hR : ∀ bs, bs ∈ R ↔ bs ≠ [] ∧ bs.length ≤ m) (hm : m ≤ 3) {n : Nat} (hp : R = T14.take n)
include hR hm hp
def Kp (Γ : Cfg) (R : List (List Bool)) (F : List Bool → Bool) (w : D) (ρ : EnD) : Prop := ∃ a b : Option D, ρ = [some (.val (.tup (vs (R.map F)))), some (.val w), some (.val (tdR Γ R F)), a.map .val, b.map .val, none, none]
end
theorem T14_R : ∀ bs, bs ∈ T14 ↔ bs ≠ [] ∧ bs.length ≤ 3 := fun bs => by
  constructor
  · have : ∀ bs ∈ T14, bs ≠ [] ∧ bs.length ≤ 3 := by decide +kernel
    exact this bs
  · rintro ⟨h0, h1⟩
    have := all_rws bs
    have h2 := List.length_pos_iff.mpr h0
    unfold T14
    rw [List.mem_append, List.mem_append]
    have : bs.length = 1 ∨ bs.length = 2 ∨ bs.length = 3 := by omega
    rcases this with e | e | e
    · exact .inl (.inl (by rw [← e]; exact all_rws bs))
    · exact .inl (.inr (by rw [← e]; exact all_rws bs))
    · exact .inr (by rw [← e]; exact all_rws bs)
end C
set_option Elab.async false
set_option linter.all false
set_option maxRecDepth 100000
set_option maxHeartbeats 1000000
namespace C
open PySem PySem.Spec PyProof.Rows L2 DL
variable {Γ : Cfg}
theorem flt_empty {α : Type} {p : α → Bool} : ∀ l : List α, (l.filter p).isEmpty = !l.any p
  | [] => rfl
  | x :: l => by
    have ih := flt_empty (p := p) l
    rw [List.any_cons, List.filter_cons]
    cases p x
    · rw [if_neg (by decide), ih, Bool.false_or]
    · rw [if_pos rfl]; rfl
theorem map_empty {α β : Type} {f : α → β} (l : List α) : decide (l.map f = []) = l.isEmpty := by cases l <;> rfl
theorem found_int {i : Nat} {xs : EnD → M (List D)} {t : EnD → M Bool} {tb : Nat → Bool} {lo : Int} {n : Nat} {ρ : EnD} (hi : i < ρ.length) (ho : ownAt ρ i = false) (hx : xs ρ = mpure (rangeD lo n)) (hn : n ≤ 1000)
    (h : ∀ k, k < n → t (ρ.set i (some (.val (.int (lo + (k : Int)))))) = mpure (tb k)) : (e2 (op2 neD) (eLc i xs t (eV i)) (eLst [])) ρ = mpure (.bl ((List.range n).any tb)) ∧ (e2 (op2 eqD) (eLc i xs t (eV i)) (eLst [])) ρ = mpure (.bl (!(List.range n).any tb)) := by
  have e : compL i t (eV i) (rangeD lo n) ρ = mpure ((((List.range n).filter tb).map fun (k : Nat) => lo + (k : Int)).map .int) := by
    rw [List.map_map]
    refine compL_range (i := i) (t := t) (f := eV i) (tb := tb) (fb := fun k => .int (lo + (k : Int))) (ρ := ρ) fun k hk => ?_
    rw [List.set_set]
    refine ⟨h k hk, fun _ => ?_⟩
    unfold eV
    rw [List.getElem?_set_self hi]
  have hs : (rangeD lo n).length ≤ sizeLine ∧ ownAt ρ i = false := ⟨by rw [sizeLine_eq]; simp [rangeD]; omega, ho⟩
  have e0 : shp (.lst []) = some (.list []) := rfl
  refine ⟨WP_pure_of fun z => ?_, WP_pure_of fun z => ?_⟩
  · rw [e2_ev, eLc_ev, hx, WP_pure, if_pos hs, e, WP_pure, eLst_ev, evs_nil, op2_ev]
    unfold neD
    rw [shp_ints.1, e0, Option.bind_some, Option.bind_some]
    refine ⟨?_, rfl⟩
    have := eqv_ints ((((List.range n).filter tb).map fun (k : Nat) => lo + (k : Int))) []
    rw [List.map_nil] at this
    simp only [PyData.eqv, this, map_empty, flt_empty, Bool.not_not]
  · rw [e2_ev, eLc_ev, hx, WP_pure, if_pos hs, e, WP_pure, eLst_ev, evs_nil, op2_ev]
    unfold eqD
    rw [shp_ints.1, e0, Option.bind_some, Option.bind_some]
    refine ⟨?_, rfl⟩
    have := eqv_ints ((((List.range n).filter tb).map fun (k : Nat) => lo + (k : Int))) []
    rw [List.map_nil] at this
    simp only [PyData.eqv, this, map_empty, flt_empty]
theorem found_txt {i : Nat} {xs : EnD → M (List D)} {t : EnD → M Bool} {tb : List Bool → Bool} {l : List (List Bool)} {ρ : EnD} (hi : i < ρ.length) (ho : ownAt ρ i = false) (hx : xs ρ = mpure (l.map strT)) (hn : l.length ≤ 100000)
    (h : ∀ bs ∈ l, t (ρ.set i (some (.val (strT bs)))) = mpure (tb bs)) : (e2 (op2 eqD) (eLc i xs t (eV i)) (eLst [])) ρ = mpure (.bl (!l.any tb)) := by
  have e : compL i t (eV i) (l.map strT) ρ = mpure (((l.filter tb).map txt).map .str) := by
    rw [List.map_map]
    refine compL_map (g := strT) (i := i) (t := t) (f := eV i) (tb := tb) (fb := strT) (ρ := ρ) fun k hk => ?_
    rw [List.set_set]
    refine ⟨h k hk, fun _ => ?_⟩
    unfold eV
    rw [List.getElem?_set_self hi]
  refine WP_pure_of fun z => ?_
  rw [e2_ev, eLc_ev, hx, WP_pure, if_pos ⟨by rw [sizeLine_eq, List.length_map]; omega, ho⟩, e, WP_pure, eLst_ev, evs_nil, op2_ev]
  have e0 : shp (.lst []) = some (.list []) := rfl
  unfold eqD
  rw [(shp_strs fun z hz => ?_).2, e0, Option.bind_some, Option.bind_some]
  · refine ⟨?_, rfl⟩
    have := eqv_strs ((l.filter tb).map txt) []
    rw [List.map_nil] at this
    simp only [PyData.eqv, this, map_empty, flt_empty]
  · obtain ⟨c, _, rfl⟩ := List.mem_map.mp hz
    exact okS_txt
theorem tcut_hi {bs : List Bool} {k : Nat} : cutL (txt bs) none (some (k : Int)) = txt (bs.take k) := by
  rw [cutL_hi (by omega), Int.toNat_natCast]; unfold txt; rw [List.map_take]
theorem tcut_lo {bs : List Bool} {k : Nat} : cutL (txt bs) (some (k : Int)) none = txt (bs.drop k) := by
  rw [cutL_lo (by omega), Int.toNat_natCast]; unfold txt; rw [List.map_drop]
theorem txt_at {bs : List Bool} {k : Nat} (h : k < bs.length) (hl : bs.length ≤ 1000) : ixA (.str (txt bs)) (.int (k : Int)) = some (.str (txt [bs[k]?.getD true])) := by
  rw [ixA_str (by rw [txt_len]; omega), atI_pos (by omega), Int.toNat_natCast, txt_get h, List.getElem?_eq_getElem h]
  rfl
theorem add_txt {a b : List Bool} (h : a.length + b.length ≤ 1000) : addD (.str (txt a)) (.str (txt b)) = some (.str (txt (a ++ b))) := by
  rw [addD_str (by rw [txt_len, txt_len]; omega)]
  unfold txt
  rw [List.map_append]
theorem sl_txt {bs : List Bool} {lo hi : Option Int} (h : bs.length ≤ 1000) : slD (.str (txt bs)) lo hi = some (.str (cutL (txt bs) lo hi)) := slD_str (by rw [txt_len]; omega)
theorem eq_txt {a b : List Bool} : eqD (.str (txt a)) (.str (txt b)) = some (.bl (decide (a = b))) := by
  rw [eqD_str okS_txt okS_txt]
  congr 2
  rw [decide_eq_decide]
  exact ⟨txt_inj, fun h => by rw [h]⟩
theorem ne_txt {a b : List Bool} : neD (.str (txt a)) (.str (txt b)) = some (.bl (decide (a ≠ b))) := by
  rw [neD_str okS_txt okS_txt]
  congr 2
  by_cases h : a = b
  · subst h; simp
  · have : txt a ≠ txt b := fun q => h (txt_inj q)
    simp [h, this]
theorem eq_sg {a b : Bool} : eqD (.str (txt [a])) (.str (txt [b])) = some (.bl (a == b)) := by rw [eq_txt]; cases a <;> cases b <;> rfl
theorem ne_sg {a b : Bool} : neD (.str (txt [a])) (.str (txt [b])) = some (.bl (a != b)) := by rw [ne_txt]; cases a <;> cases b <;> rfl
theorem eq_plus {a : Bool} : eqD (.str (txt [a])) (.str [43]) = some (.bl (a == true)) := eq_sg (b := true)
theorem eq_minus {a : Bool} : eqD (.str (txt [a])) (.str [45]) = some (.bl (a == false)) := eq_sg (b := false)
def Told (es : List (List Nat × D)) (R : List (List Bool)) (F : List Bool → Bool) : Prop := ∀ bs, getS es (txt bs) = if bs ∈ R then some (.str (txt [F bs])) else none
theorem told_tab {F : List Bool → Bool} {R : List (List Bool)} : Told (tab (fT F) R) R F := fun bs => by
  by_cases h : bs ∈ R
  · rw [if_pos h, tab_get h]; rfl
  · rw [if_neg h, tab_none h]
theorem skipP {a b : List Nat} {f : EnD → M D} {u : SM} {x0 : Option Sl} {ρ : EnD} {z : S} {Qn : EnD → S → Prop} {Qr : D → S → Prop} (ha : okS a = true) (hb : okS b = true) (h : a ≠ b) :
    WS (sSeq (sIf (tV (e2 (op2 eqD) (eV 1) (eC (.str b)))) (sRet f) sNil) u (x0 :: some (.val (.str a)) :: ρ) z) Qn Qr = WS (u (x0 :: some (.val (.str a)) :: ρ) z) Qn Qr := by
  rw [sSeq_ev, sIf_ev, tV_ev, e2_ev, eV_succ, eV_zero, WP_pure, eC_ev, WP_pure, op2_ev, eqD_str ha hb, WP_some, asB_bl, WP_some, decide_eq_false h, if_neg (by decide), sNil_ev]
theorem takeP {a : List Nat} {f : EnD → M D} {u : SM} {x0 : Option Sl} {ρ : EnD} {z : S} {Qn : EnD → S → Prop} {Qr : D → S → Prop} (ha : okS a = true) :
    WS (sSeq (sIf (tV (e2 (op2 eqD) (eV 1) (eC (.str a)))) (sRet f) sNil) u (x0 :: some (.val (.str a)) :: ρ) z) Qn Qr = WP (f (x0 :: some (.val (.str a)) :: ρ)) z Qr := by
  rw [sSeq_ev, sIf_ev, tV_ev, e2_ev, eV_succ, eV_zero, WP_pure, eC_ev, WP_pure, op2_ev, eqD_str ha ha, WP_some, asB_bl, WP_some, decide_eq_true rfl, if_pos rfl, sRet_ev]
end C
set_option Elab.async false
set_option linter.all false
set_option maxRecDepth 100000
set_option maxHeartbeats 1000000
namespace C
open PySem PySem.Spec PyProof.Rows L2 DL
variable {Γ : Cfg}
theorem eLstR_ev {f : EnD → M D} {ρ : EnD} {z : S} {Q : D → S → Prop} : WP (eLstR f ρ) z Q = WP (f ρ) z fun d z1 => WP (mopt (asI d)) z1 fun n z2 => if 0 ≤ n ∧ n ≤ 1000 then Q (.lst (rangeD 0 n.toNat)) z2 else False := by
  unfold eLstR; rw [WP_bind]; congr; funext x z'; rw [WP_bind]; congr; funext y z''; rw [WP_ite]; rfl
theorem rng_tl (n : Nat) : (rangeD 0 n).drop 1 = rangeD 1 (n - 1) := by
  cases n with
  | zero => rfl
  | succ n =>
    unfold rangeD
    rw [List.range_succ_eq_map, List.map_cons, List.drop_one, List.tail_cons, List.map_map]
    show _ = (List.range n).map _
    refine List.map_congr_left fun k _ => ?_
    show D.int (0 + ((k + 1 : Nat) : Int)) = D.int (1 + (k : Int))
    congr 1
    omega
theorem lenD_txt {bs : List Bool} (h : bs.length ≤ 1000) : lenD (.str (txt bs)) = some (.int (bs.length : Int)) := by
  rw [lenD_str (by rw [txt_len]; omega), txt_len]
/-- the slots of torn, once the three are set -/
def Et (es : List (List Nat × D)) (p : List Nat) (bs : List Bool) (b : Bool) (x : Option Sl) : EnD := [some (.val (.dS es)), some (.val (.str p)), some (.val (.str (txt bs))), some (.val (.str (txt [b]))), some (.val (.lst (rangeD 0 bs.length))), some (.val (.int ((bs.count true : Int) - (bs.count false : Int)))), x]
section
variable {es : List (List Nat × D)} {p : List Nat} {bs : List Bool} {x : Option Sl} {R : List (List Bool)} {F : List Bool → Bool} {m : Nat}
theorem spots_tl {b : Bool} : (iS (eSl (eV 4) (pSo (eC (.int 1))) pNo)) (Et es p bs b x) = mpure (rangeD 1 (bs.length - 1)) := WP_pure_of fun z => by
  have it : ∀ l, iterD (.lst l) = some l := fun _ => rfl
  unfold Et
  simp only [iS_ev, eSl_ev, eV_succ, eV_zero, WP_pure, pSo_ev, eC_ev, asI_int, Option.map_some, WP_some, pNo_ev, slD_lst, it, cutL_lo (show (0 : Int) ≤ 1 by decide)]
  exact ⟨rng_tl _, trivial⟩
theorem spots_all {b : Bool} : (iS (eV 4)) (Et es p bs b x) = mpure (rangeD 0 bs.length) := WP_pure_of fun z => by
  have it : ∀ l, iterD (.lst l) = some l := fun _ => rfl
  unfold Et
  simp only [iS_ev, eV_succ, eV_zero, WP_pure, it, WP_some]
  exact ⟨trivial, trivial⟩
theorem spots_one {b : Bool} (h : bs.length ≤ 100) : (iS (e2 (op2 addD) (eV 4) (eLst [e1 (op1 lenD) (eV 2)]))) (Et es p bs b x) = mpure (rangeD 0 (bs.length + 1)) := WP_pure_of fun z => by
  have it : ∀ l, iterD (.lst l) = some l := fun _ => rfl
  have e : addD (.lst (rangeD 0 bs.length)) (.lst [.int (bs.length : Int)]) = some (.lst (rangeD 0 (bs.length + 1))) := by
    rw [addD_lst (by simp [rangeD]; omega)]
    unfold rangeD
    rw [List.range_succ, List.map_append]
    congr 3
    simp
  unfold Et
  simp only [iS_ev, e2_ev, eLst_ev, evs_cons, evs_nil, e1_ev, op1_ev, eV_succ, eV_zero, WP_pure, lenD_txt (show bs.length ≤ 1000 by omega), WP_some, op2_ev, e, it]
  exact ⟨trivial, trivial⟩
theorem dup_ok {w : List Bool} (h : w.length ≤ 100) {q : Nat} {b : Bool} (hb : bs.length ≤ 100) {f : EnD → M D} {ρ : EnD} (ht : ρ[2]? = some (some (.val (.str (txt bs))))) (h6 : ρ[6]? = some (some (.val (.int (q : Int))))) (hf : f ρ = mpure (.str (txt [b]))) :
    (e2 (op2 addD) (e2 (op2 addD) (eSl (eV 2) pNo (pSo (eV 6))) f) (eSl (eV 2) (pSo (eV 6)) pNo)) ρ = mpure (.str (txt (ins bs b q))) := WP_pure_of fun z => by
  have v2 : eV 2 ρ = mpure (.str (txt bs)) := by unfold eV; rw [ht] <;> rfl
  have v6 : eV 6 ρ = mpure (.int (q : Int)) := by unfold eV; rw [h6] <;> rfl
  have e1 : addD (.str (txt (bs.take q))) (.str (txt [b])) = some (.str (txt (bs.take q ++ [b]))) := add_txt (by rw [List.length_take]; simp; omega)
  have e2 : addD (.str (txt (bs.take q ++ [b]))) (.str (txt (bs.drop q))) = some (.str (txt (bs.take q ++ [b] ++ bs.drop q))) := add_txt (by rw [List.length_append, List.length_take, List.length_drop]; simp; omega)
  simp only [e2_ev, eSl_ev, v2, v6, hf, WP_pure, pNo_ev, pSo_ev, asI_int, Option.map_some, WP_some, sl_txt (show bs.length ≤ 1000 by omega), tcut_hi, tcut_lo, op2_ev, e1, e2]
  exact ⟨rfl, trivial⟩
theorem torn_start {b : Bool} {u : SM} {z : S} {Qn : EnD → S → Prop} {Qr : D → S → Prop} (hl : bs.length ≤ 12) (hg : getS es (txt bs) = some (.str (txt [b]))) :
    WS (sSeq (sPar3 3 4 5 (e2 (op2 ixA) (eV 0) (eV 2)) (eLstR (e1 (op1 lenD) (eV 2))) (e2 (op2 subD) (eM1 countS (eV 2) (eC (.str [43]))) (eM1 countS (eV 2) (eC (.str [45]))))) u (rho0 7 [.dS es, .str p, .str (txt bs)]) z) Qn Qr = WS (u (Et es p bs b none) z) Qn Qr := by
  rw [show rho0 7 [D.dS es, .str p, .str (txt bs)] = [some (.val (.dS es)), some (.val (.str p)), some (.val (.str (txt bs))), none, none, none, none] from rfl, sSeq_ev, sPar3_ev]
  simp only [e2_ev, e1_ev, eV_succ, eV_zero, WP_pure, op2_ev, ixA_dS, hg, WP_some, eLstR_ev, op1_ev, lenD_txt (show bs.length ≤ 1000 by omega), asI_int, eM1_ev, asS_str, eC_ev, countS_one, (txt_cnt (bs := bs)).1, (txt_cnt (bs := bs)).2, subD_int]
  rw [if_pos ⟨by omega, by omega⟩]
  rfl
end
end C
set_option Elab.async false
set_option linter.all false
set_option maxRecDepth 100000
set_option maxHeartbeats 1000000
namespace C
open PySem PySem.Spec PyProof.Rows L2 DL
variable {Γ : Cfg}
section
variable {es : List (List Nat × D)} {bs : List Bool} {R : List (List Bool)} {F : List Bool → Bool} {m : Nat}
theorem run_torn {p : List Nat} {v : Bool} (h : ∀ z, WS (B_law_torn Γ (rho0 7 [.dS es, .str p, .str (txt bs)]) z) (fun _ _ => False) (fun d z' => d = .bl v ∧ z' = z)) : F_law_torn Γ [.dS es, .str p, .str (txt bs)] = mpure (.bl v) := asP h
theorem at_hd (h0 : bs ≠ []) (h1 : bs.length ≤ 12) : ixA (.str (txt bs)) (.int 0) = some (.str (txt [hd bs])) := by
  have := txt_at (k := 0) (List.length_pos_iff.mpr h0) (show bs.length ≤ 1000 by omega)
  rw [show ((0 : Nat) : Int) = 0 from rfl] at this
  rw [this]
  unfold hd
  rw [List.head?_eq_getElem?]
theorem mul_hd {c : Bool} {n : Nat} (h : n ≤ 12) : mulT (.str (txt [c])) (.int (n : Int)) = some (.str (txt (List.replicate n c))) := by
  have e : (txt [c]).length = 1 := rfl
  unfold mulT
  dsimp only
  rw [if_pos ⟨by omega, by omega, by rw [e]; omega⟩, Int.toNat_natCast]
  congr 2
  unfold txt
  rw [List.map_replicate, List.map_cons, List.map_nil]
  clear h e
  induction n with
  | zero => rfl
  | succ n ih => rw [List.replicate_succ, List.flatten_cons, ih, List.replicate_succ]; rfl
theorem rep_cnt (bs : List Bool) (c : Bool) : decide (bs = List.replicate bs.length c) = decide (bs.count c = bs.length) := by
  rw [decide_eq_decide, List.count_eq_length]
  constructor
  · intro h b hb
    rw [h] at hb
    exact (List.eq_of_mem_replicate hb).symm
  · intro h
    exact List.eq_replicate_iff.mpr ⟨rfl, fun b hb => (h b hb).symm⟩
/-- what a row's neighbours are told -/
structure Near (R : List (List Bool)) (bs : List Bool) : Prop where
  nt : bs.map not ∈ R
  fl : ∀ k, k < bs.length → flp bs k ∈ R
  sw : ∀ k, k + 1 < bs.length → swp bs k ∈ R
  tk : ∀ k, k + 1 < bs.length → bs.take (k + 1) ∈ R
  dr : ∀ k, k + 1 < bs.length → bs.drop (k + 1) ∈ R
  pr : 1 < bs.length → ∀ a b, [a, b] ∈ R
theorem near_of (hR : ∀ bs, bs ∈ R ↔ bs ≠ [] ∧ bs.length ≤ m) (hb : bs ∈ R) : Near R bs := by
  obtain ⟨h0, h1⟩ := (hR bs).mp hb
  refine ⟨(hR _).mpr ⟨by simpa using h0, by rw [List.length_map]; exact h1⟩, fun k hk => (hR _).mpr ⟨flp_ne, by rw [flp_len hk]; exact h1⟩, fun k hk => ?_, fun k hk => ?_, fun k hk => ?_, fun h a b => (hR _).mpr ⟨by simp, by simp; omega⟩⟩
  · have hl : (swp bs k).length = bs.length := by unfold swp; simp; omega
    exact (hR _).mpr ⟨(fun q => by rw [q, List.length_nil] at hl; exact h0 (List.length_eq_zero_iff.mp hl.symm)), by omega⟩
  · have hl1 : (bs.take (k + 1)).length = k + 1 := by rw [List.length_take]; omega
    exact (hR _).mpr ⟨(fun q => by rw [q, List.length_nil] at hl1; omega), (by omega)⟩
  · have hl2 : (bs.drop (k + 1)).length = bs.length - (k + 1) := by rw [List.length_drop]
    exact (hR _).mpr ⟨(fun q => by rw [q, List.length_nil] at hl2; omega), (by omega)⟩
variable (h0 : bs ≠ []) (h1 : bs.length ≤ 12) (hT : Told es R F) (hb : bs ∈ R) (hN : Near R bs)
include h0 h1 hT hb hN
theorem nA_ok : F_law_torn Γ [.dS es, .str (pmn 0), .str (txt bs)] = mpure (.bl (agB F bs)) := run_torn fun z => by
  unfold B_law_torn
  rw [torn_start (by omega) (by rw [hT bs, if_pos hb])]
  unfold Et
  rw [show pmn 0 = [97, 103, 114, 101, 101, 100] from rfl, takeP (by decide)]
  simp only [eAnd_ev, e2_ev, e1_ev, eV_succ, eV_zero, WP_pure, eC_ev, op2_ev, op1_ev, at_hd h0 (show bs.length ≤ 12 by omega), lenD_txt (show bs.length ≤ 1000 by omega), mul_hd (show bs.length ≤ 12 by omega), WP_some, eq_txt, asB_bl, rep_cnt, ne_sg]
  unfold agB
  cases decide (bs.count (hd bs) = bs.length)
  · first | exact ⟨rfl, rfl⟩ | exact ⟨trivial, trivial⟩ | exact ⟨rfl, trivial⟩ | exact ⟨trivial, rfl⟩
  · first | exact ⟨rfl, rfl⟩ | exact ⟨trivial, trivial⟩ | exact ⟨rfl, trivial⟩ | exact ⟨trivial, rfl⟩
theorem nE_ok : F_law_torn Γ [.dS es, .str (pmn 1), .str (txt bs)] = mpure (.bl (evB F bs)) := run_torn fun z => by
  have hb' : bs.map not ∈ R := hN.nt
  have g := hT (bs.map not)
  rw [if_pos hb'] at g
  unfold B_law_torn
  rw [torn_start (by omega) (by rw [hT bs, if_pos hb])]
  unfold Et
  rw [show pmn 1 = [101, 118, 101, 110] from rfl, skipP (by decide) (by decide) (by decide), takeP (by decide)]
  simp only [e2_ev, eCall_ev, evs_cons, evs_nil, eV_succ, eV_zero, WP_pure, lturned_ok (Γ := Γ) (show bs.length ≤ 12 by omega), op2_ev, ixA_dS, g, WP_some, eq_sg]
  first | exact ⟨rfl, rfl⟩ | exact ⟨trivial, trivial⟩ | exact ⟨rfl, trivial⟩ | exact ⟨trivial, rfl⟩
theorem nM_ok : F_law_torn Γ [.dS es, .str (pmn 6), .str (txt bs)] = mpure (.bl (moB F bs)) := run_torn fun z => by
  unfold B_law_torn
  rw [torn_start (by omega) (by rw [hT bs, if_pos hb])]
  unfold Et
  rw [show pmn 6 = [109, 111, 115, 116] from rfl, skipP (by decide) (by decide) (by decide), skipP (by decide) (by decide) (by decide), skipP (by decide) (by decide) (by decide), takeP (by decide)]
  have n1 : ∀ a : Bool, neD (.str (txt [a])) (.str [43]) = some (.bl (a != true)) := fun a => ne_sg (b := true)
  have n2 : ∀ a : Bool, neD (.str (txt [a])) (.str [45]) = some (.bl (a != false)) := fun a => ne_sg (b := false)
  simp only [eAnd_ev, e2_ev, eV_succ, eV_zero, WP_pure, eC_ev, op2_ev, neD_int, WP_some, asB_bl, eIf_ev, tV_ev, gtD_int]
  unfold moB
  by_cases c : bs.count true = bs.count false
  · simp [c]
  · by_cases c2 : bs.count false < bs.count true
    · have : (0 : Int) < (bs.count true : Int) - bs.count false := by omega
      have c3 : ¬ ((bs.count true : Int) - bs.count false = 0) := by omega
      simp [c, c2, c3, this, n1]
    · have : ¬ (0 : Int) < (bs.count true : Int) - bs.count false := by omega
      have c3 : ¬ ((bs.count true : Int) - bs.count false = 0) := by omega
      simp [c, c2, c3, this, n2]
theorem nG_ok : F_law_torn Γ [.dS es, .str (pmn 2), .str (txt bs)] = mpure (.bl (grB F bs)) := run_torn fun z => by
  unfold B_law_torn
  rw [torn_start (by omega) (by rw [hT bs, if_pos hb])]
  rw [show pmn 2 = [103, 114, 111, 119, 105, 110, 103] from rfl]
  have hf := (found_int (i := 6) (xs := iS (eV 4)) (t := tAnd (tV (e2 (op2 eqD) (e2 (op2 ixA) (eV 2) (eV 6)) (eC (.str [45])))) (tV (e2 (op2 eqD) (e2 (op2 ixA) (eV 0) (eCall (F_law_flip Γ) [eV 2, eV 6])) (eC (.str [45]))))) (tb := fun k => (bs[k]?.getD true == false) && (F (flp bs k) == false)) (ρ := Et es [103, 114, 111, 119, 105, 110, 103] bs (F bs) none) (show 6 < 7 by decide) rfl spots_all (by omega) fun k hk => WP_pure_of fun z => by
    have hf : flp bs k ∈ R := hN.fl k hk
    have g := hT (flp bs k)
    rw [if_pos hf] at g
    unfold Et
    simp only [List.set_cons_succ, List.set_cons_zero, Int.zero_add, tAnd_ev, tV_ev, e2_ev, eV_succ, eV_zero, eC_ev, WP_pure, op2_ev, txt_at hk (show bs.length ≤ 1000 by omega), WP_some, eq_minus, asB_bl, eCall_ev, evs_cons, evs_nil, flip_ok (Γ := Γ) hk (show bs.length ≤ 12 by omega), ixA_dS, g]
    cases (bs[k]?.getD true == false)
    · first | exact ⟨rfl, rfl⟩ | exact ⟨trivial, trivial⟩ | exact ⟨rfl, trivial⟩ | exact ⟨trivial, rfl⟩
    · first | exact ⟨rfl, rfl⟩ | exact ⟨trivial, trivial⟩ | exact ⟨rfl, trivial⟩ | exact ⟨trivial, rfl⟩).1
  unfold Et at hf ⊢
  rw [skipP (by decide) (by decide) (by decide), skipP (by decide) (by decide) (by decide), takeP (by decide)]
  rw [eAnd_ev, e2_ev, eV_succ, eV_succ, eV_succ, eV_zero, WP_pure, eC_ev, WP_pure, op2_ev, eq_plus, WP_some, asB_bl, WP_some, hf, WP_pure]
  unfold grB
  cases F bs
  · simp
  · simp
theorem nO_ok : F_law_torn Γ [.dS es, .str (pmn 7), .str (txt bs)] = mpure (.bl (orB F bs)) := run_torn fun z => by
  unfold B_law_torn
  rw [torn_start (by omega) (by rw [hT bs, if_pos hb])]
  rw [show pmn 7 = [111, 114, 100, 101, 114] from rfl]
  have hf := (found_int (i := 6) (xs := iS (eSl (eV 4) (pSo (eC (.int 1))) pNo)) (t := tV (e2 (op2 neD) (e2 (op2 ixA) (eV 0) (e2 (op2 addD) (e2 (op2 addD) (e2 (op2 addD) (eSl (eV 2) pNo (pSo (e2 (op2 subD) (eV 6) (eC (.int (1)))))) (e2 (op2 ixA) (eV 2) (eV 6))) (e2 (op2 ixA) (eV 2) (e2 (op2 subD) (eV 6) (eC (.int (1)))))) (eSl (eV 2) (pSo (e2 (op2 addD) (eV 6) (eC (.int (1))))) pNo))) (eV 3))) (tb := fun k => F (swp bs k) != F bs) (ρ := Et es [111, 114, 100, 101, 114] bs (F bs) none) (show 6 < 7 by decide) rfl spots_tl (by omega) fun k hk => WP_pure_of fun z => by
    have hf : swp bs k ∈ R := hN.sw k (by omega)
    have g := hT (swp bs k)
    rw [if_pos hf] at g
    have i0 : (1 : Int) + (k : Int) = ((k + 1 : Nat) : Int) := by omega
    have i1 : subD (.int ((k + 1 : Nat) : Int)) (.int 1) = some (.int (k : Int)) := by rw [subD_int]; congr 2; omega
    have i2 : addD (.int ((k + 1 : Nat) : Int)) (.int 1) = some (.int ((k + 2 : Nat) : Int)) := rfl
    have a1 : addD (.str (txt (bs.take k))) (.str (txt [bs[k + 1]?.getD true])) = some (.str (txt (bs.take k ++ [bs[k + 1]?.getD true]))) := add_txt (by rw [List.length_take]; simp; omega)
    have a2 : addD (.str (txt (bs.take k ++ [bs[k + 1]?.getD true]))) (.str (txt [bs[k]?.getD true])) = some (.str (txt (bs.take k ++ [bs[k + 1]?.getD true] ++ [bs[k]?.getD true]))) := add_txt (by rw [List.length_append, List.length_take]; simp; omega)
    have a3 : addD (.str (txt (bs.take k ++ [bs[k + 1]?.getD true] ++ [bs[k]?.getD true]))) (.str (txt (bs.drop (k + 2)))) = some (.str (txt (swp bs k))) := by
      rw [add_txt (by rw [List.length_append, List.length_append, List.length_take, List.length_drop]; simp; omega)]
      unfold swp
      rw [List.append_assoc (bs.take k)]
      rfl
    unfold Et
    simp only [List.set_cons_succ, List.set_cons_zero, i0, tV_ev, e2_ev, eV_succ, eV_zero, eC_ev, WP_pure, op2_ev, eSl_ev, pSo_ev, pNo_ev, i1, i2, asI_int, Option.map_some, WP_some, sl_txt (show bs.length ≤ 1000 by omega), tcut_hi, tcut_lo, txt_at (show k + 1 < bs.length by omega) (show bs.length ≤ 1000 by omega), txt_at (show k < bs.length by omega) (show bs.length ≤ 1000 by omega), a1, a2, a3, ixA_dS, g, ne_sg, asB_bl]
    first | exact ⟨rfl, rfl⟩ | exact ⟨trivial, trivial⟩ | exact ⟨rfl, trivial⟩ | exact ⟨trivial, rfl⟩).1
  unfold Et at hf ⊢
  rw [skipP (by decide) (by decide) (by decide), skipP (by decide) (by decide) (by decide), skipP (by decide) (by decide) (by decide), skipP (by decide) (by decide) (by decide), takeP (by decide), hf, WP_pure]
  first | exact ⟨rfl, rfl⟩ | exact ⟨trivial, trivial⟩ | exact ⟨rfl, trivial⟩ | exact ⟨trivial, rfl⟩
theorem nP_ok : F_law_torn Γ [.dS es, .str (pmn 8), .str (txt bs)] = mpure (.bl (paB F bs)) := run_torn fun z => by
  unfold B_law_torn
  rw [torn_start (by omega) (by rw [hT bs, if_pos hb])]
  rw [show pmn 8 = [112, 97, 114, 116, 115] from rfl]
  have hf := (found_int (i := 6) (xs := iS (eSl (eV 4) (pSo (eC (.int 1))) pNo)) (t := tV (e2 (op2 neD) (e2 (op2 ixA) (eV 0) (e2 (op2 addD) (e2 (op2 ixA) (eV 0) (eSl (eV 2) pNo (pSo (eV 6)))) (e2 (op2 ixA) (eV 0) (eSl (eV 2) (pSo (eV 6)) pNo)))) (eV 3))) (tb := fun k => F [F (bs.take (k + 1)), F (bs.drop (k + 1))] != F bs) (ρ := Et es [112, 97, 114, 116, 115] bs (F bs) none) (show 6 < 7 by decide) rfl spots_tl (by omega) fun k hk => WP_pure_of fun z => by
    have hl1 : (bs.take (k + 1)).length = k + 1 := by rw [List.length_take]; omega
    have hl2 : (bs.drop (k + 1)).length = bs.length - (k + 1) := by rw [List.length_drop]
    have g1 := hT (bs.take (k + 1))
    rw [if_pos (hN.tk k (by omega))] at g1
    have g2 := hT (bs.drop (k + 1))
    rw [if_pos (hN.dr k (by omega))] at g2
    have g3 := hT [F (bs.take (k + 1)), F (bs.drop (k + 1))]
    rw [if_pos (hN.pr (by omega) _ _)] at g3
    have i0 : (1 : Int) + (k : Int) = ((k + 1 : Nat) : Int) := by omega
    have a1 : addD (.str (txt [F (bs.take (k + 1))])) (.str (txt [F (bs.drop (k + 1))])) = some (.str (txt [F (bs.take (k + 1)), F (bs.drop (k + 1))])) := add_txt (by simp)
    unfold Et
    simp only [List.set_cons_succ, List.set_cons_zero, i0, tV_ev, e2_ev, eV_succ, eV_zero, eC_ev, WP_pure, op2_ev, eSl_ev, pSo_ev, pNo_ev, asI_int, Option.map_some, WP_some, sl_txt (show bs.length ≤ 1000 by omega), tcut_hi, tcut_lo, ixA_dS, g1, g2, a1, g3, ne_sg, asB_bl]
    first | exact ⟨rfl, rfl⟩ | exact ⟨trivial, trivial⟩ | exact ⟨rfl, trivial⟩ | exact ⟨trivial, rfl⟩).1
  unfold Et at hf ⊢
  rw [skipP (by decide) (by decide) (by decide), skipP (by decide) (by decide) (by decide), skipP (by decide) (by decide) (by decide), skipP (by decide) (by decide) (by decide), skipP (by decide) (by decide) (by decide), takeP (by decide), hf, WP_pure]
  first | exact ⟨rfl, rfl⟩ | exact ⟨trivial, trivial⟩ | exact ⟨rfl, trivial⟩ | exact ⟨trivial, rfl⟩
/-- a sign doubled -/
def rdB (R : List (List Bool)) (F : List Bool → Bool) (bs : List Bool) : Bool := (List.range bs.length).any fun k => decide (ins bs (bs[k]?.getD true) k ∈ R) && (F (ins bs (bs[k]?.getD true) k) != F bs)
theorem get2_ok {w : List Bool} {fk : EnD → M D} {ρ : EnD} (h0 : eV 0 ρ = mpure (.dS es)) (h3 : eV 3 ρ = mpure (.str (txt [F bs]))) (hk : fk ρ = mpure (.str (txt w))) {z : S} {Q : Bool → S → Prop} (q : Q (decide (w ∈ R) && (F w != F bs)) z) : WP (tV (e2 (op2 neD) (eGet2 0 fk (eV 3)) (eV 3)) ρ) z Q := by
  simp only [tV_ev, e2_ev, eGet2_ev, h0, h3, hk, WP_pure, asDS_dS, WP_some, asS_str, Option.map_some, hT w, op2_ev]
  by_cases c : w ∈ R
  · rw [if_pos c, Option.getD_some, ne_sg, WP_some, asB_bl, WP_some]
    rw [decide_eq_true c, Bool.true_and] at q
    exact q
  · rw [if_neg c, Option.getD_none, ne_sg, WP_some, asB_bl, WP_some]
    rw [decide_eq_false c, Bool.false_and] at q
    rw [show (F bs != F bs) = false by cases F bs <;> rfl]
    exact q
theorem nR_ok : F_law_torn Γ [.dS es, .str (pmn 9), .str (txt bs)] = mpure (.bl (rdB R F bs)) := run_torn fun z => by
  unfold B_law_torn
  rw [torn_start (by omega) (by rw [hT bs, if_pos hb])]
  rw [show pmn 9 = [114, 101, 112, 101, 97, 116] from rfl]
  have hf := (found_int (i := 6) (xs := iS (eV 4)) (t := tV (e2 (op2 neD) (eGet2 0 (e2 (op2 addD) (e2 (op2 addD) (eSl (eV 2) pNo (pSo (eV 6))) (e2 (op2 ixA) (eV 2) (eV 6))) (eSl (eV 2) (pSo (eV 6)) pNo)) (eV 3)) (eV 3))) (tb := fun k => decide (ins bs (bs[k]?.getD true) k ∈ R) && (F (ins bs (bs[k]?.getD true) k) != F bs)) (ρ := Et es [114, 101, 112, 101, 97, 116] bs (F bs) none) (show 6 < 7 by decide) rfl spots_all (by omega) fun k hk => WP_pure_of fun z => by
    rw [Int.zero_add]
    refine get2_ok h0 h1 hT hb hN rfl rfl (dup_ok (w := []) (by simp) (by omega) rfl rfl (WP_pure_of fun z => ?_)) ⟨rfl, rfl⟩
    unfold Et
    simp only [List.set_cons_succ, List.set_cons_zero, e2_ev, eV_succ, eV_zero, WP_pure, op2_ev, txt_at hk (show bs.length ≤ 1000 by omega), WP_some]
    first | exact ⟨rfl, rfl⟩ | exact ⟨trivial, trivial⟩ | exact ⟨rfl, trivial⟩ | exact ⟨trivial, rfl⟩).1
  unfold Et at hf ⊢
  rw [skipP (by decide) (by decide) (by decide), skipP (by decide) (by decide) (by decide), skipP (by decide) (by decide) (by decide), skipP (by decide) (by decide) (by decide), skipP (by decide) (by decide) (by decide), skipP (by decide) (by decide) (by decide), takeP (by decide), hf, WP_pure]
  first | exact ⟨rfl, rfl⟩ | exact ⟨trivial, trivial⟩ | exact ⟨rfl, trivial⟩ | exact ⟨trivial, rfl⟩
theorem nK_ok : F_law_torn Γ [.dS es, .str (pmn 4), .str (txt bs)] = mpure (.bl (kpB R F bs)) := run_torn fun z => by
  unfold B_law_torn
  rw [torn_start (by omega) (by rw [hT bs, if_pos hb])]
  rw [show pmn 4 = [107, 101, 112, 116] from rfl]
  have hf := (found_int (i := 6) (xs := iS (e2 (op2 addD) (eV 4) (eLst [e1 (op1 lenD) (eV 2)]))) (t := tV (e2 (op2 neD) (eGet2 0 (e2 (op2 addD) (e2 (op2 addD) (eSl (eV 2) pNo (pSo (eV 6))) (eV 3)) (eSl (eV 2) (pSo (eV 6)) pNo)) (eV 3)) (eV 3))) (tb := fun k => decide (ins bs (F bs) k ∈ R) && (F (ins bs (F bs) k) != F bs)) (ρ := Et es [107, 101, 112, 116] bs (F bs) none) (show 6 < 7 by decide) rfl (spots_one (by omega)) (by omega) fun k hk => WP_pure_of fun z => by
    rw [Int.zero_add]
    exact get2_ok h0 h1 hT hb hN rfl rfl (dup_ok (w := []) (by simp) (by omega) rfl rfl rfl) ⟨rfl, rfl⟩).1
  unfold Et at hf ⊢
  rw [skipP (by decide) (by decide) (by decide), skipP (by decide) (by decide) (by decide), skipP (by decide) (by decide) (by decide), skipP (by decide) (by decide) (by decide), skipP (by decide) (by decide) (by decide), skipP (by decide) (by decide) (by decide), skipP (by decide) (by decide) (by decide), sRet_ev, hf, WP_pure]
  first | exact ⟨rfl, rfl⟩ | exact ⟨trivial, trivial⟩ | exact ⟨rfl, trivial⟩ | exact ⟨trivial, rfl⟩
end
section
variable {es : List (List Nat × D)} {bs : List Bool} {R : List (List Bool)} {F : List Bool → Bool} {m : Nat}
variable (hR : ∀ bs, bs ∈ R ↔ bs ≠ [] ∧ bs.length ≤ m) (hm : m ≤ 12) (hT : Told es R F) (hb : bs ∈ R)
include hR hm hT hb
theorem tornA : F_law_torn Γ [.dS es, .str (pmn 0), .str (txt bs)] = mpure (.bl (agB F bs)) := nA_ok ((hR bs).mp hb).1 (Nat.le_trans ((hR bs).mp hb).2 hm) hT hb (near_of hR hb)
theorem tornE : F_law_torn Γ [.dS es, .str (pmn 1), .str (txt bs)] = mpure (.bl (evB F bs)) := nE_ok ((hR bs).mp hb).1 (Nat.le_trans ((hR bs).mp hb).2 hm) hT hb (near_of hR hb)
theorem tornM : F_law_torn Γ [.dS es, .str (pmn 6), .str (txt bs)] = mpure (.bl (moB F bs)) := nM_ok ((hR bs).mp hb).1 (Nat.le_trans ((hR bs).mp hb).2 hm) hT hb (near_of hR hb)
theorem tornG : F_law_torn Γ [.dS es, .str (pmn 2), .str (txt bs)] = mpure (.bl (grB F bs)) := nG_ok ((hR bs).mp hb).1 (Nat.le_trans ((hR bs).mp hb).2 hm) hT hb (near_of hR hb)
theorem tornO : F_law_torn Γ [.dS es, .str (pmn 7), .str (txt bs)] = mpure (.bl (orB F bs)) := nO_ok ((hR bs).mp hb).1 (Nat.le_trans ((hR bs).mp hb).2 hm) hT hb (near_of hR hb)
theorem tornP : F_law_torn Γ [.dS es, .str (pmn 8), .str (txt bs)] = mpure (.bl (paB F bs)) := nP_ok ((hR bs).mp hb).1 (Nat.le_trans ((hR bs).mp hb).2 hm) hT hb (near_of hR hb)
theorem tornR : F_law_torn Γ [.dS es, .str (pmn 9), .str (txt bs)] = mpure (.bl (rdB R F bs)) := nR_ok ((hR bs).mp hb).1 (Nat.le_trans ((hR bs).mp hb).2 hm) hT hb (near_of hR hb)
theorem tornK : F_law_torn Γ [.dS es, .str (pmn 4), .str (txt bs)] = mpure (.bl (kpB R F bs)) := nK_ok ((hR bs).mp hb).1 (Nat.le_trans ((hR bs).mp hb).2 hm) hT hb (near_of hR hb)
end
end C
set_option Elab.async false
set_option linter.all false
set_option maxRecDepth 100000
set_option maxHeartbeats 1000000
namespace C
open PySem PySem.Spec PyProof.Rows L2 DL
variable {Γ : Cfg}
def dfB (F : List Bool → Bool) (n : Nat) : Bool := (List.range n).any fun k => !((rws n).any fun bs => F bs != F (flp bs k))
/-- a list of signs: how many kinds -/
theorem cnt_signs : ∀ (l : List Bool) (σ : List (List Nat)) , σ.length = (if [sg true] ∈ σ then 1 else 0) + (if [sg false] ∈ σ then 1 else 0) →
    ((l.map fun b => [sg b]).foldl ddZ σ).length = (if [sg true] ∈ σ ∨ true ∈ l then 1 else 0) + (if [sg false] ∈ σ ∨ false ∈ l then 1 else 0)
  | [], σ, h => by simpa using h
  | b :: l, σ, h => by
    rw [List.map_cons, List.foldl_cons]
    by_cases c : [sg b] ∈ σ
    · have e : ddZ σ [sg b] = σ := by
        unfold ddZ
        rw [if_pos (List.any_eq_true.mpr ⟨_, c, by simp⟩)]
      rw [e, cnt_signs l σ h]
      cases b <;> simp [c]
    · have e : ddZ σ [sg b] = σ ++ [[sg b]] := by
        unfold ddZ
        rw [if_neg fun q => ?_]
        obtain ⟨y, hy, q⟩ := List.any_eq_true.mp q
        rw [of_decide_eq_true q] at hy
        exact c hy
      have e2 : ∀ b', [sg b'] ∈ σ ++ [[sg b]] ↔ ([sg b'] ∈ σ ∨ b' = b) := fun b' => by
        rw [List.mem_append, List.mem_singleton]
        cases b <;> cases b' <;> simp [sg]
      rw [e, cnt_signs l _ ?_]
      · simp only [e2, List.mem_cons]
        cases b <;> simp
      · rw [List.length_append, h]
        simp only [e2]
        cases b
        · simp only [c, if_false]; simp
        · simp only [c, if_false]; simp; omega
theorem cnt_sg (l : List Bool) : cntZ (l.map fun b => [sg b]) = (if true ∈ l then 1 else 0) + (if false ∈ l then 1 else 0) := by
  have := cnt_signs l [] rfl
  simpa [cntZ] using this
theorem kinds_txt {bs : List Bool} (h : bs.length ≤ 50) : lenSetD (.str (txt bs)) = some (.int (((if true ∈ bs then 1 else 0) + (if false ∈ bs then 1 else 0) : Nat) : Int)) := by
  unfold lenSetD
  dsimp only
  rw [txt_len, if_pos h]
  have e : ((txt bs).map fun c => [c]) = bs.map fun b => [sg b] := by unfold txt; rw [List.map_map]; rfl
  rw [e, cnt_sg]
theorem strs_of (l : List (List Nat)) : strsD (l.map .str) = some l := by
  induction l with
  | nil => rfl
  | cons a l ih => rw [List.map_cons]; unfold strsD; rw [ih] <;> rfl
theorem kinds_lst {l : List Bool} (h : l.length ≤ 50) : lenSetD (.lst (l.map fun b => D.str [sg b])) = some (.int (((if true ∈ l then 1 else 0) + (if false ∈ l then 1 else 0) : Nat) : Int)) := by
  unfold lenSetD
  have e : (l.map fun b => D.str [sg b]) = (l.map fun b => [sg b]).map .str := by rw [List.map_map]; rfl
  dsimp only
  rw [e, strs_of, Option.bind_some, List.length_map, if_pos h, cnt_sg]
section
variable {es : List (List Nat × D)} {R : List (List Bool)} {F : List Bool → Bool} {m : Nat}
variable (hT : Told es R F) {n : Nat} (h0 : 1 ≤ n) (h1 : n ≤ 12) (hA : ∀ bs ∈ rws n, bs ∈ R)
include hT h0 h1 hA
theorem d1 : (iR1 (eV 1)) [some (.val (.dS es)), some (.val (.int (n : Int))), some (.val (.lst ((rws n).map strT))), none, none] = mpure (rangeD 0 n) := WP_pure_of fun z => by
      rw [iR1_ev, eV_succ, eV_zero, WP_pure, asI_int, WP_some, if_pos (by omega), Int.toNat_natCast]
      exact ⟨rfl, rfl⟩
theorem d2 : (rws n).length ≤ 100000 := by rw [rws_len]; exact Nat.le_trans (Nat.pow_le_pow_right (Nat.le_of_ble_eq_true rfl) (show n ≤ 12 by omega)) (Nat.le_of_ble_eq_true rfl)
theorem d3 {k : Nat} (hk : k < n) : ∀ bs ∈ rws n, (tV (e2 (op2 neD) (e2 (op2 ixA) (eV 0) (eV 4)) (e2 (op2 ixA) (eV 0) (eCall (F_law_flip Γ) [eV 4, eV 3])))) ([some (.val (.dS es)), some (.val (.int (n : Int))), some (.val (.lst ((rws n).map strT))), some (.val (.int (k : Int))), none].set 4 (some (.val (strT bs)))) = mpure (F bs != F (flp bs k)) := fun bs hb => WP_pure_of fun z => by
      have hl := rws_mem hb
      have h2 : bs ∈ R := hA bs hb
      have h3 : flp bs k ∈ R := hA _ (by have := all_rws (flp bs k); rw [flp_len (by omega), hl] at this; exact this)
      have g1 := hT bs
      rw [if_pos h2] at g1
      have g2 := hT (flp bs k)
      rw [if_pos h3] at g2
      simp only [List.set_cons_succ, List.set_cons_zero, tV_ev, e2_ev, eV_succ, eV_zero, WP_pure, op2_ev, strT, ixA_dS, g1, eCall_ev, evs_cons, evs_nil, flip_ok (Γ := Γ) (show k < bs.length by omega) (show bs.length ≤ 12 by omega), g2, WP_some, ne_sg, asB_bl]
      exact ⟨trivial, trivial⟩
theorem d4 {k : Nat} (hk : k < n) : (e2 (op2 eqD) (eLc 4 (iS (eV 2)) (tV (e2 (op2 neD) (e2 (op2 ixA) (eV 0) (eV 4)) (e2 (op2 ixA) (eV 0) (eCall (F_law_flip Γ) [eV 4, eV 3])))) (eV 4)) (eLst [])) [some (.val (.dS es)), some (.val (.int (n : Int))), some (.val (.lst ((rws n).map strT))), some (.val (.int (k : Int))), none] = mpure (.bl (!(rws n).any fun bs => F bs != F (flp bs k))) := by
  have it : ∀ l, iterD (.lst l) = some l := fun _ => rfl
  exact found_txt (i := 4) (xs := iS (eV 2)) (t := tV (e2 (op2 neD) (e2 (op2 ixA) (eV 0) (eV 4)) (e2 (op2 ixA) (eV 0) (eCall (F_law_flip Γ) [eV 4, eV 3])))) (tb := fun bs => F bs != F (flp bs k)) (l := rws n) (ρ := [some (.val (.dS es)), some (.val (.int (n : Int))), some (.val (.lst ((rws n).map strT))), some (.val (.int (k : Int))), none]) (show 4 < 5 by decide) rfl (WP_pure_of fun z => by
        simp only [iS_ev, eV_succ, eV_zero, WP_pure, it, WP_some]
        exact ⟨trivial, trivial⟩) (d2 hT h0 h1 hA) (d3 hT h0 h1 hA hk)
theorem d5 : (e2 (op2 neD) (eLc 3 (iR1 (eV 1)) (tV (e2 (op2 eqD) (eLc 4 (iS (eV 2)) (tV (e2 (op2 neD) (e2 (op2 ixA) (eV 0) (eV 4)) (e2 (op2 ixA) (eV 0) (eCall (F_law_flip Γ) [eV 4, eV 3])))) (eV 4)) (eLst []))) (eV 3)) (eLst [])) [some (.val (.dS es)), some (.val (.int (n : Int))), some (.val (.lst ((rws n).map strT))), none, none] = mpure (.bl (dfB F n)) :=
  (found_int (i := 3) (xs := iR1 (eV 1)) (t := tV (e2 (op2 eqD) (eLc 4 (iS (eV 2)) (tV (e2 (op2 neD) (e2 (op2 ixA) (eV 0) (eV 4)) (e2 (op2 ixA) (eV 0) (eCall (F_law_flip Γ) [eV 4, eV 3])))) (eV 4)) (eLst []))) (tb := fun k => !((rws n).any fun bs => F bs != F (flp bs k))) (lo := 0) (n := n) (ρ := [some (.val (.dS es)), some (.val (.int (n : Int))), some (.val (.lst ((rws n).map strT))), none, none]) (show 3 < 5 by decide) rfl (d1 hT h0 h1 hA) (by omega) fun k hk => WP_pure_of fun z => by
    rw [Int.zero_add, tV_ev]
    simp only [List.set_cons_succ, List.set_cons_zero]
    rw [d4 hT h0 h1 hA hk, WP_pure, asB_bl, WP_some]
    exact ⟨rfl, rfl⟩).1
theorem deafA_ok : F_law_deaf Γ [.dS es, .int (n : Int)] = mpure (.bl (dfB F n)) := WP_pure_of fun z => by
  have hr := rows_ok (Γ := Γ) (n := (n : Int)) (by omega) (by omega)
  rw [Int.toNat_natCast] at hr
  have hf := d5 (Γ := Γ) hT h0 h1 hA
  unfold F_law_deaf B_law_deaf
  rw [run_ev, show rho0 5 [D.dS es, .int (n : Int)] = [some (.val (.dS es)), some (.val (.int (n : Int))), none, none, none] from rfl, sSeq_ev, sSet_ev]
  rw [eCall_ev, evs_cons, eV_succ, eV_zero, WP_pure, evs_nil, hr, WP_pure, if_neg (by simp [ownAt_succ]), sRet_ev]
  simp only [List.set_cons_succ, List.set_cons_zero]
  rw [hf, WP_pure]
  exact ⟨rfl, rfl⟩
end
section
variable {es : List (List Nat × D)} {R : List (List Bool)} {F : List Bool → Bool} {m : Nat}
variable (hR : ∀ bs, bs ∈ R ↔ bs ≠ [] ∧ bs.length ≤ m) (hm : m ≤ 12) (hT : Told es R F)
include hR hm hT
theorem deaf_ok {n : Nat} (h0 : 1 ≤ n) (h1 : n ≤ m) : F_law_deaf Γ [.dS es, .int (n : Int)] = mpure (.bl (dfB F n)) := deafA_ok hT h0 (by omega) fun bs hb => (hR _).mpr ⟨fun q => by have := rws_mem hb; rw [q, List.length_nil] at this; omega, by have := rws_mem hb; omega⟩
def hdB (F : List Bool → Bool) (m : Nat) : Bool := !(List.range m).any fun k => dfB F (k + 1)
/-- what the law finds -/
def lwB (R : List (List Bool)) (F : List Bool → Bool) (m : Nat) : Nat → Bool
  | 0 => !R.any (agB F)
  | 1 => !R.any (evB F)
  | 2 => !R.any (grB F)
  | 3 => hdB F m
  | 4 => !R.any (kpB R F)
  | 5 => mxK R F
  | 6 => !R.any (moB F)
  | 7 => !R.any (orB F)
  | 8 => !R.any (paB F)
  | _ => !R.any (rdB R F)
theorem h1 : (e2 (op2 eqD) (eLc 4 (iR2 (eC (.int (1))) (e2 (op2 addD) (eV 2) (eC (.int (1))))) (tV (eCall (F_law_deaf Γ) [eV 0, eV 4])) (eV 4)) (eLst [])) [some (.val (.dS es)), some (.val (.str (pmn 3))), some (.val (.int (m : Int))), none, none, none] = mpure (.bl (hdB F m)) :=
  (found_int (i := 4) (xs := iR2 (eC (.int (1))) (e2 (op2 addD) (eV 2) (eC (.int (1))))) (t := tV (eCall (F_law_deaf Γ) [eV 0, eV 4])) (tb := fun k => dfB F (k + 1)) (lo := 1) (n := m) (ρ := [some (.val (.dS es)), some (.val (.str (pmn 3))), some (.val (.int (m : Int))), none, none, none]) (show 4 < 6 by decide) rfl (WP_pure_of fun z => by
      have e1 : addD (.int (m : Int)) (.int 1) = some (.int ((m : Int) + 1)) := rfl
      rw [iR2_ev, eC_ev, WP_pure, asI_int, WP_some, e2_ev, eV_succ, eV_succ, eV_zero, WP_pure, eC_ev, WP_pure, op2_ev, e1, WP_some, asI_int, WP_some]
      rw [if_pos (by omega), show ((m : Int) + 1 - 1).toNat = m by omega]
      exact ⟨rfl, rfl⟩) (by omega) fun k hk => WP_pure_of fun z => by
    have hd := deaf_ok (Γ := Γ) hR hm hT (n := k + 1) (by omega) (by omega)
    have i0 : (1 : Int) + (k : Int) = ((k + 1 : Nat) : Int) := by omega
    rw [i0, tV_ev]
    simp only [List.set_cons_succ, List.set_cons_zero]
    rw [eCall_ev, evs_cons, eV_zero, WP_pure, evs_cons, eV_succ, eV_succ, eV_succ, eV_succ, eV_zero, WP_pure, evs_nil, hd, WP_pure, asB_bl, WP_some]
    exact ⟨rfl, rfl⟩).2
theorem fine_heard : F_law_fine Γ [.dS es, .str (pmn 3), .int (m : Int)] = mpure (.bl (hdB F m)) := WP_pure_of fun z => by
  have hf := h1 (Γ := Γ) hR hm hT
  unfold F_law_fine B_law_fine
  rw [run_ev, show rho0 6 [D.dS es, .str (pmn 3), .int (m : Int)] = [some (.val (.dS es)), some (.val (.str (pmn 3))), some (.val (.int (m : Int))), none, none, none] from rfl]
  rw [show pmn 3 = [104, 101, 97, 114, 100] from rfl] at hf ⊢
  rw [takeP (by decide), hf, WP_pure]
  exact ⟨rfl, rfl⟩
variable (hS : F_law_short Γ [.int (m : Int)] = mpure (.lst (R.map strT))) (hl : R.length ≤ 50)
include hS hl
theorem m1 : compL 5 (tV (e2 (op2 eqD) (e1 (op1 lenSetD) (eV 5)) (eC (.int (2))))) (e2 (op2 ixA) (eV 0) (eV 5)) (R.map strT) [some (.val (.dS es)), some (.val (.str (pmn 5))), some (.val (.int (m : Int))), some (.val (.lst (R.map strT))), none, none] = mpure ((R.filter fun bs => decide (true ∈ bs) && decide (false ∈ bs)).map fun bs => D.str [sg (F bs)]) := by
  refine compL_map (g := strT) (tb := fun bs => decide (true ∈ bs) && decide (false ∈ bs)) (fb := fun bs => D.str [sg (F bs)]) fun bs hb => ⟨WP_pure_of fun z => ?_, fun _ => WP_pure_of fun z => ?_⟩
  · obtain ⟨h0, h1⟩ := (hR bs).mp hb
    simp only [List.set_cons_succ, List.set_cons_zero, tV_ev, e2_ev, e1_ev, eV_succ, eV_zero, eC_ev, WP_pure, op1_ev, op2_ev, strT, kinds_txt (show bs.length ≤ 50 by omega), WP_some, eqD_int, asB_bl]
    by_cases c1 : true ∈ bs <;> by_cases c2 : false ∈ bs <;> simp [c1, c2]
  · have g1 := hT bs
    rw [if_pos hb] at g1
    simp only [List.set_cons_succ, List.set_cons_zero, e2_ev, eV_succ, eV_zero, WP_pure, op2_ev, strT, ixA_dS, g1, WP_some]
    first | exact ⟨rfl, rfl⟩ | exact ⟨trivial, trivial⟩ | exact ⟨rfl, trivial⟩ | exact ⟨trivial, rfl⟩
theorem m2 : eqD (.int (((if true ∈ (R.filter fun bs => decide (true ∈ bs) && decide (false ∈ bs)).map F then 1 else 0) + (if false ∈ (R.filter fun bs => decide (true ∈ bs) && decide (false ∈ bs)).map F then 1 else 0) : Nat) : Int)) (.int 2) = some (.bl (mxK R F)) := by
  rw [eqD_int]
  unfold mxK
  have e1 : ∀ l : List (List Bool), (true ∈ l.map F) ↔ (l.any fun bs => F bs) = true := fun l => by simp
  have e2 : ∀ l : List (List Bool), (false ∈ l.map F) ↔ (l.any fun bs => !F bs) = true := fun l => by simp
  simp only [e1, e2]
  cases ((R.filter fun bs => decide (true ∈ bs) && decide (false ∈ bs)).any fun bs => F bs) <;> cases ((R.filter fun bs => decide (true ∈ bs) && decide (false ∈ bs)).any fun bs => !F bs) <;> rfl
theorem m3 : lenSetD (.lst ((R.filter fun bs => decide (true ∈ bs) && decide (false ∈ bs)).map fun bs => D.str [sg (F bs)])) = some (.int (((if true ∈ (R.filter fun bs => decide (true ∈ bs) && decide (false ∈ bs)).map F then 1 else 0) + (if false ∈ (R.filter fun bs => decide (true ∈ bs) && decide (false ∈ bs)).map F then 1 else 0) : Nat) : Int)) := by
  have hk := kinds_lst (l := (R.filter fun bs => decide (true ∈ bs) && decide (false ∈ bs)).map F) (by rw [List.length_map]; exact Nat.le_trans (List.length_filter_le ..) hl)
  rw [List.map_map] at hk
  exact hk
theorem fine_mixed : F_law_fine Γ [.dS es, .str (pmn 5), .int (m : Int)] = mpure (.bl (mxK R F)) := WP_pure_of fun z => by
  have it : ∀ l, iterD (.lst l) = some l := fun _ => rfl
  have hc := m1 hR hm hT hS hl
  unfold F_law_fine B_law_fine
  rw [run_ev, show rho0 6 [D.dS es, .str (pmn 5), .int (m : Int)] = [some (.val (.dS es)), some (.val (.str (pmn 5))), some (.val (.int (m : Int))), none, none, none] from rfl]
  rw [show pmn 5 = [109, 105, 120, 101, 100] from rfl] at hc ⊢
  rw [skipP (by decide) (by decide) (by decide), sSeq_ev, sSet_ev, eCall_ev, evs_cons, eV_succ, eV_succ, eV_zero, WP_pure, evs_nil, hS, WP_pure, if_neg (by simp [ownAt_succ])]
  simp only [List.set_cons_succ, List.set_cons_zero]
  rw [takeP (by decide), e2_ev, e1_ev, eLc_ev, iS_ev, eV_succ, eV_succ, eV_succ, eV_zero, WP_pure, it, WP_some, if_pos ⟨by rw [List.length_map, sizeLine_eq]; omega, rfl⟩, hc, WP_pure, op1_ev]
  rw [m3 hR hm hT hS hl, WP_some, eC_ev, WP_pure, op2_ev, m2 hR hm hT hS hl, WP_some]
  exact ⟨rfl, rfl⟩
theorem t1 {p : Nat} {tb : List Bool → Bool} (ht : ∀ bs ∈ R, F_law_torn Γ [.dS es, .str (pmn p), .str (txt bs)] = mpure (.bl (tb bs))) : (e2 (op2 eqD) (eLc 5 (iS (eV 3)) (tV (eCall (F_law_torn Γ) [eV 0, eV 1, eV 5])) (eV 5)) (eLst [])) [some (.val (.dS es)), some (.val (.str (pmn p))), some (.val (.int (m : Int))), some (.val (.lst (R.map strT))), none, none] = mpure (.bl (!R.any tb)) := by
  have it : ∀ l, iterD (.lst l) = some l := fun _ => rfl
  exact found_txt (i := 5) (xs := iS (eV 3)) (t := tV (eCall (F_law_torn Γ) [eV 0, eV 1, eV 5])) (tb := tb) (l := R) (ρ := [some (.val (.dS es)), some (.val (.str (pmn p))), some (.val (.int (m : Int))), some (.val (.lst (R.map strT))), none, none]) (show 5 < 6 by decide) rfl (WP_pure_of fun z => by
      simp only [iS_ev, eV_succ, eV_zero, WP_pure, it, WP_some]
      exact ⟨trivial, trivial⟩) (by omega) fun bs hb => WP_pure_of fun z => by
    simp only [List.set_cons_succ, List.set_cons_zero, tV_ev, eCall_ev, evs_cons, evs_nil, eV_succ, eV_zero, WP_pure, strT, ht bs hb, asB_bl, WP_some]
    exact ⟨trivial, trivial⟩
theorem fine_torn {p : Nat} {tb : List Bool → Bool} (n1 : pmn p ≠ [104, 101, 97, 114, 100]) (n2 : pmn p ≠ [109, 105, 120, 101, 100]) (ok : okS (pmn p) = true) (ht : ∀ bs ∈ R, F_law_torn Γ [.dS es, .str (pmn p), .str (txt bs)] = mpure (.bl (tb bs))) : F_law_fine Γ [.dS es, .str (pmn p), .int (m : Int)] = mpure (.bl (!R.any tb)) := WP_pure_of fun z => by
  have hf := t1 hR hm hT hS hl ht
  unfold F_law_fine B_law_fine
  rw [run_ev, show rho0 6 [D.dS es, .str (pmn p), .int (m : Int)] = [some (.val (.dS es)), some (.val (.str (pmn p))), some (.val (.int (m : Int))), none, none, none] from rfl]
  rw [skipP ok (by decide) n1, sSeq_ev, sSet_ev, eCall_ev, evs_cons, eV_succ, eV_succ, eV_zero, WP_pure, evs_nil, hS, WP_pure, if_neg (by simp [ownAt_succ])]
  simp only [List.set_cons_succ, List.set_cons_zero]
  rw [skipP ok (by decide) n2, sRet_ev, hf, WP_pure]
  exact ⟨rfl, rfl⟩
theorem fine_ok : ∀ p, p < 10 → F_law_fine Γ [.dS es, .str (pmn p), .int (m : Int)] = mpure (.bl (lwB R F m p))
  | 0, _ => fine_torn hR hm hT hS hl (by decide) (by decide) (by decide) fun bs hb => tornA hR hm hT hb
  | 1, _ => fine_torn hR hm hT hS hl (by decide) (by decide) (by decide) fun bs hb => tornE hR hm hT hb
  | 2, _ => fine_torn hR hm hT hS hl (by decide) (by decide) (by decide) fun bs hb => tornG hR hm hT hb
  | 3, _ => fine_heard hR hm hT
  | 4, _ => fine_torn hR hm hT hS hl (by decide) (by decide) (by decide) fun bs hb => tornK hR hm hT hb
  | 5, _ => fine_mixed hR hm hT hS hl
  | 6, _ => fine_torn hR hm hT hS hl (by decide) (by decide) (by decide) fun bs hb => tornM hR hm hT hb
  | 7, _ => fine_torn hR hm hT hS hl (by decide) (by decide) (by decide) fun bs hb => tornO hR hm hT hb
  | 8, _ => fine_torn hR hm hT hS hl (by decide) (by decide) (by decide) fun bs hb => tornP hR hm hT hb
  | 9, _ => fine_torn hR hm hT hS hl (by decide) (by decide) (by decide) fun bs hb => tornR hR hm hT hb
end
section
variable {R : List (List Bool)} {F : List Bool → Bool} {m : Nat}
theorem cut_at {bs : List Bool} {k : Nat} (h : k < bs.length) : ∃ a c d, bs = a ++ c :: d ∧ a.length = k := ⟨bs.take k, bs[k], bs.drop (k + 1), by rw [← List.drop_eq_getElem_cons h, List.take_append_drop], by rw [List.length_take]; omega⟩
theorem get_app (a d : List Bool) (c : Bool) : (a ++ c :: d)[a.length]?.getD true = c := by simp
theorem get_app1 (a d : List Bool) (c e : Bool) : (a ++ c :: e :: d)[a.length + 1]?.getD true = e := by
  rw [List.getElem?_append_right (by omega)]; simp
theorem ins_app (a d : List Bool) (c : Bool) : ins (a ++ d) c a.length = a ++ c :: d := by simp [ins]
theorem rem_app (a d : List Bool) (c e : Bool) : rem (a ++ c :: e :: d) (a.length + 1) = a ++ c :: d := by
  unfold rem
  rw [List.take_append, List.drop_append, List.take_of_length_le (by omega), List.drop_of_length_le (by omega), show a.length + 1 - a.length = 1 by omega, show a.length + 1 + 1 - a.length = 2 by omega]
  simp
theorem plc_mem {p : List Bool → Nat → Bool} {x : List Int} : x ∈ plc R p ↔ ∃ bs ∈ R, ∃ k, k < bs.length ∧ p bs k = true ∧ x = [(bs.length : Int), (k : Int)] := by
  unfold plc
  rw [List.mem_flatMap]
  constructor
  · rintro ⟨bs, hb, h⟩
    obtain ⟨k, hk, rfl⟩ := List.mem_map.mp h
    rw [List.mem_filter, List.mem_range] at hk
    exact ⟨bs, hb, k, hk.1, hk.2, rfl⟩
  · rintro ⟨bs, hb, k, h1, h2, rfl⟩
    exact ⟨bs, hb, List.mem_map.mpr ⟨k, List.mem_filter.mpr ⟨List.mem_range.mpr h1, h2⟩, rfl⟩⟩
variable (hR : ∀ bs, bs ∈ R ↔ bs ≠ [] ∧ bs.length ≤ m)
include hR
theorem rep_same : R.any (rpB F) = R.any (rdB R F) := by
  rw [Bool.eq_iff_iff, List.any_eq_true, List.any_eq_true]
  constructor
  · rintro ⟨bs, hb, h⟩
    obtain ⟨k, hk, h⟩ := List.any_eq_true.mp h
    rw [List.mem_range] at hk
    obtain ⟨a, c, d, rfl, rfl⟩ := cut_at (show k < bs.length by omega)
    rw [List.length_append, List.length_cons] at hk
    obtain ⟨e, d, rfl⟩ : ∃ e d', d = e :: d' := by
      cases d with
      | nil => rw [List.length_nil] at hk; omega
      | cons e d => exact ⟨e, d, rfl⟩
    rw [Bool.and_eq_true, get_app, get_app1, rem_app] at h
    obtain ⟨h1, h2⟩ := h
    have h1 : e = c := by cases e <;> cases c <;> first | rfl | cases h1
    subst h1
    refine ⟨a ++ e :: d, (hR _).mpr ⟨by simp, ?_⟩, ?_⟩
    · have := ((hR _).mp hb).2
      simp at this ⊢
      omega
    · refine List.any_eq_true.mpr ⟨a.length, by rw [List.mem_range]; simp, ?_⟩
      rw [get_app, ins_app, decide_eq_true hb, Bool.true_and]
      exact h2
  · rintro ⟨bs, hb, h⟩
    obtain ⟨k, hk, h⟩ := List.any_eq_true.mp h
    rw [List.mem_range] at hk
    obtain ⟨a, c, d, rfl, rfl⟩ := cut_at hk
    rw [Bool.and_eq_true, get_app, ins_app] at h
    obtain ⟨h1, h2⟩ := h
    refine ⟨_, of_decide_eq_true h1, List.any_eq_true.mpr ⟨a.length, by rw [List.mem_range]; simp, ?_⟩⟩
    rw [get_app, get_app1, rem_app, h2]
    cases c <;> rfl
theorem heard_same : hrK R F = hdB F m := by
  rw [Bool.eq_iff_iff]
  unfold hrK hdB
  rw [eqMem_iff, Bool.not_eq_true', List.any_eq_false]
  constructor
  · intro h j hj hd
    rw [List.mem_range] at hj
    obtain ⟨k, hk, hd⟩ := List.any_eq_true.mp hd
    rw [List.mem_range] at hk
    have hw : List.replicate (j + 1) true ∈ R := (hR _).mpr ⟨by simp, by rw [List.length_replicate]; omega⟩
    obtain ⟨bs, hb, k', hk', hp, e⟩ := plc_mem.mp ((h [((j + 1 : Nat) : Int), (k : Int)]).mp (plc_mem.mpr ⟨_, hw, k, by rw [List.length_replicate]; exact hk, rfl, by rw [List.length_replicate]⟩))
    injection e with e1 e2
    injection e2 with e2 _
    have e1 : bs.length = j + 1 := by omega
    have e2 : k' = k := by omega
    subst e2
    rw [Bool.not_eq_true', List.any_eq_false] at hd
    exact hd bs (e1 ▸ all_rws bs) hp
  · intro h x
    constructor
    · intro hx
      obtain ⟨bs, hb, k, hk, _, rfl⟩ := plc_mem.mp hx
      have hb' := (hR _).mp hb
      have h1 := h (bs.length - 1) (by rw [List.mem_range]; omega)
      rw [show bs.length - 1 + 1 = bs.length by omega] at h1
      have h2 : dfB F bs.length = false := by simpa using h1
      unfold dfB at h2
      rw [List.any_eq_false] at h2
      have h3 := h2 k (List.mem_range.mpr hk)
      rw [Bool.not_eq_true', Bool.not_eq_false] at h3
      obtain ⟨cs, hc, hp⟩ := List.any_eq_true.mp h3
      have hl := rws_mem hc
      exact plc_mem.mpr ⟨cs, (hR _).mpr ⟨fun q => by rw [q, List.length_nil] at hl; omega, by omega⟩, k, by omega, hp, by rw [hl]⟩
    · intro hx
      obtain ⟨bs, hb, k, hk, _, rfl⟩ := plc_mem.mp hx
      exact plc_mem.mpr ⟨bs, hb, k, hk, rfl, rfl⟩
theorem same_ok (h14 : ¬ R.length < 14) : ∀ p, p < 10 → ckB R F p = lwB R F m p
  | 0, _ => rfl
  | 1, _ => rfl
  | 2, _ => rfl
  | 3, _ => heard_same hR
  | 4, _ => rfl
  | 5, _ => by
    show (decide (R.length < 14) || mxK R F) = mxK R F
    rw [decide_eq_false h14, Bool.false_or]
  | 6, _ => rfl
  | 7, _ => rfl
  | 8, _ => rfl
  | 9, _ => by
    show (!R.any (rpB F)) = !R.any (rdB R F)
    rw [rep_same hR]
end
end C
set_option Elab.async false
set_option linter.all false
set_option maxRecDepth 100000
set_option maxHeartbeats 1000000
namespace C
open PySem PySem.Spec PyProof.Rows L2 DL
variable {Γ : Cfg}
theorem for_keep {i : Nat} {body : SM} {P : EnD → S → Prop} {Qr : D → S → Prop} (hP : ∀ ρ z, P ρ z → ownAt ρ i = false) : ∀ {l : List D}, (∀ x ∈ l, ∀ ρ z, P ρ z → WS (body (ρ.set i (some (.val x))) z) P Qr) → ∀ {ρ : EnD} {z : S}, P ρ z → WS (forD i body l ρ z) P Qr
  | [], _, ρ, z, p => p
  | x :: l, h, ρ, z, p => by
    refine forD_cons (hP ρ z p) ?_
    exact WS_mono (h x (List.mem_cons_self ..) ρ z p) fun ρ' z' p' => for_keep hP (fun y hy => h y (List.mem_cons_of_mem _ hy)) p'
end C
set_option Elab.async false
set_option linter.all false
set_option maxRecDepth 100000
set_option maxHeartbeats 1000000
namespace C
def Aw : Nat → Nat → Nat → Bool → Bool → Bool
  | 0, a, _, _, _ => decide (0 < a)
  | 1, _, _, _, _ => true
  | 2, _, _, _, _ => false
  | 3, _, _, h, l => h && l
  | 4, _, b, _, _ => decide (b = 0)
  | 5, _, _, h, _ => h
  | 7, _, _, _, l => l
  | 8, a, b, _, _ => decide (b ≤ a)
  | 9, a, b, _, _ => decide (b < a)
  | 10, a, b, h, _ => if a = b then h else decide (b < a)
  | 11, a, b, _, l => if a = b then l else decide (b < a)
  | _, _, b, _, _ => decide (b % 2 = 0)
def kpA (F : List Bool → Bool) (bs : List Bool) : Bool := (List.range (bs.length + 1)).any fun k => F (ins bs (F bs) k) != F bs
def rdA (F : List Bool → Bool) (bs : List Bool) : Bool := (List.range bs.length).any fun k => F (ins bs (bs[k]?.getD true) k) != F bs
end C
set_option Elab.async false
set_option linter.all false
set_option maxRecDepth 100000
set_option maxHeartbeats 1000000
namespace C
open PySem PySem.Spec PyProof.Rows L2 DL
variable {Γ : Cfg}
theorem getS_cons {p : List Nat × D} {es : List (List Nat × D)} {k : List Nat} : getS (p :: es) k = if p.1 = k then some p.2 else getS es k := by
  unfold getS
  rw [List.find?_cons]
  by_cases h : p.1 = k
  · rw [if_pos h, decide_eq_true h]; rfl
  · rw [if_neg h, decide_eq_false h]
theorem getS_app {q : List Nat × D} {k : List Nat} : ∀ {es : List (List Nat × D)}, getS (es ++ [q]) k = match getS es k with | some d => some d | none => if q.1 = k then some q.2 else none
  | [] => by rw [List.nil_append, getS_cons]; rfl
  | p :: es => by
    rw [List.cons_append, getS_cons, getS_cons, getS_app (es := es)]
    by_cases h : p.1 = k
    · rw [if_pos h, if_pos h]
    · rw [if_neg h, if_neg h]
theorem any_getS {k : List Nat} : ∀ {es : List (List Nat × D)}, (es.any fun p => decide (p.1 = k)) = (getS es k).isSome
  | [] => rfl
  | p :: es => by
    rw [List.any_cons, any_getS (es := es), getS_cons]
    by_cases h : p.1 = k
    · rw [if_pos h, decide_eq_true h]; rfl
    · rw [if_neg h, decide_eq_false h, Bool.false_or]
theorem getS_set {k k' : List Nat} {v : D} : ∀ {es : List (List Nat × D)}, getS (es.map fun p => if p.1 = k then (p.1, v) else p) k' = if k' = k then (getS es k).map (fun _ => v) else getS es k'
  | [] => by by_cases h : k' = k <;> simp [h, getS]
  | p :: es => by
    rw [List.map_cons, getS_cons, getS_set (es := es), getS_cons, getS_cons]
    by_cases h : p.1 = k
    · rw [if_pos h, if_pos h]
      by_cases h2 : k' = k
      · rw [if_pos h2, if_pos h2, if_pos (by rw [h, h2])]; rfl
      · rw [if_neg h2, if_neg h2, if_neg fun q => h2 (by rw [← q]; exact h), if_neg fun q => h2 (by rw [← q, h])]
    · rw [if_neg h, if_neg h]
      by_cases h2 : k' = k
      · rw [if_pos h2, if_pos h2, if_neg fun q => h (by rw [q, h2])]
      · rw [if_neg h2, if_neg h2]
theorem getS_put {es : List (List Nat × D)} {k k' : List Nat} {v : D} : getS (putS es k v) k' = if k' = k then some v else getS es k' := by
  unfold putS
  rw [any_getS]
  cases e : getS es k with
  | some d =>
    rw [if_pos (show (some d).isSome = true from rfl), getS_set, e]
    rfl
  | none =>
    rw [if_neg (show ¬ (none : Option D).isSome = true by decide), getS_app]
    by_cases h : k' = k
    · subst h; rw [e]
    · rw [if_neg h]
      cases getS es k' with
      | some d => rfl
      | none => exact if_neg fun q => h q.symm
theorem Told.put {es : List (List Nat × D)} {R : List (List Bool)} {F : List Bool → Bool} (h : Told es R F) (b : List Bool) : Told (putS es (txt b) (.str (txt [F b]))) (b :: R) F := fun c => by
  rw [getS_put]
  by_cases q : c = b
  · subst q; rw [if_pos rfl, if_pos (List.mem_cons_self ..)]
  · rw [if_neg fun e => q (txt_inj e), h c]
    by_cases m : c ∈ R
    · rw [if_pos m, if_pos (List.mem_cons_of_mem _ m)]
    · rw [if_neg m, if_neg fun e => by
        rcases List.mem_cons.mp e with e | e
        · exact q e
        · exact m e]
theorem Told.nil {F : List Bool → Bool} : Told [] [] F := fun c => by rw [if_neg (by simp)]; rfl
/-- a row with two places put about, or the row -/
def swq (bs : List Bool) (k : Nat) : List Bool := bs.take k ++ (bs.drop (k + 1)).take 1 ++ [bs[k]?.getD true] ++ bs.drop (k + 2)
def nearA (bs : List Bool) (k : Nat) : List (List Bool) := [flp bs k, ins bs (bs[k]?.getD true) k, bs.take k, bs.drop k, swq bs k]
def nearC (bs : List Bool) : List (List Bool) := [[true], [false], [true, true], [true, false], [false, true], [false, false], bs ++ [true], bs ++ [false]]
def nearL (bs : List Bool) (k : Nat) : List (List Bool) := nearA bs k ++ [ins bs true k, ins bs false k] ++ nearC bs
end C
set_option Elab.async false
set_option linter.all false
set_option maxRecDepth 100000
set_option maxHeartbeats 1000000
namespace C
open PySem PySem.Spec PyProof.Rows L2 DL
variable {Γ : Cfg}
def Lg (i : Nat) (bs : List Bool) (es : List (List Nat × D)) (ρ : EnD) : Prop := ∃ a b c e : Option D, ρ = [some (.val (.str (nm i))), some (.val (.str (txt bs))), some (.own (.dS es)), a.map .val, b.map .val, c.map .val, e.map .val]
def LP (i : Nat) (bs : List Bool) (base : List (List Bool)) (c : Nat) (z0 : S) (acc : List (List Bool)) (ρ : EnD) (z : S) : Prop := z = z0 ∧ ∃ es R, Lg i bs es ρ ∧ Told es R (ans i) ∧ (∀ b ∈ base ++ acc, b ≠ [] → b ∈ R) ∧ es.length ≤ c + acc.length
theorem LP.step {i : Nat} {bs x : List Bool} {base acc : List (List Bool)} {c : Nat} {z0 z' : S} {es : List (List Nat × D)} {R : List (List Bool)} {ρ' : EnD} (hz : z' = z0) (ht : Told es R (ans i)) (hb : ∀ b ∈ base ++ acc, b ≠ [] → b ∈ R) (hl : es.length ≤ c + acc.length)
    (h : Lg i bs (putS es (txt x) (.str (txt [ans i x]))) ρ') : LP i bs base c z0 (acc ++ [x]) ρ' z' := by
  refine ⟨hz, _, x :: R, h, ht.put x, fun b hm hn => ?_, ?_⟩
  · rw [← List.append_assoc, List.mem_append, List.mem_singleton] at hm
    rcases hm with hm | hm
    · exact List.mem_cons_of_mem _ (hb b hm hn)
    · rw [hm]; exact List.mem_cons_self ..
  · have := putS_len es (txt x) (.str (txt [ans i x]))
    rw [List.length_append, List.length_singleton]
    omega
section
variable {bs : List Bool} {k : Nat} (hk : k < bs.length) (h1 : bs.length ≤ 12) {x0 x2 x3 x5 x6 : Option Sl}
include hk h1
end
def LQ (i : Nat) (bs : List Bool) (z0 : S) (acc : List Nat) (ρ : EnD) (z : S) : Prop := z = z0 ∧ ∃ es R, Lg i bs es ρ ∧ Told es R (ans i) ∧ (bs ∈ R ∧ bs.map not ∈ R) ∧ (∀ k ∈ acc, ∀ b ∈ nearL bs k, b ≠ [] → b ∈ R) ∧ es.length ≤ 2 + 15 * acc.length
end C
set_option Elab.async false
set_option linter.all false
set_option maxRecDepth 100000
set_option maxHeartbeats 4000000
namespace C
open PySem PySem.Spec PyProof.Rows L2 DL
variable {Γ : Cfg}
def kW : Nat → List Nat
  | 0 => [97, 103, 114, 101, 101, 100, 32, 103, 114, 111, 119, 105, 110, 103, 32, 104, 101, 97, 114, 100, 32, 107, 101, 112, 116, 32, 111, 114, 100, 101, 114, 32, 112, 97, 114, 116, 115, 32, 114, 101, 112, 101, 97, 116]
  | 1 => [103, 114, 111, 119, 105, 110, 103, 32, 107, 101, 112, 116, 32, 111, 114, 100, 101, 114, 32, 112, 97, 114, 116, 115, 32, 114, 101, 112, 101, 97, 116]
  | 2 => [103, 114, 111, 119, 105, 110, 103, 32, 107, 101, 112, 116, 32, 111, 114, 100, 101, 114, 32, 112, 97, 114, 116, 115, 32, 114, 101, 112, 101, 97, 116]
  | 3 => [97, 103, 114, 101, 101, 100, 32, 103, 114, 111, 119, 105, 110, 103, 32, 107, 101, 112, 116, 32, 109, 105, 120, 101, 100, 32, 114, 101, 112, 101, 97, 116]
  | 4 => [97, 103, 114, 101, 101, 100, 32, 103, 114, 111, 119, 105, 110, 103, 32, 104, 101, 97, 114, 100, 32, 107, 101, 112, 116, 32, 111, 114, 100, 101, 114, 32, 112, 97, 114, 116, 115, 32, 114, 101, 112, 101, 97, 116]
  | 5 => [97, 103, 114, 101, 101, 100, 32, 101, 118, 101, 110, 32, 103, 114, 111, 119, 105, 110, 103, 32, 107, 101, 112, 116, 32, 109, 105, 120, 101, 100, 32, 112, 97, 114, 116, 115, 32, 114, 101, 112, 101, 97, 116]
  | 6 => [97, 103, 114, 101, 101, 100, 32, 104, 101, 97, 114, 100, 32, 109, 105, 120, 101, 100, 32, 114, 101, 112, 101, 97, 116]
  | 7 => [97, 103, 114, 101, 101, 100, 32, 101, 118, 101, 110, 32, 103, 114, 111, 119, 105, 110, 103, 32, 107, 101, 112, 116, 32, 109, 105, 120, 101, 100, 32, 112, 97, 114, 116, 115, 32, 114, 101, 112, 101, 97, 116]
  | 8 => [97, 103, 114, 101, 101, 100, 32, 103, 114, 111, 119, 105, 110, 103, 32, 104, 101, 97, 114, 100, 32, 107, 101, 112, 116, 32, 109, 105, 120, 101, 100, 32, 109, 111, 115, 116, 32, 111, 114, 100, 101, 114]
  | 9 => [97, 103, 114, 101, 101, 100, 32, 103, 114, 111, 119, 105, 110, 103, 32, 104, 101, 97, 114, 100, 32, 107, 101, 112, 116, 32, 109, 105, 120, 101, 100, 32, 109, 111, 115, 116, 32, 111, 114, 100, 101, 114]
  | 10 => [97, 103, 114, 101, 101, 100, 32, 101, 118, 101, 110, 32, 103, 114, 111, 119, 105, 110, 103, 32, 107, 101, 112, 116, 32, 109, 105, 120, 101, 100, 32, 109, 111, 115, 116]
  | 11 => [97, 103, 114, 101, 101, 100, 32, 101, 118, 101, 110, 32, 103, 114, 111, 119, 105, 110, 103, 32, 107, 101, 112, 116, 32, 109, 105, 120, 101, 100, 32, 109, 111, 115, 116]
  | _ => [104, 101, 97, 114, 100, 32, 109, 105, 120, 101, 100, 32, 111, 114, 100, 101, 114, 32, 112, 97, 114, 116, 115]
def kD : List (List Nat × D) := putS (putS (putS (putS (putS (putS (putS (putS (putS (putS ([([111, 100, 100], D.str [104, 101, 97, 114, 100, 32, 109, 105, 120, 101, 100, 32, 111, 114, 100, 101, 114, 32, 112, 97, 114, 116, 115]), ([105, 115, 108, 97, 110, 100], D.str [97, 103, 114, 101, 101, 100, 32, 104, 101, 97, 114, 100, 32, 109, 105, 120, 101, 100, 32, 114, 101, 112, 101, 97, 116]), ([98, 111, 116, 104, 32, 101, 110, 100, 115], D.str [97, 103, 114, 101, 101, 100, 32, 103, 114, 111, 119, 105, 110, 103, 32, 107, 101, 112, 116, 32, 109, 105, 120, 101, 100, 32, 114, 101, 112, 101, 97, 116])]) [102, 105, 114, 115, 116] (D.str [97, 103, 114, 101, 101, 100, 32, 101, 118, 101, 110, 32, 103, 114, 111, 119, 105, 110, 103, 32, 107, 101, 112, 116, 32, 109, 105, 120, 101, 100, 32, 112, 97, 114, 116, 115, 32, 114, 101, 112, 101, 97, 116])) [108, 97, 115, 116] (D.str [97, 103, 114, 101, 101, 100, 32, 101, 118, 101, 110, 32, 103, 114, 111, 119, 105, 110, 103, 32, 107, 101, 112, 116, 32, 109, 105, 120, 101, 100, 32, 112, 97, 114, 116, 115, 32, 114, 101, 112, 101, 97, 116])) [97, 108, 108, 111, 119, 32, 111, 118, 101, 114] (D.str [97, 103, 114, 101, 101, 100, 32, 103, 114, 111, 119, 105, 110, 103, 32, 104, 101, 97, 114, 100, 32, 107, 101, 112, 116, 32, 111, 114, 100, 101, 114, 32, 112, 97, 114, 116, 115, 32, 114, 101, 112, 101, 97, 116])) [97, 108, 119, 97, 121, 115, 32, 97, 108, 108, 111, 119] (D.str [103, 114, 111, 119, 105, 110, 103, 32, 107, 101, 112, 116, 32, 111, 114, 100, 101, 114, 32, 112, 97, 114, 116, 115, 32, 114, 101, 112, 101, 97, 116])) [109, 111, 115, 116, 32, 111, 114, 32, 97, 108, 108, 111, 119] (D.str [97, 103, 114, 101, 101, 100, 32, 103, 114, 111, 119, 105, 110, 103, 32, 104, 101, 97, 114, 100, 32, 107, 101, 112, 116, 32, 109, 105, 120, 101, 100, 32, 109, 111, 115, 116, 32, 111, 114, 100, 101, 114])) [100, 101, 110, 121, 32, 111, 118, 101, 114] (D.str [97, 103, 114, 101, 101, 100, 32, 103, 114, 111, 119, 105, 110, 103, 32, 104, 101, 97, 114, 100, 32, 107, 101, 112, 116, 32, 111, 114, 100, 101, 114, 32, 112, 97, 114, 116, 115, 32, 114, 101, 112, 101, 97, 116])) [97, 108, 119, 97, 121, 115, 32, 100, 101, 110, 121] (D.str [103, 114, 111, 119, 105, 110, 103, 32, 107, 101, 112, 116, 32, 111, 114, 100, 101, 114, 32, 112, 97, 114, 116, 115, 32, 114, 101, 112, 101, 97, 116])) [109, 111, 115, 116, 32, 111, 114, 32, 100, 101, 110, 121] (D.str [97, 103, 114, 101, 101, 100, 32, 103, 114, 111, 119, 105, 110, 103, 32, 104, 101, 97, 114, 100, 32, 107, 101, 112, 116, 32, 109, 105, 120, 101, 100, 32, 109, 111, 115, 116, 32, 111, 114, 100, 101, 114])) [109, 111, 115, 116, 32, 111, 114, 32, 102, 105, 114, 115, 116] (D.str [97, 103, 114, 101, 101, 100, 32, 101, 118, 101, 110, 32, 103, 114, 111, 119, 105, 110, 103, 32, 107, 101, 112, 116, 32, 109, 105, 120, 101, 100, 32, 109, 111, 115, 116])) [109, 111, 115, 116, 32, 111, 114, 32, 108, 97, 115, 116] (D.str [97, 103, 114, 101, 101, 100, 32, 101, 118, 101, 110, 32, 103, 114, 111, 119, 105, 110, 103, 32, 107, 101, 112, 116, 32, 109, 105, 120, 101, 100, 32, 109, 111, 115, 116])
end C
set_option Elab.async false
set_option linter.all false
set_option maxRecDepth 100000
set_option maxHeartbeats 1000000
namespace C
open PySem PySem.Spec PyProof.Rows L2 DL
variable {Γ : Cfg}
end C
set_option Elab.async false
set_option linter.all false
set_option maxRecDepth 100000
set_option maxHeartbeats 1000000
namespace C
open PySem PySem.Spec PyProof.Rows L2 DL
variable {Γ : Cfg}
def kI (i p : Nat) : Bool := kpb i (pmn p)
/-- some told way keeps all of these -/
def good (ps : List Nat) : Bool := (List.range 13).any fun i => ps.all fun p => kI i p
def CL : List (List Nat) := [[1, 3], [1, 7], [6, 8], [6, 9], [5, 7, 9], [0, 3, 5, 8], [0, 5, 7, 8], [2, 3, 5, 8], [2, 3, 5, 9], [2, 5, 7, 8], [3, 4, 5, 8], [3, 4, 5, 9], [3, 5, 8, 9], [4, 5, 7, 8]]
def lies (f g : List Nat) : Bool := f.all fun p => g.contains p
def sel (bs : List Bool) : List Nat := (List.range 10).filter fun p => bs[p]?.getD false
theorem sel_of (q : Nat → Bool) : (List.range 10).filter q = sel [q 0, q 1, q 2, q 3, q 4, q 5, q 6, q 7, q 8, q 9] := by
  unfold sel
  refine List.filter_congr fun p hp => ?_
  have hp : p < 10 := List.mem_range.mp hp
  match p, hp with
  | 0, _ => rfl
  | 1, _ => rfl
  | 2, _ => rfl
  | 3, _ => rfl
  | 4, _ => rfl
  | 5, _ => rfl
  | 6, _ => rfl
  | 7, _ => rfl
  | 8, _ => rfl
  | 9, _ => rfl
def kT : List (List Nat) := [[0, 2, 3, 4, 7, 8, 9], [2, 4, 7, 8, 9], [0, 2, 4, 5, 9], [0, 1, 2, 4, 5, 8, 9], [0, 3, 5, 9], [0, 2, 3, 4, 5, 6, 7], [0, 1, 2, 4, 5, 6], [3, 5, 7, 8]]
def goodT (ps : List Nat) : Bool := kT.any fun k => lies ps k
theorem kT_kI : ∀ k ∈ kT, ∃ i : Fin 13, ∀ p : Fin 10, kI i.val p.val = k.contains p.val := by decide +kernel
theorem kI_kT : ∀ i : Fin 13, ∃ k ∈ kT, ∀ p : Fin 10, kI i.val p.val = k.contains p.val := by decide +kernel
theorem goodT_ok {ps : List Nat} (h : ∀ p ∈ ps, p < 10) : good ps = goodT ps := by
  rw [Bool.eq_iff_iff]
  unfold good goodT lies
  rw [List.any_eq_true, List.any_eq_true]
  constructor
  · rintro ⟨i, hi, hk⟩
    obtain ⟨k, hk1, hk2⟩ := kI_kT ⟨i, List.mem_range.mp hi⟩
    refine ⟨k, hk1, List.all_eq_true.mpr fun p hp => ?_⟩
    rw [← hk2 ⟨p, h p hp⟩]
    exact List.all_eq_true.mp hk p hp
  · rintro ⟨k, hk, ha⟩
    obtain ⟨i, hi⟩ := kT_kI k hk
    refine ⟨i.val, List.mem_range.mpr i.isLt, List.all_eq_true.mpr fun p hp => ?_⟩
    rw [hi ⟨p, h p hp⟩]
    exact List.all_eq_true.mp ha p hp
theorem good_or : ∀ b0 b1 b2 b3 b4 b5 b6 b7 b8 b9 : Bool, (goodT (sel [b0, b1, b2, b3, b4, b5, b6, b7, b8, b9]) || CL.any fun c => lies c (sel [b0, b1, b2, b3, b4, b5, b6, b7, b8, b9])) = true := by decide +kernel
theorem flt_lt (q : Nat → Bool) : ∀ p ∈ (List.range 10).filter q, p < 10 := fun p hp => List.mem_range.mp (List.mem_filter.mp hp).1
theorem good_cl (q : Nat → Bool) (h : ∀ c ∈ CL, lies c ((List.range 10).filter q) = false) : good ((List.range 10).filter q) = true := by
  rw [goodT_ok (flt_lt q)]
  have h2 := good_or (q 0) (q 1) (q 2) (q 3) (q 4) (q 5) (q 6) (q 7) (q 8) (q 9)
  rw [← sel_of q, Bool.or_eq_true] at h2
  rcases h2 with h2 | h2
  · exact h2
  · obtain ⟨c, hc, e⟩ := List.any_eq_true.mp h2
    rw [h c hc] at e
    cases e
def tv (v : List Bool) : List Bool → Bool
  | [a] => (v[if a then 0 else 1]?).getD true
  | [a, b] => (v[if a then (if b then 2 else 3) else (if b then 4 else 5)]?).getD true
  | [a, b, c] => (v[if a then (if b then (if c then 6 else 7) else (if c then 8 else 9)) else (if b then (if c then 10 else 11) else (if c then 12 else 13))]?).getD true
  | _ => true
theorem fourteen {v : List Bool} (h : v.length = 14) : ∃ a b c d e f g i j k l m n o, v = [a, b, c, d, e, f, g, i, j, k, l, m, n, o] := by
  match v, h with
  | [a, b, c, d, e, f, g, i, j, k, l, m, n, o], _ => exact ⟨a, b, c, d, e, f, g, i, j, k, l, m, n, o, rfl⟩
theorem T14_eq : T14 = [[true], [false], [true, true], [true, false], [false, true], [false, false], [true, true, true], [true, true, false], [true, false, true], [true, false, false], [false, true, true], [false, true, false], [false, false, true], [false, false, false]] := by decide +kernel
theorem T14_tv (F : List Bool → Bool) : ∀ bs ∈ T14, tv (T14.map F) bs = F bs := by
  rw [T14_eq]
  intro bs h
  simp only [List.mem_cons, List.not_mem_nil, or_false] at h
  rcases h with rfl | rfl | rfl | rfl | rfl | rfl | rfl | rfl | rfl | rfl | rfl | rfl | rfl | rfl <;> rfl
def exE (w : List Bool) : List Bool := [w[0]?.getD true, !(w[0]?.getD true), w[1]?.getD true, w[2]?.getD true, !(w[2]?.getD true), !(w[1]?.getD true), w[3]?.getD true, w[4]?.getD true, w[5]?.getD true, w[6]?.getD true, !(w[6]?.getD true), !(w[5]?.getD true), !(w[4]?.getD true), !(w[3]?.getD true)]
def exR (w : List Bool) : List Bool := [w[0]?.getD true, w[1]?.getD true, w[0]?.getD true, w[2]?.getD true, w[3]?.getD true, w[1]?.getD true, w[0]?.getD true, w[2]?.getD true, w[4]?.getD true, w[2]?.getD true, w[3]?.getD true, w[5]?.getD true, w[3]?.getD true, w[1]?.getD true]
def exM (w : List Bool) : List Bool := [true, false, true, w[0]?.getD true, w[1]?.getD true, false, true, true, true, false, true, false, false, false]
def exP (w : List Bool) : List Bool := w ++ (rws 3).map fun bs => tv w [tv w (bs.take 1), tv w (bs.drop 1)]
theorem any_no {α : Type} {p : α → Bool} {l : List α} (h : (!l.any p) = true) {x : α} (hx : x ∈ l) : p x = false := by
  cases e : p x with
  | false => rfl
  | true =>
    have : l.any p = true := List.any_eq_true.mpr ⟨x, hx, e⟩
    rw [this] at h
    cases h
theorem in14 {bs : List Bool} (h : decide (bs ∈ [[true], [false], [true, true], [true, false], [false, true], [false, false], [true, true, true], [true, true, false], [true, false, true], [true, false, false], [false, true, true], [false, true, false], [false, false, true], [false, false, false]]) = true) : bs ∈ T14 := by
  rw [T14_eq]
  exact of_decide_eq_true h
theorem ne_not {a b : Bool} (h : (a == b) = false) : a = !b := by cases a <;> cases b <;> first | rfl | cases h
theorem v_even {v : List Bool} (hv : v.length = 14) (h : ckB T14 (tv v) 1 = true) : ∃ w ∈ rws 7, v = exE w := by
  obtain ⟨a, b, c, d, e, f, g, i, j, k, l, m, n, o, rfl⟩ := fourteen hv
  have h1 := ne_not (show (b == a) = false from any_no h (x := [true]) (in14 rfl))
  have h2 := ne_not (show (f == c) = false from any_no h (x := [true, true]) (in14 rfl))
  have h3 := ne_not (show (e == d) = false from any_no h (x := [true, false]) (in14 rfl))
  have h4 := ne_not (show (o == g) = false from any_no h (x := [true, true, true]) (in14 rfl))
  have h5 := ne_not (show (n == i) = false from any_no h (x := [true, true, false]) (in14 rfl))
  have h6 := ne_not (show (m == j) = false from any_no h (x := [true, false, true]) (in14 rfl))
  have h7 := ne_not (show (l == k) = false from any_no h (x := [true, false, false]) (in14 rfl))
  subst h1 h2 h3 h4 h5 h6 h7
  exact ⟨[a, c, d, g, i, j, k], all_rws _, rfl⟩
theorem ne_same {a b : Bool} (h : (a != b) = false) : a = b := by cases a <;> cases b <;> first | rfl | cases h
theorem rp_at {F : List Bool → Bool} (h : ckB T14 F 9 = true) {bs : List Bool} (hb : bs ∈ T14) {k : Nat} (hk : k < bs.length - 1) (e : (bs[k + 1]?.getD true == bs[k]?.getD true) = true) : F bs = F (rem bs (k + 1)) := by
  have h1 : rpB F bs = false := any_no h hb
  cases q : F bs != F (rem bs (k + 1)) with
  | false => exact ne_same q
  | true =>
    have : rpB F bs = true := List.any_eq_true.mpr ⟨k, List.mem_range.mpr hk, by rw [e, q]; rfl⟩
    rw [this] at h1
    cases h1
theorem v_repeat {v : List Bool} (hv : v.length = 14) (h : ckB T14 (tv v) 9 = true) : ∃ w ∈ rws 6, v = exR w := by
  obtain ⟨a, b, c, d, e, f, g, i, j, k, l, m, n, o, rfl⟩ := fourteen hv
  have h1 : a = c := (rp_at h (bs := [true, true]) (k := 0) (in14 rfl) (by decide) rfl).symm
  have h2 : b = f := (rp_at h (bs := [false, false]) (k := 0) (in14 rfl) (by decide) rfl).symm
  have h3 : c = g := (rp_at h (bs := [true, true, true]) (k := 0) (in14 rfl) (by decide) rfl).symm
  have h4 : d = i := (rp_at h (bs := [true, true, false]) (k := 0) (in14 rfl) (by decide) rfl).symm
  have h5 : d = k := (rp_at h (bs := [true, false, false]) (k := 1) (in14 rfl) (by decide) rfl).symm
  have h6 : e = l := (rp_at h (bs := [false, true, true]) (k := 1) (in14 rfl) (by decide) rfl).symm
  have h7 : e = n := (rp_at h (bs := [false, false, true]) (k := 0) (in14 rfl) (by decide) rfl).symm
  have h8 : f = o := (rp_at h (bs := [false, false, false]) (k := 0) (in14 rfl) (by decide) rfl).symm
  subst h1 h2 h3 h4 h5 h6 h7 h8
  exact ⟨[a, b, d, e, j, m], all_rws _, rfl⟩
theorem v_most {v : List Bool} (hv : v.length = 14) (h : ckB T14 (tv v) 6 = true) : ∃ w ∈ rws 2, v = exM w := by
  obtain ⟨a, b, c, d, e, f, g, i, j, k, l, m, n, o, rfl⟩ := fourteen hv
  have h1 := ne_same (show (a != true) = false from any_no h (x := [true]) (in14 rfl))
  have h2 := ne_same (show (b != false) = false from any_no h (x := [false]) (in14 rfl))
  have h3 := ne_same (show (c != true) = false from any_no h (x := [true, true]) (in14 rfl))
  have h4 := ne_same (show (f != false) = false from any_no h (x := [false, false]) (in14 rfl))
  have h5 := ne_same (show (g != true) = false from any_no h (x := [true, true, true]) (in14 rfl))
  have h6 := ne_same (show (i != true) = false from any_no h (x := [true, true, false]) (in14 rfl))
  have h7 := ne_same (show (j != true) = false from any_no h (x := [true, false, true]) (in14 rfl))
  have h8 := ne_same (show (k != false) = false from any_no h (x := [true, false, false]) (in14 rfl))
  have h9 := ne_same (show (l != true) = false from any_no h (x := [false, true, true]) (in14 rfl))
  have h10 := ne_same (show (m != false) = false from any_no h (x := [false, true, false]) (in14 rfl))
  have h11 := ne_same (show (n != false) = false from any_no h (x := [false, false, true]) (in14 rfl))
  have h12 := ne_same (show (o != false) = false from any_no h (x := [false, false, false]) (in14 rfl))
  subst h1 h2 h3 h4 h5 h6 h7 h8 h9 h10 h11 h12
  exact ⟨[d, e], all_rws _, rfl⟩
theorem pa_at {F : List Bool → Bool} (h : ckB T14 F 8 = true) {bs : List Bool} (hb : bs ∈ T14) {k : Nat} (hk : k < bs.length - 1) : F [F (bs.take (k + 1)), F (bs.drop (k + 1))] = F bs := by
  have h1 : paB F bs = false := any_no h hb
  cases q : F [F (bs.take (k + 1)), F (bs.drop (k + 1))] != F bs with
  | false => exact ne_same q
  | true =>
    have : paB F bs = true := List.any_eq_true.mpr ⟨k, List.mem_range.mpr hk, q⟩
    rw [this] at h1
    cases h1
theorem tv_cut (a b c d e f : Bool) (r : List Bool) : (∀ x, tv (a :: b :: c :: d :: e :: f :: r) [x] = tv [a, b, c, d, e, f] [x]) ∧ ∀ x y, tv (a :: b :: c :: d :: e :: f :: r) [x, y] = tv [a, b, c, d, e, f] [x, y] :=
  ⟨fun x => by cases x <;> rfl, fun x y => by cases x <;> cases y <;> rfl⟩
theorem v_parts {v : List Bool} (hv : v.length = 14) (h : ckB T14 (tv v) 8 = true) : ∃ w ∈ rws 6, v = exP w := by
  obtain ⟨a, b, c, d, e, f, g, i, j, k, l, m, n, o, rfl⟩ := fourteen hv
  obtain ⟨t1, t2⟩ := tv_cut a b c d e f [g, i, j, k, l, m, n, o]
  have key : ∀ x y z : Bool, [x, y, z] ∈ T14 → tv [a, b, c, d, e, f, g, i, j, k, l, m, n, o] [x, y, z] = tv [a, b, c, d, e, f] [tv [a, b, c, d, e, f] [x], tv [a, b, c, d, e, f] [y, z]] := fun x y z hm => by
    have := pa_at h hm (k := 0) (by show 0 < 2; decide)
    have this : tv [a, b, c, d, e, f, g, i, j, k, l, m, n, o] [tv [a, b, c, d, e, f, g, i, j, k, l, m, n, o] [x], tv [a, b, c, d, e, f, g, i, j, k, l, m, n, o] [y, z]] = tv [a, b, c, d, e, f, g, i, j, k, l, m, n, o] [x, y, z] := this
    rw [← this, t2, t1, t2]
  refine ⟨[a, b, c, d, e, f], all_rws _, ?_⟩
  have r3 : rws 3 = [[true, true, true], [true, true, false], [true, false, true], [true, false, false], [false, true, true], [false, true, false], [false, false, true], [false, false, false]] := by decide +kernel
  unfold exP
  rw [r3]
  have k1 : g = _ := key true true true (in14 rfl)
  have k2 : i = _ := key true true false (in14 rfl)
  have k3 : j = _ := key true false true (in14 rfl)
  have k4 : k = _ := key true false false (in14 rfl)
  have k5 : l = _ := key false true true (in14 rfl)
  have k6 : m = _ := key false true false (in14 rfl)
  have k7 : n = _ := key false false true (in14 rfl)
  have k8 : o = _ := key false false false (in14 rfl)
  show [a, b, c, d, e, f, g, i, j, k, l, m, n, o] = [a, b, c, d, e, f, _, _, _, _, _, _, _, _]
  rw [k1, k2, k3, k4, k5, k6, k7, k8]
  rfl
theorem no_even : ∀ w ∈ rws 7, ckB T14 (tv (exE w)) 3 = false ∧ ckB T14 (tv (exE w)) 7 = false := by decide +kernel
theorem no_most : ∀ w ∈ rws 2, ckB T14 (tv (exM w)) 8 = false ∧ ckB T14 (tv (exM w)) 9 = false := by decide +kernel
def allK (v : List Bool) (ps : List Nat) : Bool := ps.all fun p => ckB T14 (tv v) p
theorem no_repeat : ∀ w ∈ rws 6, ([[5, 7], [2, 3, 5], [3, 4, 5]].all fun ps => !allK (exR w) ps) = true := by decide +kernel
theorem no_parts : ∀ w ∈ rws 6, ([[0, 3, 5], [0, 5, 7], [2, 3, 5], [2, 5, 7], [3, 4, 5], [3, 5, 9], [4, 5, 7]].all fun ps => !allK (exP w) ps) = true := by decide +kernel
end C
set_option Elab.async false
set_option linter.all false
set_option maxRecDepth 100000
set_option maxHeartbeats 1000000
namespace C
open PySem PySem.Spec PyProof.Rows L2 DL
variable {Γ : Cfg}
theorem no_clash {v : List Bool} (hv : v.length = 14) : ∀ c ∈ CL, (c.all fun p => ckB T14 (tv v) p) = false := by
  have two : ∀ {a b : Bool}, (a && b) = true → a = true ∧ b = true := fun {a b} h => by simpa using h
  have parts : ∀ ps ∈ [[0, 3, 5], [0, 5, 7], [2, 3, 5], [2, 5, 7], [3, 4, 5], [3, 5, 9], [4, 5, 7]], ckB T14 (tv v) 8 = true → (ps.all fun p => ckB T14 (tv v) p) = false := fun ps hp h => by
    obtain ⟨w, hw, rfl⟩ := v_parts hv h
    have := List.all_eq_true.mp (no_parts w hw) ps hp
    simpa [allK] using this
  have rep : ∀ ps ∈ [[5, 7], [2, 3, 5], [3, 4, 5]], ckB T14 (tv v) 9 = true → (ps.all fun p => ckB T14 (tv v) p) = false := fun ps hp h => by
    obtain ⟨w, hw, rfl⟩ := v_repeat hv h
    have := List.all_eq_true.mp (no_repeat w hw) ps hp
    simpa [allK] using this
  have evn : ckB T14 (tv v) 1 = true → ckB T14 (tv v) 3 = false ∧ ckB T14 (tv v) 7 = false := fun h => by
    obtain ⟨w, hw, rfl⟩ := v_even hv h
    exact no_even w hw
  have mst : ckB T14 (tv v) 6 = true → ckB T14 (tv v) 8 = false ∧ ckB T14 (tv v) 9 = false := fun h => by
    obtain ⟨w, hw, rfl⟩ := v_most hv h
    exact no_most w hw
  have r1 := rep [5, 7] (by decide)
  have r2 := rep [2, 3, 5] (by decide)
  have r3 := rep [3, 4, 5] (by decide)
  have p1 := parts [0, 3, 5] (by decide)
  have p2 := parts [0, 5, 7] (by decide)
  have p3 := parts [2, 3, 5] (by decide)
  have p4 := parts [2, 5, 7] (by decide)
  have p5 := parts [3, 4, 5] (by decide)
  have p6 := parts [3, 5, 9] (by decide)
  have p7 := parts [4, 5, 7] (by decide)
  generalize (ckB T14 (tv v)) = K at *
  intro c hc
  simp only [CL, List.mem_cons, List.not_mem_nil, or_false] at hc
  simp only [List.all_cons, List.all_nil, Bool.and_true] at *
  rcases hc with rfl | rfl | rfl | rfl | rfl | rfl | rfl | rfl | rfl | rfl | rfl | rfl | rfl | rfl <;> simp only [List.all_cons, List.all_nil, Bool.and_true] <;> grind
def pS (p : Nat) : D := .str (pmn p)
def pT (ps : List Nat) : D := .tup (ps.map pS)
theorem pT_eq (ps : List Nat) : pT ps = .tup ((ps.map pmn).map .str) := by unfold pT; rw [List.map_map]; rfl
theorem pmn_in {p : Nat} (h : p < 10) : pmn p ∈ PR := by
  have : ∀ p : Fin 10, pmn p.val ∈ PR := by decide
  exact this ⟨p, h⟩
theorem pmn_inj {p q : Nat} (hp : p < 10) (hq : q < 10) : pmn p = pmn q ↔ p = q := by
  have : ∀ p q : Fin 10, pmn p.val = pmn q.val → p = q := by decide +kernel
  exact ⟨fun h => congrArg Fin.val (this ⟨p, hp⟩ ⟨q, hq⟩ h), fun h => by rw [h]⟩
theorem ok_pmns {ps : List Nat} (h : ∀ p ∈ ps, p < 10) : ∀ z ∈ ps.map pmn, okS z = true := fun z hz => by
  obtain ⟨p, hp, rfl⟩ := List.mem_map.mp hz
  exact okP _ (pmn_in (h p hp))
theorem any_pmn {p : Nat} (hp : p < 10) : ∀ {ps : List Nat}, (∀ p ∈ ps, p < 10) → ((ps.map pmn).any fun z => decide (z = pmn p)) = ps.contains p
  | [], _ => rfl
  | q :: ps, h => by
    rw [List.map_cons, List.any_cons, any_pmn hp fun r hr => h r (List.mem_cons_of_mem _ hr), List.contains_cons]
    congr 1
    rw [Bool.eq_iff_iff, decide_eq_true_eq, beq_iff_eq, pmn_inj (h q (List.mem_cons_self ..)) hp]
    exact ⟨fun e => e.symm, fun e => e.symm⟩
theorem inP {p : Nat} {ps : List Nat} (hp : p < 10) (h : ∀ p ∈ ps, p < 10) : inD (pS p) (pT ps) = some (.bl (ps.contains p)) := by
  rw [pT_eq]
  unfold pS
  rw [inD_tup (okP _ (pmn_in hp)) (ok_pmns h), any_pmn hp h]
theorem holds_all_ok {i : Nat} {ps : List Nat} (hi : i < 13) (h : ∀ p ∈ ps, p < 10) : F_holds_all Γ [.str (nm i), pT ps] = mpure (.bl (ps.all (kI i))) := asP fun z => by
  unfold B_holds_all
  rw [sRet_ev, eStopG_ev, iS_ev, show rho0 3 [D.str (nm i), pT ps] = [some (.val (.str (nm i))), some (.val (pT ps)), none] from rfl, eV_succ, eV_zero, WP_pure, show iterD (pT ps) = some (ps.map pS) from rfl, WP_some]
  rw [if_pos (show ownAt [some (Sl.val (D.str (nm i))), some (Sl.val (pT ps)), none] 2 = false from rfl), all_mapT (tb := fun _ => true) (fb := fun p => kI i p) fun p hp => ?_, WP_pure]
  · refine ⟨congrArg D.bl ?_, rfl⟩
    congr 1
  · refine ⟨rfl, fun _ => WP_pure_of fun z => ?_⟩
    simp only [List.set_cons_succ, List.set_cons_zero, eCall_ev, evs_cons, evs_nil, eV_succ, eV_zero, WP_pure]
    unfold pS
    rw [holds_ok hi (pmn_in (h p hp)), WP_pure]
    exact ⟨rfl, rfl⟩
def KW (ps : List Nat) : List Nat := (List.range 13).filter fun i => ps.all (kI i)
theorem keepers_ok {ps : List Nat} (h : ∀ p ∈ ps, p < 10) : F_keepers Γ [pT ps] = mpure (.tup ((KW ps).map fun i => .str (nm i))) := WP_pure_of fun z => by
  have e : compL 1 (tV (eCall (F_holds_all Γ) [eV 1, eV 0])) (eV 1) ((List.range 13).map fun i => D.str (nm i)) [some (.val (pT ps)), none] = mpure ((KW ps).map fun i => .str (nm i)) :=
    compL_map (tb := fun i => ps.all (kI i)) (fb := fun i => D.str (nm i)) fun i hi => ⟨WP_pure_of fun z => by
      simp only [List.set_cons_succ, List.set_cons_zero, tV_ev, eCall_ev, evs_cons, evs_nil, eV_succ, eV_zero, WP_pure, holds_all_ok (List.mem_range.mp hi) h, asB_bl, WP_some]
      exact ⟨trivial, trivial⟩, fun _ => rfl⟩
  unfold F_keepers B_keepers
  rw [run_ev, sRet_ev, show rho0 2 [pT ps] = [some (.val (pT ps)), none] from rfl, eTupG_ev, iS_ev, eC_ev, WP_pure, show iterD w_WAYS = some ((List.range 13).map fun i => D.str (nm i)) from rfl, WP_some, if_pos ⟨by rw [sizeLine_eq]; simp, rfl⟩, e, WP_pure]
  exact ⟨rfl, rfl⟩
theorem KW_len {ps : List Nat} : decide ((0 : Int) < ((KW ps).length : Int)) = good ps := by
  unfold KW good
  rw [Bool.eq_iff_iff, decide_eq_true_eq, List.any_eq_true]
  constructor
  · intro h
    obtain ⟨i, hi⟩ := List.exists_mem_of_length_pos (show 0 < ((List.range 13).filter fun i => ps.all (kI i)).length by omega)
    exact ⟨i, (List.mem_filter.mp hi).1, (List.mem_filter.mp hi).2⟩
  · rintro ⟨i, h1, h2⟩
    have := List.length_pos_of_mem (List.mem_filter.mpr ⟨h1, h2⟩ : i ∈ (List.range 13).filter fun i => ps.all (kI i))
    omega
theorem KW_eq {ps : List Nat} : decide (((KW ps).length : Int) = 0) = !good ps := by
  rw [← KW_len]
  by_cases h : ((KW ps).length : Int) = 0
  · rw [decide_eq_true h, decide_eq_false (by omega)]; rfl
  · rw [decide_eq_false h, decide_eq_true (by omega)]; rfl
theorem neD_selfS {a : List (List Nat)} (h : ∀ z ∈ a, okS z = true) : neD (.tup (a.map .str)) (.tup (a.map .str)) = some (.bl false) := by
  unfold neD
  rw [(shp_strs h).1, Option.bind_some, Option.bind_some]
  have := eqv_strs a a
  simp only [PyData.eqv, this]
  simp
theorem check_promises_ok (q : Nat → Bool) : F_check_promises Γ [pT ((List.range 10).filter q)] = mpure .non := WP_pure_of fun z => by
  have h := flt_lt q
  have e : compL 1 (tV (e2 (op2 inD) (eV 1) (eV 0))) (eV 1) ((List.range 10).map pS) [some (.val (pT ((List.range 10).filter q))), none] = mpure (((List.range 10).filter q).map pS) := by
    have := compL_map (g := pS) (l := List.range 10) (i := 1) (t := tV (e2 (op2 inD) (eV 1) (eV 0))) (f := eV 1) (ρ := [some (.val (pT ((List.range 10).filter q))), none]) (tb := fun p => ((List.range 10).filter q).contains p) (fb := pS) fun p hp => ⟨WP_pure_of fun z => by
      simp only [List.set_cons_succ, List.set_cons_zero, tV_ev, e2_ev, eV_succ, eV_zero, WP_pure, op2_ev, inP (List.mem_range.mp hp) h, asB_bl, WP_some]
      exact ⟨trivial, trivial⟩, fun _ => rfl⟩
    rw [this]
    congr 2
    refine List.filter_congr fun p hp => ?_
    rw [Bool.eq_iff_iff, List.contains_iff_mem, List.mem_filter]
    exact ⟨fun x => x.2, fun x => ⟨hp, x⟩⟩
  have hn : neD (pT ((List.range 10).filter q)) (.tup (((List.range 10).filter q).map pS)) = some (.bl false) := by
    show neD (pT _) (pT _) = _
    rw [pT_eq]
    exact neD_selfS (ok_pmns h)
  have ht : isiD ["tuple"] (pT ((List.range 10).filter q)) = some (.bl true) := by unfold pT; first | rfl | decide
  unfold F_check_promises B_check_promises
  rw [run_ev, show rho0 2 [pT ((List.range 10).filter q)] = [some (.val (pT ((List.range 10).filter q))), none] from rfl, sSeq_ev, sIf_ev, tNot_ev, tV_ev, e1_ev, eV_zero, WP_pure, op1_ev, ht, WP_some, asB_bl, WP_some, if_neg (by decide), sNil_ev, sIf_ev, tV_ev, e2_ev, eV_zero, WP_pure, eTupG_ev, iS_ev, eC_ev, WP_pure,
    show iterD w_PROMISES = some ((List.range 10).map pS) from rfl, WP_some, if_pos ⟨by rw [sizeLine_eq]; simp, rfl⟩, e, WP_pure, op2_ev, hn, WP_some, asB_bl, WP_some, if_neg (by decide), sNil_ev]
  exact ⟨rfl, rfl⟩
theorem can_hold_ok (q : Nat → Bool) : F_can_hold Γ [pT ((List.range 10).filter q)] = mpure (.bl (good ((List.range 10).filter q))) := WP_pure_of fun z => by
  unfold F_can_hold B_can_hold
  rw [run_ev, show rho0 1 [pT ((List.range 10).filter q)] = [some (.val (pT ((List.range 10).filter q)))] from rfl, sSeq_ev, sEx_ev, eCall_ev, evs_cons, eV_zero, WP_pure, evs_nil, check_promises_ok q, WP_pure, sRet_ev, e2_ev, e1_ev, eCall_ev, evs_cons, eV_zero, WP_pure, evs_nil, keepers_ok (flt_lt q), WP_pure, op1_ev, lenD_tup, WP_some, eC_ev, WP_pure, op2_ev, gtD_int, WP_some, List.length_map, KW_len]
  exact ⟨rfl, rfl⟩
end C
set_option Elab.async false
set_option linter.all false
set_option maxRecDepth 100000
set_option maxHeartbeats 1000000
namespace C
open PySem PySem.Spec PyProof.Rows L2 DL
variable {Γ : Cfg}
theorem eFrzL_ev {ρ : EnD} {z : S} {i : Nat} {ds : List D} {f : EnD → M D} {Q : D → S → Prop} (h : ownL ρ i = some ds) : WP (eFrzL i f ρ) z Q = WP (f (ρ.set i (some (.val (.lst ds))))) z fun r z' => if noL r then Q r z' else False := by
  unfold eFrzL
  rw [h, WP_bind, WP_some, WP_bind]
  congr
  funext r z'
  cases noL r <;> rfl
theorem sForN_ev {ρ : EnD} {z : S} {i : Nat} {xs : EnD → M (List (List D))} {b : SM} {Qn : EnD → S → Prop} {Qr : D → S → Prop} : WS (sForN i xs b ρ z) Qn Qr = WP (xs ρ) z fun l z' => WS (forD i b (l.map .tup) ρ z') Qn Qr := by
  unfold sForN
  rw [ob_ev]
  unfold WP
  cases xs ρ z <;> rfl
theorem any_mapT {α : Type} {i : Nat} {ρ : EnD} {g : α → D} {t : EnD → M Bool} {f : EnD → M D} {tb fb : α → Bool} : ∀ {l : List α}, (∀ x ∈ l, t ((ρ.set i none).set i (some (.val (g x)))) = mpure (tb x) ∧ (tb x = true → f ((ρ.set i none).set i (some (.val (g x)))) = mpure (.bl (fb x)))) → stopL true i t f (l.map g) ρ = mpure (l.any fun x => tb x && fb x)
  | [], _ => rfl
  | x :: l, h => by
    have ih := any_mapT (l := l) fun y hy => h y (List.mem_cons_of_mem _ hy)
    obtain ⟨h1, h2⟩ := h x (List.mem_cons_self ..)
    rw [List.map_cons]
    unfold stopL
    rw [h1, ih]
    funext z
    cases ht : tb x with
    | false => simp [mbind, mne, mpure, ht]
    | true =>
      rw [h2 ht]
      cases hb : fb x <;> simp [mbind, mne, mpure, mopt, asB, hb, ht]
theorem lies_in_ok {f g : List Nat} (hf : ∀ p ∈ f, p < 10) (hg : ∀ p ∈ g, p < 10) : F_lies_in Γ [pT f, pT g] = mpure (.bl (lies f g)) := asP fun z => by
  unfold B_lies_in
  rw [sRet_ev, eStopG_ev, iS_ev, show rho0 3 [pT f, pT g] = [some (.val (pT f)), some (.val (pT g)), none] from rfl, eV_zero, WP_pure, show iterD (pT f) = some (f.map pS) from rfl, WP_some]
  rw [if_pos (show ownAt [some (Sl.val (pT f)), some (Sl.val (pT g)), none] 2 = false from rfl), all_mapT (tb := fun _ => true) (fb := fun p => g.contains p) fun p hp => ?_, WP_pure]
  · refine ⟨congrArg D.bl ?_, rfl⟩
    unfold lies
    congr 1
  · refine ⟨rfl, fun _ => WP_pure_of fun z => ?_⟩
    simp only [List.set_cons_succ, List.set_cons_zero, e2_ev, eV_succ, eV_zero, WP_pure, op2_ev, inP (hf p hp) hg, WP_some]
    exact ⟨trivial, trivial⟩
theorem has_part_ok {g : List Nat} {acc : List (List Nat)} (hg : ∀ p ∈ g, p < 10) (ha : ∀ f ∈ acc, ∀ p ∈ f, p < 10) : F_has_part Γ [pT g, .lst (acc.map pT)] = mpure (.bl (acc.any fun f => lies f g)) := asP fun z => by
  unfold B_has_part
  rw [sRet_ev, eStopG_ev, iS_ev, show rho0 3 [pT g, D.lst (acc.map pT)] = [some (.val (pT g)), some (.val (.lst (acc.map pT))), none] from rfl, eV_succ, eV_zero, WP_pure, iterD_lst, WP_some]
  rw [if_pos (show ownAt [some (Sl.val (pT g)), some (Sl.val (D.lst (acc.map pT))), none] 2 = false from rfl), any_mapT (tb := fun _ => true) (fb := fun f => lies f g) fun f hf => ?_, WP_pure]
  · refine ⟨congrArg D.bl ?_, rfl⟩
    congr 1
  · refine ⟨rfl, fun _ => WP_pure_of fun z => ?_⟩
    simp only [List.set_cons_succ, List.set_cons_zero, eCall_ev, evs_cons, evs_nil, eV_succ, eV_zero, WP_pure, lies_in_ok (ha f hf) hg]
    exact ⟨trivial, trivial⟩
def stp (acc : List (List Nat)) (g : List Nat) : List (List Nat) := if (!good g && !(acc.any fun f => lies f g)) = true then acc ++ [g] else acc
theorem stp_len (acc : List (List Nat)) (g : List Nat) : (stp acc g).length ≤ acc.length + 1 := by
  unfold stp
  split
  · simp
  · omega
theorem stp_lt {acc : List (List Nat)} {g : List Nat} (ha : ∀ f ∈ acc, ∀ p ∈ f, p < 10) (hg : ∀ p ∈ g, p < 10) : ∀ f ∈ stp acc g, ∀ p ∈ f, p < 10 := by
  unfold stp
  split
  · intro f hf
    rw [List.mem_append, List.mem_singleton] at hf
    rcases hf with hf | rfl
    · exact ha f hf
    · exact hg
  · exact ha
theorem find_in {wd : D} {ns : D} {sz : Option Sl} {z : S} {Qr : D → S → Prop} : ∀ (gs : List (List Nat)) (acc : List (List Nat)) (x4 : Option D), acc.length + gs.length ≤ 100000 → (∀ g ∈ gs, ∀ p ∈ g, p < 10) → (∀ f ∈ acc, ∀ p ∈ f, p < 10) →
    WS (forD 4 (sIf (tAnd (tV (e2 (op2 eqD) (e1 (op1 lenD) (eCall (F_keepers Γ) [eV 4])) (eC (.int (0))))) (tNot (tV (eFrzL 2 (eCall (F_has_part Γ) [eV 4, eV 2]))))) (sAppO 2 (eV 4)) (sNil)) (gs.map pT) [some (.val wd), some (.val ns), some (.own (.lst (acc.map pT))), sz, x4.map .val] z)
      (fun ρ z' => z' = z ∧ ∃ o : Option D, ρ = [some (.val wd), some (.val ns), some (.own (.lst ((gs.foldl stp acc).map pT))), sz, o.map .val]) Qr
  | [], acc, x4, _, _, _ => ⟨rfl, x4, rfl⟩
  | g :: gs, acc, x4, hl, hg, ha => by
    rw [List.length_cons] at hl
    have h0 := hg g (List.mem_cons_self ..)
    have h1 : ∀ f ∈ gs, ∀ p ∈ f, p < 10 := fun f q => hg f (List.mem_cons_of_mem _ q)
    have nl : ∀ b, noL (.bl b) = true := fun b => rfl
    rw [List.map_cons]
    refine forD_cons (by cases x4 <;> rfl) ?_
    rw [List.foldl_cons]
    simp only [List.set_cons_succ, List.set_cons_zero]
    rw [sIf_ev, tAnd_ev, tV_ev, e2_ev, e1_ev, eCall_ev, evs_cons, eV_succ, eV_succ, eV_succ, eV_succ, eV_zero, WP_pure, evs_nil, keepers_ok h0, WP_pure, op1_ev, lenD_tup, WP_some, eC_ev, WP_pure, op2_ev, eqD_int, WP_some, asB_bl, WP_some, List.length_map, KW_eq]
    cases e : good g with
    | true =>
      rw [if_neg (by decide), if_neg (by decide), sNil_ev]
      have es : stp acc g = acc := by unfold stp; rw [e]; rfl
      rw [es]
      exact find_in gs acc (some (pT g)) (by omega) h1 ha
    | false =>
      rw [if_pos (by rfl), tNot_ev, tV_ev, eFrzL_ev (ds := acc.map pT) rfl]
      simp only [List.set_cons_succ, List.set_cons_zero]
      rw [eCall_ev, evs_cons, eV_succ, eV_succ, eV_succ, eV_succ, eV_zero, WP_pure, evs_cons, eV_succ, eV_succ, eV_zero, WP_pure, evs_nil, has_part_ok h0 ha, WP_pure, nl, if_pos rfl, asB_bl, WP_some]
      cases ep : acc.any fun f => lies f g with
      | true =>
        have es : stp acc g = acc := by unfold stp; rw [e, ep]; rfl
        rw [if_neg (by decide), sNil_ev, es]
        exact find_in gs acc (some (pT g)) (by omega) h1 ha
      | false =>
        have es : stp acc g = acc ++ [g] := by unfold stp; rw [e, ep]; rfl
        rw [if_pos (by rfl), sAppO_ev (ds := acc.map pT) rfl, eV_succ, eV_succ, eV_succ, eV_succ, eV_zero, WP_pure, if_pos (by rw [List.length_map]; omega)]
        simp only [List.set_cons_succ, List.set_cons_zero]
        have ih := find_in (wd := wd) (ns := ns) (sz := sz) (z := z) (Qr := Qr) gs (acc ++ [g]) (some (pT g)) (by rw [List.length_append]; show acc.length + 1 + _ ≤ _; omega) h1 (by rw [← es]; exact stp_lt ha h0)
        rw [List.map_append] at ih
        rw [es]
        exact ih
theorem cmb_sub {r : Nat} : ∀ {ps g : List Nat}, g ∈ cmb r ps → ∀ p ∈ g, p ∈ ps := by
  induction r with
  | zero =>
    intro ps g h p hp
    have h : g ∈ [([] : List Nat)] := by cases ps <;> exact h
    rw [List.mem_singleton.mp h] at hp
    cases hp
  | succ r ih =>
    intro ps
    induction ps with
    | nil => intro g h; cases h
    | cons x xs ih2 =>
      intro g h p hp
      unfold cmb at h
      rcases List.mem_append.mp h with h | h
      · obtain ⟨g', h1, rfl⟩ := List.mem_map.mp h
        rcases List.mem_cons.mp hp with rfl | hp
        · exact List.mem_cons_self ..
        · exact List.mem_cons_of_mem _ (ih h1 p hp)
      · exact List.mem_cons_of_mem _ (ih2 h p hp)
theorem cmb_len {α : Type} : ∀ (xs : List α) (r : Nat), (cmb r xs).length ≤ 2 ^ xs.length
  | [], 0 => by simp [cmb]
  | [], r + 1 => by simp [cmb]
  | x :: xs, 0 => by simp [cmb]; exact Nat.one_le_two_pow
  | x :: xs, r + 1 => by
    unfold cmb
    rw [List.length_append, List.length_map, List.length_cons, Nat.pow_succ]
    have := cmb_len xs r
    have := cmb_len xs (r + 1)
    omega
def LCs (ps : List Nat) (n : Nat) (acc : List (List Nat)) : List (List Nat) := (List.range n).foldl (fun acc s => (cmb (s + 1) ps).foldl stp acc) acc
def LC (ps : List Nat) : List (List Nat) := LCs ps ps.length []
theorem fold_len (gs : List (List Nat)) : ∀ acc, (gs.foldl stp acc).length ≤ acc.length + gs.length := by
  induction gs with
  | nil => intro acc; simp
  | cons g gs ih =>
    intro acc
    rw [List.foldl_cons, List.length_cons]
    have := ih (stp acc g)
    have := stp_len acc g
    omega
theorem fold_lt : ∀ (gs acc : List (List Nat)), (∀ g ∈ gs, ∀ p ∈ g, p < 10) → (∀ f ∈ acc, ∀ p ∈ f, p < 10) → ∀ f ∈ gs.foldl stp acc, ∀ p ∈ f, p < 10
  | [], acc, _, ha => ha
  | g :: gs, acc, hg, ha => by
    rw [List.foldl_cons]
    exact fold_lt gs _ (fun f q => hg f (List.mem_cons_of_mem _ q)) (stp_lt ha (hg g (List.mem_cons_self ..)))
theorem LCs_succ (ps : List Nat) (n : Nat) (acc : List (List Nat)) : LCs ps (n + 1) acc = (cmb (n + 1) ps).foldl stp (LCs ps n acc) := by
  unfold LCs
  rw [List.range_succ, List.foldl_append]
  rfl
theorem iCmb_ev {ρ : EnD} {z : S} {fa fb : EnD → M D} {Q : List (List D) → S → Prop} : WP (iCmb fa fb ρ) z Q = WP (fa ρ) z fun d z1 => WP (fb ρ) z1 fun e z2 => WP (mopt (cmbD d e)) z2 Q := by
  unfold iCmb
  rw [WP_bind]
  congr
  funext d z1
  rw [WP_bind]
theorem find_out {ps : List Nat} {wd : D} {z : S} {Qr : D → S → Prop} (hp : ∀ p ∈ ps, p < 10) (hl : ps.length ≤ 10) : ∀ (m n : Nat) (x3 x4 : Option D), n + m = ps.length → (LCs ps n []).length ≤ n * 1024 → (∀ f ∈ LCs ps n [], ∀ p ∈ f, p < 10) →
    WS (forD 3 (sForN 4 (iCmb (eV 1) (eV 3)) (sIf (tAnd (tV (e2 (op2 eqD) (e1 (op1 lenD) (eCall (F_keepers Γ) [eV 4])) (eC (.int (0))))) (tNot (tV (eFrzL 2 (eCall (F_has_part Γ) [eV 4, eV 2]))))) (sAppO 2 (eV 4)) (sNil))) ((List.range m).map fun (k : Nat) => D.int (1 + ((n + k : Nat) : Int))) [some (.val wd), some (.val (.lst (ps.map pS))), some (.own (.lst ((LCs ps n []).map pT))), x3.map .val, x4.map .val] z)
      (fun ρ z' => z' = z ∧ ∃ o3 o4 : Option D, ρ = [some (.val wd), some (.val (.lst (ps.map pS))), some (.own (.lst ((LC ps).map pT))), o3.map .val, o4.map .val]) Qr
  | 0, n, x3, x4, hn, _, _ => by
    have : n = ps.length := by omega
    subst this
    exact ⟨rfl, x3, x4, rfl⟩
  | m + 1, n, x3, x4, hn, h1, h2 => by
    rw [List.range_succ_eq_map, List.map_cons, List.map_map]
    refine forD_cons (by cases x3 <;> rfl) ?_
    simp only [List.set_cons_succ, List.set_cons_zero]
    have ec : cmbD (.lst (ps.map pS)) (.int (1 + ((n + 0 : Nat) : Int))) = some ((cmb (n + 1) ps).map fun g => g.map pS) := by
      unfold cmbD
      dsimp only
      rw [if_pos ⟨by omega, by omega, by rw [List.length_map]; exact hl⟩, cmb_map, show (1 + ((n + 0 : Nat) : Int)).toNat = n + 1 by omega]
    have hg : ∀ g ∈ cmb (n + 1) ps, ∀ p ∈ g, p < 10 := fun g h p hpg => hp p (cmb_sub h p hpg)
    have cl : (cmb (n + 1) ps).length ≤ 1024 := Nat.le_trans (cmb_len ps (n + 1)) (Nat.le_trans (Nat.pow_le_pow_right (by decide) hl) (by decide))
    rw [sForN_ev, iCmb_ev, eV_succ, eV_zero, WP_pure, eV_succ, eV_succ, eV_succ, eV_zero, WP_pure, ec, WP_some, List.map_map]
    refine WS_mono (find_in (cmb (n + 1) ps) (LCs ps n []) x4 (by omega) hg h2) fun ρ z' ⟨ez, o, e⟩ => ?_
    subst ez e
    rw [← LCs_succ]
    have fl := fold_len (cmb (n + 1) ps) (LCs ps n [])
    have ih := find_out (wd := wd) (z := z') (Qr := Qr) hp hl m (n + 1) (some (.int (1 + ((n + 0 : Nat) : Int)))) o (by omega) (by rw [LCs_succ]; omega) (by rw [LCs_succ]; exact fold_lt _ _ hg h2)
    have em : ((List.range m).map fun (k : Nat) => D.int (1 + ((n + 1 + k : Nat) : Int))) = (List.range m).map ((fun (k : Nat) => D.int (1 + ((n + k : Nat) : Int))) ∘ Nat.succ) := List.map_congr_left fun k _ => by
      show _ = D.int _
      congr 3
      omega
    rw [em] at ih
    exact ih
theorem least_ok {ps : List Nat} (hp : ∀ p ∈ ps, p < 10) (hl : ps.length ≤ 10) : F_least_clashes_in Γ [pT ps] = mpure (.tup ((LC ps).map pT)) := WP_pure_of fun z => by
  have el : listD (pT ps) = some (.lst (ps.map pS)) := rfl
  unfold F_least_clashes_in B_least_clashes_in
  rw [run_ev, show rho0 5 [pT ps] = [some (.val (pT ps)), none, none, none, none] from rfl, sSeq_ev, sSet_ev, e1_ev, eV_zero, WP_pure, op1_ev, el, WP_some, if_neg (by simp [ownAt_succ])]
  simp only [List.set_cons_succ, List.set_cons_zero]
  rw [sSeq_ev, sUn_ev, unO_succ, unO_succ, unO_none, sSeq_ev, sNewL_ev, if_pos ⟨rfl, by simp⟩]
  simp only [List.set_cons_succ, List.set_cons_zero]
  rw [sSeq_ev, sFor_ev, iR2_ev, eC_ev, WP_pure, asI_int, WP_some, e2_ev, e1_ev, eV_succ, eV_zero, WP_pure, op1_ev, lenD_lst, WP_some, eC_ev, WP_pure, op2_ev, addD_int, WP_some, asI_int, WP_some, List.length_map, if_pos (by omega)]
  have er : rangeD 1 (((ps.length : Int) + 1) - 1).toNat = (List.range ps.length).map fun (k : Nat) => D.int (1 + ((0 + k : Nat) : Int)) := by
    unfold rangeD
    rw [show (((ps.length : Int) + 1) - 1).toNat = ps.length by omega]
    refine List.map_congr_left fun k _ => ?_
    rw [Nat.zero_add]
  rw [er]
  refine WS_mono (find_out (wd := pT ps) (z := z) hp hl ps.length 0 none none (by omega) (by simp [LCs]) (by simp [LCs])) fun ρ z' ⟨ez, o3, o4, e⟩ => ?_
  subst ez e
  rw [sSeq_ev, sUn_ev, unO_succ, unO_succ, unO_own, sRet_ev, e1_ev, eV_succ, eV_succ, eV_zero, WP_pure, op1_ev, tupD_lst, WP_some]
  exact ⟨rfl, rfl⟩
theorem good_sub {ps g : List Nat} (h : good ps = true) (hs : ∀ p ∈ g, p ∈ ps) : good g = true := by
  unfold good at h ⊢
  obtain ⟨i, hi, ha⟩ := List.any_eq_true.mp h
  exact List.any_eq_true.mpr ⟨i, hi, List.all_eq_true.mpr fun p hp => List.all_eq_true.mp ha p (hs p hp)⟩
theorem fold_good : ∀ (gs : List (List Nat)), (∀ g ∈ gs, good g = true) → gs.foldl stp [] = []
  | [], _ => rfl
  | g :: gs, h => by
    rw [List.foldl_cons, show stp [] g = [] by unfold stp; rw [h g (List.mem_cons_self ..)]; rfl]
    exact fold_good gs fun f q => h f (List.mem_cons_of_mem _ q)
theorem LC_good {ps : List Nat} (h : good ps = true) : LC ps = [] := by
  unfold LC
  generalize ps.length = n
  induction n with
  | zero => rfl
  | succ n ih => rw [LCs_succ, ih]; exact fold_good _ fun g hg => good_sub h (cmb_sub hg)
theorem flt_len (q : Nat → Bool) : ((List.range 10).filter q).length ≤ 10 := Nat.le_trans (List.length_filter_le ..) (by simp)
theorem clashes_ok (q : Nat → Bool) : F_clashes Γ [pT ((List.range 10).filter q)] = mpure (.tup ((LC ((List.range 10).filter q)).map pT)) := WP_pure_of fun z => by
  unfold F_clashes B_clashes
  rw [run_ev, show rho0 1 [pT ((List.range 10).filter q)] = [some (.val (pT ((List.range 10).filter q)))] from rfl, sSeq_ev, sEx_ev, eCall_ev, evs_cons, eV_zero, WP_pure, evs_nil, check_promises_ok q, WP_pure, sRet_ev, eCall_ev, evs_cons, eV_zero, WP_pure, evs_nil, least_ok (flt_lt q) (flt_len q), WP_pure]
  exact ⟨rfl, rfl⟩
/-- what any table keeps can be kept -/
theorem kept_good {v : List Bool} (hv : v.length = 14) : good ((List.range 10).filter fun p => ckB T14 (tv v) p) = true := by
  refine good_cl _ fun c hc => ?_
  have h := no_clash hv c hc
  cases e : lies c ((List.range 10).filter fun p => ckB T14 (tv v) p) with
  | false => rfl
  | true =>
    exfalso
    rw [List.all_eq_true.mpr fun p hp => ?_] at h
    · cases h
    · have := List.all_eq_true.mp e p hp
      exact (List.mem_filter.mp (List.contains_iff_mem.mp this)).2
end C
set_option Elab.async false
set_option linter.all false
set_option maxRecDepth 100000
set_option maxHeartbeats 1000000
namespace K05
open PySem PySem.Spec PyProof.Rows L2 DL C
theorem own_table {Γ : Cfg} {z : S} (g : Good z) : WS (A_law_table Γ (rho0 6 [.row]) z) (fun ρ z' => ∃ es, ownD ρ 1 = some es ∧ (∃ F : List Bool → Bool, es = tab (fT F) T14) ∧ Good z') (fun _ _ => False) := by
  unfold A_law_table
  rw [show rho0 6 [D.row] = [some (.val .row), none, none, none, none, none] from rfl]
  simp only [sSeq_ev, sNewP_ev, eCall_ev, evs_cons, evs_nil, eV_succ, eV_zero, WP_pure, lways_ok]
  refine WP_mono (pick_ok g (by simp [W]) (by simp [W])) fun d z1 ⟨hd, g1⟩ => ?_
  obtain ⟨w, hw, rfl⟩ := List.mem_map.mp hd
  obtain ⟨i, hi, rfl⟩ := inW w hw
  rw [if_pos (by refine ⟨rfl, by decide, rfl, by decide⟩)]
  simp only [List.set_cons_succ, List.set_cons_zero, sSet_ev, eCall_ev, evs_cons, evs_nil, eV_succ, eV_zero, eC_ev, WP_pure]
  refine WP_mono (taken_ok g1 (by omega) (by omega)) fun d z2 ⟨k, e, k0, k1, g2⟩ => ?_
  subst e
  have it : iterD (.lst (T14.map strT)) = some (T14.map strT) := rfl
  simp only [List.set_cons_succ, List.set_cons_zero, ownAt_succ, ownAt_zn, Bool.false_eq_true, if_false, sFor_ev, iS_ev, eCall_ev, evs_cons, evs_nil, eC_ev, WP_pure, short_ok, it, WP_some]
  refine WS_mono (table_loop hi T14 [] (fun _ => true) none z2 g2 T14_nodup T14_in (by rw [T14_len]; decide)) fun ρ z3 ⟨g3, F, o, eρ⟩ => ?_
  subst eρ
  rw [List.nil_append]
  have ow : ∀ (o : Option D) (r : EnD), ownAt (o.map Sl.val :: r) 0 = false := fun o r => by cases o <;> rfl
  simp only [sSet_ev, eCall_ev, evs_cons, evs_nil, eV_succ, eV_zero, eC_ev, WP_pure, short_ok]
  refine WP_mono (pick_ok g3 (fun e => by have := congrArg List.length e; rw [List.length_map, T14_len] at this; cases this) (by rw [List.length_map, T14_len]; decide)) fun d z4 ⟨hd, g4⟩ => ?_
  obtain ⟨sp, hs, rfl⟩ := List.mem_map.mp hd
  simp only [ownAt_succ, ownAt_zn, Bool.false_eq_true, if_false, List.set_cons_succ, List.set_cons_zero]
  have hlt : (tab (fT F) T14).length < 100000 := by rw [tab_len, T14_len]; decide
  have eg := tab_get (f := fT F) hs
  have fin : ∀ c : Bool, tab (fun b => if b = sp then D.str [sg c] else fT F b) T14 = tab (fT fun b => if b = sp then c else F b) T14 := fun c => tab_cong fun b _ => by
    show (if b = sp then D.str [sg c] else D.str [sg (F b)]) = D.str [sg (if b = sp then c else F b)]
    by_cases q : b = sp
    · rw [if_pos q, if_pos q]
    · rw [if_neg q, if_neg q]
  rw [sPutO_ev (es := tab (fT F) T14) rfl, eFrz_ev (es := tab (fT F) T14) rfl]
  simp only [List.set_cons_succ, List.set_cons_zero, eIf_ev, tV_ev, e2_ev, eV_succ, eV_zero, eC_ev, WP_pure, op2_ev, eqD_int, WP_some, asB_bl]
  by_cases ck : k = 1
  · rw [if_pos (by simpa using ck)]
    simp only [eCall_ev, evs_cons, evs_nil, e2_ev, eV_succ, eV_zero, WP_pure, op2_ev, strT, ixA_dS, eg, WP_some, fT, lturn1_ok, noS, if_true, asS_str, if_pos hlt]
    simp only [List.set_cons_succ, List.set_cons_zero, sNil_ev]
    exact ⟨_, rfl, ⟨_, by rw [tab_upd hs, ← fin]⟩, g4⟩
  · rw [if_neg (by simpa using ck)]
    simp only [e2_ev, eV_succ, eV_zero, WP_pure, op2_ev, strT, ixA_dS, eg, WP_some, fT, noS, if_true, asS_str]
    rw [if_pos hlt]
    simp only [List.set_cons_succ, List.set_cons_zero, sNil_ev]
    exact ⟨_, rfl, ⟨_, by rw [tab_upd hs, ← fin]⟩, g4⟩
theorem sCallO_ev {ρ : EnD} {z z1 : S} {i N j : Nat} {A : SM} {fs : List (EnD → M D)} {ds : List D} {P : List (List Nat × D) → S → Prop} {Qn : EnD → S → Prop} {Qr : D → S → Prop} (he : evs fs ρ z = .ok ds z1)
    (hA : WS (A (rho0 N ds) z1) (fun ρ' z' => ∃ es, ownD ρ' j = some es ∧ P es z') (fun _ _ => False)) (ho : ownAt ρ i = false) (hi : i < ρ.length) (h : ∀ es z', P es z' → Qn (ρ.set i (some (.own (.dS es)))) z') : WS (sCallO i A N j fs ρ z) Qn Qr := by
  unfold sCallO
  rw [he]
  dsimp only
  unfold WS at hA
  cases e : A (rho0 N ds) z1 with
  | nx ρ' z' =>
    rw [e] at hA
    obtain ⟨es, h1, h2⟩ := hA
    dsimp only
    rw [h1]
    dsimp only
    rw [if_pos ⟨ho, hi⟩]
    exact h es z' h2
  | rt d z' => rw [e] at hA; exact hA.elim
  | bk ρ z' => rw [e] at hA; exact hA.elim
  | ct ρ z' => rw [e] at hA; exact hA.elim
  | exc x z' => rw [e] at hA; exact hA.elim
  | bad => rw [e] at hA; exact hA.elim
/-- amid a turn -/
def PI2 (a c : Option D) (ρ : EnD) (z : S) : Prop := Good z ∧ ∃ (F : List Bool → Bool) (b : Option D), ρ = [none, some (.val .row), a.map .val, some (.own (.dS (tab (fT F) T14))), b.map .val, c.map .val, none]
theorem rows3 : ∀ bs ∈ rws 3, bs ∈ T14 ∧ bs.take 2 ∈ T14 ∧ bs.drop 2 ∈ T14 := by decide +kernel
theorem two14 (x y : Bool) : [x, y] ∈ T14 := by cases x <;> cases y <;> decide +kernel
theorem turnT {Γ : Cfg} {a c : Option D} {ρ : EnD} {z : S} {Qr : D → S → Prop} (h : PI2 a c ρ z) :
    WS (sFor 4 (iS (eCall (F_law_rows Γ) [eC (.int (3))])) (sPutO 3 (eV 4) (eFrz 3 (eIf (tV (e2 (op2 eqD) (eCall (F_law_taken Γ) [eV 1, eC (.int (2))]) (eC (.int (0))))) (e2 (op2 ixA) (eV 3) (e2 (op2 addD) (e2 (op2 ixA) (eV 3) (eSl (eV 4) pNo (pSo (eC (.int (2)))))) (e2 (op2 ixA) (eV 3) (eSl (eV 4) (pSo (eC (.int (2)))) pNo)))) (e2 (op2 ixA) (eV 3) (eV 4))))) ρ z) (PI2 a c) Qr := by
  have hr : F_law_rows Γ [.int 3] = mpure (.lst ((rws 3).map strT)) := rows_ok (by decide) (by decide)
  rw [sFor_ev, iS_ev, eCall_ev, evs_cons, eC_ev, WP_pure, evs_nil, hr, WP_pure, iterD_lst, WP_some]
  refine for_keep (fun ρ z ⟨_, F, b, e⟩ => by subst e; cases b <;> rfl) (fun d hd ρ z ⟨g, F, b, e⟩ => ?_) h
  obtain ⟨bs, hb, rfl⟩ := List.mem_map.mp hd
  obtain ⟨m1, m2, m3⟩ := rows3 bs hb
  have hl := rws_mem hb
  subst e
  simp only [List.set_cons_succ, List.set_cons_zero]
  have hlt : (tab (fT F) T14).length < 100000 := by rw [tab_len, T14_len]; decide
  have e1 := tab_get (f := fT F) m1
  have e2 := tab_get (f := fT F) m2
  have e3 := tab_get (f := fT F) m3
  have e4 := tab_get (f := fT F) (two14 (F (bs.take 2)) (F (bs.drop 2)))
  have c1 : slD (.str (txt bs)) none (some (2 : Int)) = some (.str (txt (bs.take 2))) := by rw [sl_txt (by omega), show (2 : Int) = ((2 : Nat) : Int) from rfl, tcut_hi]
  have c2 : slD (.str (txt bs)) (some (2 : Int)) none = some (.str (txt (bs.drop 2))) := by rw [sl_txt (by omega), show (2 : Int) = ((2 : Nat) : Int) from rfl, tcut_lo]
  have ad : addD (.str [sg (F (bs.take 2))]) (.str [sg (F (bs.drop 2))]) = some (.str (txt [F (bs.take 2), F (bs.drop 2)])) := add_txt (a := [F (bs.take 2)]) (b := [F (bs.drop 2)]) (by show 1 + 1 ≤ 1000; decide)
  have fin : ∀ (v : Bool) (z' : S), Good z' → PI2 a c [none, some (.val .row), a.map .val, some (.own (.dS (putS (tab (fT F) T14) (txt bs) (.str [sg v])))), some (.val (strT bs)), c.map .val, none] z' := fun v z' g' => by
    refine ⟨g', fun b => if b = bs then v else F b, some (strT bs), ?_⟩
    rw [tab_upd m1]
    congr 5
    congr 2
    refine tab_cong fun b _ => ?_
    show (if b = bs then D.str [sg v] else D.str [sg (F b)]) = D.str [sg (if b = bs then v else F b)]
    by_cases q : b = bs
    · rw [if_pos q, if_pos q]
    · rw [if_neg q, if_neg q]
  rw [sPutO_ev (es := tab (fT F) T14) rfl, eFrz_ev (es := tab (fT F) T14) rfl]
  simp only [List.set_cons_succ, List.set_cons_zero]
  rw [eIf_ev, tV_ev, e2_ev, eCall_ev, evs_cons, eV_succ, eV_zero, WP_pure, evs_cons, eC_ev, WP_pure, evs_nil]
  refine WP_mono (taken_ok g (by omega) (by omega)) fun d z2 ⟨k, e, k0, k1, g2⟩ => ?_
  subst e
  rw [eC_ev, WP_pure, op2_ev, eqD_int, WP_some, asB_bl, WP_some]
  by_cases ck : k = 0
  · rw [if_pos (by simpa using ck)]
    simp only [e2_ev, eV_succ, eV_zero, WP_pure, eSl_ev, pNo_ev, pSo_ev, eC_ev, asI_int, Option.map_some, WP_some, strT, c1, c2, op2_ev, ixA_dS, e2, e3, fT, ad, e4, noS, if_true, asS_str]
    rw [if_pos hlt]
    exact fin _ _ g2
  · rw [if_neg (by simpa using ck)]
    simp only [e2_ev, eV_succ, eV_zero, WP_pure, op2_ev, strT, ixA_dS, e1, WP_some, fT, noS, if_true, asS_str]
    rw [if_pos hlt]
    exact fin _ _ g2
theorem noS_pT : ∀ ps : List Nat, noSs (ps.map pS) = true
  | [] => rfl
  | p :: ps => by
    rw [List.map_cons]
    unfold noSs
    rw [noS_pT ps]
    rfl
def PO2 (ρ : EnD) (z : S) : Prop := Good z ∧ ∃ (a b c : Option D) (t : Option (List (List Nat × D))), ρ = [none, some (.val .row), a.map .val, t.map (fun es => .own (.dS es)), b.map .val, c.map .val, none]
theorem endT {Γ : Cfg} {a c : Option D} {ρ : EnD} {z : S} {Qr : D → S → Prop} (h : PI2 a c ρ z) :
    WS (sSeq (sSet 5 (eFrz 3 (e1 (op1 tupD) (eLc 6 (iS (eCall (F_law_promises Γ) [])) (tV (eCall (F_law_fine Γ) [eV 3, eV 6, eC (.int (3))])) (eV 6)))))
    (sIf (tOr (tV (e2 (op2 isNotD) (eCall (F_can_hold Γ) [eV 5]) (eC (.bl true)))) (tV (e2 (op2 neD) (eCall (F_clashes Γ) [eV 5]) (eTup [])))) (sRet (eC (.bl false))) (sNil)) ρ z) PO2 Qr := by
  obtain ⟨g, F0, b, e⟩ := h
  subst e
  obtain ⟨v, hv, eF⟩ : ∃ v : List Bool, v.length = 14 ∧ tab (fT F0) T14 = tab (fT (tv v)) T14 := ⟨T14.map F0, by rw [List.length_map, T14_len], tab_cong fun bs hb => by
    show D.str _ = D.str _
    rw [T14_tv F0 bs hb]⟩
  rw [eF]
  have hk := kept_good hv
  generalize tv v = F at hk ⊢
  have e : compL 6 (tV (eCall (F_law_fine Γ) [eV 3, eV 6, eC (.int (3))])) (eV 6) ((List.range 10).map pS) [none, some (.val .row), a.map .val, some (.val (.dS (tab (fT F) T14))), b.map .val, c.map .val, none] = mpure (((List.range 10).filter fun p => ckB T14 F p).map pS) :=
    compL_map (tb := fun p => ckB T14 F p) (fb := pS) fun p hp => by
      have hp : p < 10 := List.mem_range.mp hp
      have hf := fine_ok (Γ := Γ) (m := 3) T14_R (by decide) (told_tab (F := F) (R := T14)) short_ok (by rw [T14_len]; decide) p hp
      have hs := same_ok (F := F) T14_R (by rw [T14_len]; decide) p hp
      rw [show ((3 : Nat) : Int) = 3 from rfl] at hf
      refine ⟨WP_pure_of fun z => ?_, fun _ => rfl⟩
      simp only [List.set_cons_succ, List.set_cons_zero]
      unfold pS
      rw [tV_ev, eCall_ev, evs_cons, eV_succ, eV_succ, eV_succ, eV_zero, WP_pure, evs_cons, eV_succ, eV_succ, eV_succ, eV_succ, eV_succ, eV_succ, eV_zero, WP_pure, evs_cons, eC_ev, WP_pure, evs_nil, hf, WP_pure, asB_bl, WP_some, hs]
      exact ⟨rfl, rfl⟩
  have hn : noS (.tup (((List.range 10).filter fun p => ckB T14 F p).map pS)) = true := by unfold noS; exact noS_pT _
  have hl : F_law_promises Γ [] = mpure (.lst ((List.range 10).map pS)) := lproms_ok
  have e0 : isNotD (.bl true) (.bl true) = some (.bl false) := by first | rfl | decide
  have e9 : neD (.tup []) (.tup []) = some (.bl false) := by first | rfl | decide
  rw [sSeq_ev, sSet_ev, eFrz_ev (es := tab (fT F) T14) rfl]
  simp only [List.set_cons_succ, List.set_cons_zero]
  rw [e1_ev, eLc_ev, iS_ev, eCall_ev, evs_nil, hl, WP_pure, iterD_lst, WP_some, if_pos ⟨by rw [sizeLine_eq]; simp, by simp [ownAt_succ]⟩, e, WP_pure, op1_ev, tupD_lst, WP_some, hn, if_pos rfl, if_neg (by cases c <;> simp [ownAt_succ] <;> rfl)]
  try simp only [List.set_cons_succ, List.set_cons_zero]
  have hc := can_hold_ok (Γ := Γ) fun p => ckB T14 F p
  have hcl := clashes_ok (Γ := Γ) fun p => ckB T14 F p
  rw [LC_good hk] at hcl
  rw [hk] at hc
  unfold pT at hc hcl
  rw [sIf_ev, tOr_ev, tV_ev, e2_ev, eCall_ev, evs_cons, eV_succ, eV_succ, eV_succ, eV_succ, eV_succ, eV_zero, WP_pure, evs_nil, hc, WP_pure, eC_ev, WP_pure, op2_ev, e0, WP_some, asB_bl, WP_some, if_neg (by decide), tV_ev, e2_ev, eCall_ev, evs_cons, eV_succ, eV_succ, eV_succ, eV_succ, eV_succ, eV_zero, WP_pure, evs_nil, hcl, WP_pure, eTup_ev, evs_nil, op2_ev, List.map_nil, e9, WP_some, asB_bl, WP_some, if_neg (by decide), sNil_ev]
  exact ⟨g, a, b, some _, some _, rfl⟩
theorem loopT {Γ : Cfg} {z : S} {Qr : D → S → Prop} {ρ : EnD} (h : PO2 ρ z) : WS (sFor 2 (iR1 (eC (.int (8)))) (sSeq (sUn 3)
    (sSeq (sCallO 3 (A_law_table Γ) 6 1 [eV 1])
    (sSeq (sIf (tV (e2 (op2 eqD) (eCall (F_law_taken Γ) [eV 1, eC (.int (2))]) (eC (.int (0))))) (sFor 4 (iS (eCall (F_law_rows Γ) [eC (.int (3))])) (sPutO 3 (eV 4) (eFrz 3 (eIf (tV (e2 (op2 eqD) (eCall (F_law_taken Γ) [eV 1, eC (.int (2))]) (eC (.int (0))))) (e2 (op2 ixA) (eV 3) (e2 (op2 addD) (e2 (op2 ixA) (eV 3) (eSl (eV 4) pNo (pSo (eC (.int (2)))))) (e2 (op2 ixA) (eV 3) (eSl (eV 4) (pSo (eC (.int (2)))) pNo)))) (e2 (op2 ixA) (eV 3) (eV 4)))))) (sNil))
    (sSeq (sSet 5 (eFrz 3 (e1 (op1 tupD) (eLc 6 (iS (eCall (F_law_promises Γ) [])) (tV (eCall (F_law_fine Γ) [eV 3, eV 6, eC (.int (3))])) (eV 6)))))
    (sIf (tOr (tV (e2 (op2 isNotD) (eCall (F_can_hold Γ) [eV 5]) (eC (.bl true)))) (tV (e2 (op2 neD) (eCall (F_clashes Γ) [eV 5]) (eTup [])))) (sRet (eC (.bl false))) (sNil)))))) ρ z) PO2 Qr := by
  rw [sFor_ev, iR1_ev, eC_ev, WP_pure, asI_int, WP_some, if_pos (by decide)]
  refine for_keep (fun ρ z ⟨_, a, b, c, t, e⟩ => by subst e; cases a <;> rfl) (fun d hd ρ z ⟨g, a, b, c, t, e⟩ => ?_) h
  subst e
  simp only [List.set_cons_succ, List.set_cons_zero]
  rw [sSeq_ev, sUn_ev, unO_succ, unO_succ, unO_succ]
  have eu : unO 0 (t.map (fun es => Sl.own (.dS es)) :: [b.map .val, c.map .val, none]) = (t.map D.dS).map Sl.val :: [b.map .val, c.map .val, none] := by cases t <;> rfl
  rw [eu, sSeq_ev]
  refine sCallO_ev (ds := [.row]) (z1 := z) (P := fun es z' => (∃ F : List Bool → Bool, es = tab (fT F) T14) ∧ Good z') rfl (own_table g) (by cases t <;> rfl) (by simp) fun es z1 ⟨⟨F, eF⟩, g1⟩ => ?_
  subst eF
  simp only [List.set_cons_succ, List.set_cons_zero]
  rw [sSeq_ev, sIf_ev, tV_ev, e2_ev, eCall_ev, evs_cons, eV_succ, eV_zero, WP_pure, evs_cons, eC_ev, WP_pure, evs_nil]
  refine WP_mono (taken_ok g1 (by omega) (by omega)) fun d2 z2 ⟨k, e, k0, k1, g2⟩ => ?_
  subst e
  rw [eC_ev, WP_pure, op2_ev, eqD_int, WP_some, asB_bl, WP_some]
  have p0 : PI2 (some d) c [none, some (.val .row), some (.val d), some (.own (.dS (tab (fT F) T14))), b.map .val, c.map .val, none] z2 := ⟨g2, F, b, rfl⟩
  by_cases ck : k = 0
  · rw [if_pos (by simpa using ck)]
    exact WS_mono (turnT p0) fun ρ z h => endT h
  · rw [if_neg (by simpa using ck), sNil_ev]
    exact endT p0
theorem law_true : ∀ (A : Nat → Addr) (w : World) (ns : List Int), ns.length ≤ 63 → (∀ z ∈ ns, Builtin.Int.intBits z ≤ 1048576) → ∃ z', B_law (Gam0 A w) (rhoL 7) ⟨ns, 0, 15605, 0⟩ = .rt (.bl true) z' := by
  intro A w ns _ _
  have g : Good ⟨ns, 0, 15605, 0⟩ := ⟨by show (0 : Int) ≤ 0; omega, by show (0 : Int) ≤ 15605; omega, by show (15605 : Int) < 2147483647; omega, by show (0 : Int) ≤ 0; omega⟩
  have h : WS (B_law (Gam0 A w) [none, some (.val .row), none, none, none, none, none] ⟨ns, 0, 15605, 0⟩) (fun _ _ => False) (fun d z' => d = .bl true) := by
    unfold B_law
    rw [sSeq_ev]
    refine WS_mono (loopT ⟨g, none, none, none, none, rfl⟩) fun ρ z _ => ?_
    rw [sRet_ev, eC_ev, WP_pure]
  rw [show rhoL 7 = [none, some (.val .row), none, none, none, none, none] from rfl]
  unfold WS at h
  cases e : B_law (Gam0 A w) [none, some (.val .row), none, none, none, none, none] ⟨ns, 0, 15605, 0⟩ with
  | rt d z' => rw [e] at h; exact ⟨z', by rw [h]⟩
  | nx ρ z' => rw [e] at h; exact h.elim
  | bk ρ z' => rw [e] at h; exact h.elim
  | ct ρ z' => rw [e] at h; exact h.elim
  | exc x z' => rw [e] at h; exact h.elim
  | bad => rw [e] at h; exact h.elim
end K05
set_option Elab.async false
set_option linter.all false
set_option maxRecDepth 100000
set_option maxHeartbeats 8000000
namespace K05
open PySem PySem.Spec PyProof.Rows L2 DL C
theorem at_mk {l : PySem.W.OpenLaw} {w : World} {K : PySem.W.Frag} {h : Heap} {mg : Str → Option Value} {fa : Addr} {q : Program}
    {f_check_way f_check_promise f_check_promises cp_check_promises tb_check_promises f_holds f_holds_all cp_holds_all tb_holds_all f_keepers cp_keepers tb_keepers f_can_hold f_lies_in cp_lies_in tb_lies_in f_has_part cp_has_part tb_has_part f_least_clashes_in f_clashes f_law_taken f_law_pick f_law_ways f_law_promises f_law_turned f_law_answer f_law_rows f_law_short f_law_flip f_law_torn f_law_deaf f_law_fine f_law_table f_law p_CWAYS p_CPROMISES p_KEPT_BY px_KEPT_BY_0 px_KEPT_BY_1 px_KEPT_BY_2 px_KEPT_BY_3 px_KEPT_BY_4 px_KEPT_BY_5 px_KEPT_BY_6 px_KEPT_BY_7 px_KEPT_BY_8 px_KEPT_BY_9 px_KEPT_BY_10 px_KEPT_BY_11 px_KEPT_BY_12 : Addr}
    {od_check_way an_check_way od_check_promise an_check_promise od_check_promises an_check_promises q2_check_promises od_holds an_holds od_holds_all an_holds_all q2_holds_all od_keepers an_keepers q2_keepers od_can_hold an_can_hold od_lies_in an_lies_in q2_lies_in od_has_part an_has_part q2_has_part od_least_clashes_in an_least_clashes_in od_clashes an_clashes od_law_taken an_law_taken od_law_pick an_law_pick od_law_ways an_law_ways od_law_promises an_law_promises od_law_turned an_law_turned od_law_answer an_law_answer od_law_rows an_law_rows od_law_short an_law_short od_law_flip an_law_flip od_law_torn an_law_torn od_law_deaf an_law_deaf od_law_fine an_law_fine od_law_table an_law_table od_law an_law : Option Addr}
    {sl_check_way sl_check_promise sl_check_promises q4_check_promises sl_holds sl_holds_all q4_holds_all sl_keepers q4_keepers sl_can_hold sl_lies_in q4_lies_in sl_has_part q4_has_part sl_least_clashes_in sl_clashes sl_law_taken sl_law_pick sl_law_ways sl_law_promises sl_law_turned sl_law_answer sl_law_rows sl_law_short sl_law_flip sl_law_torn sl_law_deaf sl_law_fine sl_law_table sl_law s_CWAYS s_CPROMISES sx_KEPT_BY_0 sx_KEPT_BY_1 sx_KEPT_BY_2 sx_KEPT_BY_3 sx_KEPT_BY_4 sx_KEPT_BY_5 sx_KEPT_BY_6 sx_KEPT_BY_7 sx_KEPT_BY_8 sx_KEPT_BY_9 sx_KEPT_BY_10 sx_KEPT_BY_11 sx_KEPT_BY_12 : Array (Option Value)}
    {oc_check_way kV_check_way dc_check_way pm_check_way ct_check_way cd_check_way oc_check_promise kV_check_promise dc_check_promise pm_check_promise ct_check_promise cd_check_promise oc_check_promises kV_check_promises dc_check_promises pm_check_promises ct_check_promises q1_check_promises oc_holds kV_holds dc_holds pm_holds ct_holds cd_holds oc_holds_all kV_holds_all dc_holds_all pm_holds_all ct_holds_all q1_holds_all oc_keepers kV_keepers dc_keepers pm_keepers ct_keepers q1_keepers oc_can_hold kV_can_hold dc_can_hold pm_can_hold ct_can_hold cd_can_hold oc_lies_in kV_lies_in dc_lies_in pm_lies_in ct_lies_in q1_lies_in oc_has_part kV_has_part dc_has_part pm_has_part ct_has_part q1_has_part oc_least_clashes_in kV_least_clashes_in dc_least_clashes_in pm_least_clashes_in ct_least_clashes_in cd_least_clashes_in oc_clashes kV_clashes dc_clashes pm_clashes ct_clashes cd_clashes oc_law_taken kV_law_taken dc_law_taken pm_law_taken ct_law_taken cd_law_taken oc_law_pick kV_law_pick dc_law_pick pm_law_pick ct_law_pick cd_law_pick oc_law_ways kV_law_ways dc_law_ways pm_law_ways ct_law_ways cd_law_ways oc_law_promises kV_law_promises dc_law_promises pm_law_promises ct_law_promises cd_law_promises oc_law_turned kV_law_turned dc_law_turned pm_law_turned ct_law_turned cd_law_turned oc_law_answer kV_law_answer dc_law_answer pm_law_answer ct_law_answer cd_law_answer oc_law_rows kV_law_rows dc_law_rows pm_law_rows ct_law_rows cd_law_rows oc_law_short kV_law_short dc_law_short pm_law_short ct_law_short cd_law_short oc_law_flip kV_law_flip dc_law_flip pm_law_flip ct_law_flip cd_law_flip oc_law_torn kV_law_torn dc_law_torn pm_law_torn ct_law_torn cd_law_torn oc_law_deaf kV_law_deaf dc_law_deaf pm_law_deaf ct_law_deaf cd_law_deaf oc_law_fine kV_law_fine dc_law_fine pm_law_fine ct_law_fine cd_law_fine oc_law_table kV_law_table dc_law_table pm_law_table ct_law_table cd_law_table oc_law kV_law dc_law pm_law ct_law cd_law : Value}
    {vs_check_promises vs_holds_all vs_keepers vs_lies_in vs_has_part i_CWAYS i_CPROMISES ix_KEPT_BY_0 ix_KEPT_BY_1 ix_KEPT_BY_2 ix_KEPT_BY_3 ix_KEPT_BY_4 ix_KEPT_BY_5 ix_KEPT_BY_6 ix_KEPT_BY_7 ix_KEPT_BY_8 ix_KEPT_BY_9 ix_KEPT_BY_10 ix_KEPT_BY_11 ix_KEPT_BY_12 : Array Value}
    {m_CWAYS m_CPROMISES m_KEPT_BY mx_KEPT_BY_0 mx_KEPT_BY_1 mx_KEPT_BY_2 mx_KEPT_BY_3 mx_KEPT_BY_4 mx_KEPT_BY_5 mx_KEPT_BY_6 mx_KEPT_BY_7 mx_KEPT_BY_8 mx_KEPT_BY_9 mx_KEPT_BY_10 mx_KEPT_BY_11 mx_KEPT_BY_12 : Nat}
    {e_check_promises e_holds_all e_keepers e_lies_in e_has_part : DefRec}
    {es_KEPT_BY : Array DictEntry}
    (KX : K.In h) (G : h.Ns mainGlobals mg) (hfa : mg "law" = some (.ref fa)) (tab : ∀ (y : Str) (e : DefRec) (c P : Addr), (recsOf q).find? (fun e => e.name == y) = some e → PySem.W.tabIn K y = some (c, P) → PySem.W.CodeHd h c P ∧ h.get? P = some { cls := .none, data := .fields #[] })
    (a_check_way : PySem.W.nsIn K mainGlobals "check_way" = some (some (.ref f_check_way)))
    (l_check_way : K.lookup f_check_way = some ⟨oc_check_way, od_check_way, .func (PySem.W.fnOf "check_way" "check_way" (defArgs s_check_way) (defBody s_check_way) (defScope s_check_way) .none kV_check_way dc_check_way pm_check_way an_check_way cd_check_way ct_check_way), sl_check_way⟩)
    (c_check_way : PySem.W.codeIn K cd_check_way "check_way" = true)
    (k_check_way : PySem.W.keepIn K (.ref f_check_way) = true)
    (a_check_promise : PySem.W.nsIn K mainGlobals "check_promise" = some (some (.ref f_check_promise)))
    (l_check_promise : K.lookup f_check_promise = some ⟨oc_check_promise, od_check_promise, .func (PySem.W.fnOf "check_promise" "check_promise" (defArgs s_check_promise) (defBody s_check_promise) (defScope s_check_promise) .none kV_check_promise dc_check_promise pm_check_promise an_check_promise cd_check_promise ct_check_promise), sl_check_promise⟩)
    (c_check_promise : PySem.W.codeIn K cd_check_promise "check_promise" = true)
    (k_check_promise : PySem.W.keepIn K (.ref f_check_promise) = true)
    (a_check_promises : PySem.W.nsIn K mainGlobals "check_promises" = some (some (.ref f_check_promises)))
    (l_check_promises : K.lookup f_check_promises = some ⟨oc_check_promises, od_check_promises, .func (PySem.W.fnOf "check_promises" "check_promises" (defArgs s_check_promises) (defBody s_check_promises) (defScope s_check_promises) .none kV_check_promises dc_check_promises pm_check_promises an_check_promises (.ref cp_check_promises) ct_check_promises), sl_check_promises⟩)
    (c_check_promises : PySem.W.codeIn K (.ref cp_check_promises) "check_promises" = true)
    (k_check_promises : PySem.W.keepIn K (.ref f_check_promises) = true)
    (u_check_promises : K.lookup cp_check_promises = some ⟨q1_check_promises, q2_check_promises, .fields vs_check_promises, q4_check_promises⟩)
    (v_check_promises : vs_check_promises[11]? = some (.ref tb_check_promises))
    (n_check_promises : K.lookup tb_check_promises = none)
    (r_check_promises : (recsOf q).find? (fun e => e.name == ("check_promises" : Str)) = some e_check_promises)
    (a_holds : PySem.W.nsIn K mainGlobals "holds" = some (some (.ref f_holds)))
    (l_holds : K.lookup f_holds = some ⟨oc_holds, od_holds, .func (PySem.W.fnOf "holds" "holds" (defArgs s_holds) (defBody s_holds) (defScope s_holds) .none kV_holds dc_holds pm_holds an_holds cd_holds ct_holds), sl_holds⟩)
    (c_holds : PySem.W.codeIn K cd_holds "holds" = true)
    (k_holds : PySem.W.keepIn K (.ref f_holds) = true)
    (a_holds_all : PySem.W.nsIn K mainGlobals "_holds_all" = some (some (.ref f_holds_all)))
    (l_holds_all : K.lookup f_holds_all = some ⟨oc_holds_all, od_holds_all, .func (PySem.W.fnOf "_holds_all" "_holds_all" (defArgs s_holds_all) (defBody s_holds_all) (defScope s_holds_all) .none kV_holds_all dc_holds_all pm_holds_all an_holds_all (.ref cp_holds_all) ct_holds_all), sl_holds_all⟩)
    (c_holds_all : PySem.W.codeIn K (.ref cp_holds_all) "_holds_all" = true)
    (k_holds_all : PySem.W.keepIn K (.ref f_holds_all) = true)
    (u_holds_all : K.lookup cp_holds_all = some ⟨q1_holds_all, q2_holds_all, .fields vs_holds_all, q4_holds_all⟩)
    (v_holds_all : vs_holds_all[11]? = some (.ref tb_holds_all))
    (n_holds_all : K.lookup tb_holds_all = none)
    (r_holds_all : (recsOf q).find? (fun e => e.name == ("_holds_all" : Str)) = some e_holds_all)
    (a_keepers : PySem.W.nsIn K mainGlobals "_keepers" = some (some (.ref f_keepers)))
    (l_keepers : K.lookup f_keepers = some ⟨oc_keepers, od_keepers, .func (PySem.W.fnOf "_keepers" "_keepers" (defArgs s_keepers) (defBody s_keepers) (defScope s_keepers) .none kV_keepers dc_keepers pm_keepers an_keepers (.ref cp_keepers) ct_keepers), sl_keepers⟩)
    (c_keepers : PySem.W.codeIn K (.ref cp_keepers) "_keepers" = true)
    (k_keepers : PySem.W.keepIn K (.ref f_keepers) = true)
    (u_keepers : K.lookup cp_keepers = some ⟨q1_keepers, q2_keepers, .fields vs_keepers, q4_keepers⟩)
    (v_keepers : vs_keepers[11]? = some (.ref tb_keepers))
    (n_keepers : K.lookup tb_keepers = none)
    (r_keepers : (recsOf q).find? (fun e => e.name == ("_keepers" : Str)) = some e_keepers)
    (a_can_hold : PySem.W.nsIn K mainGlobals "can_hold" = some (some (.ref f_can_hold)))
    (l_can_hold : K.lookup f_can_hold = some ⟨oc_can_hold, od_can_hold, .func (PySem.W.fnOf "can_hold" "can_hold" (defArgs s_can_hold) (defBody s_can_hold) (defScope s_can_hold) .none kV_can_hold dc_can_hold pm_can_hold an_can_hold cd_can_hold ct_can_hold), sl_can_hold⟩)
    (c_can_hold : PySem.W.codeIn K cd_can_hold "can_hold" = true)
    (k_can_hold : PySem.W.keepIn K (.ref f_can_hold) = true)
    (a_lies_in : PySem.W.nsIn K mainGlobals "_lies_in" = some (some (.ref f_lies_in)))
    (l_lies_in : K.lookup f_lies_in = some ⟨oc_lies_in, od_lies_in, .func (PySem.W.fnOf "_lies_in" "_lies_in" (defArgs s_lies_in) (defBody s_lies_in) (defScope s_lies_in) .none kV_lies_in dc_lies_in pm_lies_in an_lies_in (.ref cp_lies_in) ct_lies_in), sl_lies_in⟩)
    (c_lies_in : PySem.W.codeIn K (.ref cp_lies_in) "_lies_in" = true)
    (k_lies_in : PySem.W.keepIn K (.ref f_lies_in) = true)
    (u_lies_in : K.lookup cp_lies_in = some ⟨q1_lies_in, q2_lies_in, .fields vs_lies_in, q4_lies_in⟩)
    (v_lies_in : vs_lies_in[11]? = some (.ref tb_lies_in))
    (n_lies_in : K.lookup tb_lies_in = none)
    (r_lies_in : (recsOf q).find? (fun e => e.name == ("_lies_in" : Str)) = some e_lies_in)
    (a_has_part : PySem.W.nsIn K mainGlobals "_has_part" = some (some (.ref f_has_part)))
    (l_has_part : K.lookup f_has_part = some ⟨oc_has_part, od_has_part, .func (PySem.W.fnOf "_has_part" "_has_part" (defArgs s_has_part) (defBody s_has_part) (defScope s_has_part) .none kV_has_part dc_has_part pm_has_part an_has_part (.ref cp_has_part) ct_has_part), sl_has_part⟩)
    (c_has_part : PySem.W.codeIn K (.ref cp_has_part) "_has_part" = true)
    (k_has_part : PySem.W.keepIn K (.ref f_has_part) = true)
    (u_has_part : K.lookup cp_has_part = some ⟨q1_has_part, q2_has_part, .fields vs_has_part, q4_has_part⟩)
    (v_has_part : vs_has_part[11]? = some (.ref tb_has_part))
    (n_has_part : K.lookup tb_has_part = none)
    (r_has_part : (recsOf q).find? (fun e => e.name == ("_has_part" : Str)) = some e_has_part)
    (a_least_clashes_in : PySem.W.nsIn K mainGlobals "_least_clashes_in" = some (some (.ref f_least_clashes_in)))
    (l_least_clashes_in : K.lookup f_least_clashes_in = some ⟨oc_least_clashes_in, od_least_clashes_in, .func (PySem.W.fnOf "_least_clashes_in" "_least_clashes_in" (defArgs s_least_clashes_in) (defBody s_least_clashes_in) (defScope s_least_clashes_in) .none kV_least_clashes_in dc_least_clashes_in pm_least_clashes_in an_least_clashes_in cd_least_clashes_in ct_least_clashes_in), sl_least_clashes_in⟩)
    (c_least_clashes_in : PySem.W.codeIn K cd_least_clashes_in "_least_clashes_in" = true)
    (k_least_clashes_in : PySem.W.keepIn K (.ref f_least_clashes_in) = true)
    (a_clashes : PySem.W.nsIn K mainGlobals "clashes" = some (some (.ref f_clashes)))
    (l_clashes : K.lookup f_clashes = some ⟨oc_clashes, od_clashes, .func (PySem.W.fnOf "clashes" "clashes" (defArgs s_clashes) (defBody s_clashes) (defScope s_clashes) .none kV_clashes dc_clashes pm_clashes an_clashes cd_clashes ct_clashes), sl_clashes⟩)
    (c_clashes : PySem.W.codeIn K cd_clashes "clashes" = true)
    (k_clashes : PySem.W.keepIn K (.ref f_clashes) = true)
    (a_law_taken : PySem.W.nsIn K mainGlobals "_law_taken" = some (some (.ref f_law_taken)))
    (l_law_taken : K.lookup f_law_taken = some ⟨oc_law_taken, od_law_taken, .func (PySem.W.fnOf "_law_taken" "_law_taken" (defArgs s_law_taken) (defBody s_law_taken) (defScope s_law_taken) .none kV_law_taken dc_law_taken pm_law_taken an_law_taken cd_law_taken ct_law_taken), sl_law_taken⟩)
    (c_law_taken : PySem.W.codeIn K cd_law_taken "_law_taken" = true)
    (k_law_taken : PySem.W.keepIn K (.ref f_law_taken) = true)
    (a_law_pick : PySem.W.nsIn K mainGlobals "_law_pick" = some (some (.ref f_law_pick)))
    (l_law_pick : K.lookup f_law_pick = some ⟨oc_law_pick, od_law_pick, .func (PySem.W.fnOf "_law_pick" "_law_pick" (defArgs s_law_pick) (defBody s_law_pick) (defScope s_law_pick) .none kV_law_pick dc_law_pick pm_law_pick an_law_pick cd_law_pick ct_law_pick), sl_law_pick⟩)
    (c_law_pick : PySem.W.codeIn K cd_law_pick "_law_pick" = true)
    (k_law_pick : PySem.W.keepIn K (.ref f_law_pick) = true)
    (a_law_ways : PySem.W.nsIn K mainGlobals "_law_ways" = some (some (.ref f_law_ways)))
    (l_law_ways : K.lookup f_law_ways = some ⟨oc_law_ways, od_law_ways, .func (PySem.W.fnOf "_law_ways" "_law_ways" (defArgs s_law_ways) (defBody s_law_ways) (defScope s_law_ways) .none kV_law_ways dc_law_ways pm_law_ways an_law_ways cd_law_ways ct_law_ways), sl_law_ways⟩)
    (c_law_ways : PySem.W.codeIn K cd_law_ways "_law_ways" = true)
    (k_law_ways : PySem.W.keepIn K (.ref f_law_ways) = true)
    (a_law_promises : PySem.W.nsIn K mainGlobals "_law_promises" = some (some (.ref f_law_promises)))
    (l_law_promises : K.lookup f_law_promises = some ⟨oc_law_promises, od_law_promises, .func (PySem.W.fnOf "_law_promises" "_law_promises" (defArgs s_law_promises) (defBody s_law_promises) (defScope s_law_promises) .none kV_law_promises dc_law_promises pm_law_promises an_law_promises cd_law_promises ct_law_promises), sl_law_promises⟩)
    (c_law_promises : PySem.W.codeIn K cd_law_promises "_law_promises" = true)
    (k_law_promises : PySem.W.keepIn K (.ref f_law_promises) = true)
    (a_law_turned : PySem.W.nsIn K mainGlobals "_law_turned" = some (some (.ref f_law_turned)))
    (l_law_turned : K.lookup f_law_turned = some ⟨oc_law_turned, od_law_turned, .func (PySem.W.fnOf "_law_turned" "_law_turned" (defArgs s_law_turned) (defBody s_law_turned) (defScope s_law_turned) .none kV_law_turned dc_law_turned pm_law_turned an_law_turned cd_law_turned ct_law_turned), sl_law_turned⟩)
    (c_law_turned : PySem.W.codeIn K cd_law_turned "_law_turned" = true)
    (k_law_turned : PySem.W.keepIn K (.ref f_law_turned) = true)
    (a_law_answer : PySem.W.nsIn K mainGlobals "_law_answer" = some (some (.ref f_law_answer)))
    (l_law_answer : K.lookup f_law_answer = some ⟨oc_law_answer, od_law_answer, .func (PySem.W.fnOf "_law_answer" "_law_answer" (defArgs s_law_answer) (defBody s_law_answer) (defScope s_law_answer) .none kV_law_answer dc_law_answer pm_law_answer an_law_answer cd_law_answer ct_law_answer), sl_law_answer⟩)
    (c_law_answer : PySem.W.codeIn K cd_law_answer "_law_answer" = true)
    (k_law_answer : PySem.W.keepIn K (.ref f_law_answer) = true)
    (a_law_rows : PySem.W.nsIn K mainGlobals "_law_rows" = some (some (.ref f_law_rows)))
    (l_law_rows : K.lookup f_law_rows = some ⟨oc_law_rows, od_law_rows, .func (PySem.W.fnOf "_law_rows" "_law_rows" (defArgs s_law_rows) (defBody s_law_rows) (defScope s_law_rows) .none kV_law_rows dc_law_rows pm_law_rows an_law_rows cd_law_rows ct_law_rows), sl_law_rows⟩)
    (c_law_rows : PySem.W.codeIn K cd_law_rows "_law_rows" = true)
    (k_law_rows : PySem.W.keepIn K (.ref f_law_rows) = true)
    (a_law_short : PySem.W.nsIn K mainGlobals "_law_short" = some (some (.ref f_law_short)))
    (l_law_short : K.lookup f_law_short = some ⟨oc_law_short, od_law_short, .func (PySem.W.fnOf "_law_short" "_law_short" (defArgs s_law_short) (defBody s_law_short) (defScope s_law_short) .none kV_law_short dc_law_short pm_law_short an_law_short cd_law_short ct_law_short), sl_law_short⟩)
    (c_law_short : PySem.W.codeIn K cd_law_short "_law_short" = true)
    (k_law_short : PySem.W.keepIn K (.ref f_law_short) = true)
    (a_law_flip : PySem.W.nsIn K mainGlobals "_law_flip" = some (some (.ref f_law_flip)))
    (l_law_flip : K.lookup f_law_flip = some ⟨oc_law_flip, od_law_flip, .func (PySem.W.fnOf "_law_flip" "_law_flip" (defArgs s_law_flip) (defBody s_law_flip) (defScope s_law_flip) .none kV_law_flip dc_law_flip pm_law_flip an_law_flip cd_law_flip ct_law_flip), sl_law_flip⟩)
    (c_law_flip : PySem.W.codeIn K cd_law_flip "_law_flip" = true)
    (k_law_flip : PySem.W.keepIn K (.ref f_law_flip) = true)
    (a_law_torn : PySem.W.nsIn K mainGlobals "_law_torn" = some (some (.ref f_law_torn)))
    (l_law_torn : K.lookup f_law_torn = some ⟨oc_law_torn, od_law_torn, .func (PySem.W.fnOf "_law_torn" "_law_torn" (defArgs s_law_torn) (defBody s_law_torn) (defScope s_law_torn) .none kV_law_torn dc_law_torn pm_law_torn an_law_torn cd_law_torn ct_law_torn), sl_law_torn⟩)
    (c_law_torn : PySem.W.codeIn K cd_law_torn "_law_torn" = true)
    (k_law_torn : PySem.W.keepIn K (.ref f_law_torn) = true)
    (a_law_deaf : PySem.W.nsIn K mainGlobals "_law_deaf" = some (some (.ref f_law_deaf)))
    (l_law_deaf : K.lookup f_law_deaf = some ⟨oc_law_deaf, od_law_deaf, .func (PySem.W.fnOf "_law_deaf" "_law_deaf" (defArgs s_law_deaf) (defBody s_law_deaf) (defScope s_law_deaf) .none kV_law_deaf dc_law_deaf pm_law_deaf an_law_deaf cd_law_deaf ct_law_deaf), sl_law_deaf⟩)
    (c_law_deaf : PySem.W.codeIn K cd_law_deaf "_law_deaf" = true)
    (k_law_deaf : PySem.W.keepIn K (.ref f_law_deaf) = true)
    (a_law_fine : PySem.W.nsIn K mainGlobals "_law_fine" = some (some (.ref f_law_fine)))
    (l_law_fine : K.lookup f_law_fine = some ⟨oc_law_fine, od_law_fine, .func (PySem.W.fnOf "_law_fine" "_law_fine" (defArgs s_law_fine) (defBody s_law_fine) (defScope s_law_fine) .none kV_law_fine dc_law_fine pm_law_fine an_law_fine cd_law_fine ct_law_fine), sl_law_fine⟩)
    (c_law_fine : PySem.W.codeIn K cd_law_fine "_law_fine" = true)
    (k_law_fine : PySem.W.keepIn K (.ref f_law_fine) = true)
    (a_law_table : PySem.W.nsIn K mainGlobals "_law_table" = some (some (.ref f_law_table)))
    (l_law_table : K.lookup f_law_table = some ⟨oc_law_table, od_law_table, .func (PySem.W.fnOf "_law_table" "_law_table" (defArgs s_law_table) (defBody s_law_table) (defScope s_law_table) .none kV_law_table dc_law_table pm_law_table an_law_table cd_law_table ct_law_table), sl_law_table⟩)
    (c_law_table : PySem.W.codeIn K cd_law_table "_law_table" = true)
    (k_law_table : PySem.W.keepIn K (.ref f_law_table) = true)
    (a_law : PySem.W.nsIn K mainGlobals "law" = some (some (.ref f_law)))
    (l_law : K.lookup f_law = some ⟨oc_law, od_law, .func (PySem.W.fnOf "law" "law" (defArgs s_law) (defBody s_law) (defScope s_law) .none kV_law dc_law pm_law an_law cd_law ct_law), sl_law⟩)
    (c_law : PySem.W.codeIn K cd_law "law" = true)
    (k_law : PySem.W.keepIn K (.ref f_law) = true)
    (n_WAYS : PySem.W.nsIn K mainGlobals "WAYS" = some (some (.ref p_CWAYS)))
    (l_CWAYS : K.lookup p_CWAYS = some ⟨.type "tuple", none, .seq i_CWAYS m_CWAYS, s_CWAYS⟩)
    (z_CWAYS : i_CWAYS.size ≤ sizeLine)
    (v_CWAYS : Vals [.str (ST [97, 108, 108, 111, 119, 32, 111, 118, 101, 114]), .str (ST [97, 108, 119, 97, 121, 115, 32, 97, 108, 108, 111, 119]), .str (ST [97, 108, 119, 97, 121, 115, 32, 100, 101, 110, 121]), .str (ST [98, 111, 116, 104, 32, 101, 110, 100, 115]), .str (ST [100, 101, 110, 121, 32, 111, 118, 101, 114]), .str (ST [102, 105, 114, 115, 116]), .str (ST [105, 115, 108, 97, 110, 100]), .str (ST [108, 97, 115, 116]), .str (ST [109, 111, 115, 116, 32, 111, 114, 32, 97, 108, 108, 111, 119]), .str (ST [109, 111, 115, 116, 32, 111, 114, 32, 100, 101, 110, 121]), .str (ST [109, 111, 115, 116, 32, 111, 114, 32, 102, 105, 114, 115, 116]), .str (ST [109, 111, 115, 116, 32, 111, 114, 32, 108, 97, 115, 116]), .str (ST [111, 100, 100])] i_CWAYS.toList)
    (n_PROMISES : PySem.W.nsIn K mainGlobals "PROMISES" = some (some (.ref p_CPROMISES)))
    (l_CPROMISES : K.lookup p_CPROMISES = some ⟨.type "tuple", none, .seq i_CPROMISES m_CPROMISES, s_CPROMISES⟩)
    (z_CPROMISES : i_CPROMISES.size ≤ sizeLine)
    (v_CPROMISES : Vals [.str (ST [97, 103, 114, 101, 101, 100]), .str (ST [101, 118, 101, 110]), .str (ST [103, 114, 111, 119, 105, 110, 103]), .str (ST [104, 101, 97, 114, 100]), .str (ST [107, 101, 112, 116]), .str (ST [109, 105, 120, 101, 100]), .str (ST [109, 111, 115, 116]), .str (ST [111, 114, 100, 101, 114]), .str (ST [112, 97, 114, 116, 115]), .str (ST [114, 101, 112, 101, 97, 116])] i_CPROMISES.toList)
    (z_isinstance : PySem.W.nsIn K mainGlobals "isinstance" = some none)
    (z_tuple : PySem.W.nsIn K mainGlobals "tuple" = some none)
    (z_len : PySem.W.nsIn K mainGlobals "len" = some none)
    (z_all : PySem.W.nsIn K mainGlobals "all" = some none)
    (z_list : PySem.W.nsIn K mainGlobals "list" = some none)
    (z_any : PySem.W.nsIn K mainGlobals "any" = some none)
    (z_range : PySem.W.nsIn K mainGlobals "range" = some none)
    (z_int : PySem.W.nsIn K mainGlobals "int" = some none)
    (z_set : PySem.W.nsIn K mainGlobals "set" = some none)
    (n_cmb : PySem.W.nsIn K mainGlobals "combinations" = some (some (.type "itertools.combinations")))
    (n_KEPT_BY : PySem.W.nsIn K mainGlobals "_KEPT_BY" = some (some (.ref p_KEPT_BY)))
    (l_KEPT_BY : K.lookup p_KEPT_BY = some ⟨.type "dict", none, .dict es_KEPT_BY m_KEPT_BY, #[]⟩)
    (kl_KEPT_BY : PySem.W.KeysLit w.params es_KEPT_BY.toList)
    (x_KEPT_BY_0 : PySem.W.nsIn K p_KEPT_BY "allow over" = some (some (.ref px_KEPT_BY_0)))
    (lx_KEPT_BY_0 : K.lookup px_KEPT_BY_0 = some ⟨.type "tuple", none, .seq ix_KEPT_BY_0 mx_KEPT_BY_0, sx_KEPT_BY_0⟩)
    (zx_KEPT_BY_0 : ix_KEPT_BY_0.size ≤ sizeLine)
    (vx_KEPT_BY_0 : Vals [.str (ST [97, 103, 114, 101, 101, 100]), .str (ST [103, 114, 111, 119, 105, 110, 103]), .str (ST [104, 101, 97, 114, 100]), .str (ST [107, 101, 112, 116]), .str (ST [111, 114, 100, 101, 114]), .str (ST [112, 97, 114, 116, 115]), .str (ST [114, 101, 112, 101, 97, 116])] ix_KEPT_BY_0.toList)
    (x_KEPT_BY_1 : PySem.W.nsIn K p_KEPT_BY "always allow" = some (some (.ref px_KEPT_BY_1)))
    (lx_KEPT_BY_1 : K.lookup px_KEPT_BY_1 = some ⟨.type "tuple", none, .seq ix_KEPT_BY_1 mx_KEPT_BY_1, sx_KEPT_BY_1⟩)
    (zx_KEPT_BY_1 : ix_KEPT_BY_1.size ≤ sizeLine)
    (vx_KEPT_BY_1 : Vals [.str (ST [103, 114, 111, 119, 105, 110, 103]), .str (ST [107, 101, 112, 116]), .str (ST [111, 114, 100, 101, 114]), .str (ST [112, 97, 114, 116, 115]), .str (ST [114, 101, 112, 101, 97, 116])] ix_KEPT_BY_1.toList)
    (x_KEPT_BY_2 : PySem.W.nsIn K p_KEPT_BY "always deny" = some (some (.ref px_KEPT_BY_2)))
    (lx_KEPT_BY_2 : K.lookup px_KEPT_BY_2 = some ⟨.type "tuple", none, .seq ix_KEPT_BY_2 mx_KEPT_BY_2, sx_KEPT_BY_2⟩)
    (zx_KEPT_BY_2 : ix_KEPT_BY_2.size ≤ sizeLine)
    (vx_KEPT_BY_2 : Vals [.str (ST [103, 114, 111, 119, 105, 110, 103]), .str (ST [107, 101, 112, 116]), .str (ST [111, 114, 100, 101, 114]), .str (ST [112, 97, 114, 116, 115]), .str (ST [114, 101, 112, 101, 97, 116])] ix_KEPT_BY_2.toList)
    (x_KEPT_BY_3 : PySem.W.nsIn K p_KEPT_BY "both ends" = some (some (.ref px_KEPT_BY_3)))
    (lx_KEPT_BY_3 : K.lookup px_KEPT_BY_3 = some ⟨.type "tuple", none, .seq ix_KEPT_BY_3 mx_KEPT_BY_3, sx_KEPT_BY_3⟩)
    (zx_KEPT_BY_3 : ix_KEPT_BY_3.size ≤ sizeLine)
    (vx_KEPT_BY_3 : Vals [.str (ST [97, 103, 114, 101, 101, 100]), .str (ST [103, 114, 111, 119, 105, 110, 103]), .str (ST [107, 101, 112, 116]), .str (ST [109, 105, 120, 101, 100]), .str (ST [114, 101, 112, 101, 97, 116])] ix_KEPT_BY_3.toList)
    (x_KEPT_BY_4 : PySem.W.nsIn K p_KEPT_BY "deny over" = some (some (.ref px_KEPT_BY_4)))
    (lx_KEPT_BY_4 : K.lookup px_KEPT_BY_4 = some ⟨.type "tuple", none, .seq ix_KEPT_BY_4 mx_KEPT_BY_4, sx_KEPT_BY_4⟩)
    (zx_KEPT_BY_4 : ix_KEPT_BY_4.size ≤ sizeLine)
    (vx_KEPT_BY_4 : Vals [.str (ST [97, 103, 114, 101, 101, 100]), .str (ST [103, 114, 111, 119, 105, 110, 103]), .str (ST [104, 101, 97, 114, 100]), .str (ST [107, 101, 112, 116]), .str (ST [111, 114, 100, 101, 114]), .str (ST [112, 97, 114, 116, 115]), .str (ST [114, 101, 112, 101, 97, 116])] ix_KEPT_BY_4.toList)
    (x_KEPT_BY_5 : PySem.W.nsIn K p_KEPT_BY "first" = some (some (.ref px_KEPT_BY_5)))
    (lx_KEPT_BY_5 : K.lookup px_KEPT_BY_5 = some ⟨.type "tuple", none, .seq ix_KEPT_BY_5 mx_KEPT_BY_5, sx_KEPT_BY_5⟩)
    (zx_KEPT_BY_5 : ix_KEPT_BY_5.size ≤ sizeLine)
    (vx_KEPT_BY_5 : Vals [.str (ST [97, 103, 114, 101, 101, 100]), .str (ST [101, 118, 101, 110]), .str (ST [103, 114, 111, 119, 105, 110, 103]), .str (ST [107, 101, 112, 116]), .str (ST [109, 105, 120, 101, 100]), .str (ST [112, 97, 114, 116, 115]), .str (ST [114, 101, 112, 101, 97, 116])] ix_KEPT_BY_5.toList)
    (x_KEPT_BY_6 : PySem.W.nsIn K p_KEPT_BY "island" = some (some (.ref px_KEPT_BY_6)))
    (lx_KEPT_BY_6 : K.lookup px_KEPT_BY_6 = some ⟨.type "tuple", none, .seq ix_KEPT_BY_6 mx_KEPT_BY_6, sx_KEPT_BY_6⟩)
    (zx_KEPT_BY_6 : ix_KEPT_BY_6.size ≤ sizeLine)
    (vx_KEPT_BY_6 : Vals [.str (ST [97, 103, 114, 101, 101, 100]), .str (ST [104, 101, 97, 114, 100]), .str (ST [109, 105, 120, 101, 100]), .str (ST [114, 101, 112, 101, 97, 116])] ix_KEPT_BY_6.toList)
    (x_KEPT_BY_7 : PySem.W.nsIn K p_KEPT_BY "last" = some (some (.ref px_KEPT_BY_7)))
    (lx_KEPT_BY_7 : K.lookup px_KEPT_BY_7 = some ⟨.type "tuple", none, .seq ix_KEPT_BY_7 mx_KEPT_BY_7, sx_KEPT_BY_7⟩)
    (zx_KEPT_BY_7 : ix_KEPT_BY_7.size ≤ sizeLine)
    (vx_KEPT_BY_7 : Vals [.str (ST [97, 103, 114, 101, 101, 100]), .str (ST [101, 118, 101, 110]), .str (ST [103, 114, 111, 119, 105, 110, 103]), .str (ST [107, 101, 112, 116]), .str (ST [109, 105, 120, 101, 100]), .str (ST [112, 97, 114, 116, 115]), .str (ST [114, 101, 112, 101, 97, 116])] ix_KEPT_BY_7.toList)
    (x_KEPT_BY_8 : PySem.W.nsIn K p_KEPT_BY "most or allow" = some (some (.ref px_KEPT_BY_8)))
    (lx_KEPT_BY_8 : K.lookup px_KEPT_BY_8 = some ⟨.type "tuple", none, .seq ix_KEPT_BY_8 mx_KEPT_BY_8, sx_KEPT_BY_8⟩)
    (zx_KEPT_BY_8 : ix_KEPT_BY_8.size ≤ sizeLine)
    (vx_KEPT_BY_8 : Vals [.str (ST [97, 103, 114, 101, 101, 100]), .str (ST [103, 114, 111, 119, 105, 110, 103]), .str (ST [104, 101, 97, 114, 100]), .str (ST [107, 101, 112, 116]), .str (ST [109, 105, 120, 101, 100]), .str (ST [109, 111, 115, 116]), .str (ST [111, 114, 100, 101, 114])] ix_KEPT_BY_8.toList)
    (x_KEPT_BY_9 : PySem.W.nsIn K p_KEPT_BY "most or deny" = some (some (.ref px_KEPT_BY_9)))
    (lx_KEPT_BY_9 : K.lookup px_KEPT_BY_9 = some ⟨.type "tuple", none, .seq ix_KEPT_BY_9 mx_KEPT_BY_9, sx_KEPT_BY_9⟩)
    (zx_KEPT_BY_9 : ix_KEPT_BY_9.size ≤ sizeLine)
    (vx_KEPT_BY_9 : Vals [.str (ST [97, 103, 114, 101, 101, 100]), .str (ST [103, 114, 111, 119, 105, 110, 103]), .str (ST [104, 101, 97, 114, 100]), .str (ST [107, 101, 112, 116]), .str (ST [109, 105, 120, 101, 100]), .str (ST [109, 111, 115, 116]), .str (ST [111, 114, 100, 101, 114])] ix_KEPT_BY_9.toList)
    (x_KEPT_BY_10 : PySem.W.nsIn K p_KEPT_BY "most or first" = some (some (.ref px_KEPT_BY_10)))
    (lx_KEPT_BY_10 : K.lookup px_KEPT_BY_10 = some ⟨.type "tuple", none, .seq ix_KEPT_BY_10 mx_KEPT_BY_10, sx_KEPT_BY_10⟩)
    (zx_KEPT_BY_10 : ix_KEPT_BY_10.size ≤ sizeLine)
    (vx_KEPT_BY_10 : Vals [.str (ST [97, 103, 114, 101, 101, 100]), .str (ST [101, 118, 101, 110]), .str (ST [103, 114, 111, 119, 105, 110, 103]), .str (ST [107, 101, 112, 116]), .str (ST [109, 105, 120, 101, 100]), .str (ST [109, 111, 115, 116])] ix_KEPT_BY_10.toList)
    (x_KEPT_BY_11 : PySem.W.nsIn K p_KEPT_BY "most or last" = some (some (.ref px_KEPT_BY_11)))
    (lx_KEPT_BY_11 : K.lookup px_KEPT_BY_11 = some ⟨.type "tuple", none, .seq ix_KEPT_BY_11 mx_KEPT_BY_11, sx_KEPT_BY_11⟩)
    (zx_KEPT_BY_11 : ix_KEPT_BY_11.size ≤ sizeLine)
    (vx_KEPT_BY_11 : Vals [.str (ST [97, 103, 114, 101, 101, 100]), .str (ST [101, 118, 101, 110]), .str (ST [103, 114, 111, 119, 105, 110, 103]), .str (ST [107, 101, 112, 116]), .str (ST [109, 105, 120, 101, 100]), .str (ST [109, 111, 115, 116])] ix_KEPT_BY_11.toList)
    (x_KEPT_BY_12 : PySem.W.nsIn K p_KEPT_BY "odd" = some (some (.ref px_KEPT_BY_12)))
    (lx_KEPT_BY_12 : K.lookup px_KEPT_BY_12 = some ⟨.type "tuple", none, .seq ix_KEPT_BY_12 mx_KEPT_BY_12, sx_KEPT_BY_12⟩)
    (zx_KEPT_BY_12 : ix_KEPT_BY_12.size ≤ sizeLine)
    (vx_KEPT_BY_12 : Vals [.str (ST [104, 101, 97, 114, 100]), .str (ST [109, 105, 120, 101, 100]), .str (ST [111, 114, 100, 101, 114]), .str (ST [112, 97, 114, 116, 115])] ix_KEPT_BY_12.toList)
    : LamX.LawAtS l w K CX0 9 63 "script" mg fa h := by
  have e0 := hfa.symm.trans (PySem.W.mg_of KX G a_law)
  have e : f_law = fa := (Value.ref.inj (Option.some.inj e0)).symm
  subst e
  let FX : Fx w K mg ⟨([(cp_check_promises, tb_check_promises), (cp_holds_all, tb_holds_all), (cp_keepers, tb_keepers), (cp_lies_in, tb_lies_in), (cp_has_part, tb_has_part)] : List (Addr × Addr)).map (·.2), []⟩ [(cp_check_promises, tb_check_promises), (cp_holds_all, tb_holds_all), (cp_keepers, tb_keepers), (cp_lies_in, tb_lies_in), (cp_has_part, tb_has_part)] := {
    a_check_way := f_check_way,
    d_check_way := (PySem.W.fnOf "check_way" "check_way" (defArgs s_check_way) (defBody s_check_way) (defScope s_check_way) .none kV_check_way dc_check_way pm_check_way an_check_way cd_check_way ct_check_way),
    F_check_way := fun_mk (st := s_check_way) l_check_way c_check_way k_check_way,
    g_check_way := PySem.W.mg_of KX G a_check_way,
    b_check_way := (fun_mk (st := s_check_way) l_check_way c_check_way k_check_way).binds (ps := ["way"]) fun _ _ _ _ _ _ us hl => match us, hl with | [_], _ => rfl,
    a_check_promise := f_check_promise,
    d_check_promise := (PySem.W.fnOf "check_promise" "check_promise" (defArgs s_check_promise) (defBody s_check_promise) (defScope s_check_promise) .none kV_check_promise dc_check_promise pm_check_promise an_check_promise cd_check_promise ct_check_promise),
    F_check_promise := fun_mk (st := s_check_promise) l_check_promise c_check_promise k_check_promise,
    g_check_promise := PySem.W.mg_of KX G a_check_promise,
    b_check_promise := (fun_mk (st := s_check_promise) l_check_promise c_check_promise k_check_promise).binds (ps := ["promise"]) fun _ _ _ _ _ _ us hl => match us, hl with | [_], _ => rfl,
    a_check_promises := f_check_promises,
    d_check_promises := (PySem.W.fnOf "check_promises" "check_promises" (defArgs s_check_promises) (defBody s_check_promises) (defScope s_check_promises) .none kV_check_promises dc_check_promises pm_check_promises an_check_promises (.ref cp_check_promises) ct_check_promises),
    F_check_promises := fun_mk (st := s_check_promises) l_check_promises c_check_promises k_check_promises,
    g_check_promises := PySem.W.mg_of KX G a_check_promises,
    b_check_promises := (fun_mk (st := s_check_promises) l_check_promises c_check_promises k_check_promises).binds (ps := ["wanted"]) fun _ _ _ _ _ _ us hl => match us, hl with | [_], _ => rfl,
    k_check_promises := cp_check_promises,
    t_check_promises := tb_check_promises,
    e_check_promises := rfl,
    m_check_promises := ⟨by simp, by simp⟩,
    a_holds := f_holds,
    d_holds := (PySem.W.fnOf "holds" "holds" (defArgs s_holds) (defBody s_holds) (defScope s_holds) .none kV_holds dc_holds pm_holds an_holds cd_holds ct_holds),
    F_holds := fun_mk (st := s_holds) l_holds c_holds k_holds,
    g_holds := PySem.W.mg_of KX G a_holds,
    b_holds := (fun_mk (st := s_holds) l_holds c_holds k_holds).binds (ps := ["way", "promise"]) fun _ _ _ _ _ _ us hl => match us, hl with | [_, _], _ => rfl,
    a_holds_all := f_holds_all,
    d_holds_all := (PySem.W.fnOf "_holds_all" "_holds_all" (defArgs s_holds_all) (defBody s_holds_all) (defScope s_holds_all) .none kV_holds_all dc_holds_all pm_holds_all an_holds_all (.ref cp_holds_all) ct_holds_all),
    F_holds_all := fun_mk (st := s_holds_all) l_holds_all c_holds_all k_holds_all,
    g_holds_all := PySem.W.mg_of KX G a_holds_all,
    b_holds_all := (fun_mk (st := s_holds_all) l_holds_all c_holds_all k_holds_all).binds (ps := ["way", "wanted"]) fun _ _ _ _ _ _ us hl => match us, hl with | [_, _], _ => rfl,
    k_holds_all := cp_holds_all,
    t_holds_all := tb_holds_all,
    e_holds_all := rfl,
    m_holds_all := ⟨by simp, by simp⟩,
    a_keepers := f_keepers,
    d_keepers := (PySem.W.fnOf "_keepers" "_keepers" (defArgs s_keepers) (defBody s_keepers) (defScope s_keepers) .none kV_keepers dc_keepers pm_keepers an_keepers (.ref cp_keepers) ct_keepers),
    F_keepers := fun_mk (st := s_keepers) l_keepers c_keepers k_keepers,
    g_keepers := PySem.W.mg_of KX G a_keepers,
    b_keepers := (fun_mk (st := s_keepers) l_keepers c_keepers k_keepers).binds (ps := ["wanted"]) fun _ _ _ _ _ _ us hl => match us, hl with | [_], _ => rfl,
    k_keepers := cp_keepers,
    t_keepers := tb_keepers,
    e_keepers := rfl,
    m_keepers := ⟨by simp, by simp⟩,
    a_can_hold := f_can_hold,
    d_can_hold := (PySem.W.fnOf "can_hold" "can_hold" (defArgs s_can_hold) (defBody s_can_hold) (defScope s_can_hold) .none kV_can_hold dc_can_hold pm_can_hold an_can_hold cd_can_hold ct_can_hold),
    F_can_hold := fun_mk (st := s_can_hold) l_can_hold c_can_hold k_can_hold,
    g_can_hold := PySem.W.mg_of KX G a_can_hold,
    b_can_hold := (fun_mk (st := s_can_hold) l_can_hold c_can_hold k_can_hold).binds (ps := ["wanted"]) fun _ _ _ _ _ _ us hl => match us, hl with | [_], _ => rfl,
    a_lies_in := f_lies_in,
    d_lies_in := (PySem.W.fnOf "_lies_in" "_lies_in" (defArgs s_lies_in) (defBody s_lies_in) (defScope s_lies_in) .none kV_lies_in dc_lies_in pm_lies_in an_lies_in (.ref cp_lies_in) ct_lies_in),
    F_lies_in := fun_mk (st := s_lies_in) l_lies_in c_lies_in k_lies_in,
    g_lies_in := PySem.W.mg_of KX G a_lies_in,
    b_lies_in := (fun_mk (st := s_lies_in) l_lies_in c_lies_in k_lies_in).binds (ps := ["part", "group"]) fun _ _ _ _ _ _ us hl => match us, hl with | [_, _], _ => rfl,
    k_lies_in := cp_lies_in,
    t_lies_in := tb_lies_in,
    e_lies_in := rfl,
    m_lies_in := ⟨by simp, by simp⟩,
    a_has_part := f_has_part,
    d_has_part := (PySem.W.fnOf "_has_part" "_has_part" (defArgs s_has_part) (defBody s_has_part) (defScope s_has_part) .none kV_has_part dc_has_part pm_has_part an_has_part (.ref cp_has_part) ct_has_part),
    F_has_part := fun_mk (st := s_has_part) l_has_part c_has_part k_has_part,
    g_has_part := PySem.W.mg_of KX G a_has_part,
    b_has_part := (fun_mk (st := s_has_part) l_has_part c_has_part k_has_part).binds (ps := ["group", "found"]) fun _ _ _ _ _ _ us hl => match us, hl with | [_, _], _ => rfl,
    k_has_part := cp_has_part,
    t_has_part := tb_has_part,
    e_has_part := rfl,
    m_has_part := ⟨by simp, by simp⟩,
    a_least_clashes_in := f_least_clashes_in,
    d_least_clashes_in := (PySem.W.fnOf "_least_clashes_in" "_least_clashes_in" (defArgs s_least_clashes_in) (defBody s_least_clashes_in) (defScope s_least_clashes_in) .none kV_least_clashes_in dc_least_clashes_in pm_least_clashes_in an_least_clashes_in cd_least_clashes_in ct_least_clashes_in),
    F_least_clashes_in := fun_mk (st := s_least_clashes_in) l_least_clashes_in c_least_clashes_in k_least_clashes_in,
    g_least_clashes_in := PySem.W.mg_of KX G a_least_clashes_in,
    b_least_clashes_in := (fun_mk (st := s_least_clashes_in) l_least_clashes_in c_least_clashes_in k_least_clashes_in).binds (ps := ["wanted"]) fun _ _ _ _ _ _ us hl => match us, hl with | [_], _ => rfl,
    a_clashes := f_clashes,
    d_clashes := (PySem.W.fnOf "clashes" "clashes" (defArgs s_clashes) (defBody s_clashes) (defScope s_clashes) .none kV_clashes dc_clashes pm_clashes an_clashes cd_clashes ct_clashes),
    F_clashes := fun_mk (st := s_clashes) l_clashes c_clashes k_clashes,
    g_clashes := PySem.W.mg_of KX G a_clashes,
    b_clashes := (fun_mk (st := s_clashes) l_clashes c_clashes k_clashes).binds (ps := ["wanted"]) fun _ _ _ _ _ _ us hl => match us, hl with | [_], _ => rfl,
    a_law_taken := f_law_taken,
    d_law_taken := (PySem.W.fnOf "_law_taken" "_law_taken" (defArgs s_law_taken) (defBody s_law_taken) (defScope s_law_taken) .none kV_law_taken dc_law_taken pm_law_taken an_law_taken cd_law_taken ct_law_taken),
    F_law_taken := fun_mk (st := s_law_taken) l_law_taken c_law_taken k_law_taken,
    g_law_taken := PySem.W.mg_of KX G a_law_taken,
    b_law_taken := (fun_mk (st := s_law_taken) l_law_taken c_law_taken k_law_taken).binds (ps := ["row", "many"]) fun _ _ _ _ _ _ us hl => match us, hl with | [_, _], _ => rfl,
    a_law_pick := f_law_pick,
    d_law_pick := (PySem.W.fnOf "_law_pick" "_law_pick" (defArgs s_law_pick) (defBody s_law_pick) (defScope s_law_pick) .none kV_law_pick dc_law_pick pm_law_pick an_law_pick cd_law_pick ct_law_pick),
    F_law_pick := fun_mk (st := s_law_pick) l_law_pick c_law_pick k_law_pick,
    g_law_pick := PySem.W.mg_of KX G a_law_pick,
    b_law_pick := (fun_mk (st := s_law_pick) l_law_pick c_law_pick k_law_pick).binds (ps := ["row", "kinds"]) fun _ _ _ _ _ _ us hl => match us, hl with | [_, _], _ => rfl,
    a_law_ways := f_law_ways,
    d_law_ways := (PySem.W.fnOf "_law_ways" "_law_ways" (defArgs s_law_ways) (defBody s_law_ways) (defScope s_law_ways) .none kV_law_ways dc_law_ways pm_law_ways an_law_ways cd_law_ways ct_law_ways),
    F_law_ways := fun_mk (st := s_law_ways) l_law_ways c_law_ways k_law_ways,
    g_law_ways := PySem.W.mg_of KX G a_law_ways,
    b_law_ways := (fun_mk (st := s_law_ways) l_law_ways c_law_ways k_law_ways).binds (ps := []) fun _ _ _ _ _ _ us hl => match us, hl with | [], _ => rfl,
    a_law_promises := f_law_promises,
    d_law_promises := (PySem.W.fnOf "_law_promises" "_law_promises" (defArgs s_law_promises) (defBody s_law_promises) (defScope s_law_promises) .none kV_law_promises dc_law_promises pm_law_promises an_law_promises cd_law_promises ct_law_promises),
    F_law_promises := fun_mk (st := s_law_promises) l_law_promises c_law_promises k_law_promises,
    g_law_promises := PySem.W.mg_of KX G a_law_promises,
    b_law_promises := (fun_mk (st := s_law_promises) l_law_promises c_law_promises k_law_promises).binds (ps := []) fun _ _ _ _ _ _ us hl => match us, hl with | [], _ => rfl,
    a_law_turned := f_law_turned,
    d_law_turned := (PySem.W.fnOf "_law_turned" "_law_turned" (defArgs s_law_turned) (defBody s_law_turned) (defScope s_law_turned) .none kV_law_turned dc_law_turned pm_law_turned an_law_turned cd_law_turned ct_law_turned),
    F_law_turned := fun_mk (st := s_law_turned) l_law_turned c_law_turned k_law_turned,
    g_law_turned := PySem.W.mg_of KX G a_law_turned,
    b_law_turned := (fun_mk (st := s_law_turned) l_law_turned c_law_turned k_law_turned).binds (ps := ["text"]) fun _ _ _ _ _ _ us hl => match us, hl with | [_], _ => rfl,
    a_law_answer := f_law_answer,
    d_law_answer := (PySem.W.fnOf "_law_answer" "_law_answer" (defArgs s_law_answer) (defBody s_law_answer) (defScope s_law_answer) .none kV_law_answer dc_law_answer pm_law_answer an_law_answer cd_law_answer ct_law_answer),
    F_law_answer := fun_mk (st := s_law_answer) l_law_answer c_law_answer k_law_answer,
    g_law_answer := PySem.W.mg_of KX G a_law_answer,
    b_law_answer := (fun_mk (st := s_law_answer) l_law_answer c_law_answer k_law_answer).binds (ps := ["way", "text"]) fun _ _ _ _ _ _ us hl => match us, hl with | [_, _], _ => rfl,
    a_law_rows := f_law_rows,
    d_law_rows := (PySem.W.fnOf "_law_rows" "_law_rows" (defArgs s_law_rows) (defBody s_law_rows) (defScope s_law_rows) .none kV_law_rows dc_law_rows pm_law_rows an_law_rows cd_law_rows ct_law_rows),
    F_law_rows := fun_mk (st := s_law_rows) l_law_rows c_law_rows k_law_rows,
    g_law_rows := PySem.W.mg_of KX G a_law_rows,
    b_law_rows := (fun_mk (st := s_law_rows) l_law_rows c_law_rows k_law_rows).binds (ps := ["length"]) fun _ _ _ _ _ _ us hl => match us, hl with | [_], _ => rfl,
    a_law_short := f_law_short,
    d_law_short := (PySem.W.fnOf "_law_short" "_law_short" (defArgs s_law_short) (defBody s_law_short) (defScope s_law_short) .none kV_law_short dc_law_short pm_law_short an_law_short cd_law_short ct_law_short),
    F_law_short := fun_mk (st := s_law_short) l_law_short c_law_short k_law_short,
    g_law_short := PySem.W.mg_of KX G a_law_short,
    b_law_short := (fun_mk (st := s_law_short) l_law_short c_law_short k_law_short).binds (ps := ["most"]) fun _ _ _ _ _ _ us hl => match us, hl with | [_], _ => rfl,
    a_law_flip := f_law_flip,
    d_law_flip := (PySem.W.fnOf "_law_flip" "_law_flip" (defArgs s_law_flip) (defBody s_law_flip) (defScope s_law_flip) .none kV_law_flip dc_law_flip pm_law_flip an_law_flip cd_law_flip ct_law_flip),
    F_law_flip := fun_mk (st := s_law_flip) l_law_flip c_law_flip k_law_flip,
    g_law_flip := PySem.W.mg_of KX G a_law_flip,
    b_law_flip := (fun_mk (st := s_law_flip) l_law_flip c_law_flip k_law_flip).binds (ps := ["text", "at"]) fun _ _ _ _ _ _ us hl => match us, hl with | [_, _], _ => rfl,
    a_law_torn := f_law_torn,
    d_law_torn := (PySem.W.fnOf "_law_torn" "_law_torn" (defArgs s_law_torn) (defBody s_law_torn) (defScope s_law_torn) .none kV_law_torn dc_law_torn pm_law_torn an_law_torn cd_law_torn ct_law_torn),
    F_law_torn := fun_mk (st := s_law_torn) l_law_torn c_law_torn k_law_torn,
    g_law_torn := PySem.W.mg_of KX G a_law_torn,
    b_law_torn := (fun_mk (st := s_law_torn) l_law_torn c_law_torn k_law_torn).binds (ps := ["told", "promise", "text"]) fun _ _ _ _ _ _ us hl => match us, hl with | [_, _, _], _ => rfl,
    a_law_deaf := f_law_deaf,
    d_law_deaf := (PySem.W.fnOf "_law_deaf" "_law_deaf" (defArgs s_law_deaf) (defBody s_law_deaf) (defScope s_law_deaf) .none kV_law_deaf dc_law_deaf pm_law_deaf an_law_deaf cd_law_deaf ct_law_deaf),
    F_law_deaf := fun_mk (st := s_law_deaf) l_law_deaf c_law_deaf k_law_deaf,
    g_law_deaf := PySem.W.mg_of KX G a_law_deaf,
    b_law_deaf := (fun_mk (st := s_law_deaf) l_law_deaf c_law_deaf k_law_deaf).binds (ps := ["told", "length"]) fun _ _ _ _ _ _ us hl => match us, hl with | [_, _], _ => rfl,
    a_law_fine := f_law_fine,
    d_law_fine := (PySem.W.fnOf "_law_fine" "_law_fine" (defArgs s_law_fine) (defBody s_law_fine) (defScope s_law_fine) .none kV_law_fine dc_law_fine pm_law_fine an_law_fine cd_law_fine ct_law_fine),
    F_law_fine := fun_mk (st := s_law_fine) l_law_fine c_law_fine k_law_fine,
    g_law_fine := PySem.W.mg_of KX G a_law_fine,
    b_law_fine := (fun_mk (st := s_law_fine) l_law_fine c_law_fine k_law_fine).binds (ps := ["told", "promise", "most"]) fun _ _ _ _ _ _ us hl => match us, hl with | [_, _, _], _ => rfl,
    a_law_table := f_law_table,
    d_law_table := (PySem.W.fnOf "_law_table" "_law_table" (defArgs s_law_table) (defBody s_law_table) (defScope s_law_table) .none kV_law_table dc_law_table pm_law_table an_law_table cd_law_table ct_law_table),
    F_law_table := fun_mk (st := s_law_table) l_law_table c_law_table k_law_table,
    g_law_table := PySem.W.mg_of KX G a_law_table,
    b_law_table := (fun_mk (st := s_law_table) l_law_table c_law_table k_law_table).binds (ps := ["row"]) fun _ _ _ _ _ _ us hl => match us, hl with | [_], _ => rfl,
    a_law := f_law,
    d_law := (PySem.W.fnOf "law" "law" (defArgs s_law) (defBody s_law) (defScope s_law) .none kV_law dc_law pm_law an_law cd_law ct_law),
    F_law := fun_mk (st := s_law) l_law c_law k_law,
    g_law := PySem.W.mg_of KX G a_law,
    b_law := (fun_mk (st := s_law) l_law c_law k_law).binds (ps := ["script"]) fun _ _ _ _ _ _ us hl => match us, hl with | [_], _ => rfl,
    c_WAYS := ⟨.ref p_CWAYS, .ref p_CWAYS, PySem.W.mg_of KX G n_WAYS, rfl, (wr_tup l_CWAYS z_CWAYS v_CWAYS (.cons (wr_atom fun _ => .str) (.cons (wr_atom fun _ => .str) (.cons (wr_atom fun _ => .str) (.cons (wr_atom fun _ => .str) (.cons (wr_atom fun _ => .str) (.cons (wr_atom fun _ => .str) (.cons (wr_atom fun _ => .str) (.cons (wr_atom fun _ => .str) (.cons (wr_atom fun _ => .str) (.cons (wr_atom fun _ => .str) (.cons (wr_atom fun _ => .str) (.cons (wr_atom fun _ => .str) (.cons (wr_atom fun _ => .str) .nil))))))))))))))⟩,
    c_PROMISES := ⟨.ref p_CPROMISES, .ref p_CPROMISES, PySem.W.mg_of KX G n_PROMISES, rfl, (wr_tup l_CPROMISES z_CPROMISES v_CPROMISES (.cons (wr_atom fun _ => .str) (.cons (wr_atom fun _ => .str) (.cons (wr_atom fun _ => .str) (.cons (wr_atom fun _ => .str) (.cons (wr_atom fun _ => .str) (.cons (wr_atom fun _ => .str) (.cons (wr_atom fun _ => .str) (.cons (wr_atom fun _ => .str) (.cons (wr_atom fun _ => .str) (.cons (wr_atom fun _ => .str) .nil)))))))))))⟩,
    z_isinstance := PySem.W.mg_none_of KX G z_isinstance,
    z_tuple := PySem.W.mg_none_of KX G z_tuple,
    z_len := PySem.W.mg_none_of KX G z_len,
    z_all := PySem.W.mg_none_of KX G z_all,
    z_list := PySem.W.mg_none_of KX G z_list,
    z_any := PySem.W.mg_none_of KX G z_any,
    z_range := PySem.W.mg_none_of KX G z_range,
    z_int := PySem.W.mg_none_of KX G z_int,
    z_set := PySem.W.mg_none_of KX G z_set,
    A := fun j => ([] : List Addr).getD j 0,
    g_cmb := PySem.W.mg_of KX G n_cmb,
    ad_KEPT_BY := p_KEPT_BY,
    g_KEPT_BY := PySem.W.mg_of KX G n_KEPT_BY,
    k_KEPT_BY := ktab_of (by
      intro p hp
      simp only [tb_KEPT_BY, List.mem_cons, List.not_mem_nil, or_false] at hp
      rcases hp with rfl | rfl | rfl | rfl | rfl | rfl | rfl | rfl | rfl | rfl | rfl | rfl | rfl
      · exact ⟨.ref px_KEPT_BY_0, ⟨es_KEPT_BY, m_KEPT_BY, _, l_KEPT_BY, kl_KEPT_BY, x_KEPT_BY_0, rfl⟩, (wr_tup lx_KEPT_BY_0 zx_KEPT_BY_0 vx_KEPT_BY_0 (.cons (wr_atom fun _ => .str) (.cons (wr_atom fun _ => .str) (.cons (wr_atom fun _ => .str) (.cons (wr_atom fun _ => .str) (.cons (wr_atom fun _ => .str) (.cons (wr_atom fun _ => .str) (.cons (wr_atom fun _ => .str) .nil))))))))⟩
      · exact ⟨.ref px_KEPT_BY_1, ⟨es_KEPT_BY, m_KEPT_BY, _, l_KEPT_BY, kl_KEPT_BY, x_KEPT_BY_1, rfl⟩, (wr_tup lx_KEPT_BY_1 zx_KEPT_BY_1 vx_KEPT_BY_1 (.cons (wr_atom fun _ => .str) (.cons (wr_atom fun _ => .str) (.cons (wr_atom fun _ => .str) (.cons (wr_atom fun _ => .str) (.cons (wr_atom fun _ => .str) .nil))))))⟩
      · exact ⟨.ref px_KEPT_BY_2, ⟨es_KEPT_BY, m_KEPT_BY, _, l_KEPT_BY, kl_KEPT_BY, x_KEPT_BY_2, rfl⟩, (wr_tup lx_KEPT_BY_2 zx_KEPT_BY_2 vx_KEPT_BY_2 (.cons (wr_atom fun _ => .str) (.cons (wr_atom fun _ => .str) (.cons (wr_atom fun _ => .str) (.cons (wr_atom fun _ => .str) (.cons (wr_atom fun _ => .str) .nil))))))⟩
      · exact ⟨.ref px_KEPT_BY_3, ⟨es_KEPT_BY, m_KEPT_BY, _, l_KEPT_BY, kl_KEPT_BY, x_KEPT_BY_3, rfl⟩, (wr_tup lx_KEPT_BY_3 zx_KEPT_BY_3 vx_KEPT_BY_3 (.cons (wr_atom fun _ => .str) (.cons (wr_atom fun _ => .str) (.cons (wr_atom fun _ => .str) (.cons (wr_atom fun _ => .str) (.cons (wr_atom fun _ => .str) .nil))))))⟩
      · exact ⟨.ref px_KEPT_BY_4, ⟨es_KEPT_BY, m_KEPT_BY, _, l_KEPT_BY, kl_KEPT_BY, x_KEPT_BY_4, rfl⟩, (wr_tup lx_KEPT_BY_4 zx_KEPT_BY_4 vx_KEPT_BY_4 (.cons (wr_atom fun _ => .str) (.cons (wr_atom fun _ => .str) (.cons (wr_atom fun _ => .str) (.cons (wr_atom fun _ => .str) (.cons (wr_atom fun _ => .str) (.cons (wr_atom fun _ => .str) (.cons (wr_atom fun _ => .str) .nil))))))))⟩
      · exact ⟨.ref px_KEPT_BY_5, ⟨es_KEPT_BY, m_KEPT_BY, _, l_KEPT_BY, kl_KEPT_BY, x_KEPT_BY_5, rfl⟩, (wr_tup lx_KEPT_BY_5 zx_KEPT_BY_5 vx_KEPT_BY_5 (.cons (wr_atom fun _ => .str) (.cons (wr_atom fun _ => .str) (.cons (wr_atom fun _ => .str) (.cons (wr_atom fun _ => .str) (.cons (wr_atom fun _ => .str) (.cons (wr_atom fun _ => .str) (.cons (wr_atom fun _ => .str) .nil))))))))⟩
      · exact ⟨.ref px_KEPT_BY_6, ⟨es_KEPT_BY, m_KEPT_BY, _, l_KEPT_BY, kl_KEPT_BY, x_KEPT_BY_6, rfl⟩, (wr_tup lx_KEPT_BY_6 zx_KEPT_BY_6 vx_KEPT_BY_6 (.cons (wr_atom fun _ => .str) (.cons (wr_atom fun _ => .str) (.cons (wr_atom fun _ => .str) (.cons (wr_atom fun _ => .str) .nil)))))⟩
      · exact ⟨.ref px_KEPT_BY_7, ⟨es_KEPT_BY, m_KEPT_BY, _, l_KEPT_BY, kl_KEPT_BY, x_KEPT_BY_7, rfl⟩, (wr_tup lx_KEPT_BY_7 zx_KEPT_BY_7 vx_KEPT_BY_7 (.cons (wr_atom fun _ => .str) (.cons (wr_atom fun _ => .str) (.cons (wr_atom fun _ => .str) (.cons (wr_atom fun _ => .str) (.cons (wr_atom fun _ => .str) (.cons (wr_atom fun _ => .str) (.cons (wr_atom fun _ => .str) .nil))))))))⟩
      · exact ⟨.ref px_KEPT_BY_8, ⟨es_KEPT_BY, m_KEPT_BY, _, l_KEPT_BY, kl_KEPT_BY, x_KEPT_BY_8, rfl⟩, (wr_tup lx_KEPT_BY_8 zx_KEPT_BY_8 vx_KEPT_BY_8 (.cons (wr_atom fun _ => .str) (.cons (wr_atom fun _ => .str) (.cons (wr_atom fun _ => .str) (.cons (wr_atom fun _ => .str) (.cons (wr_atom fun _ => .str) (.cons (wr_atom fun _ => .str) (.cons (wr_atom fun _ => .str) .nil))))))))⟩
      · exact ⟨.ref px_KEPT_BY_9, ⟨es_KEPT_BY, m_KEPT_BY, _, l_KEPT_BY, kl_KEPT_BY, x_KEPT_BY_9, rfl⟩, (wr_tup lx_KEPT_BY_9 zx_KEPT_BY_9 vx_KEPT_BY_9 (.cons (wr_atom fun _ => .str) (.cons (wr_atom fun _ => .str) (.cons (wr_atom fun _ => .str) (.cons (wr_atom fun _ => .str) (.cons (wr_atom fun _ => .str) (.cons (wr_atom fun _ => .str) (.cons (wr_atom fun _ => .str) .nil))))))))⟩
      · exact ⟨.ref px_KEPT_BY_10, ⟨es_KEPT_BY, m_KEPT_BY, _, l_KEPT_BY, kl_KEPT_BY, x_KEPT_BY_10, rfl⟩, (wr_tup lx_KEPT_BY_10 zx_KEPT_BY_10 vx_KEPT_BY_10 (.cons (wr_atom fun _ => .str) (.cons (wr_atom fun _ => .str) (.cons (wr_atom fun _ => .str) (.cons (wr_atom fun _ => .str) (.cons (wr_atom fun _ => .str) (.cons (wr_atom fun _ => .str) .nil)))))))⟩
      · exact ⟨.ref px_KEPT_BY_11, ⟨es_KEPT_BY, m_KEPT_BY, _, l_KEPT_BY, kl_KEPT_BY, x_KEPT_BY_11, rfl⟩, (wr_tup lx_KEPT_BY_11 zx_KEPT_BY_11 vx_KEPT_BY_11 (.cons (wr_atom fun _ => .str) (.cons (wr_atom fun _ => .str) (.cons (wr_atom fun _ => .str) (.cons (wr_atom fun _ => .str) (.cons (wr_atom fun _ => .str) (.cons (wr_atom fun _ => .str) .nil)))))))⟩
      · exact ⟨.ref px_KEPT_BY_12, ⟨es_KEPT_BY, m_KEPT_BY, _, l_KEPT_BY, kl_KEPT_BY, x_KEPT_BY_12, rfl⟩, (wr_tup lx_KEPT_BY_12 zx_KEPT_BY_12 vx_KEPT_BY_12 (.cons (wr_atom fun _ => .str) (.cons (wr_atom fun _ => .str) (.cons (wr_atom fun _ => .str) (.cons (wr_atom fun _ => .str) .nil)))))⟩) }
  have T_check_promises := tab _ _ cp_check_promises tb_check_promises r_check_promises (tabIn_of a_check_promises l_check_promises rfl u_check_promises v_check_promises)
  have T_holds_all := tab _ _ cp_holds_all tb_holds_all r_holds_all (tabIn_of a_holds_all l_holds_all rfl u_holds_all v_holds_all)
  have T_keepers := tab _ _ cp_keepers tb_keepers r_keepers (tabIn_of a_keepers l_keepers rfl u_keepers v_keepers)
  have T_lies_in := tab _ _ cp_lies_in tb_lies_in r_lies_in (tabIn_of a_lies_in l_lies_in rfl u_lies_in v_lies_in)
  have T_has_part := tab _ _ cp_has_part tb_has_part r_has_part (tabIn_of a_has_part l_has_part rfl u_has_part v_has_part)
  have hT : ∀ p ∈ ([(cp_check_promises, tb_check_promises), (cp_holds_all, tb_holds_all), (cp_keepers, tb_keepers), (cp_lies_in, tb_lies_in), (cp_has_part, tb_has_part)] : List (Addr × Addr)), h.get? p.2 = some { cls := .none, data := .fields #[] } := by
    intro p hp
    simp only [List.mem_cons, List.not_mem_nil, or_false] at hp
    rcases hp with rfl | rfl | rfl | rfl | rfl
    · exact T_check_promises.2
    · exact T_holds_all.2
    · exact T_keepers.2
    · exact T_lies_in.2
    · exact T_has_part.2
  have nT : ∀ p ∈ ([(cp_check_promises, tb_check_promises), (cp_holds_all, tb_holds_all), (cp_keepers, tb_keepers), (cp_lies_in, tb_lies_in), (cp_has_part, tb_has_part)] : List (Addr × Addr)), K.lookup p.2 = none := by
    intro p hp
    simp only [List.mem_cons, List.not_mem_nil, or_false] at hp
    rcases hp with rfl | rfl | rfl | rfl | rfl
    · exact n_check_promises
    · exact n_holds_all
    · exact n_keepers
    · exact n_lies_in
    · exact n_has_part
  have hC : ∀ p ∈ ([(cp_check_promises, tb_check_promises), (cp_holds_all, tb_holds_all), (cp_keepers, tb_keepers), (cp_lies_in, tb_lies_in), (cp_has_part, tb_has_part)] : List (Addr × Addr)), PySem.W.CodeHd h p.1 p.2 := by
    intro p hp
    simp only [List.mem_cons, List.not_mem_nil, or_false] at hp
    rcases hp with rfl | rfl | rfl | rfl | rfl
    · exact T_check_promises.1
    · exact T_holds_all.1
    · exact T_keepers.1
    · exact T_lies_in.1
    · exact T_has_part.1
  exact ⟨FX.d_law, [(cp_check_promises, tb_check_promises), (cp_holds_all, tb_holds_all), (cp_keepers, tb_keepers), (cp_lies_in, tb_lies_in), (cp_has_part, tb_has_part)], spLaw K [(cp_check_promises, tb_check_promises), (cp_holds_all, tb_holds_all), (cp_keepers, tb_keepers), (cp_lies_in, tb_lies_in), (cp_has_part, tb_has_part)], hT, nT, hC, fun s v => .of_eq rfl, fun H a ns hl hb ht hS => ⟨a, ns, rfl, hS, hl, hb, ht, fun _ => rfl⟩, fun base hb hns TB => ok_law FX (fun p hp => ⟨(TB p hp).code, (TB p hp).bm, (TB p hp).gP⟩) (fun P h => h) (fun p h => by cases h) (fun p h => by cases h) (law_true _ _)⟩
end K05
set_option Elab.async false
set_option linter.all false
set_option maxRecDepth 100000
open PySem PySem.W PyProof.Rows
set_option maxHeartbeats 0 in
theorem PySem.Challenge.cw_rulevoices_k05_whole_any_table_holds : PySem.Challenge.rw_rulevoices_k05_whole_any_table.Holds := by
  w_on; o_law; k_head; (case hw => w_witness2)
  k_fill
  refine DL.walk_D (l := PySem.Challenge.rw_rulevoices_k05_whole_any_table) (n := 63) (k := 9) (x := "script") (CX := fun _ => L2.CX0) rfl (by decide) rfl ⟨rfl, by decide, by decide⟩ (fun w h Y => PySem.W.kIn_of Y) ?F (fun w H s e s' h => h)
  case F =>
    intro w mg fa h Y KX G hmg tab
    refine' K05.at_mk KX G hmg tab ?a_check_way ?l_check_way ?c_check_way ?k_check_way ?a_check_promise ?l_check_promise ?c_check_promise ?k_check_promise ?a_check_promises ?l_check_promises ?c_check_promises ?k_check_promises ?u_check_promises ?v_check_promises ?n_check_promises ?r_check_promises ?a_holds ?l_holds ?c_holds ?k_holds ?a_holds_all ?l_holds_all ?c_holds_all ?k_holds_all ?u_holds_all ?v_holds_all ?n_holds_all ?r_holds_all ?a_keepers ?l_keepers ?c_keepers ?k_keepers ?u_keepers ?v_keepers ?n_keepers ?r_keepers ?a_can_hold ?l_can_hold ?c_can_hold ?k_can_hold ?a_lies_in ?l_lies_in ?c_lies_in ?k_lies_in ?u_lies_in ?v_lies_in ?n_lies_in ?r_lies_in ?a_has_part ?l_has_part ?c_has_part ?k_has_part ?u_has_part ?v_has_part ?n_has_part ?r_has_part ?a_least_clashes_in ?l_least_clashes_in ?c_least_clashes_in ?k_least_clashes_in ?a_clashes ?l_clashes ?c_clashes ?k_clashes ?a_law_taken ?l_law_taken ?c_law_taken ?k_law_taken ?a_law_pick ?l_law_pick ?c_law_pick ?k_law_pick ?a_law_ways ?l_law_ways ?c_law_ways ?k_law_ways ?a_law_promises ?l_law_promises ?c_law_promises ?k_law_promises ?a_law_turned ?l_law_turned ?c_law_turned ?k_law_turned ?a_law_answer ?l_law_answer ?c_law_answer ?k_law_answer ?a_law_rows ?l_law_rows ?c_law_rows ?k_law_rows ?a_law_short ?l_law_short ?c_law_short ?k_law_short ?a_law_flip ?l_law_flip ?c_law_flip ?k_law_flip ?a_law_torn ?l_law_torn ?c_law_torn ?k_law_torn ?a_law_deaf ?l_law_deaf ?c_law_deaf ?k_law_deaf ?a_law_fine ?l_law_fine ?c_law_fine ?k_law_fine ?a_law_table ?l_law_table ?c_law_table ?k_law_table ?a_law ?l_law ?c_law ?k_law ?n_WAYS ?l_CWAYS ?z_CWAYS ?v_CWAYS ?n_PROMISES ?l_CPROMISES ?z_CPROMISES ?v_CPROMISES ?z_isinstance ?z_tuple ?z_len ?z_all ?z_list ?z_any ?z_range ?z_int ?z_set ?n_cmb ?n_KEPT_BY ?l_KEPT_BY ?kl_KEPT_BY ?x_KEPT_BY_0 ?lx_KEPT_BY_0 ?zx_KEPT_BY_0 ?vx_KEPT_BY_0 ?x_KEPT_BY_1 ?lx_KEPT_BY_1 ?zx_KEPT_BY_1 ?vx_KEPT_BY_1 ?x_KEPT_BY_2 ?lx_KEPT_BY_2 ?zx_KEPT_BY_2 ?vx_KEPT_BY_2 ?x_KEPT_BY_3 ?lx_KEPT_BY_3 ?zx_KEPT_BY_3 ?vx_KEPT_BY_3 ?x_KEPT_BY_4 ?lx_KEPT_BY_4 ?zx_KEPT_BY_4 ?vx_KEPT_BY_4 ?x_KEPT_BY_5 ?lx_KEPT_BY_5 ?zx_KEPT_BY_5 ?vx_KEPT_BY_5 ?x_KEPT_BY_6 ?lx_KEPT_BY_6 ?zx_KEPT_BY_6 ?vx_KEPT_BY_6 ?x_KEPT_BY_7 ?lx_KEPT_BY_7 ?zx_KEPT_BY_7 ?vx_KEPT_BY_7 ?x_KEPT_BY_8 ?lx_KEPT_BY_8 ?zx_KEPT_BY_8 ?vx_KEPT_BY_8 ?x_KEPT_BY_9 ?lx_KEPT_BY_9 ?zx_KEPT_BY_9 ?vx_KEPT_BY_9 ?x_KEPT_BY_10 ?lx_KEPT_BY_10 ?zx_KEPT_BY_10 ?vx_KEPT_BY_10 ?x_KEPT_BY_11 ?lx_KEPT_BY_11 ?zx_KEPT_BY_11 ?vx_KEPT_BY_11 ?x_KEPT_BY_12 ?lx_KEPT_BY_12 ?zx_KEPT_BY_12 ?vx_KEPT_BY_12
    (case a_check_way => k_is)
    (case l_check_way => k_is)
    (case c_check_way => k_is)
    (case k_check_way => k_is)
    (case a_check_promise => k_is)
    (case l_check_promise => k_is)
    (case c_check_promise => k_is)
    (case k_check_promise => k_is)
    (case a_check_promises => k_is)
    (case l_check_promises => k_is)
    (case c_check_promises => k_is)
    (case k_check_promises => k_is)
    (case u_check_promises => k_is)
    (case v_check_promises => exact rfl)
    (case n_check_promises => kernel_rfl)
    (case r_check_promises => exact rfl)
    (case a_holds => k_is)
    (case l_holds => k_is)
    (case c_holds => k_is)
    (case k_holds => k_is)
    (case a_holds_all => k_is)
    (case l_holds_all => k_is)
    (case c_holds_all => k_is)
    (case k_holds_all => k_is)
    (case u_holds_all => k_is)
    (case v_holds_all => exact rfl)
    (case n_holds_all => kernel_rfl)
    (case r_holds_all => exact rfl)
    (case a_keepers => k_is)
    (case l_keepers => k_is)
    (case c_keepers => k_is)
    (case k_keepers => k_is)
    (case u_keepers => k_is)
    (case v_keepers => exact rfl)
    (case n_keepers => kernel_rfl)
    (case r_keepers => exact rfl)
    (case a_can_hold => k_is)
    (case l_can_hold => k_is)
    (case c_can_hold => k_is)
    (case k_can_hold => k_is)
    (case a_lies_in => k_is)
    (case l_lies_in => k_is)
    (case c_lies_in => k_is)
    (case k_lies_in => k_is)
    (case u_lies_in => k_is)
    (case v_lies_in => exact rfl)
    (case n_lies_in => kernel_rfl)
    (case r_lies_in => exact rfl)
    (case a_has_part => k_is)
    (case l_has_part => k_is)
    (case c_has_part => k_is)
    (case k_has_part => k_is)
    (case u_has_part => k_is)
    (case v_has_part => exact rfl)
    (case n_has_part => kernel_rfl)
    (case r_has_part => exact rfl)
    (case a_least_clashes_in => k_is)
    (case l_least_clashes_in => k_is)
    (case c_least_clashes_in => k_is)
    (case k_least_clashes_in => k_is)
    (case a_clashes => k_is)
    (case l_clashes => k_is)
    (case c_clashes => k_is)
    (case k_clashes => k_is)
    (case a_law_taken => k_is)
    (case l_law_taken => k_is)
    (case c_law_taken => k_is)
    (case k_law_taken => k_is)
    (case a_law_pick => k_is)
    (case l_law_pick => k_is)
    (case c_law_pick => k_is)
    (case k_law_pick => k_is)
    (case a_law_ways => k_is)
    (case l_law_ways => k_is)
    (case c_law_ways => k_is)
    (case k_law_ways => k_is)
    (case a_law_promises => k_is)
    (case l_law_promises => k_is)
    (case c_law_promises => k_is)
    (case k_law_promises => k_is)
    (case a_law_turned => k_is)
    (case l_law_turned => k_is)
    (case c_law_turned => k_is)
    (case k_law_turned => k_is)
    (case a_law_answer => k_is)
    (case l_law_answer => k_is)
    (case c_law_answer => k_is)
    (case k_law_answer => k_is)
    (case a_law_rows => k_is)
    (case l_law_rows => k_is)
    (case c_law_rows => k_is)
    (case k_law_rows => k_is)
    (case a_law_short => k_is)
    (case l_law_short => k_is)
    (case c_law_short => k_is)
    (case k_law_short => k_is)
    (case a_law_flip => k_is)
    (case l_law_flip => k_is)
    (case c_law_flip => k_is)
    (case k_law_flip => k_is)
    (case a_law_torn => k_is)
    (case l_law_torn => k_is)
    (case c_law_torn => k_is)
    (case k_law_torn => k_is)
    (case a_law_deaf => k_is)
    (case l_law_deaf => k_is)
    (case c_law_deaf => k_is)
    (case k_law_deaf => k_is)
    (case a_law_fine => k_is)
    (case l_law_fine => k_is)
    (case c_law_fine => k_is)
    (case k_law_fine => k_is)
    (case a_law_table => k_is)
    (case l_law_table => k_is)
    (case c_law_table => k_is)
    (case k_law_table => k_is)
    (case a_law => k_is)
    (case l_law => k_is)
    (case c_law => k_is)
    (case k_law => k_is)
    (case n_WAYS => k_is)
    (case l_CWAYS => k_is)
    (case z_CWAYS => exact DL.small_len (by decide))
    (case v_CWAYS => exact (.cons ⟨_, rfl⟩ (.cons ⟨_, rfl⟩ (.cons ⟨_, rfl⟩ (.cons ⟨_, rfl⟩ (.cons ⟨_, rfl⟩ (.cons ⟨_, rfl⟩ (.cons ⟨_, rfl⟩ (.cons ⟨_, rfl⟩ (.cons ⟨_, rfl⟩ (.cons ⟨_, rfl⟩ (.cons ⟨_, rfl⟩ (.cons ⟨_, rfl⟩ (.cons ⟨_, rfl⟩ .nil))))))))))))))
    (case n_PROMISES => k_is)
    (case l_CPROMISES => k_is)
    (case z_CPROMISES => exact DL.small_len (by decide))
    (case v_CPROMISES => exact (.cons ⟨_, rfl⟩ (.cons ⟨_, rfl⟩ (.cons ⟨_, rfl⟩ (.cons ⟨_, rfl⟩ (.cons ⟨_, rfl⟩ (.cons ⟨_, rfl⟩ (.cons ⟨_, rfl⟩ (.cons ⟨_, rfl⟩ (.cons ⟨_, rfl⟩ (.cons ⟨_, rfl⟩ .nil)))))))))))
    (case z_isinstance => k_is)
    (case z_tuple => k_is)
    (case z_len => k_is)
    (case z_all => k_is)
    (case z_list => k_is)
    (case z_any => k_is)
    (case z_range => k_is)
    (case z_int => k_is)
    (case z_set => k_is)
    (case n_cmb => k_is)
    (case n_KEPT_BY => k_is)
    (case l_KEPT_BY => k_is)
    (case kl_KEPT_BY => repeat (first | exact True.intro | refine ⟨⟨_, _, rfl, rfl⟩, ?_⟩))
    (case x_KEPT_BY_0 => k_is)
    (case lx_KEPT_BY_0 => k_is)
    (case zx_KEPT_BY_0 => exact DL.small_len (by decide))
    (case vx_KEPT_BY_0 => exact (.cons ⟨_, rfl⟩ (.cons ⟨_, rfl⟩ (.cons ⟨_, rfl⟩ (.cons ⟨_, rfl⟩ (.cons ⟨_, rfl⟩ (.cons ⟨_, rfl⟩ (.cons ⟨_, rfl⟩ .nil))))))))
    (case x_KEPT_BY_1 => k_is)
    (case lx_KEPT_BY_1 => k_is)
    (case zx_KEPT_BY_1 => exact DL.small_len (by decide))
    (case vx_KEPT_BY_1 => exact (.cons ⟨_, rfl⟩ (.cons ⟨_, rfl⟩ (.cons ⟨_, rfl⟩ (.cons ⟨_, rfl⟩ (.cons ⟨_, rfl⟩ .nil))))))
    (case x_KEPT_BY_2 => k_is)
    (case lx_KEPT_BY_2 => k_is)
    (case zx_KEPT_BY_2 => exact DL.small_len (by decide))
    (case vx_KEPT_BY_2 => exact (.cons ⟨_, rfl⟩ (.cons ⟨_, rfl⟩ (.cons ⟨_, rfl⟩ (.cons ⟨_, rfl⟩ (.cons ⟨_, rfl⟩ .nil))))))
    (case x_KEPT_BY_3 => k_is)
    (case lx_KEPT_BY_3 => k_is)
    (case zx_KEPT_BY_3 => exact DL.small_len (by decide))
    (case vx_KEPT_BY_3 => exact (.cons ⟨_, rfl⟩ (.cons ⟨_, rfl⟩ (.cons ⟨_, rfl⟩ (.cons ⟨_, rfl⟩ (.cons ⟨_, rfl⟩ .nil))))))
    (case x_KEPT_BY_4 => k_is)
    (case lx_KEPT_BY_4 => k_is)
    (case zx_KEPT_BY_4 => exact DL.small_len (by decide))
    (case vx_KEPT_BY_4 => exact (.cons ⟨_, rfl⟩ (.cons ⟨_, rfl⟩ (.cons ⟨_, rfl⟩ (.cons ⟨_, rfl⟩ (.cons ⟨_, rfl⟩ (.cons ⟨_, rfl⟩ (.cons ⟨_, rfl⟩ .nil))))))))
    (case x_KEPT_BY_5 => k_is)
    (case lx_KEPT_BY_5 => k_is)
    (case zx_KEPT_BY_5 => exact DL.small_len (by decide))
    (case vx_KEPT_BY_5 => exact (.cons ⟨_, rfl⟩ (.cons ⟨_, rfl⟩ (.cons ⟨_, rfl⟩ (.cons ⟨_, rfl⟩ (.cons ⟨_, rfl⟩ (.cons ⟨_, rfl⟩ (.cons ⟨_, rfl⟩ .nil))))))))
    (case x_KEPT_BY_6 => k_is)
    (case lx_KEPT_BY_6 => k_is)
    (case zx_KEPT_BY_6 => exact DL.small_len (by decide))
    (case vx_KEPT_BY_6 => exact (.cons ⟨_, rfl⟩ (.cons ⟨_, rfl⟩ (.cons ⟨_, rfl⟩ (.cons ⟨_, rfl⟩ .nil)))))
    (case x_KEPT_BY_7 => k_is)
    (case lx_KEPT_BY_7 => k_is)
    (case zx_KEPT_BY_7 => exact DL.small_len (by decide))
    (case vx_KEPT_BY_7 => exact (.cons ⟨_, rfl⟩ (.cons ⟨_, rfl⟩ (.cons ⟨_, rfl⟩ (.cons ⟨_, rfl⟩ (.cons ⟨_, rfl⟩ (.cons ⟨_, rfl⟩ (.cons ⟨_, rfl⟩ .nil))))))))
    (case x_KEPT_BY_8 => k_is)
    (case lx_KEPT_BY_8 => k_is)
    (case zx_KEPT_BY_8 => exact DL.small_len (by decide))
    (case vx_KEPT_BY_8 => exact (.cons ⟨_, rfl⟩ (.cons ⟨_, rfl⟩ (.cons ⟨_, rfl⟩ (.cons ⟨_, rfl⟩ (.cons ⟨_, rfl⟩ (.cons ⟨_, rfl⟩ (.cons ⟨_, rfl⟩ .nil))))))))
    (case x_KEPT_BY_9 => k_is)
    (case lx_KEPT_BY_9 => k_is)
    (case zx_KEPT_BY_9 => exact DL.small_len (by decide))
    (case vx_KEPT_BY_9 => exact (.cons ⟨_, rfl⟩ (.cons ⟨_, rfl⟩ (.cons ⟨_, rfl⟩ (.cons ⟨_, rfl⟩ (.cons ⟨_, rfl⟩ (.cons ⟨_, rfl⟩ (.cons ⟨_, rfl⟩ .nil))))))))
    (case x_KEPT_BY_10 => k_is)
    (case lx_KEPT_BY_10 => k_is)
    (case zx_KEPT_BY_10 => exact DL.small_len (by decide))
    (case vx_KEPT_BY_10 => exact (.cons ⟨_, rfl⟩ (.cons ⟨_, rfl⟩ (.cons ⟨_, rfl⟩ (.cons ⟨_, rfl⟩ (.cons ⟨_, rfl⟩ (.cons ⟨_, rfl⟩ .nil)))))))
    (case x_KEPT_BY_11 => k_is)
    (case lx_KEPT_BY_11 => k_is)
    (case zx_KEPT_BY_11 => exact DL.small_len (by decide))
    (case vx_KEPT_BY_11 => exact (.cons ⟨_, rfl⟩ (.cons ⟨_, rfl⟩ (.cons ⟨_, rfl⟩ (.cons ⟨_, rfl⟩ (.cons ⟨_, rfl⟩ (.cons ⟨_, rfl⟩ .nil)))))))
    (case x_KEPT_BY_12 => k_is)
    (case lx_KEPT_BY_12 => k_is)
    (case zx_KEPT_BY_12 => exact DL.small_len (by decide))
    (case vx_KEPT_BY_12 => exact (.cons ⟨_, rfl⟩ (.cons ⟨_, rfl⟩ (.cons ⟨_, rfl⟩ (.cons ⟨_, rfl⟩ .nil)))))
